/- The statement SerialParts. No condition beyond what the theorems state. -/
import Derived.Test.YtonkepjfnbcncaaSerial
import Derived.Test.YtonkepjfnbcncaaFew
import Derived.Deep.RegionLaw
import Derived.Deep.RegionHeldLaw
import Derived.Deep.Slices
import Derived.Deep.DeepCutAuto
namespace Go.Proofs.Ytonkepjfnbcncaa
open Go.RowKit Go.Lib
set_option maxRecDepth 100000
set_option maxHeartbeats 8000000
theorem step_append_any {P : Program} {w : World} {ops : Array Oper} {o : Oper} {a : Act} {K : Act → World → Prop} {Q : Exit → Act → World → Prop} {E : Prop} (hgd : o.guard = none) (s x : Operand) (t : TypeId)
    (ho : o.op = .call { callee := .builtin .append, args := #[s, x], argTypes := #[t, t] })
    (base : Nat) (e : TypeId) (i : TypeInfo) (z : Value) (size bytes : Nat) (ht : P.underlying t = some (.slice e)) (hi : P.info? e = some i) (hz : i.zero = some z)
    (hsize : i.size = size) (hby : i.bytes = bytes) (hzs : z.cells.size = size) (hsz : 0 < size)
    (v : Value) (n : Nat) (xs : List Value) (hs : a.eval s = v) (hown : w.ownsRow base e size v n xs)
    (B : Nat) (A : Option Addr) (m c : Nat) (news : List Value) (hx : a.eval x = .slice A m c) (hr : Reads w B size A m news) (h1 : ∀ u ∈ news, u.oneCell' = true)
    (h63 : n + m ≤ maxLen) (hbytes : (n + m) * bytes ≤ 140737488355328) (hbase : base ≤ w.heap.size)
    (h : ∀ v' w', w'.ownsRow base e size v' (n + m) (xs ++ news) → w.grownBy w' v.ownBlock → (v'.ownBlock = v.ownBlock ∨ v'.ownBlock = some w.heap.size) → K (a.put o.dst v') w') :
    if Region.wanted o (yielded ops a.tmps) = true then Oper.wp P o a w K Q else E := by
  have hw : Region.wanted o (yielded ops a.tmps) = true := by simp [Region.wanted, hgd]
  rw [if_pos hw]
  exact wp_append_any w s x t ho base e i z size bytes ht hi hz hsize hby hzs hsz v n xs hs hown B A m c news hx hr h1 h63 hbytes hbase h
theorem own_eW (W : World) (base g : Nat) (hb : base ≤ g) (h : W.heap[g]? = some (.cells #[] 31 (0, 0))) : W.ownsRow base 31 5 (.slice (some ⟨g, 0, none⟩) 0 0) 0 [] :=
  ⟨rfl, .inr ⟨g, 0, #[], rfl, hb, h, Nat.le_refl _, by unfold maxLen; omega, rfl, rfl⟩⟩
theorem heap_two (w : World) (o1 o2 : Obj) : ((w.alloc o1).alloc o2).heap[w.heap.size]? = some o1 := (Lib.alloc_old (w.alloc o1) o2 _ (by simp)).trans (heap_alloc_new w o1)
theorem heap_two' (w : World) (o1 o2 : Obj) : ((w.alloc o1).alloc o2).heap[w.heap.size + 1]? = some o2 := by
  have := heap_alloc_new (w.alloc o1) o2
  rwa [World.size_alloc] at this
theorem rowT_app (L M : List Tr) : rowT (L ++ M) = rowT L ++ rowT M := by unfold rowT; rw [List.flatMap_append]
theorem rowT_one (L : List Tr) : ∀ u ∈ rowT L, u.oneCell' = true := by
  intro u hu
  unfold rowT at hu
  rw [List.mem_flatMap] at hu
  obtain ⟨t, _, ht⟩ := hu
  exact cells_one t u ht
theorem add_addr (ad : Addr) (a b : Nat) : (ad.add a).add b = ad.add (a + b) := Go.Deep.add_add ad a b
theorem reads_takeT {P : Nat → Prop} {w : World} {B n : Nat} {A : Option Addr} {us : List Tr} (h : RdP P w 5 A n (rowT us)) (hP : ∀ b, P b → b < B) (k : Nat) (hk : k ≤ n) (hn : us.length = n) : Reads w B 5 A k (rowT (us.take k)) := by
  refine ⟨by rw [rowT_len, List.length_take]; omega, fun h0 => ?_⟩
  obtain ⟨ad, e, hb, hc⟩ := h.2 (by omega)
  refine ⟨ad, e, hP _ hb, fun j u hu => hc j u ?_⟩
  have e2 : rowT us = rowT (us.take k) ++ rowT (us.drop k) := by rw [← rowT_app, List.take_append_drop]
  rw [e2, List.getElem?_append_left (List.getElem?_eq_some_iff.1 hu).1]
  exact hu
theorem reads_dropT {P : Nat → Prop} {w : World} {B n : Nat} {ad : Addr} {us : List Tr} (h : RdP P w 5 (some ad) n (rowT us)) (hP : ∀ b, P b → b < B) (k : Nat) (hk : k ≤ n) (hn : us.length = n) : Reads w B 5 (some (ad.add (k * 5))) (n - k) (rowT (us.drop k)) := by
  refine ⟨by rw [rowT_len, List.length_drop]; omega, fun h0 => ?_⟩
  obtain ⟨ad', e, hb, hc⟩ := h.2 (by omega)
  cases e
  refine ⟨_, rfl, by rw [block_of_add]; exact hP _ hb, fun j u hu => ?_⟩
  rw [add_addr]
  refine hc _ u ?_
  have e2 : rowT us = rowT (us.take k) ++ rowT (us.drop k) := by rw [← rowT_app, List.take_append_drop]
  have e3 : (rowT (us.take k)).length = k * 5 := by rw [rowT_len, List.length_take]; rw [Nat.min_eq_left (by omega)]
  rw [e2, List.getElem?_append_right (by omega), e3, show k * 5 + j - k * 5 = j by omega]
  exact hu
theorem reads_nil (w : World) (B s : Nat) : Reads w B s none 0 [] := ⟨by simp, fun h => absurd h (Nat.lt_irrefl _)⟩
theorem readsX (W : World) (g : Nat) (h : W.heap[g]? = some (.cells #[.int .i64 3, .string ⟨#[120]⟩, .string ⟨#[]⟩, .slice none 0 0, .slice none 0 0] 31)) : Reads W W.heap.size 5 (some ⟨g, 0, none⟩) 1 (rowT [exX]) :=
  ⟨rfl, fun _ => ⟨_, rfl, (Array.getElem?_eq_some_iff.1 h).1, fun j u hu => by
    rw [addj, Lib.cell_of_heap h]
    have e : rowT [exX] = [.int .i64 3, .string ⟨#[120]⟩, .string ⟨#[]⟩, .slice none 0 0, .slice none 0 0] := rfl
    rw [e] at hu
    simpa using hu⟩⟩
end Go.Proofs.Ytonkepjfnbcncaa
namespace Go.Proofs.Ytonkepjfnbcncaa
open Go.RowKit Go.Lib
set_option maxRecDepth 100000
set_option maxHeartbeats 16000000
theorem ba_app (a b : List UInt8) : ba' a ++ ba' b = ba' (a ++ b) := by
  apply ByteArray.ext
  apply Array.ext'
  simp [ba']
theorem rem_ok (a : Int) (n : Nat) (hn : n ≤ 1048576) : ∃ (s1 : Int) (k : Nat), a.tmod ((n : Int) + 1) + (n : Int) = s1 ∧ IntKind.i64.wrap s1 = s1 ∧ IntKind.i64.wrap (s1 + 1) = s1 + 1 ∧ (s1 + 1).tmod ((n : Int) + 1) = (k : Int) ∧ k ≤ n := by
  have h1 := Int.natAbs_tmod a ((n : Int) + 1)
  have h2 := Nat.mod_lt a.natAbs (show 0 < ((n : Int) + 1).natAbs by omega)
  obtain ⟨r, hr⟩ : ∃ r, a.tmod ((n : Int) + 1) = r := ⟨_, rfl⟩
  rw [hr] at h1 ⊢
  have h3 : r.natAbs < ((n : Int) + 1).natAbs := by omega
  have h4 : 0 ≤ r + (n : Int) + 1 := by omega
  refine ⟨r + (n : Int), ((r + (n : Int) + 1) % ((n : Int) + 1)).toNat, rfl, by rw [IntKind.wrap_i64]; omega, by rw [IntKind.wrap_i64]; omega, ?_, ?_⟩
  · rw [Int.tmod_eq_emod_of_nonneg h4]
    have := Int.emod_nonneg (r + (n : Int) + 1) (show ((n : Int) + 1) ≠ 0 by omega)
    omega
  · have := Int.emod_lt_of_pos (r + (n : Int) + 1) (show (0 : Int) < (n : Int) + 1 by omega)
    have := Int.emod_nonneg (r + (n : Int) + 1) (show ((n : Int) + 1) ≠ 0 by omega)
    omega
def sumX (us : List Tr) : List UInt8 := (plL us).flatMap fun t => (wT t).2
def okX (us : List Tr) : Bool := (plL us).all fun t => (wT t).1
theorem parts_walk (A : Option Addr) (n c : Nat) (at0 : Int) (us : List Tr) (w : World)
    (HAW : Hid (∀ w1 : World, Below w.heap.size w w1 → Calls Try.prog 4 #[] w1 fun e w' => e = .returned (.bool true) ∧ Below w1.heap.size w1 w'))
    (HF : Hid (∀ w1 : World, Below w.heap.size w w1 → Calls Try.prog 5 #[.int .i64 2000, .slice A n c] w1 fun e w' => ∃ f : Bool, e = .returned (.bool f) ∧ Below w1.heap.size w1 w'))
    (HS : Hid (∀ w1 : World, Below w.heap.size w w1 → Calls Try.prog 6 #[.slice A n c] w1 fun e w' => e = .returned (.tuple #[.string (ba' (if okX us = true then sumX us else [])), .int .i64 (if okX us = true then 0 else 57)]) ∧ Below w1.heap.size w1 w'))
    (HO : Hid (∀ (w1 : World) (t : Tr), Below w.heap.size w w1 → t ∈ us → Calls Try.prog 6 #[.slice (some ⟨w1.heap.size, 0, none⟩) 1 1] (w1.alloc (.cells t.cells.toArray 31)) fun e w' => e = .returned (.tuple #[.string (ba' (if (wT t.pl).1 = true then (wT t.pl).2 else [])), .int .i64 (if (wT t.pl).1 = true then 0 else 57)]) ∧ Below w1.heap.size w1 w'))
    (HX : Hid (∀ (w1 : World) (A' : Option Addr) (c' k : Nat), Below w.heap.size w w1 → k ≤ n → RdP (fun b => b < w1.heap.size) w1 5 A' (n + 1) (rowT (us.take k ++ [exX] ++ us.drop k)) → Calls Try.prog 6 #[.slice A' (n + 1) c'] w1 fun e w' => e = .returned (.tuple #[.string (ba' []), .int .i64 57]) ∧ Below w1.heap.size w1 w'))
    (HR : Hid (∀ w1 : World, Below w.heap.size w w1 → RdP (fun b => b < w.heap.size) w1 5 A n (rowT us))) (HBL : Hid (∀ i, ((us.take i).flatMap fun t => (wT t.pl).2).length ≤ 8388608)) (HTL : Hid (∀ t ∈ us, (wT t.pl).2.length ≤ 8388608)) (hn : us.length = n) (hnc : n ≤ c) (hA0 : A = none → c = 0) (hc : c ≤ maxLen) (_ha : -9223372036854775808 ≤ at0 ∧ at0 ≤ 9223372036854775807) :
    Calls Try.prog 3 #[.slice A n c, .int .i64 at0] w fun e w' => e = .returned (.bool true) ∧ Below w.heap.size w w' := by
  obtain ⟨i3, hi3, hz30, hz31, hz32⟩ := info_parts tree_info
  have hNN := Lib.hid hn
  go_enter Try.func3, Try.ntmps3
  go_wp2_with fail
  refine (HAW.out _ (Below.refl _ _)).mono ?_
  rintro e w1 ⟨rfl, hb1⟩
  have HB1 := Lib.hid hb1
  clear hb1
  by_cases h20 : n ≤ 20
  · have g0 : decide ((n : Int) > 20) = false := by simp; omega
    have g0' : decide (20 < (n : Int)) = false := by simp; omega
    have g0'' : decide (20 < n) = false := by simp; omega
    go_wp2_with fail
    refine (HF.out _ HB1.out).mono ?_
    rintro e w2 ⟨f, rfl, hb2⟩
    have HB2 := Lib.hid (bt HB1.out hb2)
    clear hb2 HF
    cases f with
    | false =>
      go_wp2_with fail
      refine (HAW.out _ HB2.out).mono ?_
      rintro e w3 ⟨rfl, hb3⟩
      have HB3 := Lib.hid (bt HB2.out hb3)
      clear hb3
      go_wp2
      go_ret
      exact ⟨rfl, HB3.out⟩
    | true =>
      have HAL : Hid (okX us = false → (if okX us = true then sumX us else ([] : List UInt8)) = [] ∧ (if okX us = true then (0 : Int) else 57) = 57) := Lib.hid fun h => by rw [h]; exact ⟨rfl, rfl⟩
      have HALT : Hid (okX us = true → (if okX us = true then sumX us else ([] : List UInt8)) = sumX us ∧ (if okX us = true then (0 : Int) else 57) = 0) := Lib.hid fun h => by rw [h]; exact ⟨rfl, rfl⟩
      obtain ⟨X, hX⟩ : ∃ X, (if okX us = true then sumX us else ([] : List UInt8)) = X := ⟨_, rfl⟩
      obtain ⟨E, hE⟩ : ∃ E, (if okX us = true then (0 : Int) else 57) = E := ⟨_, rfl⟩
      rw [hX, hE] at HS HAL HALT
      clear hX hE HAW
      go_wp2
      go_loopw [5, 6] (fun s5 s6 wx => ∃ (i : Nat) (acc : List UInt8), s5 = .string (ba' acc) ∧ s6 = .int .i64 (i : Int) ∧ i ≤ n ∧ Hid (acc = (us.take i).flatMap (fun t => (wT t.pl).2) ∧ ∀ t ∈ us.take i, (wT t.pl).1 = true) ∧ Below w.heap.size w wx) (fun _ s6 _ => n - (RowKit.intOf s6).toNat)
      case atStart => exact ⟨0, [], rfl, rfl, by omega, Lib.hid ⟨by simp, by simp⟩, HB2.out⟩
      case round =>
        obtain ⟨i, acc, rfl, rfl, hi, hacc, hB⟩ := hrel
        by_cases hlt : i < n
        · have g1 : decide ((i : Int) < (n : Int)) = true := by simp; omega
          have g1' : decide (i < n) = true := by simpa using hlt
          have hil : i < us.length := by rw [hNN.out]; exact hlt
          obtain ⟨t, ht⟩ : ∃ t, us[i]? = some t := ⟨_, List.getElem?_eq_getElem hil⟩
          have htm := List.mem_of_getElem? ht
          have hts : us.take (i + 1) = us.take i ++ [t] := by rw [List.take_add_one, ht]; rfl
          have HTS := Lib.hid hts
          have hOt := HO.out wr t hB htm
          have hka := HR.out wr hB
          have hzr := hB.size
          obtain ⟨tf, htf⟩ : ∃ tf, (wT t.pl).1 = tf := ⟨_, rfl⟩
          obtain ⟨tx, htx⟩ : ∃ tx, (wT t.pl).2 = tx := ⟨_, rfl⟩
          rw [htf, htx] at hOt
          have HTT := Lib.hid (⟨htm, htf, htx⟩ : _ ∧ _ ∧ _)
          obtain ⟨k', n', v', A', ac', ps', K', kc', ks'⟩ := t
          obtain ⟨ad, rfl, hPad, d0, d1, d2, d3, d4⟩ := kid_at hka ht hlt
          have hb0 : (ad.add (i * 5)).block < wr.heap.size := by rw [block_of_add]; omega
          have hcl : (Tr.mk k' n' v' A' ac' ps' K' kc' ks').cells.toArray = #[.int .i64 k', .string (ba' n'), .string (ba' v'), .slice A' ps'.length ac', .slice K' ks'.length kc'] := rfl
          rw [hcl] at hOt
          obtain ⟨np', hnp'⟩ : ∃ q, ps'.length = q := ⟨_, rfl⟩
          obtain ⟨nk', hnk'⟩ : ∃ q, ks'.length = q := ⟨_, rfl⟩
          rw [hnp', hnk'] at hOt
          rw [hnp'] at d3
          rw [hnk'] at d4
          clear hka ht htm htf htx hts hil hnp' hnk' hcl
          cases tf with
          | false =>
            have hbad : okX us = false := by
              unfold okX
              rw [List.all_eq_false]
              exact ⟨_, by rw [plL_map]; exact List.mem_map_of_mem HTT.out.1, by rw [HTT.out.2.1]; simp⟩
            obtain ⟨hX0, hE0⟩ := HAL.out hbad
            subst hX0
            subst hE0
            simp only [Bool.false_eq_true, if_false] at hOt
            have e0 : (ba' []).toList.isEmpty = true := by rw [toList_ba]; rfl
            have HOT := Lib.hid hOt
            clear hOt hbad
            go_wp2_with fail
            refine HOT.out.mono ?_
            rintro e w3 ⟨rfl, hb3⟩
            have HB3 := Lib.hid (bt hB hb3)
            clear hb3 HOT d0 d1 d2 d3 d4
            go_wp2_with fail
            refine (HS.out _ HB3.out).mono ?_
            rintro e w4 ⟨rfl, hb4⟩
            have HB4 := Lib.hid (bt HB3.out hb4)
            clear hb4
            go_wp2
            go_ret
            exact ⟨rfl, HB4.out⟩
          | true =>
            simp only [if_true] at hOt
            have hcat : ¬ (9223372036854775807 < (ba' acc).size + (ba' tx).size) := by
              have h1 := HBL.out i
              rw [← hacc.out.1] at h1
              have h2 := HTL.out _ HTT.out.1
              rw [HTT.out.2.2] at h2
              rw [size_ba, size_ba]; omega
            have HOT := Lib.hid hOt
            clear hOt
            go_wp2_with fail
            refine HOT.out.mono ?_
            rintro e w3 ⟨rfl, hb3⟩
            have HB3 := Lib.hid (bt hB hb3)
            clear hb3 HOT d0 d1 d2 d3 d4
            go_wp2
            go_roundw
            case rel => exact ⟨i + 1, acc ++ tx, by rw [← ba_app], by go_num, by omega, Lib.hid (by
              obtain ⟨h1, h2⟩ := hacc.out
              obtain ⟨_, h3, h4⟩ := HTT.out
              rw [HTS.out]
              refine ⟨by rw [List.flatMap_append, h1]; simp [h4], fun t ht => ?_⟩
              rcases List.mem_append.1 ht with ht | ht
              · exact h2 t ht
              · rw [List.mem_singleton.1 ht]; exact h3), HB3.out⟩
            case measure => simp [RowKit.intOf]; omega
        · obtain rfl : i = n := by omega
          have g1 : decide ((i : Int) < (i : Int)) = false := by simp
          have hta : us.take i = us := List.take_of_length_le (by rw [hNN.out]; omega)
          obtain ⟨ha1, ha2⟩ := hacc.out
          rw [hta] at ha1 ha2
          have hgood : okX us = true := by
            unfold okX
            rw [List.all_eq_true]
            intro t ht
            rw [plL_map, List.mem_map] at ht
            obtain ⟨u, hu, rfl⟩ := ht
            exact ha2 u hu
          have hsum : sumX us = acc := by unfold sumX; rw [plL_map, List.flatMap_map, ha1]
          obtain ⟨hX0, hE0⟩ := HALT.out hgood
          rw [hsum] at hX0
          subst hX0
          subst hE0
          clear hgood hsum ha1 ha2 hta
          go_wp2_with fail
          refine (HS.out _ hB).mono ?_
          rintro e w3 ⟨rfl, hb3⟩
          have HB3 := Lib.hid (bt hB hb3)
          clear hb3
          obtain ⟨s1, k, hs1, e1, e2, hk, hki⟩ := rem_ok at0 i (by omega)
          go_upto_region 14 with fail
          have hR3 : RdP (fun b => b < w.heap.size) w3 5 A i (rowT us) := HR.out _ HB3.out
          have hz3 := HB3.out.size
          go_cut [14] (fun s14 wx => ∃ A' c', s14 = .slice A' (i + 1) c' ∧ Hid (RdP (fun b => b < wx.heap.size) wx 5 A' (i + 1) (rowT (us.take k ++ [exX] ++ us.drop k))) ∧ Below w3.heap.size w3 wx)
          case first =>
            rename_i J K' hJ hK'
            cases A with
            | none =>
              have hi0 : i = 0 := by
                rcases Nat.eq_zero_or_pos i with h | h
                · exact h
                · obtain ⟨ad, e, _⟩ := hR3.2 h; cases e
              obtain rfl : c = 0 := hA0 rfl
              subst hi0
              obtain rfl : k = 0 := by omega
              obtain rfl : us = [] := List.length_eq_zero_iff.1 hNN.out
              go_region_law ((first
                | (refine step_append_any (by rfl) (.tmp 79) (.tmp 82) 22 (by rfl) w3.heap.size 31 i3 _ 5 88 Try.underlying22 hi3 hz30 hz31 hz32 (by rfl) (by omega) _ 0 [] (by rfl) (by first | exact own_eW _ _ _ (Nat.le_refl _) (heap_alloc_new w3 _) | exact own_eW _ _ _ (Nat.le_refl _) (heap_two w3 _ _) | exact own_eW _ _ _ (Nat.le_succ _) (heap_two' w3 _ _)) w3.heap.size none 0 _ [] (by rfl) (reads_nil _ _ _) (fun u hu => nomatch hu) (by simp only [maxLen]; omega) (by omega) (show Below w3.heap.size w3 _ from (by repeat (with_reducible (first | exact Below.refl _ _ | assumption | apply ba | apply bd | apply bdr | (refine bs ?_ (by first | assumption | (simp; done) | (simp; omega))) | (refine bt ?_ (by assumption)))))).size ?_; intro v5 w5 hown5 hg5 hat5; have B5 : Below w3.heap.size w3 w5 := (show Below w3.heap.size w3 _ from (by repeat (with_reducible (first | exact Below.refl _ _ | assumption | apply ba | apply bd | apply bdr | (refine bs ?_ (by first | assumption | (simp; done) | (simp; omega))) | (refine bt ?_ (by assumption)))))).grown hg5 (show Below w3.heap.size w3 _ from (by repeat (with_reducible (first | exact Below.refl _ _ | assumption | apply ba | apply bd | apply bdr | (refine bs ?_ (by first | assumption | (simp; done) | (simp; omega))) | (refine bt ?_ (by assumption)))))).size (fun q hq => by cases hq; first | exact Nat.le_refl _ | exact Nat.le_succ _); (first | (have hX5 : w5.heap[w3.heap.size + 1]? = some (.cells #[.int .i64 3, .string ⟨#[120]⟩, .string ⟨#[]⟩, .slice none 0 0, .slice none 0 0] 31) := (hg5.block _ (by simp) (fun e => by have e' : some (w3.heap.size + 1) = some w3.heap.size := e; simp at e')).trans (heap_two' w3 _ _)) | (have hX5 : w5.heap[w3.heap.size]? = some (.cells #[.int .i64 3, .string ⟨#[120]⟩, .string ⟨#[]⟩, .slice none 0 0, .slice none 0 0] 31) := (hg5.block _ (by simp; omega) (fun e => by have e' : some w3.heap.size = some (w3.heap.size + 1) := e; simp at e')).trans (heap_two w3 _ _)) | skip); have HW5 := Lib.hid (⟨hown5, B5⟩ : _ ∧ _); have hz5 := B5.size; clear hown5 hg5 hat5 B5)
                | (refine step_append_any (by rfl) (.tmp 83) (.tmp 85) 22 (by rfl) w3.heap.size 31 i3 _ 5 88 Try.underlying22 hi3 hz30 hz31 hz32 (by rfl) (by omega) v5 (0 + 0) _ (by rfl) (by first | exact HW5.out.1 | exact HW5.out.1.alloc _) _ _ 1 _ (rowT [exX]) (by rfl) (by first | exact readsX _ _ (heap_alloc_new w5 _) | exact readsX _ _ hX5) (rowT_one _) (by simp only [maxLen]; omega) (by omega) (by first | exact hz5 | (exact Nat.le_trans hz5 (by simp))) ?_; intro v6 w6 hown6 hg6 hat6; have B6 : Below w3.heap.size w3 w6 := (show Below w3.heap.size w3 _ from (by first | exact HW5.out.2 | exact ba HW5.out.2)).grown hg6 (by first | exact hz5 | (exact Nat.le_trans hz5 (by simp))) (fun q hq => (own_lt HW5.out.1 hq).1); have HW6 := Lib.hid (⟨hown6, B6⟩ : _ ∧ _); have hz6 := B6.size; clear hown6 hg6 hat6 B6)
                | (refine step_append_any (by rfl) (.tmp 86) (.tmp 89) 22 (by rfl) w3.heap.size 31 i3 _ 5 88 Try.underlying22 hi3 hz30 hz31 hz32 (by rfl) (by omega) v6 (0 + 0 + 1) _ (by rfl) HW6.out.1 w3.heap.size none 0 _ [] (by rfl) (reads_nil _ _ _) (fun u hu => nomatch hu) (by simp only [maxLen]; omega) (by omega) hz6 ?_; intro v7 w7 hown7 hg7 hat7; have B7 : Below w3.heap.size w3 w7 := HW6.out.2.grown hg7 hz6 (fun q hq => (own_lt HW6.out.1 hq).1); have HW7 := Lib.hid (⟨hown7, B7⟩ : _ ∧ _); clear hown7 hg7 hat7 B7)))
              all_goals (try go_simp)
              all_goals (first | (go_wp2_with fail; go_meet) | go_meet)
              all_goals
                obtain ⟨A7, c7, rfl⟩ := own_slice HW7.out.1
                obtain ⟨A8, c8, e8, _, hrd⟩ := own_rd HW7.out.1
                cases e8
                refine ⟨A7, c7, rfl, Lib.hid ?_, HW7.out.2⟩
                have hrd' := hrd.keep (Q := fun b => b < w7.heap.size) (fun b hb => (own_lt HW7.out.1 hb).2) (fun p _ => rfl)
                simpa [List.append_assoc] using hrd'
            | some ad =>
              have hkc : k ≤ c := by omega
              have hks : (k : Int) ≤ (c : Int) := by omega
              have hks2 : (k : Int) ≤ (i : Int) := by omega
              have HRD : Hid (∀ W, Below w3.heap.size w3 W → Reads W w3.heap.size 5 (some ad) k (rowT (us.take k))) := Lib.hid fun W h => reads_takeT (hR3.keep (Q := fun b => b < w.heap.size) (fun _ h => h) (fun p hp => h.cell (show p.block < _ by omega))) (fun b hb => by omega) k hki hNN.out
              have HRE : Hid (∀ W, Below w3.heap.size w3 W → Reads W w3.heap.size 5 (if c = k then some ad else some (ad.add (k * 5))) (i - k) (rowT (us.drop k))) := Lib.hid fun W h => by
                by_cases hck : c = k
                · exact ⟨by rw [rowT_len, List.length_drop, hNN.out], fun h0 => by omega⟩
                · rw [if_neg hck]
                  exact reads_dropT (hR3.keep (Q := fun b => b < w.heap.size) (fun _ h => h) (fun p hp => h.cell (show p.block < _ by omega))) (fun b hb => by omega) k hki hNN.out
              clear hR3
              go_region_law ((first
                | (refine step_append_any (by rfl) (.tmp 79) (.tmp 82) 22 (by rfl) w3.heap.size 31 i3 _ 5 88 Try.underlying22 hi3 hz30 hz31 hz32 (by rfl) (by omega) _ 0 [] (by rfl) (by first | exact own_eW _ _ _ (Nat.le_refl _) (heap_alloc_new w3 _) | exact own_eW _ _ _ (Nat.le_refl _) (heap_two w3 _ _) | exact own_eW _ _ _ (Nat.le_succ _) (heap_two' w3 _ _)) w3.heap.size (some ad) k _ (rowT (us.take k)) (by rfl) (HRD.out _ (by repeat (with_reducible (first | exact Below.refl _ _ | assumption | apply ba | apply bd | apply bdr | (refine bs ?_ (by first | assumption | (simp; done) | (simp; omega))) | (refine bt ?_ (by assumption)))))) (rowT_one _) (by simp only [maxLen]; omega) (by omega) (show Below w3.heap.size w3 _ from (by repeat (with_reducible (first | exact Below.refl _ _ | assumption | apply ba | apply bd | apply bdr | (refine bs ?_ (by first | assumption | (simp; done) | (simp; omega))) | (refine bt ?_ (by assumption)))))).size ?_; intro v5 w5 hown5 hg5 hat5; have B5 : Below w3.heap.size w3 w5 := (show Below w3.heap.size w3 _ from (by repeat (with_reducible (first | exact Below.refl _ _ | assumption | apply ba | apply bd | apply bdr | (refine bs ?_ (by first | assumption | (simp; done) | (simp; omega))) | (refine bt ?_ (by assumption)))))).grown hg5 (show Below w3.heap.size w3 _ from (by repeat (with_reducible (first | exact Below.refl _ _ | assumption | apply ba | apply bd | apply bdr | (refine bs ?_ (by first | assumption | (simp; done) | (simp; omega))) | (refine bt ?_ (by assumption)))))).size (fun q hq => by cases hq; first | exact Nat.le_refl _ | exact Nat.le_succ _); (first | (have hX5 : w5.heap[w3.heap.size + 1]? = some (.cells #[.int .i64 3, .string ⟨#[120]⟩, .string ⟨#[]⟩, .slice none 0 0, .slice none 0 0] 31) := (hg5.block _ (by simp) (fun e => by have e' : some (w3.heap.size + 1) = some w3.heap.size := e; simp at e')).trans (heap_two' w3 _ _)) | (have hX5 : w5.heap[w3.heap.size]? = some (.cells #[.int .i64 3, .string ⟨#[120]⟩, .string ⟨#[]⟩, .slice none 0 0, .slice none 0 0] 31) := (hg5.block _ (by simp; omega) (fun e => by have e' : some w3.heap.size = some (w3.heap.size + 1) := e; simp at e')).trans (heap_two w3 _ _)) | skip); have HW5 := Lib.hid (⟨hown5, B5⟩ : _ ∧ _); have hz5 := B5.size; clear hown5 hg5 hat5 B5)
                | (refine step_append_any (by rfl) (.tmp 83) (.tmp 85) 22 (by rfl) w3.heap.size 31 i3 _ 5 88 Try.underlying22 hi3 hz30 hz31 hz32 (by rfl) (by omega) v5 (0 + k) _ (by rfl) (by first | exact HW5.out.1 | exact HW5.out.1.alloc _) _ _ 1 _ (rowT [exX]) (by rfl) (by first | exact readsX _ _ (heap_alloc_new w5 _) | exact readsX _ _ hX5) (rowT_one _) (by simp only [maxLen]; omega) (by omega) (by first | exact hz5 | (exact Nat.le_trans hz5 (by simp))) ?_; intro v6 w6 hown6 hg6 hat6; have B6 : Below w3.heap.size w3 w6 := (show Below w3.heap.size w3 _ from (by first | exact HW5.out.2 | exact ba HW5.out.2)).grown hg6 (by first | exact hz5 | (exact Nat.le_trans hz5 (by simp))) (fun q hq => (own_lt HW5.out.1 hq).1); have HW6 := Lib.hid (⟨hown6, B6⟩ : _ ∧ _); have hz6 := B6.size; clear hown6 hg6 hat6 B6)
                | (refine step_append_any (by rfl) (.tmp 86) (.tmp 89) 22 (by rfl) w3.heap.size 31 i3 _ 5 88 Try.underlying22 hi3 hz30 hz31 hz32 (by rfl) (by omega) v6 (0 + k + 1) _ (by rfl) HW6.out.1 w3.heap.size (if c = k then some ad else some (ad.add (k * 5))) (i - k) _ (rowT (us.drop k)) (by rfl) (HRE.out _ HW6.out.2) (rowT_one _) (by simp only [maxLen]; omega) (by omega) hz6 ?_; intro v7 w7 hown7 hg7 hat7; have B7 : Below w3.heap.size w3 w7 := HW6.out.2.grown hg7 hz6 (fun q hq => (own_lt HW6.out.1 hq).1); have HW7 := Lib.hid (⟨hown7, B7⟩ : _ ∧ _); clear hown7 hg7 hat7 B7)))
              all_goals (try go_simp)
              all_goals (first | (go_wp2_with fail; go_meet) | (refine hK' _ _ (Met.intro (hJ _ _ ?_)); (repeat apply Exists.intro); refine ⟨?_, rfl⟩))
              all_goals
                obtain ⟨A7, c7, rfl⟩ := own_slice HW7.out.1
                obtain ⟨A8, c8, e8, _, hrd⟩ := own_rd HW7.out.1
                cases e8
                refine ⟨A7, c7, by rw [show 0 + k + 1 + (i - k) = i + 1 by omega], Lib.hid ?_, HW7.out.2⟩
                have hrd' := hrd.keep (Q := fun b => b < w7.heap.size) (fun b hb => (own_lt HW7.out.1 hb).2) (fun p _ => rfl)
                rw [show 0 + k + 1 + (i - k) = i + 1 by omega] at hrd'
                rw [rowT_app, rowT_app]
                simpa [List.append_assoc] using hrd'
          case rest =>
            obtain ⟨A', c', rfl, hR', hb'⟩ := hcut
            have HB4 := Lib.hid (bt HB3.out hb')
            have HX1 := Lib.hid (HX.out wc A' c' k HB4.out hki hR'.out)
            have e0 : (ba' []).toList.isEmpty = true := by rw [toList_ba]; rfl
            clear hR' hb' HX hR3
            go_wp2_with fail
            refine HX1.out.mono ?_
            rintro e w5 ⟨rfl, hb5⟩
            have HB5 := Lib.hid (bt HB4.out hb5)
            clear hb5 HX1
            go_wp2
            go_ret
            exact ⟨rfl, HB5.out⟩
  · have g0 : decide ((n : Int) > 20) = true := by simp; omega
    have g0' : decide (20 < (n : Int)) = true := by simp; omega
    have g0'' : decide (20 < n) = true := by simp; omega
    go_wp2_with fail
    refine (HAW.out _ HB1.out).mono ?_
    rintro e w2 ⟨rfl, hb2⟩
    have HB2 := Lib.hid (bt HB1.out hb2)
    clear hb2
    go_wp2
    go_ret
    exact ⟨rfl, HB2.out⟩
end Go.Proofs.Ytonkepjfnbcncaa
namespace Go.Proofs.Ytonkepjfnbcncaa
open Go.RowKit Go.Lib
set_option maxRecDepth 100000
theorem all_forms (us : List Tr) : (wL (plL us)).1 = okX us := wL_all _
theorem all_texts (us : List Tr) (h : okX us = true) : (wL (plL us)).2 = sumX us := by
  unfold okX at h
  rw [List.all_eq_true] at h
  exact wL_flat _ h
theorem bulkL_app (a b : List PT) : bulkL (a ++ b) = bulkL a + bulkL b := by
  induction a with
  | nil => rw [List.nil_append, bulkL]; omega
  | cons t a ih => rw [List.cons_append, bulkL, bulkL, ih]; omega
theorem sum_len (L : List PT) : (L.flatMap fun t => (wT t).2).length ≤ 8 * bulkL L := by
  induction L with
  | nil => simp
  | cons t L ih =>
    have := wT_len t
    rw [List.flatMap_cons, List.length_append, bulkL]
    omega
theorem serparts_law (A : Option Addr) (c : Nat) (at0 : Int) (us : List Tr) (m : Int) (w : World) (hR : RdP (fun b => b < w.heap.size) w 5 A us.length (rowT us)) (hI : ∀ t ∈ us, t.In (fun b => b < w.heap.size) w) (hl : ∀ t ∈ us, t.pl.lens) (hb : bulkL (plL us) + 2 ≤ 1048576)
    (hm : w.cell? ⟨0, 0, none⟩ = some (.int .i64 m)) (hnc : us.length ≤ c) (hc : c ≤ maxLen) (hA0 : A = none → c = 0) (ha : -9223372036854775808 ≤ at0 ∧ at0 ≤ 9223372036854775807) :
    Calls Try.prog 3 #[.slice A us.length c, .int .i64 at0] w fun e w' => e = .returned (.bool true) ∧ Below w.heap.size w w' := by
  have h0 : 0 < w.heap.size := World.block_lt_of_cell? w ⟨0, 0, none⟩ hm
  have hmB : ∀ w1 : World, Below w.heap.size w w1 → w1.cell? ⟨0, 0, none⟩ = some (.int .i64 m) := fun w1 hb1 => (hb1.cell (p := ⟨0, 0, none⟩) h0).trans hm
  have hRB : ∀ w1 : World, Below w.heap.size w w1 → RdP (fun b => b < w1.heap.size) w1 5 A us.length (rowT us) := fun w1 hb1 => hR.keep (fun b h => Nat.lt_of_lt_of_le h hb1.size) (fun p hp => hb1.cell hp)
  have hIB : ∀ (w1 : World), Below w.heap.size w w1 → ∀ t ∈ us, t.In (fun b => b < w1.heap.size) w1 := fun w1 hb1 t ht => (hI t ht).keep (fun b h => Nat.lt_of_lt_of_le h hb1.size) (fun p hp => hb1.cell hp)
  have hn6 : us.length ≤ 1048576 := by have := bulkL_len (plL us); rw [plL_len] at this; omega
  have hbt : ∀ t ∈ us, t.pl.bulk ≤ bulkL (plL us) := fun t ht => bulkL_mem _ _ (by rw [plL_map]; exact List.mem_map_of_mem ht)
  refine parts_walk A us.length c at0 us w (Lib.hid fun w1 hb1 => awake_any m w1 (hmB w1 hb1)) (Lib.hid fun w1 hb1 => few_row A us.length c us w1 (hRB w1 hb1) rfl (inL_iff.2 (hIB w1 hb1)) hl hn6) (Lib.hid fun w1 hb1 => ?_) (Lib.hid fun w1 t hb1 ht => ?_) (Lib.hid fun w1 A' c' k hb1 hk hR1 => ?_)
    (Lib.hid fun w1 hb1 => hR.keep (fun _ h => h) (fun p hp => hb1.cell hp)) (Lib.hid fun i => ?_) (Lib.hid fun t ht => ?_) rfl hnc hA0 hc ha
  · have := serial_any A us.length c us m w1 (hRB w1 hb1) rfl (inL_iff.2 (hIB w1 hb1)) (by omega) (hmB w1 hb1)
    rw [all_forms] at this
    by_cases h : okX us = true
    · rw [if_pos h, if_pos h] at this ⊢
      rw [all_texts us h] at this
      exact this
    · rw [if_neg h, if_neg h] at this ⊢
      exact this
  · have hb2 : Below w1.heap.size w1 (w1.alloc (.cells t.cells.toArray 31)) := ba (Below.refl _ _)
    have hw := wL_one t.pl
    have hpl : plL [t] = [t.pl] := by rw [plL, plL]
    have := serial_any (some ⟨w1.heap.size, 0, none⟩) 1 1 [t] m (w1.alloc (.cells t.cells.toArray 31)) ⟨by rw [rowT_len]; rfl, fun _ => ⟨_, rfl, by simp, fun j u hu => by
        rw [addj]
        refine row_new w1 t.cells 31 _ j u rfl ?_
        have e : rowT [t] = t.cells := by unfold rowT; simp
        rw [← e]; exact hu⟩⟩ rfl (by rw [InL, InL]; exact ⟨(hIB w1 hb1 t ht).keep (fun b h => by simp; omega) (fun p hp => hb2.cell hp), trivial⟩) (by rw [hpl, bulkL, bulkL]; have := hbt t ht; omega) ((hb2.cell (p := ⟨0, 0, none⟩) (by have := hb1.size; show 0 < _; omega)).trans (hmB w1 hb1))
    rw [hpl, hw.1, hw.2] at this
    refine this.mono ?_
    rintro e w' ⟨rfl, h3⟩
    exact ⟨rfl, bt hb2 h3⟩
  · have hlen : (us.take k ++ [exX] ++ us.drop k).length = us.length + 1 := by
      simp only [List.length_append, List.length_take, List.length_drop, List.length_cons, List.length_nil]
      omega
    have hpl : plL (us.take k ++ [exX] ++ us.drop k) = plL (us.take k) ++ plL [exX] ++ plL (us.drop k) := by simp only [plL_map, List.map_append]
    have hbk : bulkL (plL (us.take k ++ [exX] ++ us.drop k)) ≤ 1048576 := by
      have h1 : bulkL (plL us) = bulkL (plL (us.take k)) + bulkL (plL (us.drop k)) := by
        rw [← bulkL_app]
        congr 1
        simp only [plL_map]
        rw [← List.map_append, List.take_append_drop]
      have h2 : bulkL (plL [exX]) = 2 := by decide
      rw [hpl, bulkL_app, bulkL_app, h2]
      omega
    have hf : okX (us.take k ++ [exX] ++ us.drop k) = false := by
      unfold okX
      rw [List.all_eq_false]
      refine ⟨exX.pl, by rw [plL_map]; simp, by decide⟩
    have := serial_any A' (us.length + 1) c' (us.take k ++ [exX] ++ us.drop k) m w1 hR1 hlen (inL_iff.2 fun t ht => by
      rcases List.mem_append.1 ht with ht | ht
      · rcases List.mem_append.1 ht with ht | ht
        · exact hIB w1 hb1 t (List.mem_of_mem_take ht)
        · rw [List.mem_singleton.1 ht]; exact exX_in _ _
      · exact hIB w1 hb1 t (List.mem_of_mem_drop ht)) hbk (hmB w1 hb1)
    rw [all_forms, hf] at this
    exact this
  · have h1 := sum_len (plL (us.take i))
    have h2 : bulkL (plL (us.take i)) ≤ bulkL (plL us) := by
      have h1 : bulkL (plL us) = bulkL (plL (us.take i)) + bulkL (plL (us.drop i)) := by
        rw [← bulkL_app]
        congr 1
        simp only [plL_map]
        rw [← List.map_append, List.take_append_drop]
      omega
    have h3 : (plL (us.take i)).flatMap (fun t => (wT t).2) = (us.take i).flatMap fun t => (wT t.pl).2 := by rw [plL_map, List.flatMap_map]
    rw [← h3]
    omega
  · have h1 := wT_len t.pl
    have h2 := hbt t ht
    omega
end Go.Proofs.Ytonkepjfnbcncaa
