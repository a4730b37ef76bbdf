/- The statement CharBack answers true at all numbers and every text, in every world that holds the two tables. No condition beyond what the theorems state. -/
import Derived.Test.YtklkodifbdpihaaDoorMathK
import Derived.Test.YtklkodifbdpihaaDoorTextAny
import Derived.Laws.AppendOwnNone
namespace Go.Proofs.YtklkodifbdpihaaDoor
open Go.RowKit Go.Lib
set_option maxRecDepth 100000
theorem empty_own (w w1 : World) (hb : w.heap.size ≤ w1.heap.size) : (w1.alloc (.cells #[] 3)).ownsRow w.heap.size 3 1 (.slice (some ⟨w1.heap.size, 0, none⟩) 0 0) 0 [] :=
  ⟨rfl, .inr ⟨w1.heap.size, 0, #[], rfl, hb, heap_alloc_new w1 _, Nat.le_refl _, by unfold maxLen; omega, rfl, rfl⟩⟩
theorem src_cells {w W : World} {ad : Addr} {n : Nat} {xs : List Int} (h : intsBelow w (some ad) n xs) (hb : Below w.heap.size w W) (o : Obj) : ∀ j u, (xs.map (Value.int .i64))[j]? = some u → (W.alloc o).cell? (ad.add j) = some u := by
  intro j u hj
  have hjn : j < n := by
    rcases Nat.lt_or_ge j n with h' | h'
    · exact h'
    · rw [List.getElem?_eq_none (by rw [List.length_map, h.1]; exact h')] at hj; cases hj
  obtain ⟨g, off, e, hg, hc⟩ := h.2 j hjn
  injection e with e
  subst e
  have hplain : (⟨g, off, none⟩ : Addr).add j = ⟨g, off + j, none⟩ := by unfold Addr.add; split <;> simp_all
  rw [hplain, World.cell?_alloc_past _ _ _ (Nat.lt_of_lt_of_le hg hb.size), hb.cell (p := ⟨g, off + j, none⟩) hg, hc]
  rw [List.getElem?_map, List.getElem?_eq_getElem (by rw [h.1]; exact hjn)] at hj
  rw [List.getD_eq_getElem?_getD, List.getElem?_eq_getElem (by rw [h.1]; exact hjn)]
  exact hj
theorem fl_len : ∀ (rs : List Nat), (∀ r ∈ rs, runeOk r) → (fl rs).length ≤ 4 * rs.length
  | [], _ => Nat.le_refl _
  | r :: t, h => by
    have e : fl (r :: t) = enc r ++ fl t := by simp [fl]
    have h1 := enc_length r (h r (by simp))
    have h2 := fl_len t fun x hx => h x (by simp [hx])
    rw [e, List.length_append, List.length_cons]
    omega
theorem fz_len {xs : List Int} (h : xs.all xmlB = true) : (fz xs).length ≤ 4 * xs.length := by
  unfold fz
  have := fl_len (xs.map Int.toNat) (by
    intro r hr
    obtain ⟨x, hx, rfl⟩ := List.mem_map.1 hr
    exact (xml_ok (xmls h x hx)).2.2)
  rwa [List.length_map] at this
theorem tx_to {w W w' : World} {xs : List Int} {v0 v1 : Value} {e : Ending} (hb : Below w.heap.size w W) (h : txPost W.heap.size W xs v0 v1 e w') : txPost w.heap.size w xs v0 v1 e w' := by
  rcases h with ⟨a, o, b, c, d⟩ | ⟨a, b, c⟩
  · exact .inl ⟨a, o, b, c, hb.trans (d.mono hb.size)⟩
  · exact .inr ⟨a, b, hb.trans (c.mono hb.size)⟩
theorem tx_ok {B : Nat} {w w' : World} {xs : List Int} {v0 v1 : Value} {e : Ending} (hk : xs.all xmlB = true) (h : txPost B w xs v0 v1 e w') : ∃ o : ByteArray, e = .returned (.tuple #[.string o, v1]) ∧ o.data.toList = fz xs ∧ Below B w w' := by
  rcases h with ⟨_, h⟩ | ⟨h, _⟩
  · exact h
  · rw [hk] at h; cases h
theorem tx_no {B : Nat} {w w' : World} {xs : List Int} {v0 v1 : Value} {e : Ending} (hk : xs.all xmlB = false) (h : txPost B w xs v0 v1 e w') : e = .returned (.tuple #[.string ⟨#[]⟩, v0]) ∧ Below B w w' := by
  rcases h with ⟨h, _⟩ | ⟨_, h⟩
  · rw [hk] at h; cases h
  · exact h
set_option maxHeartbeats 8000000 in
theorem back_law (A : Option Addr) (n c : Nat) (xs : List Int) (s : ByteArray) (w : World) (hn0 : n ≤ maxLen) (hs0 : s.size ≤ maxLen) (hA : A = none → n = 0 ∧ c = 0) (hx : intsBelow w A n xs) (hT : tabs w) : Calls Tryd.prog 6 #[.slice A n c, .string s] w (lawPost w) := by
  have HT := Lib.hid hT
  have HX := Lib.hid hx
  clear hT hx
  unfold maxLen at hn0 hs0
  by_cases hbig : 2000 < n ∨ 2000 < s.size
  · have HAx := Lib.hid hA
    clear hA
    by_cases hn : 2000 < n
    · clear hbig
      go_enter Tryd.func6, Tryd.ntmps6
      go_wp2_with fail
      refine (awake_call w HT.out w (Below.refl _ _)).mono ?_
      rintro e w1 ⟨rfl, b1⟩
      go_wp2_with fail
      refine (awake_call w HT.out w1 b1).mono ?_
      rintro e w2 ⟨rfl, b2⟩
      go_wp2_with fail
      go_ret
      exact ⟨rfl, b2⟩
    · have hs : 2000 < s.size := by omega
      clear hbig
      go_enter Tryd.func6, Tryd.ntmps6
      go_wp2_with fail
      refine (awake_call w HT.out w (Below.refl _ _)).mono ?_
      rintro e w1 ⟨rfl, b1⟩
      go_wp2_with fail
      refine (awake_call w HT.out w1 b1).mono ?_
      rintro e w2 ⟨rfl, b2⟩
      go_wp2_with fail
      go_ret
      exact ⟨rfl, b2⟩
  · have hn : n ≤ 2000 := by omega
    have hs : s.size ≤ 2000 := by omega
    clear hbig hn0 hs0
    obtain ⟨i0, hi, hz0, hz1, hz2⟩ := info_parts int_info
    have cVr := fun W => valid_ref s W (by omega)
    obtain ⟨XS, hXS⟩ : ∃ X, validX s.data.toList = X := ⟨_, rfl⟩
    have hbk : XS = true → (toZ (runes s.data.toList)).all xmlB = true ∧ fz (toZ (runes s.data.toList)) = s.data.toList := by rw [← hXS]; exact back_good
    rw [hXS] at cVr
    have CVR := Lib.hid cVr
    have BK := Lib.hid hbk
    clear cVr hXS hbk
    have fin : ∀ (A3 : Option Addr) (cap3 : Nat) (w3 : World), intsBelow w3 A3 n xs → Below w.heap.size w w3 → Hid (Calls Tryd.prog 24 #[.slice A3 n cap3] w3 (txPost w3.heap.size w3 xs (.int .i64 2) (.int .i64 0))) := fun A3 cap3 w3 h _ => text_any A3 n cap3 xs w3 (by omega) h
    have fin2 : ∀ (w4 : World), Below w.heap.size w w4 → Hid (Calls Tryd.prog 25 #[.slice A n c] w4 (txPost w4.heap.size w4 xs (.bool false) (.bool true))) := fun w4 h => text_ref A n c xs w4 (by omega) (intsBelow_to HX.out h)
    have FIN2 := Lib.hid fin2
    clear fin2
    cases A
    case' none =>
      obtain ⟨rfl, rfl⟩ := hA rfl
      clear hA
      have hx0 : xs = [] := List.eq_nil_of_length_eq_zero HX.out.1
      have HX0 := Lib.hid hx0
      clear hx0
      go_enter Tryd.func6, Tryd.ntmps6
      go_wp2_with fail
      refine (awake_call w HT.out w (Below.refl _ _)).mono ?_
      rintro e w1 ⟨rfl, B1⟩
      have hE := empty_own w w1 B1.size
      have B3 : Below w.heap.size w (w1.alloc (.cells #[] 3)) := B1.alloc B1.size _
      go_wp2_with (at_builtin; go_must (refine wpList_append_own_none rfl (.tmp 25) (.tmp 26) 26 rfl w.heap.size 3 i0 1 Tryd.underlying26 hi (.slice (some ⟨w1.heap.size, 0, none⟩) 0 0) 0 [] rfl hE rfl ?_))
      have hown3 : (w1.alloc (.cells #[] 3)).ownsRow w.heap.size 3 1 (.slice (some ⟨w1.heap.size, 0, none⟩) 0 0) 0 (xs.map (Value.int .i64)) := by rw [HX0.out]; exact hE
      obtain ⟨A3, cap3, e3, hib⟩ := own_readZ hown3
      injection e3 with e31 e32 e33
      subst e31
      subst e33
      have C3 := (fin _ 0 _ hib B3)
      clear hib hE hown3 e32
      clear fin
    case' some ad =>
      clear hA
      go_enter Tryd.func6, Tryd.ntmps6
      go_wp2_with fail
      refine (awake_call w HT.out w (Below.refl _ _)).mono ?_
      rintro e w1 ⟨rfl, B1⟩
      have hE := empty_own w w1 B1.size
      have hbA : Below w.heap.size w (w1.alloc (.cells #[] 3)) := B1.alloc B1.size _
      have hsrc := src_cells HX.out B1 (.cells #[] 3)
      have hxl := HX.out.1
      go_wp2_with (at_builtin; go_must (refine wpList_append_own _ rfl (.tmp 25) (.tmp 26) 26 rfl w.heap.size 3 i0 (.int .i64 0) 1 8 Tryd.underlying26 hi hz0 hz1 hz2 rfl (by decide) (.slice (some ⟨w1.heap.size, 0, none⟩) 0 0) 0 [] rfl hE ad n c (xs.map (Value.int .i64)) rfl (by rw [List.length_map, hxl, Nat.mul_one]) hsrc (by intro u hu; obtain ⟨x, _, rfl⟩ := List.mem_map.1 hu; rfl) (by unfold maxLen; omega) (by omega) (by have := hbA.size; exact this) ?_; intro v3 w3 hown3 hgrow3 hnil3))
      rw [Nat.zero_add, List.nil_append] at hown3
      have B3 : Below w.heap.size w w3 := hbA.grown hgrow3 (by have := hbA.size; exact this) (fun j hj => (hE.lt j hj).1)
      obtain ⟨A3, cap3, rfl, hib⟩ := own_readZ hown3
      have C3 := (fin _ cap3 _ hib B3)
      clear hib hE hown3 hgrow3 hnil3 hbA hsrc hxl
      clear fin
    all_goals
      refine C3.out.mono ?_
      clear C3
      rintro e w4 h4
      have h4' := Lib.hid (tx_to B3 h4)
      clear h4 B3
      cases hall : xs.all xmlB
      case' false =>
        have HALL := Lib.hid hall
        clear hall
        obtain ⟨rfl, B4⟩ := tx_no HALL.out h4'.out
        clear h4'
        go_wp2_with fail
        refine (FIN2.out _ B4).out.mono ?_
        rintro e w5 h5
        obtain ⟨rfl, b5⟩ := tx_no HALL.out h5
        have B9 := B4.trans (b5.mono B4.size)
        clear b5 h5
        go_wp2_with fail
      case' true =>
        have HALL := Lib.hid hall
        clear hall
        obtain ⟨o, rfl, ho, B4⟩ := tx_ok HALL.out h4'.out
        clear h4'
        have HO := Lib.hid ho
        clear ho
        go_wp2_with fail
        refine (FIN2.out _ B4).out.mono ?_
        rintro e w5 h5
        obtain ⟨o2, rfl, ho2, b5⟩ := tx_ok HALL.out h5
        have B5 := B4.trans (b5.mono B4.size)
        have heq := str_eq (HO.out.trans ho2.symm)
        subst heq
        clear b5 h5 ho2
        have hfz := fz_len HALL.out
        rw [HX.out.1] at hfz
        have hosz : o.size ≤ 8000 := by
          have := size_le_of HO.out (m := 8000) (by omega)
          exact this
        have hgood := fz_good HALL.out
        rw [← HO.out] at hgood
        obtain ⟨g1, g2⟩ := hgood
        have cP := points_any o w5 (by omega)
        have hrl := runes_le o.data.toList
        have hzz : o.data.toList.length = o.size := by simp
        obtain ⟨rs, hrs⟩ : ∃ rs, runes o.data.toList = rs := ⟨_, rfl⟩
        rw [hrs] at cP g2 hrl
        have hrsl : rs.length = xs.length := by
          have h1 := congrArg List.length g2
          unfold toZ at h1
          rwa [List.length_map] at h1
        unfold slicePost at cP
        rw [hrsl, HX.out.1] at cP
        clear hrs hrl hzz hfz
        have CP := Lib.hid cP
        have G1 := Lib.hid g1
        have G2 := Lib.hid g2
        clear cP g1 g2 hrsl
        go_wp2_with fail
        refine CP.out.mono ?_
        clear CP
        rintro e w6 ⟨v6, rfl, hown6, b6⟩
        have B6 := B5.trans (b6.mono B5.size)
        obtain ⟨A6, cap6, rfl, hi6⟩ := own_intsAt hown6
        rw [G2.out] at hi6
        have cI := fun c' => ints_any A6 _ _ _ cap6 c' xs xs w6 (by omega) (by omega) hi6 (intsBelow_at (intsBelow_to HX.out B6))
        rw [show decide (xs = xs) = true from by simp] at cI
        clear hi6 hown6 b6
        go_wp2_with fail
        refine (cI _).mono ?_
        clear cI
        rintro e w7 ⟨rfl, q, rfl⟩
        have B7 := below_drewN' B6 q
        have hba : Below (w6.drewN q).heap.size (w6.drewN q) ((w6.drewN q).alloc (.cells #[.string o] 9)) := (Below.refl _ _).alloc (Nat.le_refl _) _
        have cV := valid_any (some ⟨(w6.drewN q).heap.size, 0, none⟩) 1 1 [o] _ rfl (by omega) (tabs_to (tabs_to HT.out B7) hba) (one_str (w6.drewN q) o (by unfold maxLen; omega))
        rw [show [o].all vS = true from by simp [vS, G1.out]] at cV
        have HBA := Lib.hid hba
        have CV := Lib.hid cV
        have HB7 := Lib.hid B7
        clear hba cV B7
        go_wp2_with fail
        refine CV.out.mono ?_
        rintro e w8 ⟨rfl, b8⟩
        have B9 := HB7.out.trans ((HBA.out.trans (b8.mono HBA.out.size)).mono HB7.out.size)
        clear b8
        go_wp2_with fail
      all_goals
        refine (CVR.out _).mono ?_
        rintro e w10 ⟨rfl, b10⟩
        have B10 := B9.trans (b10.mono B9.size)
        clear b10
        cases XS
        case' false =>
          go_wp2_with fail
          go_ret
        case' true =>
          obtain ⟨k1, k2⟩ := BK.out rfl
          have K1 := Lib.hid k1
          have K2 := Lib.hid k2
          clear k1 k2
          have cP2 := points_any s w10 (by omega)
          have hrl2 := runes_le s.data.toList
          have hzz2 : s.data.toList.length = s.size := by simp
          obtain ⟨ss, hss⟩ : ∃ ss, runes s.data.toList = ss := ⟨_, rfl⟩
          rw [hss] at cP2 hrl2 K1 K2
          have CP2 := Lib.hid cP2
          have hssl : ss.length ≤ 2000 := by omega
          clear cP2 hss hrl2 hzz2
          go_wp2_with fail
          refine CP2.out.mono ?_
          clear CP2
          rintro e w11 ⟨v11, rfl, hown11, b11⟩
          have B11 := B10.trans (b11.mono B10.size)
          rw [cells_toZ] at hown11
          obtain ⟨A11, cap11, rfl, hi11⟩ := own_readZ hown11
          have cT := text_any A11 _ cap11 (toZ ss) w11 (by omega) hi11
          have CT := Lib.hid cT
          clear cT hi11 hown11 b11
          go_wp2_with fail
          refine CT.out.mono ?_
          clear CT
          rintro e w12 h12
          obtain ⟨o12, rfl, ho12, b12⟩ := tx_ok K1.out h12
          have heq2 := str_eq (ho12.trans K2.out)
          subst heq2
          have B12 := B11.trans (b12.mono B11.size)
          clear b12 ho12 h12
          go_wp2_with fail
          go_ret
      all_goals first | exact ⟨rfl, B12⟩ | exact ⟨rfl, B10⟩
end Go.Proofs.YtklkodifbdpihaaDoor
