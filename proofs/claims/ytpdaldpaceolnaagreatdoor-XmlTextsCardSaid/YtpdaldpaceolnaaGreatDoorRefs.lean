/- References in general. No condition beyond what the theorems state. -/
import Derived.Test.YtpdaldpaceolnaaGreatDoorWords
import Derived.Test.YtpdaldpaceolnaaGreatDoorShelf
import Derived.Handy
import Derived.Lib.ConvBytes
import Derived.Lib.SmallJoins
import Derived.Test.YtpdaldpaceolnaaGreatDoorValid
import Derived.Test.YtpdaldpaceolnaaGreatDoorUint
import Derived.Lib.IfaceEq
namespace Go.Proofs.YtpdaldpaceolnaaGreatDoor
open Go.RowKit Go.Lib
set_option maxRecDepth 100000
set_option maxHeartbeats 4000000
theorem bsize : (Tryz.prog.info? 99).map (·.size) = some 2 := by kernel_rfl
theorem blies : liesAt Tryz.prog Tryz.prog.depth 99 (2 / Tryz.prog.cellsOf 99) 0 99 1 = true := by kernel_rfl
theorem byte_info : (Tryz.prog.info? 5).map (fun i => (i.zero, i.size, i.bytes)) = some (some (.int .u8 0), 1, 1) := by kernel_rfl
theorem check_old (b : Nat) (w : World) (h0 : w.cell? ⟨b, 0, none⟩ = some (.pointer (some ⟨b, 0, none⟩))) :
    Calls Tryz.prog 79 #[.pointer (some ⟨b, 0, none⟩)] w fun e w' => e = .returned (.tuple #[]) ∧ w' = w := by
  obtain ⟨j, hj, _⟩ := Option.map_eq_some_iff.1 bsize
  go_enter Tryz.func79, Tryz.ntmps79
  go_wp2
  rw [Lib.run_neq_ptr_same w _ Tryz.underlying97 hj]
  go_wp2
  go_end0
  exact ⟨rfl, rfl⟩
theorem check_new (b : Nat) (w : World) (h0 : w.cell? ⟨b, 0, none⟩ = some (.pointer none)) (hsh : w.shape? b = some (99, 2)) (hfz : w.frozen? ⟨b, 0, none⟩ = false) :
    Calls Tryz.prog 79 #[.pointer (some ⟨b, 0, none⟩)] w fun e w' => e = .returned (.tuple #[]) ∧ w' = w.setCell ⟨b, 0, none⟩ (.pointer (some ⟨b, 0, none⟩)) := by
  obtain ⟨j, hj, hjs⟩ := Option.map_eq_some_iff.1 bsize
  go_enter Tryz.func79, Tryz.ntmps79
  go_wp2
  rw [Lib.run_to_unsafe w ⟨b, 0, none⟩ Tryz.underlying97 Tryz.underlying127 hj (by rw [hjs]; decide) hsh (Nat.zero_lt_succ 1)]
  simp only [Result.andThen]
  rw [Oper.upon_value]
  go_wp2
  rw [run_callFunc_extern Tryz.func96 (by kernel_rfl) (by kernel_rfl) (by kernel_rfl) (e := Extern.AbiNoEscape.same) (by kernel_rfl)]
  rw [Lib.run_noEscape]
  simp only [Result.andThen]
  rw [Oper.upon_value]
  go_wp2
  rw [Lib.run_from_unsafe w ⟨b, 0, none⟩ Tryz.underlying127 Tryz.underlying97 hj hsh blies]
  simp only [Result.andThen]
  rw [Oper.upon_value]
  go_wp2
  go_end0
  exact ⟨rfl, rfl⟩
theorem check_any (B b : Nat) (bs : List Value) (w : World) (h : Lib.IsBuilder 99 5 B b bs w) :
    Calls Tryz.prog 79 #[.pointer (some ⟨b, 0, none⟩)] w fun e w' => e = .returned (.tuple #[]) ∧ Lib.BuilderAt 99 5 B b (.pointer (some ⟨b, 0, none⟩)) bs w' ∧ Below B w w' := by
  rcases h with h | h
  · exact (check_new b w h.cell0 h.shape h.frozen0).mono fun e w' ⟨h1, h2⟩ => by subst h1 h2; exact ⟨rfl, h.used _, (Below.refl B w).setCell (p := ⟨b, 0, none⟩) h.1 _⟩
  · exact (check_old b w h.cell0).mono fun e w' ⟨h1, h2⟩ => by subst h1 h2; exact ⟨rfl, h, Below.refl B _⟩
theorem write_any (B b : Nat) (bs : List Value) (s : ByteArray) (w : World) (h : Lib.IsBuilder 99 5 B b bs w) (hlen : bs.length + s.size ≤ 140737488355328) (hBw : B ≤ w.heap.size) :
    Calls Tryz.prog 63 #[.pointer (some ⟨b, 0, none⟩), .string s] w fun e w' => e = .returned (.tuple #[.int .i64 s.size, .nilIface]) ∧ Lib.BuilderAt 99 5 B b (.pointer (some ⟨b, 0, none⟩)) (bs ++ Lib.strCells s) w' ∧ Below B w w' := by
  obtain ⟨i0, hi, hz0, hz1, hz2⟩ := info_parts byte_info
  have e28 : ∀ args w, (callFunc 79 args).run Tryz.prog w = .ok (.enter 79 args) w := enters_of Tryz.func79 (by kernel_rfl) rfl
  go_enter Tryz.func63, Tryz.ntmps63
  go_wp2_with (go_at_fn 79; refine (check_any B b bs _ h).mono ?_)
  rintro e w1 ⟨rfl, h1, hb1⟩
  obtain ⟨hB, v, hbk, hown, hne⟩ := h1
  have c0 : w1.cell? ⟨b, 0, none⟩ = some (.pointer (some ⟨b, 0, none⟩)) := by rw [Lib.cell_of_heap hbk]; rfl
  have c1 : w1.cell? ⟨b, 1, none⟩ = some v := by rw [Lib.cell_of_heap hbk]; rfl
  have y1 := hb1.size
  go_wp2_with (at_builtin; refine Lib.wpList_append_own_string _ rfl _ _ 65 9 rfl B 5 i0 Tryz.underlying65 Tryz.underlying9 hi hz0 hz1 hz2 _ _ _ rfl hown s rfl (by unfold maxLen; omega) (by omega) (by omega) ?_)
  intro v2 w2 hown2 hgrow _
  have hlt : b < w1.heap.size := (Array.getElem?_eq_some_iff.1 hbk).1
  have hb2 : w2.heap[b]? = some (.cells #[.pointer (some ⟨b, 0, none⟩), v] 99 (0, 0)) := (hgrow.block b hlt (fun e => hne e.symm)).trans hbk
  have d0 : w2.cell? ⟨b, 0, none⟩ = some (.pointer (some ⟨b, 0, none⟩)) := by rw [Lib.cell_of_heap hb2]; rfl
  have d1 : w2.cell? ⟨b, 1, none⟩ = some v := by rw [Lib.cell_of_heap hb2]; rfl
  have f1 : w2.frozen? ⟨b, 1, none⟩ = false := Lib.frozen_of_heap hb2 1
  obtain ⟨A2, c2, rfl⟩ := own_slice hown2
  go_wp2
  go_ret2
  refine ⟨rfl, ?_, ?_⟩
  · exact Lib.BuilderAt.put (T := 99) (e := 5) hB hb2 (bs' := bs ++ Lib.strCells s) (by simpa [Lib.strCells_length] using hown2) (by decide)
  · exact (hb1.grown hgrow (by omega) (fun k hk => (own_lt hown hk).1)).setCell (p := ⟨b, 1, none⟩) hB _
theorem byteCells_snoc (l : List UInt8) (c : UInt8) : Lib.byteCells (l ++ [c]) = Lib.byteCells l ++ [.int .u8 (c.toNat : Int)] := by
  unfold Lib.byteCells; simp
theorem byteCells_len (l : List UInt8) : (Lib.byteCells l).length = l.length := by unfold Lib.byteCells; simp
theorem one_at (w : World) (g : Nat) (hg : g = w.heap.size) (x0 : Value) (t : TypeId) : ∀ j u, [x0][j]? = some u → (w.alloc (.cells #[x0] t)).cell? ((⟨g, 0, none⟩ : Addr).add j) = some u := by
  subst hg
  intro j u hu
  have h := heap_alloc_new w (.cells #[x0] t)
  have hj : ((⟨w.heap.size, 0, none⟩ : Addr).add j) = ⟨w.heap.size, j, none⟩ := by unfold Addr.add; split <;> simp_all
  rw [hj]
  unfold World.cell?
  rw [h]
  simpa using hu
end Go.Proofs.YtpdaldpaceolnaaGreatDoor
namespace Go.Proofs.YtpdaldpaceolnaaGreatDoor
open Go.RowKit Go.Lib
set_option maxRecDepth 100000
set_option maxHeartbeats 8000000
/-- The bytes of a character. -/
def encU (x : Int) : List UInt8 := Lib.encodeRune x
theorem xml_bounds {x : Int} (h : xmlB x = true) : 9 ≤ x ∧ x ≤ 1114111 := by
  have := (xmlB_iff x).1 h
  unfold xmlP at this
  omega
theorem runeCells_enc (x : Int) : Lib.runeCells x = Lib.byteCells (encU x) := by
  unfold encU
  rw [← Lib.byteCells_encodeRune]
theorem text_no (x : Int) (hx : xmlB x = false) (b : Nat) (w : World) (h0 : w.cell? ⟨b, 0, none⟩ = some (.int .i64 x)) : Calls Tryz.prog 121 #[.slice (some ⟨b, 0, none⟩) 1 1] w fun e w' => e = .returned (.tuple #[.string ⟨#[]⟩, .int .i64 2]) ∧ Below w.heap.size w w' := by
  have H := listed_any x
  rw [hx] at H
  have HL := Lib.hid H
  have hb : b < w.heap.size := World.block_lt_of_cell? w _ h0
  clear hx H
  go_enter Tryz.func121, Tryz.ntmps121
  go_wp2
  refine wp_loop_rounds 2 ?_
  rw [rounds_succ]
  go_wp2_with fail
  refine (HL.out _).mono ?_
  rintro e w1 ⟨rfl, rfl⟩
  go_wp2
  go_ret2
  exact ⟨rfl, ba (Below.refl _ _)⟩
theorem text_ok (x : Int) (hx : xmlB x = true) (b : Nat) (w : World) (h0 : w.cell? ⟨b, 0, none⟩ = some (.int .i64 x)) : Calls Tryz.prog 121 #[.slice (some ⟨b, 0, none⟩) 1 1] w fun e w' => e = .returned (.tuple #[.string (ba' (encU x)), .int .i64 0]) ∧ Below w.heap.size w w' := by
  have H := listed_any x
  rw [hx] at H
  obtain ⟨x0, x1⟩ := xml_bounds hx
  have HL := Lib.hid H
  have hb : b < w.heap.size := World.block_lt_of_cell? w _ h0
  have HB0 : Hid (Lib.IsBuilderF 99 5 w.heap.size w.heap.size [] (w.alloc (.cells #[.pointer none, .slice none 0 0] 99))) := Lib.hid (Lib.IsBuilderF.of (Lib.fresh_isBuilder 99 5 w))
  have hw1 : IntKind.i32.wrap x = x := by rw [IntKind.wrap_i32]; omega
  clear hx H
  go_enter Tryz.func121, Tryz.ntmps121
  go_wp2
  refine wp_loop_rounds 2 ?_
  rw [rounds_succ]
  go_wp2_with fail
  refine (HL.out _).mono ?_
  rintro e w1 ⟨rfl, rfl⟩
  go_wp2_with fail
  refine (Tryz.Builder_WriteRune_k w.heap.size w.heap.size [] x (by omega) (by omega) _ HB0.out (by decide) (by simp)).mono ?_
  rintro e w2 ⟨rfl, hI2, hb2, _⟩
  have HI2 : Hid (Lib.IsBuilderF 99 5 w.heap.size w.heap.size (Lib.byteCells (encU x)) w2) := Lib.hid (.inr (by rw [← runeCells_enc]; simpa using hI2))
  have HB2 : Hid (Below w.heap.size w w2) := Lib.hid ((ba (Below.refl _ _)).trans hb2)
  clear hI2 hb2
  go_wp2
  rw [rounds_succ]
  go_wp2_with fail
  refine (Tryz.Builder_String_any_f w.heap.size w.heap.size (encU x) _ HI2.out HB2.out.size).mono ?_
  rintro e w3 ⟨rfl, _, hb3⟩
  have HB3 : Hid (Below w.heap.size w w3) := Lib.hid (HB2.out.trans hb3)
  clear hb3
  go_wp2
  go_ret2
  exact ⟨rfl, HB3.out⟩
end Go.Proofs.YtpdaldpaceolnaaGreatDoor
namespace Go.Proofs.YtpdaldpaceolnaaGreatDoor
open Go.RowKit Go.Lib
set_option maxRecDepth 100000
theorem sz_cons (c : UInt8) (t : List UInt8) : 0 < (ba' (c :: t)).size := by rw [size_ba]; simp
theorem at_cons (c : UInt8) (t : List UInt8) (h : 0 < (ba' (c :: t)).size) : (ba' (c :: t))[0]'h = c := rfl
theorem nat_ne {a b : UInt8} (h : a ≠ b) : ((a.toNat : Int) == (b.toNat : Int)) = false := by
  rw [beq_eq_false_iff_ne]
  intro e
  exact h (UInt8.toNat_inj.1 (by omega))
theorem cut_drop (l : List UInt8) (k : Nat) : (ba' l).extract k (ba' l).size = ba' (l.drop k) := by
  have h := extract_drop (ba' l) k
  apply ByteArray.ext
  apply Array.toList_inj.1
  rw [h]
  rfl
theorem ba_app (a b : List UInt8) : ba' a ++ ba' b = ba' (a ++ b) := by
  apply ByteArray.ext
  apply Array.toList_inj.1
  simp [ba']
theorem cut_mid (l : List UInt8) (a b : Nat) : (ba' l).extract a b = ba' ((l.drop a).take (b - a)) := by
  apply ByteArray.ext
  apply Array.toList_inj.1
  rw [extract_list]
  show (l.take b).drop a = (l.drop a).take (b - a)
  rw [List.drop_take]
end Go.Proofs.YtpdaldpaceolnaaGreatDoor
namespace Go.Proofs.YtpdaldpaceolnaaGreatDoor
open Go.RowKit Go.Lib
set_option maxRecDepth 100000
set_option maxHeartbeats 8000000
def IsIface (v : Value) : Prop := v = .nilIface ∨ ∃ t p, v = .iface t p
/-- What the library's variables hold: the two tables, some number, two errors. -/
def Env (w : World) : Prop := tabs w ∧ (∃ v : Int, w.cell? ⟨2, 0, none⟩ = some (.int .i64 v)) ∧ (∃ v, w.cell? ⟨3, 0, none⟩ = some v ∧ IsIface v) ∧ (∃ v, w.cell? ⟨4, 0, none⟩ = some v ∧ IsIface v)
theorem Env.below {w w' : World} (h : Env w) (hb : Below w.heap.size w w') : Env w' := by
  obtain ⟨h1, ⟨v2, h2⟩, ⟨v3, h3, i3⟩, ⟨v4, h4, i4⟩⟩ := h
  exact ⟨Utf8Tabs_below h1 hb, ⟨v2, (hb.cell (p := ⟨2, 0, none⟩) (World.block_lt_of_cell? w _ h2)).trans h2⟩, ⟨v3, (hb.cell (p := ⟨3, 0, none⟩) (World.block_lt_of_cell? w _ h3)).trans h3, i3⟩, ⟨v4, (hb.cell (p := ⟨4, 0, none⟩) (World.block_lt_of_cell? w _ h4)).trans h4, i4⟩⟩
theorem pu_inner (b : Nat) (hb : b = 10 ∨ b = 16) (l : List UInt8) (hl : l.length ≤ 100000) (w : World) : Calls Tryz.prog 122 #[.string (ba' l), .int .i64 (b : Int), .int .i64 31] w fun e w' => PuPost (parseU b l) e ∧ Below w.heap.size w w' := by
  unfold parseU
  by_cases h : l = []
  · subst h
    rw [if_pos rfl]
    exact pu_empty _ w
  · rw [if_neg h]
    rcases hb with rfl | rfl
    · exact pu_10 l h hl w
    · exact pu_16 l h hl w
theorem pu_some (b v : Nat) (hb : b = 10 ∨ b = 16) (l : List UInt8) (hl : l.length ≤ 100000) (h : parseU b l = some v) (w : World) : Calls Tryz.prog 120 #[.string (ba' l), .int .i64 (b : Int), .int .i64 31] w fun e w' => e = .returned (.tuple #[.int .u64 (v : Int), .nilIface]) ∧ Below w.heap.size w w' := by
  have H := pu_inner b hb l hl w
  rw [h] at H
  have HI := Lib.hid H
  clear H h
  go_enter Tryz.func120, Tryz.ntmps120
  go_wp2_with fail
  refine HI.out.mono ?_
  rintro e w1 ⟨he, hb1⟩
  obtain rfl : e = _ := he
  have HB1 := Lib.hid hb1
  clear hb1
  go_wp2
  go_ret2
  exact ⟨rfl, HB1.out⟩
theorem pu_none (b : Nat) (hb : b = 10 ∨ b = 16) (l : List UInt8) (hl : l.length ≤ 100000) (h : parseU b l = none) (w : World) (hE : Env w) : Calls Tryz.prog 120 #[.string (ba' l), .int .i64 (b : Int), .int .i64 31] w fun e w' => (∃ x t p, e = .returned (.tuple #[.int .u64 x, .iface t p])) ∧ Below w.heap.size w w' := by
  have H := pu_inner b hb l hl w
  rw [h] at H
  have HI := Lib.hid H
  have HE := Lib.hid hE
  clear H h hE
  go_enter Tryz.func120, Tryz.ntmps120
  go_wp2_with fail
  refine HI.out.mono ?_
  rintro e w1 ⟨⟨x, k, rfl, hk⟩, hb1⟩
  have HB1 := Lib.hid hb1
  obtain ⟨_, _, ⟨v3, h3, i3⟩, ⟨v4, h4, i4⟩⟩ := HE.out.below hb1
  have HS3 := Lib.hid (⟨h3, i3⟩ : _ ∧ _)
  have HS4 := Lib.hid (⟨h4, i4⟩ : _ ∧ _)
  clear hb1 h3 i3 h4 i4
  rcases hk with rfl | rfl
  · go_wp2_with fail
    refine (Tryz.strconv_toError_range _ (ba' l) _ _ v4 w1 (by rw [size_ba]; omega) HS4.out.1 HS4.out.2).mono ?_
    rintro e w2 ⟨N, rfl, _, _, hb2⟩
    have HB2 := Lib.hid (bt HB1.out hb2)
    clear hb2
    go_wp2
    go_ret2
    exact ⟨⟨_, _, _, rfl⟩, HB2.out⟩
  · go_wp2_with fail
    refine (Tryz.strconv_toError_syntax _ (ba' l) _ _ v3 w1 (by rw [size_ba]; omega) HS3.out.1 HS3.out.2).mono ?_
    rintro e w2 ⟨N, rfl, _, _, hb2⟩
    have HB2 := Lib.hid (bt HB1.out hb2)
    clear hb2
    go_wp2
    go_ret2
    exact ⟨⟨_, _, _, rfl⟩, HB2.out⟩
/-- The character of a number in some base. -/
def numF (b : Nat) (l : List UInt8) : Option (List UInt8) := (parseU b l).bind fun n => if xmlB n = true then some (encU n) else none
def OPost (r : Option (List UInt8)) (e : Ending) : Prop := e = .returned (.tuple #[.string (ba' (r.getD [])), .bool r.isSome])
theorem parse_le : ∀ (b : Nat) (l : List UInt8) (n v : Nat), n ≤ 2147483647 → puGo b l n = some v → v ≤ 2147483647
  | b, [], n, v, hn, h => by simp [puGo] at h; omega
  | b, c :: t, n, v, hn, h => by
    unfold puGo at h
    split at h
    · cases h
    · split at h
      · cases h
      · exact parse_le b t _ v (by omega) h
theorem parseU_le {b v : Nat} {l : List UInt8} (h : parseU b l = some v) : v ≤ 2147483647 := by
  unfold parseU at h
  split at h
  · cases h
  · exact parse_le b l 0 v (by omega) h
theorem numbered_any (b : Nat) (hb : b = 10 ∨ b = 16) (l : List UInt8) (hl : l.length ≤ 100000) (w : World) (hE : Env w) : Calls Tryz.prog 119 #[.string (ba' l), .int .i64 (b : Int)] w fun e w' => OPost (numF b l) e ∧ Below w.heap.size w w' := by
  cases hp : parseU b l with
  | none =>
    have H := Lib.hid (pu_none b hb l hl hp w hE)
    have HF : Hid (numF b l = none) := Lib.hid (by unfold numF; rw [hp]; rfl)
    clear hp hE
    go_enter Tryz.func119, Tryz.ntmps119
    go_wp2_with fail
    refine H.out.mono ?_
    rintro e w1 ⟨⟨x, t, p, rfl⟩, hb1⟩
    have HB1 := Lib.hid hb1
    clear hb1
    go_wp2
    go_ret2
    exact ⟨by rw [HF.out]; rfl, HB1.out⟩
  | some v =>
    have H := Lib.hid (pu_some b v hb l hl hp w)
    have hv := parseU_le hp
    have hw1 : IntKind.i64.wrap (v : Int) = v := by rw [IntKind.wrap_i64]; omega
    cases hx : xmlB (v : Int) with
    | false =>
      have HF : Hid (numF b l = none) := Lib.hid (by unfold numF; rw [hp]; simp [hx])
      have HT : Hid (∀ (g : Nat) (W : World), W.cell? ⟨g, 0, none⟩ = some (.int .i64 (v : Int)) → Calls Tryz.prog 121 #[.slice (some ⟨g, 0, none⟩) 1 1] W fun e w' => e = .returned (.tuple #[.string ⟨#[]⟩, .int .i64 2]) ∧ Below W.heap.size W w') := Lib.hid fun g W h => text_no v hx g W h
      clear hp hE hx
      go_enter Tryz.func119, Tryz.ntmps119
      go_wp2_with fail
      refine H.out.mono ?_
      rintro e w1 ⟨rfl, hb1⟩
      have HB1 := Lib.hid hb1
      clear hb1
      go_wp2_with fail
      refine (HT.out w1.heap.size _ (by simp)).mono ?_
      rintro e w2 ⟨rfl, hb2⟩
      have HB2 := Lib.hid (bt (ba HB1.out) hb2)
      clear hb2
      go_wp2
      go_ret2
      exact ⟨by rw [HF.out]; rfl, HB2.out⟩
    | true =>
      have HF : Hid (numF b l = some (encU v)) := Lib.hid (by unfold numF; rw [hp]; simp [hx])
      have HT : Hid (∀ (g : Nat) (W : World), W.cell? ⟨g, 0, none⟩ = some (.int .i64 (v : Int)) → Calls Tryz.prog 121 #[.slice (some ⟨g, 0, none⟩) 1 1] W fun e w' => e = .returned (.tuple #[.string (ba' (encU v)), .int .i64 0]) ∧ Below W.heap.size W w') := Lib.hid fun g W h => text_ok v hx g W h
      clear hp hE hx
      go_enter Tryz.func119, Tryz.ntmps119
      go_wp2_with fail
      refine H.out.mono ?_
      rintro e w1 ⟨rfl, hb1⟩
      have HB1 := Lib.hid hb1
      clear hb1
      go_wp2_with fail
      refine (HT.out w1.heap.size _ (by simp)).mono ?_
      rintro e w2 ⟨rfl, hb2⟩
      have HB2 := Lib.hid (bt (ba HB1.out) hb2)
      clear hb2
      go_wp2
      go_ret2
      exact ⟨by rw [HF.out]; rfl, HB2.out⟩
end Go.Proofs.YtpdaldpaceolnaaGreatDoor
namespace Go.Proofs.YtpdaldpaceolnaaGreatDoor
open Go.RowKit Go.Lib
set_option maxRecDepth 100000
set_option maxHeartbeats 8000000
def meanH : List UInt8 → Option (List UInt8)
  | [] => none
  | a :: r => if a = 35 then (match r with
    | [] => numF 10 []
    | c :: t => if c = 120 then numF 16 t else numF 10 r) else none
def meanF (l : List UInt8) : Option (List UInt8) :=
  if l = [108, 116] then some [60] else if l = [103, 116] then some [62] else if l = [97, 109, 112] then some [38] else if l = [113, 117, 111, 116] then some [34] else if l = [97, 112, 111, 115] then some [39] else meanH l
theorem eq_no' {l m : List UInt8} (h : l ≠ m) : ((ba' l).toList == m) = false := by rw [toList_ba]; simpa using h
theorem pre_yes (a : UInt8) (r : List UInt8) : Lib.hasPrefix (ba' (a :: r)).data.toList (⟨#[a]⟩ : ByteArray).data.toList = true := by
  show Lib.hasPrefix (a :: r) [a] = true
  simp [Lib.hasPrefix]
theorem pre_no (a c : UInt8) (r : List UInt8) (h : c ≠ a) : Lib.hasPrefix (ba' (c :: r)).data.toList (⟨#[a]⟩ : ByteArray).data.toList = false := by
  show Lib.hasPrefix (c :: r) [a] = false
  simp [Lib.hasPrefix, List.isPrefixOf]
  exact fun e => h e.symm
theorem pre_nil (a : UInt8) : Lib.hasPrefix (ba' []).data.toList (⟨#[a]⟩ : ByteArray).data.toList = false := rfl
theorem trim_yes (a : UInt8) (r : List UInt8) : (⟨(Lib.trimPrefix (ba' (a :: r)).data.toList (⟨#[a]⟩ : ByteArray).data.toList).toArray⟩ : ByteArray) = ba' r := by
  unfold Lib.trimPrefix
  rw [pre_yes]
  rfl
theorem trim_no (a : UInt8) (l : List UInt8) (h : Lib.hasPrefix (ba' l).data.toList (⟨#[a]⟩ : ByteArray).data.toList = false) : (⟨(Lib.trimPrefix (ba' l).data.toList (⟨#[a]⟩ : ByteArray).data.toList).toArray⟩ : ByteArray) = ba' l := by
  unfold Lib.trimPrefix
  rw [h]
  rfl
theorem meaning_any (l : List UInt8) (hl : l.length ≤ 100000) (w : World) (hE : Env w) : Calls Tryz.prog 115 #[.string (ba' l)] w fun e w' => OPost (meanF l) e ∧ Below w.heap.size w w' := by
  by_cases h1 : l = [108, 116]
  · subst h1
    clear hE
    have g1 : ((ba' [108, 116]).toList == [108, 116]) = true := by rw [toList_ba]; rfl
    go_enter Tryz.func115, Tryz.ntmps115
    go_wp2
    go_ret2
    exact ⟨rfl, Below.refl _ _⟩
  by_cases h2 : l = [103, 116]
  · subst h2
    clear hE
    have g1 : ((ba' [103, 116]).toList == [108, 116]) = false := by rw [toList_ba]; rfl
    have g2 : ((ba' [103, 116]).toList == [103, 116]) = true := by rw [toList_ba]; rfl
    go_enter Tryz.func115, Tryz.ntmps115
    go_wp2
    go_ret2
    exact ⟨rfl, Below.refl _ _⟩
  by_cases h3 : l = [97, 109, 112]
  · subst h3
    clear hE
    have g1 : ((ba' [97, 109, 112]).toList == [108, 116]) = false := by rw [toList_ba]; rfl
    have g2 : ((ba' [97, 109, 112]).toList == [103, 116]) = false := by rw [toList_ba]; rfl
    have g3 : ((ba' [97, 109, 112]).toList == [97, 109, 112]) = true := by rw [toList_ba]; rfl
    go_enter Tryz.func115, Tryz.ntmps115
    go_wp2
    go_ret2
    exact ⟨rfl, Below.refl _ _⟩
  by_cases h4 : l = [113, 117, 111, 116]
  · subst h4
    clear hE
    have g1 : ((ba' [113, 117, 111, 116]).toList == [108, 116]) = false := by rw [toList_ba]; rfl
    have g2 : ((ba' [113, 117, 111, 116]).toList == [103, 116]) = false := by rw [toList_ba]; rfl
    have g3 : ((ba' [113, 117, 111, 116]).toList == [97, 109, 112]) = false := by rw [toList_ba]; rfl
    have g4 : ((ba' [113, 117, 111, 116]).toList == [113, 117, 111, 116]) = true := by rw [toList_ba]; rfl
    go_enter Tryz.func115, Tryz.ntmps115
    go_wp2
    go_ret2
    exact ⟨rfl, Below.refl _ _⟩
  by_cases h5 : l = [97, 112, 111, 115]
  · subst h5
    clear hE
    have g1 : ((ba' [97, 112, 111, 115]).toList == [108, 116]) = false := by rw [toList_ba]; rfl
    have g2 : ((ba' [97, 112, 111, 115]).toList == [103, 116]) = false := by rw [toList_ba]; rfl
    have g3 : ((ba' [97, 112, 111, 115]).toList == [97, 109, 112]) = false := by rw [toList_ba]; rfl
    have g4 : ((ba' [97, 112, 111, 115]).toList == [113, 117, 111, 116]) = false := by rw [toList_ba]; rfl
    have g5 : ((ba' [97, 112, 111, 115]).toList == [97, 112, 111, 115]) = true := by rw [toList_ba]; rfl
    go_enter Tryz.func115, Tryz.ntmps115
    go_wp2
    go_ret2
    exact ⟨rfl, Below.refl _ _⟩
  have g1 := eq_no' h1
  have g2 := eq_no' h2
  have g3 := eq_no' h3
  have g4 := eq_no' h4
  have g5 := eq_no' h5
  have hM : meanF l = meanH l := by
    unfold meanF
    rw [if_neg h1, if_neg h2, if_neg h3, if_neg h4, if_neg h5]
  clear h1 h2 h3 h4 h5
  have HE := Lib.hid hE
  clear hE
  rcases l with _ | ⟨a, r⟩
  · have HM := Lib.hid hM
    have e1 := pre_nil 35
    clear hM
    go_enter Tryz.func115, Tryz.ntmps115
    go_wp2_with fail
    refine (Tryz.strings_CutPrefix (ba' []) ⟨#[35]⟩ w).mono ?_
    rintro e w1 ⟨rfl, rfl⟩
    rw [e1]
    go_wp2
    go_ret2
    exact ⟨by rw [HM.out]; rfl, Below.refl _ _⟩
  by_cases ha : a = 35
  · subst ha
    have e1 := pre_yes 35 r
    have t1 := trim_yes 35 r
    rcases r with _ | ⟨c, t⟩
    · have HM : Hid (meanF [35] = numF 10 []) := Lib.hid hM
      have HN := Lib.hid (numbered_any 10 (.inl rfl) [] (by simp) w HE.out)
      have e2 := pre_nil 120
      have t2 := trim_no 120 [] e2
      clear hM
      go_enter Tryz.func115, Tryz.ntmps115
      go_wp2_with fail
      refine (Tryz.strings_CutPrefix (ba' [35]) ⟨#[35]⟩ w).mono ?_
      rintro e w1 ⟨rfl, rfl⟩
      rw [e1, t1]
      go_wp2_with fail
      refine (Tryz.strings_CutPrefix (ba' []) ⟨#[120]⟩ w1).mono ?_
      rintro e w2 ⟨rfl, rfl⟩
      rw [e2, t2]
      go_wp2_with fail
      refine HN.out.mono ?_
      rintro e w3 ⟨he, hb3⟩
      obtain rfl : e = _ := he
      have HB3 := Lib.hid hb3
      clear hb3
      rw [← HM.out]
      go_wp2
      go_ret2
      exact ⟨rfl, HB3.out⟩
    · by_cases hc : c = 120
      · subst hc
        have HM : Hid (meanF (35 :: 120 :: t) = numF 16 t) := Lib.hid (by rw [hM]; simp [meanH])
        have HN := Lib.hid (numbered_any 16 (.inr rfl) t (by simp at hl; omega) w HE.out)
        have e2 := pre_yes 120 t
        have t2 := trim_yes 120 t
        clear hM
        go_enter Tryz.func115, Tryz.ntmps115
        go_wp2_with fail
        refine (Tryz.strings_CutPrefix (ba' (35 :: 120 :: t)) ⟨#[35]⟩ w).mono ?_
        rintro e w1 ⟨rfl, rfl⟩
        rw [e1, t1]
        go_wp2_with fail
        refine (Tryz.strings_CutPrefix (ba' (120 :: t)) ⟨#[120]⟩ w1).mono ?_
        rintro e w2 ⟨rfl, rfl⟩
        rw [e2, t2]
        go_wp2_with fail
        refine HN.out.mono ?_
        rintro e w3 ⟨he, hb3⟩
        obtain rfl : e = _ := he
        have HB3 := Lib.hid hb3
        clear hb3
        rw [← HM.out]
        go_wp2
        go_ret2
        exact ⟨rfl, HB3.out⟩
      · have HM : Hid (meanF (35 :: c :: t) = numF 10 (c :: t)) := Lib.hid (by rw [hM]; simp [meanH, hc])
        have HN := Lib.hid (numbered_any 10 (.inl rfl) (c :: t) (by simp at hl ⊢; omega) w HE.out)
        have e2 := pre_no 120 c t hc
        have t2 := trim_no 120 (c :: t) e2
        clear hM
        go_enter Tryz.func115, Tryz.ntmps115
        go_wp2_with fail
        refine (Tryz.strings_CutPrefix (ba' (35 :: c :: t)) ⟨#[35]⟩ w).mono ?_
        rintro e w1 ⟨rfl, rfl⟩
        rw [e1, t1]
        go_wp2_with fail
        refine (Tryz.strings_CutPrefix (ba' (c :: t)) ⟨#[120]⟩ w1).mono ?_
        rintro e w2 ⟨rfl, rfl⟩
        rw [e2, t2]
        go_wp2_with fail
        refine HN.out.mono ?_
        rintro e w3 ⟨he, hb3⟩
        obtain rfl : e = _ := he
        have HB3 := Lib.hid hb3
        clear hb3
        rw [← HM.out]
        go_wp2
        go_ret2
        exact ⟨rfl, HB3.out⟩
  · have HM : Hid (meanF (a :: r) = none) := Lib.hid (by rw [hM]; simp [meanH, ha])
    have e1 := pre_no 35 a r ha
    have t1 := trim_no 35 (a :: r) e1
    clear hM
    go_enter Tryz.func115, Tryz.ntmps115
    go_wp2_with fail
    refine (Tryz.strings_CutPrefix (ba' (a :: r)) ⟨#[35]⟩ w).mono ?_
    rintro e w1 ⟨rfl, rfl⟩
    rw [e1, t1]
    go_wp2
    go_ret2
    exact ⟨by rw [HM.out]; rfl, Below.refl _ _⟩
/-- What a reference says whose & stands right ahead, and what is left behind it. -/
def cutF (l : List UInt8) : Option (List UInt8 × List UInt8) := if (Lib.cut l [59]).2.2 = true then (meanF (Lib.cut l [59]).1).map fun m => (m, (Lib.cut l [59]).2.1) else none
def CPost (r : Option (List UInt8 × List UInt8)) (e : Ending) : Prop := match r with
  | some (m, t) => e = .returned (.tuple #[.string (ba' m), .string (ba' t), .bool true])
  | none => e = .returned (.tuple #[.string ⟨#[]⟩, .string ⟨#[]⟩, .bool false])
theorem cut_le (l : List UInt8) : (Lib.cut l [59]).1.length ≤ l.length := by
  unfold Lib.cut
  split
  · simp only [List.length_take]; exact Nat.min_le_right _ _
  · simp
theorem cutF_any (l : List UInt8) (hl : l.length ≤ 100000) (w : World) (hE : Env w) : Calls Tryz.prog 106 #[.string (ba' l)] w fun e w' => CPost (cutF l) e ∧ Below w.heap.size w w' := by
  obtain ⟨a, t, b, hc⟩ : ∃ a t b, Lib.cut l [59] = (a, t, b) := ⟨_, _, _, rfl⟩
  have hc' : Lib.cut (ba' l).data.toList (⟨#[59]⟩ : ByteArray).data.toList = (a, t, b) := hc
  have hal : a.length ≤ 100000 := by have := cut_le l; rw [hc] at this; simp only at this; omega
  obtain ⟨_, ⟨v, hm⟩, _⟩ := id hE
  have HC := Lib.hid (Tryz.strings_Cut (ba' l) ⟨#[59]⟩ v w (by rw [size_ba]; omega) hm)
  rw [hc'] at HC
  simp only at HC
  have HM : Hid (∀ W, Below w.heap.size w W → Calls Tryz.prog 115 #[.string (ba' a)] W fun e w' => OPost (meanF a) e ∧ Below W.heap.size W w') := Lib.hid fun W hW => meaning_any a hal W (hE.below hW)
  cases b with
  | false =>
    have HF : Hid (cutF l = none) := Lib.hid (by unfold cutF; rw [hc]; rfl)
    clear hc hc' hE hm HM
    go_enter Tryz.func106, Tryz.ntmps106
    go_wp2_with fail
    refine HC.out.mono ?_
    rintro e w1 ⟨rfl, nq, rfl⟩
    go_wp2
    go_ret3
    exact ⟨by rw [HF.out]; rfl, bd (Below.refl _ _)⟩
  | true =>
    have hF : cutF l = (meanF a).map fun m => (m, t) := by unfold cutF; rw [hc]; rfl
    cases hme : meanF a with
    | none =>
      have HF : Hid (cutF l = none) := Lib.hid (by rw [hF, hme]; rfl)
      rw [hme] at HM
      clear hc hc' hE hm hF hme
      go_enter Tryz.func106, Tryz.ntmps106
      go_wp2_with fail
      refine HC.out.mono ?_
      rintro e w1 ⟨rfl, nq, rfl⟩
      go_wp2_with fail
      refine (HM.out _ (bd (Below.refl _ _))).mono ?_
      rintro e w2 ⟨he, hb2⟩
      obtain rfl : e = _ := he
      have HB2 : Hid (Below w.heap.size w w2) := Lib.hid (bt (bd (Below.refl _ _)) hb2)
      clear hb2
      go_wp2
      go_ret3
      exact ⟨by rw [HF.out]; rfl, HB2.out⟩
    | some m =>
      have HF : Hid (cutF l = some (m, t)) := Lib.hid (by rw [hF, hme]; rfl)
      rw [hme] at HM
      clear hc hc' hE hm hF hme
      go_enter Tryz.func106, Tryz.ntmps106
      go_wp2_with fail
      refine HC.out.mono ?_
      rintro e w1 ⟨rfl, nq, rfl⟩
      go_wp2_with fail
      refine (HM.out _ (bd (Below.refl _ _))).mono ?_
      rintro e w2 ⟨he, hb2⟩
      obtain rfl : e = _ := he
      have HB2 : Hid (Below w.heap.size w w2) := Lib.hid (bt (bd (Below.refl _ _)) hb2)
      clear hb2
      go_wp2
      go_ret3
      exact ⟨by rw [HF.out]; rfl, HB2.out⟩
end Go.Proofs.YtpdaldpaceolnaaGreatDoor
