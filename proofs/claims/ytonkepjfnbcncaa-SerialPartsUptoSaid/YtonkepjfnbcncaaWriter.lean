/- The writer writes trees of any form. No condition beyond what the theorems state. -/
import Derived.Test.YtonkepjfnbcncaaSpell
namespace Go.Proofs.Ytonkepjfnbcncaa
open Go.RowKit Go.Lib
set_option maxRecDepth 100000
set_option maxHeartbeats 8000000
/-- The writer writes a tree. -/
def TreeR (B b : Nat) (m : Int) (t : Tr) : Prop := ∀ (P : Nat → Prop) (w : World) (l : List UInt8), t.In P w → (∀ k, P k → k < B) → Bd B b l w → l.length + 8 * t.pl.bulk ≤ 1099511627776 → t.pl.bulk ≤ 1048576 → w.cell? ⟨0, 0, none⟩ = some (.int .i64 m) → B ≤ w.heap.size →
  Calls Try.prog 11 #[.pointer (some ⟨b, 0, none⟩), t.v] w fun e w' => e = .returned (.bool (wT t.pl).1) ∧ Bd B b (l ++ (wT t.pl).2) w' ∧ Below B w w' ∧ KeptO b w w'
theorem trees_any (B b : Nat) (m : Int) (h0B : 0 < B) (ks : List Tr) (ih : ∀ t ∈ ks, TreeR B b m t) (P : Nat → Prop) (K : Option Addr) (kc n : Nat) (w : World) (l : List UInt8) (hK : RdP P w 5 K n (rowT ks)) (hn : ks.length = n) (hI : InL P w ks) (hP : ∀ k, P k → k < B) (hB : Bd B b l w)
    (hl : l.length + 8 * bulkL (plL ks) ≤ 1099511627776) (hb : bulkL (plL ks) ≤ 1048576) (hm : w.cell? ⟨0, 0, none⟩ = some (.int .i64 m)) (hBw : B ≤ w.heap.size) :
    Calls Try.prog 9 #[.pointer (some ⟨b, 0, none⟩), .slice K n kc] w fun e w' => e = .returned (.bool (wL (plL ks)).1) ∧ Bd B b (l ++ (wL (plL ks)).2) w' ∧ Below B w w' ∧ KeptO b w w' := by
  have IH := Lib.hid ih; have HK := Lib.hid hK; have HI := Lib.hid hI; have HP := Lib.hid hP; have H0 := Lib.hid hB; have HN := Lib.hid hn; have HM := Lib.hid hm
  have hnb : n ≤ 1048576 := by have := bulkL_len (plL ks); rw [plL_len, hn] at this; omega
  obtain ⟨R, hR⟩ : ∃ R, wL (plL ks) = R := ⟨_, rfl⟩
  rw [hR]
  have HR := Lib.hid hR
  obtain ⟨bb, hbb⟩ : ∃ bb, bulkL (plL ks) = bb := ⟨_, rfl⟩
  rw [hbb] at hl hb
  have HBB := Lib.hid hbb
  clear ih hK hI hP hB hn hm hR hbb
  go_enter Try.func9, Try.ntmps9
  go_wp2
  go_loopw [9] (fun s9 wx => ∃ (i : Nat) (o : List UInt8), s9 = .int .i64 (i : Int) ∧ i ≤ n ∧ Hid (o ++ (wL ((plL ks).drop i)).2 = R.2 ∧ (wL ((plL ks).drop i)).1 = R.1 ∧ o.length + 8 * bulkL ((plL ks).drop i) ≤ 8 * bb) ∧ Hid (Bd B b (l ++ o) wx) ∧ Hid (Below B w wx ∧ KeptO b w wx)) (fun s9 _ => n - (RowKit.intOf s9).toNat)
  case atStart => exact ⟨0, [], rfl, by omega, Lib.hid ⟨by rw [List.drop_zero, HR.out]; rfl, by rw [List.drop_zero, HR.out], by rw [List.drop_zero, HBB.out]; simp⟩, Lib.hid (by simpa using H0.out), Lib.hid ⟨Below.refl _ _, KeptO.refl _ _⟩⟩
  case round =>
    obtain ⟨i, o, rfl, hi, hrel, hB, hK⟩ := hrel
    by_cases hlt : i < n
    · have g0 : decide ((i : Int) < (n : Int)) = true := by simp; omega
      have g0' : decide (i < n) = true := by simpa using hlt
      have hil : i < ks.length := by rw [HN.out]; exact hlt
      obtain ⟨t, ht⟩ : ∃ t, ks[i]? = some t := ⟨_, List.getElem?_eq_getElem hil⟩
      have htm := List.mem_of_getElem? ht
      have hzr := hK.out.1.size
      have hka : RdP P wr 5 K n (rowT ks) := HK.out.keep (fun _ h => h) (fun p hp => hK.out.1.cell (HP.out _ hp))
      have hin : t.In P wr := (inL_iff.1 HI.out t htm).keep (fun _ h => h) (fun p hp => hK.out.1.cell (HP.out _ hp))
      have hmr : wr.cell? ⟨0, 0, none⟩ = some (.int .i64 m) := (hK.out.1.cell (p := ⟨0, 0, none⟩) h0B).trans HM.out
      have hdr : (plL ks).drop i = t.pl :: (plL ks).drop (i + 1) := drop_at (plL_at ht)
      obtain ⟨r1, r2, r3⟩ := hrel.out
      rw [hdr] at r1 r2 r3
      rw [wL] at r1 r2
      rw [bulkL] at r3
      have hTR := IH.out t htm
      have HT : Hid (∀ w1 : World, Below wr.heap.size wr w1 → Bd B b (l ++ o) w1 → Calls Try.prog 11 #[.pointer (some ⟨b, 0, none⟩), t.v] w1 fun e w' => e = .returned (.bool (wT t.pl).1) ∧ Bd B b (l ++ o ++ (wT t.pl).2) w' ∧ Below B w1 w' ∧ KeptO b w1 w') := Lib.hid fun w1 hb1 hbd => by
        refine hTR P w1 (l ++ o) (hin.keep (fun _ h => h) (fun p hp => hb1.cell (Nat.lt_of_lt_of_le (HP.out _ hp) (by omega)))) HP.out hbd ?_ (by omega) ((hb1.cell (p := ⟨0, 0, none⟩) (by show 0 < _; omega)).trans hmr) (by have := hb1.size; omega)
        rw [List.length_append]; omega
      have hlen := wT_len t.pl
      have HBx : Hid (∀ w1 : World, w1.heap = w1.heap) := Lib.hid fun _ => rfl
      obtain ⟨tf, htf⟩ : ∃ tf, (wT t.pl).1 = tf := ⟨_, rfl⟩
      obtain ⟨tx, htx⟩ : ∃ tx, (wT t.pl).2 = tx := ⟨_, rfl⟩
      rw [htf, htx] at r1 HT
      rw [htf] at r2
      rw [htx] at hlen
      have HRR := Lib.hid (⟨r1, r2, r3, hlen⟩ : _ ∧ _ ∧ _ ∧ _)
      obtain ⟨k', n', v', A', ac', ps', K', kc', ks'⟩ := t
      obtain ⟨ad, rfl, hPad, d0, d1, d2, d3, d4⟩ := kid_at hka ht hlt
      have hb0 : (ad.add (i * 5)).block < wr.heap.size := by rw [block_of_add]; exact Nat.lt_of_lt_of_le (HP.out _ hPad) (by omega)
      obtain ⟨np', hnp'⟩ : ∃ q, ps'.length = q := ⟨_, rfl⟩
      obtain ⟨nk', hnk'⟩ : ∃ q, ks'.length = q := ⟨_, rfl⟩
      simp only [Tr.v] at HT
      rw [hnp', hnk'] at HT
      rw [hnp'] at d3
      rw [hnk'] at d4
      clear hka hin ht htm hil hTR r1 r2 r3 hlen htf htx hdr hnp' hnk' hrel HBx
      go_wp2_with fail
      refine (HT.out _ (ba (Below.refl _ _)) (bd_alloc hB.out _)).mono ?_
      rintro e w2 ⟨rfl, h1, h2, h3⟩
      have HX := Lib.hid (⟨h1, hK.out.1.trans (((Below.refl B wr).alloc (by omega) _).trans h2), (hK.out.2.below (ba (Below.refl _ _))).trans h3⟩ : Bd B b (l ++ o ++ tx) w2 ∧ Below B w w2 ∧ KeptO b w w2)
      clear h1 h2 h3 d0 d1 d2 d3 d4 hmr HT
      cases tf with
      | false =>
        go_wp2
        go_ret
        obtain ⟨r1, r2, _, _⟩ := HRR.out
        simp only [Bool.false_eq_true, if_false] at r1 r2
        refine ⟨by rw [← r2]; rfl, ?_, HX.out.2⟩
        rw [← r1, ← List.append_assoc]; exact HX.out.1
      | true =>
        go_wp2
        go_roundw
        case rel =>
          obtain ⟨r1, r2, r3, r4⟩ := HRR.out
          simp only [if_true] at r1 r2
          exact ⟨i + 1, o ++ tx, by go_num, by omega, Lib.hid ⟨by rw [List.append_assoc]; exact r1, r2, by rw [List.length_append]; omega⟩, Lib.hid (by rw [← List.append_assoc]; exact HX.out.1), Lib.hid HX.out.2⟩
        case measure => simp [RowKit.intOf]; omega
    · obtain rfl : i = n := by omega
      have g0 : decide ((i : Int) < (i : Int)) = false := by simp
      have hde : (plL ks).drop i = [] := List.drop_eq_nil_of_le (by rw [plL_len, HN.out]; exact Nat.le_refl _)
      have HF : Hid (o = R.2 ∧ true = R.1) := Lib.hid (by
        obtain ⟨r1, r2, _⟩ := hrel.out
        rw [hde, wL] at r1 r2
        exact ⟨by rw [← r1]; simp, r2⟩)
      clear hde
      go_wp2
      go_ret
      refine ⟨by rw [← HF.out.2]; rfl, ?_, hK.out⟩
      rw [← HF.out.1]; exact hB.out
end Go.Proofs.Ytonkepjfnbcncaa
namespace Go.Proofs.Ytonkepjfnbcncaa
open Go.RowKit Go.Lib
set_option maxRecDepth 100000
set_option maxHeartbeats 8000000
/-- A block that is no row of bytes, with these cells. -/
def BoxAt (g : Nat) (t : TypeId) (cs : List Value) (w : World) : Prop := t ≠ 5 ∧ w.heap[g]? = some (.cells cs.toArray t (0, 0))
theorem BoxAt.cell {g : Nat} {t : TypeId} {cs : List Value} {w : World} (h : BoxAt g t cs w) (o : Nat) : w.cell? ⟨g, o, none⟩ = cs[o]? := by
  rw [Lib.cell_of_heap h.2]; simp
theorem BoxAt.kept {g b : Nat} {t : TypeId} {cs : List Value} {w w' : World} (h : BoxAt g t cs w) (hk : KeptO b w w') (hg : g ≠ b) : BoxAt g t cs w' := ⟨h.1, hk g _ hg h.2 (fun cs fz e => by cases e; exact h.1 rfl)⟩
theorem BoxAt.lt {g : Nat} {t : TypeId} {cs : List Value} {w : World} (h : BoxAt g t cs w) : g < w.heap.size := (Array.getElem?_eq_some_iff.1 h.2).1
theorem BoxAt.alloc {g : Nat} {t : TypeId} {cs : List Value} {w : World} (h : BoxAt g t cs w) (o : Obj) : BoxAt g t cs (w.alloc o) := ⟨h.1, (Lib.alloc_old w o g h.lt).trans h.2⟩
theorem box_new (w : World) (t : TypeId) (cs : List Value) (h : t ≠ 5) : BoxAt w.heap.size t cs (w.alloc (.cells cs.toArray t)) := ⟨h, heap_alloc_new _ _⟩
/-- Words of the call's own are written. -/
theorem put_new (B b g : Nat) (l : List UInt8) (ws : List (List UInt8)) (n : Nat) (w w1 : World) (h : Bd B b l w) (hn : ws.length = n) (hn4 : n ≤ 4) (hlen : l.length + ws.flatten.length ≤ 140737488355328) (hBw : B ≤ w.heap.size) (hg : g = w.heap.size) (hw : w1 = w.alloc (.cells (ws.map fun s => Value.string (ba' s)).toArray 9)) :
    Calls Try.prog 16 #[.pointer (some ⟨b, 0, none⟩), .slice (some ⟨g, 0, none⟩) n n] w1 fun e w' => e = .returned (.tuple #[]) ∧ Bd B b (l ++ ws.flatten) w' ∧ Below B w w' ∧ KeptO b w w' := by
  subst hw
  subst hg
  have hlt := h.lt
  refine (put_any B b w.heap.size n n l ws _ (bd_alloc h _) (heap_alloc_new _ _) (by omega) hn hn4 hlen (by simp; omega)).mono ?_
  rintro e w' ⟨rfl, h1, h2, h3⟩
  exact ⟨rfl, h1, ((Below.refl B w).alloc hBw _).trans h2, ((KeptO.refl b w).below (ba (Below.refl _ _))).trans h3⟩
theorem wP_snoc (ps : List (List UInt8 × List UInt8)) (a : List UInt8 × List UInt8) : wP (ps ++ [a]) = wP ps ++ wA a := by
  unfold wP; rw [List.flatMap_append]; simp
theorem bulkP_take (ps : List (List UInt8 × List UInt8)) (i : Nat) : bulkP (ps.take i) ≤ bulkP ps := by
  induction ps generalizing i with
  | nil => simp [bulkP]
  | cons a ps ih =>
    cases i with
    | zero => simp [bulkP]
    | succ i => rw [List.take_succ_cons, bulkP, bulkP]; have := ih i; omega
theorem spell_val (B b : Nat) (l s : List UInt8) (w : World) (h : Bd B b l w) (hs : s.length ≤ 1048576) (hlen : l.length ≤ 4398046511104) (hBw : B ≤ w.heap.size) :
    Calls Try.prog 13 #[.pointer (some ⟨b, 0, none⟩), .string (ba' s), .func (.func 17) #[] #[]] w fun e w' => e = .returned (.tuple #[]) ∧ Bd B b (l ++ esc refV s) w' ∧ Below B w w' ∧ KeptO b w w' :=
  spell_any B b 17 refV (fun _ _ => rfl) inValue_any refV_len l s w h hs hlen hBw
theorem spell_txt (B b : Nat) (l s : List UInt8) (w : World) (h : Bd B b l w) (hs : s.length ≤ 1048576) (hlen : l.length ≤ 4398046511104) (hBw : B ≤ w.heap.size) :
    Calls Try.prog 13 #[.pointer (some ⟨b, 0, none⟩), .string (ba' s), .func (.func 14) #[] #[]] w fun e w' => e = .returned (.tuple #[]) ∧ Bd B b (l ++ esc refT s) w' ∧ Below B w w' ∧ KeptO b w w' :=
  spell_any B b 14 refT (fun _ _ => rfl) inText_any refT_len l s w h hs hlen hBw
def elemX (n : List UInt8) (ps : List (List UInt8 × List UInt8)) (ks : List PT) : Bool × List UInt8 :=
  if ks.length = 0 then (true, [60] ++ n ++ wP ps ++ [47, 62]) else ((wL ks).1, [60] ++ n ++ wP ps ++ [62] ++ (wL ks).2 ++ ([60, 47] ++ n ++ [62]))
theorem element_any (B b : Nat) (m : Int) (h0B : 0 < B) (k : Int) (n v : List UInt8) (A : Option Addr) (ac : Nat) (ps : List (List UInt8 × List UInt8)) (K : Option Addr) (kc : Nat) (ks : List Tr) (ih : ∀ t ∈ ks, TreeR B b m t) (P : Nat → Prop) (w : World) (l : List UInt8)
    (hA : RdP P w 2 A ps.length (rowP ps)) (hK : RdP P w 5 K ks.length (rowT ks)) (hI : InL P w ks) (hP : ∀ k, P k → k < B) (hB : Bd B b l w)
    (hl : l.length + 8 * (1 + n.length + v.length + bulkP ps + bulkL (plL ks)) ≤ 1099511627776) (hb : 1 + n.length + v.length + bulkP ps + bulkL (plL ks) ≤ 1048576) (hm : w.cell? ⟨0, 0, none⟩ = some (.int .i64 m)) (hBw : B ≤ w.heap.size) :
    Calls Try.prog 12 #[.pointer (some ⟨b, 0, none⟩), .agg #[.int .i64 k, .string (ba' n), .string (ba' v), .slice A ps.length ac, .slice K ks.length kc]] w fun e w' => e = .returned (.bool (elemX n ps (plL ks)).1) ∧ Bd B b (l ++ (elemX n ps (plL ks)).2) w' ∧ Below B w w' ∧ KeptO b w w' := by
  have hnp : ps.length ≤ 1048576 := by have := bulkP_len ps; omega
  have hnk : ks.length ≤ 1048576 := by have := bulkL_len (plL ks); rw [plL_len] at this; omega
  have hpw := wP_len ps
  have hkw := wL_len (plL ks)
  have HT : Hid (∀ (w1 : World) (l1 : List UInt8), Below B w w1 → Bd B b l1 w1 → l1.length + 8 * bulkL (plL ks) ≤ 1099511627776 → Calls Try.prog 9 #[.pointer (some ⟨b, 0, none⟩), .slice K ks.length kc] w1 fun e w' => e = .returned (.bool (wL (plL ks)).1) ∧ Bd B b (l1 ++ (wL (plL ks)).2) w' ∧ Below B w1 w' ∧ KeptO b w1 w') := Lib.hid fun w1 l1 hb1 hbd hl1 => by
    refine trees_any B b m h0B ks ih P K kc ks.length w1 l1 (hK.keep (fun _ h => h) (fun p hp => hb1.cell (hP _ hp))) rfl (inL_iff.2 fun t ht => (inL_iff.1 hI t ht).keep (fun _ h => h) (fun p hp => hb1.cell (hP _ hp))) hP hbd hl1 (by omega) ((hb1.cell (p := ⟨0, 0, none⟩) h0B).trans hm) (by have := hb1.size; omega)
  have HA : Hid (∀ w1 : World, Below B w w1 → RdP P w1 2 A ps.length (rowP ps)) := Lib.hid fun w1 hb1 => hA.keep (fun _ h => h) (fun p hp => hb1.cell (hP _ hp))
  have HP := Lib.hid hP
  have hbl := hB.lt
  have HW : Hid (elemX n ps (plL ks) = if ks.length = 0 then (true, [60] ++ n ++ wP ps ++ [47, 62]) else ((wL (plL ks)).1, [60] ++ n ++ wP ps ++ [62] ++ (wL (plL ks)).2 ++ ([60, 47] ++ n ++ [62]))) := Lib.hid (by unfold elemX; rw [plL_len])
  obtain ⟨R, hR⟩ : ∃ R, elemX n ps (plL ks) = R := ⟨_, rfl⟩
  rw [hR] at HW ⊢
  obtain ⟨tf, htf⟩ : ∃ tf, (wL (plL ks)).1 = tf := ⟨_, rfl⟩
  obtain ⟨tx, htx⟩ : ∃ tx, (wL (plL ks)).2 = tx := ⟨_, rfl⟩
  obtain ⟨bp, hbp⟩ : ∃ bp, bulkP ps = bp := ⟨_, rfl⟩
  obtain ⟨bk, hbk⟩ : ∃ bk, bulkL (plL ks) = bk := ⟨_, rfl⟩
  rw [htf, htx] at HT HW
  rw [hbk] at HT hl hb hkw
  rw [htx] at hkw
  rw [hbp] at hl hb hpw
  have HBP : Hid (∀ i, (wP (ps.take i)).length ≤ 8 * bp) := Lib.hid fun i => by have h1 := wP_len (ps.take i); have h2 := bulkP_take ps i; omega
  have HBE : Hid (∀ a ∈ ps, a.1.length ≤ bp ∧ a.2.length ≤ bp) := Lib.hid fun a ha => by have := bulkP_mem ps a ha; omega
  obtain ⟨np, hnpe⟩ : ∃ np, ps.length = np := ⟨_, rfl⟩
  obtain ⟨nk, hnke⟩ : ∃ nk, ks.length = nk := ⟨_, rfl⟩
  have HNP := Lib.hid hnpe
  rw [hnpe] at HA hnp
  rw [hnke] at HT HW hnk
  rw [hnpe, hnke]
  have HB0 := Lib.hid hB
  clear ih hA hK hI hP hB hR htf htx hbp hbk hnpe hnke hm
  go_enter Try.func12, Try.ntmps12
  go_wp2_with fail
  obtain ⟨w0, hw0⟩ : ∃ w0, w.alloc (.cells #[.int .i64 k, .string (ba' n), .string (ba' v), .slice A np ac, .slice K nk kc] 31) = w0 := ⟨_, rfl⟩
  have hz0 : w0.heap.size = w.heap.size + 1 := by rw [← hw0]; simp
  have X0 : BoxAt w.heap.size 31 [.int .i64 k, .string (ba' n), .string (ba' v), .slice A np ac, .slice K nk kc] w0 := by rw [← hw0]; exact box_new _ _ _ (by decide)
  have B0 : Below B w w0 := by rw [← hw0]; exact (Below.refl B w).alloc hBw _
  have K0 : KeptO b w w0 := by rw [← hw0]; exact (KeptO.refl b w).below (ba (Below.refl _ _))
  have D0 : Bd B b l w0 := by rw [← hw0]; exact bd_alloc HB0.out _
  simp only [hw0]
  have HX0 := Lib.hid X0; have HBK := Lib.hid (⟨B0, K0⟩ : _ ∧ _)
  have HC := Lib.hid (put_new B b (w.heap.size + 1) l [[60], n] 2 w0 _ D0 rfl (by omega) (by simp only [List.flatten_cons, List.flatten_nil, List.length_append, List.length_cons, List.length_nil]; omega) (by omega) hz0.symm rfl)
  clear hw0 X0 B0 K0 D0
  refine HC.out.mono ?_
  rintro e w1 ⟨rfl, h1, h2, h3⟩
  obtain ⟨l1, hl1⟩ : ∃ l1, l ++ [[60], n].flatten = l1 := ⟨_, rfl⟩
  have hl1n : l1.length = l.length + 1 + n.length := by rw [← hl1]; simp only [List.flatten_cons, List.flatten_nil, List.length_append, List.length_cons, List.length_nil]; omega
  rw [hl1] at h1
  have HL1 := Lib.hid hl1
  have c3 : w1.cell? ⟨w.heap.size, 3, none⟩ = some (.slice A np ac) := (HX0.out.kept h3 (by omega)).cell 3
  have H1 := Lib.hid (⟨h1, HBK.out.1.trans h2, h3⟩ : Bd B b l1 w1 ∧ Below B w w1 ∧ KeptO b w0 w1)
  clear h1 h2 h3 hl1 HC
  go_wp2
  clear c3
  go_loopw [16] (fun s16 wx => ∃ i : Nat, s16 = .int .i64 (i : Int) ∧ i ≤ np ∧ Hid (Bd B b (l1 ++ wP (ps.take i)) wx) ∧ Hid (Below B w wx ∧ KeptO b w0 wx)) (fun s16 _ => np - (RowKit.intOf s16).toNat)
  case atStart => exact ⟨0, rfl, by omega, Lib.hid (by simpa [wP] using H1.out.1), Lib.hid H1.out.2⟩
  case round =>
    obtain ⟨i, rfl, hi, hB, hK⟩ := hrel
    clear H1
    have hzr := hK.out.1.size
    by_cases hlt : i < np
    · have g0 : decide ((i : Int) < (np : Int)) = true := by simp; omega
      have g0' : decide (i < np) = true := by simpa using hlt
      have hil : i < ps.length := by rw [HNP.out]; exact hlt
      have hga : ps[i]? = some (ps[i]'hil) := List.getElem?_eq_getElem hil
      have hae := HBE.out _ (List.getElem_mem hil)
      have hts : ps.take (i + 1) = ps.take i ++ [ps[i]'hil] := by rw [List.take_add_one, hga]; rfl
      have hwl := HBP.out i
      obtain ⟨⟨a1, a2⟩, ha⟩ : ∃ a, ps[i]'hil = a := ⟨_, rfl⟩
      rw [ha] at hga hae hts
      obtain ⟨ad, rfl, hPad, d0, d1⟩ := pair_at (HA.out wr hK.out.1) hga hlt
      have HTS := Lib.hid hts
      obtain ⟨hae1, hae2⟩ := hae
      simp only at hae1 hae2
      clear hga ha hts hil
      go_wp2_with fail
      obtain ⟨wa, hwa⟩ : ∃ wa, wr.alloc (.cells #[.string (ba' a1), .string (ba' a2)] 34) = wa := ⟨_, rfl⟩
      have hza : wa.heap.size = wr.heap.size + 1 := by rw [← hwa]; simp
      have XA : BoxAt wr.heap.size 34 [.string (ba' a1), .string (ba' a2)] wa := by rw [← hwa]; exact box_new _ _ _ (by decide)
      have BA : Below B w wa := by rw [← hwa]; exact hK.out.1.alloc (by omega) _
      have KA : KeptO b w0 wa := by rw [← hwa]; exact hK.out.2.below (ba (Below.refl _ _))
      have DA : Bd B b (l1 ++ wP (ps.take i)) wa := by rw [← hwa]; exact bd_alloc hB.out _
      simp only [hwa]
      have HXA := Lib.hid XA; have HBA := Lib.hid (⟨BA, KA⟩ : _ ∧ _)
      have HC := Lib.hid (put_new B b (wr.heap.size + 1) _ [[32], a1, [61, 34]] 3 wa _ DA rfl (by omega) (by simp only [List.flatten_cons, List.flatten_nil, List.length_append, List.length_cons, List.length_nil]; omega) (by omega) hza.symm rfl)
      clear hwa XA BA KA DA d0 d1
      refine HC.out.mono ?_
      rintro e w2 ⟨rfl, h1, h2, h3⟩
      have c1 : w2.cell? ⟨wr.heap.size, 1, none⟩ = some (.string (ba' a2)) := (HXA.out.kept h3 (by omega)).cell 1
      have H2 := Lib.hid (⟨h1, HBA.out.1.trans h2, HBA.out.2.trans h3⟩ : _ ∧ Below B w w2 ∧ KeptO b w0 w2)
      have HC2 := Lib.hid (spell_val B b _ a2 w2 h1 (by omega) (by simp only [List.flatten_cons, List.flatten_nil, List.length_append, List.length_cons, List.length_nil]; omega) (by have := H2.out.2.1.size; omega))
      clear h1 h2 h3 HC
      go_wp2_with fail
      refine HC2.out.mono ?_
      rintro e w3 ⟨rfl, h1, h2, h3⟩
      have H3 := Lib.hid (⟨H2.out.2.1.trans h2, H2.out.2.2.trans h3⟩ : Below B w w3 ∧ KeptO b w0 w3)
      have hel := esc_len refV refV_len a2
      have HC3 := Lib.hid (fun w4 hw4 => put_new B b w3.heap.size _ [[34]] 1 w3 w4 h1 rfl (by omega) (by simp only [List.flatten_cons, List.flatten_nil, List.length_append, List.length_cons, List.length_nil]; omega) (by have := H3.out.1.size; omega) rfl hw4)
      clear h1 h2 h3 c1 HC2
      go_wp2_with fail
      refine (HC3.out _ rfl).mono ?_
      rintro e w4 ⟨rfl, h1, h2, h3⟩
      have H4 := Lib.hid (⟨h1, H3.out.1.trans h2, H3.out.2.trans h3⟩ : _ ∧ Below B w w4 ∧ KeptO b w0 w4)
      clear h1 h2 h3 HC3
      go_wp2
      go_roundw
      case rel => exact ⟨i + 1, by go_num, by omega, Lib.hid (by rw [HTS.out, wP_snoc]; simpa [wA, List.append_assoc] using H4.out.1), Lib.hid H4.out.2⟩
      case measure => simp [RowKit.intOf]; omega
    · obtain rfl : i = np := by omega
      have g0 : decide ((i : Int) < (i : Int)) = false := by simp
      have hta : ps.take i = ps := List.take_of_length_le (by rw [HNP.out]; omega)
      have hD := hB.out
      rw [hta] at hD
      have hwl := HBP.out i
      rw [hta] at hwl
      have HD := Lib.hid hD
      have c4 : wr.cell? ⟨w.heap.size, 4, none⟩ = some (.slice K nk kc) := (HX0.out.kept hK.out.2 (by omega)).cell 4
      clear hta hD
      by_cases hn0 : nk = 0
      · subst hn0
        have HC := Lib.hid (fun w4 hw4 => put_new B b wr.heap.size _ [[47, 62]] 1 wr w4 HD.out rfl (by omega) (by simp only [List.flatten_cons, List.flatten_nil, List.length_append, List.length_cons, List.length_nil]; omega) (by omega) rfl hw4)
        go_wp2_with fail
        refine (HC.out _ rfl).mono ?_
        rintro e w5 ⟨rfl, h1, h2, h3⟩
        have H5 := Lib.hid (⟨h1, hK.out.1.trans h2, HBK.out.2.trans (hK.out.2.trans h3)⟩ : _ ∧ Below B w w5 ∧ KeptO b w w5)
        clear h1 h2 h3 HC c4
        go_wp2
        go_ret
        have e := HW.out
        simp only [if_true] at e
        refine ⟨by rw [e]; rfl, ?_, H5.out.2⟩
        rw [e]
        have := H5.out.1
        rw [← HL1.out] at this
        simpa [List.append_assoc] using this
      · have g1 : ((nk : Int) == 0) = false := by simp; omega
        have g1' : (nk == 0) = false := by simpa using hn0
        have HC := Lib.hid (fun w4 hw4 => put_new B b wr.heap.size _ [[62]] 1 wr w4 HD.out rfl (by omega) (by simp only [List.flatten_cons, List.flatten_nil, List.length_append, List.length_cons, List.length_nil]; omega) (by omega) rfl hw4)
        go_wp2_with fail
        refine (HC.out _ rfl).mono ?_
        rintro e w5 ⟨rfl, h1, h2, h3⟩
        have d4 : w5.cell? ⟨w.heap.size, 4, none⟩ = some (.slice K nk kc) := (HX0.out.kept (hK.out.2.trans h3) (by omega)).cell 4
        have H5 := Lib.hid (⟨hK.out.1.trans h2, hK.out.2.trans h3⟩ : Below B w w5 ∧ KeptO b w0 w5)
        have HC2 := Lib.hid (HT.out w5 _ H5.out.1 h1 (by simp only [List.flatten_cons, List.flatten_nil, List.length_append, List.length_cons, List.length_nil]; omega))
        clear h1 h2 h3 HC c4
        go_wp2_with fail
        refine HC2.out.mono ?_
        rintro e w6 ⟨rfl, h1, h2, h3⟩
        have d1 : w6.cell? ⟨w.heap.size, 1, none⟩ = some (.string (ba' n)) := (HX0.out.kept (H5.out.2.trans h3) (by omega)).cell 1
        have H6 := Lib.hid (⟨H5.out.1.trans h2, H5.out.2.trans h3⟩ : Below B w w6 ∧ KeptO b w0 w6)
        have HC3 := Lib.hid (fun w4 hw4 => put_new B b w6.heap.size _ [[60, 47], n, [62]] 3 w6 w4 h1 rfl (by omega) (by simp only [List.flatten_cons, List.flatten_nil, List.length_append, List.length_cons, List.length_nil]; omega) (by have := H6.out.1.size; omega) rfl hw4)
        clear h1 h2 h3 HC2 d4
        go_wp2_with fail
        refine (HC3.out _ rfl).mono ?_
        rintro e w7 ⟨rfl, h1, h2, h3⟩
        have H7 := Lib.hid (⟨h1, H6.out.1.trans h2, HBK.out.2.trans (H6.out.2.trans h3)⟩ : _ ∧ Below B w w7 ∧ KeptO b w w7)
        clear h1 h2 h3 HC3 d1
        go_wp2
        go_ret
        have e := HW.out
        rw [if_neg hn0] at e
        refine ⟨by rw [e]; rfl, ?_, H7.out.2⟩
        rw [e]
        have := H7.out.1
        rw [← HL1.out] at this
        simpa [List.append_assoc] using this
end Go.Proofs.Ytonkepjfnbcncaa
namespace Go.Proofs.Ytonkepjfnbcncaa
open Go.RowKit Go.Lib
set_option maxRecDepth 100000
set_option maxHeartbeats 8000000
theorem tree_any (B b : Nat) (m : Int) (h0B : 0 < B) : ∀ t : Tr, TreeR B b m t := by
  intro t
  induction t using Tr.ind with
  | h k n v A ac ps K kc ks ih =>
    intro P w l hin hP hB hl hb hm hBw
    rw [Tr.In] at hin
    obtain ⟨hA, hK, hI⟩ := hin
    have hpl : (Tr.mk k n v A ac ps K kc ks).pl = .mk k n v ps (plL ks) := by rw [Tr.pl]
    rw [hpl] at hl hb ⊢
    rw [PT.bulk] at hl hb
    have hbl := hB.lt
    obtain ⟨w0, hw0⟩ : ∃ w0, w.alloc (.cells #[.int .i64 k, .string (ba' n), .string (ba' v), .slice A ps.length ac, .slice K ks.length kc] 31) = w0 := ⟨_, rfl⟩
    have hz0 : w0.heap.size = w.heap.size + 1 := by rw [← hw0]; simp
    have X0 : BoxAt w.heap.size 31 [.int .i64 k, .string (ba' n), .string (ba' v), .slice A ps.length ac, .slice K ks.length kc] w0 := by rw [← hw0]; exact box_new _ _ _ (by decide)
    have B0 : Below B w w0 := by rw [← hw0]; exact (Below.refl B w).alloc hBw _
    have K0 : KeptO b w w0 := by rw [← hw0]; exact (KeptO.refl b w).below (ba (Below.refl _ _))
    have D0 : Bd B b l w0 := by rw [← hw0]; exact bd_alloc hB _
    have hm0 : w0.cell? ⟨0, 0, none⟩ = some (.int .i64 m) := (B0.cell (p := ⟨0, 0, none⟩) h0B).trans hm
    have hA0 : RdP P w0 2 A ps.length (rowP ps) := hA.keep (fun _ h => h) (fun p hp => B0.cell (hP _ hp))
    have hK0 : RdP P w0 5 K ks.length (rowT ks) := hK.keep (fun _ h => h) (fun p hp => B0.cell (hP _ hp))
    have hI0 : InL P w0 ks := inL_iff.2 fun t ht => (inL_iff.1 hI t ht).keep (fun _ h => h) (fun p hp => B0.cell (hP _ hp))
    have C9 := Lib.hid (trees_any B b m h0B ks ih P K kc ks.length w0 l hK0 rfl hI0 hP D0 (by omega) (by omega) hm0 (by omega))
    have C12 := Lib.hid (element_any B b m h0B k n v A ac ps K kc ks ih P w0 l hA0 hK0 hI0 hP D0 (by omega) (by omega) hm0 (by omega))
    have C13 := Lib.hid (spell_txt B b l v w0 D0 (by omega) (by omega) (by omega))
    have C15 := Lib.hid (comment_any B b m l v w0 D0 hm0 (by omega) (by omega) (by omega))
    have hW : wT (.mk k n v ps (plL ks)) = if k = 1 then wL (plL ks) else if k = 2 then elemX n ps (plL ks) else if k = 4 then (true, esc refT v) else if k = 5 then (if comOk v = true then (true, [60, 33, 45, 45] ++ v ++ [45, 45, 62]) else (false, [])) else (false, []) := by rw [wT]; rfl
    rw [hW]
    have HX := Lib.hid (⟨B0, K0, D0⟩ : _ ∧ _ ∧ _)
    obtain ⟨r9, h9⟩ : ∃ r, wL (plL ks) = r := ⟨_, rfl⟩
    obtain ⟨r12, h12⟩ : ∃ r, elemX n ps (plL ks) = r := ⟨_, rfl⟩
    obtain ⟨np, hnp⟩ : ∃ q, ps.length = q := ⟨_, rfl⟩
    obtain ⟨nk, hnk⟩ : ∃ q, ks.length = q := ⟨_, rfl⟩
    rw [h9] at C9 ⊢
    rw [h12] at C12 ⊢
    show Calls Try.prog 11 #[.pointer (some ⟨b, 0, none⟩), .agg #[.int .i64 k, .string (ba' n), .string (ba' v), .slice A ps.length ac, .slice K ks.length kc]] w _
    rw [hnp, hnk] at C12 hw0 X0 ⊢
    rw [hnk] at C9
    have c0 : w0.cell? ⟨w.heap.size, 0, none⟩ = some (.int .i64 k) := X0.cell 0
    have c1 : w0.cell? ⟨w.heap.size, 1, none⟩ = some (.string (ba' n)) := X0.cell 1
    have c2 : w0.cell? ⟨w.heap.size, 2, none⟩ = some (.string (ba' v)) := X0.cell 2
    have c3 : w0.cell? ⟨w.heap.size, 3, none⟩ = some (.slice A np ac) := X0.cell 3
    have c4 : w0.cell? ⟨w.heap.size, 4, none⟩ = some (.slice K nk kc) := X0.cell 4
    clear hA hK hI hA0 hK0 hI0 ih hP hB hm hm0 B0 K0 D0 X0 hW h9 h12 hnp hnk hpl
    go_enter Try.func11, Try.ntmps11
    by_cases a1 : k = 1
    · subst a1
      rw [if_pos rfl]
      go_wp2_with fail
      refine C9.out.mono ?_
      rintro e w2 ⟨rfl, h1, h2, h3⟩
      have HY := Lib.hid (⟨h1, HX.out.1.trans h2, HX.out.2.1.trans h3⟩ : _ ∧ Below B w w2 ∧ KeptO b w w2)
      clear h1 h2 h3
      go_wp2
      go_ret
      exact ⟨rfl, HY.out⟩
    · have b1 : (k == 1) = false := by simpa using a1
      rw [if_neg a1]
      by_cases a2 : k = 2
      · subst a2
        rw [if_pos rfl]
        go_wp2_with fail
        refine C12.out.mono ?_
        rintro e w2 ⟨rfl, h1, h2, h3⟩
        have HY := Lib.hid (⟨h1, HX.out.1.trans h2, HX.out.2.1.trans h3⟩ : _ ∧ Below B w w2 ∧ KeptO b w w2)
        clear h1 h2 h3
        go_wp2
        go_ret
        exact ⟨rfl, HY.out⟩
      · have b2 : (k == 2) = false := by simpa using a2
        rw [if_neg a2]
        by_cases a4 : k = 4
        · subst a4
          rw [if_pos rfl]
          go_wp2_with fail
          refine C13.out.mono ?_
          rintro e w2 ⟨rfl, h1, h2, h3⟩
          have HY := Lib.hid (⟨h1, HX.out.1.trans h2, HX.out.2.1.trans h3⟩ : _ ∧ Below B w w2 ∧ KeptO b w w2)
          clear h1 h2 h3
          go_wp2
          go_ret
          exact ⟨rfl, HY.out⟩
        · have b4 : (k == 4) = false := by simpa using a4
          rw [if_neg a4]
          by_cases a5 : k = 5
          · subst a5
            rw [if_pos rfl]
            obtain ⟨cv, hcv⟩ : ∃ cv, comOk v = cv := ⟨_, rfl⟩
            rw [hcv] at C15 ⊢
            cases cv with
            | false =>
              simp only [Bool.false_eq_true, if_false] at C15 ⊢
              go_wp2_with fail
              refine C15.out.mono ?_
              rintro e w2 ⟨rfl, h1, h2, h3⟩
              have HY := Lib.hid (⟨h1, HX.out.1.trans h2, HX.out.2.1.trans h3⟩ : _ ∧ Below B w w2 ∧ KeptO b w w2)
              clear h1 h2 h3
              go_wp2
              go_ret
              exact ⟨rfl, HY.out⟩
            | true =>
              simp only [if_true] at C15 ⊢
              go_wp2_with fail
              refine C15.out.mono ?_
              rintro e w2 ⟨rfl, h1, h2, h3⟩
              have HY := Lib.hid (⟨h1, HX.out.1.trans h2, HX.out.2.1.trans h3⟩ : _ ∧ Below B w w2 ∧ KeptO b w w2)
              clear h1 h2 h3
              go_wp2
              go_ret
              exact ⟨rfl, HY.out⟩
          · have b5 : (k == 5) = false := by simpa using a5
            rw [if_neg a5]
            go_wp2
            go_ret
            exact ⟨rfl, by simpa using HX.out.2.2, HX.out.1, HX.out.2.1⟩
end Go.Proofs.Ytonkepjfnbcncaa
