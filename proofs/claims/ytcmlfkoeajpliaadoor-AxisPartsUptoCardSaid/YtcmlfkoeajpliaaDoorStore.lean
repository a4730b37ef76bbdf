/- A store of nodes, and what lays a tree into it. No condition beyond what the theorems state. -/
import Derived.Test.YtcmlfkoeajpliaaDoorRefCopy
import Derived.Deep.RegionWith
namespace Go.Proofs.YtcmlfkoeajpliaaDoor
open Go.RowKit Go.Lib
set_option maxRecDepth 100000
set_option maxHeartbeats 8000000
def blkOf (A : Option Addr) : Option Nat := A.map Addr.block
theorem own_blk (A : Option Addr) (n c : Nat) : (Value.slice A n c).ownBlock = blkOf A := by cases A <;> rfl
/-- A store with its limit and its nodes. -/
def StoreAt (w : World) (sb lim : Nat) (A : Option Addr) (c : Nat) (L : List En) : Prop :=
  sb < w.heap.size ∧ w.cell? ⟨sb, 0, none⟩ = some (.int .i64 (lim : Int)) ∧ w.cell? ⟨sb, 1, none⟩ = some (.slice A L.length c) ∧ w.frozen? ⟨sb, 1, none⟩ = false ∧ w.ownsRow (sb + 1) 90 5 (.slice A L.length c) L.length (rowE L)
/-- Beside a store and its row all is as it was. -/
def Beside (sb : Nat) (A : Option Addr) (w : World) (A' : Option Addr) (w' : World) : Prop :=
  w'.os = w.os ∧ w'.tape = w.tape ∧ w'.output = w.output ∧ w.heap.size ≤ w'.heap.size ∧ ∀ b, b < w.heap.size → b ≠ sb → blkOf A ≠ some b → w'.heap[b]? = w.heap[b]? ∧ blkOf A' ≠ some b
/-- Blocks that are none of a store's. -/
def Apart (P : Nat → Prop) (sb : Nat) (A : Option Addr) (w : World) : Prop := ∀ b, P b → b < w.heap.size ∧ b ≠ sb ∧ blkOf A ≠ some b
theorem StoreAt.below {w w' : World} {sb lim : Nat} {A : Option Addr} {c : Nat} {L : List En} (h : StoreAt w sb lim A c L) (hb : Below w.heap.size w w') : StoreAt w' sb lim A c L :=
  ⟨Nat.lt_of_lt_of_le h.1 hb.size, ((bcell hb).1 _ _ h.1).trans h.2.1, ((bcell hb).1 _ _ h.1).trans h.2.2.1, ((bcell hb).2 _ _ h.1).trans h.2.2.2.1, own_below h.2.2.2.2 hb⟩
theorem Beside.refl (sb : Nat) (A : Option Addr) (w : World) : Beside sb A w A w := ⟨rfl, rfl, rfl, Nat.le_refl _, fun _ _ _ h => ⟨rfl, h⟩⟩
theorem Beside.trans {sb : Nat} {A A1 A2 : Option Addr} {w w1 w2 : World} (h : Beside sb A w A1 w1) (k : Beside sb A1 w1 A2 w2) : Beside sb A w A2 w2 :=
  ⟨k.1.trans h.1, k.2.1.trans h.2.1, k.2.2.1.trans h.2.2.1, Nat.le_trans h.2.2.2.1 k.2.2.2.1, fun b hb hs hA => by
    obtain ⟨h1, h2⟩ := h.2.2.2.2 b hb hs hA
    obtain ⟨k1, k2⟩ := k.2.2.2.2 b (Nat.lt_of_lt_of_le hb h.2.2.2.1) hs h2
    exact ⟨k1.trans h1, k2⟩⟩
theorem Beside.of_below {sb : Nat} {A : Option Addr} {w w' : World} (hb : Below w.heap.size w w') : Beside sb A w A w' :=
  ⟨hb.os, hb.tape, hb.output, hb.size, fun b h _ hA => ⟨hb.block b h, hA⟩⟩
theorem Beside.below {sb : Nat} {A A' : Option Addr} {w w' : World} {B : Nat} (h : Beside sb A w A' w') (hB : B ≤ sb) (hA : ∀ b, blkOf A = some b → B ≤ b) (hw : B ≤ w.heap.size) : Below B w w' :=
  ⟨h.1, h.2.1, h.2.2.1, h.2.2.2.1, fun b hb => (h.2.2.2.2 b (by omega) (by omega) (fun e => by have := hA b e; omega)).1⟩
theorem Apart.beside {P : Nat → Prop} {sb : Nat} {A A' : Option Addr} {w w' : World} (h : Apart P sb A w) (k : Beside sb A w A' w') : Apart P sb A' w' := fun b hb => by
  obtain ⟨h1, h2, h3⟩ := h b hb
  exact ⟨Nat.lt_of_lt_of_le h1 k.2.2.2.1, h2, (k.2.2.2.2 b h1 h2 h3).2⟩
theorem Beside.cell {P : Nat → Prop} {sb : Nat} {A A' : Option Addr} {w w' : World} (h : Apart P sb A w) (k : Beside sb A w A' w') (p : Addr) (hp : P p.block) : w'.cell? p = w.cell? p := by
  obtain ⟨h1, h2, h3⟩ := h _ hp
  exact World.cell?_of_block (k.2.2.2.2 _ h1 h2 h3).1
theorem Tr.In.beside {P : Nat → Prop} {sb : Nat} {A A' : Option Addr} {w w' : World} {t : Tr} (h : t.In P w) (ha : Apart P sb A w) (k : Beside sb A w A' w') : t.In P w' := h.keep (fun _ h => h) (fun p hp => k.cell ha p hp)
theorem RdP.beside {P : Nat → Prop} {sb : Nat} {A A' : Option Addr} {w w' : World} {s n : Nat} {B : Option Addr} {xs : List Value} (h : RdP P w s B n xs) (ha : Apart P sb A w) (k : Beside sb A w A' w') : RdP P w' s B n xs := h.keep (fun _ h => h) (fun p hp => k.cell ha p hp)
theorem len_any (sb lim : Nat) (A : Option Addr) (c : Nat) (L : List En) (w : World) (hS : StoreAt w sb lim A c L) : Calls Tryd.prog 22 #[.pointer (some ⟨sb, 0, none⟩)] w fun e w' => e = .returned (.int .i64 (L.length : Int)) ∧ Below w.heap.size w w' := by
  obtain ⟨h0, h1, h2, h3, h4⟩ := hS
  obtain ⟨n, hn⟩ : ∃ n, L.length = n := ⟨_, rfl⟩
  rw [hn] at h2 ⊢
  clear hn h4
  go_enter Tryd.func22, Tryd.ntmps22
  go_wp2
  go_ret
  exact ⟨rfl, by repeat (with_reducible (first | exact Below.refl _ _ | assumption | apply ba | apply bd | apply bdr | (refine bs ?_ (by first | assumption | (simp; done) | (simp; omega))) | (refine bt ?_ (by assumption))))⟩
theorem add_any (sb lim : Nat) (A : Option Addr) (c : Nat) (L : List En) (k : Int) (n v : List UInt8) (p : Nat) (w : World) (hS : StoreAt w sb lim A c L) (hL : L.length ≤ 1048576) :
    Calls Tryd.prog 81 #[.pointer (some ⟨sb, 0, none⟩), .int .i64 k, .string (ba' n), .string (ba' v), .int .i64 (p : Int)] w fun e w' => e = .returned (.int .i64 ((L.length + 1 : Nat) : Int)) ∧ ∃ A' c', StoreAt w' sb lim A' c' (L ++ [⟨k, n, v, p, L.length + 1⟩]) ∧ Beside sb A w A' w' := by
  have HS := Lib.hid hS
  have HLen := Lib.hid (fun (w1 : World) (hb1 : Below w.heap.size w w1) => len_any sb lim A c L w1 (hS.below hb1))
  obtain ⟨h0, h1, h2, h3, h4⟩ := hS
  have HO := Lib.hid h4
  obtain ⟨i5, hi5, hz50, hz51, hz52⟩ := info_parts entry_info
  obtain ⟨ln, hn⟩ : ∃ n, L.length = n := ⟨_, rfl⟩
  rw [hn] at h2 hL HLen HO ⊢
  have HN := Lib.hid hn
  clear hn h4
  go_enter Tryd.func81, Tryd.ntmps81
  go_wp2_with (first
    | (go_at_call 22; go_must (refine (HLen.out _ (by repeat (with_reducible (first | exact Below.refl _ _ | assumption | apply ba | apply bd | apply bdr | (refine bs ?_ (by first | assumption | (simp; done) | (simp; omega))) | (refine bt ?_ (by assumption)))))).mono ?_); rintro e w1 ⟨rfl, hb1⟩; have hc1 := fun o => (bcell hb1).1 sb o h0; have hf1 := fun o => (bcell hb1).2 sb o h0; have z1 := zz hb1 h0; have y1 := hb1.size)
    | (at_builtin
       go_must (refine wpList_append_any _ rfl (.tmp 19) (.tmp 26) _ rfl (sb + 1) 90 i5 _ 5 56 Tryd.underlying77 hi5 hz50 hz51 hz52 rfl (by omega) (.slice A ln c) ln (rowE L) rfl ((own_below HO.out hb1).alloc _) (w1.heap.size + 1) (some ⟨w1.heap.size, 0, none⟩) 1 1 [.int .i64 k, .string (ba' n), .string (ba' v), .int .i64 (p : Int), .int .i64 ((ln : Int) + 1)] rfl ⟨rfl, fun _ => ⟨_, rfl, by simp, five_new _ _ _ _ _ _ _⟩⟩ (by intro u hu; simp at hu; rcases hu with rfl | rfl | rfl | rfl | rfl <;> rfl) (by simp only [maxLen]; omega) (by omega) (by simp; omega) ?_)
       intro v5 w5 hown5 hg5 hat5
       obtain ⟨A5, c5, rfl⟩ := own_slice hown5
       have hne : some sb ≠ (Value.slice A ln c).ownBlock := fun e => by have := (own_lt HO.out e.symm).1; omega
       have hc5 := fun o => World.cell?_of_block (a := ⟨sb, o, none⟩) (hg5.block sb (by simp; omega) hne)
       have hf5 := fun o => World.frozen?_of_block (a := ⟨sb, o, none⟩) (hg5.block sb (by simp; omega) hne)
       have HO5 := Lib.hid hown5
       have HG5 := Lib.hid hg5
       have HA5 := Lib.hid hat5
       have HB1 := Lib.hid hb1
       clear hown5 hg5 hat5 hne))
  go_ret
  have hg5 := HG5.out
  have hb1 := HB1.out
  have hsz : w1.heap.size + 1 ≤ w5.heap.size := by have := hg5.size; simpa using this
  have hnb : ∀ b, (Value.slice A5 (ln + 1) c5).ownBlock = some b → sb + 1 ≤ b ∧ b < w5.heap.size := fun b hb => own_lt HO5.out hb
  refine ⟨rfl, A5, c5, ⟨by simp; omega, ?_, ?_, ?_, ?_⟩, ?_⟩
  · rw [World.cell?_setCell_other _ _ _ _ (fun e => by simp at e), hc5 0]
    rw [World.cell?_alloc_lt _ _ _ (by exact z1), hc1 0]; exact h1
  · rw [List.length_append, HN.out]
    exact World.cell?_setCell_same _ _ _ (by rw [hc5 1, World.cell?_alloc_lt _ _ _ (by exact z1), hc1 1, h2])
  · rw [World.frozen?_setCell, hf5 1, World.frozen?_alloc_past _ _ _ (by exact z1), hf1 1]; exact h3
  · have hx : rowE (L ++ [⟨k, n, v, p, ln + 1⟩]) = rowE L ++ [.int .i64 k, .string (ba' n), .string (ba' v), .int .i64 (p : Int), .int .i64 ((ln : Int) + 1)] := by
      rw [rowE_app]
      show rowE L ++ [.int .i64 k, .string (ba' n), .string (ba' v), .int .i64 (p : Int), .int .i64 ((ln + 1 : Nat) : Int)] = _
      rw [Int.natCast_add]; rfl
    rw [hx, List.length_append, HN.out]
    refine own_keep HO5.out (fun b hb => ?_)
    have := (hnb b hb).1
    exact Below.heap_setCell _ _ _ _ (by simp; omega)
  · refine ⟨?_, ?_, ?_, ?_, ?_⟩
    · exact hg5.os.trans hb1.os
    · exact hg5.tape.trans hb1.tape
    · exact hg5.output.trans hb1.output
    · simp; omega
    · intro b hb hbs hA
      have e1 : w5.heap[b]? = (w1.alloc _).heap[b]? := hg5.block b (by simp; omega) (by rw [own_blk]; exact fun e => hA e.symm)
      have e2 : (w1.alloc (Obj.cells #[Value.int IntKind.i64 k, Value.string (ba' n), Value.string (ba' v), Value.int IntKind.i64 (p : Int), Value.int IntKind.i64 ((ln : Int) + 1)] 90)).heap[b]? = w1.heap[b]? := Below.heap_alloc _ _ _ (by omega)
      refine ⟨?_, ?_⟩
      · rw [Below.heap_setCell _ _ _ _ (by simpa using hbs), e1, e2]
        exact hb1.block b hb
      · rcases HA5.out with e | e
        · rw [own_blk, own_blk] at e
          rw [e]; exact hA
        · rw [own_blk] at e
          rw [e]
          intro h
          have := Option.some.inj h
          simp at this
          omega
end Go.Proofs.YtcmlfkoeajpliaaDoor
namespace Go.Proofs.YtcmlfkoeajpliaaDoor
open Go.RowKit Go.Lib
set_option maxRecDepth 100000
set_option maxHeartbeats 8000000
/-- The contract of lay at one tree. -/
def LayR (t : Tr) : Prop := ∀ (P : Nat → Prop) (w : World) (sb lim : Nat) (A : Option Addr) (c : Nat) (L : List En) (p : Nat), StoreAt w sb lim A c L → t.In P w → Apart P sb A w → t.pl.fit → L.length + t.pl.size ≤ 1048576 →
  Calls Tryd.prog 53 #[.pointer (some ⟨sb, 0, none⟩), t.v, .int .i64 (p : Int)] w fun e w' => e = .returned (.int .i64 ((L.length + 1 : Nat) : Int)) ∧ ∃ A' c', StoreAt w' sb lim A' c' (L ++ t.pl.lay L.length p) ∧ Beside sb A w A' w'
theorem StoreAt.lt {w : World} {sb lim : Nat} {A : Option Addr} {c : Nat} {L : List En} (h : StoreAt w sb lim A c L) {b : Nat} (hb : blkOf A = some b) : sb + 1 ≤ b ∧ b < w.heap.size := own_lt h.2.2.2.2 (by rw [own_blk]; exact hb)
theorem len_same (sb lim : Nat) (A : Option Addr) (c : Nat) (L : List En) (w : World) (hS : StoreAt w sb lim A c L) : Calls Tryd.prog 22 #[.pointer (some ⟨sb, 0, none⟩)] w fun e w' => e = .returned (.int .i64 (L.length : Int)) ∧ w' = w := by
  obtain ⟨h0, h1, h2, h3, h4⟩ := hS
  obtain ⟨n, hn⟩ : ∃ n, L.length = n := ⟨_, rfl⟩
  rw [hn] at h2 ⊢
  clear hn h4
  go_enter Tryd.func22, Tryd.ntmps22
  go_wp2
  go_ret
  exact ⟨rfl, rfl⟩
theorem store_end {w : World} {sb lim g c T : Nat} {L rest : List En} {root : En} (h : StoreAt w sb lim (some ⟨g, 0, none⟩) c (L ++ root :: rest)) :
    StoreAt (w.setCell ⟨g, L.length * 5 + 4, none⟩ (.int .i64 (T : Int))) sb lim (some ⟨g, 0, none⟩) c (L ++ { root with e := T } :: rest) ∧ Beside sb (some ⟨g, 0, none⟩) w (some ⟨g, 0, none⟩) (w.setCell ⟨g, L.length * 5 + 4, none⟩ (.int .i64 (T : Int))) := by
  have hg := h.lt (b := g) rfl
  have hl : (L ++ { root with e := T } :: rest).length = (L ++ root :: rest).length := by simp
  obtain ⟨h0, h1, h2, h3, h4⟩ := h
  refine ⟨⟨by simpa using h0, ?_, ?_, ?_, ?_⟩, rfl, rfl, rfl, by simp, fun b hb hbs hA => ⟨Below.heap_setCell _ _ _ _ (fun e => hA (by rw [e]; rfl)), hA⟩⟩
  · rw [World.cell?_setCell_other _ _ _ _ (fun e => by simp at e; try omega)]; exact h1
  · rw [World.cell?_setCell_other _ _ _ _ (fun e => by simp at e; try omega), hl]; exact h2
  · rw [World.frozen?_setCell]; exact h3
  · have := (h4.stored (L.length * 5 + 4) (.int .i64 (T : Int))).1
    rw [rowE_set] at this
    rw [hl]; exact this
theorem lay_all : ∀ t : Tr, LayR t := by
  intro t
  induction t using Tr.ind with
  | h k n v A0 ac ps K kc ks ih =>
    intro P w sb lim A c L p hS hin hP hb hsz
    have hF := fit_fields hb
    have hB : ∀ t ∈ ks, t.pl.fit := fit_kid hb
    rw [Tr.In] at hin
    obtain ⟨hA, hK, hL⟩ := hin
    have hsz2 : L.length + (1 + ps.length + sizeL (plL ks)) ≤ 1048576 := by rw [Tr.pl, PT.size] at hsz; exact hsz
    rw [Tr.pl, PT.lay]
    obtain ⟨ln, hln⟩ : ∃ ln, L.length = ln := ⟨_, rfl⟩
    obtain ⟨np, hnp⟩ : ∃ np, ps.length = np := ⟨_, rfl⟩
    obtain ⟨nk, hnk⟩ : ∃ nk, ks.length = nk := ⟨_, rfl⟩
    obtain ⟨m, hm⟩ : ∃ m, ln + 1 = m := ⟨_, rfl⟩
    have hks : ks.length ≤ 1048576 := hF.2.2.2
    show Calls Tryd.prog 53 #[.pointer (some ⟨sb, 0, none⟩), .agg #[.int .i64 k, .string (ba' n), .string (ba' v), .slice A0 ps.length ac, .slice K ks.length kc], .int .i64 (p : Int)] w _
    rw [hnp, hnk, hln, hm]
    rw [hnp, hln] at hsz2
    rw [hnk] at hks
    have HS := Lib.hid hS; have HA := Lib.hid hA; have HK := Lib.hid hK; have HL := Lib.hid hL; have HP := Lib.hid hP; have IH := Lib.hid ih; have HB := Lib.hid hB; have HNP := Lib.hid hnp; have HNK := Lib.hid hnk; have HLN := Lib.hid hln; have HM := Lib.hid hm
    have hsb : sb < w.heap.size := hS.1
    -- the world behind the box
    have hbx : ∀ x : Obj, Beside sb A w A (w.alloc x) := fun x => Beside.of_below (ba (Below.refl _ _))
    have HROOT : Hid (∀ (w1 : World), Below w.heap.size w w1 → Calls Tryd.prog 81 #[.pointer (some ⟨sb, 0, none⟩), .int .i64 k, .string (ba' n), .string (ba' v), .int .i64 (p : Int)] w1 fun e w' => e = .returned (.int .i64 (m : Int)) ∧ ∃ A' c', StoreAt w' sb lim A' c' (L ++ [⟨k, n, v, p, m⟩]) ∧ Beside sb A w1 A' w') := Lib.hid fun w1 hb1 => by
      have := add_any sb lim A c L k n v p w1 (hS.below hb1) (by omega)
      rw [hln, hm] at this
      exact this
    have hHA : blkOf A ≠ some w.heap.size := fun e => by have := (hS.lt e).2; omega
    clear hS hA hK hL hP ih hB hnp hnk hln hm hF hb hsz hbx
    go_enter Tryd.func53, Tryd.ntmps53
    go_wp2_with (go_at_call 81; go_must (refine (HROOT.out _ (by repeat (with_reducible (first | exact Below.refl _ _ | assumption | apply ba | apply bd | apply bdr | (refine bs ?_ (by first | assumption | (simp; done) | (simp; omega))) | (refine bt ?_ (by assumption)))))).mono ?_); rintro e w1 ⟨rfl, A1, c1, hS1, hB1⟩; have hbb := fun o => World.cell?_of_block (a := ⟨w.heap.size, o, none⟩) (hB1.2.2.2.2 w.heap.size (by simp) (by omega) hHA).1; have hzz := hB1.2.2.2.1; have HS1 := Lib.hid hS1; have HB1 := Lib.hid hB1; clear hS1 hB1)
    go_loopw [24] (fun s24 wx => ∃ (i : Nat) (A' : Option Addr) (c' : Nat), s24 = .int .i64 i ∧ i ≤ np ∧ Hid (StoreAt wx sb lim A' c' (L ++ ⟨k, n, v, p, m⟩ :: layP (ps.take i) m m)) ∧ Hid (Beside sb A w A' wx ∧ blkOf A' ≠ some w.heap.size) ∧ wx.cell? ⟨w.heap.size, 4, none⟩ = some (.slice K nk kc) ∧ w.heap.size + 1 ≤ wx.heap.size) (fun s24 _ => np - (intOf s24).toNat)
    case atStart =>
      refine ⟨0, A1, c1, rfl, Nat.zero_le _, HS1.out, Lib.hid ⟨(Beside.of_below (ba (Below.refl _ _))).trans HB1.out, (HB1.out.2.2.2.2 w.heap.size (by simp) (by omega) hHA).2⟩, ?_, by simpa using hzz⟩
      first | (simp [*]; done) | (rw [hbb 4]; simp)
    case round =>
      obtain ⟨i, A2, c2, rfl, hi, hS2, hB2, hc4, hz2⟩ := hrel
      by_cases hlt : i < np
      · have g0 : decide ((i : Int) < (np : Int)) = true := by first | (simp; done) | (simp; omega)
        have hil : i < ps.length := by rw [HNP.out]; exact hlt
        obtain ⟨x, hx⟩ : ∃ x, ps[i]? = some x := ⟨_, List.getElem?_eq_getElem hil⟩
        have HLP := Lib.hid (layP_take ps i x hx m m)
        have hAp := HP.out.beside hB2.out.1
        obtain ⟨p1, p2⟩ := x
        have hpa := HA.out.beside HP.out hB2.out.1
        rw [HNP.out] at hpa
        obtain ⟨ad, rfl, hPad, d0, d1⟩ := pair_at hpa hx hlt
        clear hpa
        have hb0 : (ad.add (i * 2)).block < wr.heap.size := by rw [block_of_add]; exact (hAp _ hPad).1
        have HADD : Hid (∀ w1 : World, Below wr.heap.size wr w1 → Calls Tryd.prog 81 #[.pointer (some ⟨sb, 0, none⟩), .int .i64 3, .string (ba' p1), .string (ba' p2), .int .i64 (m : Int)] w1 fun e w' => (∃ z : Int, e = .returned (.int .i64 z)) ∧ ∃ A' c', StoreAt w' sb lim A' c' (L ++ ⟨k, n, v, p, m⟩ :: layP (ps.take (i + 1)) m m) ∧ Beside sb A2 w1 A' w') := Lib.hid fun w1 hb1 => by
          have hlen : (L ++ ⟨k, n, v, p, m⟩ :: layP (ps.take i) m m).length = m + i := by
            rw [List.length_append, HLN.out, List.length_cons, layP_len, List.length_take, HNP.out, Nat.min_eq_left hi, ← HM.out]; omega
          have := add_any sb lim A2 c2 _ 3 p1 p2 m w1 (hS2.out.below hb1) (by rw [hlen, ← HM.out]; omega)
          refine this.mono fun e w' ⟨h1, A', c', h2, h3⟩ => ⟨⟨_, h1⟩, A', c', ?_, h3⟩
          rw [HLP.out]
          rw [hlen, List.append_assoc] at h2
          exact h2
        have hH2 := hB2.out.2
        clear hx hil hAp
        go_wp2_with (go_at_call 81; go_must (refine (HADD.out _ (by repeat (with_reducible (first | exact Below.refl _ _ | assumption | apply ba | apply bd | apply bdr | (refine bs ?_ (by first | assumption | (simp; done) | (simp; omega))) | (refine bt ?_ (by assumption)))))).mono ?_); rintro e w3 ⟨⟨z, rfl⟩, A3, c3, hS3, hB3⟩; have hbb3 := fun o => World.cell?_of_block (a := ⟨w.heap.size, o, none⟩) (hB3.2.2.2.2 w.heap.size (by simp; omega) (by omega) hH2).1; have hzz3 := hB3.2.2.2.1; have HS3 := Lib.hid hS3; have HB3 := Lib.hid hB3; clear hS3 hB3)
        go_roundw
        case rel =>
          refine ⟨i + 1, A3, c3, by go_num, by omega, HS3, Lib.hid ⟨(hB2.out.1.trans (Beside.of_below (ba (Below.refl _ _)))).trans HB3.out, (HB3.out.2.2.2.2 w.heap.size (by simp; omega) (by omega) hH2).2⟩, ?_, ?_⟩
          · exact (hbb3 4).trans ((World.cell?_alloc_lt _ _ _ (by show w.heap.size < wr.heap.size; omega)).trans hc4)
          · simp at hzz3; omega
        case measure => simp [intOf]; omega
      · obtain rfl : i = np := by omega
        have g0 : decide (((i : Nat) : Int) < ((i : Nat) : Int)) = false := by simp
        have hq1 : L ++ ⟨k, n, v, p, m⟩ :: layP (ps.take i) m m = L ++ ⟨k, n, v, p, m⟩ :: layP ps m m := by rw [List.take_of_length_le (by rw [HNP.out]; exact Nat.le_refl _)]
        have HS9 : Hid (StoreAt wr sb lim A2 c2 (L ++ ⟨k, n, v, p, m⟩ :: layP ps m m)) := Lib.hid (hq1 ▸ hS2.out)
        clear hq1 hS2
        go_wp2
        go_loopw [39] (fun s39 wx => ∃ (j : Nat) (A' : Option Addr) (c' : Nat), s39 = .int .i64 j ∧ j ≤ nk ∧ Hid (StoreAt wx sb lim A' c' (L ++ ⟨k, n, v, p, m⟩ :: (layP ps m m ++ layL ((plL ks).take j) (m + i) m))) ∧ Hid (Beside sb A w A' wx ∧ blkOf A' ≠ some w.heap.size)) (fun s39 _ => nk - (intOf s39).toNat)
        case atStart => exact ⟨0, A2, c2, rfl, Nat.zero_le _, Lib.hid (by simpa [layL] using HS9.out), hB2⟩
        case round =>
          obtain ⟨j, A4, c4, rfl, hj, hS4, hB4⟩ := hrel
          by_cases hjl : j < nk
          · have g1 : decide ((j : Int) < (nk : Int)) = true := by first | (simp; done) | (simp; omega)
            have hjk : j < ks.length := by rw [HNK.out]; exact hjl
            obtain ⟨t, ht⟩ : ∃ t, ks[j]? = some t := ⟨_, List.getElem?_eq_getElem hjk⟩
            have htm := List.mem_of_getElem? ht
            have HLL := Lib.hid (layL_take (plL ks) j t.pl (plL_at ht) (m + i) m)
            have hst := sizeL_take (plL ks) j t.pl (plL_at ht)
            have hsl := sizeL_take_le (plL ks) (j + 1)
            have hAp := HP.out.beside hB4.out.1
            have hin4 := (inL_iff.1 HL.out t htm).beside HP.out hB4.out.1
            have hc := IH.out t htm P
            have hbk := HB.out t htm
            have hka := HK.out.beside HP.out hB4.out.1
            rw [HNK.out] at hka
            have hlen : (L ++ ⟨k, n, v, p, m⟩ :: (layP ps m m ++ layL ((plL ks).take j) (m + i) m)).length = m + i + sizeL ((plL ks).take j) := by
              rw [List.length_append, HLN.out, List.length_cons, List.length_append, layP_len, layL_len, HNP.out, ← HM.out]; omega
            have HLAY := Lib.hid (fun (w1 : World) (hb1 : Below wr.heap.size wr w1) => hc w1 sb lim A4 c4 _ m (hS4.out.below hb1) (hin4.below (fun b h => (hAp b h).1) hb1) (hAp.beside (Beside.of_below hb1)) hbk (by rw [hlen, ← HM.out]; omega))
            obtain ⟨k', n', v', A', ac', ps', K', kc', ks'⟩ := t
            obtain ⟨ad, rfl, hPad, d0, d1, d2, d3, d4⟩ := kid_at hka ht hjl
            have hb0 : (ad.add (j * 5)).block < wr.heap.size := by rw [block_of_add]; exact (hAp _ hPad).1
            obtain ⟨np', hnp'⟩ : ∃ q, ps'.length = q := ⟨_, rfl⟩
            obtain ⟨nk', hnk'⟩ : ∃ q, ks'.length = q := ⟨_, rfl⟩
            simp only [Tr.v] at HLAY
            rw [hnp', hnk'] at HLAY
            rw [hnp'] at d3
            rw [hnk'] at d4
            have HLEN := Lib.hid hlen
            have hH4 := hB4.out.2
            clear hc hin4 hka ht htm hjk hnp' hnk' hbk hst hsl hAp hlen
            have hwz : w.heap.size < wr.heap.size + 1 := by have := hB4.out.1.2.2.2.1; omega
            have hwz2 : w.heap.size < wr.heap.size ∨ w.heap.size = wr.heap.size := by have := hB4.out.1.2.2.2.1; omega
            go_wp2_with (go_at_call 53; go_must (refine (HLAY.out _ (by repeat (with_reducible (first | exact Below.refl _ _ | assumption | apply ba | apply bd | apply bdr | (refine bs ?_ (by first | assumption | (simp; done) | (simp; omega))) | (refine bt ?_ (by assumption)))))).mono ?_); rintro e w3 ⟨rfl, A5, c5, hS5, hB5⟩; have HS5 := Lib.hid hS5; have HB5 := Lib.hid hB5; clear hS5 hB5)
            go_roundw
            case rel =>
              refine ⟨j + 1, A5, c5, by go_num, by omega, Lib.hid ?_, Lib.hid ⟨(hB4.out.1.trans (Beside.of_below (ba (Below.refl _ _)))).trans HB5.out, (HB5.out.2.2.2.2 w.heap.size (by simp; omega) (by omega) hH4).2⟩⟩
              have := HS5.out
              rw [HLEN.out] at this
              rw [HLL.out]
              simpa [List.append_assoc] using this
            case measure => simp [intOf]; omega
          · obtain rfl : j = nk := by omega
            have g1 : decide (((j : Nat) : Int) < ((j : Nat) : Int)) = false := by simp
            have hq2 : (plL ks).take j = plL ks := List.take_of_length_le (by rw [plL_len, HNK.out]; exact Nat.le_refl _)
            have HS6 : Hid (StoreAt wr sb lim A4 c4 (L ++ ⟨k, n, v, p, m⟩ :: (layP ps m m ++ layL (plL ks) (m + i) m))) := Lib.hid (by have := hS4.out; rwa [hq2] at this)
            clear hq2 hS4
            obtain ⟨T, hT⟩ : ∃ T, (L ++ (⟨k, n, v, p, m⟩ : En) :: (layP ps m m ++ layL (plL ks) (m + i) m)).length = T := ⟨_, rfl⟩
            have hTe : T = ln + (1 + i + sizeL (plL ks)) := by
              rw [← hT, List.length_append, HLN.out, List.length_cons, List.length_append, layP_len, layL_len, HNP.out]; omega
            have hlT : ln < T := by omega
            have hmi : (m : Int) - 1 = (ln : Int) := by have := HM.out; omega
            have hw2 : IntKind.i64.wrap (ln : Int) = (ln : Int) := by rw [IntKind.wrap_i64]; omega
            have hw3 : IntKind.i64.wrap ((m : Int) - 1) = (ln : Int) := by rw [hmi]; exact hw2
            have g5 : decide ((ln : Int) < (T : Int)) = true := by first | (simp; done) | (simp; omega)
            obtain ⟨q0, q1, q2, q3, q4⟩ := HS6.out
            rw [hT] at q2 q4
            have HL22 := fun (w1 : World) (hb1 : Below wr.heap.size wr w1) => len_same sb lim A4 c4 _ w1 (HS6.out.below hb1)
            rw [hT] at HL22
            have HLE := Lib.hid HL22
            obtain ⟨g, hg⟩ : ∃ g, A4 = some ⟨g, 0, none⟩ := by
              rcases q4.2 with ⟨h', h0⟩ | ⟨g, cap, cur, h', _⟩
              · omega
              · simp at h'
                exact ⟨g, h'.1⟩
            subst hg
            have hgb := HS6.out.lt (b := g) rfl
            have e4 : wr.cell? ⟨g, ln * 5 + 4, none⟩ = some (.int .i64 (m : Int)) := by
              rw [q4.cellAt _ (by omega)]
              have := rowE_at (L ++ (⟨k, n, v, p, m⟩ : En) :: (layP ps m m ++ layL (plL ks) (m + i) m)) ln ⟨k, n, v, p, m⟩ 4 (.int .i64 (m : Int)) (by rw [← HLN.out]; simp) rfl (by decide)
              exact this
            have f4 := q4.frozenAt (ln * 5 + 4)
            have HQ4 := Lib.hid q4
            clear HL22 q4 hT
            go_wp2
            go_region_with (go_at_call 22; refine (HLE.out _ (by repeat (with_reducible (first | exact Below.refl _ _ | assumption | apply ba | apply bd | apply bdr | (refine bs ?_ (by first | assumption | (simp; done) | (simp; omega))) | (refine bt ?_ (by assumption)))))).mono ?_; rintro e w9 ⟨rfl, rfl⟩)
            all_goals go_wp2
            all_goals go_ret
            all_goals
              have hE := store_end (T := ln + (1 + i + sizeL (plL ks))) HS6.out
              have hc : ((ln + (1 + i + sizeL (plL ks)) : Nat) : Int) = (ln : Int) + (1 + (i : Int) + (sizeL (plL ks) : Int)) := by omega
              rw [HLN.out, hc] at hE
              exact ⟨rfl, _, _, hE.1.below (bdr (Below.refl _ _)), hB4.out.1.trans (hE.2.trans (Beside.of_below (bdr (Below.refl _ _))))⟩
end Go.Proofs.YtcmlfkoeajpliaaDoor
