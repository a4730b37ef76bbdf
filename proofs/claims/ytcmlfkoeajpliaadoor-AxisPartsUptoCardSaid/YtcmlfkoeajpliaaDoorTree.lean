/- Package node writes out the tree of a number, and its string. No condition beyond what the theorems state. -/
import Derived.Test.YtcmlfkoeajpliaaDoorGrows
import Derived.Test.YtcmlfkoeajpliaaDoorStrings
import Derived.Test.YtcmlfkoeajpliaaDoorParts
namespace Go.Proofs.YtcmlfkoeajpliaaDoor
open Go.RowKit Go.Lib
set_option maxRecDepth 100000
set_option maxHeartbeats 8000000
theorem name_in (sb lim : Nat) (A : Option Addr) (c : Nat) (L : List En) (i : Nat) (k : Int) (n v : List UInt8) (p e : Nat) (w : World) (hS : StoreAt w sb lim A c L) (hi : L[i]? = some ⟨k, n, v, p, e⟩) (hL : L.length ≤ 1048576) :
    Calls Tryd.prog 55 #[.pointer (some ⟨sb, 0, none⟩), .int .i64 ((i : Int) + 1)] w fun e' w' => e' = .returned (.string (ba' n)) ∧ Below w.heap.size w w' := by
  have HA := Lib.hid (fun (w1 : World) (hb1 : Below w.heap.size w w1) => at_in sb lim A c L i k n v p e w1 (hS.below hb1) hi hL)
  have hfld := fun (x0 x1 x2 x3 x4 : Value) (w : World) => (by kernel_rfl : (Instr.field 90 (.agg #[x0, x1, x2, x3, x4]) 1).run Tryd.prog w = .ok (x1) w)
  clear hS hi hL
  go_enter Tryd.func55, Tryd.ntmps55
  go_wp2_with (go_at_call 58; go_must (refine (HA.out _ (by repeat (with_reducible (first | exact Below.refl _ _ | assumption | apply ba | apply bd | apply bdr | (refine bs ?_ (by first | assumption | (simp; done) | (simp; omega))) | (refine bt ?_ (by assumption)))))).mono ?_); rintro e w1 ⟨rfl, hb1⟩)
  go_ret
  exact ⟨rfl, by repeat (with_reducible (first | exact Below.refl _ _ | assumption | apply ba | apply bd | apply bdr | (refine bs ?_ (by first | assumption | (simp; done) | (simp; omega))) | (refine bt ?_ (by assumption))))⟩
theorem string_in (sb lim : Nat) (A : Option Addr) (c : Nat) (L : List En) (i : Nat) (k : Int) (n v : List UInt8) (p e : Nat) (w : World) (hS : StoreAt w sb lim A c L) (hi : L[i]? = some ⟨k, n, v, p, e⟩) (hL : L.length ≤ 1048576) (h1 : k ≠ 1) (h2 : k ≠ 2) :
    Calls Tryd.prog 28 #[.pointer (some ⟨sb, 0, none⟩), .int .i64 ((i : Int) + 1)] w fun e' w' => e' = .returned (.string (ba' v)) ∧ Below w.heap.size w w' := by
  have HA := Lib.hid (fun (w1 : World) (hb1 : Below w.heap.size w w1) => at_in sb lim A c L i k n v p e w1 (hS.below hb1) hi hL)
  have g1 : (k == 1) = false := by simpa using h1
  have g2 : (k == 2) = false := by simpa using h2
  have g1' : (k != 1) = true := by simpa using h1
  have g2' : (k != 2) = true := by simpa using h2
  clear hS hi hL
  go_enter Tryd.func28, Tryd.ntmps28
  go_wp2_with (go_at_call 58; go_must (refine (HA.out _ (by repeat (with_reducible (first | exact Below.refl _ _ | assumption | apply ba | apply bd | apply bdr | (refine bs ?_ (by first | assumption | (simp; done) | (simp; omega))) | (refine bt ?_ (by assumption)))))).mono ?_); rintro e w1 ⟨rfl, hb1⟩)
  go_ret
  exact ⟨rfl, by repeat (with_reducible (first | exact Below.refl _ _ | assumption | apply ba | apply bd | apply bdr | (refine bs ?_ (by first | assumption | (simp; done) | (simp; omega))) | (refine bt ?_ (by assumption))))⟩
theorem attr_call (H gt gs sb m : Nat) (x0 x1 x2 x4 : Value) (A3 : Option Addr) (q c3 : Nat) (Ps : List (List UInt8 × List UInt8)) (nm vl : List UInt8) (lim c : Nat) (A : Option Addr) (Ls : List En) (w : World) (hS : StoreAt w sb lim A c Ls) (hsH : sb < H) (hsg : sb ≠ gt) (hrow : ∀ b, blkOf A = some b → b < H ∧ b ≠ gt) (hgs : gs < H) (hgg : gs ≠ gt) (hbox : w.cell? ⟨gs, 0, none⟩ = some (.pointer (some ⟨sb, 0, none⟩)))
    (hj : q ≤ 1048576) (h0 : Grow H gt w w 76 2 (.slice A3 q c3) q (rowP Ps) [] none 0 [] #[x0, x1, x2, .slice A3 q c3, x4])
    (HN : Hid (∀ w1 : World, StoreAt w1 sb lim A c Ls → Calls Tryd.prog 55 #[.pointer (some ⟨sb, 0, none⟩), .int .i64 (m : Int)] w1 fun e w' => e = .returned (.string (ba' nm)) ∧ Below w1.heap.size w1 w'))
    (HV : Hid (∀ w1 : World, StoreAt w1 sb lim A c Ls → Calls Tryd.prog 28 #[.pointer (some ⟨sb, 0, none⟩), .int .i64 (m : Int)] w1 fun e w' => e = .returned (.string (ba' vl)) ∧ Below w1.heap.size w1 w')) :
    Calls Tryd.prog 60 #[.int .i64 (m : Int), .pointer (some ⟨gt, 0, none⟩), .pointer (some ⟨gs, 0, none⟩)] w fun e w' => e = .returned (.tuple #[]) ∧ ∃ A5 c5, Grow H gt w w' 76 2 (.slice A5 (q + 1) c5) (q + 1) (rowP (Ps ++ [(nm, vl)])) [] none 0 [] #[x0, x1, x2, .slice A5 (q + 1) c5, x4] := by
  go_enter Tryd.func60, Tryd.ntmps60
  refine attr_region H gt gs sb m x0 x1 x2 x4 A3 q c3 Ps nm vl lim c A Ls w _ hS hsH hsg hrow hgs hgg hbox hj h0 HN HV ?_
  intro a W A5 c5 ha hG
  exact bodyPost_end (v := .tuple #[]) (results_none rfl _ _ _) ha ⟨rfl, A5, c5, hG⟩
theorem kid_call (H gt gs sb m : Nat) (x0 x1 x2 x3 : Value) (A4 : Option Addr) (j c4 : Nat) (L : List Tr) (A3 : Option Addr) (np : Nat) (xs : List Value) (T : PT) (lim c : Nat) (A : Option Addr) (Ls : List En) (w : World) (hS : StoreAt w sb lim A c Ls) (hsH : sb < H) (hsg : sb ≠ gt) (hrow : ∀ b, blkOf A = some b → b < H ∧ b ≠ gt) (hgs : gs < H) (hgg : gs ≠ gt) (hbox : w.cell? ⟨gs, 0, none⟩ = some (.pointer (some ⟨sb, 0, none⟩)))
    (hj : j ≤ 1048576) (hjl : L.length = j) (h0 : Grow H gt w w 33 5 (.slice A4 j c4) j (rowT L) L A3 np xs #[x0, x1, x2, x3, .slice A4 j c4])
    (HT : Hid (∀ w1 : World, StoreAt w1 sb lim A c Ls → Calls Tryd.prog 26 #[.pointer (some ⟨sb, 0, none⟩), .int .i64 (m : Int)] w1 fun e w' => ∃ t' : Tr, e = .returned t'.v ∧ t'.pl = T ∧ t'.In (NewB w1 w') w' ∧ Below w1.heap.size w1 w')) :
    Calls Tryd.prog 61 #[.int .i64 (m : Int), .pointer (some ⟨gt, 0, none⟩), .pointer (some ⟨gs, 0, none⟩)] w fun e w' => e = .returned (.tuple #[]) ∧ ∃ A5 c5 t1, t1.pl = T ∧ Grow H gt w w' 33 5 (.slice A5 (j + 1) c5) (j + 1) (rowT (L ++ [t1])) (L ++ [t1]) A3 np xs #[x0, x1, x2, x3, .slice A5 (j + 1) c5] := by
  go_enter Tryd.func61, Tryd.ntmps61
  refine kid_region H gt gs sb m x0 x1 x2 x3 A4 j c4 L A3 np xs T lim c A Ls w _ hS hsH hsg hrow hgs hgg hbox hj hjl h0 HT ?_
  intro a W A5 c5 t1 ha hpl hin hG
  refine bodyPost_end (v := .tuple #[]) (results_none rfl _ _ _) ha ⟨rfl, A5, c5, t1, hpl, hG.keep, hG.big, hG.lt, hG.own, inL_iff.2 fun x hx => ?_, hG.pairs, hG.box⟩
  rcases List.mem_append.1 hx with hx | hx
  · exact inL_iff.1 hG.trees x hx
  · obtain rfl : x = t1 := by simpa using hx
    exact hin
end Go.Proofs.YtcmlfkoeajpliaaDoor
namespace Go.Proofs.YtcmlfkoeajpliaaDoor
open Go.RowKit Go.Lib
set_option maxRecDepth 100000
set_option maxHeartbeats 8000000
theorem Grow.base {H gt : Nat} {w0 W : World} {e : TypeId} {size : Nat} {v : Value} {n : Nat} {Y : List Value} {L : List Tr} {A3 : Option Addr} {np : Nat} {xs : List Value} {cs : Array Value} (h : Grow H gt w0 W e size v n Y L A3 np xs cs) : Grow H gt W W e size v n Y L A3 np xs cs :=
  { h with keep := Keep.refl _ _ _ }
theorem Grow.over {H gt : Nat} {w0 W W' : World} {e : TypeId} {size : Nat} {v : Value} {n : Nat} {Y : List Value} {L : List Tr} {A3 : Option Addr} {np : Nat} {xs : List Value} {cs : Array Value} (h : Grow H gt W W' e size v n Y L A3 np xs cs) (k : Keep H gt w0 W) : Grow H gt w0 W' e size v n Y L A3 np xs cs :=
  { h with keep := k.trans h.keep }
theorem Grow.kids {H gt : Nat} {w0 W : World} {A3 : Option Addr} {c3 np : Nat} {xs : List Value} {cs : Array Value} (h : Grow H gt w0 W 76 2 (.slice A3 np c3) np xs [] none 0 [] cs) : Grow H gt w0 W 33 5 (.slice none 0 0) 0 (rowT []) [] A3 np xs cs := by
  refine { h with own := World.ownsRow_nil _ _ _ _, trees := by simp [InL], pairs := ?_ }
  obtain ⟨A0, c0, e0, _, hrd⟩ := own_rd h.own
  cases e0
  exact hrd.keep (fun b hb => ⟨(own_lt h.own hb).1, (own_lt h.own hb).2, by simp [Value.ownBlock]⟩) (fun _ _ => rfl)
/-- While the parts are handed on: the pairs, then the kids. -/
def Hand (w3 : World) (gt : Nat) (x0 x1 x2 : Value) (ps : List (List UInt8 × List UInt8)) (ks : List PT) (wx : World) (q : Nat) (W : World) : Prop :=
  Below w3.heap.size w3 wx ∧ w3.heap.size < wx.heap.size ∧
  ((q ≤ ps.length ∧ ∃ A3 c3, Grow wx.heap.size gt wx W 76 2 (.slice A3 q c3) q (rowP (ps.take q)) [] none 0 [] #[x0, x1, x2, .slice A3 q c3, .slice none 0 0]) ∨
   (ps.length ≤ q ∧ ∃ A3 c3 A4 c4 L, plL L = ks.take (q - ps.length) ∧ L.length = q - ps.length ∧ Grow wx.heap.size gt wx W 33 5 (.slice A4 (q - ps.length) c4) (q - ps.length) (rowT L) L A3 ps.length (rowP ps) #[x0, x1, x2, .slice A3 ps.length c3, .slice A4 (q - ps.length) c4]))
theorem Hand.kids {w3 : World} {gt : Nat} {x0 x1 x2 : Value} {ps : List (List UInt8 × List UInt8)} {ks : List PT} {wx : World} {q : Nat} {W : World} (h : Hand w3 gt x0 x1 x2 ps ks wx q W) (hq : ps.length ≤ q) :
    ∃ A3 c3 A4 c4 L, plL L = ks.take (q - ps.length) ∧ L.length = q - ps.length ∧ Grow wx.heap.size gt wx W 33 5 (.slice A4 (q - ps.length) c4) (q - ps.length) (rowT L) L A3 ps.length (rowP ps) #[x0, x1, x2, .slice A3 ps.length c3, .slice A4 (q - ps.length) c4] := by
  rcases h.2.2 with ⟨h1, A3, c3, hG⟩ | ⟨_, h2⟩
  · obtain rfl : q = ps.length := by omega
    rw [List.take_length] at hG
    refine ⟨A3, c3, none, 0, [], by simp [plL], by simp, ?_⟩
    rw [Nat.sub_self]
    exact hG.kids
  · exact h2
def TreeR (T : PT) : Prop := ∀ (w : World) (sb lim : Nat) (A : Option Addr) (c : Nat) (Ls : List En) (b p d m : Nat), m = b + 1 → StoreAt w sb lim A c Ls → LaidAt Ls T b p → Ls.length ≤ 1048576 → T.right d = true →
    Calls Tryd.prog 26 #[.pointer (some ⟨sb, 0, none⟩), .int .i64 (m : Int)] w fun e w' => ∃ t' : Tr, e = .returned t'.v ∧ t'.pl = T ∧ t'.In (NewB w w') w' ∧ Below w.heap.size w w'
theorem hand_attr {w3 : World} {gt gs sb lim c b p : Nat} {A : Option Addr} {Ls : List En} {k : Int} {n v : List UInt8} {ps : List (List UInt8 × List UInt8)} {ks : List PT} {x0 x1 x2 : Value} (hS3 : StoreAt w3 sb lim A c Ls) (hl : LaidAt Ls (.mk k n v ps ks) b p) (hL : Ls.length ≤ 1048576)
    (hsg : sb ≠ gt) (_hgt : gt < w3.heap.size) (hgs : gs < w3.heap.size) (hgg : gs ≠ gt) (hrow : ∀ b, blkOf A = some b → b ≠ gt) (hbox : w3.cell? ⟨gs, 0, none⟩ = some (.pointer (some ⟨sb, 0, none⟩)))
    (wx : World) (q : Nat) (W : World) (hq : q < ps.length) (hI : Hand w3 gt x0 x1 x2 ps ks wx q W) :
    Calls Tryd.prog 60 #[.int .i64 (partM b ps.length ks q : Int), .pointer (some ⟨gt, 0, none⟩), .pointer (some ⟨gs, 0, none⟩)] W fun e w' => e = .returned (.tuple #[]) ∧ Hand w3 gt x0 x1 x2 ps ks wx (q + 1) w' := by
  obtain ⟨h1, h2, h3⟩ := hI
  rcases h3 with ⟨_, A3, c3, hG⟩ | ⟨h3, _⟩
  · obtain ⟨x, hx⟩ : ∃ x, ps[q]? = some x := ⟨_, List.getElem?_eq_getElem hq⟩
    have hat := hl.at_ (lay_pair k n v ps ks b p hx)
    have hlt := (List.getElem?_eq_some_iff.1 hat).1
    have hps : ps.length ≤ 1048576 := by have := hl.len; rw [PT.size] at this; omega
    have hSx : StoreAt wx sb lim A c Ls := hS3.below h1
    have hSW : StoreAt W sb lim A c Ls := hSx.keep hG.keep hSx.1 hsg (fun b hb => ⟨(StoreAt.lt hSx hb).2, hrow b hb⟩)
    have hb1 : W.cell? ⟨gs, 0, none⟩ = some (.pointer (some ⟨sb, 0, none⟩)) := (hG.keep.cell (p := ⟨gs, 0, none⟩) (by show gs < _; omega) hgg).trans ((h1.cell (p := ⟨gs, 0, none⟩) hgs).trans hbox)
    have hm : ((b + (1 + q) : Nat) : Int) + 1 = ((b + 2 + q : Nat) : Int) := by omega
    rw [partM_pair (by omega)]
    refine (attr_call wx.heap.size gt gs sb (b + 2 + q) x0 x1 x2 (.slice none 0 0) A3 q c3 (ps.take q) x.1 x.2 lim c A Ls W hSW (by have := hSx.1; omega) hsg (fun b hb => ⟨(StoreAt.lt hSx hb).2, hrow b hb⟩) (by omega) hgg hb1 (by omega) hG.base
      (Lib.hid fun w1 hs1 => by rw [← hm]; exact name_in sb lim A c Ls _ _ _ _ _ _ w1 hs1 hat hL) (Lib.hid fun w1 hs1 => by rw [← hm]; exact string_in sb lim A c Ls _ _ _ _ _ _ w1 hs1 hat hL (by decide) (by decide))).mono ?_
    rintro e w' ⟨rfl, A5, c5, hG'⟩
    refine ⟨rfl, h1, h2, .inl ⟨hq, A5, c5, ?_⟩⟩
    rw [List.take_add_one, hx]
    exact hG'.over hG.keep
  · omega
theorem hand_kid {w3 : World} {gt gs sb lim c b p d : Nat} {A : Option Addr} {Ls : List En} {k : Int} {n v : List UInt8} {ps : List (List UInt8 × List UInt8)} {ks : List PT} {x0 x1 x2 : Value} (hS3 : StoreAt w3 sb lim A c Ls) (hl : LaidAt Ls (.mk k n v ps ks) b p) (hL : Ls.length ≤ 1048576)
    (hsg : sb ≠ gt) (_hgt : gt < w3.heap.size) (hgs : gs < w3.heap.size) (hgg : gs ≠ gt) (hrow : ∀ b, blkOf A = some b → b ≠ gt) (hbox : w3.cell? ⟨gs, 0, none⟩ = some (.pointer (some ⟨sb, 0, none⟩)))
    (hr : ∀ t ∈ ks, t.right (d + 1) = true ∧ t.k ≠ 3) (ih : ∀ t ∈ ks, TreeR t)
    (wx : World) (q : Nat) (W : World) (hq : ps.length ≤ q) (hq2 : q < ps.length + ks.length) (hI : Hand w3 gt x0 x1 x2 ps ks wx q W) :
    Calls Tryd.prog 61 #[.int .i64 (partM b ps.length ks q : Int), .pointer (some ⟨gt, 0, none⟩), .pointer (some ⟨gs, 0, none⟩)] W fun e w' => e = .returned (.tuple #[]) ∧ Hand w3 gt x0 x1 x2 ps ks wx (q + 1) w' := by
  obtain ⟨A3, c3, A4, c4, L, hpl, hll, hG⟩ := hI.kids hq
  obtain ⟨h1, h2, h9⟩ := hI
  clear h9
  obtain ⟨j, rfl⟩ : ∃ j, q = ps.length + j := ⟨q - ps.length, by omega⟩
  rw [show ps.length + j - ps.length = j by omega] at hG hll hpl
  have hj : j < ks.length := by omega
  obtain ⟨t, ht⟩ : ∃ t, ks[j]? = some t := ⟨_, List.getElem?_eq_getElem hj⟩
  have htm := List.mem_of_getElem? ht
  have hks : ks.length ≤ 1048576 := by have := hl.len; rw [PT.size] at this; have := sizeL_len ks; omega
  have hSx : StoreAt wx sb lim A c Ls := hS3.below h1
  have hSW : StoreAt W sb lim A c Ls := hSx.keep hG.keep hSx.1 hsg (fun b hb => ⟨(StoreAt.lt hSx hb).2, hrow b hb⟩)
  have hb1 : W.cell? ⟨gs, 0, none⟩ = some (.pointer (some ⟨sb, 0, none⟩)) := (hG.keep.cell (p := ⟨gs, 0, none⟩) (by show gs < _; omega) hgg).trans ((h1.cell (p := ⟨gs, 0, none⟩) hgs).trans hbox)
  have hlk := lay_kid hl ht
  rw [partM_kid]
  refine (kid_call wx.heap.size gt gs sb _ x0 x1 x2 (.slice A3 ps.length c3) A4 j c4 L A3 ps.length (rowP ps) t lim c A Ls W hSW (by have := hSx.1; omega) hsg (fun b hb => ⟨(StoreAt.lt hSx hb).2, hrow b hb⟩) (by omega) hgg hb1 (by omega) hll hG.base
    (Lib.hid fun w1 hs1 => ih t htm w1 sb lim A c Ls _ _ _ _ (by omega) hs1 hlk hL (hr t htm).1)).mono ?_
  rintro e w' ⟨rfl, A5, c5, t1, hp1, hG'⟩
  refine ⟨rfl, h1, h2, .inr ⟨by omega, A3, c3, A5, c5, L ++ [t1], ?_, ?_, ?_⟩⟩
  · rw [show ps.length + j + 1 - ps.length = j + 1 by omega, List.take_add_one, ht, plL_map, List.map_append, ← plL_map, hpl]
    show _ ++ [_] = _
    rw [hp1]; rfl
  · rw [List.length_append, hll]; show _ + 1 = _; omega
  · rw [show ps.length + j + 1 - ps.length = j + 1 by omega]
    exact hG'.over hG.keep
end Go.Proofs.YtcmlfkoeajpliaaDoor
namespace Go.Proofs.YtcmlfkoeajpliaaDoor
open Go.RowKit Go.Lib
set_option maxRecDepth 100000
set_option maxHeartbeats 8000000
theorem Hand.keep {w3 : World} {gt : Nat} {x0 x1 x2 : Value} {ps : List (List UInt8 × List UInt8)} {ks : List PT} {wx : World} {q : Nat} {W : World} (h : Hand w3 gt x0 x1 x2 ps ks wx q W) : Keep wx.heap.size gt wx W := by
  rcases h.2.2 with ⟨_, A3, c3, hG⟩ | ⟨_, A3, c3, A4, c4, L, _, _, hG⟩ <;> exact hG.keep
theorem Hand.below {w3 : World} {gt : Nat} {x0 x1 x2 : Value} {ps : List (List UInt8 × List UInt8)} {ks : List PT} {wx : World} {q : Nat} {W W' : World} (h : Hand w3 gt x0 x1 x2 ps ks wx q W) (hb : Below W.heap.size W W') : Hand w3 gt x0 x1 x2 ps ks wx q W' := by
  obtain ⟨h1, h2, h3⟩ := h
  refine ⟨h1, h2, ?_⟩
  rcases h3 with ⟨h, A3, c3, hG⟩ | ⟨h, A3, c3, A4, c4, L, h1, h2, hG⟩
  · exact .inl ⟨h, A3, c3, hG.below hb⟩
  · exact .inr ⟨h, A3, c3, A4, c4, L, h1, h2, hG.below hb⟩
theorem hand_start {w3 : World} {gt : Nat} {x0 x1 x2 : Value} {ps : List (List UInt8 × List UInt8)} {ks : List PT} (hgt : gt < w3.heap.size) (hbk : Blk w3 gt 33 #[x0, x1, x2, .slice none 0 0, .slice none 0 0]) (wx : World) (h1 : Below w3.heap.size w3 wx) (h2 : w3.heap.size < wx.heap.size) :
    Hand w3 gt x0 x1 x2 ps ks wx 0 wx :=
  ⟨h1, h2, .inl ⟨Nat.zero_le _, none, 0, ⟨Keep.refl _ _ _, Nat.le_refl _, by omega, World.ownsRow_nil _ _ _ _, by simp [InL], ⟨by simp, fun h => absurd h (by omega)⟩, hbk.below h1 hgt⟩⟩⟩
theorem hand_all {w3 : World} {gt gs sb lim c b p d : Nat} {A : Option Addr} {Ls : List En} {k : Int} {n v : List UInt8} {ps : List (List UInt8 × List UInt8)} {ks : List PT} (hS3 : StoreAt w3 sb lim A c Ls) (hl : LaidAt Ls (.mk k n v ps ks) b p) (hL : Ls.length ≤ 1048576)
    (hsg : sb ≠ gt) (hgt : gt < w3.heap.size) (hgs : gs < w3.heap.size) (hgg : gs ≠ gt) (hrow : ∀ b, blkOf A = some b → b ≠ gt) (hbox : w3.cell? ⟨gs, 0, none⟩ = some (.pointer (some ⟨sb, 0, none⟩)))
    (hk0 : k ≠ 0) (hr : ∀ t ∈ ks, t.right (d + 1) = true ∧ t.k ≠ 3) (ih : ∀ t ∈ ks, TreeR t) (x0 x1 x2 : Value) (hbk : Blk w3 gt 33 #[x0, x1, x2, .slice none 0 0, .slice none 0 0]) :
    Calls Tryd.prog 59 #[.pointer (some ⟨sb, 0, none⟩), .int .i64 ((b : Int) + 1), .func (.func 60) #[] #[.pointer (some ⟨gt, 0, none⟩), .pointer (some ⟨gs, 0, none⟩)], .func (.func 61) #[] #[.pointer (some ⟨gt, 0, none⟩), .pointer (some ⟨gs, 0, none⟩)]] w3 fun e' w' => e' = .returned (.tuple #[]) ∧ ∃ wx : World, Below w3.heap.size w3 wx ∧ w3.heap.size < wx.heap.size ∧ Hand w3 gt x0 x1 x2 ps ks wx (ps.length + ks.length) w' := by
  have hat := hl.at_ (lay_head k n v ps ks b p)
  rw [Nat.add_zero] at hat
  have hlen := hl.len
  rw [PT.size] at hlen
  refine parts_inv sb lim A c Ls b k n v p (b + (1 + ps.length + sizeL ks)) ps.length (ps.length + ks.length) (partM b ps.length ks) hat hk0 hL (by omega) (parts_of hl (fun t ht => (hr t ht).2)) 60 61 _ _ (fun _ _ => rfl) (fun _ _ => rfl) w3 hS3
    (Hand w3 gt x0 x1 x2 ps ks) (fun wx h1 h2 => hand_start hgt hbk wx h1 h2) (fun wx q W hI => ?_) (fun wx q W b' hI hb1 hb2 => ?_) (fun wx q W W' hI hb => hI.below hb) (fun wx q W hq _ hI => ?_) (fun wx q W hq hq2 hI => ?_)
  · have hSx : StoreAt wx sb lim A c Ls := hS3.below hI.1
    exact hSx.keep hI.keep hSx.1 hsg (fun b hb => ⟨(StoreAt.lt hSx hb).2, hrow b hb⟩)
  · exact hI.keep.2.2.2.2 b' hb2 (by omega)
  · exact hand_attr hS3 hl hL hsg hgt hgs hgg hrow hbox wx q W hq hI
  · exact hand_kid hS3 hl hL hsg hgt hgs hgg hrow hbox hr ih wx q W hq hq2 hI
end Go.Proofs.YtcmlfkoeajpliaaDoor
namespace Go.Proofs.YtcmlfkoeajpliaaDoor
open Go.RowKit Go.Lib
set_option maxRecDepth 100000
set_option maxHeartbeats 8000000
/-- The tree has grown whole, in blocks above its own. -/
def Done (k : Int) (n v : List UInt8) (ps : List (List UInt8 × List UInt8)) (ks : List PT) (w3 : World) (gt : Nat) (w4 : World) : Prop := Below gt w3 w4 ∧ ∃ A3 c3 A4 c4 L, plL L = ks ∧ L.length = ks.length ∧
  Blk w4 gt 33 #[.int .i64 k, .string (ba' n), .string (ba' v), .slice A3 ps.length c3, .slice A4 ks.length c4] ∧ RdP (fun b => gt < b ∧ b < w4.heap.size) w4 2 A3 ps.length (rowP ps) ∧ RdP (fun b => gt < b ∧ b < w4.heap.size) w4 5 A4 ks.length (rowT L) ∧ InL (fun b => gt < b ∧ b < w4.heap.size) w4 L
theorem Hand.done {w3 : World} {gt : Nat} {k : Int} {n v : List UInt8} {ps : List (List UInt8 × List UInt8)} {ks : List PT} {wx w4 : World} (hgt : gt < w3.heap.size) (h : Hand w3 gt (.int .i64 k) (.string (ba' n)) (.string (ba' v)) ps ks wx (ps.length + ks.length) w4) : Done k n v ps ks w3 gt w4 := by
  obtain ⟨A3, c3, A4, c4, L, hpl, hll, hG⟩ := h.kids (Nat.le_add_right _ _)
  obtain ⟨h1, h2, h9⟩ := h
  clear h9
  rw [show ps.length + ks.length - ps.length = ks.length by omega] at hpl hll hG
  rw [List.take_length] at hpl
  have hk := hG.keep
  obtain ⟨A0, c0, e0, _, hrd⟩ := own_rd hG.own
  cases e0
  refine ⟨(h1.mono (by omega)).trans ⟨hk.1, hk.2.1, hk.2.2.1, hk.2.2.2.1, fun b hb => hk.2.2.2.2 b (by omega) (by omega)⟩, A3, c3, A4, c4, L, hpl, hll, hG.box, hG.pairs.keep (fun b hb => ⟨by have := hb.1; omega, hb.2.1⟩) (fun _ _ => rfl), hrd.keep (fun b hb => ?_) (fun _ _ => rfl), inL_iff.2 fun t ht => (inL_iff.1 hG.trees t ht).keep (fun b hb => ⟨by have := hb.1; omega, hb.2.1⟩) (fun _ _ => rfl)⟩
  have := own_lt hG.own hb
  exact ⟨by omega, this.2⟩
theorem tree_walk (k : Int) (n v : List UInt8) (ps : List (List UInt8 × List UInt8)) (ks : List PT) (p e b sb : Nat) (w : World) (_hb6 : b ≤ 1048576) (_hsb : sb < w.heap.size)
    (HAT : Hid (∀ w1 : World, Below w.heap.size w w1 → Calls Tryd.prog 58 #[.pointer (some ⟨sb, 0, none⟩), .int .i64 ((b : Int) + 1)] w1 fun e' w' => e' = .returned (.agg #[.int .i64 k, .string (ba' n), .string (ba' v), .int .i64 (p : Int), .int .i64 (e : Int)]) ∧ Below w1.heap.size w1 w'))
    (HP : Hid (∀ (w3 : World) (gt : Nat), Below w.heap.size w w3 → w.heap.size < gt → gt < w3.heap.size → w3.cell? ⟨w.heap.size, 0, none⟩ = some (.pointer (some ⟨sb, 0, none⟩)) → Blk w3 gt 33 #[.int .i64 k, .string (ba' n), .string (ba' v), .slice none 0 0, .slice none 0 0] →
      Calls Tryd.prog 59 #[.pointer (some ⟨sb, 0, none⟩), .int .i64 ((b : Int) + 1), .func (.func 60) #[] #[.pointer (some ⟨gt, 0, none⟩), .pointer (some ⟨w.heap.size, 0, none⟩)], .func (.func 61) #[] #[.pointer (some ⟨gt, 0, none⟩), .pointer (some ⟨w.heap.size, 0, none⟩)]] w3 fun e' w' => e' = .returned (.tuple #[]) ∧ Done k n v ps ks w3 gt w')) :
    Calls Tryd.prog 26 #[.pointer (some ⟨sb, 0, none⟩), .int .i64 ((b : Int) + 1)] w fun e w' => ∃ t' : Tr, e = .returned t'.v ∧ t'.pl = .mk k n v ps ks ∧ t'.In (NewB w w') w' ∧ Below w.heap.size w w' := by
  go_enter Tryd.func26, Tryd.ntmps26
  go_wp2_with fail
  refine (HAT.out _ (by repeat (with_reducible (first | exact Below.refl _ _ | assumption | apply ba | apply bd | apply bdr | (refine bs ?_ (by first | assumption | (simp; done) | (simp; omega))) | (refine bt ?_ (by assumption)))))).mono ?_
  rintro e' w1 ⟨rfl, hb1⟩
  have hc1 : w1.cell? ⟨w.heap.size, 0, none⟩ = some (.pointer (some ⟨sb, 0, none⟩)) := ((bcell hb1).1 w.heap.size 0 (by simp; omega)).trans (by simp)
  have hbr := Blk.below (Blk.new _ 33 _) hb1 (by simp)
  have z1 : w.heap.size + 2 ≤ w1.heap.size := by have := hb1.size; simpa using this
  have B1 : Below w.heap.size w w1 := (by repeat (with_reducible (first | exact Below.refl _ _ | assumption | apply ba | apply bd | apply bdr | (refine bs ?_ (by first | assumption | (simp; done) | (simp; omega))) | (refine bt ?_ (by assumption)))))
  have y0 : w.heap.size < w1.heap.size := by omega
  have y1 : w.heap.size + 1 < w1.heap.size := by omega
  rw [show (w.alloc (Obj.cells #[Value.pointer (some { block := sb, off := 0 })] 24)).heap.size = w.heap.size + 1 by simp] at hbr
  have HBR := Lib.hid hbr
  clear hb1 HAT hbr
  go_wp2_with fail
  refine (HP.out _ _ ?_ ?_ ?_ ?_ ?_).mono ?_
  · exact ba (ba B1)
  · omega
  · simp
  · rw [World.cell?_alloc_lt _ _ _ (by simp; omega), World.cell?_alloc_lt _ _ _ (by exact y0)]; exact hc1
  · have := Blk.new (w1.alloc (Obj.cells #[Value.int IntKind.i64 k, Value.string (ba' n), Value.string (ba' v), Value.int IntKind.i64 (p : Int), Value.int IntKind.i64 (e : Int)] 90)) 33 #[.int .i64 k, .string (ba' n), .string (ba' v), .slice none 0 0, .slice none 0 0]
    have e1 : (w1.alloc (Obj.cells #[Value.int IntKind.i64 k, Value.string (ba' n), Value.string (ba' v), Value.int IntKind.i64 (p : Int), Value.int IntKind.i64 (e : Int)] 90)).heap.size = w1.heap.size + 1 := by simp
    rw [e1] at this
    exact this
  rintro e' w4 ⟨rfl, hB4, A3, c3, A4, c4, L, hpl, hll, hbk, hr1, hr2, hr3⟩
  have hd0 := hbk.cell 0
  have hd1 := hbk.cell 1
  have hd2 := hbk.cell 2
  have hd3 := hbk.cell 3
  have hd4 := hbk.cell 4
  have hres : Blk w4 (w.heap.size + 1) 33 #[.int .i64 0, .string ⟨#[]⟩, .string ⟨#[]⟩, .slice none 0 0, .slice none 0 0] := (((HBR.out).alloc _).alloc _).below hB4 (by omega)
  have B4 : Below w.heap.size w w4 := (ba (ba B1)).trans (hB4.mono (by omega))
  have z4 : w1.heap.size + 2 ≤ w4.heap.size := by have := hB4.size; simpa using this
  simp only [List.getElem?_toArray, List.getElem?_cons_zero, List.getElem?_cons_succ] at hd0 hd1 hd2 hd3 hd4
  have hs0 := hres.cell 0
  have hs1 := hres.cell 1
  have hs2 := hres.cell 2
  have hs3 := hres.cell 3
  have hs4 := hres.cell 4
  simp only [List.getElem?_toArray, List.getElem?_cons_zero, List.getElem?_cons_succ] at hs0 hs1 hs2 hs3 hs4
  have hf0 := hres.frozen 0
  have hf1 := hres.frozen 1
  have hf2 := hres.frozen 2
  have hf3 := hres.frozen 3
  have hf4 := hres.frozen 4
  have HB4 := Lib.hid hB4; have HPL := Lib.hid hpl; have HLL := Lib.hid hll; have HR1 := Lib.hid hr1; have HR2 := Lib.hid hr2; have HR3 := Lib.hid hr3
  clear hB4 hpl hll hbk hr1 hr2 hr3 hres
  go_wp2_with fail
  have hk : ∀ p : Addr, w.heap.size + 1 < p.block → (((((w4.setCell ⟨w.heap.size + 1, 0, none⟩ (.int .i64 k)).setCell ⟨w.heap.size + 1, 1, none⟩ (.string (ba' n))).setCell ⟨w.heap.size + 1, 2, none⟩ (.string (ba' v))).setCell ⟨w.heap.size + 1, 3, none⟩ (.slice A3 ps.length c3)).setCell ⟨w.heap.size + 1, 4, none⟩ (.slice A4 ks.length c4)).cell? p = w4.cell? p := by
    intro p hp
    rw [World.cell?_setCell_other _ _ _ _ (fun e => by subst e; simp at hp), World.cell?_setCell_other _ _ _ _ (fun e => by subst e; simp at hp), World.cell?_setCell_other _ _ _ _ (fun e => by subst e; simp at hp), World.cell?_setCell_other _ _ _ _ (fun e => by subst e; simp at hp), World.cell?_setCell_other _ _ _ _ (fun e => by subst e; simp at hp)]
  have hq : ∀ b, w1.heap.size + 1 < b ∧ b < w4.heap.size → NewB w (((((w4.setCell ⟨w.heap.size + 1, 0, none⟩ (.int .i64 k)).setCell ⟨w.heap.size + 1, 1, none⟩ (.string (ba' n))).setCell ⟨w.heap.size + 1, 2, none⟩ (.string (ba' v))).setCell ⟨w.heap.size + 1, 3, none⟩ (.slice A3 ps.length c3)).setCell ⟨w.heap.size + 1, 4, none⟩ (.slice A4 ks.length c4)) b := fun b hb => ⟨by omega, by simpa using hb.2⟩
  refine bodyPost_ret (v := .agg #[.int .i64 k, .string (ba' n), .string (ba' v), .slice A3 ps.length c3, .slice A4 ks.length c4]) (by simp [results, Tryd.results26, go_sem, *]) rfl ⟨.mk k n v A3 c3 ps A4 c4 L, ?_, ?_, ?_, ?_⟩
  · show _ = Ending.returned (.agg #[.int .i64 k, .string (ba' n), .string (ba' v), .slice A3 ps.length c3, .slice A4 L.length c4])
    rw [HLL.out]
  · rw [Tr.pl, HPL.out]
  · rw [Tr.In, HLL.out]
    exact ⟨HR1.out.keep hq (fun p hp => hk p (by have := hp.1; omega)), HR2.out.keep hq (fun p hp => hk p (by have := hp.1; omega)), inL_iff.2 fun t ht => (inL_iff.1 HR3.out t ht).keep hq (fun p hp => hk p (by have := hp.1; omega))⟩
  · exact ((((B4.setCell (by simp) _).setCell (by simp) _).setCell (by simp) _).setCell (by simp) _).setCell (by simp) _
theorem tree_any : ∀ T : PT, TreeR T := by
  intro T
  induction T using PT.ind with
  | h k n v ps ks ih =>
    intro w sb lim A c Ls b p d m hm hS hl hL hr
    obtain rfl := hm
    obtain ⟨hk0, hkid⟩ := right_kid hr
    have hat := hl.at_ (lay_head k n v ps ks b p)
    rw [Nat.add_zero] at hat
    have hlen := hl.len
    rw [PT.size] at hlen
    have hsb : sb < w.heap.size := hS.1
    refine tree_walk k n v ps ks p _ b sb w (by omega) hsb (Lib.hid fun w1 hb1 => at_in sb lim A c Ls b k n v p _ w1 (hS.below hb1) hat hL) (Lib.hid fun w3 gt h1 h2 h3 h4 h5 => ?_)
    refine (hand_all (hS.below h1) hl hL (by omega) h3 (by omega) (by omega) (fun b hb => by have := (StoreAt.lt hS hb).2; omega) h4 hk0 hkid ih _ _ _ h5).mono ?_
    rintro e' w' ⟨rfl, wx, h6, h7, h8⟩
    exact ⟨rfl, h8.done h3⟩
end Go.Proofs.YtcmlfkoeajpliaaDoor
namespace Go.Proofs.YtcmlfkoeajpliaaDoor
open Go.RowKit Go.Lib
set_option maxRecDepth 100000
set_option maxHeartbeats 8000000
theorem textE_cons (x : En) (l : List En) : textE (x :: l) = (if x.k = 4 then x.v else []) ++ textE l := rfl
theorem textE_pairs : ∀ (ps : List (List UInt8 × List UInt8)) (b own : Nat), textE (layP ps b own) = []
  | [], _, _ => rfl
  | p :: ps, b, own => by rw [layP, textE_cons, textE_pairs ps]; rfl
theorem textE_lay : ∀ (T : PT) (b p b' p' : Nat), textE (T.lay b p) = textE (T.lay b' p') := by
  intro T
  induction T using PT.ind with
  | h k n v ps ks ih =>
    intro b p b' p'
    have aux : ∀ (L : List PT), (∀ t ∈ L, ∀ b p b' p', textE (t.lay b p) = textE (t.lay b' p')) → ∀ b p b' p', textE (layL L b p) = textE (layL L b' p') := by
      intro L
      induction L with
      | nil => intro _ b p b' p'; rw [layL, layL]
      | cons t L ihL =>
        intro h b p b' p'
        rw [layL, layL, textE_app, textE_app, h t (.head _) b p b' p', ihL (fun t ht => h t (.tail _ ht)) (b + t.size) p (b' + t.size) p']
    rw [PT.lay, PT.lay, textE_cons, textE_cons, textE_app, textE_app, textE_pairs, textE_pairs, aux ks ih _ _ (b' + 1 + ps.length) (b' + 1)]
theorem textE_bulk : ∀ (T : PT) (b p : Nat), (textE (T.lay b p)).length ≤ T.bulk := by
  intro T
  induction T using PT.ind with
  | h k n v ps ks ih =>
    intro b p
    have aux : ∀ (L : List PT), (∀ t ∈ L, ∀ b p, (textE (t.lay b p)).length ≤ t.bulk) → ∀ b p, (textE (layL L b p)).length ≤ bulkL L := by
      intro L
      induction L with
      | nil => intro _ b p; rw [layL]; exact Nat.zero_le _
      | cons t L ihL =>
        intro h b p
        rw [layL, bulkL, textE_app, List.length_append]
        have h1 := h t (.head _) b p
        have h2 := ihL (fun t ht => h t (.tail _ ht)) (b + t.size) p
        omega
    rw [PT.lay, textE_cons, textE_app, textE_pairs, PT.bulk]
    have := aux ks ih (b + 1 + ps.length) (b + 1)
    simp only [List.length_append, List.length_nil]
    split <;> simp <;> omega
theorem cut_lay {L : List En} {T : PT} {b p : Nat} (hl : LaidAt L T b p) : (L.drop b).take T.size = T.lay b p := by
  obtain ⟨pre, post, rfl, rfl⟩ := hl
  have := lay_len T pre.length p
  rw [List.drop_left, ← this, List.take_left]
/-- The string of a tree's first node. -/
def PT.str : PT → List UInt8
  | .mk k n v ps ks => if k = 1 ∨ k = 2 then textE ((PT.mk k n v ps ks).lay 0 0) else v
theorem string_of (sb lim : Nat) (A : Option Addr) (c : Nat) (L : List En) (T : PT) (b p m : Nat) (w : World) (hm : m = b + 1) (hS : StoreAt w sb lim A c L) (hl : LaidAt L T b p) (hL : L.length ≤ 1048576) (hb : T.bulk ≤ 1048576) :
    Calls Tryd.prog 28 #[.pointer (some ⟨sb, 0, none⟩), .int .i64 (m : Int)] w fun e' w' => e' = .returned (.string (ba' T.str)) ∧ Below w.heap.size w w' := by
  obtain ⟨k, n, v, ps, ks⟩ := T
  obtain rfl := hm
  have hat := hl.at_ (lay_head k n v ps ks b p)
  rw [Nat.add_zero] at hat
  have hlen := hl.len
  rw [PT.size] at hlen
  have hcut : (L.drop b).take (b + (1 + ps.length + sizeL ks) - b) = (PT.mk k n v ps ks).lay b p := by
    have e : b + (1 + ps.length + sizeL ks) - b = (PT.mk k n v ps ks).size := by rw [PT.size]; omega
    rw [e]
    exact cut_lay hl
  rw [show ((b + 1 : Nat) : Int) = (b : Int) + 1 by omega]
  rw [PT.str]
  by_cases h1 : k = 1
  · subst h1
    have := string1 sb lim A c L b n v p _ w hS hat hL (by omega) (by omega) (by rw [hcut]; exact Nat.le_trans (textE_bulk _ _ _) hb)
    rw [hcut, textE_lay _ b p 0 0] at this
    rw [if_pos (Or.inl rfl)]
    exact this
  · by_cases h2 : k = 2
    · subst h2
      have := string2 sb lim A c L b n v p _ w hS hat hL (by omega) (by omega) (by rw [hcut]; exact Nat.le_trans (textE_bulk _ _ _) hb)
      rw [hcut, textE_lay _ b p 0 0] at this
      rw [if_pos (Or.inr rfl)]
      exact this
    · rw [if_neg (by omega)]
      exact string_in sb lim A c L b k n v p _ w hS hat hL h1 h2
end Go.Proofs.YtcmlfkoeajpliaaDoor
