/- The numbers of attributes and kids; what is told of a number that is none. No condition beyond what the theorems state. -/
import Derived.Test.YtcmlfkoeajpliaaDoorParts
import Derived.Test.YtcmlfkoeajpliaaDoorGrows
import Derived.Test.YtcmlfkoeajpliaaDoorStrings
namespace Go.Proofs.YtcmlfkoeajpliaaDoor
open Go.RowKit Go.Lib
set_option maxRecDepth 100000
set_option maxHeartbeats 8000000
def rowI (l : List Nat) : List Value := l.map fun (j : Nat) => Value.int .i64 (j : Int)
/-- A row of numbers of a call's own grows in a box. -/
structure GrowI (H gn : Nat) (w0 W : World) (A : Option Addr) (c : Nat) (l : List Nat) : Prop where
  keep : Keep H gn w0 W
  big : H ≤ W.heap.size
  lt : gn < H
  own : W.ownsRow H 3 1 (.slice A l.length c) l.length (rowI l)
  box : Blk W gn 55 #[.slice A l.length c]
theorem GrowI.below {H gn : Nat} {w0 W W' : World} {A : Option Addr} {c : Nat} {l : List Nat} (h : GrowI H gn w0 W A c l) (hb : Below W.heap.size W W') : GrowI H gn w0 W' A c l :=
  ⟨h.keep.below hb h.big, Nat.le_trans h.big hb.size, h.lt, own_below h.own hb, h.box.below hb (by have := h.lt; have := h.big; omega)⟩
theorem one_new (w : World) (x0 : Value) (t : TypeId) : ∀ j u, [x0][j]? = some u → (w.alloc (.cells #[x0] t)).cell? ((⟨w.heap.size, 0, none⟩ : Addr).add j) = some u := by
  intro j u hu
  match j, hu with
  | 0, hu => cases hu; simp [Addr.add]
  | j + 1, hu => simp at hu
theorem put_walk (F : Nat) (hF : F = 72 ∨ F = 83) (H gn m : Nat) (w0 w : World) (A : Option Addr) (c : Nat) (l : List Nat) (hG : GrowI H gn w0 w A c l) (hl : l.length ≤ 1048576) :
    Calls Tryd.prog F #[.int .i64 (m : Int), .pointer (some ⟨gn, 0, none⟩)] w fun e w' => e = .returned (.tuple #[]) ∧ ∃ A' c', GrowI H gn w0 w' A' c' (l ++ [m]) := by
  obtain ⟨i3, hi3, hz30, hz31, hz32⟩ := info_parts int_info
  obtain ⟨h1, h2, h3, h4, h5⟩ := hG
  have hc := h5.cell 0
  simp only [List.getElem?_toArray, List.getElem?_cons_zero] at hc
  have hlt := h5.lt
  obtain ⟨n, hn⟩ : ∃ n, l.length = n := ⟨_, rfl⟩
  rw [hn] at h4 hc hl h5
  have HO := Lib.hid h4; have HK := Lib.hid h1; have HB := Lib.hid h5; have HN := Lib.hid hn
  clear h1 h4 h5 hn
  have fin : ∀ (A5 : Option Addr) (c5 : Nat) (w5 : World), w5.ownsRow H 3 1 (.slice A5 (n + 1) c5) (n + 1) (rowI l ++ [.int .i64 (m : Int)]) → (w.alloc (.cells #[.int .i64 (m : Int)] 3)).grownBy w5 (Value.slice A n c).ownBlock →
      ((Value.slice A5 (n + 1) c5).ownBlock = (Value.slice A n c).ownBlock ∨ (Value.slice A5 (n + 1) c5).ownBlock = some (w.alloc (.cells #[.int .i64 (m : Int)] 3)).heap.size) → GrowI H gn w0 (w5.setCell ⟨gn, 0, none⟩ (.slice A5 (n + 1) c5)) A5 c5 (l ++ [m]) := by
    intro A5 c5 w5 ho hg hat
    have hne : some gn ≠ (Value.slice A n c).ownBlock := fun e => by have := (own_lt HO.out e.symm).1; omega
    have hk : Keep H gn w0 w5 := (HK.out.alloc h2 _).grown hg (by simp; omega) (fun b hb => (own_lt HO.out hb).1)
    have hb : Blk w5 gn 55 #[.slice A n c] := (HB.out.alloc _).grown hg hne
    have hsz : w.heap.size + 1 ≤ w5.heap.size := by have := hg.size; simpa using this
    have hln : (l ++ [m]).length = n + 1 := by rw [List.length_append, HN.out]; rfl
    have hrw : rowI (l ++ [m]) = rowI l ++ [.int .i64 (m : Int)] := by unfold rowI; simp
    refine ⟨hk.set _ _ (.inl rfl), by simp; omega, h3, ?_, ?_⟩
    · rw [hln, hrw]; exact ownsRow_setCell_below ho (by exact h3) _
    · rw [hln]; exact hb.set_ 0 _
  have FIN := Lib.hid fin
  clear fin
  rcases hF with rfl | rfl
  · go_enter Tryd.func72, Tryd.ntmps72
    have hfr : w.frozen? ⟨gn, 0, none⟩ = false := HB.out.frozen 0
    go_wp2_with (first
      | (at_builtin
         go_must (refine wpList_append_any _ rfl (.tmp 3) (.tmp 5) _ rfl H 3 i3 _ 1 8 Tryd.underlying55 hi3 hz30 hz31 hz32 rfl (by omega) (.slice A n c) n (rowI l) rfl (HO.out.alloc _) (w.heap.size + 1) (some ⟨w.heap.size, 0, none⟩) 1 1 [.int .i64 (m : Int)] rfl ⟨rfl, fun _ => ⟨_, rfl, by simp, one_new _ _ _⟩⟩ (by intro u hu; simp at hu; subst hu; rfl) (by simp only [maxLen]; omega) (by omega) (by simp; omega) ?_)
         intro v5 w5 hown5 hg5 hat5
         obtain ⟨A5, c5, rfl⟩ := own_slice hown5
         have hne : some gn ≠ (Value.slice A n c).ownBlock := fun e => by have := (own_lt HO.out e.symm).1; omega
         have hb5 := (HB.out.alloc (.cells #[.int .i64 (m : Int)] 3)).grown hg5 hne
         have hc5 := hb5.cell 0
         simp only [List.getElem?_toArray, List.getElem?_cons_zero] at hc5
         have hf5 := hb5.frozen 0
         have HX := Lib.hid (FIN.out A5 c5 w5 hown5 hg5 hat5)
         clear hown5 hg5 hat5 hne hb5))
    go_end0
    exact ⟨rfl, _, _, HX.out⟩
  · go_enter Tryd.func83, Tryd.ntmps83
    have hfr : w.frozen? ⟨gn, 0, none⟩ = false := HB.out.frozen 0
    go_wp2_with (first
      | (at_builtin
         go_must (refine wpList_append_any _ rfl (.tmp 3) (.tmp 5) _ rfl H 3 i3 _ 1 8 Tryd.underlying55 hi3 hz30 hz31 hz32 rfl (by omega) (.slice A n c) n (rowI l) rfl (HO.out.alloc _) (w.heap.size + 1) (some ⟨w.heap.size, 0, none⟩) 1 1 [.int .i64 (m : Int)] rfl ⟨rfl, fun _ => ⟨_, rfl, by simp, one_new _ _ _⟩⟩ (by intro u hu; simp at hu; subst hu; rfl) (by simp only [maxLen]; omega) (by omega) (by simp; omega) ?_)
         intro v5 w5 hown5 hg5 hat5
         obtain ⟨A5, c5, rfl⟩ := own_slice hown5
         have hne : some gn ≠ (Value.slice A n c).ownBlock := fun e => by have := (own_lt HO.out e.symm).1; omega
         have hb5 := (HB.out.alloc (.cells #[.int .i64 (m : Int)] 3)).grown hg5 hne
         have hc5 := hb5.cell 0
         simp only [List.getElem?_toArray, List.getElem?_cons_zero] at hc5
         have hf5 := hb5.frozen 0
         have HX := Lib.hid (FIN.out A5 c5 w5 hown5 hg5 hat5)
         clear hown5 hg5 hat5 hne hb5))
    go_end0
    exact ⟨rfl, _, _, HX.out⟩
theorem none_walk73 (m : Nat) (w : World) : Calls Tryd.prog 73 #[.int .i64 (m : Int)] w fun e w' => e = .returned (.tuple #[]) ∧ w = w' := by
  go_enter Tryd.func73, Tryd.ntmps73
  go_wp2
  go_end0
  exact ⟨rfl, rfl⟩
theorem none_walk82 (m : Nat) (w : World) : Calls Tryd.prog 82 #[.int .i64 (m : Int)] w fun e w' => e = .returned (.tuple #[]) ∧ w = w' := by
  go_enter Tryd.func82, Tryd.ntmps82
  go_wp2
  go_end0
  exact ⟨rfl, rfl⟩
end Go.Proofs.YtcmlfkoeajpliaaDoor
namespace Go.Proofs.YtcmlfkoeajpliaaDoor
open Go.RowKit Go.Lib
set_option maxRecDepth 100000
set_option maxHeartbeats 8000000
/-- While the parts are handed on: the numbers so far. -/
def HandI (w3 : World) (gn : Nat) (L : Nat → List Nat) (wx : World) (q : Nat) (W : World) : Prop :=
  Below w3.heap.size w3 wx ∧ w3.heap.size < wx.heap.size ∧ ∃ A c, GrowI wx.heap.size gn wx W A c (L q)
theorem HandI.below {w3 : World} {gn : Nat} {L : Nat → List Nat} {wx : World} {q : Nat} {W W' : World} (h : HandI w3 gn L wx q W) (hb : Below W.heap.size W W') : HandI w3 gn L wx q W' := by
  obtain ⟨h1, h2, A, c, hG⟩ := h
  exact ⟨h1, h2, A, c, hG.below hb⟩
theorem hand_put {w3 : World} {gn : Nat} {L : Nat → List Nat} {wx : World} {q m : Nat} {W : World} (F : Nat) (hF : F = 72 ∨ F = 83) (h : HandI w3 gn L wx q W) (hL : L (q + 1) = L q ++ [m]) (hl : (L q).length ≤ 1048576) :
    Calls Tryd.prog F #[.int .i64 (m : Int), .pointer (some ⟨gn, 0, none⟩)] W fun e w' => e = .returned (.tuple #[]) ∧ HandI w3 gn L wx (q + 1) w' := by
  obtain ⟨h1, h2, A, c, hG⟩ := h
  refine (put_walk F hF _ _ m wx W A c _ hG hl).mono ?_
  rintro e w' ⟨rfl, A5, c5, h5⟩
  exact ⟨rfl, h1, h2, A5, c5, by rw [hL]; exact h5⟩
theorem hand_none {w3 : World} {gn : Nat} {L : Nat → List Nat} {wx : World} {q m : Nat} {W : World} (F : Nat) (hF : F = 73 ∨ F = 82) (h : HandI w3 gn L wx q W) (hL : L (q + 1) = L q) :
    Calls Tryd.prog F #[.int .i64 (m : Int)] W fun e w' => e = .returned (.tuple #[]) ∧ HandI w3 gn L wx (q + 1) w' := by
  have h' : HandI w3 gn L wx (q + 1) W := by obtain ⟨h1, h2, A, c, hG⟩ := h; exact ⟨h1, h2, A, c, by rw [hL]; exact hG⟩
  rcases hF with rfl | rfl
  · exact (none_walk73 m W).mono fun e w' ⟨h1, h2⟩ => ⟨h1, h2 ▸ h'⟩
  · exact (none_walk82 m W).mono fun e w' ⟨h1, h2⟩ => ⟨h1, h2 ▸ h'⟩
theorem handI_all {w3 : World} {gn sb lim c b p d : Nat} {A : Option Addr} {Ls : List En} {k : Int} {n v : List UInt8} {ps : List (List UInt8 × List UInt8)} {ks : List PT} (L : Nat → List Nat) (fa fk : Nat) (ca ck : Array Value) (ea : ∀ args w, (callFunc fa args).run Tryd.prog w = .ok (.enter fa args) w) (ek : ∀ args w, (callFunc fk args).run Tryd.prog w = .ok (.enter fk args) w)
    (hf : (fa = 72 ∧ ca = #[.pointer (some ⟨gn, 0, none⟩)] ∧ fk = 73 ∧ ck = #[] ∧ (∀ q, q < ps.length → L (q + 1) = L q ++ [partM b ps.length ks q]) ∧ ∀ q, ps.length ≤ q → L (q + 1) = L q) ∨
      (fa = 82 ∧ ca = #[] ∧ fk = 83 ∧ ck = #[.pointer (some ⟨gn, 0, none⟩)] ∧ (∀ q, q < ps.length → L (q + 1) = L q) ∧ ∀ q, ps.length ≤ q → L (q + 1) = L q ++ [partM b ps.length ks q])) (hL0 : L 0 = []) (hLl : ∀ q, q ≤ ps.length + ks.length → (L q).length ≤ 1048576)
    (hS3 : StoreAt w3 sb lim A c Ls) (hl : LaidAt Ls (.mk k n v ps ks) b p) (hL : Ls.length ≤ 1048576) (hsg : sb ≠ gn) (hgn : gn < w3.heap.size) (hrow : ∀ b, blkOf A = some b → b ≠ gn) (hr : (PT.mk k n v ps ks).right d = true)
    (hbk : Blk w3 gn 55 #[.slice none 0 0]) :
    Calls Tryd.prog 59 #[.pointer (some ⟨sb, 0, none⟩), .int .i64 ((b : Int) + 1), .func (.func fa) #[] ca, .func (.func fk) #[] ck] w3 fun e' w' => e' = .returned (.tuple #[]) ∧ ∃ wx : World, Below w3.heap.size w3 wx ∧ w3.heap.size < wx.heap.size ∧ HandI w3 gn L wx (ps.length + ks.length) w' := by
  obtain ⟨hk0, hkid⟩ := right_kid hr
  have hat := hl.at_ (lay_head k n v ps ks b p)
  rw [Nat.add_zero] at hat
  have hlen := hl.len
  rw [PT.size] at hlen
  refine parts_inv sb lim A c Ls b k n v p (b + (1 + ps.length + sizeL ks)) ps.length (ps.length + ks.length) (partM b ps.length ks) hat hk0 hL (by omega) (parts_of hl (fun t ht => (hkid t ht).2)) fa fk _ _ ea ek w3 hS3
    (HandI w3 gn L) (fun wx h1 h2 => ?_) (fun wx q W hI => ?_) (fun wx q W b' hI hb1 hb2 => ?_) (fun wx q W W' hI hb => hI.below hb) (fun wx q W hq hq2 hI => ?_) (fun wx q W hq hq2 hI => ?_)
  · refine ⟨h1, h2, none, 0, ?_⟩
    rw [hL0]
    exact ⟨Keep.refl _ _ _, Nat.le_refl _, by omega, World.ownsRow_nil _ _ _ _, hbk.below h1 hgn⟩
  · obtain ⟨h1, h2, A', c', hG⟩ := hI
    have hSx : StoreAt wx sb lim A c Ls := hS3.below h1
    exact hSx.keep hG.keep hSx.1 hsg (fun b hb => ⟨(StoreAt.lt hSx hb).2, hrow b hb⟩)
  · obtain ⟨h1, h2, A', c', hG⟩ := hI
    exact hG.keep.2.2.2.2 b' hb2 (by omega)
  · rcases hf with ⟨rfl, rfl, _, _, h1, _⟩ | ⟨rfl, rfl, _, _, h1, _⟩
    · exact hand_put 72 (.inl rfl) hI (h1 q hq) (hLl q (by omega))
    · exact hand_none 82 (.inr rfl) hI (h1 q hq)
  · rcases hf with ⟨_, _, rfl, rfl, _, h1⟩ | ⟨_, _, rfl, rfl, _, h1⟩
    · exact hand_none 73 (.inl rfl) hI (h1 q hq)
    · exact hand_put 83 (.inr rfl) hI (h1 q hq) (hLl q (by omega))
theorem this_lt {H gn : Nat} {w0 W : World} {A : Option Addr} {c : Nat} {l : List Nat} (h : GrowI H gn w0 W A c l) {b : Nat} (hb : (Value.slice A l.length c).ownBlock = some b) : b < W.heap.size := (own_lt h.own hb).2
theorem attrs_walk (b sb : Nat) (l : List Nat) (w : World) (_hsb : sb < w.heap.size)
    (HP : Hid (∀ w3 : World, Below w.heap.size w w3 → w.heap.size < w3.heap.size → Blk w3 w.heap.size 55 #[.slice none 0 0] →
      Calls Tryd.prog 59 #[.pointer (some ⟨sb, 0, none⟩), .int .i64 ((b : Int) + 1), .func (.func 72) #[] #[.pointer (some ⟨w.heap.size, 0, none⟩)], .func (.func 73) #[] #[]] w3 fun e' w' => e' = .returned (.tuple #[]) ∧ ∃ wx : World, Below w3.heap.size w3 wx ∧ w3.heap.size < wx.heap.size ∧ ∃ A c, GrowI wx.heap.size w.heap.size wx w' A c l)) :
    Calls Tryd.prog 47 #[.pointer (some ⟨sb, 0, none⟩), .int .i64 ((b : Int) + 1)] w fun e w' => ∃ A c, e = .returned (.slice A l.length c) ∧ RdP (fun b => w.heap.size < b ∧ b < w'.heap.size) w' 1 A l.length (rowI l) ∧ Below w.heap.size w w' := by
  go_enter Tryd.func47, Tryd.ntmps47
  go_wp2_with fail
  refine (HP.out _ ?_ ?_ ?_).mono ?_
  · exact ba (Below.refl _ _)
  · simp
  · exact Blk.new _ _ _
  rintro e' w4 ⟨rfl, wx, h1, h2, A, c, hG⟩
  have hbk := hG.box
  have hc := hbk.cell 0
  simp only [List.getElem?_toArray, List.getElem?_cons_zero] at hc
  have B4 : Below w.heap.size w w4 := by
    refine (ba (Below.refl _ _)).trans ((h1.mono (by simp)).trans ⟨hG.keep.1, hG.keep.2.1, hG.keep.2.2.1, hG.keep.2.2.2.1, fun b hb => hG.keep.2.2.2.2 b (by simp at h2; omega) (by omega)⟩)
  have hwx : w.heap.size < wx.heap.size := by simp at h2; omega
  have HG := Lib.hid hG; have HX := Lib.hid hwx
  clear hbk h1 h2 hG hwx
  go_wp2
  go_ret
  refine ⟨A, c, rfl, ?_, B4⟩
  obtain ⟨A0, c0, e0, _, hrd⟩ := own_rd HG.out.own
  cases e0
  exact hrd.keep (fun b hb => by have := own_lt HG.out.own hb; have := HX.out; exact ⟨by omega, this_lt HG.out hb⟩) (fun _ _ => rfl)
theorem kids_walk (b sb : Nat) (l : List Nat) (w : World) (_hsb : sb < w.heap.size)
    (HP : Hid (∀ w3 : World, Below w.heap.size w w3 → w.heap.size < w3.heap.size → Blk w3 w.heap.size 55 #[.slice none 0 0] →
      Calls Tryd.prog 59 #[.pointer (some ⟨sb, 0, none⟩), .int .i64 ((b : Int) + 1), .func (.func 82) #[] #[], .func (.func 83) #[] #[.pointer (some ⟨w.heap.size, 0, none⟩)]] w3 fun e' w' => e' = .returned (.tuple #[]) ∧ ∃ wx : World, Below w3.heap.size w3 wx ∧ w3.heap.size < wx.heap.size ∧ ∃ A c, GrowI wx.heap.size w.heap.size wx w' A c l)) :
    Calls Tryd.prog 57 #[.pointer (some ⟨sb, 0, none⟩), .int .i64 ((b : Int) + 1)] w fun e w' => ∃ A c, e = .returned (.slice A l.length c) ∧ RdP (fun b => w.heap.size < b ∧ b < w'.heap.size) w' 1 A l.length (rowI l) ∧ Below w.heap.size w w' := by
  go_enter Tryd.func57, Tryd.ntmps57
  go_wp2_with fail
  refine (HP.out _ ?_ ?_ ?_).mono ?_
  · exact ba (Below.refl _ _)
  · simp
  · exact Blk.new _ _ _
  rintro e' w4 ⟨rfl, wx, h1, h2, A, c, hG⟩
  have hbk := hG.box
  have hc := hbk.cell 0
  simp only [List.getElem?_toArray, List.getElem?_cons_zero] at hc
  have B4 : Below w.heap.size w w4 := by
    refine (ba (Below.refl _ _)).trans ((h1.mono (by simp)).trans ⟨hG.keep.1, hG.keep.2.1, hG.keep.2.2.1, hG.keep.2.2.2.1, fun b hb => hG.keep.2.2.2.2 b (by simp at h2; omega) (by omega)⟩)
  have hwx : w.heap.size < wx.heap.size := by simp at h2; omega
  have HG := Lib.hid hG; have HX := Lib.hid hwx
  clear hbk h1 h2 hG hwx
  go_wp2
  go_ret
  refine ⟨A, c, rfl, ?_, B4⟩
  obtain ⟨A0, c0, e0, _, hrd⟩ := own_rd HG.out.own
  cases e0
  exact hrd.keep (fun b hb => by have := own_lt HG.out.own hb; have := HX.out; exact ⟨by omega, this_lt HG.out hb⟩) (fun _ _ => rfl)
/-- The numbers of the attributes, and of the kids. -/
def attrsN (b np : Nat) : List Nat := (List.range np).map fun j => b + 2 + j
def kidsN (b np : Nat) (ks : List PT) : List Nat := (List.range ks.length).map fun j => b + 2 + np + sizeL (ks.take j)
theorem attrsN_any (sb lim : Nat) (A : Option Addr) (c : Nat) (Ls : List En) (k : Int) (n v : List UInt8) (ps : List (List UInt8 × List UInt8)) (ks : List PT) (b p d : Nat) (w : World) (hS : StoreAt w sb lim A c Ls) (hl : LaidAt Ls (.mk k n v ps ks) b p) (hL : Ls.length ≤ 1048576) (hr : (PT.mk k n v ps ks).right d = true) :
    Calls Tryd.prog 47 #[.pointer (some ⟨sb, 0, none⟩), .int .i64 ((b : Int) + 1)] w fun e w' => ∃ A c, e = .returned (.slice A (attrsN b ps.length).length c) ∧ RdP (fun b => w.heap.size < b ∧ b < w'.heap.size) w' 1 A (attrsN b ps.length).length (rowI (attrsN b ps.length)) ∧ Below w.heap.size w w' := by
  have hlen := hl.len
  rw [PT.size] at hlen
  have hsb := hS.1
  refine attrs_walk b sb _ w hsb (Lib.hid fun w3 h1 h2 h3 => ?_)
  refine (handI_all (fun q => (List.range (min q ps.length)).map fun j => b + 2 + j) 72 73 _ _ (fun _ _ => rfl) (fun _ _ => rfl) (.inl ⟨rfl, rfl, rfl, rfl, fun q hq => ?_, fun q hq => ?_⟩) (by simp) (fun q hq => by simp; omega) (hS.below h1) hl hL (by omega) h2 (fun b hb => by have := (StoreAt.lt hS hb).2; omega) hr h3).mono ?_
  · rw [Nat.min_eq_left (by omega), Nat.min_eq_left (by omega), List.range_succ, List.map_append, partM_pair (by omega)]; rfl
  · rw [Nat.min_eq_right (by omega), Nat.min_eq_right (by omega)]
  · rintro e w' ⟨rfl, wx, h4, h5, _, _, h6⟩
    dsimp only at h6
    rw [Nat.min_eq_right (by omega)] at h6
    exact ⟨rfl, wx, h4, h5, h6⟩
theorem kidsN_any (sb lim : Nat) (A : Option Addr) (c : Nat) (Ls : List En) (k : Int) (n v : List UInt8) (ps : List (List UInt8 × List UInt8)) (ks : List PT) (b p d : Nat) (w : World) (hS : StoreAt w sb lim A c Ls) (hl : LaidAt Ls (.mk k n v ps ks) b p) (hL : Ls.length ≤ 1048576) (hr : (PT.mk k n v ps ks).right d = true) :
    Calls Tryd.prog 57 #[.pointer (some ⟨sb, 0, none⟩), .int .i64 ((b : Int) + 1)] w fun e w' => ∃ A c, e = .returned (.slice A (kidsN b ps.length ks).length c) ∧ RdP (fun b => w.heap.size < b ∧ b < w'.heap.size) w' 1 A (kidsN b ps.length ks).length (rowI (kidsN b ps.length ks)) ∧ Below w.heap.size w w' := by
  have hlen := hl.len
  rw [PT.size] at hlen
  have hkl := sizeL_len ks
  have hsb := hS.1
  refine kids_walk b sb _ w hsb (Lib.hid fun w3 h1 h2 h3 => ?_)
  refine (handI_all (fun q => (List.range (q - ps.length)).map fun j => b + 2 + ps.length + sizeL (ks.take j)) 82 83 _ _ (fun _ _ => rfl) (fun _ _ => rfl) (.inr ⟨rfl, rfl, rfl, rfl, fun q hq => ?_, fun q hq => ?_⟩) (by simp) (fun q hq => by simp; omega) (hS.below h1) hl hL (by omega) h2 (fun b hb => by have := (StoreAt.lt hS hb).2; omega) hr h3).mono ?_
  · rw [show q + 1 - ps.length = 0 by omega, show q - ps.length = 0 by omega]
  · obtain ⟨j, rfl⟩ : ∃ j, q = ps.length + j := ⟨q - ps.length, by omega⟩
    rw [show ps.length + j + 1 - ps.length = j + 1 by omega, show ps.length + j - ps.length = j by omega, List.range_succ, List.map_append, partM_kid]; rfl
  · rintro e w' ⟨rfl, wx, h4, h5, _, _, h6⟩
    dsimp only at h6
    rw [show ps.length + ks.length - ps.length = ks.length by omega] at h6
    exact ⟨rfl, wx, h4, h5, h6⟩
end Go.Proofs.YtcmlfkoeajpliaaDoor
namespace Go.Proofs.YtcmlfkoeajpliaaDoor
open Go.RowKit Go.Lib
set_option maxRecDepth 100000
set_option maxHeartbeats 8000000
theorem at_out (sb lim : Nat) (A : Option Addr) (c : Nat) (L : List En) (m : Int) (w : World) (hS : StoreAt w sb lim A c L) (_hL : L.length ≤ 1048576) (hm : m < 1 ∨ (L.length : Int) < m) :
    Calls Tryd.prog 58 #[.pointer (some ⟨sb, 0, none⟩), .int .i64 m] w fun e' w' => e' = .returned (.agg #[.int .i64 0, .string ⟨#[]⟩, .string ⟨#[]⟩, .int .i64 0, .int .i64 0]) ∧ Below w.heap.size w w' := by
  have HE := Lib.hid (fun (w1 : World) (hb1 : Below w.heap.size w w1) => len_same sb lim A c L w1 (hS.below hb1))
  obtain ⟨h0, h1, h2, h3, h4⟩ := hS
  obtain ⟨ln, hn⟩ : ∃ n, L.length = n := ⟨_, rfl⟩
  rw [hn] at h2 HE hm
  clear hn h4
  by_cases g : m < 1
  · have g1 : decide (m < 1) = true := by simpa using g
    go_enter Tryd.func58, Tryd.ntmps58
    go_wp2
    exact bodyPost_ret (v := .agg #[.int .i64 0, .string ⟨#[]⟩, .string ⟨#[]⟩, .int .i64 0, .int .i64 0]) (by simp [results, Tryd.results58, go_sem, *]) rfl ⟨rfl, (by repeat (with_reducible (first | exact Below.refl _ _ | assumption | apply ba | apply bd | apply bdr | (refine bs ?_ (by first | assumption | (simp; done) | (simp; omega))) | (refine bt ?_ (by assumption)))))⟩
  · have g1 : decide (m < 1) = false := by simpa using g
    have g2 : decide (m > (ln : Int)) = true := by simp; omega
    have g3 : decide ((ln : Int) < m) = true := by simp; omega
    clear hm
    go_enter Tryd.func58, Tryd.ntmps58
    go_wp2_with (go_at_call 22; go_must (refine (HE.out _ (by repeat (with_reducible (first | exact Below.refl _ _ | assumption | apply ba | apply bd | apply bdr | (refine bs ?_ (by first | assumption | (simp; done) | (simp; omega))) | (refine bt ?_ (by assumption)))))).mono ?_); rintro e w9 ⟨rfl, rfl⟩)
    exact bodyPost_ret (v := .agg #[.int .i64 0, .string ⟨#[]⟩, .string ⟨#[]⟩, .int .i64 0, .int .i64 0]) (by simp [results, Tryd.results58, go_sem, *]) rfl ⟨rfl, (by repeat (with_reducible (first | exact Below.refl _ _ | assumption | apply ba | apply bd | apply bdr | (refine bs ?_ (by first | assumption | (simp; done) | (simp; omega))) | (refine bt ?_ (by assumption)))))⟩
theorem kind_out (sb : Nat) (m : Int) (w : World) (HA : Hid (∀ w1 : World, Below w.heap.size w w1 → Calls Tryd.prog 58 #[.pointer (some ⟨sb, 0, none⟩), .int .i64 m] w1 fun e' w' => e' = .returned (.agg #[.int .i64 0, .string ⟨#[]⟩, .string ⟨#[]⟩, .int .i64 0, .int .i64 0]) ∧ Below w1.heap.size w1 w')) :
    Calls Tryd.prog 32 #[.pointer (some ⟨sb, 0, none⟩), .int .i64 m] w fun e' w' => e' = .returned (.int .i64 0) ∧ Below w.heap.size w w' := by
  have hfld := fun (x0 x1 x2 x3 x4 : Value) (w : World) => (by kernel_rfl : (Instr.field 90 (.agg #[x0, x1, x2, x3, x4]) 0).run Tryd.prog w = .ok (x0) w)
  go_enter Tryd.func32, Tryd.ntmps32
  go_wp2_with (go_at_call 58; go_must (refine (HA.out _ (by repeat (with_reducible (first | exact Below.refl _ _ | assumption | apply ba | apply bd | apply bdr | (refine bs ?_ (by first | assumption | (simp; done) | (simp; omega))) | (refine bt ?_ (by assumption)))))).mono ?_); rintro e w1 ⟨rfl, hb1⟩)
  go_ret
  exact ⟨rfl, (by repeat (with_reducible (first | exact Below.refl _ _ | assumption | apply ba | apply bd | apply bdr | (refine bs ?_ (by first | assumption | (simp; done) | (simp; omega))) | (refine bt ?_ (by assumption)))))⟩
theorem name_out (sb : Nat) (m : Int) (w : World) (HA : Hid (∀ w1 : World, Below w.heap.size w w1 → Calls Tryd.prog 58 #[.pointer (some ⟨sb, 0, none⟩), .int .i64 m] w1 fun e' w' => e' = .returned (.agg #[.int .i64 0, .string ⟨#[]⟩, .string ⟨#[]⟩, .int .i64 0, .int .i64 0]) ∧ Below w1.heap.size w1 w')) :
    Calls Tryd.prog 55 #[.pointer (some ⟨sb, 0, none⟩), .int .i64 m] w fun e' w' => e' = .returned (.string ⟨#[]⟩) ∧ Below w.heap.size w w' := by
  have hfld := fun (x0 x1 x2 x3 x4 : Value) (w : World) => (by kernel_rfl : (Instr.field 90 (.agg #[x0, x1, x2, x3, x4]) 1).run Tryd.prog w = .ok (x1) w)
  go_enter Tryd.func55, Tryd.ntmps55
  go_wp2_with (go_at_call 58; go_must (refine (HA.out _ (by repeat (with_reducible (first | exact Below.refl _ _ | assumption | apply ba | apply bd | apply bdr | (refine bs ?_ (by first | assumption | (simp; done) | (simp; omega))) | (refine bt ?_ (by assumption)))))).mono ?_); rintro e w1 ⟨rfl, hb1⟩)
  go_ret
  exact ⟨rfl, (by repeat (with_reducible (first | exact Below.refl _ _ | assumption | apply ba | apply bd | apply bdr | (refine bs ?_ (by first | assumption | (simp; done) | (simp; omega))) | (refine bt ?_ (by assumption)))))⟩
theorem parent_out (sb : Nat) (m : Int) (w : World) (HA : Hid (∀ w1 : World, Below w.heap.size w w1 → Calls Tryd.prog 58 #[.pointer (some ⟨sb, 0, none⟩), .int .i64 m] w1 fun e' w' => e' = .returned (.agg #[.int .i64 0, .string ⟨#[]⟩, .string ⟨#[]⟩, .int .i64 0, .int .i64 0]) ∧ Below w1.heap.size w1 w')) :
    Calls Tryd.prog 31 #[.pointer (some ⟨sb, 0, none⟩), .int .i64 m] w fun e' w' => e' = .returned (.int .i64 0) ∧ Below w.heap.size w w' := by
  have hfld := fun (x0 x1 x2 x3 x4 : Value) (w : World) => (by kernel_rfl : (Instr.field 90 (.agg #[x0, x1, x2, x3, x4]) 3).run Tryd.prog w = .ok (x3) w)
  go_enter Tryd.func31, Tryd.ntmps31
  go_wp2_with (go_at_call 58; go_must (refine (HA.out _ (by repeat (with_reducible (first | exact Below.refl _ _ | assumption | apply ba | apply bd | apply bdr | (refine bs ?_ (by first | assumption | (simp; done) | (simp; omega))) | (refine bt ?_ (by assumption)))))).mono ?_); rintro e w1 ⟨rfl, hb1⟩)
  go_ret
  exact ⟨rfl, (by repeat (with_reducible (first | exact Below.refl _ _ | assumption | apply ba | apply bd | apply bdr | (refine bs ?_ (by first | assumption | (simp; done) | (simp; omega))) | (refine bt ?_ (by assumption)))))⟩
theorem end_out (sb : Nat) (m : Int) (w : World) (HA : Hid (∀ w1 : World, Below w.heap.size w w1 → Calls Tryd.prog 58 #[.pointer (some ⟨sb, 0, none⟩), .int .i64 m] w1 fun e' w' => e' = .returned (.agg #[.int .i64 0, .string ⟨#[]⟩, .string ⟨#[]⟩, .int .i64 0, .int .i64 0]) ∧ Below w1.heap.size w1 w')) :
    Calls Tryd.prog 30 #[.pointer (some ⟨sb, 0, none⟩), .int .i64 m] w fun e' w' => e' = .returned (.int .i64 0) ∧ Below w.heap.size w w' := by
  have hfld := fun (x0 x1 x2 x3 x4 : Value) (w : World) => (by kernel_rfl : (Instr.field 90 (.agg #[x0, x1, x2, x3, x4]) 4).run Tryd.prog w = .ok (x4) w)
  go_enter Tryd.func30, Tryd.ntmps30
  go_wp2_with (go_at_call 58; go_must (refine (HA.out _ (by repeat (with_reducible (first | exact Below.refl _ _ | assumption | apply ba | apply bd | apply bdr | (refine bs ?_ (by first | assumption | (simp; done) | (simp; omega))) | (refine bt ?_ (by assumption)))))).mono ?_); rintro e w1 ⟨rfl, hb1⟩)
  go_ret
  exact ⟨rfl, (by repeat (with_reducible (first | exact Below.refl _ _ | assumption | apply ba | apply bd | apply bdr | (refine bs ?_ (by first | assumption | (simp; done) | (simp; omega))) | (refine bt ?_ (by assumption)))))⟩
theorem string_out (sb : Nat) (m : Int) (w : World) (HA : Hid (∀ w1 : World, Below w.heap.size w w1 → Calls Tryd.prog 58 #[.pointer (some ⟨sb, 0, none⟩), .int .i64 m] w1 fun e' w' => e' = .returned (.agg #[.int .i64 0, .string ⟨#[]⟩, .string ⟨#[]⟩, .int .i64 0, .int .i64 0]) ∧ Below w1.heap.size w1 w')) :
    Calls Tryd.prog 28 #[.pointer (some ⟨sb, 0, none⟩), .int .i64 m] w fun e' w' => e' = .returned (.string ⟨#[]⟩) ∧ Below w.heap.size w w' := by
  go_enter Tryd.func28, Tryd.ntmps28
  go_wp2_with (go_at_call 58; go_must (refine (HA.out _ (by repeat (with_reducible (first | exact Below.refl _ _ | assumption | apply ba | apply bd | apply bdr | (refine bs ?_ (by first | assumption | (simp; done) | (simp; omega))) | (refine bt ?_ (by assumption)))))).mono ?_); rintro e w1 ⟨rfl, hb1⟩)
  go_ret
  exact ⟨rfl, (by repeat (with_reducible (first | exact Below.refl _ _ | assumption | apply ba | apply bd | apply bdr | (refine bs ?_ (by first | assumption | (simp; done) | (simp; omega))) | (refine bt ?_ (by assumption)))))⟩
theorem parts_out (sb : Nat) (m : Int) (w : World) (HA : Hid (∀ w1 : World, Below w.heap.size w w1 → Calls Tryd.prog 58 #[.pointer (some ⟨sb, 0, none⟩), .int .i64 m] w1 fun e' w' => e' = .returned (.agg #[.int .i64 0, .string ⟨#[]⟩, .string ⟨#[]⟩, .int .i64 0, .int .i64 0]) ∧ Below w1.heap.size w1 w')) (fa fk : Value) :
    Calls Tryd.prog 59 #[.pointer (some ⟨sb, 0, none⟩), .int .i64 m, fa, fk] w fun e' w' => e' = .returned (.tuple #[]) ∧ Below w.heap.size w w' := by
  go_enter Tryd.func59, Tryd.ntmps59
  go_wp2_with (go_at_call 58; go_must (refine (HA.out _ (by repeat (with_reducible (first | exact Below.refl _ _ | assumption | apply ba | apply bd | apply bdr | (refine bs ?_ (by first | assumption | (simp; done) | (simp; omega))) | (refine bt ?_ (by assumption)))))).mono ?_); rintro e w1 ⟨rfl, hb1⟩)
  exact bodyPost_ret (v := .tuple #[]) (by simp [results, Tryd.results59, go_sem]) rfl ⟨rfl, (by repeat (with_reducible (first | exact Below.refl _ _ | assumption | apply ba | apply bd | apply bdr | (refine bs ?_ (by first | assumption | (simp; done) | (simp; omega))) | (refine bt ?_ (by assumption)))))⟩
theorem root_out (sb : Nat) (m : Int) (w : World) (HA : Hid (∀ w1 : World, Below w.heap.size w w1 → Calls Tryd.prog 58 #[.pointer (some ⟨sb, 0, none⟩), .int .i64 m] w1 fun e' w' => e' = .returned (.agg #[.int .i64 0, .string ⟨#[]⟩, .string ⟨#[]⟩, .int .i64 0, .int .i64 0]) ∧ Below w1.heap.size w1 w')) :
    Calls Tryd.prog 29 #[.pointer (some ⟨sb, 0, none⟩), .int .i64 m] w fun e' w' => e' = .returned (.int .i64 0) ∧ Below w.heap.size w w' := by
  have HK := Lib.hid (fun (w1 : World) (h1 : Below w.heap.size w w1) => kind_out sb m w1 (Lib.hid fun w2 h2 => HA.out w2 (bt h1 h2)))
  go_enter Tryd.func29, Tryd.ntmps29
  go_wp2
  go_loopw [1, 5] (fun s1 s5 wx => s1 = .int .i64 m ∧ s5 = .int .i64 0 ∧ Below w.heap.size w wx) (fun _ _ _ => 0)
  case atStart => exact ⟨rfl, rfl, (by repeat (with_reducible (first | exact Below.refl _ _ | assumption | apply ba | apply bd | apply bdr | (refine bs ?_ (by first | assumption | (simp; done) | (simp; omega))) | (refine bt ?_ (by assumption)))))⟩
  case round =>
    obtain ⟨rfl, rfl, hBW⟩ := hrel
    go_wp2_with (go_at_call 32; go_must (refine (HK.out _ (by repeat (with_reducible (first | exact Below.refl _ _ | assumption | apply ba | apply bd | apply bdr | (refine bs ?_ (by first | assumption | (simp; done) | (simp; omega))) | (refine bt ?_ (by assumption)))))).mono ?_); rintro e w1 ⟨rfl, hb1⟩)
    go_ret
    exact ⟨rfl, (by repeat (with_reducible (first | exact Below.refl _ _ | assumption | apply ba | apply bd | apply bdr | (refine bs ?_ (by first | assumption | (simp; done) | (simp; omega))) | (refine bt ?_ (by assumption)))))⟩
theorem typed_out (sb : Nat) (m : Int) (w : World) (HA : Hid (∀ w1 : World, Below w.heap.size w w1 → Calls Tryd.prog 58 #[.pointer (some ⟨sb, 0, none⟩), .int .i64 m] w1 fun e' w' => e' = .returned (.agg #[.int .i64 0, .string ⟨#[]⟩, .string ⟨#[]⟩, .int .i64 0, .int .i64 0]) ∧ Below w1.heap.size w1 w')) :
    Calls Tryd.prog 56 #[.pointer (some ⟨sb, 0, none⟩), .int .i64 m] w fun e' w' => e' = .returned (.agg #[.int .i64 0, .int .i64 0, .int .i64 0, .string ⟨#[]⟩, .bool false]) ∧ Below w.heap.size w w' := by
  have HK := Lib.hid (fun (w1 : World) (h1 : Below w.heap.size w w1) => kind_out sb m w1 (Lib.hid fun w2 h2 => HA.out w2 (bt h1 h2)))
  go_enter Tryd.func56, Tryd.ntmps56
  go_wp2_with (go_at_call 32; go_must (refine (HK.out _ (by repeat (with_reducible (first | exact Below.refl _ _ | assumption | apply ba | apply bd | apply bdr | (refine bs ?_ (by first | assumption | (simp; done) | (simp; omega))) | (refine bt ?_ (by assumption)))))).mono ?_); rintro e w1 ⟨rfl, hb1⟩; have hc1 := fun o => (bcell hb1).1 w.heap.size o (by simp); have hf1 := fun o => (bcell hb1).2 w.heap.size o (by simp); have hz1 := hb1.size)
  exact bodyPost_ret (v := .agg #[.int .i64 0, .int .i64 0, .int .i64 0, .string ⟨#[]⟩, .bool false]) (by simp [results, Tryd.results56, go_sem, *]) rfl ⟨rfl, (by repeat (with_reducible (first | exact Below.refl _ _ | assumption | apply ba | apply bd | apply bdr | (refine bs ?_ (by first | assumption | (simp; done) | (simp; omega))) | (refine bt ?_ (by assumption)))))⟩
theorem attrs_out (sb : Nat) (m : Int) (w : World) (HA : Hid (∀ w1 : World, Below w.heap.size w w1 → Calls Tryd.prog 58 #[.pointer (some ⟨sb, 0, none⟩), .int .i64 m] w1 fun e' w' => e' = .returned (.agg #[.int .i64 0, .string ⟨#[]⟩, .string ⟨#[]⟩, .int .i64 0, .int .i64 0]) ∧ Below w1.heap.size w1 w')) :
    Calls Tryd.prog 47 #[.pointer (some ⟨sb, 0, none⟩), .int .i64 m] w fun e' w' => e' = .returned (.slice none 0 0) ∧ Below w.heap.size w w' := by
  have HP := Lib.hid (fun (w1 : World) (fa fk : Value) (h1 : Below w.heap.size w w1) => parts_out sb m w1 (Lib.hid fun w2 h2 => HA.out w2 (bt h1 h2)) fa fk)
  go_enter Tryd.func47, Tryd.ntmps47
  go_wp2_with (go_at_call 59; go_must (refine (HP.out _ _ _ (by repeat (with_reducible (first | exact Below.refl _ _ | assumption | apply ba | apply bd | apply bdr | (refine bs ?_ (by first | assumption | (simp; done) | (simp; omega))) | (refine bt ?_ (by assumption)))))).mono ?_); rintro e w1 ⟨rfl, hb1⟩; have hc1 := (bcell hb1).1 w.heap.size 0 (by simp); have hz1 := hb1.size)
  go_ret
  exact ⟨rfl, (by repeat (with_reducible (first | exact Below.refl _ _ | assumption | apply ba | apply bd | apply bdr | (refine bs ?_ (by first | assumption | (simp; done) | (simp; omega))) | (refine bt ?_ (by assumption)))))⟩
theorem kids_out (sb : Nat) (m : Int) (w : World) (HA : Hid (∀ w1 : World, Below w.heap.size w w1 → Calls Tryd.prog 58 #[.pointer (some ⟨sb, 0, none⟩), .int .i64 m] w1 fun e' w' => e' = .returned (.agg #[.int .i64 0, .string ⟨#[]⟩, .string ⟨#[]⟩, .int .i64 0, .int .i64 0]) ∧ Below w1.heap.size w1 w')) :
    Calls Tryd.prog 57 #[.pointer (some ⟨sb, 0, none⟩), .int .i64 m] w fun e' w' => e' = .returned (.slice none 0 0) ∧ Below w.heap.size w w' := by
  have HP := Lib.hid (fun (w1 : World) (fa fk : Value) (h1 : Below w.heap.size w w1) => parts_out sb m w1 (Lib.hid fun w2 h2 => HA.out w2 (bt h1 h2)) fa fk)
  go_enter Tryd.func57, Tryd.ntmps57
  go_wp2_with (go_at_call 59; go_must (refine (HP.out _ _ _ (by repeat (with_reducible (first | exact Below.refl _ _ | assumption | apply ba | apply bd | apply bdr | (refine bs ?_ (by first | assumption | (simp; done) | (simp; omega))) | (refine bt ?_ (by assumption)))))).mono ?_); rintro e w1 ⟨rfl, hb1⟩; have hc1 := (bcell hb1).1 w.heap.size 0 (by simp); have hz1 := hb1.size)
  go_ret
  exact ⟨rfl, (by repeat (with_reducible (first | exact Below.refl _ _ | assumption | apply ba | apply bd | apply bdr | (refine bs ?_ (by first | assumption | (simp; done) | (simp; omega))) | (refine bt ?_ (by assumption)))))⟩
theorem tree_out (sb : Nat) (m : Int) (w : World) (HA : Hid (∀ w1 : World, Below w.heap.size w w1 → Calls Tryd.prog 58 #[.pointer (some ⟨sb, 0, none⟩), .int .i64 m] w1 fun e' w' => e' = .returned (.agg #[.int .i64 0, .string ⟨#[]⟩, .string ⟨#[]⟩, .int .i64 0, .int .i64 0]) ∧ Below w1.heap.size w1 w')) (_hsb : sb < w.heap.size) :
    Calls Tryd.prog 26 #[.pointer (some ⟨sb, 0, none⟩), .int .i64 m] w fun e' w' => e' = .returned (.agg #[.int .i64 0, .string ⟨#[]⟩, .string ⟨#[]⟩, .slice none 0 0, .slice none 0 0]) ∧ Below w.heap.size w w' := by
  have HP := Lib.hid (fun (w1 : World) (fa fk : Value) (h1 : Below w.heap.size w w1) => parts_out sb m w1 (Lib.hid fun w2 h2 => HA.out w2 (bt h1 h2)) fa fk)
  go_enter Tryd.func26, Tryd.ntmps26
  go_wp2_with fail
  refine (HA.out _ (by repeat (with_reducible (first | exact Below.refl _ _ | assumption | apply ba | apply bd | apply bdr | (refine bs ?_ (by first | assumption | (simp; done) | (simp; omega))) | (refine bt ?_ (by assumption)))))).mono ?_
  rintro e w1 ⟨rfl, hb1⟩
  have B1 : Below w.heap.size w w1 := (by repeat (with_reducible (first | exact Below.refl _ _ | assumption | apply ba | apply bd | apply bdr | (refine bs ?_ (by first | assumption | (simp; done) | (simp; omega))) | (refine bt ?_ (by assumption)))))
  have hz1 : w.heap.size + 2 ≤ w1.heap.size := by have := hb1.size; simpa using this
  have y0 : w.heap.size < w1.heap.size := by omega
  have y1 : w.heap.size + 1 < w1.heap.size := by omega
  have hc0 : w1.cell? ⟨w.heap.size, 0, none⟩ = some (.pointer (some ⟨sb, 0, none⟩)) := ((bcell hb1).1 w.heap.size 0 (by simp; omega)).trans (by simp)
  have hd := fun o => (bcell hb1).1 (w.heap.size + 1) o (by simp)
  have hf := fun o => (bcell hb1).2 (w.heap.size + 1) o (by simp)
  clear hb1 HA
  go_wp2_with fail
  refine (HP.out _ _ _ (by repeat (with_reducible (first | exact Below.refl _ _ | assumption | apply ba | apply bd | apply bdr | (refine bs ?_ (by first | assumption | (simp; done) | (simp; omega))) | (refine bt ?_ (by assumption)))))).mono ?_
  rintro e w2 ⟨rfl, hb2⟩
  have B2 : Below w.heap.size w w2 := (by repeat (with_reducible (first | exact Below.refl _ _ | assumption | apply ba | apply bd | apply bdr | (refine bs ?_ (by first | assumption | (simp; done) | (simp; omega))) | (refine bt ?_ (by assumption)))))
  have hz2 : w1.heap.size + 2 ≤ w2.heap.size := by have := hb2.size; simpa using this
  have ht := fun o => (bcell hb2).1 (w1.heap.size + 1) o (by simp)
  have hg := fun o => (bcell hb2).1 (w.heap.size + 1) o (by simp; omega)
  have hh := fun o => (bcell hb2).2 (w.heap.size + 1) o (by simp; omega)
  have y2 : w.heap.size + 1 < w2.heap.size := by omega
  have y3 : w1.heap.size + 1 < w2.heap.size := by omega
  clear hb2 HP
  go_wp2
  exact bodyPost_ret (v := .agg #[.int .i64 0, .string ⟨#[]⟩, .string ⟨#[]⟩, .slice none 0 0, .slice none 0 0]) (by simp [results, Tryd.results26, go_sem, *]) rfl ⟨rfl, (by repeat (with_reducible (first | exact Below.refl _ _ | assumption | apply ba | apply bd | apply bdr | (refine bs ?_ (by first | assumption | (simp; done) | (simp; omega))) | (refine bt ?_ (by assumption)))))⟩
end Go.Proofs.YtcmlfkoeajpliaaDoor
