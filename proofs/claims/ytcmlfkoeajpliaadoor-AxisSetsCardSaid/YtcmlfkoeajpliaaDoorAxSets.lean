/- Package axis unites sets and picks out of them. No condition beyond what the theorems state. -/
import Derived.Test.YtcmlfkoeajpliaaDoorRefSets
import Derived.Test.YtcmlfkoeajpliaaDoorShelfT
namespace Go.Proofs.YtcmlfkoeajpliaaDoor
open Go.RowKit Go.Lib Go.Shelf
set_option maxRecDepth 100000
set_option maxHeartbeats 16000000
theorem growNil (k : Nat) (w : World) (hk : k ≤ 1048576) : Calls Tryd.prog 95 #[.slice none 0 0, .int .i64 (k : Int)] w fun e w' => ∃ A c, e = .returned (.slice A 0 c) ∧ w'.ownsRow w.heap.size 3 1 (.slice A 0 c) 0 [] ∧ Below w.heap.size w w' := by
  obtain ⟨i3, hi3, hz30, hz31, hz32⟩ := info_parts int_info
  rcases Nat.eq_zero_or_pos k with h0 | h0
  · subst h0
    refine Calls.mono (Any8.slices_Grow_room Tryd.growI none 0 0 0 w (Nat.le_refl _) (by omega) (by omega) (Nat.le_refl _) : Calls Tryd.prog 95 _ w _) ?_
    rintro e w' ⟨rfl, rfl⟩
    exact ⟨none, 0, rfl, World.ownsRow_nil _ _ _ _, Below.refl _ _⟩
  · refine Calls.mono (Any8.slices_Grow_grow Tryd.growI i3 (.int .i64 0) hi3 hz30 (by omega) none 0 0 k [] w (Nat.le_refl _) (by omega) (by rw [hz32]; omega) (by omega) (by simp) (fun _ => rfl) (fun a h => by cases h) : Calls Tryd.prog 95 _ w _) ?_
    rintro e w' ⟨rfl, rfl⟩
    refine ⟨_, _, rfl, ⟨rfl, .inr ⟨_, _, _, rfl, Nat.le_refl _, heap_alloc_new w.drew _, Nat.zero_le _, grownCap_le_maxLen _ _ _ _ (by unfold maxLen; omega), ?_, by rw [Nat.zero_mul, List.take_zero]⟩⟩, ba (bdr (Below.refl _ _))⟩
    have h1 := grownCap_ge w (0 + k) 0 3
    have h2 : (Value.int .i64 0).cells.size = 1 := rfl
    rw [Array.size_append, Array.size_append, size_zeroCells, size_zeroCells, h2]
    show 0 + (0 + k - 0) * 1 + (grownCap w (0 + k) 0 3 - (0 + k)) * 1 = grownCap w (0 + k) 0 3 * 1
    omega
theorem concat_walk (A B : Option Addr) (n m ca cb g : Nat) (a b : List Int) (w : World) (hA : IR w A a) (hB : IR w B b) (hla : a.length = n) (hlb : b.length = m) (hn : n ≤ 400000) (hm : m ≤ 400000)
    (c0 : w.cell? ⟨g, 0, none⟩ = some (.slice A n ca)) (c1 : w.cell? ⟨g, 1, none⟩ = some (.slice B m cb)) :
    Calls Tryd.prog 70 #[.slice (some ⟨g, 0, none⟩) 2 2] w fun e w' => ∃ Ac c, e = .returned (.slice Ac (n + m) c) ∧ w'.ownsRow w.heap.size 3 1 (.slice Ac (n + m) c) (n + m) (rowZ (a ++ b)) ∧ Below w.heap.size w w' := by
  obtain ⟨i3, hi3, hz30, hz31, hz32⟩ := info_parts int_info
  have HA := Lib.hid hA; have HLA := Lib.hid hla; have HBB := Lib.hid hB; have HLB := Lib.hid hlb
  clear hA hla hB hlb
  go_enter Tryd.func70, Tryd.ntmps70
  go_wp2
  go_loopw [3, 11] (fun s3 s11 wx => wx = w ∧ ((s11 = .int .i64 0 ∧ s3 = .int .i64 0) ∨ (s11 = .int .i64 1 ∧ s3 = .int .i64 (n : Int)) ∨ (s11 = .int .i64 2 ∧ s3 = .int .i64 ((n : Int) + (m : Int))))) (fun _ s11 _ => 2 - (intOf s11).toNat)
  case atStart => exact ⟨rfl, .inl ⟨rfl, rfl⟩⟩
  case round =>
    obtain ⟨hw, hrel⟩ := hrel
    subst wr
    rcases hrel with ⟨rfl, rfl⟩ | ⟨rfl, rfl⟩ | ⟨rfl, rfl⟩
    · have e0 : IntKind.i64.wrap (n : Int) = (n : Int) := by rw [IntKind.wrap_i64]; omega
      have g1 : decide ((n : Int) < 0) = false := by simp
      go_wp2
      go_roundw
      case rel => exact ⟨trivial, .inr (.inl ⟨by go_num, by go_num⟩)⟩
      case measure => simp [intOf]
    · have e0 : IntKind.i64.wrap ((n : Int) + (m : Int)) = (n : Int) + (m : Int) := by rw [IntKind.wrap_i64]; omega
      have g1 : decide ((n : Int) + (m : Int) < 0) = false := by simp; omega
      go_wp2
      go_roundw
      case rel => exact ⟨trivial, .inr (.inr ⟨by go_num, by go_num⟩)⟩
      case measure => simp [intOf]
    · have HG := Lib.hid (growNil (n + m) w (by omega))
      rw [show ((n + m : Nat) : Int) = (n : Int) + (m : Int) by omega] at HG
      go_wp2_with fail
      refine HG.out.mono ?_
      rintro e w1 ⟨A1, k1, rfl, ho1, hb1⟩
      have HO1 := Lib.hid ho1; have HB1 := Lib.hid hb1
      have d0 := (hb1.cell (World.block_lt_of_cell? w _ c0)).trans c0
      have d1 := (hb1.cell (World.block_lt_of_cell? w _ c1)).trans c1
      clear ho1 hb1 HG
      go_wp2
      go_loopw [6, 27] (fun s6 s27 wx => ∃ (A2 : Option Addr) (k2 c2 : Nat) (zs : List Int), s6 = .slice A2 k2 c2 ∧ ((s27 = .int .i64 0 ∧ k2 = 0 ∧ zs = []) ∨ (s27 = .int .i64 1 ∧ k2 = n ∧ zs = a) ∨ (s27 = .int .i64 2 ∧ k2 = n + m ∧ zs = a ++ b)) ∧ Hid (wx.ownsRow w.heap.size 3 1 (.slice A2 k2 c2) k2 (rowZ zs)) ∧ Below w.heap.size w wx) (fun _ s27 _ => 2 - (intOf s27).toNat)
      case atStart => exact ⟨A1, 0, k1, [], rfl, .inl ⟨rfl, rfl, rfl⟩, HO1, HB1.out⟩
      case round =>
        obtain ⟨A2, k2, c2, zs, rfl, hrel, hO, hBel⟩ := hrel
        rcases hrel with ⟨rfl, hk2, hzs⟩ | ⟨rfl, hk2, hzs⟩ | ⟨rfl, hk2, hzs⟩ <;> subst k2 zs
        · have e0 := (hBel.cell (World.block_lt_of_cell? w _ c0)).trans c0
          have e1 := (hBel.cell (World.block_lt_of_cell? w _ c1)).trans c1
          have HBel := Lib.hid hBel
          have hz := hBel.size
          clear hBel
          go_wp2_with (first
            | (at_builtin
               go_must (refine wpList_append_any _ rfl (.tmp 31) (.tmp 32) _ rfl w.heap.size 3 i3 _ 1 8 Tryd.underlying55 hi3 hz30 hz31 hz32 rfl (by omega) (.slice A2 0 c2) 0 (rowZ []) rfl hO.out wr.heap.size A n ca (rowZ a) rfl ((HA.out.below HBel.out).reads HLA.out) (rowZ_one _) (by simp only [maxLen]; omega) (by omega) hz ?_)
               intro v5 w5 hown5 hg5 hat5
               rw [Nat.zero_add, rowZ_nil, List.nil_append] at hown5
               obtain ⟨A5, c5, rfl⟩ := own_slice hown5
               have HX := Lib.hid (⟨hown5, HBel.out.grown hg5 hz (fun q hq => (own_lt hO.out hq).1)⟩ : _ ∧ _)
               clear hown5 hg5 hat5))
          go_roundw
          case rel => exact ⟨A5, n, c5, a, by first | rfl | go_num, .inr (.inl ⟨by go_num, rfl, rfl⟩), Lib.hid HX.out.1, HX.out.2⟩
          case measure => simp [intOf]
        · have e0 := (hBel.cell (World.block_lt_of_cell? w _ c0)).trans c0
          have e1 := (hBel.cell (World.block_lt_of_cell? w _ c1)).trans c1
          have HBel := Lib.hid hBel
          have hz := hBel.size
          clear hBel
          go_wp2_with (first
            | (at_builtin
               go_must (refine wpList_append_any _ rfl (.tmp 31) (.tmp 32) _ rfl w.heap.size 3 i3 _ 1 8 Tryd.underlying55 hi3 hz30 hz31 hz32 rfl (by omega) (.slice A2 n c2) n (rowZ a) rfl hO.out wr.heap.size B m cb (rowZ b) rfl ((HBB.out.below HBel.out).reads HLB.out) (rowZ_one _) (by simp only [maxLen]; omega) (by omega) hz ?_)
               intro v5 w5 hown5 hg5 hat5
               rw [← rowZ_app] at hown5
               obtain ⟨A5, c5, rfl⟩ := own_slice hown5
               have HX := Lib.hid (⟨hown5, HBel.out.grown hg5 hz (fun q hq => (own_lt hO.out hq).1)⟩ : _ ∧ _)
               clear hown5 hg5 hat5))
          go_roundw
          case rel => exact ⟨A5, n + m, c5, a ++ b, by first | rfl | go_num, .inr (.inr ⟨by go_num, rfl, rfl⟩), Lib.hid HX.out.1, HX.out.2⟩
          case measure => simp [intOf]
        · have HX := Lib.hid (⟨hO.out, hBel⟩ : _ ∧ _)
          clear hO hBel
          go_wp2
          go_ret
          exact ⟨A2, c2, rfl, HX.out.1, HX.out.2⟩
end Go.Proofs.YtcmlfkoeajpliaaDoor
namespace Go.Proofs.YtcmlfkoeajpliaaDoor
open Go.RowKit Go.Lib Go.Shelf
set_option maxRecDepth 100000
set_option maxHeartbeats 16000000
theorem own_order {w : World} {base n c : Nat} {A : Option Addr} {zs : List Int} (h : w.ownsRow base 3 1 (.slice A n c) n (rowZ zs)) (hn : n ≤ 1048576) : Calls Tryd.prog 41 #[.slice A n c] w (OrdLeft w zs) := by
  obtain ⟨A0, c0, e0, _, hrd⟩ := own_rd h
  cases e0
  exact order_any _ A n c zs w hrd (by omega)
theorem ordLeft_up {w0 w1 : World} {zs : List Int} {e : Ending} {w2 : World} (h : OrdLeft w1 zs e w2) (hb : Below w0.heap.size w0 w1) : OrdLeft w0 zs e w2 := by
  obtain ⟨A, c, e1, h1, h2⟩ := h
  exact ⟨A, c, e1, own_low h1 hb.size, bt hb h2⟩
theorem five_cell2 (w : World) (x0 x1 : Value) (t : TypeId) : (w.alloc (.cells #[x0, x1] t)).cell? ⟨w.heap.size, 0, none⟩ = some x0 ∧ (w.alloc (.cells #[x0, x1] t)).cell? ⟨w.heap.size, 1, none⟩ = some x1 := by
  have h := heap_alloc_new w (.cells #[x0, x1] t)
  unfold World.cell?
  rw [show (w.alloc (.cells #[x0, x1] t)).heap[(⟨w.heap.size, 0, none⟩ : Addr).block]? = _ from h]
  simp
theorem union_any (A B : Option Addr) (n m ca cb : Nat) (a b : List Int) (w : World) (hA : IR w A a) (hB : IR w B b) (hla : a.length = n) (hlb : b.length = m) (hn : n ≤ 400000) (hm : m ≤ 400000) :
    Calls Tryd.prog 43 #[.slice A n ca, .slice B m cb] w (OrdLeft w (a ++ b)) := by
  have B0 : Below w.heap.size w (w.alloc (.cells #[.slice A n ca, .slice B m cb] 55)) := ba (Below.refl _ _)
  have HC := Lib.hid (concat_walk A B n m ca cb w.heap.size a b (w.alloc (.cells #[.slice A n ca, .slice B m cb] 55)) (hA.below B0) (hB.below B0) hla hlb hn hm (five_cell2 w _ _ 55).1 (five_cell2 w _ _ 55).2)
  have HB0 := Lib.hid B0
  clear hA hB hla hlb B0
  go_enter Tryd.func43, Tryd.ntmps43
  go_wp2_with fail
  refine HC.out.mono ?_
  rintro e w1 ⟨A1, c1, rfl, ho1, hb1⟩
  have HO := Lib.hid (own_order ho1 (by omega))
  have B1 : Below w.heap.size w w1 := bt HB0.out hb1
  clear ho1 hb1 HC
  go_wp2_with fail
  refine HO.out.mono ?_
  rintro e w2 h2
  obtain ⟨A2, c2, rfl, h3, h4⟩ := ordLeft_up h2 B1
  have HX := Lib.hid (⟨h3, h4⟩ : _ ∧ _)
  clear h2 h3 h4
  go_wp2
  go_ret
  exact ⟨A2, c2, rfl, HX.out.1, HX.out.2⟩
end Go.Proofs.YtcmlfkoeajpliaaDoor
namespace Go.Proofs.YtcmlfkoeajpliaaDoor
open Go.RowKit Go.Lib Go.Shelf Go.Sort
set_option maxRecDepth 100000
set_option maxHeartbeats 16000000
/-- What the closure sees: the box of the others, the box of the flag, the others. -/
def Sees (w : World) (g1 g2 : Nat) (A : Option Addr) (n c : Nat) (o : List Int) (f : Bool) : Prop :=
  w.cell? ⟨g1, 0, none⟩ = some (.slice A n c) ∧ w.cell? ⟨g2, 0, none⟩ = some (.bool f) ∧ ∀ j, j < o.length → ∃ b, A = some ⟨b, 0, none⟩ ∧ w.cell? ⟨b, 0 + j, none⟩ = some (.int .i64 (o.getD j 0))
theorem gives97 (g1 g2 n c : Nat) (A : Option Addr) (o : List Int) (f : Bool) (x : Int) (W : World) (hS : Sees W g1 g2 A n c o f) (hl : o.length = n) (hn : n ≤ 1048576) (ho : o.Pairwise (· < ·)) :
    FnGives Tryd.prog 97 #[.pointer (some ⟨g1, 0, none⟩), .pointer (some ⟨g2, 0, none⟩)] #[.int .i64 x] (.bool (o.contains x != f)) W := by
  show Calls Tryd.prog 97 #[.int .i64 x, .pointer (some ⟨g1, 0, none⟩), .pointer (some ⟨g2, 0, none⟩)] W _
  obtain ⟨h1, h2, h3⟩ := hS
  have HB : Hid (Calls Tryd.prog 98 #[.slice A n c, .int .i64 x] W fun e w' => ∃ k : Int, e = .returned (.tuple #[.int .i64 k, .bool (o.contains x)]) ∧ ∃ q, w' = W.drewN q) := Lib.hid (by
    rcases Nat.eq_zero_or_pos n with h0 | h0
    · subst h0
      obtain rfl : o = [] := List.length_eq_zero_iff.1 hl
      refine (Tryd.slices_BinarySearch_int_empty A c x W).mono ?_
      rintro e w' ⟨rfl, rfl⟩
      exact ⟨0, rfl, 0, rfl⟩
    · obtain ⟨b, rfl, _⟩ := h3 0 (by omega)
      have hs : (o.take n).Pairwise (· ≤ ·) := by rw [List.take_of_length_le (by omega)]; exact ho.imp (fun h => by omega)
      have := Tryd.slices_BinarySearch_int b 0 n c o x W (by omega) (by omega) (fun j hj => by
        obtain ⟨b', e, hc⟩ := h3 j hj
        cases e
        exact hc) hs
      rw [List.take_of_length_le (by omega)] at this
      refine this.mono ?_
      rintro e w' ⟨rfl, q, rfl⟩
      exact ⟨_, rfl, q, rfl⟩)
  obtain ⟨s, hs⟩ : ∃ s, o.contains x = s := ⟨_, rfl⟩
  rw [hs] at HB ⊢
  clear h3 ho hs hl
  go_enter Tryd.func97, Tryd.ntmps97
  go_wp2_with fail
  refine HB.out.mono ?_
  rintro e w1 ⟨k, rfl, q, rfl⟩
  have h4 : (W.drewN q).cell? ⟨g2, 0, none⟩ = some (.bool f) := h2
  go_wp2
  go_ret
  exact ⟨rfl, q, rfl⟩
end Go.Proofs.YtcmlfkoeajpliaaDoor
namespace Go.Proofs.YtcmlfkoeajpliaaDoor
open Go.RowKit Go.Lib Go.Shelf Go.Sort
set_option maxRecDepth 100000
set_option maxHeartbeats 16000000
theorem del_none (fv : Value) (w : World) : Calls Tryd.prog 96 #[.slice none 0 0, fv] w fun e w' => e = .returned (.slice none 0 0) ∧ w' = w := by
  have HI := Lib.hid (Tryd.slices_IndexFunc_empty (α := Int) none 0 fv w)
  go_enter Tryd.func96, Tryd.ntmps96
  go_wp2_with fail
  refine HI.out.mono ?_
  rintro e w1 ⟨rfl, rfl⟩
  go_wp2
  go_ret
  exact ⟨rfl, rfl⟩
theorem Sees.below {w w' : World} {g1 g2 n c : Nat} {A : Option Addr} {o : List Int} {f : Bool} (h : Sees w g1 g2 A n c o f) (hb : Below w.heap.size w w') : Sees w' g1 g2 A n c o f := by
  obtain ⟨h1, h2, h3⟩ := h
  refine ⟨(hb.cell (World.block_lt_of_cell? w _ h1)).trans h1, (hb.cell (World.block_lt_of_cell? w _ h2)).trans h2, fun j hj => ?_⟩
  obtain ⟨b, e, hc⟩ := h3 j hj
  exact ⟨b, e, (hb.cell (World.block_lt_of_cell? w _ hc)).trans hc⟩
/-- What DeleteFunc leaves of a row of the call's own. -/
theorem del_own (g1 g2 n c k : Nat) (A : Option Addr) (v : Value) (o zs : List Int) (f : Bool) (base : Nat) (w0 w : World) (hS : Sees w g1 g2 A n c o f) (hl : o.length = n) (hn : n ≤ 1048576) (ho : o.Pairwise (· < ·))
    (hown : w.ownsRow base 3 1 v k (rowZ zs)) (hk : k ≤ 1048576) (hg1 : g1 < base) (hg2 : g2 < base) (hA : ∀ b off, A = some ⟨b, off, none⟩ → b < base) (hbase : w0.heap.size ≤ base) (hB : Below w0.heap.size w0 w) :
    Calls Tryd.prog 96 #[v, .func (.func 97) #[] #[.pointer (some ⟨g1, 0, none⟩), .pointer (some ⟨g2, 0, none⟩)]] w fun e w' => ∃ Ar cr, e = .returned (.slice Ar (zs.filter fun x => !(o.contains x != f)).length cr) ∧ w'.ownsRow w0.heap.size 3 1 (.slice Ar (zs.filter fun x => !(o.contains x != f)).length cr) (zs.filter fun x => !(o.contains x != f)).length (rowZ (zs.filter fun x => !(o.contains x != f))) ∧ Below w0.heap.size w0 w' := by
  by_cases hv : v = .slice none 0 0
  · subst hv
    have hz : zs = [] := by
      rcases hown.2 with ⟨_, h0⟩ | ⟨g, cap, cur, e, _⟩
      · have := hown.1
        rw [rowZ_len, h0] at this
        exact List.length_eq_zero_iff.1 (by omega)
      · cases e
    subst hz
    refine (del_none _ w).mono ?_
    rintro e w' ⟨rfl, rfl⟩
    exact ⟨none, 0, rfl, World.ownsRow_nil _ _ _ _, hB⟩
  · obtain ⟨g, cap, rfl, hbg, hgl, hkc, hcm, hlz, hH⟩ := Lib.holds_of_ownsRow hown hv
    have eg : ∀ args w, (callFunc 97 args).run Tryd.prog w = .ok (.enter 97 args) w := enters_of Tryd.func97 (by kernel_rfl) rfl
    have hp : PredAt Tryd.prog 97 #[.pointer (some ⟨g1, 0, none⟩), .pointer (some ⟨g2, 0, none⟩)] (Value.int .i64) (fun x => o.contains x != f) w :=
      fun W x hb => gives97 g1 g2 n c A o f x W (hS.below hb) hl hn ho
    have hpo : PredOver Tryd.prog 97 #[.pointer (some ⟨g1, 0, none⟩), .pointer (some ⟨g2, 0, none⟩)] (Value.int .i64) (fun x => o.contains x != f) g 0 zs.toArray.size w := fun q os dk x _ => by
      have hc : ∀ (b off : Nat) (u : Value), b ≠ g → w.cell? ⟨b, off, none⟩ = some u → (sortWorld (Value.int .i64) w g 0 q dk os).cell? ⟨b, off, none⟩ = some u := by
        intro b off u hne hu
        have hlt : b < w.heap.size := World.block_lt_of_cell? w _ hu
        unfold sortWorld
        rw [cell?_grow _ _ _ (by show b < (putRow _ _ _ _ _).heap.size; rw [size_putRow]; exact hlt), cell?_putRow_other _ _ g 0 _ _ (Or.inl hne)]
        exact hu
      refine gives97 g1 g2 n c A o f x _ ⟨hc _ _ _ (by omega) hS.1, hc _ _ _ (by omega) hS.2.1, fun j hj => ?_⟩ hl hn ho
      obtain ⟨b, e, h3⟩ := hS.2.2 j hj
      exact ⟨b, e, hc _ _ _ (by have := hA b 0 e; omega) h3⟩
    have hcon := Tryd.slices_DeleteFunc (Value.int .i64) (fun _ => rfl) (fun x => o.contains x != f) 97 #[.pointer (some ⟨g1, 0, none⟩), .pointer (some ⟨g2, 0, none⟩)] eg 0 Tryd.zeroValue3 g 0 cap zs.toArray w hp hpo hH (by rw [List.size_toArray, hlz]; omega) (by rw [List.size_toArray, hlz]; exact hkc)
    rw [show zs.toArray.size = k by simpa using hlz] at hcon
    refine hcon.mono ?_
    rintro e w' ⟨rfl, q, rfl⟩
    have hle : (zs.filter fun x => !(o.contains x != f)).length ≤ k := by rw [← hlz]; exact List.length_filter_le _ _
    have h5 := Lib.ownsRow_putRow (q := q) (k := (zs.filter fun x => !(o.contains x != f)).length) (ys := (zs.filter fun x => !(o.contains x != f)) ++ List.replicate (k - (zs.filter fun x => !(o.contains x != f)).length) 0) hown (by rw [List.length_append, List.length_replicate]; omega) hle
    rw [List.take_left] at h5
    exact ⟨_, cap, rfl, own_low h5 hbase, Lib.below_putRow hB (by omega)⟩
theorem IR.rd {w : World} {A : Option Addr} {zs : List Int} {n : Nat} (h : IR w A zs) (hl : zs.length = n) : RdP (fun _ => True) w 1 A n (rowZ zs) := by
  obtain ⟨h1, h2⟩ := h.reads hl
  refine ⟨h1, fun hn => ?_⟩
  obtain ⟨ad, e, _, hc⟩ := h2 hn
  exact ⟨ad, e, trivial, hc⟩
def pickZ (a b : List Int) (f : Bool) : List Int := (ordZ a).filter fun x => !((ordZ b).contains x != f)
/-- What is left: a row of the call's own that holds these numbers. -/
def RowLeft (w : World) (zs : List Int) (e : Ending) (w' : World) : Prop :=
  ∃ A c, e = .returned (.slice A zs.length c) ∧ w'.ownsRow w.heap.size 3 1 (.slice A zs.length c) zs.length (rowZ zs) ∧ Below w.heap.size w w'
theorem pick_any (A B : Option Addr) (n m ca cb : Nat) (a b : List Int) (f : Bool) (w : World) (hA : IR w A a) (hB : IR w B b) (hla : a.length = n) (hlb : b.length = m) (hn : n ≤ 400000) (hm : m ≤ 400000) :
    Calls Tryd.prog 71 #[.slice A n ca, .slice B m cb, .bool f] w (RowLeft w (pickZ a b f)) := by
  have HA := Lib.hid hA; have HBB := Lib.hid hB; have HLA := Lib.hid hla; have HLB := Lib.hid hlb
  have B0 : Below w.heap.size w (w.alloc (.cells #[.bool f] 4)) := ba (Below.refl _ _)
  have c0 : (w.alloc (.cells #[.bool f] 4)).cell? ⟨w.heap.size, 0, none⟩ = some (.bool f) := by simp
  have HC := Lib.hid (order_any _ B m cb b (w.alloc (.cells #[.bool f] 4)) ((hB.below B0).rd hlb) (by omega))
  have HD : Hid (∀ W : World, Below w.heap.size w W → Calls Tryd.prog 41 #[.slice A n ca] W (OrdLeft W a)) := Lib.hid (fun W hW => order_any _ A n ca a W ((hA.below hW).rd hla) (by omega))
  have HB0 := Lib.hid B0
  have HLb : Hid ((ordZ b).length ≤ 400000) := Lib.hid (by have := ordZ_len b; omega)
  have HLa : Hid ((ordZ a).length ≤ 400000) := Lib.hid (by have := ordZ_len a; omega)
  have HP := Lib.hid (ordZ_both b).1
  clear hA hB hla hlb B0
  obtain ⟨ob, hob⟩ : ∃ o, ordZ b = o := ⟨_, rfl⟩
  obtain ⟨oa, hoa⟩ : ∃ o, ordZ a = o := ⟨_, rfl⟩
  unfold OrdLeft at HC HD
  unfold pickZ
  rw [hob] at HC HLb HP ⊢
  rw [hoa] at HD HLa ⊢
  obtain ⟨zs, hzs⟩ : ∃ zs, (oa.filter fun x => !(ob.contains x != f)) = zs := ⟨_, rfl⟩
  rw [hzs]
  have HZS := Lib.hid hzs
  clear hzs hob hoa
  go_enter Tryd.func71, Tryd.ntmps71
  go_wp2_with fail
  refine HC.out.mono ?_
  rintro e w1 ⟨A1, c1, rfl, ho1, hb1⟩
  have B1 : Below w.heap.size w w1 := bt HB0.out hb1
  have B12 : Below w1.heap.size w1 (w1.alloc (.cells #[.slice A1 ob.length c1] 55)) := ba (Below.refl _ _)
  have B2 : Below w.heap.size w (w1.alloc (.cells #[.slice A1 ob.length c1] 55)) := bt B1 B12
  have h1 : (w1.alloc (.cells #[.slice A1 ob.length c1] 55)).cell? ⟨w1.heap.size, 0, none⟩ = some (.slice A1 ob.length c1) := by simp
  have h2 := (B12.cell (World.block_lt_of_cell? w1 _ ((hb1.cell (World.block_lt_of_cell? _ _ c0)).trans c0))).trans ((hb1.cell (World.block_lt_of_cell? _ _ c0)).trans c0)
  have hz1 := hb1.size
  have hz2 : (w1.alloc (.cells #[.slice A1 ob.length c1] 55)).heap.size = w1.heap.size + 1 := by simp
  have hz0 : (w.alloc (.cells #[.bool f] 4)).heap.size = w.heap.size + 1 := by simp
  have HS2 : Hid (Sees (w1.alloc (.cells #[.slice A1 ob.length c1] 55)) w1.heap.size w.heap.size A1 ob.length c1 ob f) := Lib.hid ⟨h1, h2, fun j hj => by
    rcases ho1.2 with ⟨e0, hn0⟩ | ⟨g, cap, cur, e0, hbg, hh, hnc, hcm, hsz, htk⟩
    · omega
    · cases e0
      obtain ⟨A0, c0', e0, _, hrd⟩ := own_rd ho1
      cases e0
      obtain ⟨ad, e1, _, hc⟩ := hrd.2 (by omega)
      cases e1
      have hcj := hc j (.int .i64 (ob.getD j 0)) (by unfold rowZ; rw [List.getElem?_map, List.getD_eq_getElem?_getD, List.getElem?_eq_getElem hj]; rfl)
      rw [add_block_off] at hcj
      exact ⟨g, rfl, (B12.cell (World.block_lt_of_cell? w1 _ hcj)).trans hcj⟩⟩
  have HA1 : Hid (∀ bk off, A1 = some ⟨bk, off, none⟩ → bk < w1.heap.size) := Lib.hid (fun bk off e => by
    subst e
    exact (own_lt ho1 rfl).2)
  have HB2 := Lib.hid B2; have HZ := Lib.hid (⟨hz0, hz1, hz2⟩ : _ ∧ _ ∧ _)
  have HDD := Lib.hid (HD.out _ B2)
  clear ho1 hb1 B1 B12 B2 h1 h2 hz0 hz1 hz2 HC HD c0
  go_wp2_with fail
  refine HDD.out.mono ?_
  rintro e w3 ⟨A3, c3, rfl, ho3, hb3⟩
  have hb3' := hb3
  have HDL := Lib.hid (del_own w1.heap.size w.heap.size ob.length c1 oa.length A1 (.slice A3 oa.length c3) ob oa f _ w w3 (HS2.out.below hb3) rfl (by have := HLb.out; omega) HP.out ho3 (by have := HLa.out; omega) (by have := HZ.out; omega) (by have := HZ.out; omega) (fun bk off e => by have := HA1.out bk off e; have := HZ.out; omega) HB2.out.size (bt HB2.out hb3))
  rw [HZS.out] at HDL
  clear ho3 hb3 hb3' HDD HS2
  go_wp2_with fail
  refine HDL.out.mono ?_
  rintro e w4 ⟨A4, c4, rfl, ho4, hb4⟩
  have HX := Lib.hid (⟨ho4, hb4⟩ : _ ∧ _)
  clear ho4 hb4 HDL
  go_wp2
  go_ret
  exact ⟨A4, c4, rfl, HX.out.1, HX.out.2⟩
end Go.Proofs.YtcmlfkoeajpliaaDoor
