/- AtomRights: its three regions that draw. No condition beyond what the theorems state. -/
import Derived.Test.YtemgabmafmehnaaGreatDoorAtOdd
import Derived.Test.YtemgabmafmehnaaGreatDoorAtWrites
import Derived.Test.YtemgabmafmehnaaGreatDoorLwBack
namespace Go.Proofs.YtemgabmafmehnaaGreatDoor
open Go.Shelf Go.RowKit Go.Proofs.Wide Go.Proofs.Dig
set_option maxRecDepth 100000
set_option maxHeartbeats 16000000
def RwC (w : World) (g : Nat) (xs : List Value) : Prop := ∀ (j : Nat) (u : Value), xs[j]? = some u → w.cell? ⟨g, j, none⟩ = some u
theorem RwC.new (w : World) (xs : List Value) (t : TypeId) : RwC (w.alloc (.cells xs.toArray t)) w.heap.size xs := by
  intro j u hu
  have h := heap_alloc_new w (.cells xs.toArray t)
  unfold World.cell?
  rw [h]
  simpa using hu
/-- A row that the call has made. -/
def RwA (w : World) (s : Value) (n : Nat) (xs : List Value) : Prop := ∃ g, s = .slice (some ⟨g, 0, none⟩) n n ∧ RwC w g xs ∧ g < w.heap.size
theorem RwA.call {w w' : World} {s : Value} {n : Nat} {xs : List Value} (h : RwA w s n xs) (hb : Below w.heap.size w w') : RwA w' s n xs := by
  obtain ⟨g, e, hr, hg⟩ := h
  exact ⟨g, e, fun j u hu => (hb.cell (p := ⟨g, j, none⟩) hg).trans (hr j u hu), Nat.lt_of_lt_of_le hg hb.size⟩
theorem RwA.new (w : World) (xs : List Value) (t : TypeId) (n : Nat) : RwA (w.alloc (.cells xs.toArray t)) (.slice (some ⟨w.heap.size, 0, none⟩) n n) n xs := ⟨_, rfl, RwC.new w xs t, by simp⟩
theorem atRight_1 (r : Bool) (k n c : Int) (s : ByteArray) (b : Bool) (g cap : Nat) (w : World) (hT : TT w) (hg : g < w.heap.size) (hr : RwC w g [.int .i64 k, .int .i64 n, .int .i64 c, .string s, .bool b]) (H0 : Hid (GT 42 #[.agg #[.int .i64 k, .int .i64 n, .int .i64 c, .string s, .bool b]] (.bool r))) :
    Calls Tryz.prog 14 #[.slice (some ⟨g, 0, none⟩) 1 cap] w fun e w' => e = .returned (.bool r) ∧ Below w.heap.size w w' := by
  cases r with
  | true => exact atRight_one k n c s b g cap w hT hg (hr 0 _ rfl) (hr 1 _ rfl) (hr 2 _ rfl) (hr 3 _ rfl) (hr 4 _ rfl) H0
  | false => exact atRight_one_no k n c s b g cap w hT hg (hr 0 _ rfl) (hr 1 _ rfl) (hr 2 _ rfl) (hr 3 _ rfl) (hr 4 _ rfl) H0
theorem atRight_2 (r : Bool) (k n c : Int) (s : ByteArray) (b : Bool) (g cap : Nat) (w : World) (hT : TT w) (hg : g < w.heap.size) (hr : RwC w g [.int .i64 1, .int .i64 1, .int .i64 0, .string ⟨#[]⟩, .bool false, .int .i64 k, .int .i64 n, .int .i64 c, .string s, .bool b]) (H0 : Hid (GT 42 #[.agg #[.int .i64 k, .int .i64 n, .int .i64 c, .string s, .bool b]] (.bool r))) :
    Calls Tryz.prog 14 #[.slice (some ⟨g, 0, none⟩) 2 cap] w fun e w' => e = .returned (.bool r) ∧ Below w.heap.size w w' := by
  have HI : Hid (GT 42 #[.agg #[.int .i64 1, .int .i64 1, .int .i64 0, .string ⟨#[]⟩, .bool false]] (.bool true)) := right_av (.int 1) one_right
  cases r with
  | true => exact atRight_two_yes k n c s b g cap w hT hg (hr 0 _ rfl) (hr 1 _ rfl) (hr 2 _ rfl) (hr 3 _ rfl) (hr 4 _ rfl) HI (hr 5 _ rfl) (hr 6 _ rfl) (hr 7 _ rfl) (hr 8 _ rfl) (hr 9 _ rfl) H0
  | false => exact atRight_two_no k n c s b g cap w hT hg (hr 0 _ rfl) (hr 1 _ rfl) (hr 2 _ rfl) (hr 3 _ rfl) (hr 4 _ rfl) HI (hr 5 _ rfl) (hr 6 _ rfl) (hr 7 _ rfl) (hr 8 _ rfl) (hr 9 _ rfl) H0
theorem refR_ok (a : AV) (h : a.ok) : Hid (Gives 13 #[a.v] (.bool true)) := gives_unfold fun w => by
  cases a with
  | int n => exact refR_int n true w (numRef_gt n 0 (rz_inI h).1 ⟨by decide, by decide⟩ _ (rightB_true0 h))
  | dec n c => exact refR_dec n c true w (numRef_gt n c (rz_inI h).1 (rz_inI h).2 _ (rightB_true h))
  | str l => exact refR_str l true w (validRef_gt l h.2 _ h.1)
  | boo b => exact refR_boo b w
  | raw l => exact refR_raw l true w (validRef_gt l h.2 _ h.1)
theorem right_bad (k n c : Int) (l : List UInt8) (b : Bool) (hn : InI n) (hc : InI c) (hl : l.length ≤ 1048576) :
    (∃ a : AV, a.ok ∧ .agg #[.int .i64 k, .int .i64 n, .int .i64 c, .string (ba' l), .bool b] = a.v) ∨ Hid (GT 42 #[.agg #[.int .i64 k, .int .i64 n, .int .i64 c, .string (ba' l), .bool b]] (.bool false)) := by
  by_cases hle : l = []
  · subst hle
    by_cases k1 : k = 1
    · subst k1
      by_cases c0 : c = 0
      · subst c0
        cases b with
        | true => exact .inr (gt_of fun w hT => right_int_b n w)
        | false =>
          cases hr : rightB (n, 0) with
          | true =>
            obtain ⟨j, hj, hz⟩ := right_of hr
            have j0 : j = 0 := by have : (j : Int) = 0 := by simpa using hj.symm
                                  omega
            subst j0
            exact .inl ⟨.int n, hz, rfl⟩
          | false => exact .inr (gt_of fun w hT => (by have := right_int n w hn; rw [hr] at this; exact this))
      · exact .inr (gt_of fun w hT => right_int_c n c [] b w c0)
    by_cases k2 : k = 2
    · subst k2
      cases b with
      | true => exact .inr (gt_of fun w hT => right_dec_b n c w)
      | false =>
        cases hr : rightB (n, c) with
        | true =>
          obtain ⟨j, hj, hz⟩ := right_of hr
          have hj' : c = (j : Int) := hj
          subst hj'
          exact .inl ⟨.dec n j, hz, rfl⟩
        | false => exact .inr (gt_of fun w hT => (by have := right_dec n c w hn hc; rw [hr] at this; exact this))
    by_cases k3 : k = 3
    · subst k3
      by_cases n0 : n = 0
      · subst n0
        by_cases c0 : c = 0
        · subst c0
          cases b with
          | true => exact .inr (gt_of fun w hT => right_str_b [] w)
          | false => exact .inl ⟨.str [], ⟨rfl, by decide⟩, rfl⟩
        · exact .inr (gt_of fun w hT => right_str_c c [] b w c0)
      · exact .inr (gt_of fun w hT => right_str_n n c [] b w n0)
    by_cases k5 : k = 5
    · subst k5
      by_cases n0 : n = 0
      · subst n0
        by_cases c0 : c = 0
        · subst c0
          cases b with
          | true => exact .inr (gt_of fun w hT => right_raw_b [] w)
          | false => exact .inl ⟨.raw [], ⟨rfl, by decide⟩, rfl⟩
        · exact .inr (gt_of fun w hT => right_raw_c c [] b w c0)
      · exact .inr (gt_of fun w hT => right_raw_n n c [] b w n0)
    by_cases k4 : k = 4
    · subst k4
      by_cases n0 : n = 0
      · subst n0
        by_cases c0 : c = 0
        · subst c0
          exact .inl ⟨.boo b, trivial, rfl⟩
        · exact .inr (gt_of fun w hT => right_boo_c c [] b w c0)
      · exact .inr (gt_of fun w hT => right_boo_n n c [] b w n0)
    have hk : k ≠ 1 ∧ k ≠ 2 ∧ k ≠ 3 ∧ k ≠ 4 ∧ k ≠ 5 := ⟨k1, k2, k3, k4, k5⟩
    by_cases n0 : n = 0
    · subst n0
      by_cases c0 : c = 0
      · subst c0
        cases b with
        | true => exact .inr (gt_of fun w hT => right_kind k 0 0 [] true w hk)
        | false => exact .inr (gt_of fun w hT => right_kind k 0 0 [] false w hk)
      · exact .inr (gt_of fun w hT => right_kind k 0 c [] b w hk)
    · exact .inr (gt_of fun w hT => right_kind k n c [] b w hk)
  · by_cases k1 : k = 1
    · subst k1
      by_cases c0 : c = 0
      · subst c0
        cases b with
        | true => exact .inr (gt_of fun w hT => right_int_l n l true w hle)
        | false => exact .inr (gt_of fun w hT => right_int_l n l false w hle)
      · exact .inr (gt_of fun w hT => right_int_c n c l b w c0)
    by_cases k2 : k = 2
    · subst k2
      cases b with
      | true => exact .inr (gt_of fun w hT => right_dec_l n c l true w hle)
      | false => exact .inr (gt_of fun w hT => right_dec_l n c l false w hle)
    by_cases k3 : k = 3
    · subst k3
      by_cases n0 : n = 0
      · subst n0
        by_cases c0 : c = 0
        · subst c0
          cases b with
          | true => exact .inr (gt_of fun w hT => right_str_b l w)
          | false =>
            cases hv : validX l with
            | true => exact .inl ⟨.str l, ⟨hv, hl⟩, rfl⟩
            | false => exact .inr (gt_of fun w hT => (by have := right_str l w hl hT; rw [hv] at this; exact this))
        · exact .inr (gt_of fun w hT => right_str_c c l b w c0)
      · exact .inr (gt_of fun w hT => right_str_n n c l b w n0)
    by_cases k5 : k = 5
    · subst k5
      by_cases n0 : n = 0
      · subst n0
        by_cases c0 : c = 0
        · subst c0
          cases b with
          | true => exact .inr (gt_of fun w hT => right_raw_b l w)
          | false =>
            cases hv : validX l with
            | true => exact .inl ⟨.raw l, ⟨hv, hl⟩, rfl⟩
            | false => exact .inr (gt_of fun w hT => (by have := right_raw l w hl hT; rw [hv] at this; exact this))
        · exact .inr (gt_of fun w hT => right_raw_c c l b w c0)
      · exact .inr (gt_of fun w hT => right_raw_n n c l b w n0)
    by_cases k4 : k = 4
    · subst k4
      by_cases n0 : n = 0
      · subst n0
        by_cases c0 : c = 0
        · subst c0
          exact .inr (gt_of fun w hT => right_boo_l l b w hle)
        · exact .inr (gt_of fun w hT => right_boo_c c l b w c0)
      · exact .inr (gt_of fun w hT => right_boo_n n c l b w n0)
    have hk : k ≠ 1 ∧ k ≠ 2 ∧ k ≠ 3 ∧ k ≠ 4 ∧ k ≠ 5 := ⟨k1, k2, k3, k4, k5⟩
    by_cases n0 : n = 0
    · subst n0
      by_cases c0 : c = 0
      · subst c0
        cases b with
        | true => exact .inr (gt_of fun w hT => right_kind k 0 0 l true w hk)
        | false => exact .inr (gt_of fun w hT => right_kind k 0 0 l false w hk)
      · exact .inr (gt_of fun w hT => right_kind k 0 c l b w hk)
    · exact .inr (gt_of fun w hT => right_kind k n c l b w hk)
def Lr41I (w0 : World) (n c : Int) (s : ByteArray) (b r : Bool) (ga : Nat) (c0 c2 c4 c5 c6 c7 c8 c35 c36 c37 c38 c39 c40 c41 c42 c43 c44 c45 c46 c47 c48 c49 c50 c51 c52 c53 c54 c55 c56 c57 c58 c59 c60 c61 c62 c63 c64 c65 c66 c67 c68 c69 c70 c71 c72 c73 c74 c75 c76 c77 c78 c79 c80 c81 c82 c83 c84 c85 c86 c87 c88 c89 c90 c91 c92 c93 c94 c95 c96 : Value) (listed : Array Bool) (A : Act) (w : World) : Prop := ∃ (s9 s10 s11 s12 s13 s14 s15 s16 s17 s18 s19 s20 s21 s22 s23 s24 s25 s26 s27 s28 s29 s30 s31 s32 s33 s34 : Value), A = { tmps := #[c0, .pointer (some ⟨ga, 0, none⟩), c2, .bool r, c4, c5, c6, c7, c8, s9, s10, s11, s12, s13, s14, s15, s16, s17, s18, s19, s20, s21, s22, s23, s24, s25, s26, s27, s28, s29, s30, s31, s32, s33, s34, c35, c36, c37, c38, c39, c40, c41, c42, c43, c44, c45, c46, c47, c48, c49, c50, c51, c52, c53, c54, c55, c56, c57, c58, c59, c60, c61, c62, c63, c64, c65, c66, c67, c68, c69, c70, c71, c72, c73, c74, c75, c76, c77, c78, c79, c80, c81, c82, c83, c84, c85, c86, c87, c88, c89, c90, c91, c92, c93, c94, c95, c96], defers := [] } ∧
  (listed.getD 0 false = true → s9 = .agg #[.int .i64 1, .int .i64 n, .int .i64 c, .string s, .bool b]) ∧
  (listed.getD 1 false = true → RwA w s10 1 [.int .i64 1, .int .i64 n, .int .i64 c, .string s, .bool b]) ∧
  (listed.getD 2 false = true → s11 = .bool r) ∧
  (listed.getD 3 false = true → s12 = .bool r) ∧
  (listed.getD 4 false = true → s13 = .bool false) ∧
  (listed.getD 5 false = true → s14 = .bool false) ∧
  (listed.getD 6 false = true → s15 = .agg #[.int .i64 1, .int .i64 1, .int .i64 0, .string ⟨#[]⟩, .bool false]) ∧
  (listed.getD 7 false = true → s16 = .agg #[.int .i64 1, .int .i64 n, .int .i64 c, .string s, .bool b]) ∧
  (listed.getD 8 false = true → RwA w s17 2 [.int .i64 1, .int .i64 1, .int .i64 0, .string ⟨#[]⟩, .bool false, .int .i64 1, .int .i64 n, .int .i64 c, .string s, .bool b]) ∧
  (listed.getD 9 false = true → s18 = .bool r) ∧
  (listed.getD 10 false = true → s19 = .bool r) ∧
  (listed.getD 11 false = true → s20 = .bool false) ∧
  (listed.getD 12 false = true → s21 = .bool false) ∧
  (listed.getD 13 false = true → s22 = .bool false) ∧
  (listed.getD 14 false = true → s23 = .agg #[.int .i64 1, .int .i64 n, .int .i64 c, .string s, .bool b]) ∧
  (listed.getD 15 false = true → s24 = .bool true) ∧
  (listed.getD 16 false = true → s25 = .pointer (some ⟨ga, 0, none⟩)) ∧
  (listed.getD 17 false = true → s26 = .int .i64 1) ∧
  (listed.getD 18 false = true → s27 = .bool true) ∧
  (listed.getD 19 false = true → s28 = .bool true) ∧
  (listed.getD 20 false = true → s29 = undef) ∧
  (listed.getD 21 false = true → s30 = undef) ∧
  (listed.getD 22 false = true → s31 = undef) ∧
  (listed.getD 23 false = true → s32 = .bool true) ∧
  (listed.getD 24 false = true → s33 = .bool false) ∧
  (listed.getD 25 false = true → s34 = .bool false) ∧
  Below w0.heap.size w0 w ∧
  w.cell? ⟨ga, 0, none⟩ = some (.int .i64 1) ∧
  w.cell? ⟨ga, 1, none⟩ = some (.int .i64 n) ∧
  w.cell? ⟨ga, 2, none⟩ = some (.int .i64 c) ∧
  w.cell? ⟨ga, 3, none⟩ = some (.string s) ∧
  w.cell? ⟨ga, 4, none⟩ = some (.bool b)
set_option maxRecDepth 100000 in
set_option maxHeartbeats 16000000 in
theorem Lr41_region (n c : Int) (s : ByteArray) (b r : Bool) (ga : Nat) (x9 x10 x11 x12 x13 x14 x15 x16 x17 x18 x19 x20 x21 x22 x23 x24 x25 x26 x27 x28 x29 x30 x31 x32 x33 x34 : Value) (c0 c2 c4 c5 c6 c7 c8 c35 c36 c37 c38 c39 c40 c41 c42 c43 c44 c45 c46 c47 c48 c49 c50 c51 c52 c53 c54 c55 c56 c57 c58 c59 c60 c61 c62 c63 c64 c65 c66 c67 c68 c69 c70 c71 c72 c73 c74 c75 c76 c77 c78 c79 c80 c81 c82 c83 c84 c85 c86 c87 c88 c89 c90 c91 c92 c93 c94 c95 c96 : Value) (w0 W : World) (Q : Exit → Act → World → Prop) (hb0 : Below w0.heap.size w0 W) (C0 : W.cell? ⟨ga, 0, none⟩ = some (.int .i64 1)) (C1 : W.cell? ⟨ga, 1, none⟩ = some (.int .i64 n)) (C2 : W.cell? ⟨ga, 2, none⟩ = some (.int .i64 c)) (C3 : W.cell? ⟨ga, 3, none⟩ = some (.string s)) (C4 : W.cell? ⟨ga, 4, none⟩ = some (.bool b)) (HT : Hid (TT w0)) (HA : Hid (GT 42 #[.agg #[.int .i64 1, .int .i64 n, .int .i64 c, .string s, .bool b]] (.bool r))) (HQ : Hid (Gives 16 #[.agg #[.int .i64 1, .int .i64 n, .int .i64 c, .string s, .bool b]] (.bool true)))
    (hQ : ∀ (w : World) (y10 y17 : Value) , (w.cell? ⟨ga, 0, none⟩ = some (.int .i64 1) ∧ w.cell? ⟨ga, 1, none⟩ = some (.int .i64 n) ∧ w.cell? ⟨ga, 2, none⟩ = some (.int .i64 c) ∧ w.cell? ⟨ga, 3, none⟩ = some (.string s) ∧ w.cell? ⟨ga, 4, none⟩ = some (.bool b)) → Below w0.heap.size w0 w → Q .normal { tmps := #[c0, .pointer (some ⟨ga, 0, none⟩), c2, .bool r, c4, c5, c6, c7, c8, .agg #[.int .i64 1, .int .i64 n, .int .i64 c, .string s, .bool b], y10, .bool r, .bool r, .bool false, .bool false, .agg #[.int .i64 1, .int .i64 1, .int .i64 0, .string ⟨#[]⟩, .bool false], .agg #[.int .i64 1, .int .i64 n, .int .i64 c, .string s, .bool b], y17, .bool r, .bool r, .bool false, .bool false, .bool false, .agg #[.int .i64 1, .int .i64 n, .int .i64 c, .string s, .bool b], .bool true, .pointer (some ⟨ga, 0, none⟩), .int .i64 1, .bool true, .bool true, undef, undef, undef, .bool true, .bool false, .bool false, c35, c36, c37, c38, c39, c40, c41, c42, c43, c44, c45, c46, c47, c48, c49, c50, c51, c52, c53, c54, c55, c56, c57, c58, c59, c60, c61, c62, c63, c64, c65, c66, c67, c68, c69, c70, c71, c72, c73, c74, c75, c76, c77, c78, c79, c80, c81, c82, c83, c84, c85, c86, c87, c88, c89, c90, c91, c92, c93, c94, c95, c96], defers := [] } w) :
    Code.wp Tryz.prog ((Tryz.f3.body.bind (regionOf 4)).getD .skip) Q { tmps := #[c0, .pointer (some ⟨ga, 0, none⟩), c2, .bool r, c4, c5, c6, c7, c8, x9, x10, x11, x12, x13, x14, x15, x16, x17, x18, x19, x20, x21, x22, x23, x24, x25, x26, x27, x28, x29, x30, x31, x32, x33, x34, c35, c36, c37, c38, c39, c40, c41, c42, c43, c44, c45, c46, c47, c48, c49, c50, c51, c52, c53, c54, c55, c56, c57, c58, c59, c60, c61, c62, c63, c64, c65, c66, c67, c68, c69, c70, c71, c72, c73, c74, c75, c76, c77, c78, c79, c80, c81, c82, c83, c84, c85, c86, c87, c88, c89, c90, c91, c92, c93, c94, c95, c96], defers := [] } W := by
  conv => arg 2; whnf
  refine wp_region_inv (by kernel_rfl) (by kernel_rfl) (Lr41I w0 n c s b r ga c0 c2 c4 c5 c6 c7 c8 c35 c36 c37 c38 c39 c40 c41 c42 c43 c44 c45 c46 c47 c48 c49 c50 c51 c52 c53 c54 c55 c56 c57 c58 c59 c60 c61 c62 c63 c64 c65 c66 c67 c68 c69 c70 c71 c72 c73 c74 c75 c76 c77 c78 c79 c80 c81 c82 c83 c84 c85 c86 c87 c88 c89 c90 c91 c92 c93 c94 c95 c96) ?_ ?_ ?_
  · exact ⟨_, _, _, _, _, _, _, _, _, _, _, _, _, _, _, _, _, _, _, _, _, _, _, _, _, _, rfl, fun h => absurd h l0, fun h => absurd h l0, fun h => absurd h l0, fun h => absurd h l0, fun h => absurd h l0, fun h => absurd h l0, fun h => absurd h l0, fun h => absurd h l0, fun h => absurd h l0, fun h => absurd h l0, fun h => absurd h l0, fun h => absurd h l0, fun h => absurd h l0, fun h => absurd h l0, fun h => absurd h l0, fun h => absurd h l0, fun h => absurd h l0, fun h => absurd h l0, fun h => absurd h l0, fun h => absurd h l0, fun h => absurd h l0, fun h => absurd h l0, fun h => absurd h l0, fun h => absurd h l0, fun h => absurd h l0, fun h => absurd h l0, bdr hb0, C0, C1, C2, C3, C4⟩
  · intro i o listed A w hi ho hd hn hI
    unfold Lr41I at hI
    obtain ⟨s9, hI⟩ := hI
    obtain ⟨s10, hI⟩ := hI
    obtain ⟨s11, hI⟩ := hI
    obtain ⟨s12, hI⟩ := hI
    obtain ⟨s13, hI⟩ := hI
    obtain ⟨s14, hI⟩ := hI
    obtain ⟨s15, hI⟩ := hI
    obtain ⟨s16, hI⟩ := hI
    obtain ⟨s17, hI⟩ := hI
    obtain ⟨s18, hI⟩ := hI
    obtain ⟨s19, hI⟩ := hI
    obtain ⟨s20, hI⟩ := hI
    obtain ⟨s21, hI⟩ := hI
    obtain ⟨s22, hI⟩ := hI
    obtain ⟨s23, hI⟩ := hI
    obtain ⟨s24, hI⟩ := hI
    obtain ⟨s25, hI⟩ := hI
    obtain ⟨s26, hI⟩ := hI
    obtain ⟨s27, hI⟩ := hI
    obtain ⟨s28, hI⟩ := hI
    obtain ⟨s29, hI⟩ := hI
    obtain ⟨s30, hI⟩ := hI
    obtain ⟨s31, hI⟩ := hI
    obtain ⟨s32, hI⟩ := hI
    obtain ⟨s33, hI⟩ := hI
    obtain ⟨s34, hI⟩ := hI
    obtain ⟨rfl, hI⟩ := hI
    obtain ⟨F0, hI⟩ := hI
    obtain ⟨F1, hI⟩ := hI
    obtain ⟨F2, hI⟩ := hI
    obtain ⟨F3, hI⟩ := hI
    obtain ⟨F4, hI⟩ := hI
    obtain ⟨F5, hI⟩ := hI
    obtain ⟨F6, hI⟩ := hI
    obtain ⟨F7, hI⟩ := hI
    obtain ⟨F8, hI⟩ := hI
    obtain ⟨F9, hI⟩ := hI
    obtain ⟨F10, hI⟩ := hI
    obtain ⟨F11, hI⟩ := hI
    obtain ⟨F12, hI⟩ := hI
    obtain ⟨F13, hI⟩ := hI
    obtain ⟨F14, hI⟩ := hI
    obtain ⟨F15, hI⟩ := hI
    obtain ⟨F16, hI⟩ := hI
    obtain ⟨F17, hI⟩ := hI
    obtain ⟨F18, hI⟩ := hI
    obtain ⟨F19, hI⟩ := hI
    obtain ⟨F20, hI⟩ := hI
    obtain ⟨F21, hI⟩ := hI
    obtain ⟨F22, hI⟩ := hI
    obtain ⟨F23, hI⟩ := hI
    obtain ⟨F24, hI⟩ := hI
    obtain ⟨F25, hI⟩ := hI
    obtain ⟨F26, hI⟩ := hI
    obtain ⟨F27, hI⟩ := hI
    obtain ⟨F28, hI⟩ := hI
    obtain ⟨F29, hI⟩ := hI
    obtain ⟨F30, hI⟩ := hI
    have F31 := hI; clear hI
    have hi' : i < 26 := hi
    clear hi
    rcases (by omega : i = 0 ∨ i = 1 ∨ i = 2 ∨ i = 3 ∨ i = 4 ∨ i = 5 ∨ i = 6 ∨ i = 7 ∨ i = 8 ∨ i = 9 ∨ i = 10 ∨ i = 11 ∨ i = 12 ∨ i = 13 ∨ i = 14 ∨ i = 15 ∨ i = 16 ∨ i = 17 ∨ i = 18 ∨ i = 19 ∨ i = 20 ∨ i = 21 ∨ i = 22 ∨ i = 23 ∨ i = 24 ∨ i = 25) with rfl | rfl | rfl | rfl | rfl | rfl | rfl | rfl | rfl | rfl | rfl | rfl | rfl | rfl | rfl | rfl | rfl | rfl | rfl | rfl | rfl | rfl | rfl | rfl | rfl | rfl
    · simp only [List.getElem?_toArray, List.getElem?_cons_zero, Option.some.injEq] at ho
      subst ho
      have h0 := F27; have h1 := F28; have h2 := F29; have h3 := F30; have h4 := F31
      refine wpOp_step rfl (fun K hK => ?_)
      go_simp
      refine hK _ _ ?_
      exact ⟨_, _, _, _, _, _, _, _, _, _, _, _, _, _, _, _, _, _, _, _, _, _, _, _, _, _, rfl, fun _ => rfl, fun h => F1 (ls (by decide) h), lku F2, lku F3, lku F4, lku F5, lku F6, lku F7, fun h => F8 (ls (by decide) h), lku F9, lku F10, lku F11, lku F12, lku F13, lku F14, lku F15, lku F16, lku F17, lku F18, lku F19, lku F20, lku F21, lku F22, lku F23, lku F24, lku F25, F26, F27, F28, F29, F30, F31⟩
    · simp only [List.getElem?_toArray, List.getElem?_cons_zero, List.getElem?_cons_succ, Option.some.injEq] at ho
      subst ho
      obtain rfl := F0 (hd ⟨0, .data⟩ (by simp) rfl)
      refine wpOp_step rfl (fun K hK => ?_)
      go_simp
      refine hK _ _ ?_
      exact ⟨_, _, _, _, _, _, _, _, _, _, _, _, _, _, _, _, _, _, _, _, _, _, _, _, _, _, rfl, lku F0, fun _ => RwA.new _ _ _ _, lku F2, lku F3, lku F4, lku F5, lku F6, lku F7, fun h => (F8 (ls (by decide) h)).call ((Below.refl _ _).alloc (Nat.le_refl _) _), lku F9, lku F10, lku F11, lku F12, lku F13, lku F14, lku F15, lku F16, lku F17, lku F18, lku F19, lku F20, lku F21, lku F22, lku F23, lku F24, lku F25, ba F26, cell_callu F27 ((Below.refl _ _).alloc (Nat.le_refl _) _), cell_callu F28 ((Below.refl _ _).alloc (Nat.le_refl _) _), cell_callu F29 ((Below.refl _ _).alloc (Nat.le_refl _) _), cell_callu F30 ((Below.refl _ _).alloc (Nat.le_refl _) _), cell_callu F31 ((Below.refl _ _).alloc (Nat.le_refl _) _)⟩
    · simp only [List.getElem?_toArray, List.getElem?_cons_zero, List.getElem?_cons_succ, Option.some.injEq] at ho
      subst ho
      obtain ⟨g1, rfl, hr1, hg1⟩ := F1 (hd ⟨1, .data⟩ (by simp) rfl)
      refine wpOp_step rfl (fun K hK => ?_)
      go_simp
      go_at_call 14
      refine (atRight_1 r 1 n c s b g1 1 w (HT.out.below F26) hg1 hr1 HA).mono ?_
      rintro e w' ⟨rfl, hb⟩
      refine hK _ _ ?_
      exact ⟨_, _, _, _, _, _, _, _, _, _, _, _, _, _, _, _, _, _, _, _, _, _, _, _, _, _, rfl, lku F0, fun h => (F1 (ls (by decide) h)).call hb, fun _ => rfl, lku F3, lku F4, lku F5, lku F6, lku F7, fun h => (F8 (ls (by decide) h)).call hb, lku F9, lku F10, lku F11, lku F12, lku F13, lku F14, lku F15, lku F16, lku F17, lku F18, lku F19, lku F20, lku F21, lku F22, lku F23, lku F24, lku F25, bt F26 hb, cell_callu F27 hb, cell_callu F28 hb, cell_callu F29 hb, cell_callu F30 hb, cell_callu F31 hb⟩
    · simp only [List.getElem?_toArray, List.getElem?_cons_zero, List.getElem?_cons_succ, Option.some.injEq] at ho
      subst ho
      refine wpOp_step rfl (fun K hK => ?_)
      go_simp
      refine hK _ _ ?_
      exact ⟨_, _, _, _, _, _, _, _, _, _, _, _, _, _, _, _, _, _, _, _, _, _, _, _, _, _, rfl, lku F0, fun h => F1 (ls (by decide) h), lku F2, fun _ => rfl, lku F4, lku F5, lku F6, lku F7, fun h => F8 (ls (by decide) h), lku F9, lku F10, lku F11, lku F12, lku F13, lku F14, lku F15, lku F16, lku F17, lku F18, lku F19, lku F20, lku F21, lku F22, lku F23, lku F24, lku F25, F26, F27, F28, F29, F30, F31⟩
    · simp only [List.getElem?_toArray, List.getElem?_cons_zero, List.getElem?_cons_succ, Option.some.injEq] at ho
      subst ho
      obtain rfl := F2 (hd ⟨2, .data⟩ (by simp) rfl)
      obtain rfl := F3 (hd ⟨3, .data⟩ (by simp) rfl)
      refine wpOp_step rfl (fun K hK => ?_)
      go_simp
      refine hK _ _ ?_
      exact ⟨_, _, _, _, _, _, _, _, _, _, _, _, _, _, _, _, _, _, _, _, _, _, _, _, _, _, rfl, lku F0, fun h => F1 (ls (by decide) h), lku F2, lku F3, fun _ => rfl, lku F5, lku F6, lku F7, fun h => F8 (ls (by decide) h), lku F9, lku F10, lku F11, lku F12, lku F13, lku F14, lku F15, lku F16, lku F17, lku F18, lku F19, lku F20, lku F21, lku F22, lku F23, lku F24, lku F25, F26, F27, F28, F29, F30, F31⟩
    · simp only [List.getElem?_toArray, List.getElem?_cons_zero, List.getElem?_cons_succ, Option.some.injEq] at ho
      subst ho
      obtain rfl := F4 (hd ⟨4, .data⟩ (by simp) rfl)
      refine wpOp_step rfl (fun K hK => ?_)
      go_simp
      refine hK _ _ ?_
      exact ⟨_, _, _, _, _, _, _, _, _, _, _, _, _, _, _, _, _, _, _, _, _, _, _, _, _, _, rfl, lku F0, fun h => F1 (ls (by decide) h), lku F2, lku F3, lku F4, fun _ => rfl, lku F6, lku F7, fun h => F8 (ls (by decide) h), lku F9, lku F10, lku F11, lku F12, lku F13, lku F14, lku F15, lku F16, lku F17, lku F18, lku F19, lku F20, lku F21, lku F22, lku F23, lku F24, lku F25, F26, F27, F28, F29, F30, F31⟩
    · simp only [List.getElem?_toArray, List.getElem?_cons_zero, List.getElem?_cons_succ, Option.some.injEq] at ho
      subst ho
      obtain rfl := F5 (hd ⟨5, .guard⟩ (by simp) rfl)
      refine wpOp_step rfl (fun K hK => ?_)
      go_simp
      go_at_call 15
      refine (atOf_any 1 w).mono ?_
      rintro e w' ⟨rfl, hb⟩
      refine hK _ _ ?_
      exact ⟨_, _, _, _, _, _, _, _, _, _, _, _, _, _, _, _, _, _, _, _, _, _, _, _, _, _, rfl, lku F0, fun h => (F1 (ls (by decide) h)).call hb, lku F2, lku F3, lku F4, lku F5, fun _ => rfl, lku F7, fun h => (F8 (ls (by decide) h)).call hb, lku F9, lku F10, lku F11, lku F12, lku F13, lku F14, lku F15, lku F16, lku F17, lku F18, lku F19, lku F20, lku F21, lku F22, lku F23, lku F24, lku F25, bt F26 hb, cell_callu F27 hb, cell_callu F28 hb, cell_callu F29 hb, cell_callu F30 hb, cell_callu F31 hb⟩
    · simp only [List.getElem?_toArray, List.getElem?_cons_zero, List.getElem?_cons_succ, Option.some.injEq] at ho
      subst ho
      obtain rfl := F5 (hd ⟨5, .guard⟩ (by simp) rfl)
      have h0 := F27; have h1 := F28; have h2 := F29; have h3 := F30; have h4 := F31
      refine wpOp_step rfl (fun K hK => ?_)
      go_simp
      refine hK _ _ ?_
      exact ⟨_, _, _, _, _, _, _, _, _, _, _, _, _, _, _, _, _, _, _, _, _, _, _, _, _, _, rfl, lku F0, fun h => F1 (ls (by decide) h), lku F2, lku F3, lku F4, lku F5, lku F6, fun _ => rfl, fun h => F8 (ls (by decide) h), lku F9, lku F10, lku F11, lku F12, lku F13, lku F14, lku F15, lku F16, lku F17, lku F18, lku F19, lku F20, lku F21, lku F22, lku F23, lku F24, lku F25, F26, F27, F28, F29, F30, F31⟩
    · simp only [List.getElem?_toArray, List.getElem?_cons_zero, List.getElem?_cons_succ, Option.some.injEq] at ho
      subst ho
      obtain rfl := F6 (hd ⟨6, .data⟩ (by simp) rfl)
      obtain rfl := F7 (hd ⟨7, .data⟩ (by simp) rfl)
      obtain rfl := F5 (hd ⟨5, .guard⟩ (by simp) rfl)
      refine wpOp_step rfl (fun K hK => ?_)
      go_simp
      refine hK _ _ ?_
      exact ⟨_, _, _, _, _, _, _, _, _, _, _, _, _, _, _, _, _, _, _, _, _, _, _, _, _, _, rfl, lku F0, fun h => (F1 (ls (by decide) h)).call ((Below.refl _ _).alloc (Nat.le_refl _) _), lku F2, lku F3, lku F4, lku F5, lku F6, lku F7, fun _ => RwA.new _ _ _ _, lku F9, lku F10, lku F11, lku F12, lku F13, lku F14, lku F15, lku F16, lku F17, lku F18, lku F19, lku F20, lku F21, lku F22, lku F23, lku F24, lku F25, ba F26, cell_callu F27 ((Below.refl _ _).alloc (Nat.le_refl _) _), cell_callu F28 ((Below.refl _ _).alloc (Nat.le_refl _) _), cell_callu F29 ((Below.refl _ _).alloc (Nat.le_refl _) _), cell_callu F30 ((Below.refl _ _).alloc (Nat.le_refl _) _), cell_callu F31 ((Below.refl _ _).alloc (Nat.le_refl _) _)⟩
    · simp only [List.getElem?_toArray, List.getElem?_cons_zero, List.getElem?_cons_succ, Option.some.injEq] at ho
      subst ho
      obtain ⟨g2, rfl, hr2, hg2⟩ := F8 (hd ⟨8, .data⟩ (by simp) rfl)
      obtain rfl := F5 (hd ⟨5, .guard⟩ (by simp) rfl)
      refine wpOp_step rfl (fun K hK => ?_)
      go_simp
      go_at_call 14
      refine (atRight_2 r 1 n c s b g2 2 w (HT.out.below F26) hg2 hr2 HA).mono ?_
      rintro e w' ⟨rfl, hb⟩
      refine hK _ _ ?_
      exact ⟨_, _, _, _, _, _, _, _, _, _, _, _, _, _, _, _, _, _, _, _, _, _, _, _, _, _, rfl, lku F0, fun h => (F1 (ls (by decide) h)).call hb, lku F2, lku F3, lku F4, lku F5, lku F6, lku F7, fun h => (F8 (ls (by decide) h)).call hb, fun _ => rfl, lku F10, lku F11, lku F12, lku F13, lku F14, lku F15, lku F16, lku F17, lku F18, lku F19, lku F20, lku F21, lku F22, lku F23, lku F24, lku F25, bt F26 hb, cell_callu F27 hb, cell_callu F28 hb, cell_callu F29 hb, cell_callu F30 hb, cell_callu F31 hb⟩
    · simp only [List.getElem?_toArray, List.getElem?_cons_zero, List.getElem?_cons_succ, Option.some.injEq] at ho
      subst ho
      obtain rfl := F5 (hd ⟨5, .guard⟩ (by simp) rfl)
      refine wpOp_step rfl (fun K hK => ?_)
      go_simp
      refine hK _ _ ?_
      exact ⟨_, _, _, _, _, _, _, _, _, _, _, _, _, _, _, _, _, _, _, _, _, _, _, _, _, _, rfl, lku F0, fun h => F1 (ls (by decide) h), lku F2, lku F3, lku F4, lku F5, lku F6, lku F7, fun h => F8 (ls (by decide) h), lku F9, fun _ => rfl, lku F11, lku F12, lku F13, lku F14, lku F15, lku F16, lku F17, lku F18, lku F19, lku F20, lku F21, lku F22, lku F23, lku F24, lku F25, F26, F27, F28, F29, F30, F31⟩
    · simp only [List.getElem?_toArray, List.getElem?_cons_zero, List.getElem?_cons_succ, Option.some.injEq] at ho
      subst ho
      obtain rfl := F9 (hd ⟨9, .data⟩ (by simp) rfl)
      obtain rfl := F10 (hd ⟨10, .data⟩ (by simp) rfl)
      obtain rfl := F5 (hd ⟨5, .guard⟩ (by simp) rfl)
      refine wpOp_step rfl (fun K hK => ?_)
      go_simp
      refine hK _ _ ?_
      exact ⟨_, _, _, _, _, _, _, _, _, _, _, _, _, _, _, _, _, _, _, _, _, _, _, _, _, _, rfl, lku F0, fun h => F1 (ls (by decide) h), lku F2, lku F3, lku F4, lku F5, lku F6, lku F7, fun h => F8 (ls (by decide) h), lku F9, lku F10, fun _ => rfl, lku F12, lku F13, lku F14, lku F15, lku F16, lku F17, lku F18, lku F19, lku F20, lku F21, lku F22, lku F23, lku F24, lku F25, F26, F27, F28, F29, F30, F31⟩
    · simp only [List.getElem?_toArray, List.getElem?_cons_zero, List.getElem?_cons_succ, Option.some.injEq] at ho
      subst ho
      obtain rfl := F5 (hd ⟨5, .data⟩ (by simp) rfl)
      obtain rfl := F11 (hd ⟨11, .data⟩ (by simp) rfl)
      refine wpOp_step rfl (fun K hK => ?_)
      go_simp
      refine hK _ _ ?_
      exact ⟨_, _, _, _, _, _, _, _, _, _, _, _, _, _, _, _, _, _, _, _, _, _, _, _, _, _, rfl, lku F0, fun h => F1 (ls (by decide) h), lku F2, lku F3, lku F4, lku F5, lku F6, lku F7, fun h => F8 (ls (by decide) h), lku F9, lku F10, lku F11, fun _ => rfl, lku F13, lku F14, lku F15, lku F16, lku F17, lku F18, lku F19, lku F20, lku F21, lku F22, lku F23, lku F24, lku F25, F26, F27, F28, F29, F30, F31⟩
    · simp only [List.getElem?_toArray, List.getElem?_cons_zero, List.getElem?_cons_succ, Option.some.injEq] at ho
      subst ho
      obtain rfl := F12 (hd ⟨12, .data⟩ (by simp) rfl)
      refine wpOp_step rfl (fun K hK => ?_)
      go_simp
      refine hK _ _ ?_
      exact ⟨_, _, _, _, _, _, _, _, _, _, _, _, _, _, _, _, _, _, _, _, _, _, _, _, _, _, rfl, lku F0, fun h => F1 (ls (by decide) h), lku F2, lku F3, lku F4, lku F5, lku F6, lku F7, fun h => F8 (ls (by decide) h), lku F9, lku F10, lku F11, lku F12, fun _ => rfl, lku F14, lku F15, lku F16, lku F17, lku F18, lku F19, lku F20, lku F21, lku F22, lku F23, lku F24, lku F25, F26, F27, F28, F29, F30, F31⟩
    · simp only [List.getElem?_toArray, List.getElem?_cons_zero, List.getElem?_cons_succ, Option.some.injEq] at ho
      subst ho
      obtain rfl := F13 (hd ⟨13, .guard⟩ (by simp) rfl)
      have h0 := F27; have h1 := F28; have h2 := F29; have h3 := F30; have h4 := F31
      refine wpOp_step rfl (fun K hK => ?_)
      go_simp
      refine hK _ _ ?_
      exact ⟨_, _, _, _, _, _, _, _, _, _, _, _, _, _, _, _, _, _, _, _, _, _, _, _, _, _, rfl, lku F0, fun h => F1 (ls (by decide) h), lku F2, lku F3, lku F4, lku F5, lku F6, lku F7, fun h => F8 (ls (by decide) h), lku F9, lku F10, lku F11, lku F12, lku F13, fun _ => rfl, lku F15, lku F16, lku F17, lku F18, lku F19, lku F20, lku F21, lku F22, lku F23, lku F24, lku F25, F26, F27, F28, F29, F30, F31⟩
    · simp only [List.getElem?_toArray, List.getElem?_cons_zero, List.getElem?_cons_succ, Option.some.injEq] at ho
      subst ho
      obtain rfl := F14 (hd ⟨14, .data⟩ (by simp) rfl)
      obtain rfl := F13 (hd ⟨13, .guard⟩ (by simp) rfl)
      refine wpOp_step rfl (fun K hK => ?_)
      go_simp
      go_at_call 16
      refine (HQ.out.call w).mono ?_
      rintro e w' ⟨rfl, hb⟩
      refine hK _ _ ?_
      exact ⟨_, _, _, _, _, _, _, _, _, _, _, _, _, _, _, _, _, _, _, _, _, _, _, _, _, _, rfl, lku F0, fun h => (F1 (ls (by decide) h)).call hb, lku F2, lku F3, lku F4, lku F5, lku F6, lku F7, fun h => (F8 (ls (by decide) h)).call hb, lku F9, lku F10, lku F11, lku F12, lku F13, lku F14, fun _ => rfl, lku F16, lku F17, lku F18, lku F19, lku F20, lku F21, lku F22, lku F23, lku F24, lku F25, bt F26 hb, cell_callu F27 hb, cell_callu F28 hb, cell_callu F29 hb, cell_callu F30 hb, cell_callu F31 hb⟩
    · simp only [List.getElem?_toArray, List.getElem?_cons_zero, List.getElem?_cons_succ, Option.some.injEq] at ho
      subst ho
      obtain rfl := F13 (hd ⟨13, .guard⟩ (by simp) rfl)
      refine wpOp_step rfl (fun K hK => ?_)
      go_simp
      refine hK _ _ ?_
      exact ⟨_, _, _, _, _, _, _, _, _, _, _, _, _, _, _, _, _, _, _, _, _, _, _, _, _, _, rfl, lku F0, fun h => F1 (ls (by decide) h), lku F2, lku F3, lku F4, lku F5, lku F6, lku F7, fun h => F8 (ls (by decide) h), lku F9, lku F10, lku F11, lku F12, lku F13, lku F14, lku F15, fun _ => rfl, lku F17, lku F18, lku F19, lku F20, lku F21, lku F22, lku F23, lku F24, lku F25, F26, F27, F28, F29, F30, F31⟩
    · simp only [List.getElem?_toArray, List.getElem?_cons_zero, List.getElem?_cons_succ, Option.some.injEq] at ho
      subst ho
      obtain rfl := F16 (hd ⟨16, .data⟩ (by simp) rfl)
      obtain rfl := F13 (hd ⟨13, .guard⟩ (by simp) rfl)
      have h0 := F27; have h1 := F28; have h2 := F29; have h3 := F30; have h4 := F31
      refine wpOp_step rfl (fun K hK => ?_)
      go_simp
      refine hK _ _ ?_
      exact ⟨_, _, _, _, _, _, _, _, _, _, _, _, _, _, _, _, _, _, _, _, _, _, _, _, _, _, rfl, lku F0, fun h => F1 (ls (by decide) h), lku F2, lku F3, lku F4, lku F5, lku F6, lku F7, fun h => F8 (ls (by decide) h), lku F9, lku F10, lku F11, lku F12, lku F13, lku F14, lku F15, lku F16, fun _ => rfl, lku F18, lku F19, lku F20, lku F21, lku F22, lku F23, lku F24, lku F25, F26, F27, F28, F29, F30, F31⟩
    · simp only [List.getElem?_toArray, List.getElem?_cons_zero, List.getElem?_cons_succ, Option.some.injEq] at ho
      subst ho
      obtain rfl := F17 (hd ⟨17, .data⟩ (by simp) rfl)
      obtain rfl := F13 (hd ⟨13, .guard⟩ (by simp) rfl)
      refine wpOp_step rfl (fun K hK => ?_)
      go_simp
      refine hK _ _ ?_
      exact ⟨_, _, _, _, _, _, _, _, _, _, _, _, _, _, _, _, _, _, _, _, _, _, _, _, _, _, rfl, lku F0, fun h => F1 (ls (by decide) h), lku F2, lku F3, lku F4, lku F5, lku F6, lku F7, fun h => F8 (ls (by decide) h), lku F9, lku F10, lku F11, lku F12, lku F13, lku F14, lku F15, lku F16, lku F17, fun _ => rfl, lku F19, lku F20, lku F21, lku F22, lku F23, lku F24, lku F25, F26, F27, F28, F29, F30, F31⟩
    · simp only [List.getElem?_toArray, List.getElem?_cons_zero, List.getElem?_cons_succ, Option.some.injEq] at ho
      subst ho
      obtain rfl := F18 (hd ⟨18, .data⟩ (by simp) rfl)
      obtain rfl := F13 (hd ⟨13, .guard⟩ (by simp) rfl)
      refine wpOp_step rfl (fun K hK => ?_)
      go_simp
      refine hK _ _ ?_
      exact ⟨_, _, _, _, _, _, _, _, _, _, _, _, _, _, _, _, _, _, _, _, _, _, _, _, _, _, rfl, lku F0, fun h => F1 (ls (by decide) h), lku F2, lku F3, lku F4, lku F5, lku F6, lku F7, fun h => F8 (ls (by decide) h), lku F9, lku F10, lku F11, lku F12, lku F13, lku F14, lku F15, lku F16, lku F17, lku F18, fun _ => rfl, lku F20, lku F21, lku F22, lku F23, lku F24, lku F25, F26, F27, F28, F29, F30, F31⟩
    · simp only [List.getElem?_toArray, List.getElem?_cons_zero, List.getElem?_cons_succ, Option.some.injEq] at ho
      subst ho
      obtain rfl := F19 (hd ⟨19, .guard⟩ (by simp) rfl)
      refine wpOp_step rfl (fun K hK => ?_)
      go_simp
      refine hK _ _ ?_
      exact ⟨_, _, _, _, _, _, _, _, _, _, _, _, _, _, _, _, _, _, _, _, _, _, _, _, _, _, rfl, lku F0, fun h => F1 (ls (by decide) h), lku F2, lku F3, lku F4, lku F5, lku F6, lku F7, fun h => F8 (ls (by decide) h), lku F9, lku F10, lku F11, lku F12, lku F13, lku F14, lku F15, lku F16, lku F17, lku F18, lku F19, fun _ => rfl, lku F21, lku F22, lku F23, lku F24, lku F25, F26, F27, F28, F29, F30, F31⟩
    · simp only [List.getElem?_toArray, List.getElem?_cons_zero, List.getElem?_cons_succ, Option.some.injEq] at ho
      subst ho
      obtain rfl := F19 (hd ⟨19, .guard⟩ (by simp) rfl)
      refine wpOp_step rfl (fun K hK => ?_)
      go_simp
      refine hK _ _ ?_
      exact ⟨_, _, _, _, _, _, _, _, _, _, _, _, _, _, _, _, _, _, _, _, _, _, _, _, _, _, rfl, lku F0, fun h => F1 (ls (by decide) h), lku F2, lku F3, lku F4, lku F5, lku F6, lku F7, fun h => F8 (ls (by decide) h), lku F9, lku F10, lku F11, lku F12, lku F13, lku F14, lku F15, lku F16, lku F17, lku F18, lku F19, lku F20, fun _ => rfl, lku F22, lku F23, lku F24, lku F25, F26, F27, F28, F29, F30, F31⟩
    · simp only [List.getElem?_toArray, List.getElem?_cons_zero, List.getElem?_cons_succ, Option.some.injEq] at ho
      subst ho
      obtain rfl := F19 (hd ⟨19, .guard⟩ (by simp) rfl)
      refine wpOp_step rfl (fun K hK => ?_)
      go_simp
      refine hK _ _ ?_
      exact ⟨_, _, _, _, _, _, _, _, _, _, _, _, _, _, _, _, _, _, _, _, _, _, _, _, _, _, rfl, lku F0, fun h => F1 (ls (by decide) h), lku F2, lku F3, lku F4, lku F5, lku F6, lku F7, fun h => F8 (ls (by decide) h), lku F9, lku F10, lku F11, lku F12, lku F13, lku F14, lku F15, lku F16, lku F17, lku F18, lku F19, lku F20, lku F21, fun _ => rfl, lku F23, lku F24, lku F25, F26, F27, F28, F29, F30, F31⟩
    · simp only [List.getElem?_toArray, List.getElem?_cons_zero, List.getElem?_cons_succ, Option.some.injEq] at ho
      subst ho
      obtain rfl := F19 (hd ⟨19, .data⟩ (by simp) rfl)
      obtain rfl := F13 (hd ⟨13, .guard⟩ (by simp) rfl)
      refine wpOp_step rfl (fun K hK => ?_)
      go_simp
      refine hK _ _ ?_
      exact ⟨_, _, _, _, _, _, _, _, _, _, _, _, _, _, _, _, _, _, _, _, _, _, _, _, _, _, rfl, lku F0, fun h => F1 (ls (by decide) h), lku F2, lku F3, lku F4, lku F5, lku F6, lku F7, fun h => F8 (ls (by decide) h), lku F9, lku F10, lku F11, lku F12, lku F13, lku F14, lku F15, lku F16, lku F17, lku F18, lku F19, lku F20, lku F21, lku F22, fun _ => rfl, lku F24, lku F25, F26, F27, F28, F29, F30, F31⟩
    · simp only [List.getElem?_toArray, List.getElem?_cons_zero, List.getElem?_cons_succ, Option.some.injEq] at ho
      subst ho
      obtain rfl := F15 (hd ⟨15, .data⟩ (by simp) rfl)
      obtain rfl := F23 (hd ⟨23, .data⟩ (by simp) rfl)
      obtain rfl := F13 (hd ⟨13, .guard⟩ (by simp) rfl)
      refine wpOp_step rfl (fun K hK => ?_)
      go_simp
      refine hK _ _ ?_
      exact ⟨_, _, _, _, _, _, _, _, _, _, _, _, _, _, _, _, _, _, _, _, _, _, _, _, _, _, rfl, lku F0, fun h => F1 (ls (by decide) h), lku F2, lku F3, lku F4, lku F5, lku F6, lku F7, fun h => F8 (ls (by decide) h), lku F9, lku F10, lku F11, lku F12, lku F13, lku F14, lku F15, lku F16, lku F17, lku F18, lku F19, lku F20, lku F21, lku F22, lku F23, fun _ => rfl, lku F25, F26, F27, F28, F29, F30, F31⟩
    · simp only [List.getElem?_toArray, List.getElem?_cons_zero, List.getElem?_cons_succ, Option.some.injEq] at ho
      subst ho
      obtain rfl := F13 (hd ⟨13, .data⟩ (by simp) rfl)
      obtain rfl := F24 (hd ⟨24, .data⟩ (by simp) rfl)
      refine wpOp_step rfl (fun K hK => ?_)
      go_simp
      refine hK _ _ ?_
      exact ⟨_, _, _, _, _, _, _, _, _, _, _, _, _, _, _, _, _, _, _, _, _, _, _, _, _, _, rfl, lku F0, fun h => F1 (ls (by decide) h), lku F2, lku F3, lku F4, lku F5, lku F6, lku F7, fun h => F8 (ls (by decide) h), lku F9, lku F10, lku F11, lku F12, lku F13, lku F14, lku F15, lku F16, lku F17, lku F18, lku F19, lku F20, lku F21, lku F22, lku F23, lku F24, fun _ => rfl, F26, F27, F28, F29, F30, F31⟩
  · intro listed A w hall hI
    unfold Lr41I at hI
    obtain ⟨s9, hI⟩ := hI
    obtain ⟨s10, hI⟩ := hI
    obtain ⟨s11, hI⟩ := hI
    obtain ⟨s12, hI⟩ := hI
    obtain ⟨s13, hI⟩ := hI
    obtain ⟨s14, hI⟩ := hI
    obtain ⟨s15, hI⟩ := hI
    obtain ⟨s16, hI⟩ := hI
    obtain ⟨s17, hI⟩ := hI
    obtain ⟨s18, hI⟩ := hI
    obtain ⟨s19, hI⟩ := hI
    obtain ⟨s20, hI⟩ := hI
    obtain ⟨s21, hI⟩ := hI
    obtain ⟨s22, hI⟩ := hI
    obtain ⟨s23, hI⟩ := hI
    obtain ⟨s24, hI⟩ := hI
    obtain ⟨s25, hI⟩ := hI
    obtain ⟨s26, hI⟩ := hI
    obtain ⟨s27, hI⟩ := hI
    obtain ⟨s28, hI⟩ := hI
    obtain ⟨s29, hI⟩ := hI
    obtain ⟨s30, hI⟩ := hI
    obtain ⟨s31, hI⟩ := hI
    obtain ⟨s32, hI⟩ := hI
    obtain ⟨s33, hI⟩ := hI
    obtain ⟨s34, hI⟩ := hI
    obtain ⟨rfl, hI⟩ := hI
    obtain ⟨F0, hI⟩ := hI
    obtain ⟨F1, hI⟩ := hI
    obtain ⟨F2, hI⟩ := hI
    obtain ⟨F3, hI⟩ := hI
    obtain ⟨F4, hI⟩ := hI
    obtain ⟨F5, hI⟩ := hI
    obtain ⟨F6, hI⟩ := hI
    obtain ⟨F7, hI⟩ := hI
    obtain ⟨F8, hI⟩ := hI
    obtain ⟨F9, hI⟩ := hI
    obtain ⟨F10, hI⟩ := hI
    obtain ⟨F11, hI⟩ := hI
    obtain ⟨F12, hI⟩ := hI
    obtain ⟨F13, hI⟩ := hI
    obtain ⟨F14, hI⟩ := hI
    obtain ⟨F15, hI⟩ := hI
    obtain ⟨F16, hI⟩ := hI
    obtain ⟨F17, hI⟩ := hI
    obtain ⟨F18, hI⟩ := hI
    obtain ⟨F19, hI⟩ := hI
    obtain ⟨F20, hI⟩ := hI
    obtain ⟨F21, hI⟩ := hI
    obtain ⟨F22, hI⟩ := hI
    obtain ⟨F23, hI⟩ := hI
    obtain ⟨F24, hI⟩ := hI
    obtain ⟨F25, hI⟩ := hI
    obtain ⟨F26, hI⟩ := hI
    obtain ⟨F27, hI⟩ := hI
    obtain ⟨F28, hI⟩ := hI
    obtain ⟨F29, hI⟩ := hI
    obtain ⟨F30, hI⟩ := hI
    have F31 := hI; clear hI
    obtain rfl := F0 (hall 0 (by decide))
    obtain rfl := F2 (hall 2 (by decide))
    obtain rfl := F3 (hall 3 (by decide))
    obtain rfl := F4 (hall 4 (by decide))
    obtain rfl := F5 (hall 5 (by decide))
    obtain rfl := F6 (hall 6 (by decide))
    obtain rfl := F7 (hall 7 (by decide))
    obtain rfl := F9 (hall 9 (by decide))
    obtain rfl := F10 (hall 10 (by decide))
    obtain rfl := F11 (hall 11 (by decide))
    obtain rfl := F12 (hall 12 (by decide))
    obtain rfl := F13 (hall 13 (by decide))
    obtain rfl := F14 (hall 14 (by decide))
    obtain rfl := F15 (hall 15 (by decide))
    obtain rfl := F16 (hall 16 (by decide))
    obtain rfl := F17 (hall 17 (by decide))
    obtain rfl := F18 (hall 18 (by decide))
    obtain rfl := F19 (hall 19 (by decide))
    obtain rfl := F20 (hall 20 (by decide))
    obtain rfl := F21 (hall 21 (by decide))
    obtain rfl := F22 (hall 22 (by decide))
    obtain rfl := F23 (hall 23 (by decide))
    obtain rfl := F24 (hall 24 (by decide))
    obtain rfl := F25 (hall 25 (by decide))
    have P1 := F1 (hall 1 (by decide))
    have P8 := F8 (hall 8 (by decide))
    have HB := F26
    have Q0 := F27
    have Q1 := F28
    have Q2 := F29
    have Q3 := F30
    have Q4 := F31
    exact hQ _ _ _ ⟨Q0, Q1, Q2, Q3, Q4⟩ HB
def Lr42I (w0 : World) (n c : Int) (s : ByteArray) (b r : Bool) (ga : Nat) (c0 c2 c4 c5 c6 c7 c8 c35 c36 c37 c38 c39 c40 c41 c42 c43 c44 c45 c46 c47 c48 c49 c50 c51 c52 c53 c54 c55 c56 c57 c58 c59 c60 c61 c62 c63 c64 c65 c66 c67 c68 c69 c70 c71 c72 c73 c74 c75 c76 c77 c78 c79 c80 c81 c82 c83 c84 c85 c86 c87 c88 c89 c90 c91 c92 c93 c94 c95 c96 : Value) (listed : Array Bool) (A : Act) (w : World) : Prop := ∃ (s9 s10 s11 s12 s13 s14 s15 s16 s17 s18 s19 s20 s21 s22 s23 s24 s25 s26 s27 s28 s29 s30 s31 s32 s33 s34 : Value), A = { tmps := #[c0, .pointer (some ⟨ga, 0, none⟩), c2, .bool r, c4, c5, c6, c7, c8, s9, s10, s11, s12, s13, s14, s15, s16, s17, s18, s19, s20, s21, s22, s23, s24, s25, s26, s27, s28, s29, s30, s31, s32, s33, s34, c35, c36, c37, c38, c39, c40, c41, c42, c43, c44, c45, c46, c47, c48, c49, c50, c51, c52, c53, c54, c55, c56, c57, c58, c59, c60, c61, c62, c63, c64, c65, c66, c67, c68, c69, c70, c71, c72, c73, c74, c75, c76, c77, c78, c79, c80, c81, c82, c83, c84, c85, c86, c87, c88, c89, c90, c91, c92, c93, c94, c95, c96], defers := [] } ∧
  (listed.getD 0 false = true → s9 = .agg #[.int .i64 2, .int .i64 n, .int .i64 c, .string s, .bool b]) ∧
  (listed.getD 1 false = true → RwA w s10 1 [.int .i64 2, .int .i64 n, .int .i64 c, .string s, .bool b]) ∧
  (listed.getD 2 false = true → s11 = .bool r) ∧
  (listed.getD 3 false = true → s12 = .bool r) ∧
  (listed.getD 4 false = true → s13 = .bool false) ∧
  (listed.getD 5 false = true → s14 = .bool false) ∧
  (listed.getD 6 false = true → s15 = .agg #[.int .i64 1, .int .i64 1, .int .i64 0, .string ⟨#[]⟩, .bool false]) ∧
  (listed.getD 7 false = true → s16 = .agg #[.int .i64 2, .int .i64 n, .int .i64 c, .string s, .bool b]) ∧
  (listed.getD 8 false = true → RwA w s17 2 [.int .i64 1, .int .i64 1, .int .i64 0, .string ⟨#[]⟩, .bool false, .int .i64 2, .int .i64 n, .int .i64 c, .string s, .bool b]) ∧
  (listed.getD 9 false = true → s18 = .bool r) ∧
  (listed.getD 10 false = true → s19 = .bool r) ∧
  (listed.getD 11 false = true → s20 = .bool false) ∧
  (listed.getD 12 false = true → s21 = .bool false) ∧
  (listed.getD 13 false = true → s22 = .bool false) ∧
  (listed.getD 14 false = true → s23 = .agg #[.int .i64 2, .int .i64 n, .int .i64 c, .string s, .bool b]) ∧
  (listed.getD 15 false = true → s24 = .bool true) ∧
  (listed.getD 16 false = true → s25 = .pointer (some ⟨ga, 0, none⟩)) ∧
  (listed.getD 17 false = true → s26 = .int .i64 2) ∧
  (listed.getD 18 false = true → s27 = .bool false) ∧
  (listed.getD 19 false = true → s28 = .bool false) ∧
  (listed.getD 20 false = true → s29 = .pointer (some ⟨ga, 0, none⟩)) ∧
  (listed.getD 21 false = true → s30 = .int .i64 2) ∧
  (listed.getD 22 false = true → s31 = .bool true) ∧
  (listed.getD 23 false = true → s32 = .bool true) ∧
  (listed.getD 24 false = true → s33 = .bool false) ∧
  (listed.getD 25 false = true → s34 = .bool false) ∧
  Below w0.heap.size w0 w ∧
  w.cell? ⟨ga, 0, none⟩ = some (.int .i64 2) ∧
  w.cell? ⟨ga, 1, none⟩ = some (.int .i64 n) ∧
  w.cell? ⟨ga, 2, none⟩ = some (.int .i64 c) ∧
  w.cell? ⟨ga, 3, none⟩ = some (.string s) ∧
  w.cell? ⟨ga, 4, none⟩ = some (.bool b)
set_option maxRecDepth 100000 in
set_option maxHeartbeats 16000000 in
theorem Lr42_region (n c : Int) (s : ByteArray) (b r : Bool) (ga : Nat) (x9 x10 x11 x12 x13 x14 x15 x16 x17 x18 x19 x20 x21 x22 x23 x24 x25 x26 x27 x28 x29 x30 x31 x32 x33 x34 : Value) (c0 c2 c4 c5 c6 c7 c8 c35 c36 c37 c38 c39 c40 c41 c42 c43 c44 c45 c46 c47 c48 c49 c50 c51 c52 c53 c54 c55 c56 c57 c58 c59 c60 c61 c62 c63 c64 c65 c66 c67 c68 c69 c70 c71 c72 c73 c74 c75 c76 c77 c78 c79 c80 c81 c82 c83 c84 c85 c86 c87 c88 c89 c90 c91 c92 c93 c94 c95 c96 : Value) (w0 W : World) (Q : Exit → Act → World → Prop) (hb0 : Below w0.heap.size w0 W) (C0 : W.cell? ⟨ga, 0, none⟩ = some (.int .i64 2)) (C1 : W.cell? ⟨ga, 1, none⟩ = some (.int .i64 n)) (C2 : W.cell? ⟨ga, 2, none⟩ = some (.int .i64 c)) (C3 : W.cell? ⟨ga, 3, none⟩ = some (.string s)) (C4 : W.cell? ⟨ga, 4, none⟩ = some (.bool b)) (HT : Hid (TT w0)) (HA : Hid (GT 42 #[.agg #[.int .i64 2, .int .i64 n, .int .i64 c, .string s, .bool b]] (.bool r))) (HQ : Hid (Gives 16 #[.agg #[.int .i64 2, .int .i64 n, .int .i64 c, .string s, .bool b]] (.bool true)))
    (hQ : ∀ (w : World) (y10 y17 : Value) , (w.cell? ⟨ga, 0, none⟩ = some (.int .i64 2) ∧ w.cell? ⟨ga, 1, none⟩ = some (.int .i64 n) ∧ w.cell? ⟨ga, 2, none⟩ = some (.int .i64 c) ∧ w.cell? ⟨ga, 3, none⟩ = some (.string s) ∧ w.cell? ⟨ga, 4, none⟩ = some (.bool b)) → Below w0.heap.size w0 w → Q .normal { tmps := #[c0, .pointer (some ⟨ga, 0, none⟩), c2, .bool r, c4, c5, c6, c7, c8, .agg #[.int .i64 2, .int .i64 n, .int .i64 c, .string s, .bool b], y10, .bool r, .bool r, .bool false, .bool false, .agg #[.int .i64 1, .int .i64 1, .int .i64 0, .string ⟨#[]⟩, .bool false], .agg #[.int .i64 2, .int .i64 n, .int .i64 c, .string s, .bool b], y17, .bool r, .bool r, .bool false, .bool false, .bool false, .agg #[.int .i64 2, .int .i64 n, .int .i64 c, .string s, .bool b], .bool true, .pointer (some ⟨ga, 0, none⟩), .int .i64 2, .bool false, .bool false, .pointer (some ⟨ga, 0, none⟩), .int .i64 2, .bool true, .bool true, .bool false, .bool false, c35, c36, c37, c38, c39, c40, c41, c42, c43, c44, c45, c46, c47, c48, c49, c50, c51, c52, c53, c54, c55, c56, c57, c58, c59, c60, c61, c62, c63, c64, c65, c66, c67, c68, c69, c70, c71, c72, c73, c74, c75, c76, c77, c78, c79, c80, c81, c82, c83, c84, c85, c86, c87, c88, c89, c90, c91, c92, c93, c94, c95, c96], defers := [] } w) :
    Code.wp Tryz.prog ((Tryz.f3.body.bind (regionOf 4)).getD .skip) Q { tmps := #[c0, .pointer (some ⟨ga, 0, none⟩), c2, .bool r, c4, c5, c6, c7, c8, x9, x10, x11, x12, x13, x14, x15, x16, x17, x18, x19, x20, x21, x22, x23, x24, x25, x26, x27, x28, x29, x30, x31, x32, x33, x34, c35, c36, c37, c38, c39, c40, c41, c42, c43, c44, c45, c46, c47, c48, c49, c50, c51, c52, c53, c54, c55, c56, c57, c58, c59, c60, c61, c62, c63, c64, c65, c66, c67, c68, c69, c70, c71, c72, c73, c74, c75, c76, c77, c78, c79, c80, c81, c82, c83, c84, c85, c86, c87, c88, c89, c90, c91, c92, c93, c94, c95, c96], defers := [] } W := by
  conv => arg 2; whnf
  refine wp_region_inv (by kernel_rfl) (by kernel_rfl) (Lr42I w0 n c s b r ga c0 c2 c4 c5 c6 c7 c8 c35 c36 c37 c38 c39 c40 c41 c42 c43 c44 c45 c46 c47 c48 c49 c50 c51 c52 c53 c54 c55 c56 c57 c58 c59 c60 c61 c62 c63 c64 c65 c66 c67 c68 c69 c70 c71 c72 c73 c74 c75 c76 c77 c78 c79 c80 c81 c82 c83 c84 c85 c86 c87 c88 c89 c90 c91 c92 c93 c94 c95 c96) ?_ ?_ ?_
  · exact ⟨_, _, _, _, _, _, _, _, _, _, _, _, _, _, _, _, _, _, _, _, _, _, _, _, _, _, rfl, fun h => absurd h l0, fun h => absurd h l0, fun h => absurd h l0, fun h => absurd h l0, fun h => absurd h l0, fun h => absurd h l0, fun h => absurd h l0, fun h => absurd h l0, fun h => absurd h l0, fun h => absurd h l0, fun h => absurd h l0, fun h => absurd h l0, fun h => absurd h l0, fun h => absurd h l0, fun h => absurd h l0, fun h => absurd h l0, fun h => absurd h l0, fun h => absurd h l0, fun h => absurd h l0, fun h => absurd h l0, fun h => absurd h l0, fun h => absurd h l0, fun h => absurd h l0, fun h => absurd h l0, fun h => absurd h l0, fun h => absurd h l0, bdr hb0, C0, C1, C2, C3, C4⟩
  · intro i o listed A w hi ho hd hn hI
    unfold Lr42I at hI
    obtain ⟨s9, hI⟩ := hI
    obtain ⟨s10, hI⟩ := hI
    obtain ⟨s11, hI⟩ := hI
    obtain ⟨s12, hI⟩ := hI
    obtain ⟨s13, hI⟩ := hI
    obtain ⟨s14, hI⟩ := hI
    obtain ⟨s15, hI⟩ := hI
    obtain ⟨s16, hI⟩ := hI
    obtain ⟨s17, hI⟩ := hI
    obtain ⟨s18, hI⟩ := hI
    obtain ⟨s19, hI⟩ := hI
    obtain ⟨s20, hI⟩ := hI
    obtain ⟨s21, hI⟩ := hI
    obtain ⟨s22, hI⟩ := hI
    obtain ⟨s23, hI⟩ := hI
    obtain ⟨s24, hI⟩ := hI
    obtain ⟨s25, hI⟩ := hI
    obtain ⟨s26, hI⟩ := hI
    obtain ⟨s27, hI⟩ := hI
    obtain ⟨s28, hI⟩ := hI
    obtain ⟨s29, hI⟩ := hI
    obtain ⟨s30, hI⟩ := hI
    obtain ⟨s31, hI⟩ := hI
    obtain ⟨s32, hI⟩ := hI
    obtain ⟨s33, hI⟩ := hI
    obtain ⟨s34, hI⟩ := hI
    obtain ⟨rfl, hI⟩ := hI
    obtain ⟨F0, hI⟩ := hI
    obtain ⟨F1, hI⟩ := hI
    obtain ⟨F2, hI⟩ := hI
    obtain ⟨F3, hI⟩ := hI
    obtain ⟨F4, hI⟩ := hI
    obtain ⟨F5, hI⟩ := hI
    obtain ⟨F6, hI⟩ := hI
    obtain ⟨F7, hI⟩ := hI
    obtain ⟨F8, hI⟩ := hI
    obtain ⟨F9, hI⟩ := hI
    obtain ⟨F10, hI⟩ := hI
    obtain ⟨F11, hI⟩ := hI
    obtain ⟨F12, hI⟩ := hI
    obtain ⟨F13, hI⟩ := hI
    obtain ⟨F14, hI⟩ := hI
    obtain ⟨F15, hI⟩ := hI
    obtain ⟨F16, hI⟩ := hI
    obtain ⟨F17, hI⟩ := hI
    obtain ⟨F18, hI⟩ := hI
    obtain ⟨F19, hI⟩ := hI
    obtain ⟨F20, hI⟩ := hI
    obtain ⟨F21, hI⟩ := hI
    obtain ⟨F22, hI⟩ := hI
    obtain ⟨F23, hI⟩ := hI
    obtain ⟨F24, hI⟩ := hI
    obtain ⟨F25, hI⟩ := hI
    obtain ⟨F26, hI⟩ := hI
    obtain ⟨F27, hI⟩ := hI
    obtain ⟨F28, hI⟩ := hI
    obtain ⟨F29, hI⟩ := hI
    obtain ⟨F30, hI⟩ := hI
    have F31 := hI; clear hI
    have hi' : i < 26 := hi
    clear hi
    rcases (by omega : i = 0 ∨ i = 1 ∨ i = 2 ∨ i = 3 ∨ i = 4 ∨ i = 5 ∨ i = 6 ∨ i = 7 ∨ i = 8 ∨ i = 9 ∨ i = 10 ∨ i = 11 ∨ i = 12 ∨ i = 13 ∨ i = 14 ∨ i = 15 ∨ i = 16 ∨ i = 17 ∨ i = 18 ∨ i = 19 ∨ i = 20 ∨ i = 21 ∨ i = 22 ∨ i = 23 ∨ i = 24 ∨ i = 25) with rfl | rfl | rfl | rfl | rfl | rfl | rfl | rfl | rfl | rfl | rfl | rfl | rfl | rfl | rfl | rfl | rfl | rfl | rfl | rfl | rfl | rfl | rfl | rfl | rfl | rfl
    · simp only [List.getElem?_toArray, List.getElem?_cons_zero, Option.some.injEq] at ho
      subst ho
      have h0 := F27; have h1 := F28; have h2 := F29; have h3 := F30; have h4 := F31
      refine wpOp_step rfl (fun K hK => ?_)
      go_simp
      refine hK _ _ ?_
      exact ⟨_, _, _, _, _, _, _, _, _, _, _, _, _, _, _, _, _, _, _, _, _, _, _, _, _, _, rfl, fun _ => rfl, fun h => F1 (ls (by decide) h), lku F2, lku F3, lku F4, lku F5, lku F6, lku F7, fun h => F8 (ls (by decide) h), lku F9, lku F10, lku F11, lku F12, lku F13, lku F14, lku F15, lku F16, lku F17, lku F18, lku F19, lku F20, lku F21, lku F22, lku F23, lku F24, lku F25, F26, F27, F28, F29, F30, F31⟩
    · simp only [List.getElem?_toArray, List.getElem?_cons_zero, List.getElem?_cons_succ, Option.some.injEq] at ho
      subst ho
      obtain rfl := F0 (hd ⟨0, .data⟩ (by simp) rfl)
      refine wpOp_step rfl (fun K hK => ?_)
      go_simp
      refine hK _ _ ?_
      exact ⟨_, _, _, _, _, _, _, _, _, _, _, _, _, _, _, _, _, _, _, _, _, _, _, _, _, _, rfl, lku F0, fun _ => RwA.new _ _ _ _, lku F2, lku F3, lku F4, lku F5, lku F6, lku F7, fun h => (F8 (ls (by decide) h)).call ((Below.refl _ _).alloc (Nat.le_refl _) _), lku F9, lku F10, lku F11, lku F12, lku F13, lku F14, lku F15, lku F16, lku F17, lku F18, lku F19, lku F20, lku F21, lku F22, lku F23, lku F24, lku F25, ba F26, cell_callu F27 ((Below.refl _ _).alloc (Nat.le_refl _) _), cell_callu F28 ((Below.refl _ _).alloc (Nat.le_refl _) _), cell_callu F29 ((Below.refl _ _).alloc (Nat.le_refl _) _), cell_callu F30 ((Below.refl _ _).alloc (Nat.le_refl _) _), cell_callu F31 ((Below.refl _ _).alloc (Nat.le_refl _) _)⟩
    · simp only [List.getElem?_toArray, List.getElem?_cons_zero, List.getElem?_cons_succ, Option.some.injEq] at ho
      subst ho
      obtain ⟨g1, rfl, hr1, hg1⟩ := F1 (hd ⟨1, .data⟩ (by simp) rfl)
      refine wpOp_step rfl (fun K hK => ?_)
      go_simp
      go_at_call 14
      refine (atRight_1 r 2 n c s b g1 1 w (HT.out.below F26) hg1 hr1 HA).mono ?_
      rintro e w' ⟨rfl, hb⟩
      refine hK _ _ ?_
      exact ⟨_, _, _, _, _, _, _, _, _, _, _, _, _, _, _, _, _, _, _, _, _, _, _, _, _, _, rfl, lku F0, fun h => (F1 (ls (by decide) h)).call hb, fun _ => rfl, lku F3, lku F4, lku F5, lku F6, lku F7, fun h => (F8 (ls (by decide) h)).call hb, lku F9, lku F10, lku F11, lku F12, lku F13, lku F14, lku F15, lku F16, lku F17, lku F18, lku F19, lku F20, lku F21, lku F22, lku F23, lku F24, lku F25, bt F26 hb, cell_callu F27 hb, cell_callu F28 hb, cell_callu F29 hb, cell_callu F30 hb, cell_callu F31 hb⟩
    · simp only [List.getElem?_toArray, List.getElem?_cons_zero, List.getElem?_cons_succ, Option.some.injEq] at ho
      subst ho
      refine wpOp_step rfl (fun K hK => ?_)
      go_simp
      refine hK _ _ ?_
      exact ⟨_, _, _, _, _, _, _, _, _, _, _, _, _, _, _, _, _, _, _, _, _, _, _, _, _, _, rfl, lku F0, fun h => F1 (ls (by decide) h), lku F2, fun _ => rfl, lku F4, lku F5, lku F6, lku F7, fun h => F8 (ls (by decide) h), lku F9, lku F10, lku F11, lku F12, lku F13, lku F14, lku F15, lku F16, lku F17, lku F18, lku F19, lku F20, lku F21, lku F22, lku F23, lku F24, lku F25, F26, F27, F28, F29, F30, F31⟩
    · simp only [List.getElem?_toArray, List.getElem?_cons_zero, List.getElem?_cons_succ, Option.some.injEq] at ho
      subst ho
      obtain rfl := F2 (hd ⟨2, .data⟩ (by simp) rfl)
      obtain rfl := F3 (hd ⟨3, .data⟩ (by simp) rfl)
      refine wpOp_step rfl (fun K hK => ?_)
      go_simp
      refine hK _ _ ?_
      exact ⟨_, _, _, _, _, _, _, _, _, _, _, _, _, _, _, _, _, _, _, _, _, _, _, _, _, _, rfl, lku F0, fun h => F1 (ls (by decide) h), lku F2, lku F3, fun _ => rfl, lku F5, lku F6, lku F7, fun h => F8 (ls (by decide) h), lku F9, lku F10, lku F11, lku F12, lku F13, lku F14, lku F15, lku F16, lku F17, lku F18, lku F19, lku F20, lku F21, lku F22, lku F23, lku F24, lku F25, F26, F27, F28, F29, F30, F31⟩
    · simp only [List.getElem?_toArray, List.getElem?_cons_zero, List.getElem?_cons_succ, Option.some.injEq] at ho
      subst ho
      obtain rfl := F4 (hd ⟨4, .data⟩ (by simp) rfl)
      refine wpOp_step rfl (fun K hK => ?_)
      go_simp
      refine hK _ _ ?_
      exact ⟨_, _, _, _, _, _, _, _, _, _, _, _, _, _, _, _, _, _, _, _, _, _, _, _, _, _, rfl, lku F0, fun h => F1 (ls (by decide) h), lku F2, lku F3, lku F4, fun _ => rfl, lku F6, lku F7, fun h => F8 (ls (by decide) h), lku F9, lku F10, lku F11, lku F12, lku F13, lku F14, lku F15, lku F16, lku F17, lku F18, lku F19, lku F20, lku F21, lku F22, lku F23, lku F24, lku F25, F26, F27, F28, F29, F30, F31⟩
    · simp only [List.getElem?_toArray, List.getElem?_cons_zero, List.getElem?_cons_succ, Option.some.injEq] at ho
      subst ho
      obtain rfl := F5 (hd ⟨5, .guard⟩ (by simp) rfl)
      refine wpOp_step rfl (fun K hK => ?_)
      go_simp
      go_at_call 15
      refine (atOf_any 1 w).mono ?_
      rintro e w' ⟨rfl, hb⟩
      refine hK _ _ ?_
      exact ⟨_, _, _, _, _, _, _, _, _, _, _, _, _, _, _, _, _, _, _, _, _, _, _, _, _, _, rfl, lku F0, fun h => (F1 (ls (by decide) h)).call hb, lku F2, lku F3, lku F4, lku F5, fun _ => rfl, lku F7, fun h => (F8 (ls (by decide) h)).call hb, lku F9, lku F10, lku F11, lku F12, lku F13, lku F14, lku F15, lku F16, lku F17, lku F18, lku F19, lku F20, lku F21, lku F22, lku F23, lku F24, lku F25, bt F26 hb, cell_callu F27 hb, cell_callu F28 hb, cell_callu F29 hb, cell_callu F30 hb, cell_callu F31 hb⟩
    · simp only [List.getElem?_toArray, List.getElem?_cons_zero, List.getElem?_cons_succ, Option.some.injEq] at ho
      subst ho
      obtain rfl := F5 (hd ⟨5, .guard⟩ (by simp) rfl)
      have h0 := F27; have h1 := F28; have h2 := F29; have h3 := F30; have h4 := F31
      refine wpOp_step rfl (fun K hK => ?_)
      go_simp
      refine hK _ _ ?_
      exact ⟨_, _, _, _, _, _, _, _, _, _, _, _, _, _, _, _, _, _, _, _, _, _, _, _, _, _, rfl, lku F0, fun h => F1 (ls (by decide) h), lku F2, lku F3, lku F4, lku F5, lku F6, fun _ => rfl, fun h => F8 (ls (by decide) h), lku F9, lku F10, lku F11, lku F12, lku F13, lku F14, lku F15, lku F16, lku F17, lku F18, lku F19, lku F20, lku F21, lku F22, lku F23, lku F24, lku F25, F26, F27, F28, F29, F30, F31⟩
    · simp only [List.getElem?_toArray, List.getElem?_cons_zero, List.getElem?_cons_succ, Option.some.injEq] at ho
      subst ho
      obtain rfl := F6 (hd ⟨6, .data⟩ (by simp) rfl)
      obtain rfl := F7 (hd ⟨7, .data⟩ (by simp) rfl)
      obtain rfl := F5 (hd ⟨5, .guard⟩ (by simp) rfl)
      refine wpOp_step rfl (fun K hK => ?_)
      go_simp
      refine hK _ _ ?_
      exact ⟨_, _, _, _, _, _, _, _, _, _, _, _, _, _, _, _, _, _, _, _, _, _, _, _, _, _, rfl, lku F0, fun h => (F1 (ls (by decide) h)).call ((Below.refl _ _).alloc (Nat.le_refl _) _), lku F2, lku F3, lku F4, lku F5, lku F6, lku F7, fun _ => RwA.new _ _ _ _, lku F9, lku F10, lku F11, lku F12, lku F13, lku F14, lku F15, lku F16, lku F17, lku F18, lku F19, lku F20, lku F21, lku F22, lku F23, lku F24, lku F25, ba F26, cell_callu F27 ((Below.refl _ _).alloc (Nat.le_refl _) _), cell_callu F28 ((Below.refl _ _).alloc (Nat.le_refl _) _), cell_callu F29 ((Below.refl _ _).alloc (Nat.le_refl _) _), cell_callu F30 ((Below.refl _ _).alloc (Nat.le_refl _) _), cell_callu F31 ((Below.refl _ _).alloc (Nat.le_refl _) _)⟩
    · simp only [List.getElem?_toArray, List.getElem?_cons_zero, List.getElem?_cons_succ, Option.some.injEq] at ho
      subst ho
      obtain ⟨g2, rfl, hr2, hg2⟩ := F8 (hd ⟨8, .data⟩ (by simp) rfl)
      obtain rfl := F5 (hd ⟨5, .guard⟩ (by simp) rfl)
      refine wpOp_step rfl (fun K hK => ?_)
      go_simp
      go_at_call 14
      refine (atRight_2 r 2 n c s b g2 2 w (HT.out.below F26) hg2 hr2 HA).mono ?_
      rintro e w' ⟨rfl, hb⟩
      refine hK _ _ ?_
      exact ⟨_, _, _, _, _, _, _, _, _, _, _, _, _, _, _, _, _, _, _, _, _, _, _, _, _, _, rfl, lku F0, fun h => (F1 (ls (by decide) h)).call hb, lku F2, lku F3, lku F4, lku F5, lku F6, lku F7, fun h => (F8 (ls (by decide) h)).call hb, fun _ => rfl, lku F10, lku F11, lku F12, lku F13, lku F14, lku F15, lku F16, lku F17, lku F18, lku F19, lku F20, lku F21, lku F22, lku F23, lku F24, lku F25, bt F26 hb, cell_callu F27 hb, cell_callu F28 hb, cell_callu F29 hb, cell_callu F30 hb, cell_callu F31 hb⟩
    · simp only [List.getElem?_toArray, List.getElem?_cons_zero, List.getElem?_cons_succ, Option.some.injEq] at ho
      subst ho
      obtain rfl := F5 (hd ⟨5, .guard⟩ (by simp) rfl)
      refine wpOp_step rfl (fun K hK => ?_)
      go_simp
      refine hK _ _ ?_
      exact ⟨_, _, _, _, _, _, _, _, _, _, _, _, _, _, _, _, _, _, _, _, _, _, _, _, _, _, rfl, lku F0, fun h => F1 (ls (by decide) h), lku F2, lku F3, lku F4, lku F5, lku F6, lku F7, fun h => F8 (ls (by decide) h), lku F9, fun _ => rfl, lku F11, lku F12, lku F13, lku F14, lku F15, lku F16, lku F17, lku F18, lku F19, lku F20, lku F21, lku F22, lku F23, lku F24, lku F25, F26, F27, F28, F29, F30, F31⟩
    · simp only [List.getElem?_toArray, List.getElem?_cons_zero, List.getElem?_cons_succ, Option.some.injEq] at ho
      subst ho
      obtain rfl := F9 (hd ⟨9, .data⟩ (by simp) rfl)
      obtain rfl := F10 (hd ⟨10, .data⟩ (by simp) rfl)
      obtain rfl := F5 (hd ⟨5, .guard⟩ (by simp) rfl)
      refine wpOp_step rfl (fun K hK => ?_)
      go_simp
      refine hK _ _ ?_
      exact ⟨_, _, _, _, _, _, _, _, _, _, _, _, _, _, _, _, _, _, _, _, _, _, _, _, _, _, rfl, lku F0, fun h => F1 (ls (by decide) h), lku F2, lku F3, lku F4, lku F5, lku F6, lku F7, fun h => F8 (ls (by decide) h), lku F9, lku F10, fun _ => rfl, lku F12, lku F13, lku F14, lku F15, lku F16, lku F17, lku F18, lku F19, lku F20, lku F21, lku F22, lku F23, lku F24, lku F25, F26, F27, F28, F29, F30, F31⟩
    · simp only [List.getElem?_toArray, List.getElem?_cons_zero, List.getElem?_cons_succ, Option.some.injEq] at ho
      subst ho
      obtain rfl := F5 (hd ⟨5, .data⟩ (by simp) rfl)
      obtain rfl := F11 (hd ⟨11, .data⟩ (by simp) rfl)
      refine wpOp_step rfl (fun K hK => ?_)
      go_simp
      refine hK _ _ ?_
      exact ⟨_, _, _, _, _, _, _, _, _, _, _, _, _, _, _, _, _, _, _, _, _, _, _, _, _, _, rfl, lku F0, fun h => F1 (ls (by decide) h), lku F2, lku F3, lku F4, lku F5, lku F6, lku F7, fun h => F8 (ls (by decide) h), lku F9, lku F10, lku F11, fun _ => rfl, lku F13, lku F14, lku F15, lku F16, lku F17, lku F18, lku F19, lku F20, lku F21, lku F22, lku F23, lku F24, lku F25, F26, F27, F28, F29, F30, F31⟩
    · simp only [List.getElem?_toArray, List.getElem?_cons_zero, List.getElem?_cons_succ, Option.some.injEq] at ho
      subst ho
      obtain rfl := F12 (hd ⟨12, .data⟩ (by simp) rfl)
      refine wpOp_step rfl (fun K hK => ?_)
      go_simp
      refine hK _ _ ?_
      exact ⟨_, _, _, _, _, _, _, _, _, _, _, _, _, _, _, _, _, _, _, _, _, _, _, _, _, _, rfl, lku F0, fun h => F1 (ls (by decide) h), lku F2, lku F3, lku F4, lku F5, lku F6, lku F7, fun h => F8 (ls (by decide) h), lku F9, lku F10, lku F11, lku F12, fun _ => rfl, lku F14, lku F15, lku F16, lku F17, lku F18, lku F19, lku F20, lku F21, lku F22, lku F23, lku F24, lku F25, F26, F27, F28, F29, F30, F31⟩
    · simp only [List.getElem?_toArray, List.getElem?_cons_zero, List.getElem?_cons_succ, Option.some.injEq] at ho
      subst ho
      obtain rfl := F13 (hd ⟨13, .guard⟩ (by simp) rfl)
      have h0 := F27; have h1 := F28; have h2 := F29; have h3 := F30; have h4 := F31
      refine wpOp_step rfl (fun K hK => ?_)
      go_simp
      refine hK _ _ ?_
      exact ⟨_, _, _, _, _, _, _, _, _, _, _, _, _, _, _, _, _, _, _, _, _, _, _, _, _, _, rfl, lku F0, fun h => F1 (ls (by decide) h), lku F2, lku F3, lku F4, lku F5, lku F6, lku F7, fun h => F8 (ls (by decide) h), lku F9, lku F10, lku F11, lku F12, lku F13, fun _ => rfl, lku F15, lku F16, lku F17, lku F18, lku F19, lku F20, lku F21, lku F22, lku F23, lku F24, lku F25, F26, F27, F28, F29, F30, F31⟩
    · simp only [List.getElem?_toArray, List.getElem?_cons_zero, List.getElem?_cons_succ, Option.some.injEq] at ho
      subst ho
      obtain rfl := F14 (hd ⟨14, .data⟩ (by simp) rfl)
      obtain rfl := F13 (hd ⟨13, .guard⟩ (by simp) rfl)
      refine wpOp_step rfl (fun K hK => ?_)
      go_simp
      go_at_call 16
      refine (HQ.out.call w).mono ?_
      rintro e w' ⟨rfl, hb⟩
      refine hK _ _ ?_
      exact ⟨_, _, _, _, _, _, _, _, _, _, _, _, _, _, _, _, _, _, _, _, _, _, _, _, _, _, rfl, lku F0, fun h => (F1 (ls (by decide) h)).call hb, lku F2, lku F3, lku F4, lku F5, lku F6, lku F7, fun h => (F8 (ls (by decide) h)).call hb, lku F9, lku F10, lku F11, lku F12, lku F13, lku F14, fun _ => rfl, lku F16, lku F17, lku F18, lku F19, lku F20, lku F21, lku F22, lku F23, lku F24, lku F25, bt F26 hb, cell_callu F27 hb, cell_callu F28 hb, cell_callu F29 hb, cell_callu F30 hb, cell_callu F31 hb⟩
    · simp only [List.getElem?_toArray, List.getElem?_cons_zero, List.getElem?_cons_succ, Option.some.injEq] at ho
      subst ho
      obtain rfl := F13 (hd ⟨13, .guard⟩ (by simp) rfl)
      refine wpOp_step rfl (fun K hK => ?_)
      go_simp
      refine hK _ _ ?_
      exact ⟨_, _, _, _, _, _, _, _, _, _, _, _, _, _, _, _, _, _, _, _, _, _, _, _, _, _, rfl, lku F0, fun h => F1 (ls (by decide) h), lku F2, lku F3, lku F4, lku F5, lku F6, lku F7, fun h => F8 (ls (by decide) h), lku F9, lku F10, lku F11, lku F12, lku F13, lku F14, lku F15, fun _ => rfl, lku F17, lku F18, lku F19, lku F20, lku F21, lku F22, lku F23, lku F24, lku F25, F26, F27, F28, F29, F30, F31⟩
    · simp only [List.getElem?_toArray, List.getElem?_cons_zero, List.getElem?_cons_succ, Option.some.injEq] at ho
      subst ho
      obtain rfl := F16 (hd ⟨16, .data⟩ (by simp) rfl)
      obtain rfl := F13 (hd ⟨13, .guard⟩ (by simp) rfl)
      have h0 := F27; have h1 := F28; have h2 := F29; have h3 := F30; have h4 := F31
      refine wpOp_step rfl (fun K hK => ?_)
      go_simp
      refine hK _ _ ?_
      exact ⟨_, _, _, _, _, _, _, _, _, _, _, _, _, _, _, _, _, _, _, _, _, _, _, _, _, _, rfl, lku F0, fun h => F1 (ls (by decide) h), lku F2, lku F3, lku F4, lku F5, lku F6, lku F7, fun h => F8 (ls (by decide) h), lku F9, lku F10, lku F11, lku F12, lku F13, lku F14, lku F15, lku F16, fun _ => rfl, lku F18, lku F19, lku F20, lku F21, lku F22, lku F23, lku F24, lku F25, F26, F27, F28, F29, F30, F31⟩
    · simp only [List.getElem?_toArray, List.getElem?_cons_zero, List.getElem?_cons_succ, Option.some.injEq] at ho
      subst ho
      obtain rfl := F17 (hd ⟨17, .data⟩ (by simp) rfl)
      obtain rfl := F13 (hd ⟨13, .guard⟩ (by simp) rfl)
      refine wpOp_step rfl (fun K hK => ?_)
      go_simp
      refine hK _ _ ?_
      exact ⟨_, _, _, _, _, _, _, _, _, _, _, _, _, _, _, _, _, _, _, _, _, _, _, _, _, _, rfl, lku F0, fun h => F1 (ls (by decide) h), lku F2, lku F3, lku F4, lku F5, lku F6, lku F7, fun h => F8 (ls (by decide) h), lku F9, lku F10, lku F11, lku F12, lku F13, lku F14, lku F15, lku F16, lku F17, fun _ => rfl, lku F19, lku F20, lku F21, lku F22, lku F23, lku F24, lku F25, F26, F27, F28, F29, F30, F31⟩
    · simp only [List.getElem?_toArray, List.getElem?_cons_zero, List.getElem?_cons_succ, Option.some.injEq] at ho
      subst ho
      obtain rfl := F18 (hd ⟨18, .data⟩ (by simp) rfl)
      obtain rfl := F13 (hd ⟨13, .guard⟩ (by simp) rfl)
      refine wpOp_step rfl (fun K hK => ?_)
      go_simp
      refine hK _ _ ?_
      exact ⟨_, _, _, _, _, _, _, _, _, _, _, _, _, _, _, _, _, _, _, _, _, _, _, _, _, _, rfl, lku F0, fun h => F1 (ls (by decide) h), lku F2, lku F3, lku F4, lku F5, lku F6, lku F7, fun h => F8 (ls (by decide) h), lku F9, lku F10, lku F11, lku F12, lku F13, lku F14, lku F15, lku F16, lku F17, lku F18, fun _ => rfl, lku F20, lku F21, lku F22, lku F23, lku F24, lku F25, F26, F27, F28, F29, F30, F31⟩
    · simp only [List.getElem?_toArray, List.getElem?_cons_zero, List.getElem?_cons_succ, Option.some.injEq] at ho
      subst ho
      obtain rfl := F19 (hd ⟨19, .guard⟩ (by simp) rfl)
      refine wpOp_step rfl (fun K hK => ?_)
      go_simp
      refine hK _ _ ?_
      exact ⟨_, _, _, _, _, _, _, _, _, _, _, _, _, _, _, _, _, _, _, _, _, _, _, _, _, _, rfl, lku F0, fun h => F1 (ls (by decide) h), lku F2, lku F3, lku F4, lku F5, lku F6, lku F7, fun h => F8 (ls (by decide) h), lku F9, lku F10, lku F11, lku F12, lku F13, lku F14, lku F15, lku F16, lku F17, lku F18, lku F19, fun _ => rfl, lku F21, lku F22, lku F23, lku F24, lku F25, F26, F27, F28, F29, F30, F31⟩
    · simp only [List.getElem?_toArray, List.getElem?_cons_zero, List.getElem?_cons_succ, Option.some.injEq] at ho
      subst ho
      obtain rfl := F20 (hd ⟨20, .data⟩ (by simp) rfl)
      obtain rfl := F19 (hd ⟨19, .guard⟩ (by simp) rfl)
      have h0 := F27; have h1 := F28; have h2 := F29; have h3 := F30; have h4 := F31
      refine wpOp_step rfl (fun K hK => ?_)
      go_simp
      refine hK _ _ ?_
      exact ⟨_, _, _, _, _, _, _, _, _, _, _, _, _, _, _, _, _, _, _, _, _, _, _, _, _, _, rfl, lku F0, fun h => F1 (ls (by decide) h), lku F2, lku F3, lku F4, lku F5, lku F6, lku F7, fun h => F8 (ls (by decide) h), lku F9, lku F10, lku F11, lku F12, lku F13, lku F14, lku F15, lku F16, lku F17, lku F18, lku F19, lku F20, fun _ => rfl, lku F22, lku F23, lku F24, lku F25, F26, F27, F28, F29, F30, F31⟩
    · simp only [List.getElem?_toArray, List.getElem?_cons_zero, List.getElem?_cons_succ, Option.some.injEq] at ho
      subst ho
      obtain rfl := F21 (hd ⟨21, .data⟩ (by simp) rfl)
      obtain rfl := F19 (hd ⟨19, .guard⟩ (by simp) rfl)
      refine wpOp_step rfl (fun K hK => ?_)
      go_simp
      refine hK _ _ ?_
      exact ⟨_, _, _, _, _, _, _, _, _, _, _, _, _, _, _, _, _, _, _, _, _, _, _, _, _, _, rfl, lku F0, fun h => F1 (ls (by decide) h), lku F2, lku F3, lku F4, lku F5, lku F6, lku F7, fun h => F8 (ls (by decide) h), lku F9, lku F10, lku F11, lku F12, lku F13, lku F14, lku F15, lku F16, lku F17, lku F18, lku F19, lku F20, lku F21, fun _ => rfl, lku F23, lku F24, lku F25, F26, F27, F28, F29, F30, F31⟩
    · simp only [List.getElem?_toArray, List.getElem?_cons_zero, List.getElem?_cons_succ, Option.some.injEq] at ho
      subst ho
      obtain rfl := F19 (hd ⟨19, .data⟩ (by simp) rfl)
      obtain rfl := F22 (hd ⟨22, .data⟩ (by simp) rfl)
      obtain rfl := F13 (hd ⟨13, .guard⟩ (by simp) rfl)
      refine wpOp_step rfl (fun K hK => ?_)
      go_simp
      refine hK _ _ ?_
      exact ⟨_, _, _, _, _, _, _, _, _, _, _, _, _, _, _, _, _, _, _, _, _, _, _, _, _, _, rfl, lku F0, fun h => F1 (ls (by decide) h), lku F2, lku F3, lku F4, lku F5, lku F6, lku F7, fun h => F8 (ls (by decide) h), lku F9, lku F10, lku F11, lku F12, lku F13, lku F14, lku F15, lku F16, lku F17, lku F18, lku F19, lku F20, lku F21, lku F22, fun _ => rfl, lku F24, lku F25, F26, F27, F28, F29, F30, F31⟩
    · simp only [List.getElem?_toArray, List.getElem?_cons_zero, List.getElem?_cons_succ, Option.some.injEq] at ho
      subst ho
      obtain rfl := F15 (hd ⟨15, .data⟩ (by simp) rfl)
      obtain rfl := F23 (hd ⟨23, .data⟩ (by simp) rfl)
      obtain rfl := F13 (hd ⟨13, .guard⟩ (by simp) rfl)
      refine wpOp_step rfl (fun K hK => ?_)
      go_simp
      refine hK _ _ ?_
      exact ⟨_, _, _, _, _, _, _, _, _, _, _, _, _, _, _, _, _, _, _, _, _, _, _, _, _, _, rfl, lku F0, fun h => F1 (ls (by decide) h), lku F2, lku F3, lku F4, lku F5, lku F6, lku F7, fun h => F8 (ls (by decide) h), lku F9, lku F10, lku F11, lku F12, lku F13, lku F14, lku F15, lku F16, lku F17, lku F18, lku F19, lku F20, lku F21, lku F22, lku F23, fun _ => rfl, lku F25, F26, F27, F28, F29, F30, F31⟩
    · simp only [List.getElem?_toArray, List.getElem?_cons_zero, List.getElem?_cons_succ, Option.some.injEq] at ho
      subst ho
      obtain rfl := F13 (hd ⟨13, .data⟩ (by simp) rfl)
      obtain rfl := F24 (hd ⟨24, .data⟩ (by simp) rfl)
      refine wpOp_step rfl (fun K hK => ?_)
      go_simp
      refine hK _ _ ?_
      exact ⟨_, _, _, _, _, _, _, _, _, _, _, _, _, _, _, _, _, _, _, _, _, _, _, _, _, _, rfl, lku F0, fun h => F1 (ls (by decide) h), lku F2, lku F3, lku F4, lku F5, lku F6, lku F7, fun h => F8 (ls (by decide) h), lku F9, lku F10, lku F11, lku F12, lku F13, lku F14, lku F15, lku F16, lku F17, lku F18, lku F19, lku F20, lku F21, lku F22, lku F23, lku F24, fun _ => rfl, F26, F27, F28, F29, F30, F31⟩
  · intro listed A w hall hI
    unfold Lr42I at hI
    obtain ⟨s9, hI⟩ := hI
    obtain ⟨s10, hI⟩ := hI
    obtain ⟨s11, hI⟩ := hI
    obtain ⟨s12, hI⟩ := hI
    obtain ⟨s13, hI⟩ := hI
    obtain ⟨s14, hI⟩ := hI
    obtain ⟨s15, hI⟩ := hI
    obtain ⟨s16, hI⟩ := hI
    obtain ⟨s17, hI⟩ := hI
    obtain ⟨s18, hI⟩ := hI
    obtain ⟨s19, hI⟩ := hI
    obtain ⟨s20, hI⟩ := hI
    obtain ⟨s21, hI⟩ := hI
    obtain ⟨s22, hI⟩ := hI
    obtain ⟨s23, hI⟩ := hI
    obtain ⟨s24, hI⟩ := hI
    obtain ⟨s25, hI⟩ := hI
    obtain ⟨s26, hI⟩ := hI
    obtain ⟨s27, hI⟩ := hI
    obtain ⟨s28, hI⟩ := hI
    obtain ⟨s29, hI⟩ := hI
    obtain ⟨s30, hI⟩ := hI
    obtain ⟨s31, hI⟩ := hI
    obtain ⟨s32, hI⟩ := hI
    obtain ⟨s33, hI⟩ := hI
    obtain ⟨s34, hI⟩ := hI
    obtain ⟨rfl, hI⟩ := hI
    obtain ⟨F0, hI⟩ := hI
    obtain ⟨F1, hI⟩ := hI
    obtain ⟨F2, hI⟩ := hI
    obtain ⟨F3, hI⟩ := hI
    obtain ⟨F4, hI⟩ := hI
    obtain ⟨F5, hI⟩ := hI
    obtain ⟨F6, hI⟩ := hI
    obtain ⟨F7, hI⟩ := hI
    obtain ⟨F8, hI⟩ := hI
    obtain ⟨F9, hI⟩ := hI
    obtain ⟨F10, hI⟩ := hI
    obtain ⟨F11, hI⟩ := hI
    obtain ⟨F12, hI⟩ := hI
    obtain ⟨F13, hI⟩ := hI
    obtain ⟨F14, hI⟩ := hI
    obtain ⟨F15, hI⟩ := hI
    obtain ⟨F16, hI⟩ := hI
    obtain ⟨F17, hI⟩ := hI
    obtain ⟨F18, hI⟩ := hI
    obtain ⟨F19, hI⟩ := hI
    obtain ⟨F20, hI⟩ := hI
    obtain ⟨F21, hI⟩ := hI
    obtain ⟨F22, hI⟩ := hI
    obtain ⟨F23, hI⟩ := hI
    obtain ⟨F24, hI⟩ := hI
    obtain ⟨F25, hI⟩ := hI
    obtain ⟨F26, hI⟩ := hI
    obtain ⟨F27, hI⟩ := hI
    obtain ⟨F28, hI⟩ := hI
    obtain ⟨F29, hI⟩ := hI
    obtain ⟨F30, hI⟩ := hI
    have F31 := hI; clear hI
    obtain rfl := F0 (hall 0 (by decide))
    obtain rfl := F2 (hall 2 (by decide))
    obtain rfl := F3 (hall 3 (by decide))
    obtain rfl := F4 (hall 4 (by decide))
    obtain rfl := F5 (hall 5 (by decide))
    obtain rfl := F6 (hall 6 (by decide))
    obtain rfl := F7 (hall 7 (by decide))
    obtain rfl := F9 (hall 9 (by decide))
    obtain rfl := F10 (hall 10 (by decide))
    obtain rfl := F11 (hall 11 (by decide))
    obtain rfl := F12 (hall 12 (by decide))
    obtain rfl := F13 (hall 13 (by decide))
    obtain rfl := F14 (hall 14 (by decide))
    obtain rfl := F15 (hall 15 (by decide))
    obtain rfl := F16 (hall 16 (by decide))
    obtain rfl := F17 (hall 17 (by decide))
    obtain rfl := F18 (hall 18 (by decide))
    obtain rfl := F19 (hall 19 (by decide))
    obtain rfl := F20 (hall 20 (by decide))
    obtain rfl := F21 (hall 21 (by decide))
    obtain rfl := F22 (hall 22 (by decide))
    obtain rfl := F23 (hall 23 (by decide))
    obtain rfl := F24 (hall 24 (by decide))
    obtain rfl := F25 (hall 25 (by decide))
    have P1 := F1 (hall 1 (by decide))
    have P8 := F8 (hall 8 (by decide))
    have HB := F26
    have Q0 := F27
    have Q1 := F28
    have Q2 := F29
    have Q3 := F30
    have Q4 := F31
    exact hQ _ _ _ ⟨Q0, Q1, Q2, Q3, Q4⟩ HB
def Lr4kI (w0 : World) (k : Int) (n c : Int) (s : ByteArray) (b r : Bool) (ga : Nat) (c0 c2 c4 c5 c6 c7 c8 c35 c36 c37 c38 c39 c40 c41 c42 c43 c44 c45 c46 c47 c48 c49 c50 c51 c52 c53 c54 c55 c56 c57 c58 c59 c60 c61 c62 c63 c64 c65 c66 c67 c68 c69 c70 c71 c72 c73 c74 c75 c76 c77 c78 c79 c80 c81 c82 c83 c84 c85 c86 c87 c88 c89 c90 c91 c92 c93 c94 c95 c96 : Value) (listed : Array Bool) (A : Act) (w : World) : Prop := ∃ (s9 s10 s11 s12 s13 s14 s15 s16 s17 s18 s19 s20 s21 s22 s23 s24 s25 s26 s27 s28 s29 s30 s31 s32 s33 s34 : Value), A = { tmps := #[c0, .pointer (some ⟨ga, 0, none⟩), c2, .bool r, c4, c5, c6, c7, c8, s9, s10, s11, s12, s13, s14, s15, s16, s17, s18, s19, s20, s21, s22, s23, s24, s25, s26, s27, s28, s29, s30, s31, s32, s33, s34, c35, c36, c37, c38, c39, c40, c41, c42, c43, c44, c45, c46, c47, c48, c49, c50, c51, c52, c53, c54, c55, c56, c57, c58, c59, c60, c61, c62, c63, c64, c65, c66, c67, c68, c69, c70, c71, c72, c73, c74, c75, c76, c77, c78, c79, c80, c81, c82, c83, c84, c85, c86, c87, c88, c89, c90, c91, c92, c93, c94, c95, c96], defers := [] } ∧
  (listed.getD 0 false = true → s9 = .agg #[.int .i64 k, .int .i64 n, .int .i64 c, .string s, .bool b]) ∧
  (listed.getD 1 false = true → RwA w s10 1 [.int .i64 k, .int .i64 n, .int .i64 c, .string s, .bool b]) ∧
  (listed.getD 2 false = true → s11 = .bool r) ∧
  (listed.getD 3 false = true → s12 = .bool r) ∧
  (listed.getD 4 false = true → s13 = .bool false) ∧
  (listed.getD 5 false = true → s14 = .bool false) ∧
  (listed.getD 6 false = true → s15 = .agg #[.int .i64 1, .int .i64 1, .int .i64 0, .string ⟨#[]⟩, .bool false]) ∧
  (listed.getD 7 false = true → s16 = .agg #[.int .i64 k, .int .i64 n, .int .i64 c, .string s, .bool b]) ∧
  (listed.getD 8 false = true → RwA w s17 2 [.int .i64 1, .int .i64 1, .int .i64 0, .string ⟨#[]⟩, .bool false, .int .i64 k, .int .i64 n, .int .i64 c, .string s, .bool b]) ∧
  (listed.getD 9 false = true → s18 = .bool r) ∧
  (listed.getD 10 false = true → s19 = .bool r) ∧
  (listed.getD 11 false = true → s20 = .bool false) ∧
  (listed.getD 12 false = true → s21 = .bool false) ∧
  (listed.getD 13 false = true → s22 = .bool false) ∧
  (listed.getD 14 false = true → s23 = .agg #[.int .i64 k, .int .i64 n, .int .i64 c, .string s, .bool b]) ∧
  (listed.getD 15 false = true → s24 = .bool false) ∧
  (listed.getD 16 false = true → s25 = .pointer (some ⟨ga, 0, none⟩)) ∧
  (listed.getD 17 false = true → s26 = .int .i64 k) ∧
  (listed.getD 18 false = true → s27 = .bool false) ∧
  (listed.getD 19 false = true → s28 = .bool false) ∧
  (listed.getD 20 false = true → s29 = .pointer (some ⟨ga, 0, none⟩)) ∧
  (listed.getD 21 false = true → s30 = .int .i64 k) ∧
  (listed.getD 22 false = true → s31 = .bool false) ∧
  (listed.getD 23 false = true → s32 = .bool false) ∧
  (listed.getD 24 false = true → s33 = .bool false) ∧
  (listed.getD 25 false = true → s34 = .bool false) ∧
  Below w0.heap.size w0 w ∧
  w.cell? ⟨ga, 0, none⟩ = some (.int .i64 k) ∧
  w.cell? ⟨ga, 1, none⟩ = some (.int .i64 n) ∧
  w.cell? ⟨ga, 2, none⟩ = some (.int .i64 c) ∧
  w.cell? ⟨ga, 3, none⟩ = some (.string s) ∧
  w.cell? ⟨ga, 4, none⟩ = some (.bool b)
set_option maxRecDepth 100000 in
set_option maxHeartbeats 16000000 in
theorem Lr4k_region (k : Int) (n c : Int) (s : ByteArray) (b r : Bool) (ga : Nat) (x9 x10 x11 x12 x13 x14 x15 x16 x17 x18 x19 x20 x21 x22 x23 x24 x25 x26 x27 x28 x29 x30 x31 x32 x33 x34 : Value) (c0 c2 c4 c5 c6 c7 c8 c35 c36 c37 c38 c39 c40 c41 c42 c43 c44 c45 c46 c47 c48 c49 c50 c51 c52 c53 c54 c55 c56 c57 c58 c59 c60 c61 c62 c63 c64 c65 c66 c67 c68 c69 c70 c71 c72 c73 c74 c75 c76 c77 c78 c79 c80 c81 c82 c83 c84 c85 c86 c87 c88 c89 c90 c91 c92 c93 c94 c95 c96 : Value) (w0 W : World) (Q : Exit → Act → World → Prop) (hb0 : Below w0.heap.size w0 W) (C0 : W.cell? ⟨ga, 0, none⟩ = some (.int .i64 k)) (C1 : W.cell? ⟨ga, 1, none⟩ = some (.int .i64 n)) (C2 : W.cell? ⟨ga, 2, none⟩ = some (.int .i64 c)) (C3 : W.cell? ⟨ga, 3, none⟩ = some (.string s)) (C4 : W.cell? ⟨ga, 4, none⟩ = some (.bool b)) (HT : Hid (TT w0)) (HA : Hid (GT 42 #[.agg #[.int .i64 k, .int .i64 n, .int .i64 c, .string s, .bool b]] (.bool r))) (HQ : Hid (Gives 16 #[.agg #[.int .i64 k, .int .i64 n, .int .i64 c, .string s, .bool b]] (.bool false))) (hk1 : (k == 1) = false) (hk2 : (k == 2) = false)
    (hQ : ∀ (w : World) (y10 y17 : Value) , (w.cell? ⟨ga, 0, none⟩ = some (.int .i64 k) ∧ w.cell? ⟨ga, 1, none⟩ = some (.int .i64 n) ∧ w.cell? ⟨ga, 2, none⟩ = some (.int .i64 c) ∧ w.cell? ⟨ga, 3, none⟩ = some (.string s) ∧ w.cell? ⟨ga, 4, none⟩ = some (.bool b)) → Below w0.heap.size w0 w → Q .normal { tmps := #[c0, .pointer (some ⟨ga, 0, none⟩), c2, .bool r, c4, c5, c6, c7, c8, .agg #[.int .i64 k, .int .i64 n, .int .i64 c, .string s, .bool b], y10, .bool r, .bool r, .bool false, .bool false, .agg #[.int .i64 1, .int .i64 1, .int .i64 0, .string ⟨#[]⟩, .bool false], .agg #[.int .i64 k, .int .i64 n, .int .i64 c, .string s, .bool b], y17, .bool r, .bool r, .bool false, .bool false, .bool false, .agg #[.int .i64 k, .int .i64 n, .int .i64 c, .string s, .bool b], .bool false, .pointer (some ⟨ga, 0, none⟩), .int .i64 k, .bool false, .bool false, .pointer (some ⟨ga, 0, none⟩), .int .i64 k, .bool false, .bool false, .bool false, .bool false, c35, c36, c37, c38, c39, c40, c41, c42, c43, c44, c45, c46, c47, c48, c49, c50, c51, c52, c53, c54, c55, c56, c57, c58, c59, c60, c61, c62, c63, c64, c65, c66, c67, c68, c69, c70, c71, c72, c73, c74, c75, c76, c77, c78, c79, c80, c81, c82, c83, c84, c85, c86, c87, c88, c89, c90, c91, c92, c93, c94, c95, c96], defers := [] } w) :
    Code.wp Tryz.prog ((Tryz.f3.body.bind (regionOf 4)).getD .skip) Q { tmps := #[c0, .pointer (some ⟨ga, 0, none⟩), c2, .bool r, c4, c5, c6, c7, c8, x9, x10, x11, x12, x13, x14, x15, x16, x17, x18, x19, x20, x21, x22, x23, x24, x25, x26, x27, x28, x29, x30, x31, x32, x33, x34, c35, c36, c37, c38, c39, c40, c41, c42, c43, c44, c45, c46, c47, c48, c49, c50, c51, c52, c53, c54, c55, c56, c57, c58, c59, c60, c61, c62, c63, c64, c65, c66, c67, c68, c69, c70, c71, c72, c73, c74, c75, c76, c77, c78, c79, c80, c81, c82, c83, c84, c85, c86, c87, c88, c89, c90, c91, c92, c93, c94, c95, c96], defers := [] } W := by
  conv => arg 2; whnf
  refine wp_region_inv (by kernel_rfl) (by kernel_rfl) (Lr4kI w0 k n c s b r ga c0 c2 c4 c5 c6 c7 c8 c35 c36 c37 c38 c39 c40 c41 c42 c43 c44 c45 c46 c47 c48 c49 c50 c51 c52 c53 c54 c55 c56 c57 c58 c59 c60 c61 c62 c63 c64 c65 c66 c67 c68 c69 c70 c71 c72 c73 c74 c75 c76 c77 c78 c79 c80 c81 c82 c83 c84 c85 c86 c87 c88 c89 c90 c91 c92 c93 c94 c95 c96) ?_ ?_ ?_
  · exact ⟨_, _, _, _, _, _, _, _, _, _, _, _, _, _, _, _, _, _, _, _, _, _, _, _, _, _, rfl, fun h => absurd h l0, fun h => absurd h l0, fun h => absurd h l0, fun h => absurd h l0, fun h => absurd h l0, fun h => absurd h l0, fun h => absurd h l0, fun h => absurd h l0, fun h => absurd h l0, fun h => absurd h l0, fun h => absurd h l0, fun h => absurd h l0, fun h => absurd h l0, fun h => absurd h l0, fun h => absurd h l0, fun h => absurd h l0, fun h => absurd h l0, fun h => absurd h l0, fun h => absurd h l0, fun h => absurd h l0, fun h => absurd h l0, fun h => absurd h l0, fun h => absurd h l0, fun h => absurd h l0, fun h => absurd h l0, fun h => absurd h l0, bdr hb0, C0, C1, C2, C3, C4⟩
  · intro i o listed A w hi ho hd hn hI
    unfold Lr4kI at hI
    obtain ⟨s9, hI⟩ := hI
    obtain ⟨s10, hI⟩ := hI
    obtain ⟨s11, hI⟩ := hI
    obtain ⟨s12, hI⟩ := hI
    obtain ⟨s13, hI⟩ := hI
    obtain ⟨s14, hI⟩ := hI
    obtain ⟨s15, hI⟩ := hI
    obtain ⟨s16, hI⟩ := hI
    obtain ⟨s17, hI⟩ := hI
    obtain ⟨s18, hI⟩ := hI
    obtain ⟨s19, hI⟩ := hI
    obtain ⟨s20, hI⟩ := hI
    obtain ⟨s21, hI⟩ := hI
    obtain ⟨s22, hI⟩ := hI
    obtain ⟨s23, hI⟩ := hI
    obtain ⟨s24, hI⟩ := hI
    obtain ⟨s25, hI⟩ := hI
    obtain ⟨s26, hI⟩ := hI
    obtain ⟨s27, hI⟩ := hI
    obtain ⟨s28, hI⟩ := hI
    obtain ⟨s29, hI⟩ := hI
    obtain ⟨s30, hI⟩ := hI
    obtain ⟨s31, hI⟩ := hI
    obtain ⟨s32, hI⟩ := hI
    obtain ⟨s33, hI⟩ := hI
    obtain ⟨s34, hI⟩ := hI
    obtain ⟨rfl, hI⟩ := hI
    obtain ⟨F0, hI⟩ := hI
    obtain ⟨F1, hI⟩ := hI
    obtain ⟨F2, hI⟩ := hI
    obtain ⟨F3, hI⟩ := hI
    obtain ⟨F4, hI⟩ := hI
    obtain ⟨F5, hI⟩ := hI
    obtain ⟨F6, hI⟩ := hI
    obtain ⟨F7, hI⟩ := hI
    obtain ⟨F8, hI⟩ := hI
    obtain ⟨F9, hI⟩ := hI
    obtain ⟨F10, hI⟩ := hI
    obtain ⟨F11, hI⟩ := hI
    obtain ⟨F12, hI⟩ := hI
    obtain ⟨F13, hI⟩ := hI
    obtain ⟨F14, hI⟩ := hI
    obtain ⟨F15, hI⟩ := hI
    obtain ⟨F16, hI⟩ := hI
    obtain ⟨F17, hI⟩ := hI
    obtain ⟨F18, hI⟩ := hI
    obtain ⟨F19, hI⟩ := hI
    obtain ⟨F20, hI⟩ := hI
    obtain ⟨F21, hI⟩ := hI
    obtain ⟨F22, hI⟩ := hI
    obtain ⟨F23, hI⟩ := hI
    obtain ⟨F24, hI⟩ := hI
    obtain ⟨F25, hI⟩ := hI
    obtain ⟨F26, hI⟩ := hI
    obtain ⟨F27, hI⟩ := hI
    obtain ⟨F28, hI⟩ := hI
    obtain ⟨F29, hI⟩ := hI
    obtain ⟨F30, hI⟩ := hI
    have F31 := hI; clear hI
    have hi' : i < 26 := hi
    clear hi
    rcases (by omega : i = 0 ∨ i = 1 ∨ i = 2 ∨ i = 3 ∨ i = 4 ∨ i = 5 ∨ i = 6 ∨ i = 7 ∨ i = 8 ∨ i = 9 ∨ i = 10 ∨ i = 11 ∨ i = 12 ∨ i = 13 ∨ i = 14 ∨ i = 15 ∨ i = 16 ∨ i = 17 ∨ i = 18 ∨ i = 19 ∨ i = 20 ∨ i = 21 ∨ i = 22 ∨ i = 23 ∨ i = 24 ∨ i = 25) with rfl | rfl | rfl | rfl | rfl | rfl | rfl | rfl | rfl | rfl | rfl | rfl | rfl | rfl | rfl | rfl | rfl | rfl | rfl | rfl | rfl | rfl | rfl | rfl | rfl | rfl
    · simp only [List.getElem?_toArray, List.getElem?_cons_zero, Option.some.injEq] at ho
      subst ho
      have h0 := F27; have h1 := F28; have h2 := F29; have h3 := F30; have h4 := F31
      refine wpOp_step rfl (fun K hK => ?_)
      go_simp
      refine hK _ _ ?_
      exact ⟨_, _, _, _, _, _, _, _, _, _, _, _, _, _, _, _, _, _, _, _, _, _, _, _, _, _, rfl, fun _ => rfl, fun h => F1 (ls (by decide) h), lku F2, lku F3, lku F4, lku F5, lku F6, lku F7, fun h => F8 (ls (by decide) h), lku F9, lku F10, lku F11, lku F12, lku F13, lku F14, lku F15, lku F16, lku F17, lku F18, lku F19, lku F20, lku F21, lku F22, lku F23, lku F24, lku F25, F26, F27, F28, F29, F30, F31⟩
    · simp only [List.getElem?_toArray, List.getElem?_cons_zero, List.getElem?_cons_succ, Option.some.injEq] at ho
      subst ho
      obtain rfl := F0 (hd ⟨0, .data⟩ (by simp) rfl)
      refine wpOp_step rfl (fun K hK => ?_)
      go_simp
      refine hK _ _ ?_
      exact ⟨_, _, _, _, _, _, _, _, _, _, _, _, _, _, _, _, _, _, _, _, _, _, _, _, _, _, rfl, lku F0, fun _ => RwA.new _ _ _ _, lku F2, lku F3, lku F4, lku F5, lku F6, lku F7, fun h => (F8 (ls (by decide) h)).call ((Below.refl _ _).alloc (Nat.le_refl _) _), lku F9, lku F10, lku F11, lku F12, lku F13, lku F14, lku F15, lku F16, lku F17, lku F18, lku F19, lku F20, lku F21, lku F22, lku F23, lku F24, lku F25, ba F26, cell_callu F27 ((Below.refl _ _).alloc (Nat.le_refl _) _), cell_callu F28 ((Below.refl _ _).alloc (Nat.le_refl _) _), cell_callu F29 ((Below.refl _ _).alloc (Nat.le_refl _) _), cell_callu F30 ((Below.refl _ _).alloc (Nat.le_refl _) _), cell_callu F31 ((Below.refl _ _).alloc (Nat.le_refl _) _)⟩
    · simp only [List.getElem?_toArray, List.getElem?_cons_zero, List.getElem?_cons_succ, Option.some.injEq] at ho
      subst ho
      obtain ⟨g1, rfl, hr1, hg1⟩ := F1 (hd ⟨1, .data⟩ (by simp) rfl)
      refine wpOp_step rfl (fun K hK => ?_)
      go_simp
      go_at_call 14
      refine (atRight_1 r k n c s b g1 1 w (HT.out.below F26) hg1 hr1 HA).mono ?_
      rintro e w' ⟨rfl, hb⟩
      refine hK _ _ ?_
      exact ⟨_, _, _, _, _, _, _, _, _, _, _, _, _, _, _, _, _, _, _, _, _, _, _, _, _, _, rfl, lku F0, fun h => (F1 (ls (by decide) h)).call hb, fun _ => rfl, lku F3, lku F4, lku F5, lku F6, lku F7, fun h => (F8 (ls (by decide) h)).call hb, lku F9, lku F10, lku F11, lku F12, lku F13, lku F14, lku F15, lku F16, lku F17, lku F18, lku F19, lku F20, lku F21, lku F22, lku F23, lku F24, lku F25, bt F26 hb, cell_callu F27 hb, cell_callu F28 hb, cell_callu F29 hb, cell_callu F30 hb, cell_callu F31 hb⟩
    · simp only [List.getElem?_toArray, List.getElem?_cons_zero, List.getElem?_cons_succ, Option.some.injEq] at ho
      subst ho
      refine wpOp_step rfl (fun K hK => ?_)
      go_simp
      refine hK _ _ ?_
      exact ⟨_, _, _, _, _, _, _, _, _, _, _, _, _, _, _, _, _, _, _, _, _, _, _, _, _, _, rfl, lku F0, fun h => F1 (ls (by decide) h), lku F2, fun _ => rfl, lku F4, lku F5, lku F6, lku F7, fun h => F8 (ls (by decide) h), lku F9, lku F10, lku F11, lku F12, lku F13, lku F14, lku F15, lku F16, lku F17, lku F18, lku F19, lku F20, lku F21, lku F22, lku F23, lku F24, lku F25, F26, F27, F28, F29, F30, F31⟩
    · simp only [List.getElem?_toArray, List.getElem?_cons_zero, List.getElem?_cons_succ, Option.some.injEq] at ho
      subst ho
      obtain rfl := F2 (hd ⟨2, .data⟩ (by simp) rfl)
      obtain rfl := F3 (hd ⟨3, .data⟩ (by simp) rfl)
      refine wpOp_step rfl (fun K hK => ?_)
      go_simp
      refine hK _ _ ?_
      exact ⟨_, _, _, _, _, _, _, _, _, _, _, _, _, _, _, _, _, _, _, _, _, _, _, _, _, _, rfl, lku F0, fun h => F1 (ls (by decide) h), lku F2, lku F3, fun _ => rfl, lku F5, lku F6, lku F7, fun h => F8 (ls (by decide) h), lku F9, lku F10, lku F11, lku F12, lku F13, lku F14, lku F15, lku F16, lku F17, lku F18, lku F19, lku F20, lku F21, lku F22, lku F23, lku F24, lku F25, F26, F27, F28, F29, F30, F31⟩
    · simp only [List.getElem?_toArray, List.getElem?_cons_zero, List.getElem?_cons_succ, Option.some.injEq] at ho
      subst ho
      obtain rfl := F4 (hd ⟨4, .data⟩ (by simp) rfl)
      refine wpOp_step rfl (fun K hK => ?_)
      go_simp
      refine hK _ _ ?_
      exact ⟨_, _, _, _, _, _, _, _, _, _, _, _, _, _, _, _, _, _, _, _, _, _, _, _, _, _, rfl, lku F0, fun h => F1 (ls (by decide) h), lku F2, lku F3, lku F4, fun _ => rfl, lku F6, lku F7, fun h => F8 (ls (by decide) h), lku F9, lku F10, lku F11, lku F12, lku F13, lku F14, lku F15, lku F16, lku F17, lku F18, lku F19, lku F20, lku F21, lku F22, lku F23, lku F24, lku F25, F26, F27, F28, F29, F30, F31⟩
    · simp only [List.getElem?_toArray, List.getElem?_cons_zero, List.getElem?_cons_succ, Option.some.injEq] at ho
      subst ho
      obtain rfl := F5 (hd ⟨5, .guard⟩ (by simp) rfl)
      refine wpOp_step rfl (fun K hK => ?_)
      go_simp
      go_at_call 15
      refine (atOf_any 1 w).mono ?_
      rintro e w' ⟨rfl, hb⟩
      refine hK _ _ ?_
      exact ⟨_, _, _, _, _, _, _, _, _, _, _, _, _, _, _, _, _, _, _, _, _, _, _, _, _, _, rfl, lku F0, fun h => (F1 (ls (by decide) h)).call hb, lku F2, lku F3, lku F4, lku F5, fun _ => rfl, lku F7, fun h => (F8 (ls (by decide) h)).call hb, lku F9, lku F10, lku F11, lku F12, lku F13, lku F14, lku F15, lku F16, lku F17, lku F18, lku F19, lku F20, lku F21, lku F22, lku F23, lku F24, lku F25, bt F26 hb, cell_callu F27 hb, cell_callu F28 hb, cell_callu F29 hb, cell_callu F30 hb, cell_callu F31 hb⟩
    · simp only [List.getElem?_toArray, List.getElem?_cons_zero, List.getElem?_cons_succ, Option.some.injEq] at ho
      subst ho
      obtain rfl := F5 (hd ⟨5, .guard⟩ (by simp) rfl)
      have h0 := F27; have h1 := F28; have h2 := F29; have h3 := F30; have h4 := F31
      refine wpOp_step rfl (fun K hK => ?_)
      go_simp
      refine hK _ _ ?_
      exact ⟨_, _, _, _, _, _, _, _, _, _, _, _, _, _, _, _, _, _, _, _, _, _, _, _, _, _, rfl, lku F0, fun h => F1 (ls (by decide) h), lku F2, lku F3, lku F4, lku F5, lku F6, fun _ => rfl, fun h => F8 (ls (by decide) h), lku F9, lku F10, lku F11, lku F12, lku F13, lku F14, lku F15, lku F16, lku F17, lku F18, lku F19, lku F20, lku F21, lku F22, lku F23, lku F24, lku F25, F26, F27, F28, F29, F30, F31⟩
    · simp only [List.getElem?_toArray, List.getElem?_cons_zero, List.getElem?_cons_succ, Option.some.injEq] at ho
      subst ho
      obtain rfl := F6 (hd ⟨6, .data⟩ (by simp) rfl)
      obtain rfl := F7 (hd ⟨7, .data⟩ (by simp) rfl)
      obtain rfl := F5 (hd ⟨5, .guard⟩ (by simp) rfl)
      refine wpOp_step rfl (fun K hK => ?_)
      go_simp
      refine hK _ _ ?_
      exact ⟨_, _, _, _, _, _, _, _, _, _, _, _, _, _, _, _, _, _, _, _, _, _, _, _, _, _, rfl, lku F0, fun h => (F1 (ls (by decide) h)).call ((Below.refl _ _).alloc (Nat.le_refl _) _), lku F2, lku F3, lku F4, lku F5, lku F6, lku F7, fun _ => RwA.new _ _ _ _, lku F9, lku F10, lku F11, lku F12, lku F13, lku F14, lku F15, lku F16, lku F17, lku F18, lku F19, lku F20, lku F21, lku F22, lku F23, lku F24, lku F25, ba F26, cell_callu F27 ((Below.refl _ _).alloc (Nat.le_refl _) _), cell_callu F28 ((Below.refl _ _).alloc (Nat.le_refl _) _), cell_callu F29 ((Below.refl _ _).alloc (Nat.le_refl _) _), cell_callu F30 ((Below.refl _ _).alloc (Nat.le_refl _) _), cell_callu F31 ((Below.refl _ _).alloc (Nat.le_refl _) _)⟩
    · simp only [List.getElem?_toArray, List.getElem?_cons_zero, List.getElem?_cons_succ, Option.some.injEq] at ho
      subst ho
      obtain ⟨g2, rfl, hr2, hg2⟩ := F8 (hd ⟨8, .data⟩ (by simp) rfl)
      obtain rfl := F5 (hd ⟨5, .guard⟩ (by simp) rfl)
      refine wpOp_step rfl (fun K hK => ?_)
      go_simp
      go_at_call 14
      refine (atRight_2 r k n c s b g2 2 w (HT.out.below F26) hg2 hr2 HA).mono ?_
      rintro e w' ⟨rfl, hb⟩
      refine hK _ _ ?_
      exact ⟨_, _, _, _, _, _, _, _, _, _, _, _, _, _, _, _, _, _, _, _, _, _, _, _, _, _, rfl, lku F0, fun h => (F1 (ls (by decide) h)).call hb, lku F2, lku F3, lku F4, lku F5, lku F6, lku F7, fun h => (F8 (ls (by decide) h)).call hb, fun _ => rfl, lku F10, lku F11, lku F12, lku F13, lku F14, lku F15, lku F16, lku F17, lku F18, lku F19, lku F20, lku F21, lku F22, lku F23, lku F24, lku F25, bt F26 hb, cell_callu F27 hb, cell_callu F28 hb, cell_callu F29 hb, cell_callu F30 hb, cell_callu F31 hb⟩
    · simp only [List.getElem?_toArray, List.getElem?_cons_zero, List.getElem?_cons_succ, Option.some.injEq] at ho
      subst ho
      obtain rfl := F5 (hd ⟨5, .guard⟩ (by simp) rfl)
      refine wpOp_step rfl (fun K hK => ?_)
      go_simp
      refine hK _ _ ?_
      exact ⟨_, _, _, _, _, _, _, _, _, _, _, _, _, _, _, _, _, _, _, _, _, _, _, _, _, _, rfl, lku F0, fun h => F1 (ls (by decide) h), lku F2, lku F3, lku F4, lku F5, lku F6, lku F7, fun h => F8 (ls (by decide) h), lku F9, fun _ => rfl, lku F11, lku F12, lku F13, lku F14, lku F15, lku F16, lku F17, lku F18, lku F19, lku F20, lku F21, lku F22, lku F23, lku F24, lku F25, F26, F27, F28, F29, F30, F31⟩
    · simp only [List.getElem?_toArray, List.getElem?_cons_zero, List.getElem?_cons_succ, Option.some.injEq] at ho
      subst ho
      obtain rfl := F9 (hd ⟨9, .data⟩ (by simp) rfl)
      obtain rfl := F10 (hd ⟨10, .data⟩ (by simp) rfl)
      obtain rfl := F5 (hd ⟨5, .guard⟩ (by simp) rfl)
      refine wpOp_step rfl (fun K hK => ?_)
      go_simp
      refine hK _ _ ?_
      exact ⟨_, _, _, _, _, _, _, _, _, _, _, _, _, _, _, _, _, _, _, _, _, _, _, _, _, _, rfl, lku F0, fun h => F1 (ls (by decide) h), lku F2, lku F3, lku F4, lku F5, lku F6, lku F7, fun h => F8 (ls (by decide) h), lku F9, lku F10, fun _ => rfl, lku F12, lku F13, lku F14, lku F15, lku F16, lku F17, lku F18, lku F19, lku F20, lku F21, lku F22, lku F23, lku F24, lku F25, F26, F27, F28, F29, F30, F31⟩
    · simp only [List.getElem?_toArray, List.getElem?_cons_zero, List.getElem?_cons_succ, Option.some.injEq] at ho
      subst ho
      obtain rfl := F5 (hd ⟨5, .data⟩ (by simp) rfl)
      obtain rfl := F11 (hd ⟨11, .data⟩ (by simp) rfl)
      refine wpOp_step rfl (fun K hK => ?_)
      go_simp
      refine hK _ _ ?_
      exact ⟨_, _, _, _, _, _, _, _, _, _, _, _, _, _, _, _, _, _, _, _, _, _, _, _, _, _, rfl, lku F0, fun h => F1 (ls (by decide) h), lku F2, lku F3, lku F4, lku F5, lku F6, lku F7, fun h => F8 (ls (by decide) h), lku F9, lku F10, lku F11, fun _ => rfl, lku F13, lku F14, lku F15, lku F16, lku F17, lku F18, lku F19, lku F20, lku F21, lku F22, lku F23, lku F24, lku F25, F26, F27, F28, F29, F30, F31⟩
    · simp only [List.getElem?_toArray, List.getElem?_cons_zero, List.getElem?_cons_succ, Option.some.injEq] at ho
      subst ho
      obtain rfl := F12 (hd ⟨12, .data⟩ (by simp) rfl)
      refine wpOp_step rfl (fun K hK => ?_)
      go_simp
      refine hK _ _ ?_
      exact ⟨_, _, _, _, _, _, _, _, _, _, _, _, _, _, _, _, _, _, _, _, _, _, _, _, _, _, rfl, lku F0, fun h => F1 (ls (by decide) h), lku F2, lku F3, lku F4, lku F5, lku F6, lku F7, fun h => F8 (ls (by decide) h), lku F9, lku F10, lku F11, lku F12, fun _ => rfl, lku F14, lku F15, lku F16, lku F17, lku F18, lku F19, lku F20, lku F21, lku F22, lku F23, lku F24, lku F25, F26, F27, F28, F29, F30, F31⟩
    · simp only [List.getElem?_toArray, List.getElem?_cons_zero, List.getElem?_cons_succ, Option.some.injEq] at ho
      subst ho
      obtain rfl := F13 (hd ⟨13, .guard⟩ (by simp) rfl)
      have h0 := F27; have h1 := F28; have h2 := F29; have h3 := F30; have h4 := F31
      refine wpOp_step rfl (fun K hK => ?_)
      go_simp
      refine hK _ _ ?_
      exact ⟨_, _, _, _, _, _, _, _, _, _, _, _, _, _, _, _, _, _, _, _, _, _, _, _, _, _, rfl, lku F0, fun h => F1 (ls (by decide) h), lku F2, lku F3, lku F4, lku F5, lku F6, lku F7, fun h => F8 (ls (by decide) h), lku F9, lku F10, lku F11, lku F12, lku F13, fun _ => rfl, lku F15, lku F16, lku F17, lku F18, lku F19, lku F20, lku F21, lku F22, lku F23, lku F24, lku F25, F26, F27, F28, F29, F30, F31⟩
    · simp only [List.getElem?_toArray, List.getElem?_cons_zero, List.getElem?_cons_succ, Option.some.injEq] at ho
      subst ho
      obtain rfl := F14 (hd ⟨14, .data⟩ (by simp) rfl)
      obtain rfl := F13 (hd ⟨13, .guard⟩ (by simp) rfl)
      refine wpOp_step rfl (fun K hK => ?_)
      go_simp
      go_at_call 16
      refine (HQ.out.call w).mono ?_
      rintro e w' ⟨rfl, hb⟩
      refine hK _ _ ?_
      exact ⟨_, _, _, _, _, _, _, _, _, _, _, _, _, _, _, _, _, _, _, _, _, _, _, _, _, _, rfl, lku F0, fun h => (F1 (ls (by decide) h)).call hb, lku F2, lku F3, lku F4, lku F5, lku F6, lku F7, fun h => (F8 (ls (by decide) h)).call hb, lku F9, lku F10, lku F11, lku F12, lku F13, lku F14, fun _ => rfl, lku F16, lku F17, lku F18, lku F19, lku F20, lku F21, lku F22, lku F23, lku F24, lku F25, bt F26 hb, cell_callu F27 hb, cell_callu F28 hb, cell_callu F29 hb, cell_callu F30 hb, cell_callu F31 hb⟩
    · simp only [List.getElem?_toArray, List.getElem?_cons_zero, List.getElem?_cons_succ, Option.some.injEq] at ho
      subst ho
      obtain rfl := F13 (hd ⟨13, .guard⟩ (by simp) rfl)
      refine wpOp_step rfl (fun K hK => ?_)
      go_simp
      refine hK _ _ ?_
      exact ⟨_, _, _, _, _, _, _, _, _, _, _, _, _, _, _, _, _, _, _, _, _, _, _, _, _, _, rfl, lku F0, fun h => F1 (ls (by decide) h), lku F2, lku F3, lku F4, lku F5, lku F6, lku F7, fun h => F8 (ls (by decide) h), lku F9, lku F10, lku F11, lku F12, lku F13, lku F14, lku F15, fun _ => rfl, lku F17, lku F18, lku F19, lku F20, lku F21, lku F22, lku F23, lku F24, lku F25, F26, F27, F28, F29, F30, F31⟩
    · simp only [List.getElem?_toArray, List.getElem?_cons_zero, List.getElem?_cons_succ, Option.some.injEq] at ho
      subst ho
      obtain rfl := F16 (hd ⟨16, .data⟩ (by simp) rfl)
      obtain rfl := F13 (hd ⟨13, .guard⟩ (by simp) rfl)
      have h0 := F27; have h1 := F28; have h2 := F29; have h3 := F30; have h4 := F31
      refine wpOp_step rfl (fun K hK => ?_)
      go_simp
      refine hK _ _ ?_
      exact ⟨_, _, _, _, _, _, _, _, _, _, _, _, _, _, _, _, _, _, _, _, _, _, _, _, _, _, rfl, lku F0, fun h => F1 (ls (by decide) h), lku F2, lku F3, lku F4, lku F5, lku F6, lku F7, fun h => F8 (ls (by decide) h), lku F9, lku F10, lku F11, lku F12, lku F13, lku F14, lku F15, lku F16, fun _ => rfl, lku F18, lku F19, lku F20, lku F21, lku F22, lku F23, lku F24, lku F25, F26, F27, F28, F29, F30, F31⟩
    · simp only [List.getElem?_toArray, List.getElem?_cons_zero, List.getElem?_cons_succ, Option.some.injEq] at ho
      subst ho
      obtain rfl := F17 (hd ⟨17, .data⟩ (by simp) rfl)
      obtain rfl := F13 (hd ⟨13, .guard⟩ (by simp) rfl)
      refine wpOp_step rfl (fun K hK => ?_)
      go_simp
      refine hK _ _ ?_
      exact ⟨_, _, _, _, _, _, _, _, _, _, _, _, _, _, _, _, _, _, _, _, _, _, _, _, _, _, rfl, lku F0, fun h => F1 (ls (by decide) h), lku F2, lku F3, lku F4, lku F5, lku F6, lku F7, fun h => F8 (ls (by decide) h), lku F9, lku F10, lku F11, lku F12, lku F13, lku F14, lku F15, lku F16, lku F17, fun _ => rfl, lku F19, lku F20, lku F21, lku F22, lku F23, lku F24, lku F25, F26, F27, F28, F29, F30, F31⟩
    · simp only [List.getElem?_toArray, List.getElem?_cons_zero, List.getElem?_cons_succ, Option.some.injEq] at ho
      subst ho
      obtain rfl := F18 (hd ⟨18, .data⟩ (by simp) rfl)
      obtain rfl := F13 (hd ⟨13, .guard⟩ (by simp) rfl)
      refine wpOp_step rfl (fun K hK => ?_)
      go_simp
      refine hK _ _ ?_
      exact ⟨_, _, _, _, _, _, _, _, _, _, _, _, _, _, _, _, _, _, _, _, _, _, _, _, _, _, rfl, lku F0, fun h => F1 (ls (by decide) h), lku F2, lku F3, lku F4, lku F5, lku F6, lku F7, fun h => F8 (ls (by decide) h), lku F9, lku F10, lku F11, lku F12, lku F13, lku F14, lku F15, lku F16, lku F17, lku F18, fun _ => rfl, lku F20, lku F21, lku F22, lku F23, lku F24, lku F25, F26, F27, F28, F29, F30, F31⟩
    · simp only [List.getElem?_toArray, List.getElem?_cons_zero, List.getElem?_cons_succ, Option.some.injEq] at ho
      subst ho
      obtain rfl := F19 (hd ⟨19, .guard⟩ (by simp) rfl)
      refine wpOp_step rfl (fun K hK => ?_)
      go_simp
      refine hK _ _ ?_
      exact ⟨_, _, _, _, _, _, _, _, _, _, _, _, _, _, _, _, _, _, _, _, _, _, _, _, _, _, rfl, lku F0, fun h => F1 (ls (by decide) h), lku F2, lku F3, lku F4, lku F5, lku F6, lku F7, fun h => F8 (ls (by decide) h), lku F9, lku F10, lku F11, lku F12, lku F13, lku F14, lku F15, lku F16, lku F17, lku F18, lku F19, fun _ => rfl, lku F21, lku F22, lku F23, lku F24, lku F25, F26, F27, F28, F29, F30, F31⟩
    · simp only [List.getElem?_toArray, List.getElem?_cons_zero, List.getElem?_cons_succ, Option.some.injEq] at ho
      subst ho
      obtain rfl := F20 (hd ⟨20, .data⟩ (by simp) rfl)
      obtain rfl := F19 (hd ⟨19, .guard⟩ (by simp) rfl)
      have h0 := F27; have h1 := F28; have h2 := F29; have h3 := F30; have h4 := F31
      refine wpOp_step rfl (fun K hK => ?_)
      go_simp
      refine hK _ _ ?_
      exact ⟨_, _, _, _, _, _, _, _, _, _, _, _, _, _, _, _, _, _, _, _, _, _, _, _, _, _, rfl, lku F0, fun h => F1 (ls (by decide) h), lku F2, lku F3, lku F4, lku F5, lku F6, lku F7, fun h => F8 (ls (by decide) h), lku F9, lku F10, lku F11, lku F12, lku F13, lku F14, lku F15, lku F16, lku F17, lku F18, lku F19, lku F20, fun _ => rfl, lku F22, lku F23, lku F24, lku F25, F26, F27, F28, F29, F30, F31⟩
    · simp only [List.getElem?_toArray, List.getElem?_cons_zero, List.getElem?_cons_succ, Option.some.injEq] at ho
      subst ho
      obtain rfl := F21 (hd ⟨21, .data⟩ (by simp) rfl)
      obtain rfl := F19 (hd ⟨19, .guard⟩ (by simp) rfl)
      refine wpOp_step rfl (fun K hK => ?_)
      go_simp
      refine hK _ _ ?_
      exact ⟨_, _, _, _, _, _, _, _, _, _, _, _, _, _, _, _, _, _, _, _, _, _, _, _, _, _, rfl, lku F0, fun h => F1 (ls (by decide) h), lku F2, lku F3, lku F4, lku F5, lku F6, lku F7, fun h => F8 (ls (by decide) h), lku F9, lku F10, lku F11, lku F12, lku F13, lku F14, lku F15, lku F16, lku F17, lku F18, lku F19, lku F20, lku F21, fun _ => rfl, lku F23, lku F24, lku F25, F26, F27, F28, F29, F30, F31⟩
    · simp only [List.getElem?_toArray, List.getElem?_cons_zero, List.getElem?_cons_succ, Option.some.injEq] at ho
      subst ho
      obtain rfl := F19 (hd ⟨19, .data⟩ (by simp) rfl)
      obtain rfl := F22 (hd ⟨22, .data⟩ (by simp) rfl)
      obtain rfl := F13 (hd ⟨13, .guard⟩ (by simp) rfl)
      refine wpOp_step rfl (fun K hK => ?_)
      go_simp
      refine hK _ _ ?_
      exact ⟨_, _, _, _, _, _, _, _, _, _, _, _, _, _, _, _, _, _, _, _, _, _, _, _, _, _, rfl, lku F0, fun h => F1 (ls (by decide) h), lku F2, lku F3, lku F4, lku F5, lku F6, lku F7, fun h => F8 (ls (by decide) h), lku F9, lku F10, lku F11, lku F12, lku F13, lku F14, lku F15, lku F16, lku F17, lku F18, lku F19, lku F20, lku F21, lku F22, fun _ => rfl, lku F24, lku F25, F26, F27, F28, F29, F30, F31⟩
    · simp only [List.getElem?_toArray, List.getElem?_cons_zero, List.getElem?_cons_succ, Option.some.injEq] at ho
      subst ho
      obtain rfl := F15 (hd ⟨15, .data⟩ (by simp) rfl)
      obtain rfl := F23 (hd ⟨23, .data⟩ (by simp) rfl)
      obtain rfl := F13 (hd ⟨13, .guard⟩ (by simp) rfl)
      refine wpOp_step rfl (fun K hK => ?_)
      go_simp
      refine hK _ _ ?_
      exact ⟨_, _, _, _, _, _, _, _, _, _, _, _, _, _, _, _, _, _, _, _, _, _, _, _, _, _, rfl, lku F0, fun h => F1 (ls (by decide) h), lku F2, lku F3, lku F4, lku F5, lku F6, lku F7, fun h => F8 (ls (by decide) h), lku F9, lku F10, lku F11, lku F12, lku F13, lku F14, lku F15, lku F16, lku F17, lku F18, lku F19, lku F20, lku F21, lku F22, lku F23, fun _ => rfl, lku F25, F26, F27, F28, F29, F30, F31⟩
    · simp only [List.getElem?_toArray, List.getElem?_cons_zero, List.getElem?_cons_succ, Option.some.injEq] at ho
      subst ho
      obtain rfl := F13 (hd ⟨13, .data⟩ (by simp) rfl)
      obtain rfl := F24 (hd ⟨24, .data⟩ (by simp) rfl)
      refine wpOp_step rfl (fun K hK => ?_)
      go_simp
      refine hK _ _ ?_
      exact ⟨_, _, _, _, _, _, _, _, _, _, _, _, _, _, _, _, _, _, _, _, _, _, _, _, _, _, rfl, lku F0, fun h => F1 (ls (by decide) h), lku F2, lku F3, lku F4, lku F5, lku F6, lku F7, fun h => F8 (ls (by decide) h), lku F9, lku F10, lku F11, lku F12, lku F13, lku F14, lku F15, lku F16, lku F17, lku F18, lku F19, lku F20, lku F21, lku F22, lku F23, lku F24, fun _ => rfl, F26, F27, F28, F29, F30, F31⟩
  · intro listed A w hall hI
    unfold Lr4kI at hI
    obtain ⟨s9, hI⟩ := hI
    obtain ⟨s10, hI⟩ := hI
    obtain ⟨s11, hI⟩ := hI
    obtain ⟨s12, hI⟩ := hI
    obtain ⟨s13, hI⟩ := hI
    obtain ⟨s14, hI⟩ := hI
    obtain ⟨s15, hI⟩ := hI
    obtain ⟨s16, hI⟩ := hI
    obtain ⟨s17, hI⟩ := hI
    obtain ⟨s18, hI⟩ := hI
    obtain ⟨s19, hI⟩ := hI
    obtain ⟨s20, hI⟩ := hI
    obtain ⟨s21, hI⟩ := hI
    obtain ⟨s22, hI⟩ := hI
    obtain ⟨s23, hI⟩ := hI
    obtain ⟨s24, hI⟩ := hI
    obtain ⟨s25, hI⟩ := hI
    obtain ⟨s26, hI⟩ := hI
    obtain ⟨s27, hI⟩ := hI
    obtain ⟨s28, hI⟩ := hI
    obtain ⟨s29, hI⟩ := hI
    obtain ⟨s30, hI⟩ := hI
    obtain ⟨s31, hI⟩ := hI
    obtain ⟨s32, hI⟩ := hI
    obtain ⟨s33, hI⟩ := hI
    obtain ⟨s34, hI⟩ := hI
    obtain ⟨rfl, hI⟩ := hI
    obtain ⟨F0, hI⟩ := hI
    obtain ⟨F1, hI⟩ := hI
    obtain ⟨F2, hI⟩ := hI
    obtain ⟨F3, hI⟩ := hI
    obtain ⟨F4, hI⟩ := hI
    obtain ⟨F5, hI⟩ := hI
    obtain ⟨F6, hI⟩ := hI
    obtain ⟨F7, hI⟩ := hI
    obtain ⟨F8, hI⟩ := hI
    obtain ⟨F9, hI⟩ := hI
    obtain ⟨F10, hI⟩ := hI
    obtain ⟨F11, hI⟩ := hI
    obtain ⟨F12, hI⟩ := hI
    obtain ⟨F13, hI⟩ := hI
    obtain ⟨F14, hI⟩ := hI
    obtain ⟨F15, hI⟩ := hI
    obtain ⟨F16, hI⟩ := hI
    obtain ⟨F17, hI⟩ := hI
    obtain ⟨F18, hI⟩ := hI
    obtain ⟨F19, hI⟩ := hI
    obtain ⟨F20, hI⟩ := hI
    obtain ⟨F21, hI⟩ := hI
    obtain ⟨F22, hI⟩ := hI
    obtain ⟨F23, hI⟩ := hI
    obtain ⟨F24, hI⟩ := hI
    obtain ⟨F25, hI⟩ := hI
    obtain ⟨F26, hI⟩ := hI
    obtain ⟨F27, hI⟩ := hI
    obtain ⟨F28, hI⟩ := hI
    obtain ⟨F29, hI⟩ := hI
    obtain ⟨F30, hI⟩ := hI
    have F31 := hI; clear hI
    obtain rfl := F0 (hall 0 (by decide))
    obtain rfl := F2 (hall 2 (by decide))
    obtain rfl := F3 (hall 3 (by decide))
    obtain rfl := F4 (hall 4 (by decide))
    obtain rfl := F5 (hall 5 (by decide))
    obtain rfl := F6 (hall 6 (by decide))
    obtain rfl := F7 (hall 7 (by decide))
    obtain rfl := F9 (hall 9 (by decide))
    obtain rfl := F10 (hall 10 (by decide))
    obtain rfl := F11 (hall 11 (by decide))
    obtain rfl := F12 (hall 12 (by decide))
    obtain rfl := F13 (hall 13 (by decide))
    obtain rfl := F14 (hall 14 (by decide))
    obtain rfl := F15 (hall 15 (by decide))
    obtain rfl := F16 (hall 16 (by decide))
    obtain rfl := F17 (hall 17 (by decide))
    obtain rfl := F18 (hall 18 (by decide))
    obtain rfl := F19 (hall 19 (by decide))
    obtain rfl := F20 (hall 20 (by decide))
    obtain rfl := F21 (hall 21 (by decide))
    obtain rfl := F22 (hall 22 (by decide))
    obtain rfl := F23 (hall 23 (by decide))
    obtain rfl := F24 (hall 24 (by decide))
    obtain rfl := F25 (hall 25 (by decide))
    have P1 := F1 (hall 1 (by decide))
    have P8 := F8 (hall 8 (by decide))
    have HB := F26
    have Q0 := F27
    have Q1 := F28
    have Q2 := F29
    have Q3 := F30
    have Q4 := F31
    exact hQ _ _ _ ⟨Q0, Q1, Q2, Q3, Q4⟩ HB
def Lr9I (w0 : World) (k n c : Int) (s : ByteArray) (b : Bool) (ga gw : Nat) (c0 c2 c3 c5 c6 c7 c8 c9 c10 c11 c12 c13 c14 c15 c16 c17 c18 c19 c20 c21 c22 c23 c24 c25 c26 c27 c28 c29 c30 c31 c32 c33 c34 c35 c36 c37 c38 c39 c40 c41 c86 c87 c88 c89 c90 c91 c92 c93 c94 c95 c96 : Value) (listed : Array Bool) (A : Act) (w : World) : Prop := ∃ (s42 s43 s44 s45 s46 s47 s48 s49 s50 s51 s52 s53 s54 s55 s56 s57 s58 s59 s60 s61 s62 s63 s64 s65 s66 s67 s68 s69 s70 s71 s72 s73 s74 s75 s76 s77 s78 s79 s80 s81 s82 s83 s84 s85 : Value), A = { tmps := #[c0, .pointer (some ⟨ga, 0, none⟩), c2, c3, .pointer (some ⟨gw, 0, none⟩), c5, c6, c7, c8, c9, c10, c11, c12, c13, c14, c15, c16, c17, c18, c19, c20, c21, c22, c23, c24, c25, c26, c27, c28, c29, c30, c31, c32, c33, c34, c35, c36, c37, c38, c39, c40, c41, s42, s43, s44, s45, s46, s47, s48, s49, s50, s51, s52, s53, s54, s55, s56, s57, s58, s59, s60, s61, s62, s63, s64, s65, s66, s67, s68, s69, s70, s71, s72, s73, s74, s75, s76, s77, s78, s79, s80, s81, s82, s83, s84, s85, c86, c87, c88, c89, c90, c91, c92, c93, c94, c95, c96], defers := [] } ∧
  (listed.getD 0 false = true → s42 = .pointer (some ⟨ga, 3, none⟩)) ∧
  (listed.getD 1 false = true → s43 = .string s) ∧
  (listed.getD 2 false = true → s44 = .agg #[.int .i64 3, .int .i64 0, .int .i64 0, .string s, .bool false]) ∧
  (listed.getD 3 false = true → s45 = .pointer (some ⟨ga, 3, none⟩)) ∧
  (listed.getD 4 false = true → s46 = .string s) ∧
  (listed.getD 5 false = true → s47 = .agg #[.int .i64 3, .int .i64 0, .int .i64 0, .string s, .bool false]) ∧
  (listed.getD 6 false = true → s48 = .bool false) ∧
  (listed.getD 7 false = true → s49 = .bool false) ∧
  (listed.getD 8 false = true → s50 = .pointer (some ⟨ga, 3, none⟩)) ∧
  (listed.getD 9 false = true → s51 = .string s) ∧
  (listed.getD 10 false = true → s52 = .agg #[.int .i64 5, .int .i64 0, .int .i64 0, .string s, .bool false]) ∧
  (listed.getD 11 false = true → s53 = .pointer (some ⟨ga, 3, none⟩)) ∧
  (listed.getD 12 false = true → s54 = .string s) ∧
  (listed.getD 13 false = true → s55 = .agg #[.int .i64 5, .int .i64 0, .int .i64 0, .string s, .bool false]) ∧
  (listed.getD 14 false = true → s56 = .bool false) ∧
  (listed.getD 15 false = true → s57 = .bool false) ∧
  (listed.getD 16 false = true → s58 = .bool false) ∧
  (listed.getD 17 false = true → s59 = .pointer (some ⟨ga, 1, none⟩)) ∧
  (listed.getD 18 false = true → s60 = .int .i64 n) ∧
  (listed.getD 19 false = true → s61 = .agg #[.int .i64 1, .int .i64 n, .int .i64 0, .string ⟨#[]⟩, .bool false]) ∧
  (listed.getD 20 false = true → s62 = .pointer (some ⟨ga, 1, none⟩)) ∧
  (listed.getD 21 false = true → s63 = .int .i64 n) ∧
  (listed.getD 22 false = true → s64 = .agg #[.int .i64 1, .int .i64 n, .int .i64 0, .string ⟨#[]⟩, .bool false]) ∧
  (listed.getD 23 false = true → s65 = .bool false) ∧
  (listed.getD 24 false = true → s66 = .bool false) ∧
  (listed.getD 25 false = true → s67 = .bool false) ∧
  (listed.getD 26 false = true → s68 = .pointer (some ⟨ga, 4, none⟩)) ∧
  (listed.getD 27 false = true → s69 = .bool b) ∧
  (listed.getD 28 false = true → s70 = .agg #[.int .i64 4, .int .i64 0, .int .i64 0, .string ⟨#[]⟩, .bool b]) ∧
  (listed.getD 29 false = true → s71 = .pointer (some ⟨ga, 4, none⟩)) ∧
  (listed.getD 30 false = true → s72 = .bool b) ∧
  (listed.getD 31 false = true → s73 = .agg #[.int .i64 4, .int .i64 0, .int .i64 0, .string ⟨#[]⟩, .bool b]) ∧
  (listed.getD 32 false = true → s74 = .bool false) ∧
  (listed.getD 33 false = true → s75 = .bool false) ∧
  (listed.getD 34 false = true → s76 = .bool false) ∧
  (listed.getD 35 false = true → s77 = .agg #[.int .i64 n, .int .i64 c]) ∧
  (listed.getD 36 false = true → s78 = .agg #[.int .i64 2, .int .i64 n, .int .i64 c, .string ⟨#[]⟩, .bool false]) ∧
  (listed.getD 37 false = true → s79 = .pointer (some ⟨ga, 1, none⟩)) ∧
  (listed.getD 38 false = true → s80 = .int .i64 n) ∧
  (listed.getD 39 false = true → s81 = .pointer (some ⟨ga, 2, none⟩)) ∧
  (listed.getD 40 false = true → s82 = .int .i64 c) ∧
  (listed.getD 41 false = true → s83 = .agg #[.int .i64 2, .int .i64 n, .int .i64 c, .string ⟨#[]⟩, .bool false]) ∧
  (listed.getD 42 false = true → s84 = .bool false) ∧
  (listed.getD 43 false = true → s85 = .bool false) ∧
  Below w0.heap.size w0 w ∧
  w.cell? ⟨ga, 0, none⟩ = some (.int .i64 k) ∧
  w.cell? ⟨ga, 1, none⟩ = some (.int .i64 n) ∧
  w.cell? ⟨ga, 2, none⟩ = some (.int .i64 c) ∧
  w.cell? ⟨ga, 3, none⟩ = some (.string s) ∧
  w.cell? ⟨ga, 4, none⟩ = some (.bool b) ∧
  w.cell? ⟨gw, 0, none⟩ = some (.int .i64 n) ∧
  w.cell? ⟨gw, 1, none⟩ = some (.int .i64 c)
set_option maxRecDepth 100000 in
set_option maxHeartbeats 16000000 in
theorem Lr9_region (k n c : Int) (s : ByteArray) (b : Bool) (ga gw : Nat) (x42 x43 x44 x45 x46 x47 x48 x49 x50 x51 x52 x53 x54 x55 x56 x57 x58 x59 x60 x61 x62 x63 x64 x65 x66 x67 x68 x69 x70 x71 x72 x73 x74 x75 x76 x77 x78 x79 x80 x81 x82 x83 x84 x85 : Value) (c0 c2 c3 c5 c6 c7 c8 c9 c10 c11 c12 c13 c14 c15 c16 c17 c18 c19 c20 c21 c22 c23 c24 c25 c26 c27 c28 c29 c30 c31 c32 c33 c34 c35 c36 c37 c38 c39 c40 c41 c86 c87 c88 c89 c90 c91 c92 c93 c94 c95 c96 : Value) (w0 W : World) (Q : Exit → Act → World → Prop) (hb0 : Below w0.heap.size w0 W) (C0 : W.cell? ⟨ga, 0, none⟩ = some (.int .i64 k)) (C1 : W.cell? ⟨ga, 1, none⟩ = some (.int .i64 n)) (C2 : W.cell? ⟨ga, 2, none⟩ = some (.int .i64 c)) (C3 : W.cell? ⟨ga, 3, none⟩ = some (.string s)) (C4 : W.cell? ⟨ga, 4, none⟩ = some (.bool b)) (C5 : W.cell? ⟨gw, 0, none⟩ = some (.int .i64 n)) (C6 : W.cell? ⟨gw, 1, none⟩ = some (.int .i64 c)) (H3 : Hid (Gives 17 #[.string s] (.agg #[.int .i64 3, .int .i64 0, .int .i64 0, .string s, .bool false]))) (H5 : Hid (Gives 18 #[.string s] (.agg #[.int .i64 5, .int .i64 0, .int .i64 0, .string s, .bool false])))
    (hQ : ∀ (w : World) , (w.cell? ⟨ga, 0, none⟩ = some (.int .i64 k) ∧ w.cell? ⟨ga, 1, none⟩ = some (.int .i64 n) ∧ w.cell? ⟨ga, 2, none⟩ = some (.int .i64 c) ∧ w.cell? ⟨ga, 3, none⟩ = some (.string s) ∧ w.cell? ⟨ga, 4, none⟩ = some (.bool b) ∧ w.cell? ⟨gw, 0, none⟩ = some (.int .i64 n) ∧ w.cell? ⟨gw, 1, none⟩ = some (.int .i64 c)) → Below w0.heap.size w0 w → Q .normal { tmps := #[c0, .pointer (some ⟨ga, 0, none⟩), c2, c3, .pointer (some ⟨gw, 0, none⟩), c5, c6, c7, c8, c9, c10, c11, c12, c13, c14, c15, c16, c17, c18, c19, c20, c21, c22, c23, c24, c25, c26, c27, c28, c29, c30, c31, c32, c33, c34, c35, c36, c37, c38, c39, c40, c41, .pointer (some ⟨ga, 3, none⟩), .string s, .agg #[.int .i64 3, .int .i64 0, .int .i64 0, .string s, .bool false], .pointer (some ⟨ga, 3, none⟩), .string s, .agg #[.int .i64 3, .int .i64 0, .int .i64 0, .string s, .bool false], .bool false, .bool false, .pointer (some ⟨ga, 3, none⟩), .string s, .agg #[.int .i64 5, .int .i64 0, .int .i64 0, .string s, .bool false], .pointer (some ⟨ga, 3, none⟩), .string s, .agg #[.int .i64 5, .int .i64 0, .int .i64 0, .string s, .bool false], .bool false, .bool false, .bool false, .pointer (some ⟨ga, 1, none⟩), .int .i64 n, .agg #[.int .i64 1, .int .i64 n, .int .i64 0, .string ⟨#[]⟩, .bool false], .pointer (some ⟨ga, 1, none⟩), .int .i64 n, .agg #[.int .i64 1, .int .i64 n, .int .i64 0, .string ⟨#[]⟩, .bool false], .bool false, .bool false, .bool false, .pointer (some ⟨ga, 4, none⟩), .bool b, .agg #[.int .i64 4, .int .i64 0, .int .i64 0, .string ⟨#[]⟩, .bool b], .pointer (some ⟨ga, 4, none⟩), .bool b, .agg #[.int .i64 4, .int .i64 0, .int .i64 0, .string ⟨#[]⟩, .bool b], .bool false, .bool false, .bool false, .agg #[.int .i64 n, .int .i64 c], .agg #[.int .i64 2, .int .i64 n, .int .i64 c, .string ⟨#[]⟩, .bool false], .pointer (some ⟨ga, 1, none⟩), .int .i64 n, .pointer (some ⟨ga, 2, none⟩), .int .i64 c, .agg #[.int .i64 2, .int .i64 n, .int .i64 c, .string ⟨#[]⟩, .bool false], .bool false, .bool false, c86, c87, c88, c89, c90, c91, c92, c93, c94, c95, c96], defers := [] } w) :
    Code.wp Tryz.prog ((Tryz.f3.body.bind (regionOf 9)).getD .skip) Q { tmps := #[c0, .pointer (some ⟨ga, 0, none⟩), c2, c3, .pointer (some ⟨gw, 0, none⟩), c5, c6, c7, c8, c9, c10, c11, c12, c13, c14, c15, c16, c17, c18, c19, c20, c21, c22, c23, c24, c25, c26, c27, c28, c29, c30, c31, c32, c33, c34, c35, c36, c37, c38, c39, c40, c41, x42, x43, x44, x45, x46, x47, x48, x49, x50, x51, x52, x53, x54, x55, x56, x57, x58, x59, x60, x61, x62, x63, x64, x65, x66, x67, x68, x69, x70, x71, x72, x73, x74, x75, x76, x77, x78, x79, x80, x81, x82, x83, x84, x85, c86, c87, c88, c89, c90, c91, c92, c93, c94, c95, c96], defers := [] } W := by
  conv => arg 2; whnf
  refine wp_region_inv (by kernel_rfl) (by kernel_rfl) (Lr9I w0 k n c s b ga gw c0 c2 c3 c5 c6 c7 c8 c9 c10 c11 c12 c13 c14 c15 c16 c17 c18 c19 c20 c21 c22 c23 c24 c25 c26 c27 c28 c29 c30 c31 c32 c33 c34 c35 c36 c37 c38 c39 c40 c41 c86 c87 c88 c89 c90 c91 c92 c93 c94 c95 c96) ?_ ?_ ?_
  · exact ⟨_, _, _, _, _, _, _, _, _, _, _, _, _, _, _, _, _, _, _, _, _, _, _, _, _, _, _, _, _, _, _, _, _, _, _, _, _, _, _, _, _, _, _, _, rfl, fun h => absurd h l0, fun h => absurd h l0, fun h => absurd h l0, fun h => absurd h l0, fun h => absurd h l0, fun h => absurd h l0, fun h => absurd h l0, fun h => absurd h l0, fun h => absurd h l0, fun h => absurd h l0, fun h => absurd h l0, fun h => absurd h l0, fun h => absurd h l0, fun h => absurd h l0, fun h => absurd h l0, fun h => absurd h l0, fun h => absurd h l0, fun h => absurd h l0, fun h => absurd h l0, fun h => absurd h l0, fun h => absurd h l0, fun h => absurd h l0, fun h => absurd h l0, fun h => absurd h l0, fun h => absurd h l0, fun h => absurd h l0, fun h => absurd h l0, fun h => absurd h l0, fun h => absurd h l0, fun h => absurd h l0, fun h => absurd h l0, fun h => absurd h l0, fun h => absurd h l0, fun h => absurd h l0, fun h => absurd h l0, fun h => absurd h l0, fun h => absurd h l0, fun h => absurd h l0, fun h => absurd h l0, fun h => absurd h l0, fun h => absurd h l0, fun h => absurd h l0, fun h => absurd h l0, fun h => absurd h l0, bdr hb0, C0, C1, C2, C3, C4, C5, C6⟩
  · intro i o listed A w hi ho hd hn hI
    unfold Lr9I at hI
    obtain ⟨s42, hI⟩ := hI
    obtain ⟨s43, hI⟩ := hI
    obtain ⟨s44, hI⟩ := hI
    obtain ⟨s45, hI⟩ := hI
    obtain ⟨s46, hI⟩ := hI
    obtain ⟨s47, hI⟩ := hI
    obtain ⟨s48, hI⟩ := hI
    obtain ⟨s49, hI⟩ := hI
    obtain ⟨s50, hI⟩ := hI
    obtain ⟨s51, hI⟩ := hI
    obtain ⟨s52, hI⟩ := hI
    obtain ⟨s53, hI⟩ := hI
    obtain ⟨s54, hI⟩ := hI
    obtain ⟨s55, hI⟩ := hI
    obtain ⟨s56, hI⟩ := hI
    obtain ⟨s57, hI⟩ := hI
    obtain ⟨s58, hI⟩ := hI
    obtain ⟨s59, hI⟩ := hI
    obtain ⟨s60, hI⟩ := hI
    obtain ⟨s61, hI⟩ := hI
    obtain ⟨s62, hI⟩ := hI
    obtain ⟨s63, hI⟩ := hI
    obtain ⟨s64, hI⟩ := hI
    obtain ⟨s65, hI⟩ := hI
    obtain ⟨s66, hI⟩ := hI
    obtain ⟨s67, hI⟩ := hI
    obtain ⟨s68, hI⟩ := hI
    obtain ⟨s69, hI⟩ := hI
    obtain ⟨s70, hI⟩ := hI
    obtain ⟨s71, hI⟩ := hI
    obtain ⟨s72, hI⟩ := hI
    obtain ⟨s73, hI⟩ := hI
    obtain ⟨s74, hI⟩ := hI
    obtain ⟨s75, hI⟩ := hI
    obtain ⟨s76, hI⟩ := hI
    obtain ⟨s77, hI⟩ := hI
    obtain ⟨s78, hI⟩ := hI
    obtain ⟨s79, hI⟩ := hI
    obtain ⟨s80, hI⟩ := hI
    obtain ⟨s81, hI⟩ := hI
    obtain ⟨s82, hI⟩ := hI
    obtain ⟨s83, hI⟩ := hI
    obtain ⟨s84, hI⟩ := hI
    obtain ⟨s85, hI⟩ := hI
    obtain ⟨rfl, hI⟩ := hI
    obtain ⟨F0, hI⟩ := hI
    obtain ⟨F1, hI⟩ := hI
    obtain ⟨F2, hI⟩ := hI
    obtain ⟨F3, hI⟩ := hI
    obtain ⟨F4, hI⟩ := hI
    obtain ⟨F5, hI⟩ := hI
    obtain ⟨F6, hI⟩ := hI
    obtain ⟨F7, hI⟩ := hI
    obtain ⟨F8, hI⟩ := hI
    obtain ⟨F9, hI⟩ := hI
    obtain ⟨F10, hI⟩ := hI
    obtain ⟨F11, hI⟩ := hI
    obtain ⟨F12, hI⟩ := hI
    obtain ⟨F13, hI⟩ := hI
    obtain ⟨F14, hI⟩ := hI
    obtain ⟨F15, hI⟩ := hI
    obtain ⟨F16, hI⟩ := hI
    obtain ⟨F17, hI⟩ := hI
    obtain ⟨F18, hI⟩ := hI
    obtain ⟨F19, hI⟩ := hI
    obtain ⟨F20, hI⟩ := hI
    obtain ⟨F21, hI⟩ := hI
    obtain ⟨F22, hI⟩ := hI
    obtain ⟨F23, hI⟩ := hI
    obtain ⟨F24, hI⟩ := hI
    obtain ⟨F25, hI⟩ := hI
    obtain ⟨F26, hI⟩ := hI
    obtain ⟨F27, hI⟩ := hI
    obtain ⟨F28, hI⟩ := hI
    obtain ⟨F29, hI⟩ := hI
    obtain ⟨F30, hI⟩ := hI
    obtain ⟨F31, hI⟩ := hI
    obtain ⟨F32, hI⟩ := hI
    obtain ⟨F33, hI⟩ := hI
    obtain ⟨F34, hI⟩ := hI
    obtain ⟨F35, hI⟩ := hI
    obtain ⟨F36, hI⟩ := hI
    obtain ⟨F37, hI⟩ := hI
    obtain ⟨F38, hI⟩ := hI
    obtain ⟨F39, hI⟩ := hI
    obtain ⟨F40, hI⟩ := hI
    obtain ⟨F41, hI⟩ := hI
    obtain ⟨F42, hI⟩ := hI
    obtain ⟨F43, hI⟩ := hI
    obtain ⟨F44, hI⟩ := hI
    obtain ⟨F45, hI⟩ := hI
    obtain ⟨F46, hI⟩ := hI
    obtain ⟨F47, hI⟩ := hI
    obtain ⟨F48, hI⟩ := hI
    obtain ⟨F49, hI⟩ := hI
    obtain ⟨F50, hI⟩ := hI
    have F51 := hI; clear hI
    have hi' : i < 44 := hi
    clear hi
    rcases (by omega : i = 0 ∨ i = 1 ∨ i = 2 ∨ i = 3 ∨ i = 4 ∨ i = 5 ∨ i = 6 ∨ i = 7 ∨ i = 8 ∨ i = 9 ∨ i = 10 ∨ i = 11 ∨ i = 12 ∨ i = 13 ∨ i = 14 ∨ i = 15 ∨ i = 16 ∨ i = 17 ∨ i = 18 ∨ i = 19 ∨ i = 20 ∨ i = 21 ∨ i = 22 ∨ i = 23 ∨ i = 24 ∨ i = 25 ∨ i = 26 ∨ i = 27 ∨ i = 28 ∨ i = 29 ∨ i = 30 ∨ i = 31 ∨ i = 32 ∨ i = 33 ∨ i = 34 ∨ i = 35 ∨ i = 36 ∨ i = 37 ∨ i = 38 ∨ i = 39 ∨ i = 40 ∨ i = 41 ∨ i = 42 ∨ i = 43) with rfl | rfl | rfl | rfl | rfl | rfl | rfl | rfl | rfl | rfl | rfl | rfl | rfl | rfl | rfl | rfl | rfl | rfl | rfl | rfl | rfl | rfl | rfl | rfl | rfl | rfl | rfl | rfl | rfl | rfl | rfl | rfl | rfl | rfl | rfl | rfl | rfl | rfl | rfl | rfl | rfl | rfl | rfl | rfl
    · simp only [List.getElem?_toArray, List.getElem?_cons_zero, Option.some.injEq] at ho
      subst ho
      refine wpOp_step rfl (fun K hK => ?_)
      go_simp
      refine hK _ _ ?_
      exact ⟨_, _, _, _, _, _, _, _, _, _, _, _, _, _, _, _, _, _, _, _, _, _, _, _, _, _, _, _, _, _, _, _, _, _, _, _, _, _, _, _, _, _, _, _, rfl, fun _ => rfl, lku F1, lku F2, lku F3, lku F4, lku F5, lku F6, lku F7, lku F8, lku F9, lku F10, lku F11, lku F12, lku F13, lku F14, lku F15, lku F16, lku F17, lku F18, lku F19, lku F20, lku F21, lku F22, lku F23, lku F24, lku F25, lku F26, lku F27, lku F28, lku F29, lku F30, lku F31, lku F32, lku F33, lku F34, lku F35, lku F36, lku F37, lku F38, lku F39, lku F40, lku F41, lku F42, lku F43, F44, F45, F46, F47, F48, F49, F50, F51⟩
    · simp only [List.getElem?_toArray, List.getElem?_cons_zero, List.getElem?_cons_succ, Option.some.injEq] at ho
      subst ho
      obtain rfl := F0 (hd ⟨0, .data⟩ (by simp) rfl)
      have h0 := F45; have h1 := F46; have h2 := F47; have h3 := F48; have h4 := F49; have h5 := F50; have h6 := F51
      refine wpOp_step rfl (fun K hK => ?_)
      go_simp
      refine hK _ _ ?_
      exact ⟨_, _, _, _, _, _, _, _, _, _, _, _, _, _, _, _, _, _, _, _, _, _, _, _, _, _, _, _, _, _, _, _, _, _, _, _, _, _, _, _, _, _, _, _, rfl, lku F0, fun _ => rfl, lku F2, lku F3, lku F4, lku F5, lku F6, lku F7, lku F8, lku F9, lku F10, lku F11, lku F12, lku F13, lku F14, lku F15, lku F16, lku F17, lku F18, lku F19, lku F20, lku F21, lku F22, lku F23, lku F24, lku F25, lku F26, lku F27, lku F28, lku F29, lku F30, lku F31, lku F32, lku F33, lku F34, lku F35, lku F36, lku F37, lku F38, lku F39, lku F40, lku F41, lku F42, lku F43, F44, F45, F46, F47, F48, F49, F50, F51⟩
    · simp only [List.getElem?_toArray, List.getElem?_cons_zero, List.getElem?_cons_succ, Option.some.injEq] at ho
      subst ho
      obtain rfl := F1 (hd ⟨1, .data⟩ (by simp) rfl)
      refine wpOp_step rfl (fun K hK => ?_)
      go_simp
      go_at_call 17
      refine (H3.out.call w).mono ?_
      rintro e w' ⟨rfl, hb⟩
      refine hK _ _ ?_
      exact ⟨_, _, _, _, _, _, _, _, _, _, _, _, _, _, _, _, _, _, _, _, _, _, _, _, _, _, _, _, _, _, _, _, _, _, _, _, _, _, _, _, _, _, _, _, rfl, lku F0, lku F1, fun _ => rfl, lku F3, lku F4, lku F5, lku F6, lku F7, lku F8, lku F9, lku F10, lku F11, lku F12, lku F13, lku F14, lku F15, lku F16, lku F17, lku F18, lku F19, lku F20, lku F21, lku F22, lku F23, lku F24, lku F25, lku F26, lku F27, lku F28, lku F29, lku F30, lku F31, lku F32, lku F33, lku F34, lku F35, lku F36, lku F37, lku F38, lku F39, lku F40, lku F41, lku F42, lku F43, bt F44 hb, cell_callu F45 hb, cell_callu F46 hb, cell_callu F47 hb, cell_callu F48 hb, cell_callu F49 hb, cell_callu F50 hb, cell_callu F51 hb⟩
    · simp only [List.getElem?_toArray, List.getElem?_cons_zero, List.getElem?_cons_succ, Option.some.injEq] at ho
      subst ho
      refine wpOp_step rfl (fun K hK => ?_)
      go_simp
      refine hK _ _ ?_
      exact ⟨_, _, _, _, _, _, _, _, _, _, _, _, _, _, _, _, _, _, _, _, _, _, _, _, _, _, _, _, _, _, _, _, _, _, _, _, _, _, _, _, _, _, _, _, rfl, lku F0, lku F1, lku F2, fun _ => rfl, lku F4, lku F5, lku F6, lku F7, lku F8, lku F9, lku F10, lku F11, lku F12, lku F13, lku F14, lku F15, lku F16, lku F17, lku F18, lku F19, lku F20, lku F21, lku F22, lku F23, lku F24, lku F25, lku F26, lku F27, lku F28, lku F29, lku F30, lku F31, lku F32, lku F33, lku F34, lku F35, lku F36, lku F37, lku F38, lku F39, lku F40, lku F41, lku F42, lku F43, F44, F45, F46, F47, F48, F49, F50, F51⟩
    · simp only [List.getElem?_toArray, List.getElem?_cons_zero, List.getElem?_cons_succ, Option.some.injEq] at ho
      subst ho
      obtain rfl := F3 (hd ⟨3, .data⟩ (by simp) rfl)
      have h0 := F45; have h1 := F46; have h2 := F47; have h3 := F48; have h4 := F49; have h5 := F50; have h6 := F51
      refine wpOp_step rfl (fun K hK => ?_)
      go_simp
      refine hK _ _ ?_
      exact ⟨_, _, _, _, _, _, _, _, _, _, _, _, _, _, _, _, _, _, _, _, _, _, _, _, _, _, _, _, _, _, _, _, _, _, _, _, _, _, _, _, _, _, _, _, rfl, lku F0, lku F1, lku F2, lku F3, fun _ => rfl, lku F5, lku F6, lku F7, lku F8, lku F9, lku F10, lku F11, lku F12, lku F13, lku F14, lku F15, lku F16, lku F17, lku F18, lku F19, lku F20, lku F21, lku F22, lku F23, lku F24, lku F25, lku F26, lku F27, lku F28, lku F29, lku F30, lku F31, lku F32, lku F33, lku F34, lku F35, lku F36, lku F37, lku F38, lku F39, lku F40, lku F41, lku F42, lku F43, F44, F45, F46, F47, F48, F49, F50, F51⟩
    · simp only [List.getElem?_toArray, List.getElem?_cons_zero, List.getElem?_cons_succ, Option.some.injEq] at ho
      subst ho
      obtain rfl := F4 (hd ⟨4, .data⟩ (by simp) rfl)
      refine wpOp_step rfl (fun K hK => ?_)
      go_simp
      refine hK _ _ ?_
      exact ⟨_, _, _, _, _, _, _, _, _, _, _, _, _, _, _, _, _, _, _, _, _, _, _, _, _, _, _, _, _, _, _, _, _, _, _, _, _, _, _, _, _, _, _, _, rfl, lku F0, lku F1, lku F2, lku F3, lku F4, fun _ => rfl, lku F6, lku F7, lku F8, lku F9, lku F10, lku F11, lku F12, lku F13, lku F14, lku F15, lku F16, lku F17, lku F18, lku F19, lku F20, lku F21, lku F22, lku F23, lku F24, lku F25, lku F26, lku F27, lku F28, lku F29, lku F30, lku F31, lku F32, lku F33, lku F34, lku F35, lku F36, lku F37, lku F38, lku F39, lku F40, lku F41, lku F42, lku F43, F44, F45, F46, F47, F48, F49, F50, F51⟩
    · simp only [List.getElem?_toArray, List.getElem?_cons_zero, List.getElem?_cons_succ, Option.some.injEq] at ho
      subst ho
      obtain rfl := F2 (hd ⟨2, .data⟩ (by simp) rfl)
      obtain rfl := F5 (hd ⟨5, .data⟩ (by simp) rfl)
      refine wpOp_step rfl (fun K hK => ?_)
      go_simp
      refine hK _ _ ?_
      exact ⟨_, _, _, _, _, _, _, _, _, _, _, _, _, _, _, _, _, _, _, _, _, _, _, _, _, _, _, _, _, _, _, _, _, _, _, _, _, _, _, _, _, _, _, _, rfl, lku F0, lku F1, lku F2, lku F3, lku F4, lku F5, fun _ => rfl, lku F7, lku F8, lku F9, lku F10, lku F11, lku F12, lku F13, lku F14, lku F15, lku F16, lku F17, lku F18, lku F19, lku F20, lku F21, lku F22, lku F23, lku F24, lku F25, lku F26, lku F27, lku F28, lku F29, lku F30, lku F31, lku F32, lku F33, lku F34, lku F35, lku F36, lku F37, lku F38, lku F39, lku F40, lku F41, lku F42, lku F43, F44, F45, F46, F47, F48, F49, F50, F51⟩
    · simp only [List.getElem?_toArray, List.getElem?_cons_zero, List.getElem?_cons_succ, Option.some.injEq] at ho
      subst ho
      obtain rfl := F6 (hd ⟨6, .data⟩ (by simp) rfl)
      refine wpOp_step rfl (fun K hK => ?_)
      go_simp
      refine hK _ _ ?_
      exact ⟨_, _, _, _, _, _, _, _, _, _, _, _, _, _, _, _, _, _, _, _, _, _, _, _, _, _, _, _, _, _, _, _, _, _, _, _, _, _, _, _, _, _, _, _, rfl, lku F0, lku F1, lku F2, lku F3, lku F4, lku F5, lku F6, fun _ => rfl, lku F8, lku F9, lku F10, lku F11, lku F12, lku F13, lku F14, lku F15, lku F16, lku F17, lku F18, lku F19, lku F20, lku F21, lku F22, lku F23, lku F24, lku F25, lku F26, lku F27, lku F28, lku F29, lku F30, lku F31, lku F32, lku F33, lku F34, lku F35, lku F36, lku F37, lku F38, lku F39, lku F40, lku F41, lku F42, lku F43, F44, F45, F46, F47, F48, F49, F50, F51⟩
    · simp only [List.getElem?_toArray, List.getElem?_cons_zero, List.getElem?_cons_succ, Option.some.injEq] at ho
      subst ho
      obtain rfl := F7 (hd ⟨7, .guard⟩ (by simp) rfl)
      refine wpOp_step rfl (fun K hK => ?_)
      go_simp
      refine hK _ _ ?_
      exact ⟨_, _, _, _, _, _, _, _, _, _, _, _, _, _, _, _, _, _, _, _, _, _, _, _, _, _, _, _, _, _, _, _, _, _, _, _, _, _, _, _, _, _, _, _, rfl, lku F0, lku F1, lku F2, lku F3, lku F4, lku F5, lku F6, lku F7, fun _ => rfl, lku F9, lku F10, lku F11, lku F12, lku F13, lku F14, lku F15, lku F16, lku F17, lku F18, lku F19, lku F20, lku F21, lku F22, lku F23, lku F24, lku F25, lku F26, lku F27, lku F28, lku F29, lku F30, lku F31, lku F32, lku F33, lku F34, lku F35, lku F36, lku F37, lku F38, lku F39, lku F40, lku F41, lku F42, lku F43, F44, F45, F46, F47, F48, F49, F50, F51⟩
    · simp only [List.getElem?_toArray, List.getElem?_cons_zero, List.getElem?_cons_succ, Option.some.injEq] at ho
      subst ho
      obtain rfl := F8 (hd ⟨8, .data⟩ (by simp) rfl)
      obtain rfl := F7 (hd ⟨7, .guard⟩ (by simp) rfl)
      have h0 := F45; have h1 := F46; have h2 := F47; have h3 := F48; have h4 := F49; have h5 := F50; have h6 := F51
      refine wpOp_step rfl (fun K hK => ?_)
      go_simp
      refine hK _ _ ?_
      exact ⟨_, _, _, _, _, _, _, _, _, _, _, _, _, _, _, _, _, _, _, _, _, _, _, _, _, _, _, _, _, _, _, _, _, _, _, _, _, _, _, _, _, _, _, _, rfl, lku F0, lku F1, lku F2, lku F3, lku F4, lku F5, lku F6, lku F7, lku F8, fun _ => rfl, lku F10, lku F11, lku F12, lku F13, lku F14, lku F15, lku F16, lku F17, lku F18, lku F19, lku F20, lku F21, lku F22, lku F23, lku F24, lku F25, lku F26, lku F27, lku F28, lku F29, lku F30, lku F31, lku F32, lku F33, lku F34, lku F35, lku F36, lku F37, lku F38, lku F39, lku F40, lku F41, lku F42, lku F43, F44, F45, F46, F47, F48, F49, F50, F51⟩
    · simp only [List.getElem?_toArray, List.getElem?_cons_zero, List.getElem?_cons_succ, Option.some.injEq] at ho
      subst ho
      obtain rfl := F9 (hd ⟨9, .data⟩ (by simp) rfl)
      obtain rfl := F7 (hd ⟨7, .guard⟩ (by simp) rfl)
      refine wpOp_step rfl (fun K hK => ?_)
      go_simp
      go_at_call 18
      refine (H5.out.call w).mono ?_
      rintro e w' ⟨rfl, hb⟩
      refine hK _ _ ?_
      exact ⟨_, _, _, _, _, _, _, _, _, _, _, _, _, _, _, _, _, _, _, _, _, _, _, _, _, _, _, _, _, _, _, _, _, _, _, _, _, _, _, _, _, _, _, _, rfl, lku F0, lku F1, lku F2, lku F3, lku F4, lku F5, lku F6, lku F7, lku F8, lku F9, fun _ => rfl, lku F11, lku F12, lku F13, lku F14, lku F15, lku F16, lku F17, lku F18, lku F19, lku F20, lku F21, lku F22, lku F23, lku F24, lku F25, lku F26, lku F27, lku F28, lku F29, lku F30, lku F31, lku F32, lku F33, lku F34, lku F35, lku F36, lku F37, lku F38, lku F39, lku F40, lku F41, lku F42, lku F43, bt F44 hb, cell_callu F45 hb, cell_callu F46 hb, cell_callu F47 hb, cell_callu F48 hb, cell_callu F49 hb, cell_callu F50 hb, cell_callu F51 hb⟩
    · simp only [List.getElem?_toArray, List.getElem?_cons_zero, List.getElem?_cons_succ, Option.some.injEq] at ho
      subst ho
      obtain rfl := F7 (hd ⟨7, .guard⟩ (by simp) rfl)
      refine wpOp_step rfl (fun K hK => ?_)
      go_simp
      refine hK _ _ ?_
      exact ⟨_, _, _, _, _, _, _, _, _, _, _, _, _, _, _, _, _, _, _, _, _, _, _, _, _, _, _, _, _, _, _, _, _, _, _, _, _, _, _, _, _, _, _, _, rfl, lku F0, lku F1, lku F2, lku F3, lku F4, lku F5, lku F6, lku F7, lku F8, lku F9, lku F10, fun _ => rfl, lku F12, lku F13, lku F14, lku F15, lku F16, lku F17, lku F18, lku F19, lku F20, lku F21, lku F22, lku F23, lku F24, lku F25, lku F26, lku F27, lku F28, lku F29, lku F30, lku F31, lku F32, lku F33, lku F34, lku F35, lku F36, lku F37, lku F38, lku F39, lku F40, lku F41, lku F42, lku F43, F44, F45, F46, F47, F48, F49, F50, F51⟩
    · simp only [List.getElem?_toArray, List.getElem?_cons_zero, List.getElem?_cons_succ, Option.some.injEq] at ho
      subst ho
      obtain rfl := F11 (hd ⟨11, .data⟩ (by simp) rfl)
      obtain rfl := F7 (hd ⟨7, .guard⟩ (by simp) rfl)
      have h0 := F45; have h1 := F46; have h2 := F47; have h3 := F48; have h4 := F49; have h5 := F50; have h6 := F51
      refine wpOp_step rfl (fun K hK => ?_)
      go_simp
      refine hK _ _ ?_
      exact ⟨_, _, _, _, _, _, _, _, _, _, _, _, _, _, _, _, _, _, _, _, _, _, _, _, _, _, _, _, _, _, _, _, _, _, _, _, _, _, _, _, _, _, _, _, rfl, lku F0, lku F1, lku F2, lku F3, lku F4, lku F5, lku F6, lku F7, lku F8, lku F9, lku F10, lku F11, fun _ => rfl, lku F13, lku F14, lku F15, lku F16, lku F17, lku F18, lku F19, lku F20, lku F21, lku F22, lku F23, lku F24, lku F25, lku F26, lku F27, lku F28, lku F29, lku F30, lku F31, lku F32, lku F33, lku F34, lku F35, lku F36, lku F37, lku F38, lku F39, lku F40, lku F41, lku F42, lku F43, F44, F45, F46, F47, F48, F49, F50, F51⟩
    · simp only [List.getElem?_toArray, List.getElem?_cons_zero, List.getElem?_cons_succ, Option.some.injEq] at ho
      subst ho
      obtain rfl := F12 (hd ⟨12, .data⟩ (by simp) rfl)
      obtain rfl := F7 (hd ⟨7, .guard⟩ (by simp) rfl)
      refine wpOp_step rfl (fun K hK => ?_)
      go_simp
      refine hK _ _ ?_
      exact ⟨_, _, _, _, _, _, _, _, _, _, _, _, _, _, _, _, _, _, _, _, _, _, _, _, _, _, _, _, _, _, _, _, _, _, _, _, _, _, _, _, _, _, _, _, rfl, lku F0, lku F1, lku F2, lku F3, lku F4, lku F5, lku F6, lku F7, lku F8, lku F9, lku F10, lku F11, lku F12, fun _ => rfl, lku F14, lku F15, lku F16, lku F17, lku F18, lku F19, lku F20, lku F21, lku F22, lku F23, lku F24, lku F25, lku F26, lku F27, lku F28, lku F29, lku F30, lku F31, lku F32, lku F33, lku F34, lku F35, lku F36, lku F37, lku F38, lku F39, lku F40, lku F41, lku F42, lku F43, F44, F45, F46, F47, F48, F49, F50, F51⟩
    · simp only [List.getElem?_toArray, List.getElem?_cons_zero, List.getElem?_cons_succ, Option.some.injEq] at ho
      subst ho
      obtain rfl := F10 (hd ⟨10, .data⟩ (by simp) rfl)
      obtain rfl := F13 (hd ⟨13, .data⟩ (by simp) rfl)
      obtain rfl := F7 (hd ⟨7, .guard⟩ (by simp) rfl)
      refine wpOp_step rfl (fun K hK => ?_)
      go_simp
      refine hK _ _ ?_
      exact ⟨_, _, _, _, _, _, _, _, _, _, _, _, _, _, _, _, _, _, _, _, _, _, _, _, _, _, _, _, _, _, _, _, _, _, _, _, _, _, _, _, _, _, _, _, rfl, lku F0, lku F1, lku F2, lku F3, lku F4, lku F5, lku F6, lku F7, lku F8, lku F9, lku F10, lku F11, lku F12, lku F13, fun _ => rfl, lku F15, lku F16, lku F17, lku F18, lku F19, lku F20, lku F21, lku F22, lku F23, lku F24, lku F25, lku F26, lku F27, lku F28, lku F29, lku F30, lku F31, lku F32, lku F33, lku F34, lku F35, lku F36, lku F37, lku F38, lku F39, lku F40, lku F41, lku F42, lku F43, F44, F45, F46, F47, F48, F49, F50, F51⟩
    · simp only [List.getElem?_toArray, List.getElem?_cons_zero, List.getElem?_cons_succ, Option.some.injEq] at ho
      subst ho
      obtain rfl := F7 (hd ⟨7, .data⟩ (by simp) rfl)
      obtain rfl := F14 (hd ⟨14, .data⟩ (by simp) rfl)
      refine wpOp_step rfl (fun K hK => ?_)
      go_simp
      refine hK _ _ ?_
      exact ⟨_, _, _, _, _, _, _, _, _, _, _, _, _, _, _, _, _, _, _, _, _, _, _, _, _, _, _, _, _, _, _, _, _, _, _, _, _, _, _, _, _, _, _, _, rfl, lku F0, lku F1, lku F2, lku F3, lku F4, lku F5, lku F6, lku F7, lku F8, lku F9, lku F10, lku F11, lku F12, lku F13, lku F14, fun _ => rfl, lku F16, lku F17, lku F18, lku F19, lku F20, lku F21, lku F22, lku F23, lku F24, lku F25, lku F26, lku F27, lku F28, lku F29, lku F30, lku F31, lku F32, lku F33, lku F34, lku F35, lku F36, lku F37, lku F38, lku F39, lku F40, lku F41, lku F42, lku F43, F44, F45, F46, F47, F48, F49, F50, F51⟩
    · simp only [List.getElem?_toArray, List.getElem?_cons_zero, List.getElem?_cons_succ, Option.some.injEq] at ho
      subst ho
      obtain rfl := F15 (hd ⟨15, .data⟩ (by simp) rfl)
      refine wpOp_step rfl (fun K hK => ?_)
      go_simp
      refine hK _ _ ?_
      exact ⟨_, _, _, _, _, _, _, _, _, _, _, _, _, _, _, _, _, _, _, _, _, _, _, _, _, _, _, _, _, _, _, _, _, _, _, _, _, _, _, _, _, _, _, _, rfl, lku F0, lku F1, lku F2, lku F3, lku F4, lku F5, lku F6, lku F7, lku F8, lku F9, lku F10, lku F11, lku F12, lku F13, lku F14, lku F15, fun _ => rfl, lku F17, lku F18, lku F19, lku F20, lku F21, lku F22, lku F23, lku F24, lku F25, lku F26, lku F27, lku F28, lku F29, lku F30, lku F31, lku F32, lku F33, lku F34, lku F35, lku F36, lku F37, lku F38, lku F39, lku F40, lku F41, lku F42, lku F43, F44, F45, F46, F47, F48, F49, F50, F51⟩
    · simp only [List.getElem?_toArray, List.getElem?_cons_zero, List.getElem?_cons_succ, Option.some.injEq] at ho
      subst ho
      obtain rfl := F16 (hd ⟨16, .guard⟩ (by simp) rfl)
      refine wpOp_step rfl (fun K hK => ?_)
      go_simp
      refine hK _ _ ?_
      exact ⟨_, _, _, _, _, _, _, _, _, _, _, _, _, _, _, _, _, _, _, _, _, _, _, _, _, _, _, _, _, _, _, _, _, _, _, _, _, _, _, _, _, _, _, _, rfl, lku F0, lku F1, lku F2, lku F3, lku F4, lku F5, lku F6, lku F7, lku F8, lku F9, lku F10, lku F11, lku F12, lku F13, lku F14, lku F15, lku F16, fun _ => rfl, lku F18, lku F19, lku F20, lku F21, lku F22, lku F23, lku F24, lku F25, lku F26, lku F27, lku F28, lku F29, lku F30, lku F31, lku F32, lku F33, lku F34, lku F35, lku F36, lku F37, lku F38, lku F39, lku F40, lku F41, lku F42, lku F43, F44, F45, F46, F47, F48, F49, F50, F51⟩
    · simp only [List.getElem?_toArray, List.getElem?_cons_zero, List.getElem?_cons_succ, Option.some.injEq] at ho
      subst ho
      obtain rfl := F17 (hd ⟨17, .data⟩ (by simp) rfl)
      obtain rfl := F16 (hd ⟨16, .guard⟩ (by simp) rfl)
      have h0 := F45; have h1 := F46; have h2 := F47; have h3 := F48; have h4 := F49; have h5 := F50; have h6 := F51
      refine wpOp_step rfl (fun K hK => ?_)
      go_simp
      refine hK _ _ ?_
      exact ⟨_, _, _, _, _, _, _, _, _, _, _, _, _, _, _, _, _, _, _, _, _, _, _, _, _, _, _, _, _, _, _, _, _, _, _, _, _, _, _, _, _, _, _, _, rfl, lku F0, lku F1, lku F2, lku F3, lku F4, lku F5, lku F6, lku F7, lku F8, lku F9, lku F10, lku F11, lku F12, lku F13, lku F14, lku F15, lku F16, lku F17, fun _ => rfl, lku F19, lku F20, lku F21, lku F22, lku F23, lku F24, lku F25, lku F26, lku F27, lku F28, lku F29, lku F30, lku F31, lku F32, lku F33, lku F34, lku F35, lku F36, lku F37, lku F38, lku F39, lku F40, lku F41, lku F42, lku F43, F44, F45, F46, F47, F48, F49, F50, F51⟩
    · simp only [List.getElem?_toArray, List.getElem?_cons_zero, List.getElem?_cons_succ, Option.some.injEq] at ho
      subst ho
      obtain rfl := F18 (hd ⟨18, .data⟩ (by simp) rfl)
      obtain rfl := F16 (hd ⟨16, .guard⟩ (by simp) rfl)
      refine wpOp_step rfl (fun K hK => ?_)
      go_simp
      go_at_call 15
      refine (atOf_any n w).mono ?_
      rintro e w' ⟨rfl, hb⟩
      refine hK _ _ ?_
      exact ⟨_, _, _, _, _, _, _, _, _, _, _, _, _, _, _, _, _, _, _, _, _, _, _, _, _, _, _, _, _, _, _, _, _, _, _, _, _, _, _, _, _, _, _, _, rfl, lku F0, lku F1, lku F2, lku F3, lku F4, lku F5, lku F6, lku F7, lku F8, lku F9, lku F10, lku F11, lku F12, lku F13, lku F14, lku F15, lku F16, lku F17, lku F18, fun _ => rfl, lku F20, lku F21, lku F22, lku F23, lku F24, lku F25, lku F26, lku F27, lku F28, lku F29, lku F30, lku F31, lku F32, lku F33, lku F34, lku F35, lku F36, lku F37, lku F38, lku F39, lku F40, lku F41, lku F42, lku F43, bt F44 hb, cell_callu F45 hb, cell_callu F46 hb, cell_callu F47 hb, cell_callu F48 hb, cell_callu F49 hb, cell_callu F50 hb, cell_callu F51 hb⟩
    · simp only [List.getElem?_toArray, List.getElem?_cons_zero, List.getElem?_cons_succ, Option.some.injEq] at ho
      subst ho
      obtain rfl := F16 (hd ⟨16, .guard⟩ (by simp) rfl)
      refine wpOp_step rfl (fun K hK => ?_)
      go_simp
      refine hK _ _ ?_
      exact ⟨_, _, _, _, _, _, _, _, _, _, _, _, _, _, _, _, _, _, _, _, _, _, _, _, _, _, _, _, _, _, _, _, _, _, _, _, _, _, _, _, _, _, _, _, rfl, lku F0, lku F1, lku F2, lku F3, lku F4, lku F5, lku F6, lku F7, lku F8, lku F9, lku F10, lku F11, lku F12, lku F13, lku F14, lku F15, lku F16, lku F17, lku F18, lku F19, fun _ => rfl, lku F21, lku F22, lku F23, lku F24, lku F25, lku F26, lku F27, lku F28, lku F29, lku F30, lku F31, lku F32, lku F33, lku F34, lku F35, lku F36, lku F37, lku F38, lku F39, lku F40, lku F41, lku F42, lku F43, F44, F45, F46, F47, F48, F49, F50, F51⟩
    · simp only [List.getElem?_toArray, List.getElem?_cons_zero, List.getElem?_cons_succ, Option.some.injEq] at ho
      subst ho
      obtain rfl := F20 (hd ⟨20, .data⟩ (by simp) rfl)
      obtain rfl := F16 (hd ⟨16, .guard⟩ (by simp) rfl)
      have h0 := F45; have h1 := F46; have h2 := F47; have h3 := F48; have h4 := F49; have h5 := F50; have h6 := F51
      refine wpOp_step rfl (fun K hK => ?_)
      go_simp
      refine hK _ _ ?_
      exact ⟨_, _, _, _, _, _, _, _, _, _, _, _, _, _, _, _, _, _, _, _, _, _, _, _, _, _, _, _, _, _, _, _, _, _, _, _, _, _, _, _, _, _, _, _, rfl, lku F0, lku F1, lku F2, lku F3, lku F4, lku F5, lku F6, lku F7, lku F8, lku F9, lku F10, lku F11, lku F12, lku F13, lku F14, lku F15, lku F16, lku F17, lku F18, lku F19, lku F20, fun _ => rfl, lku F22, lku F23, lku F24, lku F25, lku F26, lku F27, lku F28, lku F29, lku F30, lku F31, lku F32, lku F33, lku F34, lku F35, lku F36, lku F37, lku F38, lku F39, lku F40, lku F41, lku F42, lku F43, F44, F45, F46, F47, F48, F49, F50, F51⟩
    · simp only [List.getElem?_toArray, List.getElem?_cons_zero, List.getElem?_cons_succ, Option.some.injEq] at ho
      subst ho
      obtain rfl := F21 (hd ⟨21, .data⟩ (by simp) rfl)
      obtain rfl := F16 (hd ⟨16, .guard⟩ (by simp) rfl)
      refine wpOp_step rfl (fun K hK => ?_)
      go_simp
      refine hK _ _ ?_
      exact ⟨_, _, _, _, _, _, _, _, _, _, _, _, _, _, _, _, _, _, _, _, _, _, _, _, _, _, _, _, _, _, _, _, _, _, _, _, _, _, _, _, _, _, _, _, rfl, lku F0, lku F1, lku F2, lku F3, lku F4, lku F5, lku F6, lku F7, lku F8, lku F9, lku F10, lku F11, lku F12, lku F13, lku F14, lku F15, lku F16, lku F17, lku F18, lku F19, lku F20, lku F21, fun _ => rfl, lku F23, lku F24, lku F25, lku F26, lku F27, lku F28, lku F29, lku F30, lku F31, lku F32, lku F33, lku F34, lku F35, lku F36, lku F37, lku F38, lku F39, lku F40, lku F41, lku F42, lku F43, F44, F45, F46, F47, F48, F49, F50, F51⟩
    · simp only [List.getElem?_toArray, List.getElem?_cons_zero, List.getElem?_cons_succ, Option.some.injEq] at ho
      subst ho
      obtain rfl := F19 (hd ⟨19, .data⟩ (by simp) rfl)
      obtain rfl := F22 (hd ⟨22, .data⟩ (by simp) rfl)
      obtain rfl := F16 (hd ⟨16, .guard⟩ (by simp) rfl)
      refine wpOp_step rfl (fun K hK => ?_)
      go_simp
      refine hK _ _ ?_
      exact ⟨_, _, _, _, _, _, _, _, _, _, _, _, _, _, _, _, _, _, _, _, _, _, _, _, _, _, _, _, _, _, _, _, _, _, _, _, _, _, _, _, _, _, _, _, rfl, lku F0, lku F1, lku F2, lku F3, lku F4, lku F5, lku F6, lku F7, lku F8, lku F9, lku F10, lku F11, lku F12, lku F13, lku F14, lku F15, lku F16, lku F17, lku F18, lku F19, lku F20, lku F21, lku F22, fun _ => rfl, lku F24, lku F25, lku F26, lku F27, lku F28, lku F29, lku F30, lku F31, lku F32, lku F33, lku F34, lku F35, lku F36, lku F37, lku F38, lku F39, lku F40, lku F41, lku F42, lku F43, F44, F45, F46, F47, F48, F49, F50, F51⟩
    · simp only [List.getElem?_toArray, List.getElem?_cons_zero, List.getElem?_cons_succ, Option.some.injEq] at ho
      subst ho
      obtain rfl := F16 (hd ⟨16, .data⟩ (by simp) rfl)
      obtain rfl := F23 (hd ⟨23, .data⟩ (by simp) rfl)
      refine wpOp_step rfl (fun K hK => ?_)
      go_simp
      refine hK _ _ ?_
      exact ⟨_, _, _, _, _, _, _, _, _, _, _, _, _, _, _, _, _, _, _, _, _, _, _, _, _, _, _, _, _, _, _, _, _, _, _, _, _, _, _, _, _, _, _, _, rfl, lku F0, lku F1, lku F2, lku F3, lku F4, lku F5, lku F6, lku F7, lku F8, lku F9, lku F10, lku F11, lku F12, lku F13, lku F14, lku F15, lku F16, lku F17, lku F18, lku F19, lku F20, lku F21, lku F22, lku F23, fun _ => rfl, lku F25, lku F26, lku F27, lku F28, lku F29, lku F30, lku F31, lku F32, lku F33, lku F34, lku F35, lku F36, lku F37, lku F38, lku F39, lku F40, lku F41, lku F42, lku F43, F44, F45, F46, F47, F48, F49, F50, F51⟩
    · simp only [List.getElem?_toArray, List.getElem?_cons_zero, List.getElem?_cons_succ, Option.some.injEq] at ho
      subst ho
      obtain rfl := F24 (hd ⟨24, .data⟩ (by simp) rfl)
      refine wpOp_step rfl (fun K hK => ?_)
      go_simp
      refine hK _ _ ?_
      exact ⟨_, _, _, _, _, _, _, _, _, _, _, _, _, _, _, _, _, _, _, _, _, _, _, _, _, _, _, _, _, _, _, _, _, _, _, _, _, _, _, _, _, _, _, _, rfl, lku F0, lku F1, lku F2, lku F3, lku F4, lku F5, lku F6, lku F7, lku F8, lku F9, lku F10, lku F11, lku F12, lku F13, lku F14, lku F15, lku F16, lku F17, lku F18, lku F19, lku F20, lku F21, lku F22, lku F23, lku F24, fun _ => rfl, lku F26, lku F27, lku F28, lku F29, lku F30, lku F31, lku F32, lku F33, lku F34, lku F35, lku F36, lku F37, lku F38, lku F39, lku F40, lku F41, lku F42, lku F43, F44, F45, F46, F47, F48, F49, F50, F51⟩
    · simp only [List.getElem?_toArray, List.getElem?_cons_zero, List.getElem?_cons_succ, Option.some.injEq] at ho
      subst ho
      obtain rfl := F25 (hd ⟨25, .guard⟩ (by simp) rfl)
      refine wpOp_step rfl (fun K hK => ?_)
      go_simp
      refine hK _ _ ?_
      exact ⟨_, _, _, _, _, _, _, _, _, _, _, _, _, _, _, _, _, _, _, _, _, _, _, _, _, _, _, _, _, _, _, _, _, _, _, _, _, _, _, _, _, _, _, _, rfl, lku F0, lku F1, lku F2, lku F3, lku F4, lku F5, lku F6, lku F7, lku F8, lku F9, lku F10, lku F11, lku F12, lku F13, lku F14, lku F15, lku F16, lku F17, lku F18, lku F19, lku F20, lku F21, lku F22, lku F23, lku F24, lku F25, fun _ => rfl, lku F27, lku F28, lku F29, lku F30, lku F31, lku F32, lku F33, lku F34, lku F35, lku F36, lku F37, lku F38, lku F39, lku F40, lku F41, lku F42, lku F43, F44, F45, F46, F47, F48, F49, F50, F51⟩
    · simp only [List.getElem?_toArray, List.getElem?_cons_zero, List.getElem?_cons_succ, Option.some.injEq] at ho
      subst ho
      obtain rfl := F26 (hd ⟨26, .data⟩ (by simp) rfl)
      obtain rfl := F25 (hd ⟨25, .guard⟩ (by simp) rfl)
      have h0 := F45; have h1 := F46; have h2 := F47; have h3 := F48; have h4 := F49; have h5 := F50; have h6 := F51
      refine wpOp_step rfl (fun K hK => ?_)
      go_simp
      refine hK _ _ ?_
      exact ⟨_, _, _, _, _, _, _, _, _, _, _, _, _, _, _, _, _, _, _, _, _, _, _, _, _, _, _, _, _, _, _, _, _, _, _, _, _, _, _, _, _, _, _, _, rfl, lku F0, lku F1, lku F2, lku F3, lku F4, lku F5, lku F6, lku F7, lku F8, lku F9, lku F10, lku F11, lku F12, lku F13, lku F14, lku F15, lku F16, lku F17, lku F18, lku F19, lku F20, lku F21, lku F22, lku F23, lku F24, lku F25, lku F26, fun _ => rfl, lku F28, lku F29, lku F30, lku F31, lku F32, lku F33, lku F34, lku F35, lku F36, lku F37, lku F38, lku F39, lku F40, lku F41, lku F42, lku F43, F44, F45, F46, F47, F48, F49, F50, F51⟩
    · simp only [List.getElem?_toArray, List.getElem?_cons_zero, List.getElem?_cons_succ, Option.some.injEq] at ho
      subst ho
      obtain rfl := F27 (hd ⟨27, .data⟩ (by simp) rfl)
      obtain rfl := F25 (hd ⟨25, .guard⟩ (by simp) rfl)
      refine wpOp_step rfl (fun K hK => ?_)
      go_simp
      go_at_call 19
      refine (atTruth_any b w).mono ?_
      rintro e w' ⟨rfl, hb⟩
      refine hK _ _ ?_
      exact ⟨_, _, _, _, _, _, _, _, _, _, _, _, _, _, _, _, _, _, _, _, _, _, _, _, _, _, _, _, _, _, _, _, _, _, _, _, _, _, _, _, _, _, _, _, rfl, lku F0, lku F1, lku F2, lku F3, lku F4, lku F5, lku F6, lku F7, lku F8, lku F9, lku F10, lku F11, lku F12, lku F13, lku F14, lku F15, lku F16, lku F17, lku F18, lku F19, lku F20, lku F21, lku F22, lku F23, lku F24, lku F25, lku F26, lku F27, fun _ => rfl, lku F29, lku F30, lku F31, lku F32, lku F33, lku F34, lku F35, lku F36, lku F37, lku F38, lku F39, lku F40, lku F41, lku F42, lku F43, bt F44 hb, cell_callu F45 hb, cell_callu F46 hb, cell_callu F47 hb, cell_callu F48 hb, cell_callu F49 hb, cell_callu F50 hb, cell_callu F51 hb⟩
    · simp only [List.getElem?_toArray, List.getElem?_cons_zero, List.getElem?_cons_succ, Option.some.injEq] at ho
      subst ho
      obtain rfl := F25 (hd ⟨25, .guard⟩ (by simp) rfl)
      refine wpOp_step rfl (fun K hK => ?_)
      go_simp
      refine hK _ _ ?_
      exact ⟨_, _, _, _, _, _, _, _, _, _, _, _, _, _, _, _, _, _, _, _, _, _, _, _, _, _, _, _, _, _, _, _, _, _, _, _, _, _, _, _, _, _, _, _, rfl, lku F0, lku F1, lku F2, lku F3, lku F4, lku F5, lku F6, lku F7, lku F8, lku F9, lku F10, lku F11, lku F12, lku F13, lku F14, lku F15, lku F16, lku F17, lku F18, lku F19, lku F20, lku F21, lku F22, lku F23, lku F24, lku F25, lku F26, lku F27, lku F28, fun _ => rfl, lku F30, lku F31, lku F32, lku F33, lku F34, lku F35, lku F36, lku F37, lku F38, lku F39, lku F40, lku F41, lku F42, lku F43, F44, F45, F46, F47, F48, F49, F50, F51⟩
    · simp only [List.getElem?_toArray, List.getElem?_cons_zero, List.getElem?_cons_succ, Option.some.injEq] at ho
      subst ho
      obtain rfl := F29 (hd ⟨29, .data⟩ (by simp) rfl)
      obtain rfl := F25 (hd ⟨25, .guard⟩ (by simp) rfl)
      have h0 := F45; have h1 := F46; have h2 := F47; have h3 := F48; have h4 := F49; have h5 := F50; have h6 := F51
      refine wpOp_step rfl (fun K hK => ?_)
      go_simp
      refine hK _ _ ?_
      exact ⟨_, _, _, _, _, _, _, _, _, _, _, _, _, _, _, _, _, _, _, _, _, _, _, _, _, _, _, _, _, _, _, _, _, _, _, _, _, _, _, _, _, _, _, _, rfl, lku F0, lku F1, lku F2, lku F3, lku F4, lku F5, lku F6, lku F7, lku F8, lku F9, lku F10, lku F11, lku F12, lku F13, lku F14, lku F15, lku F16, lku F17, lku F18, lku F19, lku F20, lku F21, lku F22, lku F23, lku F24, lku F25, lku F26, lku F27, lku F28, lku F29, fun _ => rfl, lku F31, lku F32, lku F33, lku F34, lku F35, lku F36, lku F37, lku F38, lku F39, lku F40, lku F41, lku F42, lku F43, F44, F45, F46, F47, F48, F49, F50, F51⟩
    · simp only [List.getElem?_toArray, List.getElem?_cons_zero, List.getElem?_cons_succ, Option.some.injEq] at ho
      subst ho
      obtain rfl := F30 (hd ⟨30, .data⟩ (by simp) rfl)
      obtain rfl := F25 (hd ⟨25, .guard⟩ (by simp) rfl)
      refine wpOp_step rfl (fun K hK => ?_)
      go_simp
      refine hK _ _ ?_
      exact ⟨_, _, _, _, _, _, _, _, _, _, _, _, _, _, _, _, _, _, _, _, _, _, _, _, _, _, _, _, _, _, _, _, _, _, _, _, _, _, _, _, _, _, _, _, rfl, lku F0, lku F1, lku F2, lku F3, lku F4, lku F5, lku F6, lku F7, lku F8, lku F9, lku F10, lku F11, lku F12, lku F13, lku F14, lku F15, lku F16, lku F17, lku F18, lku F19, lku F20, lku F21, lku F22, lku F23, lku F24, lku F25, lku F26, lku F27, lku F28, lku F29, lku F30, fun _ => rfl, lku F32, lku F33, lku F34, lku F35, lku F36, lku F37, lku F38, lku F39, lku F40, lku F41, lku F42, lku F43, F44, F45, F46, F47, F48, F49, F50, F51⟩
    · simp only [List.getElem?_toArray, List.getElem?_cons_zero, List.getElem?_cons_succ, Option.some.injEq] at ho
      subst ho
      obtain rfl := F28 (hd ⟨28, .data⟩ (by simp) rfl)
      obtain rfl := F31 (hd ⟨31, .data⟩ (by simp) rfl)
      obtain rfl := F25 (hd ⟨25, .guard⟩ (by simp) rfl)
      refine wpOp_step rfl (fun K hK => ?_)
      go_simp
      refine hK _ _ ?_
      exact ⟨_, _, _, _, _, _, _, _, _, _, _, _, _, _, _, _, _, _, _, _, _, _, _, _, _, _, _, _, _, _, _, _, _, _, _, _, _, _, _, _, _, _, _, _, rfl, lku F0, lku F1, lku F2, lku F3, lku F4, lku F5, lku F6, lku F7, lku F8, lku F9, lku F10, lku F11, lku F12, lku F13, lku F14, lku F15, lku F16, lku F17, lku F18, lku F19, lku F20, lku F21, lku F22, lku F23, lku F24, lku F25, lku F26, lku F27, lku F28, lku F29, lku F30, lku F31, fun _ => rfl, lku F33, lku F34, lku F35, lku F36, lku F37, lku F38, lku F39, lku F40, lku F41, lku F42, lku F43, F44, F45, F46, F47, F48, F49, F50, F51⟩
    · simp only [List.getElem?_toArray, List.getElem?_cons_zero, List.getElem?_cons_succ, Option.some.injEq] at ho
      subst ho
      obtain rfl := F25 (hd ⟨25, .data⟩ (by simp) rfl)
      obtain rfl := F32 (hd ⟨32, .data⟩ (by simp) rfl)
      refine wpOp_step rfl (fun K hK => ?_)
      go_simp
      refine hK _ _ ?_
      exact ⟨_, _, _, _, _, _, _, _, _, _, _, _, _, _, _, _, _, _, _, _, _, _, _, _, _, _, _, _, _, _, _, _, _, _, _, _, _, _, _, _, _, _, _, _, rfl, lku F0, lku F1, lku F2, lku F3, lku F4, lku F5, lku F6, lku F7, lku F8, lku F9, lku F10, lku F11, lku F12, lku F13, lku F14, lku F15, lku F16, lku F17, lku F18, lku F19, lku F20, lku F21, lku F22, lku F23, lku F24, lku F25, lku F26, lku F27, lku F28, lku F29, lku F30, lku F31, lku F32, fun _ => rfl, lku F34, lku F35, lku F36, lku F37, lku F38, lku F39, lku F40, lku F41, lku F42, lku F43, F44, F45, F46, F47, F48, F49, F50, F51⟩
    · simp only [List.getElem?_toArray, List.getElem?_cons_zero, List.getElem?_cons_succ, Option.some.injEq] at ho
      subst ho
      obtain rfl := F33 (hd ⟨33, .data⟩ (by simp) rfl)
      refine wpOp_step rfl (fun K hK => ?_)
      go_simp
      refine hK _ _ ?_
      exact ⟨_, _, _, _, _, _, _, _, _, _, _, _, _, _, _, _, _, _, _, _, _, _, _, _, _, _, _, _, _, _, _, _, _, _, _, _, _, _, _, _, _, _, _, _, rfl, lku F0, lku F1, lku F2, lku F3, lku F4, lku F5, lku F6, lku F7, lku F8, lku F9, lku F10, lku F11, lku F12, lku F13, lku F14, lku F15, lku F16, lku F17, lku F18, lku F19, lku F20, lku F21, lku F22, lku F23, lku F24, lku F25, lku F26, lku F27, lku F28, lku F29, lku F30, lku F31, lku F32, lku F33, fun _ => rfl, lku F35, lku F36, lku F37, lku F38, lku F39, lku F40, lku F41, lku F42, lku F43, F44, F45, F46, F47, F48, F49, F50, F51⟩
    · simp only [List.getElem?_toArray, List.getElem?_cons_zero, List.getElem?_cons_succ, Option.some.injEq] at ho
      subst ho
      obtain rfl := F34 (hd ⟨34, .guard⟩ (by simp) rfl)
      have h0 := F45; have h1 := F46; have h2 := F47; have h3 := F48; have h4 := F49; have h5 := F50; have h6 := F51
      refine wpOp_step rfl (fun K hK => ?_)
      go_simp
      refine hK _ _ ?_
      exact ⟨_, _, _, _, _, _, _, _, _, _, _, _, _, _, _, _, _, _, _, _, _, _, _, _, _, _, _, _, _, _, _, _, _, _, _, _, _, _, _, _, _, _, _, _, rfl, lku F0, lku F1, lku F2, lku F3, lku F4, lku F5, lku F6, lku F7, lku F8, lku F9, lku F10, lku F11, lku F12, lku F13, lku F14, lku F15, lku F16, lku F17, lku F18, lku F19, lku F20, lku F21, lku F22, lku F23, lku F24, lku F25, lku F26, lku F27, lku F28, lku F29, lku F30, lku F31, lku F32, lku F33, lku F34, fun _ => rfl, lku F36, lku F37, lku F38, lku F39, lku F40, lku F41, lku F42, lku F43, F44, F45, F46, F47, F48, F49, F50, F51⟩
    · simp only [List.getElem?_toArray, List.getElem?_cons_zero, List.getElem?_cons_succ, Option.some.injEq] at ho
      subst ho
      obtain rfl := F35 (hd ⟨35, .data⟩ (by simp) rfl)
      obtain rfl := F34 (hd ⟨34, .guard⟩ (by simp) rfl)
      refine wpOp_step rfl (fun K hK => ?_)
      go_simp
      go_at_call 20
      refine (atNumber_any n c w).mono ?_
      rintro e w' ⟨rfl, hb⟩
      refine hK _ _ ?_
      exact ⟨_, _, _, _, _, _, _, _, _, _, _, _, _, _, _, _, _, _, _, _, _, _, _, _, _, _, _, _, _, _, _, _, _, _, _, _, _, _, _, _, _, _, _, _, rfl, lku F0, lku F1, lku F2, lku F3, lku F4, lku F5, lku F6, lku F7, lku F8, lku F9, lku F10, lku F11, lku F12, lku F13, lku F14, lku F15, lku F16, lku F17, lku F18, lku F19, lku F20, lku F21, lku F22, lku F23, lku F24, lku F25, lku F26, lku F27, lku F28, lku F29, lku F30, lku F31, lku F32, lku F33, lku F34, lku F35, fun _ => rfl, lku F37, lku F38, lku F39, lku F40, lku F41, lku F42, lku F43, bt F44 hb, cell_callu F45 hb, cell_callu F46 hb, cell_callu F47 hb, cell_callu F48 hb, cell_callu F49 hb, cell_callu F50 hb, cell_callu F51 hb⟩
    · simp only [List.getElem?_toArray, List.getElem?_cons_zero, List.getElem?_cons_succ, Option.some.injEq] at ho
      subst ho
      obtain rfl := F34 (hd ⟨34, .guard⟩ (by simp) rfl)
      refine wpOp_step rfl (fun K hK => ?_)
      go_simp
      refine hK _ _ ?_
      exact ⟨_, _, _, _, _, _, _, _, _, _, _, _, _, _, _, _, _, _, _, _, _, _, _, _, _, _, _, _, _, _, _, _, _, _, _, _, _, _, _, _, _, _, _, _, rfl, lku F0, lku F1, lku F2, lku F3, lku F4, lku F5, lku F6, lku F7, lku F8, lku F9, lku F10, lku F11, lku F12, lku F13, lku F14, lku F15, lku F16, lku F17, lku F18, lku F19, lku F20, lku F21, lku F22, lku F23, lku F24, lku F25, lku F26, lku F27, lku F28, lku F29, lku F30, lku F31, lku F32, lku F33, lku F34, lku F35, lku F36, fun _ => rfl, lku F38, lku F39, lku F40, lku F41, lku F42, lku F43, F44, F45, F46, F47, F48, F49, F50, F51⟩
    · simp only [List.getElem?_toArray, List.getElem?_cons_zero, List.getElem?_cons_succ, Option.some.injEq] at ho
      subst ho
      obtain rfl := F37 (hd ⟨37, .data⟩ (by simp) rfl)
      obtain rfl := F34 (hd ⟨34, .guard⟩ (by simp) rfl)
      have h0 := F45; have h1 := F46; have h2 := F47; have h3 := F48; have h4 := F49; have h5 := F50; have h6 := F51
      refine wpOp_step rfl (fun K hK => ?_)
      go_simp
      refine hK _ _ ?_
      exact ⟨_, _, _, _, _, _, _, _, _, _, _, _, _, _, _, _, _, _, _, _, _, _, _, _, _, _, _, _, _, _, _, _, _, _, _, _, _, _, _, _, _, _, _, _, rfl, lku F0, lku F1, lku F2, lku F3, lku F4, lku F5, lku F6, lku F7, lku F8, lku F9, lku F10, lku F11, lku F12, lku F13, lku F14, lku F15, lku F16, lku F17, lku F18, lku F19, lku F20, lku F21, lku F22, lku F23, lku F24, lku F25, lku F26, lku F27, lku F28, lku F29, lku F30, lku F31, lku F32, lku F33, lku F34, lku F35, lku F36, lku F37, fun _ => rfl, lku F39, lku F40, lku F41, lku F42, lku F43, F44, F45, F46, F47, F48, F49, F50, F51⟩
    · simp only [List.getElem?_toArray, List.getElem?_cons_zero, List.getElem?_cons_succ, Option.some.injEq] at ho
      subst ho
      obtain rfl := F34 (hd ⟨34, .guard⟩ (by simp) rfl)
      refine wpOp_step rfl (fun K hK => ?_)
      go_simp
      refine hK _ _ ?_
      exact ⟨_, _, _, _, _, _, _, _, _, _, _, _, _, _, _, _, _, _, _, _, _, _, _, _, _, _, _, _, _, _, _, _, _, _, _, _, _, _, _, _, _, _, _, _, rfl, lku F0, lku F1, lku F2, lku F3, lku F4, lku F5, lku F6, lku F7, lku F8, lku F9, lku F10, lku F11, lku F12, lku F13, lku F14, lku F15, lku F16, lku F17, lku F18, lku F19, lku F20, lku F21, lku F22, lku F23, lku F24, lku F25, lku F26, lku F27, lku F28, lku F29, lku F30, lku F31, lku F32, lku F33, lku F34, lku F35, lku F36, lku F37, lku F38, fun _ => rfl, lku F40, lku F41, lku F42, lku F43, F44, F45, F46, F47, F48, F49, F50, F51⟩
    · simp only [List.getElem?_toArray, List.getElem?_cons_zero, List.getElem?_cons_succ, Option.some.injEq] at ho
      subst ho
      obtain rfl := F39 (hd ⟨39, .data⟩ (by simp) rfl)
      obtain rfl := F34 (hd ⟨34, .guard⟩ (by simp) rfl)
      have h0 := F45; have h1 := F46; have h2 := F47; have h3 := F48; have h4 := F49; have h5 := F50; have h6 := F51
      refine wpOp_step rfl (fun K hK => ?_)
      go_simp
      refine hK _ _ ?_
      exact ⟨_, _, _, _, _, _, _, _, _, _, _, _, _, _, _, _, _, _, _, _, _, _, _, _, _, _, _, _, _, _, _, _, _, _, _, _, _, _, _, _, _, _, _, _, rfl, lku F0, lku F1, lku F2, lku F3, lku F4, lku F5, lku F6, lku F7, lku F8, lku F9, lku F10, lku F11, lku F12, lku F13, lku F14, lku F15, lku F16, lku F17, lku F18, lku F19, lku F20, lku F21, lku F22, lku F23, lku F24, lku F25, lku F26, lku F27, lku F28, lku F29, lku F30, lku F31, lku F32, lku F33, lku F34, lku F35, lku F36, lku F37, lku F38, lku F39, fun _ => rfl, lku F41, lku F42, lku F43, F44, F45, F46, F47, F48, F49, F50, F51⟩
    · simp only [List.getElem?_toArray, List.getElem?_cons_zero, List.getElem?_cons_succ, Option.some.injEq] at ho
      subst ho
      obtain rfl := F38 (hd ⟨38, .data⟩ (by simp) rfl)
      obtain rfl := F40 (hd ⟨40, .data⟩ (by simp) rfl)
      obtain rfl := F34 (hd ⟨34, .guard⟩ (by simp) rfl)
      refine wpOp_step rfl (fun K hK => ?_)
      go_simp
      refine hK _ _ ?_
      exact ⟨_, _, _, _, _, _, _, _, _, _, _, _, _, _, _, _, _, _, _, _, _, _, _, _, _, _, _, _, _, _, _, _, _, _, _, _, _, _, _, _, _, _, _, _, rfl, lku F0, lku F1, lku F2, lku F3, lku F4, lku F5, lku F6, lku F7, lku F8, lku F9, lku F10, lku F11, lku F12, lku F13, lku F14, lku F15, lku F16, lku F17, lku F18, lku F19, lku F20, lku F21, lku F22, lku F23, lku F24, lku F25, lku F26, lku F27, lku F28, lku F29, lku F30, lku F31, lku F32, lku F33, lku F34, lku F35, lku F36, lku F37, lku F38, lku F39, lku F40, fun _ => rfl, lku F42, lku F43, F44, F45, F46, F47, F48, F49, F50, F51⟩
    · simp only [List.getElem?_toArray, List.getElem?_cons_zero, List.getElem?_cons_succ, Option.some.injEq] at ho
      subst ho
      obtain rfl := F36 (hd ⟨36, .data⟩ (by simp) rfl)
      obtain rfl := F41 (hd ⟨41, .data⟩ (by simp) rfl)
      obtain rfl := F34 (hd ⟨34, .guard⟩ (by simp) rfl)
      refine wpOp_step rfl (fun K hK => ?_)
      go_simp
      refine hK _ _ ?_
      exact ⟨_, _, _, _, _, _, _, _, _, _, _, _, _, _, _, _, _, _, _, _, _, _, _, _, _, _, _, _, _, _, _, _, _, _, _, _, _, _, _, _, _, _, _, _, rfl, lku F0, lku F1, lku F2, lku F3, lku F4, lku F5, lku F6, lku F7, lku F8, lku F9, lku F10, lku F11, lku F12, lku F13, lku F14, lku F15, lku F16, lku F17, lku F18, lku F19, lku F20, lku F21, lku F22, lku F23, lku F24, lku F25, lku F26, lku F27, lku F28, lku F29, lku F30, lku F31, lku F32, lku F33, lku F34, lku F35, lku F36, lku F37, lku F38, lku F39, lku F40, lku F41, fun _ => rfl, lku F43, F44, F45, F46, F47, F48, F49, F50, F51⟩
    · simp only [List.getElem?_toArray, List.getElem?_cons_zero, List.getElem?_cons_succ, Option.some.injEq] at ho
      subst ho
      obtain rfl := F34 (hd ⟨34, .data⟩ (by simp) rfl)
      obtain rfl := F42 (hd ⟨42, .data⟩ (by simp) rfl)
      refine wpOp_step rfl (fun K hK => ?_)
      go_simp
      refine hK _ _ ?_
      exact ⟨_, _, _, _, _, _, _, _, _, _, _, _, _, _, _, _, _, _, _, _, _, _, _, _, _, _, _, _, _, _, _, _, _, _, _, _, _, _, _, _, _, _, _, _, rfl, lku F0, lku F1, lku F2, lku F3, lku F4, lku F5, lku F6, lku F7, lku F8, lku F9, lku F10, lku F11, lku F12, lku F13, lku F14, lku F15, lku F16, lku F17, lku F18, lku F19, lku F20, lku F21, lku F22, lku F23, lku F24, lku F25, lku F26, lku F27, lku F28, lku F29, lku F30, lku F31, lku F32, lku F33, lku F34, lku F35, lku F36, lku F37, lku F38, lku F39, lku F40, lku F41, lku F42, fun _ => rfl, F44, F45, F46, F47, F48, F49, F50, F51⟩
  · intro listed A w hall hI
    unfold Lr9I at hI
    obtain ⟨s42, hI⟩ := hI
    obtain ⟨s43, hI⟩ := hI
    obtain ⟨s44, hI⟩ := hI
    obtain ⟨s45, hI⟩ := hI
    obtain ⟨s46, hI⟩ := hI
    obtain ⟨s47, hI⟩ := hI
    obtain ⟨s48, hI⟩ := hI
    obtain ⟨s49, hI⟩ := hI
    obtain ⟨s50, hI⟩ := hI
    obtain ⟨s51, hI⟩ := hI
    obtain ⟨s52, hI⟩ := hI
    obtain ⟨s53, hI⟩ := hI
    obtain ⟨s54, hI⟩ := hI
    obtain ⟨s55, hI⟩ := hI
    obtain ⟨s56, hI⟩ := hI
    obtain ⟨s57, hI⟩ := hI
    obtain ⟨s58, hI⟩ := hI
    obtain ⟨s59, hI⟩ := hI
    obtain ⟨s60, hI⟩ := hI
    obtain ⟨s61, hI⟩ := hI
    obtain ⟨s62, hI⟩ := hI
    obtain ⟨s63, hI⟩ := hI
    obtain ⟨s64, hI⟩ := hI
    obtain ⟨s65, hI⟩ := hI
    obtain ⟨s66, hI⟩ := hI
    obtain ⟨s67, hI⟩ := hI
    obtain ⟨s68, hI⟩ := hI
    obtain ⟨s69, hI⟩ := hI
    obtain ⟨s70, hI⟩ := hI
    obtain ⟨s71, hI⟩ := hI
    obtain ⟨s72, hI⟩ := hI
    obtain ⟨s73, hI⟩ := hI
    obtain ⟨s74, hI⟩ := hI
    obtain ⟨s75, hI⟩ := hI
    obtain ⟨s76, hI⟩ := hI
    obtain ⟨s77, hI⟩ := hI
    obtain ⟨s78, hI⟩ := hI
    obtain ⟨s79, hI⟩ := hI
    obtain ⟨s80, hI⟩ := hI
    obtain ⟨s81, hI⟩ := hI
    obtain ⟨s82, hI⟩ := hI
    obtain ⟨s83, hI⟩ := hI
    obtain ⟨s84, hI⟩ := hI
    obtain ⟨s85, hI⟩ := hI
    obtain ⟨rfl, hI⟩ := hI
    obtain ⟨F0, hI⟩ := hI
    obtain ⟨F1, hI⟩ := hI
    obtain ⟨F2, hI⟩ := hI
    obtain ⟨F3, hI⟩ := hI
    obtain ⟨F4, hI⟩ := hI
    obtain ⟨F5, hI⟩ := hI
    obtain ⟨F6, hI⟩ := hI
    obtain ⟨F7, hI⟩ := hI
    obtain ⟨F8, hI⟩ := hI
    obtain ⟨F9, hI⟩ := hI
    obtain ⟨F10, hI⟩ := hI
    obtain ⟨F11, hI⟩ := hI
    obtain ⟨F12, hI⟩ := hI
    obtain ⟨F13, hI⟩ := hI
    obtain ⟨F14, hI⟩ := hI
    obtain ⟨F15, hI⟩ := hI
    obtain ⟨F16, hI⟩ := hI
    obtain ⟨F17, hI⟩ := hI
    obtain ⟨F18, hI⟩ := hI
    obtain ⟨F19, hI⟩ := hI
    obtain ⟨F20, hI⟩ := hI
    obtain ⟨F21, hI⟩ := hI
    obtain ⟨F22, hI⟩ := hI
    obtain ⟨F23, hI⟩ := hI
    obtain ⟨F24, hI⟩ := hI
    obtain ⟨F25, hI⟩ := hI
    obtain ⟨F26, hI⟩ := hI
    obtain ⟨F27, hI⟩ := hI
    obtain ⟨F28, hI⟩ := hI
    obtain ⟨F29, hI⟩ := hI
    obtain ⟨F30, hI⟩ := hI
    obtain ⟨F31, hI⟩ := hI
    obtain ⟨F32, hI⟩ := hI
    obtain ⟨F33, hI⟩ := hI
    obtain ⟨F34, hI⟩ := hI
    obtain ⟨F35, hI⟩ := hI
    obtain ⟨F36, hI⟩ := hI
    obtain ⟨F37, hI⟩ := hI
    obtain ⟨F38, hI⟩ := hI
    obtain ⟨F39, hI⟩ := hI
    obtain ⟨F40, hI⟩ := hI
    obtain ⟨F41, hI⟩ := hI
    obtain ⟨F42, hI⟩ := hI
    obtain ⟨F43, hI⟩ := hI
    obtain ⟨F44, hI⟩ := hI
    obtain ⟨F45, hI⟩ := hI
    obtain ⟨F46, hI⟩ := hI
    obtain ⟨F47, hI⟩ := hI
    obtain ⟨F48, hI⟩ := hI
    obtain ⟨F49, hI⟩ := hI
    obtain ⟨F50, hI⟩ := hI
    have F51 := hI; clear hI
    obtain rfl := F0 (hall 0 (by decide))
    obtain rfl := F1 (hall 1 (by decide))
    obtain rfl := F2 (hall 2 (by decide))
    obtain rfl := F3 (hall 3 (by decide))
    obtain rfl := F4 (hall 4 (by decide))
    obtain rfl := F5 (hall 5 (by decide))
    obtain rfl := F6 (hall 6 (by decide))
    obtain rfl := F7 (hall 7 (by decide))
    obtain rfl := F8 (hall 8 (by decide))
    obtain rfl := F9 (hall 9 (by decide))
    obtain rfl := F10 (hall 10 (by decide))
    obtain rfl := F11 (hall 11 (by decide))
    obtain rfl := F12 (hall 12 (by decide))
    obtain rfl := F13 (hall 13 (by decide))
    obtain rfl := F14 (hall 14 (by decide))
    obtain rfl := F15 (hall 15 (by decide))
    obtain rfl := F16 (hall 16 (by decide))
    obtain rfl := F17 (hall 17 (by decide))
    obtain rfl := F18 (hall 18 (by decide))
    obtain rfl := F19 (hall 19 (by decide))
    obtain rfl := F20 (hall 20 (by decide))
    obtain rfl := F21 (hall 21 (by decide))
    obtain rfl := F22 (hall 22 (by decide))
    obtain rfl := F23 (hall 23 (by decide))
    obtain rfl := F24 (hall 24 (by decide))
    obtain rfl := F25 (hall 25 (by decide))
    obtain rfl := F26 (hall 26 (by decide))
    obtain rfl := F27 (hall 27 (by decide))
    obtain rfl := F28 (hall 28 (by decide))
    obtain rfl := F29 (hall 29 (by decide))
    obtain rfl := F30 (hall 30 (by decide))
    obtain rfl := F31 (hall 31 (by decide))
    obtain rfl := F32 (hall 32 (by decide))
    obtain rfl := F33 (hall 33 (by decide))
    obtain rfl := F34 (hall 34 (by decide))
    obtain rfl := F35 (hall 35 (by decide))
    obtain rfl := F36 (hall 36 (by decide))
    obtain rfl := F37 (hall 37 (by decide))
    obtain rfl := F38 (hall 38 (by decide))
    obtain rfl := F39 (hall 39 (by decide))
    obtain rfl := F40 (hall 40 (by decide))
    obtain rfl := F41 (hall 41 (by decide))
    obtain rfl := F42 (hall 42 (by decide))
    obtain rfl := F43 (hall 43 (by decide))
    have HB := F44
    have Q0 := F45
    have Q1 := F46
    have Q2 := F47
    have Q3 := F48
    have Q4 := F49
    have Q5 := F50
    have Q6 := F51
    exact hQ _ ⟨Q0, Q1, Q2, Q3, Q4, Q5, Q6⟩ HB
def Lr11I (w0 : World) (k n c : Int) (s : ByteArray) (b : Bool) (u : List UInt8) (ga gw : Nat) (c0 c3 c5 c6 c7 c8 c9 c10 c11 c12 c13 c14 c15 c16 c17 c18 c19 c20 c21 c22 c23 c24 c25 c26 c27 c28 c29 c30 c31 c32 c33 c34 c35 c36 c37 c38 c39 c40 c41 c42 c43 c44 c45 c46 c47 c48 c49 c50 c51 c52 c53 c54 c55 c56 c57 c58 c59 c60 c61 c62 c63 c64 c65 c66 c67 c68 c69 c70 c71 c72 c73 c74 c75 c76 c77 c78 c79 c80 c81 c82 c83 c84 c85 : Value) (listed : Array Bool) (A : Act) (w : World) : Prop := ∃ (s2 s86 s87 s88 s89 s90 s91 s92 s93 s94 s95 s96 : Value), A = { tmps := #[c0, .pointer (some ⟨ga, 0, none⟩), s2, c3, .pointer (some ⟨gw, 0, none⟩), c5, c6, c7, c8, c9, c10, c11, c12, c13, c14, c15, c16, c17, c18, c19, c20, c21, c22, c23, c24, c25, c26, c27, c28, c29, c30, c31, c32, c33, c34, c35, c36, c37, c38, c39, c40, c41, c42, c43, c44, c45, c46, c47, c48, c49, c50, c51, c52, c53, c54, c55, c56, c57, c58, c59, c60, c61, c62, c63, c64, c65, c66, c67, c68, c69, c70, c71, c72, c73, c74, c75, c76, c77, c78, c79, c80, c81, c82, c83, c84, c85, s86, s87, s88, s89, s90, s91, s92, s93, s94, s95, s96], defers := [] } ∧
  (listed.getD 0 false = true → s86 = .agg #[.int .i64 k, .int .i64 n, .int .i64 c, .string s, .bool b]) ∧
  (listed.getD 1 false = true → s87 = .string (ba' u)) ∧
  (listed.getD 2 false = true → s88 = .agg #[.int .i64 k, .int .i64 n, .int .i64 c, .string s, .bool b]) ∧
  (listed.getD 3 false = true → s89 = .string (ba' u)) ∧
  (listed.getD 4 false = true → s90 = .bool true) ∧
  (listed.getD 5 false = true → s91 = .bool true) ∧
  (listed.getD 6 false = true → s92 = .agg #[.int .i64 k, .int .i64 n, .int .i64 c, .string s, .bool b]) ∧
  (listed.getD 7 false = true → s93 = .agg #[.int .i64 n, .int .i64 c]) ∧
  (listed.getD 8 false = true → s94 = .agg #[.int .i64 n, .int .i64 c]) ∧
  (listed.getD 9 false = true → s95 = .bool true) ∧
  (listed.getD 10 false = true → s96 = .bool true) ∧
  (listed.getD 11 false = true → s2 = .bool true) ∧
  Below w0.heap.size w0 w ∧
  w.cell? ⟨ga, 0, none⟩ = some (.int .i64 k) ∧
  w.cell? ⟨ga, 1, none⟩ = some (.int .i64 n) ∧
  w.cell? ⟨ga, 2, none⟩ = some (.int .i64 c) ∧
  w.cell? ⟨ga, 3, none⟩ = some (.string s) ∧
  w.cell? ⟨ga, 4, none⟩ = some (.bool b) ∧
  w.cell? ⟨gw, 0, none⟩ = some (.int .i64 n) ∧
  w.cell? ⟨gw, 1, none⟩ = some (.int .i64 c)
set_option maxRecDepth 100000 in
set_option maxHeartbeats 16000000 in
theorem Lr11_region (k n c : Int) (s : ByteArray) (b : Bool) (u : List UInt8) (ga gw : Nat) (x2 x86 x87 x88 x89 x90 x91 x92 x93 x94 x95 x96 : Value) (c0 c3 c5 c6 c7 c8 c9 c10 c11 c12 c13 c14 c15 c16 c17 c18 c19 c20 c21 c22 c23 c24 c25 c26 c27 c28 c29 c30 c31 c32 c33 c34 c35 c36 c37 c38 c39 c40 c41 c42 c43 c44 c45 c46 c47 c48 c49 c50 c51 c52 c53 c54 c55 c56 c57 c58 c59 c60 c61 c62 c63 c64 c65 c66 c67 c68 c69 c70 c71 c72 c73 c74 c75 c76 c77 c78 c79 c80 c81 c82 c83 c84 c85 : Value) (w0 W : World) (Q : Exit → Act → World → Prop) (hb0 : Below w0.heap.size w0 W) (C0 : W.cell? ⟨ga, 0, none⟩ = some (.int .i64 k)) (C1 : W.cell? ⟨ga, 1, none⟩ = some (.int .i64 n)) (C2 : W.cell? ⟨ga, 2, none⟩ = some (.int .i64 c)) (C3 : W.cell? ⟨ga, 3, none⟩ = some (.string s)) (C4 : W.cell? ⟨ga, 4, none⟩ = some (.bool b)) (C5 : W.cell? ⟨gw, 0, none⟩ = some (.int .i64 n)) (C6 : W.cell? ⟨gw, 1, none⟩ = some (.int .i64 c)) (HT : Hid (TT w0)) (HS : Hid (GT 21 #[.agg #[.int .i64 k, .int .i64 n, .int .i64 c, .string s, .bool b]] (.string (ba' u)))) (HX : Hid (Gives 22 #[.agg #[.int .i64 k, .int .i64 n, .int .i64 c, .string s, .bool b]] (.string (ba' u)))) (HN : Hid (Gives 23 #[.agg #[.int .i64 k, .int .i64 n, .int .i64 c, .string s, .bool b]] (.agg #[.int .i64 n, .int .i64 c])))
    (hQ : ∀ (w : World) , (True) → Below w0.heap.size w0 w → Q .normal { tmps := #[c0, .pointer (some ⟨ga, 0, none⟩), .bool true, c3, .pointer (some ⟨gw, 0, none⟩), c5, c6, c7, c8, c9, c10, c11, c12, c13, c14, c15, c16, c17, c18, c19, c20, c21, c22, c23, c24, c25, c26, c27, c28, c29, c30, c31, c32, c33, c34, c35, c36, c37, c38, c39, c40, c41, c42, c43, c44, c45, c46, c47, c48, c49, c50, c51, c52, c53, c54, c55, c56, c57, c58, c59, c60, c61, c62, c63, c64, c65, c66, c67, c68, c69, c70, c71, c72, c73, c74, c75, c76, c77, c78, c79, c80, c81, c82, c83, c84, c85, .agg #[.int .i64 k, .int .i64 n, .int .i64 c, .string s, .bool b], .string (ba' u), .agg #[.int .i64 k, .int .i64 n, .int .i64 c, .string s, .bool b], .string (ba' u), .bool true, .bool true, .agg #[.int .i64 k, .int .i64 n, .int .i64 c, .string s, .bool b], .agg #[.int .i64 n, .int .i64 c], .agg #[.int .i64 n, .int .i64 c], .bool true, .bool true], defers := [] } w) :
    Code.wp Tryz.prog ((Tryz.f3.body.bind (regionOf 11)).getD .skip) Q { tmps := #[c0, .pointer (some ⟨ga, 0, none⟩), x2, c3, .pointer (some ⟨gw, 0, none⟩), c5, c6, c7, c8, c9, c10, c11, c12, c13, c14, c15, c16, c17, c18, c19, c20, c21, c22, c23, c24, c25, c26, c27, c28, c29, c30, c31, c32, c33, c34, c35, c36, c37, c38, c39, c40, c41, c42, c43, c44, c45, c46, c47, c48, c49, c50, c51, c52, c53, c54, c55, c56, c57, c58, c59, c60, c61, c62, c63, c64, c65, c66, c67, c68, c69, c70, c71, c72, c73, c74, c75, c76, c77, c78, c79, c80, c81, c82, c83, c84, c85, x86, x87, x88, x89, x90, x91, x92, x93, x94, x95, x96], defers := [] } W := by
  conv => arg 2; whnf
  refine wp_region_inv (by kernel_rfl) (by kernel_rfl) (Lr11I w0 k n c s b u ga gw c0 c3 c5 c6 c7 c8 c9 c10 c11 c12 c13 c14 c15 c16 c17 c18 c19 c20 c21 c22 c23 c24 c25 c26 c27 c28 c29 c30 c31 c32 c33 c34 c35 c36 c37 c38 c39 c40 c41 c42 c43 c44 c45 c46 c47 c48 c49 c50 c51 c52 c53 c54 c55 c56 c57 c58 c59 c60 c61 c62 c63 c64 c65 c66 c67 c68 c69 c70 c71 c72 c73 c74 c75 c76 c77 c78 c79 c80 c81 c82 c83 c84 c85) ?_ ?_ ?_
  · exact ⟨_, _, _, _, _, _, _, _, _, _, _, _, rfl, fun h => absurd h l0, fun h => absurd h l0, fun h => absurd h l0, fun h => absurd h l0, fun h => absurd h l0, fun h => absurd h l0, fun h => absurd h l0, fun h => absurd h l0, fun h => absurd h l0, fun h => absurd h l0, fun h => absurd h l0, fun h => absurd h l0, bdr hb0, C0, C1, C2, C3, C4, C5, C6⟩
  · intro i o listed A w hi ho hd hn hI
    unfold Lr11I at hI
    obtain ⟨s2, hI⟩ := hI
    obtain ⟨s86, hI⟩ := hI
    obtain ⟨s87, hI⟩ := hI
    obtain ⟨s88, hI⟩ := hI
    obtain ⟨s89, hI⟩ := hI
    obtain ⟨s90, hI⟩ := hI
    obtain ⟨s91, hI⟩ := hI
    obtain ⟨s92, hI⟩ := hI
    obtain ⟨s93, hI⟩ := hI
    obtain ⟨s94, hI⟩ := hI
    obtain ⟨s95, hI⟩ := hI
    obtain ⟨s96, hI⟩ := hI
    obtain ⟨rfl, hI⟩ := hI
    obtain ⟨F0, hI⟩ := hI
    obtain ⟨F1, hI⟩ := hI
    obtain ⟨F2, hI⟩ := hI
    obtain ⟨F3, hI⟩ := hI
    obtain ⟨F4, hI⟩ := hI
    obtain ⟨F5, hI⟩ := hI
    obtain ⟨F6, hI⟩ := hI
    obtain ⟨F7, hI⟩ := hI
    obtain ⟨F8, hI⟩ := hI
    obtain ⟨F9, hI⟩ := hI
    obtain ⟨F10, hI⟩ := hI
    obtain ⟨F11, hI⟩ := hI
    obtain ⟨F12, hI⟩ := hI
    obtain ⟨F13, hI⟩ := hI
    obtain ⟨F14, hI⟩ := hI
    obtain ⟨F15, hI⟩ := hI
    obtain ⟨F16, hI⟩ := hI
    obtain ⟨F17, hI⟩ := hI
    obtain ⟨F18, hI⟩ := hI
    have F19 := hI; clear hI
    have hi' : i < 12 := hi
    clear hi
    rcases (by omega : i = 0 ∨ i = 1 ∨ i = 2 ∨ i = 3 ∨ i = 4 ∨ i = 5 ∨ i = 6 ∨ i = 7 ∨ i = 8 ∨ i = 9 ∨ i = 10 ∨ i = 11) with rfl | rfl | rfl | rfl | rfl | rfl | rfl | rfl | rfl | rfl | rfl | rfl
    · simp only [List.getElem?_toArray, List.getElem?_cons_zero, Option.some.injEq] at ho
      subst ho
      have h0 := F13; have h1 := F14; have h2 := F15; have h3 := F16; have h4 := F17; have h5 := F18; have h6 := F19
      refine wpOp_step rfl (fun K hK => ?_)
      go_simp
      refine hK _ _ ?_
      exact ⟨_, _, _, _, _, _, _, _, _, _, _, _, rfl, fun _ => rfl, lku F1, lku F2, lku F3, lku F4, lku F5, lku F6, lku F7, lku F8, lku F9, lku F10, lku F11, F12, F13, F14, F15, F16, F17, F18, F19⟩
    · simp only [List.getElem?_toArray, List.getElem?_cons_zero, List.getElem?_cons_succ, Option.some.injEq] at ho
      subst ho
      obtain rfl := F0 (hd ⟨0, .data⟩ (by simp) rfl)
      refine wpOp_step rfl (fun K hK => ?_)
      go_simp
      go_at_call 21
      refine (HS.out.call HT.out F12).mono ?_
      rintro e w' ⟨rfl, hb⟩
      refine hK _ _ ?_
      exact ⟨_, _, _, _, _, _, _, _, _, _, _, _, rfl, lku F0, fun _ => rfl, lku F2, lku F3, lku F4, lku F5, lku F6, lku F7, lku F8, lku F9, lku F10, lku F11, bt F12 hb, cell_callu F13 hb, cell_callu F14 hb, cell_callu F15 hb, cell_callu F16 hb, cell_callu F17 hb, cell_callu F18 hb, cell_callu F19 hb⟩
    · simp only [List.getElem?_toArray, List.getElem?_cons_zero, List.getElem?_cons_succ, Option.some.injEq] at ho
      subst ho
      have h0 := F13; have h1 := F14; have h2 := F15; have h3 := F16; have h4 := F17; have h5 := F18; have h6 := F19
      refine wpOp_step rfl (fun K hK => ?_)
      go_simp
      refine hK _ _ ?_
      exact ⟨_, _, _, _, _, _, _, _, _, _, _, _, rfl, lku F0, lku F1, fun _ => rfl, lku F3, lku F4, lku F5, lku F6, lku F7, lku F8, lku F9, lku F10, lku F11, F12, F13, F14, F15, F16, F17, F18, F19⟩
    · simp only [List.getElem?_toArray, List.getElem?_cons_zero, List.getElem?_cons_succ, Option.some.injEq] at ho
      subst ho
      obtain rfl := F2 (hd ⟨2, .data⟩ (by simp) rfl)
      refine wpOp_step rfl (fun K hK => ?_)
      go_simp
      go_at_call 22
      refine (HX.out.call w).mono ?_
      rintro e w' ⟨rfl, hb⟩
      refine hK _ _ ?_
      exact ⟨_, _, _, _, _, _, _, _, _, _, _, _, rfl, lku F0, lku F1, lku F2, fun _ => rfl, lku F4, lku F5, lku F6, lku F7, lku F8, lku F9, lku F10, lku F11, bt F12 hb, cell_callu F13 hb, cell_callu F14 hb, cell_callu F15 hb, cell_callu F16 hb, cell_callu F17 hb, cell_callu F18 hb, cell_callu F19 hb⟩
    · simp only [List.getElem?_toArray, List.getElem?_cons_zero, List.getElem?_cons_succ, Option.some.injEq] at ho
      subst ho
      obtain rfl := F1 (hd ⟨1, .data⟩ (by simp) rfl)
      obtain rfl := F3 (hd ⟨3, .data⟩ (by simp) rfl)
      refine wpOp_step rfl (fun K hK => ?_)
      go_simp
      refine hK _ _ ?_
      exact ⟨_, _, _, _, _, _, _, _, _, _, _, _, rfl, lku F0, lku F1, lku F2, lku F3, fun _ => rfl, lku F5, lku F6, lku F7, lku F8, lku F9, lku F10, lku F11, F12, F13, F14, F15, F16, F17, F18, F19⟩
    · simp only [List.getElem?_toArray, List.getElem?_cons_zero, List.getElem?_cons_succ, Option.some.injEq] at ho
      subst ho
      obtain rfl := F4 (hd ⟨4, .data⟩ (by simp) rfl)
      refine wpOp_step rfl (fun K hK => ?_)
      go_simp
      refine hK _ _ ?_
      exact ⟨_, _, _, _, _, _, _, _, _, _, _, _, rfl, lku F0, lku F1, lku F2, lku F3, lku F4, fun _ => rfl, lku F6, lku F7, lku F8, lku F9, lku F10, lku F11, F12, F13, F14, F15, F16, F17, F18, F19⟩
    · simp only [List.getElem?_toArray, List.getElem?_cons_zero, List.getElem?_cons_succ, Option.some.injEq] at ho
      subst ho
      obtain rfl := F5 (hd ⟨5, .guard⟩ (by simp) rfl)
      have h0 := F13; have h1 := F14; have h2 := F15; have h3 := F16; have h4 := F17; have h5 := F18; have h6 := F19
      refine wpOp_step rfl (fun K hK => ?_)
      go_simp
      refine hK _ _ ?_
      exact ⟨_, _, _, _, _, _, _, _, _, _, _, _, rfl, lku F0, lku F1, lku F2, lku F3, lku F4, lku F5, fun _ => rfl, lku F7, lku F8, lku F9, lku F10, lku F11, F12, F13, F14, F15, F16, F17, F18, F19⟩
    · simp only [List.getElem?_toArray, List.getElem?_cons_zero, List.getElem?_cons_succ, Option.some.injEq] at ho
      subst ho
      obtain rfl := F6 (hd ⟨6, .data⟩ (by simp) rfl)
      obtain rfl := F5 (hd ⟨5, .guard⟩ (by simp) rfl)
      refine wpOp_step rfl (fun K hK => ?_)
      go_simp
      go_at_call 23
      refine (HN.out.call w).mono ?_
      rintro e w' ⟨rfl, hb⟩
      refine hK _ _ ?_
      exact ⟨_, _, _, _, _, _, _, _, _, _, _, _, rfl, lku F0, lku F1, lku F2, lku F3, lku F4, lku F5, lku F6, fun _ => rfl, lku F8, lku F9, lku F10, lku F11, bt F12 hb, cell_callu F13 hb, cell_callu F14 hb, cell_callu F15 hb, cell_callu F16 hb, cell_callu F17 hb, cell_callu F18 hb, cell_callu F19 hb⟩
    · simp only [List.getElem?_toArray, List.getElem?_cons_zero, List.getElem?_cons_succ, Option.some.injEq] at ho
      subst ho
      obtain rfl := F5 (hd ⟨5, .guard⟩ (by simp) rfl)
      have h0 := F13; have h1 := F14; have h2 := F15; have h3 := F16; have h4 := F17; have h5 := F18; have h6 := F19
      refine wpOp_step rfl (fun K hK => ?_)
      go_simp
      refine hK _ _ ?_
      exact ⟨_, _, _, _, _, _, _, _, _, _, _, _, rfl, lku F0, lku F1, lku F2, lku F3, lku F4, lku F5, lku F6, lku F7, fun _ => rfl, lku F9, lku F10, lku F11, F12, F13, F14, F15, F16, F17, F18, F19⟩
    · simp only [List.getElem?_toArray, List.getElem?_cons_zero, List.getElem?_cons_succ, Option.some.injEq] at ho
      subst ho
      obtain rfl := F7 (hd ⟨7, .data⟩ (by simp) rfl)
      obtain rfl := F8 (hd ⟨8, .data⟩ (by simp) rfl)
      obtain rfl := F5 (hd ⟨5, .guard⟩ (by simp) rfl)
      refine wpOp_step rfl (fun K hK => ?_)
      go_simp
      refine hK _ _ ?_
      exact ⟨_, _, _, _, _, _, _, _, _, _, _, _, rfl, lku F0, lku F1, lku F2, lku F3, lku F4, lku F5, lku F6, lku F7, lku F8, fun _ => rfl, lku F10, lku F11, F12, F13, F14, F15, F16, F17, F18, F19⟩
    · simp only [List.getElem?_toArray, List.getElem?_cons_zero, List.getElem?_cons_succ, Option.some.injEq] at ho
      subst ho
      obtain rfl := F5 (hd ⟨5, .data⟩ (by simp) rfl)
      obtain rfl := F9 (hd ⟨9, .data⟩ (by simp) rfl)
      refine wpOp_step rfl (fun K hK => ?_)
      go_simp
      refine hK _ _ ?_
      exact ⟨_, _, _, _, _, _, _, _, _, _, _, _, rfl, lku F0, lku F1, lku F2, lku F3, lku F4, lku F5, lku F6, lku F7, lku F8, lku F9, fun _ => rfl, lku F11, F12, F13, F14, F15, F16, F17, F18, F19⟩
    · simp only [List.getElem?_toArray, List.getElem?_cons_zero, List.getElem?_cons_succ, Option.some.injEq] at ho
      subst ho
      obtain rfl := F10 (hd ⟨10, .data⟩ (by simp) rfl)
      refine wpOp_step rfl (fun K hK => ?_)
      go_simp
      refine hK _ _ ?_
      exact ⟨_, _, _, _, _, _, _, _, _, _, _, _, rfl, lku F0, lku F1, lku F2, lku F3, lku F4, lku F5, lku F6, lku F7, lku F8, lku F9, lku F10, fun _ => rfl, F12, F13, F14, F15, F16, F17, F18, F19⟩
  · intro listed A w hall hI
    unfold Lr11I at hI
    obtain ⟨s2, hI⟩ := hI
    obtain ⟨s86, hI⟩ := hI
    obtain ⟨s87, hI⟩ := hI
    obtain ⟨s88, hI⟩ := hI
    obtain ⟨s89, hI⟩ := hI
    obtain ⟨s90, hI⟩ := hI
    obtain ⟨s91, hI⟩ := hI
    obtain ⟨s92, hI⟩ := hI
    obtain ⟨s93, hI⟩ := hI
    obtain ⟨s94, hI⟩ := hI
    obtain ⟨s95, hI⟩ := hI
    obtain ⟨s96, hI⟩ := hI
    obtain ⟨rfl, hI⟩ := hI
    obtain ⟨F0, hI⟩ := hI
    obtain ⟨F1, hI⟩ := hI
    obtain ⟨F2, hI⟩ := hI
    obtain ⟨F3, hI⟩ := hI
    obtain ⟨F4, hI⟩ := hI
    obtain ⟨F5, hI⟩ := hI
    obtain ⟨F6, hI⟩ := hI
    obtain ⟨F7, hI⟩ := hI
    obtain ⟨F8, hI⟩ := hI
    obtain ⟨F9, hI⟩ := hI
    obtain ⟨F10, hI⟩ := hI
    obtain ⟨F11, hI⟩ := hI
    obtain ⟨F12, hI⟩ := hI
    obtain ⟨F13, hI⟩ := hI
    obtain ⟨F14, hI⟩ := hI
    obtain ⟨F15, hI⟩ := hI
    obtain ⟨F16, hI⟩ := hI
    obtain ⟨F17, hI⟩ := hI
    obtain ⟨F18, hI⟩ := hI
    have F19 := hI; clear hI
    obtain rfl := F0 (hall 0 (by decide))
    obtain rfl := F1 (hall 1 (by decide))
    obtain rfl := F2 (hall 2 (by decide))
    obtain rfl := F3 (hall 3 (by decide))
    obtain rfl := F4 (hall 4 (by decide))
    obtain rfl := F5 (hall 5 (by decide))
    obtain rfl := F6 (hall 6 (by decide))
    obtain rfl := F7 (hall 7 (by decide))
    obtain rfl := F8 (hall 8 (by decide))
    obtain rfl := F9 (hall 9 (by decide))
    obtain rfl := F10 (hall 10 (by decide))
    obtain rfl := F11 (hall 11 (by decide))
    have HB := F12
    have Q0 := F13
    have Q1 := F14
    have Q2 := F15
    have Q3 := F16
    have Q4 := F17
    have Q5 := F18
    have Q6 := F19
    exact hQ _ trivial HB
end Go.Proofs.YtemgabmafmehnaaGreatDoor
