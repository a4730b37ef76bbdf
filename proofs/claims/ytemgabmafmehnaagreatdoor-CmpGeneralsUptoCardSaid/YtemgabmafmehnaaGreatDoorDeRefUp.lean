/- The reference takes a whole number times a power of ten. No condition beyond what the theorems state. -/
import Derived.Test.YtemgabmafmehnaaGreatDoorDeMath
import Derived.Test.YtemgabmafmehnaaGreatDoorDeRefAdd
namespace Go
open Go.RowKit
section
variable {P : Program} (w : World)
theorem step_append_any {ops : Array Oper} {o : Oper} {a : Act} {K : Act → World → Prop} {Q : Exit → Act → World → Prop} {E : Prop} (hgd : o.guard = none) (s x : Operand) (t : TypeId)
    (ho : o.op = .call { callee := .builtin .append, args := #[s, x], argTypes := #[t, t] })
    (base : Nat) (e : TypeId) (i : TypeInfo) (z : Value) (size bytes : Nat) (ht : P.underlying t = some (.slice e)) (hi : P.info? e = some i) (hz : i.zero = some z)
    (hsize : i.size = size) (hby : i.bytes = bytes) (hzs : z.cells.size = size) (hsz : 0 < size)
    (v : Value) (n : Nat) (xs : List Value) (hs : a.eval s = v) (hown : w.ownsRow base e size v n xs)
    (B : Nat) (A : Option Addr) (m c : Nat) (news : List Value) (hx : a.eval x = .slice A m c) (hr : Reads w B size A m news) (h1 : ∀ u ∈ news, u.oneCell' = true)
    (h63 : n + m ≤ maxLen) (hbytes : (n + m) * bytes ≤ 140737488355328) (hbase : base ≤ w.heap.size)
    (h : ∀ v' w', w'.ownsRow base e size v' (n + m) (xs ++ news) → w.grownBy w' v.ownBlock → (v'.ownBlock = v.ownBlock ∨ v'.ownBlock = some w.heap.size) → K (a.put o.dst v') w') :
    if Region.wanted o (yielded ops a.tmps) = true then Oper.wp P o a w K Q else E := by
  have hw : Region.wanted o (yielded ops a.tmps) = true := by simp [Region.wanted, hgd]
  rw [if_pos hw]
  exact wp_append_any w s x t ho base e i z size bytes ht hi hz hsize hby hzs hsz v n xs hs hown B A m c news hx hr h1 h63 hbytes hbase h
end
end Go
namespace Go.Proofs
open Go.Shelf Go.RowKit Go.Proofs.Wide Go.Proofs.Dig
theorem cellsD_one (l : List Int) : ∀ u ∈ cellsD l, u.oneCell' = true := by
  intro u hu
  obtain ⟨d, _, rfl⟩ := List.mem_map.1 hu
  rfl
theorem reads_of_rd (w : World) {A : Option Addr} {l : List Int} (h : Rd w A l) : ∃ B, Reads w B 1 A l.length (cellsD l) := by
  by_cases hl : l = []
  · subst hl; exact ⟨0, rfl, fun h => absurd h (by simp)⟩
  · obtain ⟨ad, rfl, hc⟩ := h hl
    refine ⟨ad.block + 1, by unfold cellsD; simp, fun _ => ⟨ad, rfl, Nat.lt_succ_self _, fun j u hu => ?_⟩⟩
    unfold cellsD at hu
    rw [List.getElem?_map] at hu
    obtain ⟨d, hd, rfl⟩ := Option.map_eq_some_iff.1 hu
    exact hc j d hd
theorem rdF_app {w : World} {B n : Nat} {v : Value} {l : List Int} (h : w.ownsRow B 3 1 v (n + l.length) (cellsD (List.replicate n 0) ++ cellsD l)) : RdF (List.replicate n 0 ++ l) w v := by
  obtain ⟨A, c, rfl⟩ := own_slice h
  have e : cellsD (List.replicate n 0) ++ cellsD l = cellsD (List.replicate n 0 ++ l) := by unfold cellsD; simp
  rw [e] at h
  have hl : n + l.length = (List.replicate n (0 : Int) ++ l).length := by simp
  obtain ⟨hr, h1, h2⟩ := rd_of_row h hl
  rw [hl] at h1 ⊢
  exact ⟨A, c, rfl, hr, h1, h2⟩
def Up8I (w0 : World) (neg : Bool) (Pa Pz : Option Addr) (l r : List Int) (n c cz : Nat) (c0 c1 c3 c6 c7 c8 c9 c10 c11 c12 c13 c14 c15 c16 c17 c18 c19 : Value) (listed : Array Bool) (A : Act) (w : World) : Prop := ∃ (s20 s21 s22 s23 s24 s25 s26 : Value), A = { tmps := #[c0, c1, .pointer (some ⟨w0.heap.size, 0, none⟩), c3, .pointer (some ⟨w0.heap.size + 1, 0, none⟩), .slice Pz n cz, c6, c7, c8, c9, c10, c11, c12, c13, c14, c15, c16, c17, c18, c19, s20, s21, s22, s23, s24, s25, s26], defers := [] } ∧
  (listed.getD 0 false = true → s20 = .pointer (some ⟨w0.heap.size, 0, none⟩)) ∧
  (listed.getD 1 false = true → s21 = .bool neg) ∧
  (listed.getD 2 false = true → s22 = .slice Pz n cz) ∧
  (listed.getD 3 false = true → s23 = .pointer (some ⟨w0.heap.size, 1, none⟩)) ∧
  (listed.getD 4 false = true → s24 = .slice Pa l.length c) ∧
  (listed.getD 7 false = false → listed.getD 5 false = true → RdF r w s25) ∧
  (listed.getD 7 false = false → listed.getD 6 false = true → OfF neg r w s26) ∧
  (listed.getD 7 false = true → ∃ A9 c9, Own w (w0.heap.size + 1) (.bool neg) (.slice A9 r.length c9) ∧ Rd w A9 r ∧ r.length ≤ c9 ∧ c9 ≤ 9223372036854775807) ∧
  Below w0.heap.size w0 w ∧
  (listed.getD 7 false = false → Own w (w0.heap.size) (.bool neg) (.slice Pa l.length c)) ∧
  (listed.getD 7 false = false → Own w (w0.heap.size + 1) (.bool false) (.slice none 0 0)) ∧
  (listed.getD 7 false = true → listed.getD 0 false = true) ∧
  (listed.getD 7 false = true → listed.getD 1 false = true) ∧
  (listed.getD 7 false = true → listed.getD 2 false = true) ∧
  (listed.getD 7 false = true → listed.getD 3 false = true) ∧
  (listed.getD 7 false = true → listed.getD 4 false = true) ∧
  (listed.getD 7 false = true → listed.getD 5 false = true) ∧
  (listed.getD 7 false = true → listed.getD 6 false = true) ∧
  (listed.getD 5 false = false → w.ownsRow w0.heap.size 3 1 (.slice Pz n cz) n (cellsD (List.replicate n 0))) ∧
  (listed.getD 6 false = true → listed.getD 5 false = true)

set_option maxRecDepth 100000 in
set_option maxHeartbeats 16000000 in
theorem Up8_region (neg : Bool) (Pa Pz : Option Addr) (l r : List Int) (n c cz : Nat) (x20 x21 x22 x23 x24 x25 x26 : Value) (c0 c1 c3 c6 c7 c8 c9 c10 c11 c12 c13 c14 c15 c16 c17 c18 c19 : Value) (w0 W : World) (Q : Exit → Act → World → Prop) (hb0 : Below w0.heap.size w0 W) (Aa : Own W w0.heap.size (.bool neg) (.slice Pa l.length c)) (Ar : Own W (w0.heap.size + 1) (.bool false) (.slice none 0 0)) (HR : Hid (List.replicate n 0 ++ l = r)) (HL : Hid (Rd w0 Pa l)) (hln : l.length ≤ 1000000) (hn6 : n ≤ 1000000) (HZ : W.ownsRow w0.heap.size 3 1 (.slice Pz n cz) n (cellsD (List.replicate n 0))) (HNZ : Hid (∀ g, (.slice Pz n cz : Value).ownBlock = some g → w0.heap.size + 1 < g))
    (hQ : ∀ w y25 y26, (∃ A9 c9, Own w (w0.heap.size + 1) (.bool neg) (.slice A9 r.length c9) ∧ Rd w A9 r ∧ r.length ≤ c9 ∧ c9 ≤ 9223372036854775807) → Below w0.heap.size w0 w → Q .normal { tmps := #[c0, c1, .pointer (some ⟨w0.heap.size, 0, none⟩), c3, .pointer (some ⟨w0.heap.size + 1, 0, none⟩), .slice Pz n cz, c6, c7, c8, c9, c10, c11, c12, c13, c14, c15, c16, c17, c18, c19, .pointer (some ⟨w0.heap.size, 0, none⟩), .bool neg, .slice Pz n cz, .pointer (some ⟨w0.heap.size, 1, none⟩), .slice Pa l.length c, y25, y26], defers := [] } w) :
    Code.wp Tryz.prog ((Tryz.f89.body.bind (regionOf 8)).getD .skip) Q { tmps := #[c0, c1, .pointer (some ⟨w0.heap.size, 0, none⟩), c3, .pointer (some ⟨w0.heap.size + 1, 0, none⟩), .slice Pz n cz, c6, c7, c8, c9, c10, c11, c12, c13, c14, c15, c16, c17, c18, c19, x20, x21, x22, x23, x24, x25, x26], defers := [] } W := by
  conv => arg 2; whnf
  refine wp_region_inv (by kernel_rfl) (by kernel_rfl) (Up8I w0 neg Pa Pz l r n c cz c0 c1 c3 c6 c7 c8 c9 c10 c11 c12 c13 c14 c15 c16 c17 c18 c19) ?_ ?_ ?_
  · exact ⟨_, _, _, _, _, _, _, rfl, fun h => absurd h l0, fun h => absurd h l0, fun h => absurd h l0, fun h => absurd h l0, fun h => absurd h l0, fun _ h => absurd h l0, fun _ h => absurd h l0, fun h => absurd h l0, bdr hb0, fun _ => Aa.drew, fun _ => Ar.drew, fun h => absurd h l0, fun h => absurd h l0, fun h => absurd h l0, fun h => absurd h l0, fun h => absurd h l0, fun h => absurd h l0, fun h => absurd h l0, fun _ => HZ, fun h => absurd h l0⟩
  · intro i o listed A w hi ho hd hn hI
    unfold Up8I at hI
    obtain ⟨s20, hI⟩ := hI
    obtain ⟨s21, hI⟩ := hI
    obtain ⟨s22, hI⟩ := hI
    obtain ⟨s23, hI⟩ := hI
    obtain ⟨s24, hI⟩ := hI
    obtain ⟨s25, hI⟩ := hI
    obtain ⟨s26, hI⟩ := hI
    obtain ⟨rfl, hI⟩ := hI
    obtain ⟨F0, hI⟩ := hI
    obtain ⟨F1, hI⟩ := hI
    obtain ⟨F2, hI⟩ := hI
    obtain ⟨F3, hI⟩ := hI
    obtain ⟨F4, hI⟩ := hI
    obtain ⟨F5, hI⟩ := hI
    obtain ⟨F6, hI⟩ := hI
    obtain ⟨F7, hI⟩ := hI
    obtain ⟨F8, hI⟩ := hI
    obtain ⟨F9, hI⟩ := hI
    obtain ⟨F10, hI⟩ := hI
    obtain ⟨F11, hI⟩ := hI
    obtain ⟨F12, hI⟩ := hI
    obtain ⟨F13, hI⟩ := hI
    obtain ⟨F14, hI⟩ := hI
    obtain ⟨F15, hI⟩ := hI
    obtain ⟨F16, hI⟩ := hI
    obtain ⟨F17, hI⟩ := hI
    obtain ⟨F18, hI⟩ := hI
    have F19 := hI; clear hI
    have hi' : i < 8 := hi
    clear hi
    rcases (by omega : i = 0 ∨ i = 1 ∨ i = 2 ∨ i = 3 ∨ i = 4 ∨ i = 5 ∨ i = 6 ∨ i = 7) with rfl | rfl | rfl | rfl | rfl | rfl | rfl | rfl
    · simp only [List.getElem?_toArray, List.getElem?_cons_zero, Option.some.injEq] at ho
      subst ho
      have hJ := ln hn F11
      refine wpOp_step rfl (fun K hK => ?_)
      go_simp
      refine hK _ _ ?_
      exact ⟨_, _, _, _, _, _, _, rfl, fun _ => rfl, fun h => F1 (ls (by decide) h), fun h => F2 (ls (by decide) h), fun h => F3 (ls (by decide) h), fun h => F4 (ls (by decide) h), fun h0 h => (F5 (lsf (by decide) h0) (ls (by decide) h)), fun h0 h => (F6 (lsf (by decide) h0) (ls (by decide) h)), fun h => lc hn (F11 (ls (by decide) h)), F8, fun h0 => (F9 (lsf (by decide) h0)), fun h0 => (F10 (lsf (by decide) h0)), fun _ => lself hn, fun h => la (F12 (ls (by decide) h)), fun h => la (F13 (ls (by decide) h)), fun h => la (F14 (ls (by decide) h)), fun h => la (F15 (ls (by decide) h)), fun h => la (F16 (ls (by decide) h)), fun h => la (F17 (ls (by decide) h)), fun h0 => F18 (lsf (by decide) h0), fun h => la (F19 (ls (by decide) h))⟩
    · simp only [List.getElem?_toArray, List.getElem?_cons_zero, List.getElem?_cons_succ, Option.some.injEq] at ho
      subst ho
      have hJ := ln hn F12
      obtain rfl := F0 (hd ⟨0, .data⟩ (by simp) rfl)
      have O'0 := F9 hJ; obtain ⟨_, _, _, _⟩ := id O'0
      have O'1 := F10 hJ; obtain ⟨_, _, _, _⟩ := id O'1
      refine wpOp_step rfl (fun K hK => ?_)
      go_simp
      refine hK _ _ ?_
      exact ⟨_, _, _, _, _, _, _, rfl, fun h => F0 (ls (by decide) h), fun _ => rfl, fun h => F2 (ls (by decide) h), fun h => F3 (ls (by decide) h), fun h => F4 (ls (by decide) h), fun h0 h => (F5 (lsf (by decide) h0) (ls (by decide) h)), fun h0 h => (F6 (lsf (by decide) h0) (ls (by decide) h)), fun h => lc hn (F12 (ls (by decide) h)), F8, fun h0 => (F9 (lsf (by decide) h0)), fun h0 => (F10 (lsf (by decide) h0)), fun h => la (F11 (ls (by decide) h)), fun _ => lself hn, fun h => la (F13 (ls (by decide) h)), fun h => la (F14 (ls (by decide) h)), fun h => la (F15 (ls (by decide) h)), fun h => la (F16 (ls (by decide) h)), fun h => la (F17 (ls (by decide) h)), fun h0 => F18 (lsf (by decide) h0), fun h => la (F19 (ls (by decide) h))⟩
    · simp only [List.getElem?_toArray, List.getElem?_cons_zero, List.getElem?_cons_succ, Option.some.injEq] at ho
      subst ho
      have hJ := ln hn F13
      refine wpOp_step rfl (fun K hK => ?_)
      go_simp
      refine hK _ _ ?_
      exact ⟨_, _, _, _, _, _, _, rfl, fun h => F0 (ls (by decide) h), fun h => F1 (ls (by decide) h), fun _ => rfl, fun h => F3 (ls (by decide) h), fun h => F4 (ls (by decide) h), fun h0 h => (F5 (lsf (by decide) h0) (ls (by decide) h)), fun h0 h => (F6 (lsf (by decide) h0) (ls (by decide) h)), fun h => lc hn (F13 (ls (by decide) h)), F8, fun h0 => (F9 (lsf (by decide) h0)), fun h0 => (F10 (lsf (by decide) h0)), fun h => la (F11 (ls (by decide) h)), fun h => la (F12 (ls (by decide) h)), fun _ => lself hn, fun h => la (F14 (ls (by decide) h)), fun h => la (F15 (ls (by decide) h)), fun h => la (F16 (ls (by decide) h)), fun h => la (F17 (ls (by decide) h)), fun h0 => F18 (lsf (by decide) h0), fun h => la (F19 (ls (by decide) h))⟩
    · simp only [List.getElem?_toArray, List.getElem?_cons_zero, List.getElem?_cons_succ, Option.some.injEq] at ho
      subst ho
      have hJ := ln hn F14
      refine wpOp_step rfl (fun K hK => ?_)
      go_simp
      refine hK _ _ ?_
      exact ⟨_, _, _, _, _, _, _, rfl, fun h => F0 (ls (by decide) h), fun h => F1 (ls (by decide) h), fun h => F2 (ls (by decide) h), fun _ => rfl, fun h => F4 (ls (by decide) h), fun h0 h => (F5 (lsf (by decide) h0) (ls (by decide) h)), fun h0 h => (F6 (lsf (by decide) h0) (ls (by decide) h)), fun h => lc hn (F14 (ls (by decide) h)), F8, fun h0 => (F9 (lsf (by decide) h0)), fun h0 => (F10 (lsf (by decide) h0)), fun h => la (F11 (ls (by decide) h)), fun h => la (F12 (ls (by decide) h)), fun h => la (F13 (ls (by decide) h)), fun _ => lself hn, fun h => la (F15 (ls (by decide) h)), fun h => la (F16 (ls (by decide) h)), fun h => la (F17 (ls (by decide) h)), fun h0 => F18 (lsf (by decide) h0), fun h => la (F19 (ls (by decide) h))⟩
    · simp only [List.getElem?_toArray, List.getElem?_cons_zero, List.getElem?_cons_succ, Option.some.injEq] at ho
      subst ho
      have hJ := ln hn F15
      obtain rfl := F3 (hd ⟨3, .data⟩ (by simp) rfl)
      have O'0 := F9 hJ; obtain ⟨_, _, _, _⟩ := id O'0
      have O'1 := F10 hJ; obtain ⟨_, _, _, _⟩ := id O'1
      refine wpOp_step rfl (fun K hK => ?_)
      go_simp
      refine hK _ _ ?_
      exact ⟨_, _, _, _, _, _, _, rfl, fun h => F0 (ls (by decide) h), fun h => F1 (ls (by decide) h), fun h => F2 (ls (by decide) h), fun h => F3 (ls (by decide) h), fun _ => rfl, fun h0 h => (F5 (lsf (by decide) h0) (ls (by decide) h)), fun h0 h => (F6 (lsf (by decide) h0) (ls (by decide) h)), fun h => lc hn (F15 (ls (by decide) h)), F8, fun h0 => (F9 (lsf (by decide) h0)), fun h0 => (F10 (lsf (by decide) h0)), fun h => la (F11 (ls (by decide) h)), fun h => la (F12 (ls (by decide) h)), fun h => la (F13 (ls (by decide) h)), fun h => la (F14 (ls (by decide) h)), fun _ => lself hn, fun h => la (F16 (ls (by decide) h)), fun h => la (F17 (ls (by decide) h)), fun h0 => F18 (lsf (by decide) h0), fun h => la (F19 (ls (by decide) h))⟩
    · simp only [List.getElem?_toArray, List.getElem?_cons_zero, List.getElem?_cons_succ, Option.some.injEq] at ho
      subst ho
      have hJ := ln hn F16
      obtain rfl := F2 (hd ⟨2, .data⟩ (by simp) rfl)
      obtain rfl := F4 (hd ⟨4, .data⟩ (by simp) rfl)
      have O'0 := F9 hJ; obtain ⟨_, _, _, _⟩ := id O'0
      have O'1 := F10 hJ; obtain ⟨_, _, _, _⟩ := id O'1
      have HX := F18 (lf hn)
      obtain ⟨i0, hi0, hz0, hz1, hz2⟩ := info_parts int_info
      refine wpOp_step rfl (fun K hK => ?_)
      obtain ⟨Bx, hRx⟩ := reads_of_rd w (HL.out.call F8)
      refine step_append_any _ rfl (.tmp 22) (.tmp 24) 91 rfl w0.heap.size 3 i0 _ 1 8 Tryz.underlying91 hi0 hz0 hz1 hz2 rfl (by omega) (.slice Pz n cz) n _ rfl HX Bx Pa l.length c (cellsD l) rfl hRx (cellsD_one l) (by unfold maxLen; omega) (by omega) F8.size ?_
      intro v3 w3 hown3 hg hat3
      have hres : RdF r w3 v3 := (by rw [← HR.out]; exact rdF_app hown3)
      have hnz : ∀ g, (.slice Pz n cz : Value).ownBlock = some g → w0.heap.size + 1 < g := HNZ.out
      have hlow : ∀ q, (.slice Pz n cz : Value).ownBlock = some q → w0.heap.size ≤ q := fun q hq => by have := hnz q hq; omega
      refine hK _ _ ?_
      exact ⟨_, _, _, _, _, _, _, rfl, fun h => F0 (ls (by decide) h), fun h => F1 (ls (by decide) h), fun h => F2 (ls (by decide) h), fun h => F3 (ls (by decide) h), fun h => F4 (ls (by decide) h), fun _ _ => hres, fun _ h => lc hn (F19 (ls (by decide) h)), fun h => lc hn (F16 (ls (by decide) h)), (below_far F8 hg hlow), fun h0 => own_grown (F9 (lsf (by decide) h0)) hg (fun e => by have := hnz _ e.symm; omega), fun h0 => own_grown (F10 (lsf (by decide) h0)) hg (fun e => by have := hnz _ e.symm; omega), fun h => la (F11 (ls (by decide) h)), fun h => la (F12 (ls (by decide) h)), fun h => la (F13 (ls (by decide) h)), fun h => la (F14 (ls (by decide) h)), fun h => la (F15 (ls (by decide) h)), fun _ => lself hn, fun h => la (F17 (ls (by decide) h)), fun h => _root_.Go.lx hn h, fun _ => lself hn⟩
    · simp only [List.getElem?_toArray, List.getElem?_cons_zero, List.getElem?_cons_succ, Option.some.injEq] at ho
      subst ho
      have hJ := ln hn F17
      obtain rfl := F1 (hd ⟨1, .data⟩ (by simp) rfl)
      obtain ⟨A9, c9, rfl, hrd, hl9, hc9⟩ := F5 hJ (hd ⟨5, .data⟩ (by simp) rfl)
      refine wpOp_step rfl (fun K hK => ?_)
      go_simp
      refine hK _ _ ?_
      exact ⟨_, _, _, _, _, _, _, rfl, fun h => F0 (ls (by decide) h), fun h => F1 (ls (by decide) h), fun h => F2 (ls (by decide) h), fun h => F3 (ls (by decide) h), fun h => F4 (ls (by decide) h), fun h0 h => (F5 (lsf (by decide) h0) (ls (by decide) h)), fun _ _ => ⟨A9, c9, rfl, hrd, hl9, hc9⟩, fun h => lc hn (F17 (ls (by decide) h)), F8, fun h0 => (F9 (lsf (by decide) h0)), fun h0 => (F10 (lsf (by decide) h0)), fun h => la (F11 (ls (by decide) h)), fun h => la (F12 (ls (by decide) h)), fun h => la (F13 (ls (by decide) h)), fun h => la (F14 (ls (by decide) h)), fun h => la (F15 (ls (by decide) h)), fun h => la (F16 (ls (by decide) h)), fun _ => lself hn, fun h0 => absurd (hd ⟨5, .data⟩ (by simp) rfl) (by rw [lsf (by decide) h0]; simp), fun _ => la (hd ⟨5, .data⟩ (by simp) rfl)⟩
    · simp only [List.getElem?_toArray, List.getElem?_cons_zero, List.getElem?_cons_succ, Option.some.injEq] at ho
      subst ho
      have hJ := lf hn
      obtain ⟨A9, c9, rfl, hrd, hl9, hc9⟩ := F6 hJ (hd ⟨6, .data⟩ (by simp) rfl)
      have O'0 := F9 hJ; obtain ⟨_, _, _, _⟩ := id O'0
      have O'1 := F10 hJ; obtain ⟨_, _, _, _⟩ := id O'1
      have K9 := O'1
      refine wpOp_step rfl (fun K hK => ?_)
      go_simp
      refine hK _ _ ?_
      exact ⟨_, _, _, _, _, _, _, rfl, fun h => F0 (ls (by decide) h), fun h => F1 (ls (by decide) h), fun h => F2 (ls (by decide) h), fun h => F3 (ls (by decide) h), fun h => F4 (ls (by decide) h), fun h => _root_.Go.lx hn h, fun h => _root_.Go.lx hn h, fun _ => ⟨_, _, K9.store _ _, rd_store hrd K9 _ _, hl9, hc9⟩, (bs (bs F8 (by first | (simp; done) | (simp; omega))) (by first | (simp; done) | (simp; omega))), fun h => _root_.Go.lx hn h, fun h => _root_.Go.lx hn h, fun _ => la (hd ⟨0, .phase⟩ (by simp) rfl), fun _ => la (hd ⟨1, .phase⟩ (by simp) rfl), fun _ => la (hd ⟨2, .phase⟩ (by simp) rfl), fun _ => la (hd ⟨3, .phase⟩ (by simp) rfl), fun _ => la (hd ⟨4, .phase⟩ (by simp) rfl), fun _ => la (hd ⟨5, .phase⟩ (by simp) rfl), fun _ => la (hd ⟨6, .phase⟩ (by simp) rfl), fun h0 => absurd (hd ⟨5, .chain⟩ (by simp) rfl) (by rw [lsf (by decide) h0]; simp), fun h => la (F19 (ls (by decide) h))⟩
  · intro listed A w hall hI
    unfold Up8I at hI
    obtain ⟨s20, hI⟩ := hI
    obtain ⟨s21, hI⟩ := hI
    obtain ⟨s22, hI⟩ := hI
    obtain ⟨s23, hI⟩ := hI
    obtain ⟨s24, hI⟩ := hI
    obtain ⟨s25, hI⟩ := hI
    obtain ⟨s26, hI⟩ := hI
    obtain ⟨rfl, hI⟩ := hI
    obtain ⟨F0, hI⟩ := hI
    obtain ⟨F1, hI⟩ := hI
    obtain ⟨F2, hI⟩ := hI
    obtain ⟨F3, hI⟩ := hI
    obtain ⟨F4, hI⟩ := hI
    obtain ⟨F5, hI⟩ := hI
    obtain ⟨F6, hI⟩ := hI
    obtain ⟨F7, hI⟩ := hI
    obtain ⟨F8, hI⟩ := hI
    obtain ⟨F9, hI⟩ := hI
    obtain ⟨F10, hI⟩ := hI
    obtain ⟨F11, hI⟩ := hI
    obtain ⟨F12, hI⟩ := hI
    obtain ⟨F13, hI⟩ := hI
    obtain ⟨F14, hI⟩ := hI
    obtain ⟨F15, hI⟩ := hI
    obtain ⟨F16, hI⟩ := hI
    obtain ⟨F17, hI⟩ := hI
    obtain ⟨F18, hI⟩ := hI
    have F19 := hI; clear hI
    obtain rfl := F0 (hall 0 (by decide))
    obtain rfl := F1 (hall 1 (by decide))
    obtain rfl := F2 (hall 2 (by decide))
    obtain rfl := F3 (hall 3 (by decide))
    obtain rfl := F4 (hall 4 (by decide))
    have PJ := F7 (hall 7 (by decide))
    have HB := F8
    clear hall F5 F6 F7 F8 F9 F10 F11 F12 F13 F14 F15 F16 F17 F18 F19
    try dsimp only

    exact hQ _ _ _ PJ HB
end Go.Proofs
namespace Go.Proofs
open Go.Shelf Go.RowKit Go.Proofs.Wide Go.Proofs.Dig
def upL (l : List Int) (n : Nat) : List Int := if l = [] then [] else List.replicate n 0 ++ l
def UpI (neg : Bool) (A : Option Addr) (l : List Int) (c n : Nat) (w0 : World) (s5 s6 : Value) (wx : World) : Prop := ∃ (j : Nat) (Z : Option Addr) (cz : Nat), s5 = .slice Z j cz ∧ s6 = .int .i64 j ∧ j ≤ n ∧
  wx.ownsRow w0.heap.size 3 1 (.slice Z j cz) j (cellsD (List.replicate j 0)) ∧ Hid (∀ g, (.slice Z j cz : Value).ownBlock = some g → w0.heap.size + 1 < g) ∧
  Own wx w0.heap.size (.bool neg) (.slice A l.length c) ∧ Own wx (w0.heap.size + 1) (.bool false) (.slice none 0 0) ∧ Below w0.heap.size w0 wx
theorem nought_step (j : Nat) : cellsD (List.replicate j 0) ++ [.int .i64 0] = cellsD (List.replicate (j + 1) 0) := by
  unfold cellsD; rw [List.replicate_succ', List.map_append]; rfl
set_option maxRecDepth 100000 in
set_option maxHeartbeats 4000000 in
theorem refUp_any (neg : Bool) (A : Option Addr) (l : List Int) (c n : Nat) (w0 : World) (hr : Rd w0 A l) (hlc : l.length ≤ c) (hc : c ≤ 9223372036854775807) (hl6 : l.length ≤ 1000000) (hn6 : n ≤ 1000000) :
    Calls Tryz.prog 89 #[.agg #[.bool neg, .slice A l.length c], .int .i64 n] w0 fun e w' => ∃ v, e = .returned v ∧ OfF neg (upL l n) w' v ∧ Below w0.heap.size w0 w' := by
  have HR := Lib.hid hr
  clear hr
  by_cases hl : l = []
  · subst hl
    have hU : upL [] n = [] := rfl
    rw [hU]
    clear hU
    go_enter Tryz.func89, Tryz.ntmps89
    go_wp2
    exact bodyPost_ret (v := .agg #[.bool neg, .slice A 0 c]) (by simp [results, Tryz.results89, go_sem, *]) rfl ⟨_, rfl, ⟨A, c, rfl, Rd.nil, hlc, hc⟩, by repeat (first | exact Below.refl _ _ | apply ba | (refine bs ?_ (by first | (simp; done) | (simp; omega))))⟩
  · obtain ⟨r, hr⟩ : ∃ r, List.replicate n 0 ++ l = r := ⟨_, rfl⟩
    have hU : upL l n = r := by unfold upL; rw [if_neg hl, hr]
    rw [hU]
    have HRR := Lib.hid hr
    have hl0 : ((l.length : Int) == 0) = false := by
      rw [beq_eq_false_iff_ne]; intro e; exact hl (List.eq_nil_of_length_eq_zero (by omega))
    have hl1 : (l.length == 0) = false := by
      rw [beq_eq_false_iff_ne]; intro e; exact hl (List.eq_nil_of_length_eq_zero e)
    have hlp : 0 < l.length := by
      rcases Nat.eq_zero_or_pos l.length with e | e
      · exact absurd (List.eq_nil_of_length_eq_zero e) hl
      · exact e
    obtain ⟨i0, hi, hz0, hz1, hz2⟩ := info_parts int_info
    clear hU hr
    go_enter Tryz.func89, Tryz.ntmps89
    go_wp2_with fail
    go_loopw [5, 6] (fun s5 s6 wx => UpI neg A l c n w0 s5 s6 wx) (fun _ s6 _ => n - (intOf s6).toNat)
    case atStart => exact ⟨0, none, 0, rfl, rfl, Nat.zero_le _, ⟨rfl, .inl ⟨rfl, rfl⟩⟩, Lib.hid (fun g h => by simp [Value.ownBlock] at h), (Own.new_at rfl).alloc _, Own.new_at (by simp), ba (ba (Below.refl _ _))⟩
    case round =>
      obtain ⟨j, Z, cz, rfl, rfl, hj, hown, hnz, O0, O1, HB⟩ := hrel
      by_cases hlt : j < n
      · have hltJ : decide ((j : Int) < (n : Int)) = true := by simp; omega
        have hbs := HB.size
        go_wp2_with (at_builtin; refine wpList_append_any _ rfl (.tmp 17) (.tmp 18) 91 rfl w0.heap.size 3 i0 _ 1 8 Tryz.underlying91 hi hz0 hz1 hz2 rfl (by omega) (.slice Z j cz) j _ rfl (hown.alloc _) _ _ 1 1 [.int .i64 0] rfl (one_reads wr 0) (by intro u hu; simp at hu; subst hu; rfl) (by unfold maxLen; omega) (by omega) (by simp; omega) ?_; intro v3 w3 hown3 hg3 hat3; have P0 := own_grown (O0.alloc _) hg3 (fun e => by have := hnz.out _ e.symm; omega); have P1 := own_grown (O1.alloc _) hg3 (fun e => by have := hnz.out _ e.symm; omega); have hb3 : Below w0.heap.size w0 w3 := below_far (ba HB) hg3 (fun q hq => by have := hnz.out _ hq; omega); obtain ⟨A3, c3, rfl⟩ := own_slice hown3; have l1 := O1.lt; have hnz3 : Hid (∀ g, (.slice A3 (j + 1) c3 : Value).ownBlock = some g → w0.heap.size + 1 < g) := Lib.hid (fun g h => hat3.elim (fun e => hnz.out g (e.symm.trans h)) (fun e => by rw [e] at h; injection h with h; simp at h; omega)); rw [nought_step] at hown3; have HO3 := Lib.hid hown3; clear hown3 hg3 hat3)
        go_roundw
        case rel => exact ⟨j + 1, A3, c3, rfl, by go_num, by omega, HO3.out, hnz3, P0, P1, hb3⟩
        case measure => simp [intOf]; omega
      · obtain rfl : j = n := by omega
        have hltJ : decide ((j : Int) < (j : Int)) = false := by simp
        go_upto_region 8 with fail
        refine Up8_region neg A Z l r j c cz _ _ _ _ _ _ _ _ _ _ _ _ _ _ _ _ _ _ _ _ _ _ _ _ w0 _ _ HB O0 O1 HRR HR hl6 hn6 hown hnz ?_
        intro w' y25 y26 PJ HB'
        obtain ⟨A9, c9, K9, hr9, hl9, hc9⟩ := PJ
        obtain ⟨_, _, _, _⟩ := id K9
        go_wp2
        exact bodyPost_ret (v := .agg #[.bool neg, .slice A9 r.length c9]) (by simp [results, Tryz.results89, go_sem, *]) rfl ⟨_, rfl, ⟨A9, c9, rfl, hr9, hl9, hc9⟩, HB'⟩
end Go.Proofs
