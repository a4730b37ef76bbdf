/- Package dec tells right numbers. No condition beyond what the theorems state. -/
import Derived.Test.YtmggffhecopgiaaDoorFit
namespace Go.Proofs
open Go.Shelf Go.RowKit Go.Proofs.Wide

def nv (n k : Int) : Value := .agg #[.int .i64 n, .int .i64 k]
def rightB (p : Int × Int) : Bool := decide (-999999999999999999 ≤ p.1 ∧ p.1 ≤ 999999999999999999 ∧ 0 ≤ p.2 ∧ p.2 ≤ 9 ∧ (p.2 = 0 ∨ p.1 % 10 ≠ 0))
/-- A row of numbers. -/
def Nums (w : World) (g : Nat) (L : List (Int × Int)) : Prop := ∀ i p, L[i]? = some p → w.cell? ⟨g, 2 * i, none⟩ = some (.int .i64 p.1) ∧ w.cell? ⟨g, 2 * i + 1, none⟩ = some (.int .i64 p.2)
def InI (n : Int) : Prop := -9223372036854775808 ≤ n ∧ n ≤ 9223372036854775807
theorem tm10 (n : Int) : (n.tmod 10 = 0 ↔ n % 10 = 0) := by
  have := tdiv10 n
  constructor
  · intro h; by_cases h' : n % 10 = 0
    · exact h'
    · exact absurd h (this.2 h').1
  · exact fun h => (this.1 h).2
theorem ret_bool {a b : Bool} (h : a = b) : Ending.returned (.bool a) = .returned (.bool b) := by rw [h]
set_option maxHeartbeats 4000000 in
theorem right_any (g : Nat) (cap : Nat) (L : List (Int × Int)) (w0 : World) (hL : ∀ p ∈ L, InI p.1 ∧ InI p.2) (hlen : L.length ≤ 1000000) (hN : Nums w0 g L) (hg : g < w0.heap.size) :
    Calls Tryd.prog 9 #[.slice (some ⟨g, 0, none⟩) L.length cap] w0 fun e w' => e = .returned (.bool (L.all rightB)) ∧ Below w0.heap.size w0 w' := by
  go_enter Tryd.func9, Tryd.ntmps9
  go_wp2
  go_loopw [7] (fun i wx => ∃ k : Nat, i = .int .i64 k ∧ k ≤ L.length ∧ (L.take k).all rightB = true ∧ Below w0.heap.size w0 wx) (fun i _ => L.length - (intOf i).toNat)
  case atStart => exact ⟨0, rfl, Nat.zero_le _, by simp, Below.refl _ _⟩
  case round =>
    obtain ⟨k, rfl, hk, ha, hB⟩ := hrel
    by_cases hlt : k < L.length
    · obtain ⟨p, hp⟩ : ∃ p, L[k]? = some p := ⟨_, List.getElem?_eq_getElem hlt⟩
      have hpm : p ∈ L := List.mem_of_getElem? hp
      obtain ⟨c1, c2⟩ := hN k p hp
      have d1 := (hB.cell (p := ⟨g, 2 * k, none⟩) hg).trans c1
      have d2 := (hB.cell (p := ⟨g, 2 * k + 1, none⟩) hg).trans c2
      obtain ⟨⟨i1, i2⟩, ⟨i3, i4⟩⟩ := hL p hpm
      obtain ⟨n, q⟩ := p
      simp only at i1 i2 i3 i4 d1 d2
      have hts : (L.take (k + 1)).all rightB = ((L.take k).all rightB && rightB (n, q)) := by
        rw [List.take_add_one, hp]; simp
      have hall : rightB (n, q) = false → L.all rightB = false := fun h => by
        cases h' : L.all rightB with
        | false => rfl
        | true => rw [List.all_eq_true.1 h' (n, q) hpm] at h; cases h
      have HTS := Lib.hid hts; have HALL := Lib.hid hall; have HA := Lib.hid ha; have HP := Lib.hid hp; have HN := Lib.hid hN; have HL := Lib.hid hL; have HPM := Lib.hid hpm
      clear hts hall ha hp hN hL c1 c2 hpm
      have e2k : k * 2 = 2 * k := by omega
      by_cases h1 : n < -999999999999999999
      · have hr : rightB (n, q) = false := by unfold rightB; simp; omega
        go_wp2
        go_ret
        exact ⟨ret_bool (HALL.out hr).symm, ba hB⟩
      by_cases h2 : 999999999999999999 < n
      · have hr : rightB (n, q) = false := by unfold rightB; simp; omega
        go_wp2
        go_ret
        exact ⟨ret_bool (HALL.out hr).symm, ba hB⟩
      by_cases h3 : q < 0
      · have hr : rightB (n, q) = false := by unfold rightB; simp; omega
        go_wp2
        go_ret
        exact ⟨ret_bool (HALL.out hr).symm, ba hB⟩
      by_cases h4 : 9 < q
      · have hr : rightB (n, q) = false := by unfold rightB; simp; omega
        go_wp2
        go_ret
        exact ⟨ret_bool (HALL.out hr).symm, ba hB⟩
      by_cases h5 : 0 < q
      · have ht := tm10 n
        have hw : IntKind.i64.wrap (n.tmod 10) = n.tmod 10 := by
          have := (tdiv10 n); rw [IntKind.wrap_i64]
          by_cases h : n % 10 = 0
          · rw [(this.1 h).2]; omega
          · have := this.2 h; omega
        obtain ⟨m, hm⟩ : ∃ m, n.tmod 10 = m := ⟨_, rfl⟩
        rw [hm] at ht hw
        have HM := Lib.hid hm
        have hw' : IntKind.i64.wrap (n.tmod 10) = m := by rw [hm]; exact hw
        clear hm
        by_cases h6 : m = 0
        · have hr : rightB (n, q) = false := by have := ht.1 h6; unfold rightB; simp; omega
          have HR := Lib.hid hr
          have hm := HM.out
          subst h6
          clear ht hr
          go_wp2
          go_ret
          exact ⟨ret_bool (HALL.out HR.out).symm, ba hB⟩
        · have hr : rightB (n, q) = true := by have : ¬ n % 10 = 0 := fun h => h6 (ht.2 h); unfold rightB; simp; omega
          have HR := Lib.hid hr
          have hm := HM.out
          clear ht hr
          go_wp2
          go_roundw
          case rel => exact ⟨k + 1, by go_num, by omega, by rw [HTS.out, HA.out, HR.out]; rfl, ba hB⟩
          case measure => simp [intOf]; omega
      · have hr : rightB (n, q) = true := by unfold rightB; simp; omega
        have HR := Lib.hid hr
        clear hr
        go_wp2
        go_roundw
        case rel => exact ⟨k + 1, by go_num, by omega, by rw [HTS.out, HA.out, HR.out]; rfl, ba hB⟩
        case measure => simp [intOf]; omega
    · obtain rfl : k = L.length := by omega
      have HA := Lib.hid ha
      clear ha
      go_wp2
      go_ret
      exact ⟨ret_bool (by have := HA.out; rw [List.take_length] at this; exact this.symm), hB⟩
end Go.Proofs
