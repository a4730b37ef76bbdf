/- An invariant through a region that draws its order; pieces of a function. No condition beyond what the theorems state. -/
import Derived.Below
import Derived.RegionTactic
import Derived.Deep.Draws
import Derived.Test.YtcmlfkoeajpliaaDoorWords
import Derived.Maps.AppendAt
import Derived.Deep.AppendLies
import Derived.OwnWalk
namespace Go
section
variable {P : Program} {ops : Array Oper} {Q : Exit → Act → World → Prop} {md : Region.Mode}
theorem countP_lt {p p' : Nat → Bool} {i : Nat} : ∀ {L : List Nat}, (∀ x, p' x = true → p x = true) → i ∈ L → p i = true → p' i = false → L.countP p' < L.countP p := by
  intro L h hi hp hp'
  have mono : ∀ L : List Nat, L.countP p' ≤ L.countP p := fun L => List.countP_mono_left fun x _ => h x
  induction L with
  | nil => cases hi
  | cons x L ih =>
    rw [List.countP_cons, List.countP_cons]
    rcases List.mem_cons.1 hi with rfl | hi
    · have := mono L; simp [hp, hp']; omega
    · have := ih hi
      by_cases hx : p' x = true
      · simp [hx, h x hx]; omega
      · simp [hx]; omega
/-- How many operations have not come up. -/
def left (ops : Array Oper) (listed : Array Bool) : Nat := (List.range ops.size).countP fun j => !listed.getD j true
theorem left_step {i : Nat} {listed : Array Bool} (hi : i < ops.size) (h : listed.getD i true = false) : left ops (listed.setIfInBounds i true) < left ops listed := by
  refine countP_lt (i := i) (fun x hx => ?_) (List.mem_range.2 hi) (by simp only [h]; rfl) ?_
  · by_cases hxi : i = x
    · subst hxi; simp only [h]; rfl
    · rw [getD_set_ne true hxi] at hx; exact hx
  · rcases Nat.lt_or_ge i listed.size with h' | h'
    · simp [h']
    · simp [Array.getElem?_eq_none h'] at h
/-- AN INVARIANT THROUGH A REGION THAT DRAWS ITS ORDER: whatever has come up, the invariant of what has come up holds; each operation that may come up keeps it. -/
theorem wpAny_inv {I : Array Bool → Act → World → Prop}
    (hstep : ∀ (i : Nat) (o : Oper) (listed : Array Bool) (a : Act) (w : World), ops[i]? = some o → (∀ e ∈ o.after, Region.binds md e = true → listed.getD e.on false = true) → listed.getD i true = false → I listed a w →
      wpOp P ops Q i (fun a' w' => I (listed.setIfInBounds i true) a' w') a w)
    (hend : ∀ (listed : Array Bool) (a : Act) (w : World), Region.ready md ops listed = [] → I listed a w → Q .normal a w) :
    ∀ (fuel : Nat) (listed : Array Bool) (a : Act) (w : World), left ops listed ≤ fuel → I listed a w → wpAny P md ops Q fuel listed a w := by
  intro fuel
  induction fuel with
  | zero =>
    intro listed a w hl hI
    have hr : Region.ready md ops listed = [] := by
      cases h : Region.ready md ops listed with
      | nil => rfl
      | cons i r =>
        have hi : i ∈ Region.ready md ops listed := by rw [h]; exact List.mem_cons_self
        obtain ⟨h1, o, ho, _⟩ := mem_ready.1 hi
        have := left_step (ops := ops) (Array.getElem?_eq_some_iff.1 ho).1 h1
        omega
    exact ⟨hr, hend _ _ _ hr hI⟩
  | succ fuel ih =>
    intro listed a w hl hI
    refine ⟨fun hr => hend _ _ _ hr hI, fun i hi => ?_⟩
    obtain ⟨h1, o, ho, hd⟩ := mem_ready.1 hi
    have := left_step (ops := ops) (Array.getElem?_eq_some_iff.1 ho).1 h1
    exact wpOp_mono (fun a' w' hI' => ih _ _ _ (by omega) hI') (hstep i o listed a w ho hd h1 hI)
/-- Each operation waits for earlier ones alone. -/
def forward (md : Region.Mode) (ops : Array Oper) : Bool :=
  (List.range ops.size).all fun j => ((ops[j]?).map fun o => o.after.all fun e => !Region.binds md e || decide (e.on < j)).getD true
theorem all_listed (hf : forward md ops = true) {listed : Array Bool} (hr : Region.ready md ops listed = []) (hs : listed.size = ops.size) : ∀ j, j < ops.size → listed.getD j false = true := by
  intro j
  induction j using Nat.strongRecOn with
  | _ j ih =>
    intro hj
    cases h : listed.getD j true with
    | true =>
      have hj' : j < listed.size := by omega
      simp [hj'] at h ⊢
      exact h
    | false =>
      have hj2 : ops[j]? = some ops[j] := Array.getElem?_eq_getElem hj
      have hfj := List.all_eq_true.1 hf j (List.mem_range.2 hj)
      rw [hj2] at hfj
      have hmem : j ∈ Region.ready md ops listed := mem_ready.2 ⟨h, _, hj2, fun e he hb => by
        have h3 := Array.all_eq_true'.1 hfj e he
        simp only [hb, Bool.not_true, Bool.false_or, decide_eq_true_eq] at h3
        exact ih e.on h3 (by omega)⟩
      rw [hr] at hmem; cases hmem
theorem wp_region_inv {id : Nat} {a : Act} {w : World} (hm : P.follows .mixedOrders = true) (hf : forward .any ops = true) (I : Array Bool → Act → World → Prop)
    (h0 : I (Array.replicate ops.size false) a w.drew)
    (hstep : ∀ (i : Nat) (o : Oper) (listed : Array Bool) (a : Act) (w : World), i < ops.size → ops[i]? = some o → (∀ e ∈ o.after, Region.binds .any e = true → listed.getD e.on false = true) → listed.getD i true = false → I listed a w →
      wpOp P ops Q i (fun a' w' => I (listed.setIfInBounds i true) a' w') a w)
    (hend : ∀ (listed : Array Bool) (a : Act) (w : World), (∀ j, j < ops.size → listed.getD j false = true) → I listed a w → Q .normal a w) : (Code.region id ops true).wp P Q a w := by
  refine wp_region_any hm (wpAny_inv (I := fun l a w => l.size = ops.size ∧ I l a w) ?_ ?_ ops.size _ a _ ?_ ⟨by simp, h0⟩)
  · intro i o listed a w ho hd hn ⟨hs, hI⟩
    exact wpOp_mono (fun a' w' h => ⟨by simpa using hs, h⟩) (hstep i o listed a w (Array.getElem?_eq_some_iff.1 ho).1 ho hd hn hI)
  · intro listed a w hr ⟨hs, hI⟩
    exact hend listed a w (all_listed hf hr hs) hI
  · unfold left
    refine Nat.le_trans (List.countP_le_length) (by simp)
/-- What has come up besides. -/
theorem ls {listed : Array Bool} {i j : Nat} (hne : i ≠ j) (h : (listed.setIfInBounds i true).getD j false = true) : listed.getD j false = true := by
  rw [getD_set_ne false hne] at h; exact h
theorem lc {listed : Array Bool} {i : Nat} {p : Prop} (hn : listed.getD i true = false) (h : listed.getD i false = true) : p := by
  rcases Nat.lt_or_ge i listed.size with h' | h'
  · simp [h'] at hn h; rw [h] at hn; cases hn
  · simp [Array.getElem?_eq_none h'] at h
theorem la {listed : Array Bool} {i j : Nat} (h : listed.getD j false = true) : (listed.setIfInBounds i true).getD j false = true := getD_set_true h
theorem lself {listed : Array Bool} {i : Nat} (hn : listed.getD i true = false) : (listed.setIfInBounds i true).getD i false = true := by
  rcases Nat.lt_or_ge i listed.size with h' | h'
  · simp [h']
  · simp [Array.getElem?_eq_none h'] at hn
theorem lf {listed : Array Bool} {i : Nat} (hn : listed.getD i true = false) : listed.getD i false = false := by
  cases h : listed.getD i false with
  | false => rfl
  | true => exact lc hn h
theorem ln {listed : Array Bool} {i j : Nat} (hn : listed.getD i true = false) (h : listed.getD j false = true → listed.getD i false = true) : listed.getD j false = false := by
  cases h' : listed.getD j false with
  | false => rfl
  | true => exact lc hn (h h')
theorem lsf {listed : Array Bool} {i j : Nat} (hne : i ≠ j) (h : (listed.setIfInBounds i true).getD j false = false) : listed.getD j false = false := by
  rw [getD_set_ne false hne] at h; exact h
theorem lx {listed : Array Bool} {i : Nat} {p : Prop} (hn : listed.getD i true = false) (h : (listed.setIfInBounds i true).getD i false = false) : p := by
  rw [lself hn] at h; cases h
theorem l0 {n j : Nat} : ¬ (Array.replicate n false).getD j false = true := by
  simp [Array.getElem?_replicate]; split <;> simp
end
end Go
namespace Go.Proofs


def skipn : Nat → Code → Code
  | 0, c => c
  | n+1, .seq _ b => skipn n b
  | _, c => c
def regionOf (n : Nat) : Code → Option Code
  | .region id ops dr => if id = n then some (.region id ops dr) else none
  | .seq a b => match regionOf n a with
    | some c => some c
    | none => regionOf n b
  | .cond _ a b => match regionOf n a with
    | some c => some c
    | none => regionOf n b
  | .block _ c => regionOf n c
  | .loop c => regionOf n c
  | .scope c => regionOf n c
  | _ => none
end Go.Proofs
