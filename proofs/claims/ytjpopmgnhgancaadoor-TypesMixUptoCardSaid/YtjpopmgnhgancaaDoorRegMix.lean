/- The statement TypesMix: regions that draw their order. No condition beyond what the theorems state. -/
import Derived.Test.YtjpopmgnhgancaaDoorWords
import Derived.Test.YtjpopmgnhgancaaDoorRegEven
import Derived.Test.YtjpopmgnhgancaaDoorRefSub
import Derived.Lib.Builder
namespace Go
section
variable {P : Program} {ops : Array Oper} {Q : Exit → Act → World → Prop}
/-- One operation waits for all others: it comes last. -/
def gpLast (ops : Array Oper) (l : Nat) : Bool := decide (l < ops.size) && (List.range ops.size).all fun j => decide (j = l) || ((ops[l]?).map fun o => o.after.any fun e => decide (e.on = j) && Region.binds .any e).getD false
theorem gpLast_all {l : Nat} (h : gpLast ops l = true) : l < ops.size ∧ ∀ j, j < ops.size → j ≠ l → ∃ o e, ops[l]? = some o ∧ e ∈ o.after ∧ e.on = j ∧ Region.binds .any e = true := by
  unfold gpLast at h
  rw [Bool.and_eq_true, decide_eq_true_eq] at h
  refine ⟨h.1, fun j hj hne => ?_⟩
  have h2 := List.all_eq_true.1 h.2 j (List.mem_range.2 hj)
  rw [Bool.or_eq_true, decide_eq_true_eq] at h2
  have h3 := h2.resolve_left hne
  cases ho : ops[l]? with
  | none => rw [ho] at h3; cases h3
  | some o =>
    rw [ho] at h3
    simp only [Option.map_some, Option.getD_some] at h3
    obtain ⟨e, he, hb⟩ := Array.any_eq_true'.1 h3
    rw [Bool.and_eq_true, decide_eq_true_eq] at hb
    exact ⟨o, e, rfl, he, hb.1, hb.2⟩
/-- What every frame of the region keeps till the last one. -/
def GpKeptX (ops : Array Oper) (l : Nat) (a0 a : Act) : Prop := a.defers = a0.defers ∧ a.tmps.size = a0.tmps.size ∧ ∀ k, (∀ j, j ≠ l → gpDst ops j ≠ some k) → a.tmps.getD k undef = a0.tmps.getD k undef
def gpFreeX (ops : Array Oper) (l k : Nat) : Bool := (List.range ops.size).all fun i => decide (i = l) || decide (gpDst ops i ≠ some k)
theorem gpFreeX_ne {l k : Nat} (h : gpFreeX ops l k = true) : ∀ j, j ≠ l → gpDst ops j ≠ some k := by
  intro j hne hj
  have lt : j < ops.size := by
    unfold gpDst at hj
    cases ho : ops[j]? with
    | none => rw [ho] at hj; cases hj
    | some o => exact (Array.getElem?_eq_some_iff.1 ho).1
  have := List.all_eq_true.1 h j (List.mem_range.2 lt)
  rw [hj] at this
  simp [hne] at this
theorem wp_region_plan_last {id : Nat} {a0 : Act} {w0 : World} (hm : P.follows .mixedOrders = true) (hf : forward .any ops = true) (hap : gpApart ops = true) (hbl : gpBelow ops a0.tmps.size = true) (l : Nat) (hl : gpLast ops l = true)
    (Inv : World → Prop) (R : World → World → Prop) (spec : Nat → World → Value → Prop) (h0 : Inv w0.drew)
    (hmono : ∀ w w' j v, R w w' → spec j w v → spec j w' v)
    (hnone : ∀ i w v, i ≠ l → gpDst ops i = none → spec i w v → spec i w undef)
    (hstep : ∀ (i : Nat) (o : Oper), i ≠ l → ops[i]? = some o → ∀ (a : Act) (w : World), Inv w → GpKeptX ops l a0 a → (∀ e ∈ o.after, Region.binds .any e = true → e.on ≠ l → spec e.on w (gpVal ops a e.on)) →
      if gpRuns o (gpVal ops a) = true then ∀ K : Act → World → Prop, (∀ v w', R w w' → Inv w' → spec i w' v → K (a.put o.dst v) w') → Oper.wp P o a w K Q else spec i w undef ∧ R w w)
    (hlast : ∀ (o : Oper), ops[l]? = some o → ∀ (a : Act) (w : World), Inv w → GpKeptX ops l a0 a → (∀ j, j < ops.size → j ≠ l → spec j w (gpVal ops a j)) →
      if gpRuns o (gpVal ops a) = true then Oper.wp P o a w (Q .normal) Q else Q .normal (a.put o.dst undef) w) : (Code.region id ops true).wp P Q a0 w0 := by
  obtain ⟨hls, hla⟩ := gpLast_all hl
  refine wp_region_inv hm hf (fun listed a w => (listed.getD l false = false → Inv w ∧ GpKeptX ops l a0 a ∧ ∀ j, j ≠ l → listed.getD j false = true → spec j w (gpVal ops a j)) ∧ (listed.getD l false = true → (∀ j, j < ops.size → listed.getD j false = true) ∧ Q .normal a w)) ⟨fun _ => ⟨h0, ⟨rfl, rfl, fun _ _ => rfl⟩, fun j _ h => absurd h l0⟩, fun h => absurd h l0⟩ ?_ ?_
  · intro i o listed a w hi ho hd hn ⟨hA, hB⟩
    have hlf : listed.getD l false = false := by
      cases h : listed.getD l false with
      | false => rfl
      | true => exact lc hn ((hB h).1 i hi)
    obtain ⟨hI, hk, hs⟩ := hA hlf
    have hb : ∀ j d, gpDst ops j = some d → d < a.tmps.size := fun j d hj => by rw [hk.2.1]; exact gpBelow_lt hbl hj
    have hdo : gpDst ops i = o.dst := by unfold gpDst; rw [ho]; rfl
    by_cases hil : i = l
    · subst hil
      have hall : ∀ j, j < ops.size → j ≠ i → listed.getD j false = true := by
        intro j hj hne
        obtain ⟨o', e, ho', he, hej, hbe⟩ := hla j hj hne
        obtain rfl : o' = o := Option.some.inj (ho'.symm.trans ho)
        have := hd e he hbe
        rwa [hej] at this
      have hlist : ∀ j, j < ops.size → (listed.setIfInBounds i true).getD j false = true := by
        intro j hj
        by_cases hj2 : i = j
        · subst hj2; exact lself hn
        · exact la (hall j hj (fun e => hj2 e.symm))
      have hfin : ∀ a' w', Q .normal a' w' → ((listed.setIfInBounds i true).getD i false = false → Inv w' ∧ GpKeptX ops i a0 a' ∧ ∀ j, j ≠ i → (listed.setIfInBounds i true).getD j false = true → spec j w' (gpVal ops a' j)) ∧ ((listed.setIfInBounds i true).getD i false = true → (∀ j, j < ops.size → (listed.setIfInBounds i true).getD j false = true) ∧ Q .normal a' w') :=
        fun a' w' hQ => ⟨fun h => (by rw [lself hn] at h; cases h), fun _ => ⟨hlist, hQ⟩⟩
      have h := hlast o ho a w hI hk (fun j hj hne => hs j hne (hall j hj hne))
      unfold wpOp
      rw [ho]
      simp only
      rw [gpWanted o a hb]
      split at h
      · rename_i hr
        rw [if_pos hr]
        exact .inl (Oper.wp_mono (fun a' w' hQ => hfin a' w' hQ) h)
      · rename_i hr
        rw [if_neg hr]
        exact hfin _ _ h
    · have hlf' : (listed.setIfInBounds i true).getD l false = false := by
        cases h : (listed.setIfInBounds i true).getD l false with
        | false => rfl
        | true => rw [ls hil h] at hlf; cases hlf
      have hnew : ∀ v w', R w w' → Inv w' → spec i w' v → ((listed.setIfInBounds i true).getD l false = false → Inv w' ∧ GpKeptX ops l a0 (a.put o.dst v) ∧ ∀ j, j ≠ l → (listed.setIfInBounds i true).getD j false = true → spec j w' (gpVal ops (a.put o.dst v) j)) ∧ ((listed.setIfInBounds i true).getD l false = true → (∀ j, j < ops.size → (listed.setIfInBounds i true).getD j false = true) ∧ Q .normal (a.put o.dst v) w') := by
        intro v w' hR hI' hsp
        refine ⟨fun _ => ?_, fun h => (by rw [hlf'] at h; cases h)⟩
        cases hod : o.dst with
        | none =>
          refine ⟨hI', hk, fun j hjl hj => ?_⟩
          by_cases hij : i = j
          · subst hij
            have e : gpVal ops (a.put none v) i = undef := by unfold gpVal; rw [hdo, hod]
            rw [e]
            exact hnone i w' v hjl (hdo.trans hod) hsp
          · exact hmono _ _ _ _ hR (hs j hjl (ls hij hj))
        | some d =>
          have hdi : gpDst ops i = some d := hdo.trans hod
          refine ⟨hI', ⟨hk.1, by simp only [Act.put, Array.size_setIfInBounds]; exact hk.2.1, fun k hkn => ?_⟩, fun j hjl hj => ?_⟩
          · have : d ≠ k := fun e => hkn i hil (e ▸ hdi)
            exact (gpPut_ne a.tmps this v).trans (hk.2.2 k hkn)
          · by_cases hij : i = j
            · subst hij
              have e : gpVal ops (a.put (some d) v) i = v := by
                unfold gpVal; rw [hdi]; exact gpPut_same _ (hb i d hdi) v
              rw [e]; exact hsp
            · have e : gpVal ops (a.put (some d) v) j = gpVal ops a j := by
                unfold gpVal
                cases hj' : gpDst ops j with
                | none => rfl
                | some d' =>
                  have : d ≠ d' := fun e => gpApart_ne hap hij hdi (e ▸ hj')
                  exact gpPut_ne _ this v
              rw [e]
              exact hmono _ _ _ _ hR (hs j hjl (ls hij hj))
      have h := hstep i o hil ho a w hI hk (fun e he hb' hne => hs _ hne (hd e he hb'))
      unfold wpOp
      rw [ho]
      simp only
      rw [gpWanted o a hb]
      split at h
      · rename_i hr
        rw [if_pos hr]
        exact .inl (h _ fun v w' hR hI' hsp => hnew v w' hR hI' hsp)
      · rename_i hr
        rw [if_neg hr]
        exact hnew undef w h.2 hI h.1
  · intro listed a w hall ⟨_, hB⟩
    exact (hB (hall l hls)).2
end
end Go
namespace Go.Proofs.YtjpopmgnhgancaaDoor
open Go.RowKit Go.Lib
set_option maxRecDepth 100000
def ZB (w : World) (g : Nat) : Prop := w.heap[g]? = some (.cells #[.int .i64 0, .string ⟨#[]⟩, .int .i64 0] 26)
theorem ZB.lt {w : World} {g : Nat} (h : ZB w g) : g < w.heap.size := (Array.getElem?_eq_some_iff.1 h).1
theorem ZB.below {w w' : World} {g : Nat} (h : ZB w g) (hb : Below w.heap.size w w') : ZB w' g := (hb.block g h.lt).trans h
/-- What an operation leaves: a value, or a new block. -/
inductive Sq where
  | val (v : Value)
  | box (lo : Nat)
  | any
def Sq.holds : Sq → World → Value → Prop
  | .val v, _, x => x = v
  | .box lo, w, x => ∃ g, x = .pointer (some ⟨g, 0, none⟩) ∧ lo ≤ g ∧ ZB w g
  | .any, _, _ => True
theorem Sq.mono (s : Sq) {w w' : World} {v : Value} (hb : Below w.heap.size w w') (h : s.holds w v) : s.holds w' v := by
  cases s with
  | val x => exact h
  | box lo =>
    obtain ⟨g, h1, h2, h3⟩ := h
    exact ⟨g, h1, h2, h3.below hb⟩
  | any => trivial
theorem row1 {w : World} {g : Nat} (a : TT) (h0 : w.cell? ⟨g, 0, none⟩ = some (.int .i64 (a.k.i : Nat))) (h1 : w.cell? ⟨g, 1, none⟩ = some (.string (ba' a.k.n))) (h2 : w.cell? ⟨g, 2, none⟩ = some (.int .i64 (a.o : Nat))) : TRow w g [a] := by
  intro j t hj
  match j, hj with
  | 0, hj => cases hj; exact ⟨h0, h1, h2⟩
  | j + 1, hj => simp at hj
theorem row1_new (w : World) (a : TT) : TRow (w.alloc (.cells #[.int .i64 (a.k.i : Nat), .string (ba' a.k.n), .int .i64 (a.o : Nat)] 26)) w.heap.size [a] :=
  row1 a (by go_simp) (by go_simp) (by go_simp)
theorem row3 {w : World} {g : Nat} (a b c : TT) (h0 : w.cell? ⟨g, 0, none⟩ = some (.int .i64 (a.k.i : Nat))) (h1 : w.cell? ⟨g, 1, none⟩ = some (.string (ba' a.k.n))) (h2 : w.cell? ⟨g, 2, none⟩ = some (.int .i64 (a.o : Nat))) (h3 : w.cell? ⟨g, 3, none⟩ = some (.int .i64 (b.k.i : Nat))) (h4 : w.cell? ⟨g, 4, none⟩ = some (.string (ba' b.k.n))) (h5 : w.cell? ⟨g, 5, none⟩ = some (.int .i64 (b.o : Nat))) (h6 : w.cell? ⟨g, 6, none⟩ = some (.int .i64 (c.k.i : Nat))) (h7 : w.cell? ⟨g, 7, none⟩ = some (.string (ba' c.k.n))) (h8 : w.cell? ⟨g, 8, none⟩ = some (.int .i64 (c.o : Nat))) : TRow w g [a, b, c] := by
  intro j t hj
  match j, hj with
  | 0, hj => cases hj; exact ⟨h0, h1, h2⟩
  | 1, hj => cases hj; exact ⟨h3, h4, h5⟩
  | 2, hj => cases hj; exact ⟨h6, h7, h8⟩
  | j + 3, hj => simp at hj
theorem row3_new (w : World) (a b c : TT) : TRow (w.alloc (.cells #[.int .i64 (a.k.i : Nat), .string (ba' a.k.n), .int .i64 (a.o : Nat), .int .i64 (b.k.i : Nat), .string (ba' b.k.n), .int .i64 (b.o : Nat), .int .i64 (c.k.i : Nat), .string (ba' c.k.n), .int .i64 (c.o : Nat)] 26)) w.heap.size [a, b, c] :=
  row3 a b c (by go_simp) (by go_simp) (by go_simp) (by go_simp) (by go_simp) (by go_simp) (by go_simp) (by go_simp) (by go_simp)
def Ma4Sp (_ga _gb _gc _ge : Nat) (ai ao : Nat) (an : List UInt8) (pi po : Nat) (pn : List UInt8) (qi qo : Nat) (qn : List UInt8) : List Sp := [.val (.agg #[.int .i64 0, .string ⟨#[]⟩, .int .i64 3]), .val (.agg #[.int .i64 0, .string ⟨#[]⟩, .int .i64 3]), .val (.bool false), .val (.bool false), .val (.agg #[.int .i64 0, .string ⟨#[]⟩, .int .i64 3]), .val (.agg #[.int .i64 0, .string ⟨#[]⟩, .int .i64 3]), .val (.bool false), .val (.bool false), .val (.bool false), .val (.agg #[.int .i64 (ai : Nat), .string (ba' an), .int .i64 (ao : Nat)]), .sl [⟨⟨ai, an⟩, ao⟩] 1, .val (.agg #[.int .i64 (pi : Nat), .string (ba' pn), .int .i64 (po : Nat)]), .val (.agg #[.int .i64 (ai : Nat), .string (ba' an), .int .i64 (ao : Nat)]), .val (.agg #[.int .i64 (ai : Nat), .string (ba' an), .int .i64 (ao : Nat)]), .val (.agg #[.int .i64 (pi : Nat), .string (ba' pn), .int .i64 (po : Nat)]), .val (.bool false), .val (.bool false), .val (.bool false), .val (.agg #[.int .i64 (ai : Nat), .string (ba' an), .int .i64 (ao : Nat)]), .sl [⟨⟨ai, an⟩, ao⟩] 1, .val (.agg #[.int .i64 (qi : Nat), .string (ba' qn), .int .i64 (qo : Nat)]), .val (.agg #[.int .i64 0, .string ⟨#[]⟩, .int .i64 3]), .val (.agg #[.int .i64 (ai : Nat), .string (ba' an), .int .i64 (ao : Nat)]), .val (.agg #[.int .i64 (qi : Nat), .string (ba' qn), .int .i64 (qo : Nat)]), .val (.bool false), .val (.bool false)]
set_option maxHeartbeats 16000000 in
theorem Ma4_region (ga gb gc ge : Nat) (ai ao : Nat) (an : List UInt8) (pi po : Nat) (pn : List UInt8) (qi qo : Nat) (qn : List UInt8) (w0 : World) {W : World} {Q : Exit → Act → World → Prop} {a0 : Act} (hsz : a0.tmps.size = 99) (f3 : a0.tmps.getD 3 undef = .pointer (some ⟨ga, 0, none⟩)) (f4 : a0.tmps.getD 4 undef = .pointer (some ⟨gb, 0, none⟩)) (f5 : a0.tmps.getD 5 undef = .pointer (some ⟨gc, 0, none⟩)) (f7 : a0.tmps.getD 7 undef = .pointer (some ⟨ge, 0, none⟩)) (hb0 : Below w0.heap.size w0 W) (C0 : W.cell? ⟨ga, 0, none⟩ = some (.int .i64 (ai : Nat))) (C1 : W.cell? ⟨ga, 1, none⟩ = some (.string (ba' an))) (C2 : W.cell? ⟨ga, 2, none⟩ = some (.int .i64 (ao : Nat))) (C3 : W.cell? ⟨ge, 0, none⟩ = some (.int .i64 0)) (C4 : W.cell? ⟨ge, 1, none⟩ = some (.string ⟨#[]⟩)) (C5 : W.cell? ⟨ge, 2, none⟩ = some (.int .i64 3)) (E0 : Hid (∀ w1, Below w0.heap.size w0 w1 → Calls Tryd.prog 19 #[.slice none 0 0] w1 fun e w' => e = .returned (.agg #[.int .i64 0, .string ⟨#[]⟩, .int .i64 3]) ∧ Below w1.heap.size w1 w')) (J0 : Hid (∀ w1, Below w0.heap.size w0 w1 → Calls Tryd.prog 20 #[.slice none 0 0] w1 fun e w' => e = .returned (.agg #[.int .i64 0, .string ⟨#[]⟩, .int .i64 3]) ∧ Below w1.heap.size w1 w')) (E1 : Hid (∀ w1 g, Below w0.heap.size w0 w1 → g < w1.heap.size → TRow w1 g [⟨⟨ai, an⟩, ao⟩] → Calls Tryd.prog 19 #[.slice (some ⟨g, 0, none⟩) 1 1] w1 fun e w' => e = .returned (.agg #[.int .i64 (pi : Nat), .string (ba' pn), .int .i64 (po : Nat)]) ∧ Below w1.heap.size w1 w')) (J1 : Hid (∀ w1 g, Below w0.heap.size w0 w1 → g < w1.heap.size → TRow w1 g [⟨⟨ai, an⟩, ao⟩] → Calls Tryd.prog 20 #[.slice (some ⟨g, 0, none⟩) 1 1] w1 fun e w' => e = .returned (.agg #[.int .i64 (qi : Nat), .string (ba' qn), .int .i64 (qo : Nat)]) ∧ Below w1.heap.size w1 w')) (T0 : Hid (∀ w1, Below w0.heap.size w0 w1 → Calls Tryd.prog 21 #[.int .i64 0, .agg #[.int .i64 (ai : Nat), .string (ba' an), .int .i64 (ao : Nat)], .agg #[.int .i64 (ai : Nat), .string (ba' an), .int .i64 (ao : Nat)]] w1 fun e w' => e = .returned (.agg #[.int .i64 (pi : Nat), .string (ba' pn), .int .i64 (po : Nat)]) ∧ Below w1.heap.size w1 w')) (T1 : Hid (∀ w1, Below w0.heap.size w0 w1 → Calls Tryd.prog 21 #[.int .i64 1, .agg #[.int .i64 0, .string ⟨#[]⟩, .int .i64 3], .agg #[.int .i64 (ai : Nat), .string (ba' an), .int .i64 (ao : Nat)]] w1 fun e w' => e = .returned (.agg #[.int .i64 (qi : Nat), .string (ba' qn), .int .i64 (qo : Nat)]) ∧ Below w1.heap.size w1 w'))
    (hQ : ∀ (A : Act) (w : World), A.defers = a0.defers → A.tmps.size = 99 → A.tmps.getD 54 undef = .bool false → A.tmps.getD 3 undef = .pointer (some ⟨ga, 0, none⟩) → A.tmps.getD 4 undef = .pointer (some ⟨gb, 0, none⟩) → A.tmps.getD 5 undef = .pointer (some ⟨gc, 0, none⟩) → Below w0.heap.size w0 w → Q .normal A w) :
    Code.wp Tryd.prog ((Tryd.f4.body.bind (regionOf 4)).getD .skip) Q a0 W := by
  conv => arg 2; whnf
  (try simp only [List.append_eq, List.cons_append, List.nil_append])
  refine wp_region_plan (by kernel_rfl) (by kernel_rfl) (by kernel_rfl) (by rw [hsz]; kernel_rfl) (fun w => Below w0.heap.size w0 w ∧ Below W.heap.size W w) (fun w w' => Below w.heap.size w w') (fun i w v => ((Ma4Sp ga gb gc ge ai ao an pi po pn qi qo qn).getD i .any).holds w v) ⟨bdr hb0, bdr (Below.refl _ _)⟩ (fun w w' j v hb h => Sp.mono _ hb h) ?_ ?_ ?_
  · intro i w v hn h
    have hge := gpAll_ge (by kernel_rfl) hn
    have e : (Ma4Sp ga gb gc ge ai ao an pi po pn qi qo qn).getD i .any = .any := by rw [List.getD_eq_getElem?_getD, List.getElem?_eq_none (by exact hge)]; rfl
    rw [e]
    trivial
  · intro i o ho a w hI hk hd
    have hi : i < 26 := (Array.getElem?_eq_some_iff.1 ho).1
    have h3 : a.tmps.getD 3 undef = .pointer (some ⟨ga, 0, none⟩) := (hk.2.2 3 (gpFree_ne (by kernel_rfl))).trans f3
    have h4 : a.tmps.getD 4 undef = .pointer (some ⟨gb, 0, none⟩) := (hk.2.2 4 (gpFree_ne (by kernel_rfl))).trans f4
    have h5 : a.tmps.getD 5 undef = .pointer (some ⟨gc, 0, none⟩) := (hk.2.2 5 (gpFree_ne (by kernel_rfl))).trans f5
    have h7 : a.tmps.getD 7 undef = .pointer (some ⟨ge, 0, none⟩) := (hk.2.2 7 (gpFree_ne (by kernel_rfl))).trans f7
    have c0 : w.cell? ⟨ga, 0, none⟩ = some (.int .i64 (ai : Nat)) := cell_call C0 hI.2
    have c1 : w.cell? ⟨ga, 1, none⟩ = some (.string (ba' an)) := cell_call C1 hI.2
    have c2 : w.cell? ⟨ga, 2, none⟩ = some (.int .i64 (ao : Nat)) := cell_call C2 hI.2
    have c3 : w.cell? ⟨ge, 0, none⟩ = some (.int .i64 0) := cell_call C3 hI.2
    have c4 : w.cell? ⟨ge, 1, none⟩ = some (.string ⟨#[]⟩) := cell_call C4 hI.2
    have c5 : w.cell? ⟨ge, 2, none⟩ = some (.int .i64 3) := cell_call C5 hI.2
    rcases (by omega : i = 0 ∨ i = 1 ∨ i = 2 ∨ i = 3 ∨ i = 4 ∨ i = 5 ∨ i = 6 ∨ i = 7 ∨ i = 8 ∨ i = 9 ∨ i = 10 ∨ i = 11 ∨ i = 12 ∨ i = 13 ∨ i = 14 ∨ i = 15 ∨ i = 16 ∨ i = 17 ∨ i = 18 ∨ i = 19 ∨ i = 20 ∨ i = 21 ∨ i = 22 ∨ i = 23 ∨ i = 24 ∨ i = 25) with rfl | rfl | rfl | rfl | rfl | rfl | rfl | rfl | rfl | rfl | rfl | rfl | rfl | rfl | rfl | rfl | rfl | rfl | rfl | rfl | rfl | rfl | rfl | rfl | rfl | rfl
    · simp only [List.getElem?_toArray, List.getElem?_cons_zero, Option.some.injEq] at ho
      subst ho
      rw [if_pos (gp_none rfl)]
      intro K hK
      go_simp
      go_at_call 19
      refine (E0.out _ hI.1).mono ?_
      rintro e w' ⟨rfl, hb⟩
      exact hK _ _ hb ⟨bt hI.1 hb, bt hI.2 hb⟩ rfl
    · simp only [List.getElem?_toArray, List.getElem?_cons_zero, List.getElem?_cons_succ, Option.some.injEq] at ho
      subst ho
      rw [if_pos (gp_none rfl)]
      intro K hK
      go_simp
      exact hK _ _ (Below.refl _ _) hI rfl
    · simp only [List.getElem?_toArray, List.getElem?_cons_zero, List.getElem?_cons_succ, Option.some.injEq] at ho
      subst ho
      have h29 : a.tmps.getD 29 undef = .agg #[.int .i64 0, .string ⟨#[]⟩, .int .i64 3] := hd ⟨0, .data⟩ (by simp) rfl
      have h30 : a.tmps.getD 30 undef = .agg #[.int .i64 0, .string ⟨#[]⟩, .int .i64 3] := hd ⟨1, .data⟩ (by simp) rfl
      rw [if_pos (gp_none rfl)]
      intro K hK
      go_simp
      exact hK _ _ (Below.refl _ _) hI rfl
    · simp only [List.getElem?_toArray, List.getElem?_cons_zero, List.getElem?_cons_succ, Option.some.injEq] at ho
      subst ho
      have h31 : a.tmps.getD 31 undef = .bool false := hd ⟨2, .data⟩ (by simp) rfl
      rw [if_pos (gp_none rfl)]
      intro K hK
      go_simp
      exact hK _ _ (Below.refl _ _) hI rfl
    · simp only [List.getElem?_toArray, List.getElem?_cons_zero, List.getElem?_cons_succ, Option.some.injEq] at ho
      subst ho
      have h32 : a.tmps.getD 32 undef = .bool false := hd ⟨3, .guard⟩ (by simp) rfl
      have hgv : gpVal _ a 3 = .bool false := hd ⟨3, .guard⟩ (by simp) rfl
      rw [if_pos (by rw [gp_some rfl hgv]; decide)]
      clear hgv
      intro K hK
      go_simp
      go_at_call 20
      refine (J0.out _ hI.1).mono ?_
      rintro e w' ⟨rfl, hb⟩
      exact hK _ _ hb ⟨bt hI.1 hb, bt hI.2 hb⟩ rfl
    · simp only [List.getElem?_toArray, List.getElem?_cons_zero, List.getElem?_cons_succ, Option.some.injEq] at ho
      subst ho
      have h32 : a.tmps.getD 32 undef = .bool false := hd ⟨3, .guard⟩ (by simp) rfl
      have hgv : gpVal _ a 3 = .bool false := hd ⟨3, .guard⟩ (by simp) rfl
      rw [if_pos (by rw [gp_some rfl hgv]; decide)]
      clear hgv
      intro K hK
      go_simp
      exact hK _ _ (Below.refl _ _) hI rfl
    · simp only [List.getElem?_toArray, List.getElem?_cons_zero, List.getElem?_cons_succ, Option.some.injEq] at ho
      subst ho
      have h33 : a.tmps.getD 33 undef = .agg #[.int .i64 0, .string ⟨#[]⟩, .int .i64 3] := hd ⟨4, .data⟩ (by simp) rfl
      have h34 : a.tmps.getD 34 undef = .agg #[.int .i64 0, .string ⟨#[]⟩, .int .i64 3] := hd ⟨5, .data⟩ (by simp) rfl
      have h32 : a.tmps.getD 32 undef = .bool false := hd ⟨3, .guard⟩ (by simp) rfl
      have hgv : gpVal _ a 3 = .bool false := hd ⟨3, .guard⟩ (by simp) rfl
      rw [if_pos (by rw [gp_some rfl hgv]; decide)]
      clear hgv
      intro K hK
      go_simp
      exact hK _ _ (Below.refl _ _) hI rfl
    · simp only [List.getElem?_toArray, List.getElem?_cons_zero, List.getElem?_cons_succ, Option.some.injEq] at ho
      subst ho
      have h32 : a.tmps.getD 32 undef = .bool false := hd ⟨3, .data⟩ (by simp) rfl
      have h35 : a.tmps.getD 35 undef = .bool false := hd ⟨6, .data⟩ (by simp) rfl
      rw [if_pos (gp_none rfl)]
      intro K hK
      go_simp
      exact hK _ _ (Below.refl _ _) hI rfl
    · simp only [List.getElem?_toArray, List.getElem?_cons_zero, List.getElem?_cons_succ, Option.some.injEq] at ho
      subst ho
      have h36 : a.tmps.getD 36 undef = .bool false := hd ⟨7, .data⟩ (by simp) rfl
      rw [if_pos (gp_none rfl)]
      intro K hK
      go_simp
      exact hK _ _ (Below.refl _ _) hI rfl
    · simp only [List.getElem?_toArray, List.getElem?_cons_zero, List.getElem?_cons_succ, Option.some.injEq] at ho
      subst ho
      have h37 : a.tmps.getD 37 undef = .bool false := hd ⟨8, .guard⟩ (by simp) rfl
      have hgv : gpVal _ a 8 = .bool false := hd ⟨8, .guard⟩ (by simp) rfl
      rw [if_pos (by rw [gp_some rfl hgv]; decide)]
      clear hgv
      intro K hK
      go_simp
      exact hK _ _ (Below.refl _ _) hI rfl
    · simp only [List.getElem?_toArray, List.getElem?_cons_zero, List.getElem?_cons_succ, Option.some.injEq] at ho
      subst ho
      have h38 : a.tmps.getD 38 undef = .agg #[.int .i64 (ai : Nat), .string (ba' an), .int .i64 (ao : Nat)] := hd ⟨9, .data⟩ (by simp) rfl
      have k38 := tmp' h38
      have h37 : a.tmps.getD 37 undef = .bool false := hd ⟨8, .guard⟩ (by simp) rfl
      have k37 := tmp' h37
      have hgv : gpVal _ a 8 = .bool false := hd ⟨8, .guard⟩ (by simp) rfl
      rw [if_pos (by rw [gp_some rfl hgv]; decide)]
      clear hgv
      intro K hK
      go_simp
      exact hK _ _ (ba (Below.refl _ _)) ⟨ba hI.1, ba hI.2⟩ ⟨_, rfl, by simp, row1_new _ _⟩
    · simp only [List.getElem?_toArray, List.getElem?_cons_zero, List.getElem?_cons_succ, Option.some.injEq] at ho
      subst ho
      obtain ⟨sg, hsq, hsg, hrow⟩ : SL w [⟨⟨ai, an⟩, ao⟩] 1 (a.tmps.getD 39 undef) := hd ⟨10, .data⟩ (by simp) rfl
      have h37 : a.tmps.getD 37 undef = .bool false := hd ⟨8, .guard⟩ (by simp) rfl
      have hgv : gpVal _ a 8 = .bool false := hd ⟨8, .guard⟩ (by simp) rfl
      rw [if_pos (by rw [gp_some rfl hgv]; decide)]
      clear hgv
      intro K hK
      go_simp
      go_at_call 19
      refine (E1.out _ _ hI.1 hsg hrow).mono ?_
      rintro e w' ⟨rfl, hb⟩
      exact hK _ _ hb ⟨bt hI.1 hb, bt hI.2 hb⟩ rfl
    · simp only [List.getElem?_toArray, List.getElem?_cons_zero, List.getElem?_cons_succ, Option.some.injEq] at ho
      subst ho
      have h37 : a.tmps.getD 37 undef = .bool false := hd ⟨8, .guard⟩ (by simp) rfl
      have hgv : gpVal _ a 8 = .bool false := hd ⟨8, .guard⟩ (by simp) rfl
      rw [if_pos (by rw [gp_some rfl hgv]; decide)]
      clear hgv
      intro K hK
      go_simp
      exact hK _ _ (Below.refl _ _) hI rfl
    · simp only [List.getElem?_toArray, List.getElem?_cons_zero, List.getElem?_cons_succ, Option.some.injEq] at ho
      subst ho
      have h37 : a.tmps.getD 37 undef = .bool false := hd ⟨8, .guard⟩ (by simp) rfl
      have hgv : gpVal _ a 8 = .bool false := hd ⟨8, .guard⟩ (by simp) rfl
      rw [if_pos (by rw [gp_some rfl hgv]; decide)]
      clear hgv
      intro K hK
      go_simp
      exact hK _ _ (Below.refl _ _) hI rfl
    · simp only [List.getElem?_toArray, List.getElem?_cons_zero, List.getElem?_cons_succ, Option.some.injEq] at ho
      subst ho
      have h41 : a.tmps.getD 41 undef = .agg #[.int .i64 (ai : Nat), .string (ba' an), .int .i64 (ao : Nat)] := hd ⟨12, .data⟩ (by simp) rfl
      have h42 : a.tmps.getD 42 undef = .agg #[.int .i64 (ai : Nat), .string (ba' an), .int .i64 (ao : Nat)] := hd ⟨13, .data⟩ (by simp) rfl
      have h37 : a.tmps.getD 37 undef = .bool false := hd ⟨8, .guard⟩ (by simp) rfl
      have hgv : gpVal _ a 8 = .bool false := hd ⟨8, .guard⟩ (by simp) rfl
      rw [if_pos (by rw [gp_some rfl hgv]; decide)]
      clear hgv
      intro K hK
      go_simp
      go_at_call 21
      refine (T0.out _ hI.1).mono ?_
      rintro e w' ⟨rfl, hb⟩
      exact hK _ _ hb ⟨bt hI.1 hb, bt hI.2 hb⟩ rfl
    · simp only [List.getElem?_toArray, List.getElem?_cons_zero, List.getElem?_cons_succ, Option.some.injEq] at ho
      subst ho
      have h40 : a.tmps.getD 40 undef = .agg #[.int .i64 (pi : Nat), .string (ba' pn), .int .i64 (po : Nat)] := hd ⟨11, .data⟩ (by simp) rfl
      have h43 : a.tmps.getD 43 undef = .agg #[.int .i64 (pi : Nat), .string (ba' pn), .int .i64 (po : Nat)] := hd ⟨14, .data⟩ (by simp) rfl
      have h37 : a.tmps.getD 37 undef = .bool false := hd ⟨8, .guard⟩ (by simp) rfl
      have hgv : gpVal _ a 8 = .bool false := hd ⟨8, .guard⟩ (by simp) rfl
      rw [if_pos (by rw [gp_some rfl hgv]; decide)]
      clear hgv
      intro K hK
      go_simp
      exact hK _ _ (Below.refl _ _) hI rfl
    · simp only [List.getElem?_toArray, List.getElem?_cons_zero, List.getElem?_cons_succ, Option.some.injEq] at ho
      subst ho
      have h37 : a.tmps.getD 37 undef = .bool false := hd ⟨8, .data⟩ (by simp) rfl
      have h44 : a.tmps.getD 44 undef = .bool false := hd ⟨15, .data⟩ (by simp) rfl
      rw [if_pos (gp_none rfl)]
      intro K hK
      go_simp
      exact hK _ _ (Below.refl _ _) hI rfl
    · simp only [List.getElem?_toArray, List.getElem?_cons_zero, List.getElem?_cons_succ, Option.some.injEq] at ho
      subst ho
      have h45 : a.tmps.getD 45 undef = .bool false := hd ⟨16, .data⟩ (by simp) rfl
      rw [if_pos (gp_none rfl)]
      intro K hK
      go_simp
      exact hK _ _ (Below.refl _ _) hI rfl
    · simp only [List.getElem?_toArray, List.getElem?_cons_zero, List.getElem?_cons_succ, Option.some.injEq] at ho
      subst ho
      have h46 : a.tmps.getD 46 undef = .bool false := hd ⟨17, .guard⟩ (by simp) rfl
      have hgv : gpVal _ a 17 = .bool false := hd ⟨17, .guard⟩ (by simp) rfl
      rw [if_pos (by rw [gp_some rfl hgv]; decide)]
      clear hgv
      intro K hK
      go_simp
      exact hK _ _ (Below.refl _ _) hI rfl
    · simp only [List.getElem?_toArray, List.getElem?_cons_zero, List.getElem?_cons_succ, Option.some.injEq] at ho
      subst ho
      have h47 : a.tmps.getD 47 undef = .agg #[.int .i64 (ai : Nat), .string (ba' an), .int .i64 (ao : Nat)] := hd ⟨18, .data⟩ (by simp) rfl
      have k47 := tmp' h47
      have h46 : a.tmps.getD 46 undef = .bool false := hd ⟨17, .guard⟩ (by simp) rfl
      have k46 := tmp' h46
      have hgv : gpVal _ a 17 = .bool false := hd ⟨17, .guard⟩ (by simp) rfl
      rw [if_pos (by rw [gp_some rfl hgv]; decide)]
      clear hgv
      intro K hK
      go_simp
      exact hK _ _ (ba (Below.refl _ _)) ⟨ba hI.1, ba hI.2⟩ ⟨_, rfl, by simp, row1_new _ _⟩
    · simp only [List.getElem?_toArray, List.getElem?_cons_zero, List.getElem?_cons_succ, Option.some.injEq] at ho
      subst ho
      obtain ⟨sg, hsq, hsg, hrow⟩ : SL w [⟨⟨ai, an⟩, ao⟩] 1 (a.tmps.getD 48 undef) := hd ⟨19, .data⟩ (by simp) rfl
      have h46 : a.tmps.getD 46 undef = .bool false := hd ⟨17, .guard⟩ (by simp) rfl
      have hgv : gpVal _ a 17 = .bool false := hd ⟨17, .guard⟩ (by simp) rfl
      rw [if_pos (by rw [gp_some rfl hgv]; decide)]
      clear hgv
      intro K hK
      go_simp
      go_at_call 20
      refine (J1.out _ _ hI.1 hsg hrow).mono ?_
      rintro e w' ⟨rfl, hb⟩
      exact hK _ _ hb ⟨bt hI.1 hb, bt hI.2 hb⟩ rfl
    · simp only [List.getElem?_toArray, List.getElem?_cons_zero, List.getElem?_cons_succ, Option.some.injEq] at ho
      subst ho
      have h46 : a.tmps.getD 46 undef = .bool false := hd ⟨17, .guard⟩ (by simp) rfl
      have hgv : gpVal _ a 17 = .bool false := hd ⟨17, .guard⟩ (by simp) rfl
      rw [if_pos (by rw [gp_some rfl hgv]; decide)]
      clear hgv
      intro K hK
      go_simp
      exact hK _ _ (Below.refl _ _) hI rfl
    · simp only [List.getElem?_toArray, List.getElem?_cons_zero, List.getElem?_cons_succ, Option.some.injEq] at ho
      subst ho
      have h46 : a.tmps.getD 46 undef = .bool false := hd ⟨17, .guard⟩ (by simp) rfl
      have hgv : gpVal _ a 17 = .bool false := hd ⟨17, .guard⟩ (by simp) rfl
      rw [if_pos (by rw [gp_some rfl hgv]; decide)]
      clear hgv
      intro K hK
      go_simp
      exact hK _ _ (Below.refl _ _) hI rfl
    · simp only [List.getElem?_toArray, List.getElem?_cons_zero, List.getElem?_cons_succ, Option.some.injEq] at ho
      subst ho
      have h50 : a.tmps.getD 50 undef = .agg #[.int .i64 0, .string ⟨#[]⟩, .int .i64 3] := hd ⟨21, .data⟩ (by simp) rfl
      have h51 : a.tmps.getD 51 undef = .agg #[.int .i64 (ai : Nat), .string (ba' an), .int .i64 (ao : Nat)] := hd ⟨22, .data⟩ (by simp) rfl
      have h46 : a.tmps.getD 46 undef = .bool false := hd ⟨17, .guard⟩ (by simp) rfl
      have hgv : gpVal _ a 17 = .bool false := hd ⟨17, .guard⟩ (by simp) rfl
      rw [if_pos (by rw [gp_some rfl hgv]; decide)]
      clear hgv
      intro K hK
      go_simp
      go_at_call 21
      refine (T1.out _ hI.1).mono ?_
      rintro e w' ⟨rfl, hb⟩
      exact hK _ _ hb ⟨bt hI.1 hb, bt hI.2 hb⟩ rfl
    · simp only [List.getElem?_toArray, List.getElem?_cons_zero, List.getElem?_cons_succ, Option.some.injEq] at ho
      subst ho
      have h49 : a.tmps.getD 49 undef = .agg #[.int .i64 (qi : Nat), .string (ba' qn), .int .i64 (qo : Nat)] := hd ⟨20, .data⟩ (by simp) rfl
      have h52 : a.tmps.getD 52 undef = .agg #[.int .i64 (qi : Nat), .string (ba' qn), .int .i64 (qo : Nat)] := hd ⟨23, .data⟩ (by simp) rfl
      have h46 : a.tmps.getD 46 undef = .bool false := hd ⟨17, .guard⟩ (by simp) rfl
      have hgv : gpVal _ a 17 = .bool false := hd ⟨17, .guard⟩ (by simp) rfl
      rw [if_pos (by rw [gp_some rfl hgv]; decide)]
      clear hgv
      intro K hK
      go_simp
      exact hK _ _ (Below.refl _ _) hI rfl
    · simp only [List.getElem?_toArray, List.getElem?_cons_zero, List.getElem?_cons_succ, Option.some.injEq] at ho
      subst ho
      have h46 : a.tmps.getD 46 undef = .bool false := hd ⟨17, .data⟩ (by simp) rfl
      have h53 : a.tmps.getD 53 undef = .bool false := hd ⟨24, .data⟩ (by simp) rfl
      rw [if_pos (gp_none rfl)]
      intro K hK
      go_simp
      exact hK _ _ (Below.refl _ _) hI rfl
  · intro a w hI hk hs
    exact hQ a w hk.1 (hk.2.1.trans hsz) (hs 25 (of_decide_eq_true (by kernel_rfl))) ((hk.2.2 3 (gpFree_ne (by kernel_rfl))).trans f3) ((hk.2.2 4 (gpFree_ne (by kernel_rfl))).trans f4) ((hk.2.2 5 (gpFree_ne (by kernel_rfl))).trans f5) hI.1
def Ma6Sq (W : World) (_ga _gb _gc : Nat) (ai ao : Nat) (an : List UInt8) (bi bo : Nat) (bn : List UInt8) (ci co : Nat) (cn : List UInt8) (pi po : Nat) (pn : List UInt8) (qi qo : Nat) (qn : List UInt8) : List Sq := [.val (.agg #[.int .i64 (ai : Nat), .string (ba' an), .int .i64 (ao : Nat)]), .val (.agg #[.int .i64 (bi : Nat), .string (ba' bn), .int .i64 (bo : Nat)]), .val (.agg #[.int .i64 (pi : Nat), .string (ba' pn), .int .i64 (po : Nat)]), .val (.agg #[.int .i64 (ci : Nat), .string (ba' cn), .int .i64 (co : Nat)]), .val (.agg #[.int .i64 (qi : Nat), .string (ba' qn), .int .i64 (qo : Nat)]), .box W.heap.size, .any]
set_option maxHeartbeats 16000000 in
theorem Ma6_region (ga gb gc : Nat) (ai ao : Nat) (an : List UInt8) (bi bo : Nat) (bn : List UInt8) (ci co : Nat) (cn : List UInt8) (pi po : Nat) (pn : List UInt8) (qi qo : Nat) (qn : List UInt8) (w0 : World) {W : World} {Q : Exit → Act → World → Prop} {a0 : Act} (hsz : a0.tmps.size = 99) (f3 : a0.tmps.getD 3 undef = .pointer (some ⟨ga, 0, none⟩)) (f4 : a0.tmps.getD 4 undef = .pointer (some ⟨gb, 0, none⟩)) (f5 : a0.tmps.getD 5 undef = .pointer (some ⟨gc, 0, none⟩)) (hb0 : Below w0.heap.size w0 W) (C0 : W.cell? ⟨ga, 0, none⟩ = some (.int .i64 (ai : Nat))) (C1 : W.cell? ⟨ga, 1, none⟩ = some (.string (ba' an))) (C2 : W.cell? ⟨ga, 2, none⟩ = some (.int .i64 (ao : Nat))) (C3 : W.cell? ⟨gb, 0, none⟩ = some (.int .i64 (bi : Nat))) (C4 : W.cell? ⟨gb, 1, none⟩ = some (.string (ba' bn))) (C5 : W.cell? ⟨gb, 2, none⟩ = some (.int .i64 (bo : Nat))) (C6 : W.cell? ⟨gc, 0, none⟩ = some (.int .i64 (ci : Nat))) (C7 : W.cell? ⟨gc, 1, none⟩ = some (.string (ba' cn))) (C8 : W.cell? ⟨gc, 2, none⟩ = some (.int .i64 (co : Nat))) (T0 : Hid (∀ w1, Below w0.heap.size w0 w1 → Calls Tryd.prog 21 #[.int .i64 0, .agg #[.int .i64 (ai : Nat), .string (ba' an), .int .i64 (ao : Nat)], .agg #[.int .i64 (bi : Nat), .string (ba' bn), .int .i64 (bo : Nat)]] w1 fun e w' => e = .returned (.agg #[.int .i64 (pi : Nat), .string (ba' pn), .int .i64 (po : Nat)]) ∧ Below w1.heap.size w1 w')) (T1 : Hid (∀ w1, Below w0.heap.size w0 w1 → Calls Tryd.prog 21 #[.int .i64 0, .agg #[.int .i64 (pi : Nat), .string (ba' pn), .int .i64 (po : Nat)], .agg #[.int .i64 (ci : Nat), .string (ba' cn), .int .i64 (co : Nat)]] w1 fun e w' => e = .returned (.agg #[.int .i64 (qi : Nat), .string (ba' qn), .int .i64 (qo : Nat)]) ∧ Below w1.heap.size w1 w'))
    (hQ : ∀ (A : Act) (w : World) (g : Nat), A.defers = a0.defers → A.tmps.size = 99 → A.tmps.getD 3 undef = .pointer (some ⟨ga, 0, none⟩) → A.tmps.getD 4 undef = .pointer (some ⟨gb, 0, none⟩) → A.tmps.getD 5 undef = .pointer (some ⟨gc, 0, none⟩) → A.tmps.getD 8 undef = .pointer (some ⟨g, 0, none⟩) → w.cell? ⟨g, 0, none⟩ = some (.int .i64 (qi : Nat)) → w.cell? ⟨g, 1, none⟩ = some (.string (ba' qn)) → w.cell? ⟨g, 2, none⟩ = some (.int .i64 (qo : Nat)) → Below W.heap.size W w → Q .normal A w) :
    Code.wp Tryd.prog ((Tryd.f4.body.bind (regionOf 6)).getD .skip) Q a0 W := by
  conv => arg 2; whnf
  (try simp only [List.append_eq, List.cons_append, List.nil_append])
  refine wp_region_plan_last (by kernel_rfl) (by kernel_rfl) (by kernel_rfl) (by rw [hsz]; kernel_rfl) 6 (by kernel_rfl) (fun w => Below w0.heap.size w0 w ∧ Below W.heap.size W w) (fun w w' => Below w.heap.size w w') (fun i w v => ((Ma6Sq W ga gb gc ai ao an bi bo bn ci co cn pi po pn qi qo qn).getD i .any).holds w v) ⟨bdr hb0, bdr (Below.refl _ _)⟩ (fun w w' j v hb h => Sq.mono _ hb h) ?_ ?_ ?_
  · intro i w v hne hn h
    have hi : i < 7 ∨ 7 ≤ i := Nat.lt_or_ge i 7
    rcases hi with hi | hi
    · exfalso
      rcases (by omega : i = 0 ∨ i = 1 ∨ i = 2 ∨ i = 3 ∨ i = 4 ∨ i = 5 ∨ i = 6) with rfl | rfl | rfl | rfl | rfl | rfl | rfl
      all_goals first | exact absurd rfl hne | exact absurd hn (by decide) | cases hn
    · have e : (Ma6Sq W ga gb gc ai ao an bi bo bn ci co cn pi po pn qi qo qn).getD i .any = .any := by rw [List.getD_eq_getElem?_getD, List.getElem?_eq_none (by exact hi)]; rfl
      rw [e]
      trivial
  · intro i o hne ho a w hI hk hd
    have hi : i < 7 := (Array.getElem?_eq_some_iff.1 ho).1
    have h3 : a.tmps.getD 3 undef = .pointer (some ⟨ga, 0, none⟩) := (hk.2.2 3 (gpFreeX_ne (by kernel_rfl))).trans f3
    have h4 : a.tmps.getD 4 undef = .pointer (some ⟨gb, 0, none⟩) := (hk.2.2 4 (gpFreeX_ne (by kernel_rfl))).trans f4
    have h5 : a.tmps.getD 5 undef = .pointer (some ⟨gc, 0, none⟩) := (hk.2.2 5 (gpFreeX_ne (by kernel_rfl))).trans f5
    have c0 : w.cell? ⟨ga, 0, none⟩ = some (.int .i64 (ai : Nat)) := cell_call C0 hI.2
    have c1 : w.cell? ⟨ga, 1, none⟩ = some (.string (ba' an)) := cell_call C1 hI.2
    have c2 : w.cell? ⟨ga, 2, none⟩ = some (.int .i64 (ao : Nat)) := cell_call C2 hI.2
    have c3 : w.cell? ⟨gb, 0, none⟩ = some (.int .i64 (bi : Nat)) := cell_call C3 hI.2
    have c4 : w.cell? ⟨gb, 1, none⟩ = some (.string (ba' bn)) := cell_call C4 hI.2
    have c5 : w.cell? ⟨gb, 2, none⟩ = some (.int .i64 (bo : Nat)) := cell_call C5 hI.2
    have c6 : w.cell? ⟨gc, 0, none⟩ = some (.int .i64 (ci : Nat)) := cell_call C6 hI.2
    have c7 : w.cell? ⟨gc, 1, none⟩ = some (.string (ba' cn)) := cell_call C7 hI.2
    have c8 : w.cell? ⟨gc, 2, none⟩ = some (.int .i64 (co : Nat)) := cell_call C8 hI.2
    rcases (by omega : i = 0 ∨ i = 1 ∨ i = 2 ∨ i = 3 ∨ i = 4 ∨ i = 5 ∨ i = 6) with rfl | rfl | rfl | rfl | rfl | rfl | rfl
    · simp only [List.getElem?_toArray, List.getElem?_cons_zero, Option.some.injEq] at ho
      subst ho
      rw [if_pos (gp_none rfl)]
      intro K hK
      go_simp
      exact hK _ _ (Below.refl _ _) hI rfl
    · simp only [List.getElem?_toArray, List.getElem?_cons_zero, List.getElem?_cons_succ, Option.some.injEq] at ho
      subst ho
      rw [if_pos (gp_none rfl)]
      intro K hK
      go_simp
      exact hK _ _ (Below.refl _ _) hI rfl
    · simp only [List.getElem?_toArray, List.getElem?_cons_zero, List.getElem?_cons_succ, Option.some.injEq] at ho
      subst ho
      have h55 : a.tmps.getD 55 undef = .agg #[.int .i64 (ai : Nat), .string (ba' an), .int .i64 (ao : Nat)] := hd ⟨0, .data⟩ (by simp) rfl (by decide)
      have h56 : a.tmps.getD 56 undef = .agg #[.int .i64 (bi : Nat), .string (ba' bn), .int .i64 (bo : Nat)] := hd ⟨1, .data⟩ (by simp) rfl (by decide)
      rw [if_pos (gp_none rfl)]
      intro K hK
      go_simp
      go_at_call 21
      refine (T0.out _ hI.1).mono ?_
      rintro e w' ⟨rfl, hb⟩
      exact hK _ _ hb ⟨bt hI.1 hb, bt hI.2 hb⟩ rfl
    · simp only [List.getElem?_toArray, List.getElem?_cons_zero, List.getElem?_cons_succ, Option.some.injEq] at ho
      subst ho
      rw [if_pos (gp_none rfl)]
      intro K hK
      go_simp
      exact hK _ _ (Below.refl _ _) hI rfl
    · simp only [List.getElem?_toArray, List.getElem?_cons_zero, List.getElem?_cons_succ, Option.some.injEq] at ho
      subst ho
      have h57 : a.tmps.getD 57 undef = .agg #[.int .i64 (pi : Nat), .string (ba' pn), .int .i64 (po : Nat)] := hd ⟨2, .data⟩ (by simp) rfl (by decide)
      have h58 : a.tmps.getD 58 undef = .agg #[.int .i64 (ci : Nat), .string (ba' cn), .int .i64 (co : Nat)] := hd ⟨3, .data⟩ (by simp) rfl (by decide)
      rw [if_pos (gp_none rfl)]
      intro K hK
      go_simp
      go_at_call 21
      refine (T1.out _ hI.1).mono ?_
      rintro e w' ⟨rfl, hb⟩
      exact hK _ _ hb ⟨bt hI.1 hb, bt hI.2 hb⟩ rfl
    · simp only [List.getElem?_toArray, List.getElem?_cons_zero, List.getElem?_cons_succ, Option.some.injEq] at ho
      subst ho
      rw [if_pos (gp_none rfl)]
      intro K hK
      go_simp
      exact hK _ _ (ba (Below.refl _ _)) ⟨ba hI.1, ba hI.2⟩ ⟨_, rfl, hI.2.size, heap_alloc_new w _⟩
    · exact absurd rfl hne
  · intro o ho a w hI hk hs
    simp only [List.getElem?_toArray, List.getElem?_cons_zero, List.getElem?_cons_succ, Option.some.injEq] at ho
    subst ho
    obtain ⟨g, hg, hlo, hz⟩ : ∃ g, a.tmps.getD 8 undef = .pointer (some ⟨g, 0, none⟩) ∧ W.heap.size ≤ g ∧ ZB w g := hs 5 (of_decide_eq_true (by kernel_rfl)) (by decide)
    have h59 : a.tmps.getD 59 undef = .agg #[.int .i64 (qi : Nat), .string (ba' qn), .int .i64 (qo : Nat)] := hs 4 (of_decide_eq_true (by kernel_rfl)) (by decide)
    have h8 := hg
    have z0 := Lib.cell_of_heap hz 0
    have y0 := Lib.frozen_of_heap hz 0
    have z1 := Lib.cell_of_heap hz 1
    have y1 := Lib.frozen_of_heap hz 1
    have z2 := Lib.cell_of_heap hz 2
    have y2 := Lib.frozen_of_heap hz 2
    simp only [List.getElem?_toArray, List.getElem?_cons_zero, List.getElem?_cons_succ] at z0 z1 z2
    rw [if_pos (gp_none rfl)]
    go_simp
    exact hQ _ _ g hk.1 (hk.2.1.trans hsz) ((hk.2.2 3 (gpFreeX_ne (by kernel_rfl))).trans f3) ((hk.2.2 4 (gpFreeX_ne (by kernel_rfl))).trans f4) ((hk.2.2 5 (gpFreeX_ne (by kernel_rfl))).trans f5) hg (by go_simp) (by go_simp) (by go_simp) (bs (bs (bs hI.2 hlo) hlo) hlo)
def Ma7Sq (W : World) (_ga _gb _gc : Nat) (ai ao : Nat) (an : List UInt8) (bi bo : Nat) (bn : List UInt8) (ci co : Nat) (cn : List UInt8) (pi po : Nat) (pn : List UInt8) (qi qo : Nat) (qn : List UInt8) (_v8 : Value) : List Sq := [.val (.agg #[.int .i64 (ai : Nat), .string (ba' an), .int .i64 (ao : Nat)]), .val (.agg #[.int .i64 (bi : Nat), .string (ba' bn), .int .i64 (bo : Nat)]), .val (.agg #[.int .i64 (pi : Nat), .string (ba' pn), .int .i64 (po : Nat)]), .val (.agg #[.int .i64 (ci : Nat), .string (ba' cn), .int .i64 (co : Nat)]), .val (.agg #[.int .i64 (qi : Nat), .string (ba' qn), .int .i64 (qo : Nat)]), .box W.heap.size, .any]
set_option maxHeartbeats 16000000 in
theorem Ma7_region (ga gb gc : Nat) (ai ao : Nat) (an : List UInt8) (bi bo : Nat) (bn : List UInt8) (ci co : Nat) (cn : List UInt8) (pi po : Nat) (pn : List UInt8) (qi qo : Nat) (qn : List UInt8) (v8 : Value) (w0 : World) {W : World} {Q : Exit → Act → World → Prop} {a0 : Act} (hsz : a0.tmps.size = 99) (f3 : a0.tmps.getD 3 undef = .pointer (some ⟨ga, 0, none⟩)) (f4 : a0.tmps.getD 4 undef = .pointer (some ⟨gb, 0, none⟩)) (f5 : a0.tmps.getD 5 undef = .pointer (some ⟨gc, 0, none⟩)) (f8 : a0.tmps.getD 8 undef = v8) (hb0 : Below w0.heap.size w0 W) (C0 : W.cell? ⟨ga, 0, none⟩ = some (.int .i64 (ai : Nat))) (C1 : W.cell? ⟨ga, 1, none⟩ = some (.string (ba' an))) (C2 : W.cell? ⟨ga, 2, none⟩ = some (.int .i64 (ao : Nat))) (C3 : W.cell? ⟨gb, 0, none⟩ = some (.int .i64 (bi : Nat))) (C4 : W.cell? ⟨gb, 1, none⟩ = some (.string (ba' bn))) (C5 : W.cell? ⟨gb, 2, none⟩ = some (.int .i64 (bo : Nat))) (C6 : W.cell? ⟨gc, 0, none⟩ = some (.int .i64 (ci : Nat))) (C7 : W.cell? ⟨gc, 1, none⟩ = some (.string (ba' cn))) (C8 : W.cell? ⟨gc, 2, none⟩ = some (.int .i64 (co : Nat))) (T0 : Hid (∀ w1, Below w0.heap.size w0 w1 → Calls Tryd.prog 21 #[.int .i64 1, .agg #[.int .i64 (ai : Nat), .string (ba' an), .int .i64 (ao : Nat)], .agg #[.int .i64 (bi : Nat), .string (ba' bn), .int .i64 (bo : Nat)]] w1 fun e w' => e = .returned (.agg #[.int .i64 (pi : Nat), .string (ba' pn), .int .i64 (po : Nat)]) ∧ Below w1.heap.size w1 w')) (T1 : Hid (∀ w1, Below w0.heap.size w0 w1 → Calls Tryd.prog 21 #[.int .i64 1, .agg #[.int .i64 (pi : Nat), .string (ba' pn), .int .i64 (po : Nat)], .agg #[.int .i64 (ci : Nat), .string (ba' cn), .int .i64 (co : Nat)]] w1 fun e w' => e = .returned (.agg #[.int .i64 (qi : Nat), .string (ba' qn), .int .i64 (qo : Nat)]) ∧ Below w1.heap.size w1 w'))
    (hQ : ∀ (A : Act) (w : World) (g : Nat), A.defers = a0.defers → A.tmps.size = 99 → A.tmps.getD 3 undef = .pointer (some ⟨ga, 0, none⟩) → A.tmps.getD 4 undef = .pointer (some ⟨gb, 0, none⟩) → A.tmps.getD 5 undef = .pointer (some ⟨gc, 0, none⟩) → A.tmps.getD 8 undef = v8 → A.tmps.getD 9 undef = .pointer (some ⟨g, 0, none⟩) → w.cell? ⟨g, 0, none⟩ = some (.int .i64 (qi : Nat)) → w.cell? ⟨g, 1, none⟩ = some (.string (ba' qn)) → w.cell? ⟨g, 2, none⟩ = some (.int .i64 (qo : Nat)) → Below W.heap.size W w → Q .normal A w) :
    Code.wp Tryd.prog ((Tryd.f4.body.bind (regionOf 7)).getD .skip) Q a0 W := by
  conv => arg 2; whnf
  (try simp only [List.append_eq, List.cons_append, List.nil_append])
  refine wp_region_plan_last (by kernel_rfl) (by kernel_rfl) (by kernel_rfl) (by rw [hsz]; kernel_rfl) 6 (by kernel_rfl) (fun w => Below w0.heap.size w0 w ∧ Below W.heap.size W w) (fun w w' => Below w.heap.size w w') (fun i w v => ((Ma7Sq W ga gb gc ai ao an bi bo bn ci co cn pi po pn qi qo qn v8).getD i .any).holds w v) ⟨bdr hb0, bdr (Below.refl _ _)⟩ (fun w w' j v hb h => Sq.mono _ hb h) ?_ ?_ ?_
  · intro i w v hne hn h
    have hi : i < 7 ∨ 7 ≤ i := Nat.lt_or_ge i 7
    rcases hi with hi | hi
    · exfalso
      rcases (by omega : i = 0 ∨ i = 1 ∨ i = 2 ∨ i = 3 ∨ i = 4 ∨ i = 5 ∨ i = 6) with rfl | rfl | rfl | rfl | rfl | rfl | rfl
      all_goals first | exact absurd rfl hne | exact absurd hn (by decide) | cases hn
    · have e : (Ma7Sq W ga gb gc ai ao an bi bo bn ci co cn pi po pn qi qo qn v8).getD i .any = .any := by rw [List.getD_eq_getElem?_getD, List.getElem?_eq_none (by exact hi)]; rfl
      rw [e]
      trivial
  · intro i o hne ho a w hI hk hd
    have hi : i < 7 := (Array.getElem?_eq_some_iff.1 ho).1
    have h3 : a.tmps.getD 3 undef = .pointer (some ⟨ga, 0, none⟩) := (hk.2.2 3 (gpFreeX_ne (by kernel_rfl))).trans f3
    have h4 : a.tmps.getD 4 undef = .pointer (some ⟨gb, 0, none⟩) := (hk.2.2 4 (gpFreeX_ne (by kernel_rfl))).trans f4
    have h5 : a.tmps.getD 5 undef = .pointer (some ⟨gc, 0, none⟩) := (hk.2.2 5 (gpFreeX_ne (by kernel_rfl))).trans f5
    have h8 : a.tmps.getD 8 undef = v8 := (hk.2.2 8 (gpFreeX_ne (by kernel_rfl))).trans f8
    have c0 : w.cell? ⟨ga, 0, none⟩ = some (.int .i64 (ai : Nat)) := cell_call C0 hI.2
    have c1 : w.cell? ⟨ga, 1, none⟩ = some (.string (ba' an)) := cell_call C1 hI.2
    have c2 : w.cell? ⟨ga, 2, none⟩ = some (.int .i64 (ao : Nat)) := cell_call C2 hI.2
    have c3 : w.cell? ⟨gb, 0, none⟩ = some (.int .i64 (bi : Nat)) := cell_call C3 hI.2
    have c4 : w.cell? ⟨gb, 1, none⟩ = some (.string (ba' bn)) := cell_call C4 hI.2
    have c5 : w.cell? ⟨gb, 2, none⟩ = some (.int .i64 (bo : Nat)) := cell_call C5 hI.2
    have c6 : w.cell? ⟨gc, 0, none⟩ = some (.int .i64 (ci : Nat)) := cell_call C6 hI.2
    have c7 : w.cell? ⟨gc, 1, none⟩ = some (.string (ba' cn)) := cell_call C7 hI.2
    have c8 : w.cell? ⟨gc, 2, none⟩ = some (.int .i64 (co : Nat)) := cell_call C8 hI.2
    rcases (by omega : i = 0 ∨ i = 1 ∨ i = 2 ∨ i = 3 ∨ i = 4 ∨ i = 5 ∨ i = 6) with rfl | rfl | rfl | rfl | rfl | rfl | rfl
    · simp only [List.getElem?_toArray, List.getElem?_cons_zero, Option.some.injEq] at ho
      subst ho
      rw [if_pos (gp_none rfl)]
      intro K hK
      go_simp
      exact hK _ _ (Below.refl _ _) hI rfl
    · simp only [List.getElem?_toArray, List.getElem?_cons_zero, List.getElem?_cons_succ, Option.some.injEq] at ho
      subst ho
      rw [if_pos (gp_none rfl)]
      intro K hK
      go_simp
      exact hK _ _ (Below.refl _ _) hI rfl
    · simp only [List.getElem?_toArray, List.getElem?_cons_zero, List.getElem?_cons_succ, Option.some.injEq] at ho
      subst ho
      have h60 : a.tmps.getD 60 undef = .agg #[.int .i64 (ai : Nat), .string (ba' an), .int .i64 (ao : Nat)] := hd ⟨0, .data⟩ (by simp) rfl (by decide)
      have h61 : a.tmps.getD 61 undef = .agg #[.int .i64 (bi : Nat), .string (ba' bn), .int .i64 (bo : Nat)] := hd ⟨1, .data⟩ (by simp) rfl (by decide)
      rw [if_pos (gp_none rfl)]
      intro K hK
      go_simp
      go_at_call 21
      refine (T0.out _ hI.1).mono ?_
      rintro e w' ⟨rfl, hb⟩
      exact hK _ _ hb ⟨bt hI.1 hb, bt hI.2 hb⟩ rfl
    · simp only [List.getElem?_toArray, List.getElem?_cons_zero, List.getElem?_cons_succ, Option.some.injEq] at ho
      subst ho
      rw [if_pos (gp_none rfl)]
      intro K hK
      go_simp
      exact hK _ _ (Below.refl _ _) hI rfl
    · simp only [List.getElem?_toArray, List.getElem?_cons_zero, List.getElem?_cons_succ, Option.some.injEq] at ho
      subst ho
      have h62 : a.tmps.getD 62 undef = .agg #[.int .i64 (pi : Nat), .string (ba' pn), .int .i64 (po : Nat)] := hd ⟨2, .data⟩ (by simp) rfl (by decide)
      have h63 : a.tmps.getD 63 undef = .agg #[.int .i64 (ci : Nat), .string (ba' cn), .int .i64 (co : Nat)] := hd ⟨3, .data⟩ (by simp) rfl (by decide)
      rw [if_pos (gp_none rfl)]
      intro K hK
      go_simp
      go_at_call 21
      refine (T1.out _ hI.1).mono ?_
      rintro e w' ⟨rfl, hb⟩
      exact hK _ _ hb ⟨bt hI.1 hb, bt hI.2 hb⟩ rfl
    · simp only [List.getElem?_toArray, List.getElem?_cons_zero, List.getElem?_cons_succ, Option.some.injEq] at ho
      subst ho
      rw [if_pos (gp_none rfl)]
      intro K hK
      go_simp
      exact hK _ _ (ba (Below.refl _ _)) ⟨ba hI.1, ba hI.2⟩ ⟨_, rfl, hI.2.size, heap_alloc_new w _⟩
    · exact absurd rfl hne
  · intro o ho a w hI hk hs
    simp only [List.getElem?_toArray, List.getElem?_cons_zero, List.getElem?_cons_succ, Option.some.injEq] at ho
    subst ho
    obtain ⟨g, hg, hlo, hz⟩ : ∃ g, a.tmps.getD 9 undef = .pointer (some ⟨g, 0, none⟩) ∧ W.heap.size ≤ g ∧ ZB w g := hs 5 (of_decide_eq_true (by kernel_rfl)) (by decide)
    have h64 : a.tmps.getD 64 undef = .agg #[.int .i64 (qi : Nat), .string (ba' qn), .int .i64 (qo : Nat)] := hs 4 (of_decide_eq_true (by kernel_rfl)) (by decide)
    have h9 := hg
    have z0 := Lib.cell_of_heap hz 0
    have y0 := Lib.frozen_of_heap hz 0
    have z1 := Lib.cell_of_heap hz 1
    have y1 := Lib.frozen_of_heap hz 1
    have z2 := Lib.cell_of_heap hz 2
    have y2 := Lib.frozen_of_heap hz 2
    simp only [List.getElem?_toArray, List.getElem?_cons_zero, List.getElem?_cons_succ] at z0 z1 z2
    rw [if_pos (gp_none rfl)]
    go_simp
    exact hQ _ _ g hk.1 (hk.2.1.trans hsz) ((hk.2.2 3 (gpFreeX_ne (by kernel_rfl))).trans f3) ((hk.2.2 4 (gpFreeX_ne (by kernel_rfl))).trans f4) ((hk.2.2 5 (gpFreeX_ne (by kernel_rfl))).trans f5) ((hk.2.2 8 (gpFreeX_ne (by kernel_rfl))).trans f8) hg (by go_simp) (by go_simp) (by go_simp) (bs (bs (bs hI.2 hlo) hlo) hlo)
def Ma8Sp (_ga _gb _gc _gx _gy : Nat) (sb : Bool) (ai ao : Nat) (an : List UInt8) (bi bo : Nat) (bn : List UInt8) (ci co : Nat) (cn : List UInt8) (pi po : Nat) (pn : List UInt8) (qi qo : Nat) (qn : List UInt8) (ti to : Nat) (tn : List UInt8) : List Sp := [.val (.agg #[.int .i64 (ai : Nat), .string (ba' an), .int .i64 (ao : Nat)]), .val (.agg #[.int .i64 (bi : Nat), .string (ba' bn), .int .i64 (bo : Nat)]), .val (.bool sb), .val (.agg #[.int .i64 (ai : Nat), .string (ba' an), .int .i64 (ao : Nat)]), .val (.agg #[.int .i64 (bi : Nat), .string (ba' bn), .int .i64 (bo : Nat)]), .val (.bool sb), .val (.bool true), .val (.bool true), .val (.agg #[.int .i64 (ai : Nat), .string (ba' an), .int .i64 (ao : Nat)]), .val (.agg #[.int .i64 (bi : Nat), .string (ba' bn), .int .i64 (bo : Nat)]), .val (.agg #[.int .i64 (ci : Nat), .string (ba' cn), .int .i64 (co : Nat)]), .sl [⟨⟨ai, an⟩, ao⟩, ⟨⟨bi, bn⟩, bo⟩, ⟨⟨ci, cn⟩, co⟩] 3, .val (.agg #[.int .i64 (pi : Nat), .string (ba' pn), .int .i64 (po : Nat)]), .val (.agg #[.int .i64 (pi : Nat), .string (ba' pn), .int .i64 (po : Nat)]), .val (.bool true), .val (.bool true), .val (.bool true), .val (.agg #[.int .i64 (ai : Nat), .string (ba' an), .int .i64 (ao : Nat)]), .val (.agg #[.int .i64 (bi : Nat), .string (ba' bn), .int .i64 (bo : Nat)]), .val (.agg #[.int .i64 (ci : Nat), .string (ba' cn), .int .i64 (co : Nat)]), .sl [⟨⟨ai, an⟩, ao⟩, ⟨⟨bi, bn⟩, bo⟩, ⟨⟨ci, cn⟩, co⟩] 3, .val (.agg #[.int .i64 (qi : Nat), .string (ba' qn), .int .i64 (qo : Nat)]), .val (.agg #[.int .i64 (qi : Nat), .string (ba' qn), .int .i64 (qo : Nat)]), .val (.bool true), .val (.bool true), .val (.bool true), .val (.agg #[.int .i64 (ai : Nat), .string (ba' an), .int .i64 (ao : Nat)]), .val (.agg #[.int .i64 (bi : Nat), .string (ba' bn), .int .i64 (bo : Nat)]), .val (.agg #[.int .i64 (ti : Nat), .string (ba' tn), .int .i64 (to : Nat)]), .val (.agg #[.int .i64 (ai : Nat), .string (ba' an), .int .i64 (ao : Nat)]), .val (.agg #[.int .i64 (bi : Nat), .string (ba' bn), .int .i64 (bo : Nat)]), .val (.agg #[.int .i64 (ti : Nat), .string (ba' tn), .int .i64 (to : Nat)]), .val (.bool true), .val (.bool true), .val (.bool true)]
set_option maxHeartbeats 16000000 in
theorem Ma8_region (ga gb gc gx gy : Nat) (sb : Bool) (ai ao : Nat) (an : List UInt8) (bi bo : Nat) (bn : List UInt8) (ci co : Nat) (cn : List UInt8) (pi po : Nat) (pn : List UInt8) (qi qo : Nat) (qn : List UInt8) (ti to : Nat) (tn : List UInt8) (w0 : World) {W : World} {Q : Exit → Act → World → Prop} {a0 : Act} (hsz : a0.tmps.size = 99) (f3 : a0.tmps.getD 3 undef = .pointer (some ⟨ga, 0, none⟩)) (f4 : a0.tmps.getD 4 undef = .pointer (some ⟨gb, 0, none⟩)) (f5 : a0.tmps.getD 5 undef = .pointer (some ⟨gc, 0, none⟩)) (f8 : a0.tmps.getD 8 undef = .pointer (some ⟨gx, 0, none⟩)) (f9 : a0.tmps.getD 9 undef = .pointer (some ⟨gy, 0, none⟩)) (hb0 : Below w0.heap.size w0 W) (C0 : W.cell? ⟨ga, 0, none⟩ = some (.int .i64 (ai : Nat))) (C1 : W.cell? ⟨ga, 1, none⟩ = some (.string (ba' an))) (C2 : W.cell? ⟨ga, 2, none⟩ = some (.int .i64 (ao : Nat))) (C3 : W.cell? ⟨gb, 0, none⟩ = some (.int .i64 (bi : Nat))) (C4 : W.cell? ⟨gb, 1, none⟩ = some (.string (ba' bn))) (C5 : W.cell? ⟨gb, 2, none⟩ = some (.int .i64 (bo : Nat))) (C6 : W.cell? ⟨gc, 0, none⟩ = some (.int .i64 (ci : Nat))) (C7 : W.cell? ⟨gc, 1, none⟩ = some (.string (ba' cn))) (C8 : W.cell? ⟨gc, 2, none⟩ = some (.int .i64 (co : Nat))) (C9 : W.cell? ⟨gx, 0, none⟩ = some (.int .i64 (pi : Nat))) (C10 : W.cell? ⟨gx, 1, none⟩ = some (.string (ba' pn))) (C11 : W.cell? ⟨gx, 2, none⟩ = some (.int .i64 (po : Nat))) (C12 : W.cell? ⟨gy, 0, none⟩ = some (.int .i64 (qi : Nat))) (C13 : W.cell? ⟨gy, 1, none⟩ = some (.string (ba' qn))) (C14 : W.cell? ⟨gy, 2, none⟩ = some (.int .i64 (qo : Nat))) (S1 : Hid (∀ w1, Below w0.heap.size w0 w1 → Calls Tryd.prog 22 #[.agg #[.int .i64 (ai : Nat), .string (ba' an), .int .i64 (ao : Nat)], .agg #[.int .i64 (bi : Nat), .string (ba' bn), .int .i64 (bo : Nat)]] w1 fun e w' => e = .returned (.bool sb) ∧ Below w1.heap.size w1 w')) (S2 : Hid (∀ w1, Below w0.heap.size w0 w1 → Calls Tryd.prog 23 #[.agg #[.int .i64 (ai : Nat), .string (ba' an), .int .i64 (ao : Nat)], .agg #[.int .i64 (bi : Nat), .string (ba' bn), .int .i64 (bo : Nat)]] w1 fun e w' => e = .returned (.bool sb) ∧ Below w1.heap.size w1 w')) (E3 : Hid (∀ w1 g, Below w0.heap.size w0 w1 → g < w1.heap.size → TRow w1 g [⟨⟨ai, an⟩, ao⟩, ⟨⟨bi, bn⟩, bo⟩, ⟨⟨ci, cn⟩, co⟩] → Calls Tryd.prog 19 #[.slice (some ⟨g, 0, none⟩) 3 3] w1 fun e w' => e = .returned (.agg #[.int .i64 (pi : Nat), .string (ba' pn), .int .i64 (po : Nat)]) ∧ Below w1.heap.size w1 w')) (J3 : Hid (∀ w1 g, Below w0.heap.size w0 w1 → g < w1.heap.size → TRow w1 g [⟨⟨ai, an⟩, ao⟩, ⟨⟨bi, bn⟩, bo⟩, ⟨⟨ci, cn⟩, co⟩] → Calls Tryd.prog 20 #[.slice (some ⟨g, 0, none⟩) 3 3] w1 fun e w' => e = .returned (.agg #[.int .i64 (qi : Nat), .string (ba' qn), .int .i64 (qo : Nat)]) ∧ Below w1.heap.size w1 w')) (Tm : Hid (∀ w1, Below w0.heap.size w0 w1 → Calls Tryd.prog 24 #[.agg #[.int .i64 (ai : Nat), .string (ba' an), .int .i64 (ao : Nat)], .agg #[.int .i64 (bi : Nat), .string (ba' bn), .int .i64 (bo : Nat)]] w1 fun e w' => e = .returned (.agg #[.int .i64 (ti : Nat), .string (ba' tn), .int .i64 (to : Nat)]) ∧ Below w1.heap.size w1 w')) (T2 : Hid (∀ w1, Below w0.heap.size w0 w1 → Calls Tryd.prog 21 #[.int .i64 2, .agg #[.int .i64 (ai : Nat), .string (ba' an), .int .i64 (ao : Nat)], .agg #[.int .i64 (bi : Nat), .string (ba' bn), .int .i64 (bo : Nat)]] w1 fun e w' => e = .returned (.agg #[.int .i64 (ti : Nat), .string (ba' tn), .int .i64 (to : Nat)]) ∧ Below w1.heap.size w1 w'))
    (hQ : ∀ (A : Act) (w : World), A.defers = a0.defers → A.tmps.size = 99 → A.tmps.getD 6 undef = .bool true → Below w0.heap.size w0 w → Q .normal A w) :
    Code.wp Tryd.prog ((Tryd.f4.body.bind (regionOf 8)).getD .skip) Q a0 W := by
  conv => arg 2; whnf
  (try simp only [List.append_eq, List.cons_append, List.nil_append])
  refine wp_region_plan (by kernel_rfl) (by kernel_rfl) (by kernel_rfl) (by rw [hsz]; kernel_rfl) (fun w => Below w0.heap.size w0 w ∧ Below W.heap.size W w) (fun w w' => Below w.heap.size w w') (fun i w v => ((Ma8Sp ga gb gc gx gy sb ai ao an bi bo bn ci co cn pi po pn qi qo qn ti to tn).getD i .any).holds w v) ⟨bdr hb0, bdr (Below.refl _ _)⟩ (fun w w' j v hb h => Sp.mono _ hb h) ?_ ?_ ?_
  · intro i w v hn h
    have hge := gpAll_ge (by kernel_rfl) hn
    have e : (Ma8Sp ga gb gc gx gy sb ai ao an bi bo bn ci co cn pi po pn qi qo qn ti to tn).getD i .any = .any := by rw [List.getD_eq_getElem?_getD, List.getElem?_eq_none (by exact hge)]; rfl
    rw [e]
    trivial
  · intro i o ho a w hI hk hd
    have hi : i < 35 := (Array.getElem?_eq_some_iff.1 ho).1
    have h3 : a.tmps.getD 3 undef = .pointer (some ⟨ga, 0, none⟩) := (hk.2.2 3 (gpFree_ne (by kernel_rfl))).trans f3
    have h4 : a.tmps.getD 4 undef = .pointer (some ⟨gb, 0, none⟩) := (hk.2.2 4 (gpFree_ne (by kernel_rfl))).trans f4
    have h5 : a.tmps.getD 5 undef = .pointer (some ⟨gc, 0, none⟩) := (hk.2.2 5 (gpFree_ne (by kernel_rfl))).trans f5
    have h8 : a.tmps.getD 8 undef = .pointer (some ⟨gx, 0, none⟩) := (hk.2.2 8 (gpFree_ne (by kernel_rfl))).trans f8
    have h9 : a.tmps.getD 9 undef = .pointer (some ⟨gy, 0, none⟩) := (hk.2.2 9 (gpFree_ne (by kernel_rfl))).trans f9
    have c0 : w.cell? ⟨ga, 0, none⟩ = some (.int .i64 (ai : Nat)) := cell_call C0 hI.2
    have c1 : w.cell? ⟨ga, 1, none⟩ = some (.string (ba' an)) := cell_call C1 hI.2
    have c2 : w.cell? ⟨ga, 2, none⟩ = some (.int .i64 (ao : Nat)) := cell_call C2 hI.2
    have c3 : w.cell? ⟨gb, 0, none⟩ = some (.int .i64 (bi : Nat)) := cell_call C3 hI.2
    have c4 : w.cell? ⟨gb, 1, none⟩ = some (.string (ba' bn)) := cell_call C4 hI.2
    have c5 : w.cell? ⟨gb, 2, none⟩ = some (.int .i64 (bo : Nat)) := cell_call C5 hI.2
    have c6 : w.cell? ⟨gc, 0, none⟩ = some (.int .i64 (ci : Nat)) := cell_call C6 hI.2
    have c7 : w.cell? ⟨gc, 1, none⟩ = some (.string (ba' cn)) := cell_call C7 hI.2
    have c8 : w.cell? ⟨gc, 2, none⟩ = some (.int .i64 (co : Nat)) := cell_call C8 hI.2
    have c9 : w.cell? ⟨gx, 0, none⟩ = some (.int .i64 (pi : Nat)) := cell_call C9 hI.2
    have c10 : w.cell? ⟨gx, 1, none⟩ = some (.string (ba' pn)) := cell_call C10 hI.2
    have c11 : w.cell? ⟨gx, 2, none⟩ = some (.int .i64 (po : Nat)) := cell_call C11 hI.2
    have c12 : w.cell? ⟨gy, 0, none⟩ = some (.int .i64 (qi : Nat)) := cell_call C12 hI.2
    have c13 : w.cell? ⟨gy, 1, none⟩ = some (.string (ba' qn)) := cell_call C13 hI.2
    have c14 : w.cell? ⟨gy, 2, none⟩ = some (.int .i64 (qo : Nat)) := cell_call C14 hI.2
    rcases (by omega : i = 0 ∨ i = 1 ∨ i = 2 ∨ i = 3 ∨ i = 4 ∨ i = 5 ∨ i = 6 ∨ i = 7 ∨ i = 8 ∨ i = 9 ∨ i = 10 ∨ i = 11 ∨ i = 12 ∨ i = 13 ∨ i = 14 ∨ i = 15 ∨ i = 16 ∨ i = 17 ∨ i = 18 ∨ i = 19 ∨ i = 20 ∨ i = 21 ∨ i = 22 ∨ i = 23 ∨ i = 24 ∨ i = 25 ∨ i = 26 ∨ i = 27 ∨ i = 28 ∨ i = 29 ∨ i = 30 ∨ i = 31 ∨ i = 32 ∨ i = 33 ∨ i = 34) with rfl | rfl | rfl | rfl | rfl | rfl | rfl | rfl | rfl | rfl | rfl | rfl | rfl | rfl | rfl | rfl | rfl | rfl | rfl | rfl | rfl | rfl | rfl | rfl | rfl | rfl | rfl | rfl | rfl | rfl | rfl | rfl | rfl | rfl | rfl
    · simp only [List.getElem?_toArray, List.getElem?_cons_zero, Option.some.injEq] at ho
      subst ho
      rw [if_pos (gp_none rfl)]
      intro K hK
      go_simp
      exact hK _ _ (Below.refl _ _) hI rfl
    · simp only [List.getElem?_toArray, List.getElem?_cons_zero, List.getElem?_cons_succ, Option.some.injEq] at ho
      subst ho
      rw [if_pos (gp_none rfl)]
      intro K hK
      go_simp
      exact hK _ _ (Below.refl _ _) hI rfl
    · simp only [List.getElem?_toArray, List.getElem?_cons_zero, List.getElem?_cons_succ, Option.some.injEq] at ho
      subst ho
      have h65 : a.tmps.getD 65 undef = .agg #[.int .i64 (ai : Nat), .string (ba' an), .int .i64 (ao : Nat)] := hd ⟨0, .data⟩ (by simp) rfl
      have h66 : a.tmps.getD 66 undef = .agg #[.int .i64 (bi : Nat), .string (ba' bn), .int .i64 (bo : Nat)] := hd ⟨1, .data⟩ (by simp) rfl
      rw [if_pos (gp_none rfl)]
      intro K hK
      go_simp
      go_at_call 22
      refine (S1.out _ hI.1).mono ?_
      rintro e w' ⟨rfl, hb⟩
      exact hK _ _ hb ⟨bt hI.1 hb, bt hI.2 hb⟩ rfl
    · simp only [List.getElem?_toArray, List.getElem?_cons_zero, List.getElem?_cons_succ, Option.some.injEq] at ho
      subst ho
      rw [if_pos (gp_none rfl)]
      intro K hK
      go_simp
      exact hK _ _ (Below.refl _ _) hI rfl
    · simp only [List.getElem?_toArray, List.getElem?_cons_zero, List.getElem?_cons_succ, Option.some.injEq] at ho
      subst ho
      rw [if_pos (gp_none rfl)]
      intro K hK
      go_simp
      exact hK _ _ (Below.refl _ _) hI rfl
    · simp only [List.getElem?_toArray, List.getElem?_cons_zero, List.getElem?_cons_succ, Option.some.injEq] at ho
      subst ho
      have h68 : a.tmps.getD 68 undef = .agg #[.int .i64 (ai : Nat), .string (ba' an), .int .i64 (ao : Nat)] := hd ⟨3, .data⟩ (by simp) rfl
      have h69 : a.tmps.getD 69 undef = .agg #[.int .i64 (bi : Nat), .string (ba' bn), .int .i64 (bo : Nat)] := hd ⟨4, .data⟩ (by simp) rfl
      rw [if_pos (gp_none rfl)]
      intro K hK
      go_simp
      go_at_call 23
      refine (S2.out _ hI.1).mono ?_
      rintro e w' ⟨rfl, hb⟩
      exact hK _ _ hb ⟨bt hI.1 hb, bt hI.2 hb⟩ rfl
    · simp only [List.getElem?_toArray, List.getElem?_cons_zero, List.getElem?_cons_succ, Option.some.injEq] at ho
      subst ho
      have h67 : a.tmps.getD 67 undef = .bool sb := hd ⟨2, .data⟩ (by simp) rfl
      have h70 : a.tmps.getD 70 undef = .bool sb := hd ⟨5, .data⟩ (by simp) rfl
      rw [if_pos (gp_none rfl)]
      intro K hK
      go_simp
      exact hK _ _ (Below.refl _ _) hI rfl
    · simp only [List.getElem?_toArray, List.getElem?_cons_zero, List.getElem?_cons_succ, Option.some.injEq] at ho
      subst ho
      have h71 : a.tmps.getD 71 undef = .bool true := hd ⟨6, .data⟩ (by simp) rfl
      rw [if_pos (gp_none rfl)]
      intro K hK
      go_simp
      exact hK _ _ (Below.refl _ _) hI rfl
    · simp only [List.getElem?_toArray, List.getElem?_cons_zero, List.getElem?_cons_succ, Option.some.injEq] at ho
      subst ho
      have h72 : a.tmps.getD 72 undef = .bool true := hd ⟨7, .guard⟩ (by simp) rfl
      have hgv : gpVal _ a 7 = .bool true := hd ⟨7, .guard⟩ (by simp) rfl
      rw [if_pos (by rw [gp_some rfl hgv]; decide)]
      clear hgv
      intro K hK
      go_simp
      exact hK _ _ (Below.refl _ _) hI rfl
    · simp only [List.getElem?_toArray, List.getElem?_cons_zero, List.getElem?_cons_succ, Option.some.injEq] at ho
      subst ho
      have h72 : a.tmps.getD 72 undef = .bool true := hd ⟨7, .guard⟩ (by simp) rfl
      have hgv : gpVal _ a 7 = .bool true := hd ⟨7, .guard⟩ (by simp) rfl
      rw [if_pos (by rw [gp_some rfl hgv]; decide)]
      clear hgv
      intro K hK
      go_simp
      exact hK _ _ (Below.refl _ _) hI rfl
    · simp only [List.getElem?_toArray, List.getElem?_cons_zero, List.getElem?_cons_succ, Option.some.injEq] at ho
      subst ho
      have h72 : a.tmps.getD 72 undef = .bool true := hd ⟨7, .guard⟩ (by simp) rfl
      have hgv : gpVal _ a 7 = .bool true := hd ⟨7, .guard⟩ (by simp) rfl
      rw [if_pos (by rw [gp_some rfl hgv]; decide)]
      clear hgv
      intro K hK
      go_simp
      exact hK _ _ (Below.refl _ _) hI rfl
    · simp only [List.getElem?_toArray, List.getElem?_cons_zero, List.getElem?_cons_succ, Option.some.injEq] at ho
      subst ho
      have h73 : a.tmps.getD 73 undef = .agg #[.int .i64 (ai : Nat), .string (ba' an), .int .i64 (ao : Nat)] := hd ⟨8, .data⟩ (by simp) rfl
      have k73 := tmp' h73
      have h74 : a.tmps.getD 74 undef = .agg #[.int .i64 (bi : Nat), .string (ba' bn), .int .i64 (bo : Nat)] := hd ⟨9, .data⟩ (by simp) rfl
      have k74 := tmp' h74
      have h75 : a.tmps.getD 75 undef = .agg #[.int .i64 (ci : Nat), .string (ba' cn), .int .i64 (co : Nat)] := hd ⟨10, .data⟩ (by simp) rfl
      have k75 := tmp' h75
      have h72 : a.tmps.getD 72 undef = .bool true := hd ⟨7, .guard⟩ (by simp) rfl
      have k72 := tmp' h72
      have hgv : gpVal _ a 7 = .bool true := hd ⟨7, .guard⟩ (by simp) rfl
      rw [if_pos (by rw [gp_some rfl hgv]; decide)]
      clear hgv
      intro K hK
      go_simp
      exact hK _ _ (ba (Below.refl _ _)) ⟨ba hI.1, ba hI.2⟩ ⟨_, rfl, by simp, row3_new _ _ _ _⟩
    · simp only [List.getElem?_toArray, List.getElem?_cons_zero, List.getElem?_cons_succ, Option.some.injEq] at ho
      subst ho
      obtain ⟨sg, hsq, hsg, hrow⟩ : SL w [⟨⟨ai, an⟩, ao⟩, ⟨⟨bi, bn⟩, bo⟩, ⟨⟨ci, cn⟩, co⟩] 3 (a.tmps.getD 76 undef) := hd ⟨11, .data⟩ (by simp) rfl
      have h72 : a.tmps.getD 72 undef = .bool true := hd ⟨7, .guard⟩ (by simp) rfl
      have hgv : gpVal _ a 7 = .bool true := hd ⟨7, .guard⟩ (by simp) rfl
      rw [if_pos (by rw [gp_some rfl hgv]; decide)]
      clear hgv
      intro K hK
      go_simp
      go_at_call 19
      refine (E3.out _ _ hI.1 hsg hrow).mono ?_
      rintro e w' ⟨rfl, hb⟩
      exact hK _ _ hb ⟨bt hI.1 hb, bt hI.2 hb⟩ rfl
    · simp only [List.getElem?_toArray, List.getElem?_cons_zero, List.getElem?_cons_succ, Option.some.injEq] at ho
      subst ho
      have h72 : a.tmps.getD 72 undef = .bool true := hd ⟨7, .guard⟩ (by simp) rfl
      have hgv : gpVal _ a 7 = .bool true := hd ⟨7, .guard⟩ (by simp) rfl
      rw [if_pos (by rw [gp_some rfl hgv]; decide)]
      clear hgv
      intro K hK
      go_simp
      exact hK _ _ (Below.refl _ _) hI rfl
    · simp only [List.getElem?_toArray, List.getElem?_cons_zero, List.getElem?_cons_succ, Option.some.injEq] at ho
      subst ho
      have h77 : a.tmps.getD 77 undef = .agg #[.int .i64 (pi : Nat), .string (ba' pn), .int .i64 (po : Nat)] := hd ⟨12, .data⟩ (by simp) rfl
      have h78 : a.tmps.getD 78 undef = .agg #[.int .i64 (pi : Nat), .string (ba' pn), .int .i64 (po : Nat)] := hd ⟨13, .data⟩ (by simp) rfl
      have h72 : a.tmps.getD 72 undef = .bool true := hd ⟨7, .guard⟩ (by simp) rfl
      have hgv : gpVal _ a 7 = .bool true := hd ⟨7, .guard⟩ (by simp) rfl
      rw [if_pos (by rw [gp_some rfl hgv]; decide)]
      clear hgv
      intro K hK
      go_simp
      exact hK _ _ (Below.refl _ _) hI rfl
    · simp only [List.getElem?_toArray, List.getElem?_cons_zero, List.getElem?_cons_succ, Option.some.injEq] at ho
      subst ho
      have h72 : a.tmps.getD 72 undef = .bool true := hd ⟨7, .data⟩ (by simp) rfl
      have h79 : a.tmps.getD 79 undef = .bool true := hd ⟨14, .data⟩ (by simp) rfl
      rw [if_pos (gp_none rfl)]
      intro K hK
      go_simp
      exact hK _ _ (Below.refl _ _) hI rfl
    · simp only [List.getElem?_toArray, List.getElem?_cons_zero, List.getElem?_cons_succ, Option.some.injEq] at ho
      subst ho
      have h80 : a.tmps.getD 80 undef = .bool true := hd ⟨15, .data⟩ (by simp) rfl
      rw [if_pos (gp_none rfl)]
      intro K hK
      go_simp
      exact hK _ _ (Below.refl _ _) hI rfl
    · simp only [List.getElem?_toArray, List.getElem?_cons_zero, List.getElem?_cons_succ, Option.some.injEq] at ho
      subst ho
      have h81 : a.tmps.getD 81 undef = .bool true := hd ⟨16, .guard⟩ (by simp) rfl
      have hgv : gpVal _ a 16 = .bool true := hd ⟨16, .guard⟩ (by simp) rfl
      rw [if_pos (by rw [gp_some rfl hgv]; decide)]
      clear hgv
      intro K hK
      go_simp
      exact hK _ _ (Below.refl _ _) hI rfl
    · simp only [List.getElem?_toArray, List.getElem?_cons_zero, List.getElem?_cons_succ, Option.some.injEq] at ho
      subst ho
      have h81 : a.tmps.getD 81 undef = .bool true := hd ⟨16, .guard⟩ (by simp) rfl
      have hgv : gpVal _ a 16 = .bool true := hd ⟨16, .guard⟩ (by simp) rfl
      rw [if_pos (by rw [gp_some rfl hgv]; decide)]
      clear hgv
      intro K hK
      go_simp
      exact hK _ _ (Below.refl _ _) hI rfl
    · simp only [List.getElem?_toArray, List.getElem?_cons_zero, List.getElem?_cons_succ, Option.some.injEq] at ho
      subst ho
      have h81 : a.tmps.getD 81 undef = .bool true := hd ⟨16, .guard⟩ (by simp) rfl
      have hgv : gpVal _ a 16 = .bool true := hd ⟨16, .guard⟩ (by simp) rfl
      rw [if_pos (by rw [gp_some rfl hgv]; decide)]
      clear hgv
      intro K hK
      go_simp
      exact hK _ _ (Below.refl _ _) hI rfl
    · simp only [List.getElem?_toArray, List.getElem?_cons_zero, List.getElem?_cons_succ, Option.some.injEq] at ho
      subst ho
      have h82 : a.tmps.getD 82 undef = .agg #[.int .i64 (ai : Nat), .string (ba' an), .int .i64 (ao : Nat)] := hd ⟨17, .data⟩ (by simp) rfl
      have k82 := tmp' h82
      have h83 : a.tmps.getD 83 undef = .agg #[.int .i64 (bi : Nat), .string (ba' bn), .int .i64 (bo : Nat)] := hd ⟨18, .data⟩ (by simp) rfl
      have k83 := tmp' h83
      have h84 : a.tmps.getD 84 undef = .agg #[.int .i64 (ci : Nat), .string (ba' cn), .int .i64 (co : Nat)] := hd ⟨19, .data⟩ (by simp) rfl
      have k84 := tmp' h84
      have h81 : a.tmps.getD 81 undef = .bool true := hd ⟨16, .guard⟩ (by simp) rfl
      have k81 := tmp' h81
      have hgv : gpVal _ a 16 = .bool true := hd ⟨16, .guard⟩ (by simp) rfl
      rw [if_pos (by rw [gp_some rfl hgv]; decide)]
      clear hgv
      intro K hK
      go_simp
      exact hK _ _ (ba (Below.refl _ _)) ⟨ba hI.1, ba hI.2⟩ ⟨_, rfl, by simp, row3_new _ _ _ _⟩
    · simp only [List.getElem?_toArray, List.getElem?_cons_zero, List.getElem?_cons_succ, Option.some.injEq] at ho
      subst ho
      obtain ⟨sg, hsq, hsg, hrow⟩ : SL w [⟨⟨ai, an⟩, ao⟩, ⟨⟨bi, bn⟩, bo⟩, ⟨⟨ci, cn⟩, co⟩] 3 (a.tmps.getD 85 undef) := hd ⟨20, .data⟩ (by simp) rfl
      have h81 : a.tmps.getD 81 undef = .bool true := hd ⟨16, .guard⟩ (by simp) rfl
      have hgv : gpVal _ a 16 = .bool true := hd ⟨16, .guard⟩ (by simp) rfl
      rw [if_pos (by rw [gp_some rfl hgv]; decide)]
      clear hgv
      intro K hK
      go_simp
      go_at_call 20
      refine (J3.out _ _ hI.1 hsg hrow).mono ?_
      rintro e w' ⟨rfl, hb⟩
      exact hK _ _ hb ⟨bt hI.1 hb, bt hI.2 hb⟩ rfl
    · simp only [List.getElem?_toArray, List.getElem?_cons_zero, List.getElem?_cons_succ, Option.some.injEq] at ho
      subst ho
      have h81 : a.tmps.getD 81 undef = .bool true := hd ⟨16, .guard⟩ (by simp) rfl
      have hgv : gpVal _ a 16 = .bool true := hd ⟨16, .guard⟩ (by simp) rfl
      rw [if_pos (by rw [gp_some rfl hgv]; decide)]
      clear hgv
      intro K hK
      go_simp
      exact hK _ _ (Below.refl _ _) hI rfl
    · simp only [List.getElem?_toArray, List.getElem?_cons_zero, List.getElem?_cons_succ, Option.some.injEq] at ho
      subst ho
      have h86 : a.tmps.getD 86 undef = .agg #[.int .i64 (qi : Nat), .string (ba' qn), .int .i64 (qo : Nat)] := hd ⟨21, .data⟩ (by simp) rfl
      have h87 : a.tmps.getD 87 undef = .agg #[.int .i64 (qi : Nat), .string (ba' qn), .int .i64 (qo : Nat)] := hd ⟨22, .data⟩ (by simp) rfl
      have h81 : a.tmps.getD 81 undef = .bool true := hd ⟨16, .guard⟩ (by simp) rfl
      have hgv : gpVal _ a 16 = .bool true := hd ⟨16, .guard⟩ (by simp) rfl
      rw [if_pos (by rw [gp_some rfl hgv]; decide)]
      clear hgv
      intro K hK
      go_simp
      exact hK _ _ (Below.refl _ _) hI rfl
    · simp only [List.getElem?_toArray, List.getElem?_cons_zero, List.getElem?_cons_succ, Option.some.injEq] at ho
      subst ho
      have h81 : a.tmps.getD 81 undef = .bool true := hd ⟨16, .data⟩ (by simp) rfl
      have h88 : a.tmps.getD 88 undef = .bool true := hd ⟨23, .data⟩ (by simp) rfl
      rw [if_pos (gp_none rfl)]
      intro K hK
      go_simp
      exact hK _ _ (Below.refl _ _) hI rfl
    · simp only [List.getElem?_toArray, List.getElem?_cons_zero, List.getElem?_cons_succ, Option.some.injEq] at ho
      subst ho
      have h89 : a.tmps.getD 89 undef = .bool true := hd ⟨24, .data⟩ (by simp) rfl
      rw [if_pos (gp_none rfl)]
      intro K hK
      go_simp
      exact hK _ _ (Below.refl _ _) hI rfl
    · simp only [List.getElem?_toArray, List.getElem?_cons_zero, List.getElem?_cons_succ, Option.some.injEq] at ho
      subst ho
      have h90 : a.tmps.getD 90 undef = .bool true := hd ⟨25, .guard⟩ (by simp) rfl
      have hgv : gpVal _ a 25 = .bool true := hd ⟨25, .guard⟩ (by simp) rfl
      rw [if_pos (by rw [gp_some rfl hgv]; decide)]
      clear hgv
      intro K hK
      go_simp
      exact hK _ _ (Below.refl _ _) hI rfl
    · simp only [List.getElem?_toArray, List.getElem?_cons_zero, List.getElem?_cons_succ, Option.some.injEq] at ho
      subst ho
      have h90 : a.tmps.getD 90 undef = .bool true := hd ⟨25, .guard⟩ (by simp) rfl
      have hgv : gpVal _ a 25 = .bool true := hd ⟨25, .guard⟩ (by simp) rfl
      rw [if_pos (by rw [gp_some rfl hgv]; decide)]
      clear hgv
      intro K hK
      go_simp
      exact hK _ _ (Below.refl _ _) hI rfl
    · simp only [List.getElem?_toArray, List.getElem?_cons_zero, List.getElem?_cons_succ, Option.some.injEq] at ho
      subst ho
      have h91 : a.tmps.getD 91 undef = .agg #[.int .i64 (ai : Nat), .string (ba' an), .int .i64 (ao : Nat)] := hd ⟨26, .data⟩ (by simp) rfl
      have h92 : a.tmps.getD 92 undef = .agg #[.int .i64 (bi : Nat), .string (ba' bn), .int .i64 (bo : Nat)] := hd ⟨27, .data⟩ (by simp) rfl
      have h90 : a.tmps.getD 90 undef = .bool true := hd ⟨25, .guard⟩ (by simp) rfl
      have hgv : gpVal _ a 25 = .bool true := hd ⟨25, .guard⟩ (by simp) rfl
      rw [if_pos (by rw [gp_some rfl hgv]; decide)]
      clear hgv
      intro K hK
      go_simp
      go_at_call 24
      refine (Tm.out _ hI.1).mono ?_
      rintro e w' ⟨rfl, hb⟩
      exact hK _ _ hb ⟨bt hI.1 hb, bt hI.2 hb⟩ rfl
    · simp only [List.getElem?_toArray, List.getElem?_cons_zero, List.getElem?_cons_succ, Option.some.injEq] at ho
      subst ho
      have h90 : a.tmps.getD 90 undef = .bool true := hd ⟨25, .guard⟩ (by simp) rfl
      have hgv : gpVal _ a 25 = .bool true := hd ⟨25, .guard⟩ (by simp) rfl
      rw [if_pos (by rw [gp_some rfl hgv]; decide)]
      clear hgv
      intro K hK
      go_simp
      exact hK _ _ (Below.refl _ _) hI rfl
    · simp only [List.getElem?_toArray, List.getElem?_cons_zero, List.getElem?_cons_succ, Option.some.injEq] at ho
      subst ho
      have h90 : a.tmps.getD 90 undef = .bool true := hd ⟨25, .guard⟩ (by simp) rfl
      have hgv : gpVal _ a 25 = .bool true := hd ⟨25, .guard⟩ (by simp) rfl
      rw [if_pos (by rw [gp_some rfl hgv]; decide)]
      clear hgv
      intro K hK
      go_simp
      exact hK _ _ (Below.refl _ _) hI rfl
    · simp only [List.getElem?_toArray, List.getElem?_cons_zero, List.getElem?_cons_succ, Option.some.injEq] at ho
      subst ho
      have h94 : a.tmps.getD 94 undef = .agg #[.int .i64 (ai : Nat), .string (ba' an), .int .i64 (ao : Nat)] := hd ⟨29, .data⟩ (by simp) rfl
      have h95 : a.tmps.getD 95 undef = .agg #[.int .i64 (bi : Nat), .string (ba' bn), .int .i64 (bo : Nat)] := hd ⟨30, .data⟩ (by simp) rfl
      have h90 : a.tmps.getD 90 undef = .bool true := hd ⟨25, .guard⟩ (by simp) rfl
      have hgv : gpVal _ a 25 = .bool true := hd ⟨25, .guard⟩ (by simp) rfl
      rw [if_pos (by rw [gp_some rfl hgv]; decide)]
      clear hgv
      intro K hK
      go_simp
      go_at_call 21
      refine (T2.out _ hI.1).mono ?_
      rintro e w' ⟨rfl, hb⟩
      exact hK _ _ hb ⟨bt hI.1 hb, bt hI.2 hb⟩ rfl
    · simp only [List.getElem?_toArray, List.getElem?_cons_zero, List.getElem?_cons_succ, Option.some.injEq] at ho
      subst ho
      have h93 : a.tmps.getD 93 undef = .agg #[.int .i64 (ti : Nat), .string (ba' tn), .int .i64 (to : Nat)] := hd ⟨28, .data⟩ (by simp) rfl
      have h96 : a.tmps.getD 96 undef = .agg #[.int .i64 (ti : Nat), .string (ba' tn), .int .i64 (to : Nat)] := hd ⟨31, .data⟩ (by simp) rfl
      have h90 : a.tmps.getD 90 undef = .bool true := hd ⟨25, .guard⟩ (by simp) rfl
      have hgv : gpVal _ a 25 = .bool true := hd ⟨25, .guard⟩ (by simp) rfl
      rw [if_pos (by rw [gp_some rfl hgv]; decide)]
      clear hgv
      intro K hK
      go_simp
      exact hK _ _ (Below.refl _ _) hI rfl
    · simp only [List.getElem?_toArray, List.getElem?_cons_zero, List.getElem?_cons_succ, Option.some.injEq] at ho
      subst ho
      have h90 : a.tmps.getD 90 undef = .bool true := hd ⟨25, .data⟩ (by simp) rfl
      have h97 : a.tmps.getD 97 undef = .bool true := hd ⟨32, .data⟩ (by simp) rfl
      rw [if_pos (gp_none rfl)]
      intro K hK
      go_simp
      exact hK _ _ (Below.refl _ _) hI rfl
    · simp only [List.getElem?_toArray, List.getElem?_cons_zero, List.getElem?_cons_succ, Option.some.injEq] at ho
      subst ho
      have h98 : a.tmps.getD 98 undef = .bool true := hd ⟨33, .data⟩ (by simp) rfl
      rw [if_pos (gp_none rfl)]
      intro K hK
      go_simp
      exact hK _ _ (Below.refl _ _) hI rfl
  · intro a w hI hk hs
    exact hQ a w hk.1 (hk.2.1.trans hsz) (hs 34 (of_decide_eq_true (by kernel_rfl))) hI.1
end Go.Proofs.YtjpopmgnhgancaaDoor
