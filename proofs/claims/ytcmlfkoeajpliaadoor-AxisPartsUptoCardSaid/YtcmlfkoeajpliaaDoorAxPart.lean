/- The axes of a node part its document, in plain words; a row that grows while others stay. No condition beyond what the theorems state. -/
import Derived.Test.YtcmlfkoeajpliaaDoorAxWake
import Derived.Test.YtcmlfkoeajpliaaDoorNumbers
import Derived.Test.YtcmlfkoeajpliaaDoorNesting
namespace Go.Proofs.YtcmlfkoeajpliaaDoor
section
variable {N : Nat} {kd : Nat → Int} {pr en : Nat → Nat}
theorem Ord.child (h : Ord N kd pr en) {m : Nat} (hm : 1 ≤ m) : ∀ (z : Nat), m < z → z ≤ N → z ≤ en m → ∃ c, pr c = m ∧ m < c ∧ c ≤ z ∧ z ≤ en c := by
  intro z
  induction z using Nat.strongRecOn with
  | ind z ih =>
    intro h1 h2 h3
    have k := (h.nest m z hm h1 h2).1.1 h3
    have hp := h.plt z (by omega) h2
    have he := h.enr z (by omega) h2
    rcases Nat.eq_or_lt_of_le k.1 with e | e
    · exact ⟨z, e.symm, h1, Nat.le_refl _, he.1⟩
    · obtain ⟨c, c1, c2, c3, c4⟩ := ih (pr z) hp e (by omega) k.2
      exact ⟨c, c1, c2, by omega, (h.nest c z (by omega) (by omega) h2).1.2 ⟨c3, c4⟩⟩
/-- Two of one parent have nothing in common. -/
theorem Ord.apart (h : Ord N kd pr en) {s t x : Nat} (hs : 1 ≤ s) (ht : t ≤ N) (hst : s < t) (hp : pr s = pr t) (h1 : x ≤ en s) (h2 : t ≤ x) : False := by
  have k := (h.nest s t hs hst ht).1.1 (by omega)
  have := h.plt s hs (by omega)
  omega
theorem Ord.apart' (h : Ord N kd pr en) {s t x : Nat} (hs : 1 ≤ s) (hsN : s ≤ N) (ht1 : 1 ≤ t) (ht : t ≤ N) (hst : s ≠ t) (hp : pr s = pr t) (a1 : s ≤ x) (a2 : x ≤ en s) (b1 : t ≤ x) (b2 : x ≤ en t) : False := by
  rcases Nat.lt_or_gt_of_ne hst with e | e
  · exact h.apart hs ht e hp a2 b1
  · exact h.apart ht1 hsN e hp.symm b2 a1
def segs (en : Nat → Nat) (l : List Nat) : List Nat := l.flatMap fun b => List.range' b (en b + 1 - b)
def upG (N : Nat) (kd : Nat → Int) (pr en : Nat → Nat) (m : Nat) : List Nat := m :: (axL N kd pr en m 3 ++ (segs en (axL N kd pr en m 6) ++ segs en (axL N kd pr en m 9)))
def dnG (N : Nat) (kd : Nat → Int) (pr en : Nat → Nat) (d : Nat) : List Nat := d :: axL N kd pr en d 3
def allL (N : Nat) (kd : Nat → Int) (pr en : Nat → Nat) (n : Nat) : List Nat := (axL N kd pr en n 10).flatMap (upG N kd pr en) ++ (axL N kd pr en n 2).flatMap (dnG N kd pr en)
/-- What stands beside m, and holds x. -/
def Bes (N : Nat) (kd : Nat → Int) (pr en : Nat → Nat) (m x : Nat) : Prop := ∃ s, 1 ≤ s ∧ s ≤ N ∧ s ≠ m ∧ pr s = pr m ∧ pr m ≠ 0 ∧ kd s ≠ 3 ∧ s ≤ x ∧ x ≤ en s
theorem segs_mem {l : List Nat} {x : Nat} (hl : ∀ s ∈ l, s ≤ en s) : x ∈ segs en l ↔ ∃ s ∈ l, s ≤ x ∧ x ≤ en s := by
  unfold segs
  rw [List.mem_flatMap]
  constructor
  · rintro ⟨s, h1, h2⟩
    rw [List.mem_range'_1] at h2
    have := hl s h1
    exact ⟨s, h1, by omega, by omega⟩
  · rintro ⟨s, h1, h2, h3⟩
    exact ⟨s, h1, by rw [List.mem_range'_1]; omega⟩
theorem ax_rng {n : Nat} {a : Int} {m : Nat} (h : m ∈ axL N kd pr en n a) : (1 ≤ n ∧ n ≤ N) ∧ 1 ≤ m ∧ m ≤ N := by
  rw [axL_mem] at h; exact ⟨h.1, h.2.1⟩
theorem upG_mem (h : Ord N kd pr en) {m x : Nat} (hm : 1 ≤ m) (hmN : m ≤ N) (hk : kd m ≠ 3) : x ∈ upG N kd pr en m ↔ x = m ∨ (1 ≤ x ∧ x ≤ N ∧ pr x = m ∧ kd x = 3) ∨ Bes N kd pr en m x := by
  unfold upG
  have hs : ∀ a, ∀ s ∈ axL N kd pr en m a, s ≤ en s := fun a s hs => (h.enr s (ax_rng hs).2.1 (ax_rng hs).2.2).1
  rw [List.mem_cons, List.mem_append, List.mem_append, segs_mem (hs 6), segs_mem (hs 9), axL_mem]
  have e3 : axP kd pr en m 3 x = true ↔ pr x = m ∧ kd x = 3 := by simp [axP]
  rw [e3]
  refine or_congr Iff.rfl (or_congr ⟨?_, ?_⟩ ⟨?_, ?_⟩)
  · rintro ⟨_, ⟨h1, h2⟩, h3, h4⟩; exact ⟨h1, h2, h3, h4⟩
  · rintro ⟨h1, h2, h3, h4⟩; exact ⟨⟨hm, hmN⟩, ⟨h1, h2⟩, h3, h4⟩
  · rintro (⟨s, hs1, h2, h3⟩ | ⟨s, hs1, h2, h3⟩)
    · rw [axL_mem] at hs1
      obtain ⟨_, h5, h6⟩ := hs1
      have h6' : (pr m ≠ 0 ∧ pr s = pr m ∧ kd m ≠ 3 ∧ kd s ≠ 3) ∧ m < s := by simpa [axP] using h6
      exact ⟨s, h5.1, h5.2, by omega, h6'.1.2.1, h6'.1.1, h6'.1.2.2.2, h2, h3⟩
    · rw [axL_mem] at hs1
      obtain ⟨_, h5, h6⟩ := hs1
      have h6' : (pr m ≠ 0 ∧ pr s = pr m ∧ kd m ≠ 3 ∧ kd s ≠ 3) ∧ s < m := by simpa [axP] using h6
      exact ⟨s, h5.1, h5.2, by omega, h6'.1.2.1, h6'.1.1, h6'.1.2.2.2, h2, h3⟩
  · rintro ⟨s, h1, h2, h3, h4, h5, h6, h7, h8⟩
    rcases Nat.lt_or_gt_of_ne h3 with e | e
    · exact .inr ⟨s, by rw [axL_mem]; exact ⟨⟨hm, hmN⟩, ⟨h1, h2⟩, by simp [axP]; exact ⟨⟨h5, h4, hk, h6⟩, e⟩⟩, h7, h8⟩
    · exact .inl ⟨s, by rw [axL_mem]; exact ⟨⟨hm, hmN⟩, ⟨h1, h2⟩, by simp [axP]; exact ⟨⟨h5, h4, hk, h6⟩, e⟩⟩, h7, h8⟩
theorem dnG_mem {d x : Nat} (hd : 1 ≤ d) (hdN : d ≤ N) : x ∈ dnG N kd pr en d ↔ x = d ∨ (1 ≤ x ∧ x ≤ N ∧ pr x = d ∧ kd x = 3) := by
  unfold dnG
  rw [List.mem_cons, axL_mem]
  have e3 : axP kd pr en d 3 x = true ↔ pr x = d ∧ kd x = 3 := by simp [axP]
  rw [e3]
  refine or_congr Iff.rfl ⟨?_, ?_⟩
  · rintro ⟨_, ⟨h1, h2⟩, h3, h4⟩; exact ⟨h1, h2, h3, h4⟩
  · rintro ⟨h1, h2, h3, h4⟩; exact ⟨⟨hd, hdN⟩, ⟨h1, h2⟩, h3, h4⟩
/-- Above n, or n itself. -/
def Up (en : Nat → Nat) (n m : Nat) : Prop := 1 ≤ m ∧ m ≤ n ∧ n ≤ en m
theorem up_mem (h : Ord N kd pr en) {n m : Nat} (h1 : 1 ≤ n) (h2 : n ≤ N) : m ∈ axL N kd pr en n 10 ↔ Up en n m := by
  rw [axL_mem]
  have e : axP kd pr en n 10 m = true ↔ (m = n ∨ (m < n ∧ n ≤ en m)) := by simp [axP]
  have hn := h.enr n h1 h2
  rw [e]
  constructor
  · rintro ⟨_, h3, h4⟩
    rcases h4 with rfl | h4
    · exact ⟨h1, Nat.le_refl _, hn.1⟩
    · exact ⟨h3.1, by omega, h4.2⟩
  · rintro ⟨h3, h4, h5⟩
    refine ⟨⟨h1, h2⟩, ⟨h3, by omega⟩, ?_⟩
    rcases Nat.eq_or_lt_of_le h4 with e | e
    · exact .inl e
    · exact .inr ⟨e, h5⟩
theorem dn_mem {n m : Nat} (h1 : 1 ≤ n) (h2 : n ≤ N) : m ∈ axL N kd pr en n 2 ↔ n < m ∧ m ≤ N ∧ m ≤ en n ∧ kd m ≠ 3 := by
  rw [axL_mem]
  have e : axP kd pr en n 2 m = true ↔ (n < m ∧ m ≤ en n ∧ kd m ≠ 3) := by simp [axP]
  rw [e]
  constructor
  · rintro ⟨_, h3, h4⟩; exact ⟨h4.1, h3.2, h4.2⟩
  · rintro ⟨h3, h4, h5⟩; exact ⟨⟨h1, h2⟩, ⟨by omega, h4⟩, h3, h5⟩
theorem up_kind (h : Ord N kd pr en) {n m : Nat} (h2 : n ≤ N) (hk : kd n ≠ 3) (hu : Up en n m) : kd m ≠ 3 := by
  obtain ⟨h3, h4, h5⟩ := hu
  intro e
  have := (h.att m h3 (by omega) e).1
  obtain rfl : m = n := by omega
  exact hk e
/-- Every number of the tree is told. -/
theorem all_has (h : Ord N kd pr en) {n : Nat} (h1 : 1 ≤ n) (h2 : n ≤ N) (hk : kd n ≠ 3) : ∀ (f m x : Nat), n - m ≤ f → Up en n m → m ≤ x → x ≤ en m → x ∈ allL N kd pr en n
  | f, m, x, hf, hu, hx1, hx2 => by
    obtain ⟨m1, m2, m3⟩ := hu
    have hem := h.enr m m1 (by omega)
    unfold allL
    rw [List.mem_append, List.mem_flatMap, List.mem_flatMap]
    by_cases hxm : x = m
    · subst hxm
      exact .inl ⟨x, (up_mem h h1 h2).2 ⟨m1, m2, m3⟩, by rw [upG_mem h m1 (by omega) (up_kind h h2 hk ⟨m1, m2, m3⟩)]; exact .inl rfl⟩
    · by_cases hmn : m = n
      · subst hmn
        by_cases h3 : kd x = 3
        · have hxp := h.plt x (by omega) (by omega)
          have hp := (h.nest m x m1 (by omega) (by omega)).1.1 hx2
          rcases Nat.eq_or_lt_of_le hp.1 with e | e
          · exact .inl ⟨m, (up_mem h h1 h2).2 ⟨m1, m2, m3⟩, by rw [upG_mem h m1 (by omega) hk]; exact .inr (.inl ⟨by omega, by omega, e.symm, h3⟩)⟩
          · refine .inr ⟨pr x, (dn_mem h1 h2).2 ⟨e, by omega, hp.2, fun e3 => ?_⟩, by rw [dnG_mem (by omega) (by omega)]; exact .inr ⟨by omega, by omega, rfl, h3⟩⟩
            have k1 := (h.att (pr x) (by omega) (by omega) e3).1
            have k2 := (h.nest (pr x) x (by omega) hxp (by omega)).1.2 ⟨Nat.le_refl _, by omega⟩
            omega
        · exact .inr ⟨x, (dn_mem h1 h2).2 ⟨by omega, by omega, hx2, h3⟩, by rw [dnG_mem (by omega) (by omega)]; exact .inl rfl⟩
      · obtain ⟨c, c1, c2, c3, c4⟩ := h.child m1 n (by omega) h2 m3
        obtain ⟨y, y1, y2, y3, y4⟩ := h.child m1 x (by omega) (by omega) hx2
        have hcN : c ≤ N := by omega
        have hyN : y ≤ N := by omega
        have hcu : Up en n c := ⟨by omega, c3, c4⟩
        by_cases hyc : y = c
        · subst hyc
          cases f with
          | zero => omega
          | succ f =>
            have := all_has h h1 h2 hk f y x (by omega) hcu y3 y4
            unfold allL at this
            rwa [List.mem_append, List.mem_flatMap, List.mem_flatMap] at this
        · by_cases hy3 : kd y = 3
          · have := (h.att y (by omega) hyN hy3).1
            obtain rfl : x = y := by omega
            exact .inl ⟨m, (up_mem h h1 h2).2 ⟨m1, m2, m3⟩, by rw [upG_mem h m1 (by omega) (up_kind h h2 hk ⟨m1, m2, m3⟩)]; exact .inr (.inl ⟨by omega, by omega, y1, hy3⟩)⟩
          · exact .inl ⟨c, (up_mem h h1 h2).2 hcu, by rw [upG_mem h (by omega) hcN (up_kind h h2 hk hcu)]; exact .inr (.inr ⟨y, by omega, hyN, hyc, by omega, by omega, hy3, y3, y4⟩)⟩
/-- And none else. -/
theorem all_in (h : Ord N kd pr en) {n r x : Nat} (h1 : 1 ≤ n) (h2 : n ≤ N) (hk : kd n ≠ 3) (hr : Up en n r) (hr0 : pr r = 0) (hx : x ∈ allL N kd pr en n) : r ≤ x ∧ x ≤ en r := by
  obtain ⟨r1, r2, r3⟩ := hr
  have her := h.enr r r1 (by omega)
  have key : ∀ m, Up en n m → r ≤ m ∧ en m ≤ en r := by
    rintro m ⟨m1, m2, m3⟩
    rcases Nat.lt_trichotomy m r with e | rfl | e
    · have := (h.nest m r m1 e (by omega)).1.1 (by omega)
      omega
    · exact ⟨Nat.le_refl _, Nat.le_refl _⟩
    · exact ⟨by omega, (h.nest r m r1 e (by omega)).2 (by omega)⟩
  have below : ∀ m y, 1 ≤ m → m ≤ N → r ≤ m → en m ≤ en r → 1 ≤ y → y ≤ N → pr y = m → r ≤ y ∧ y ≤ en r := fun m y m1 m2 m3 m4 y1 y2 hp => by
    have := h.kid m1 y1 y2 hp
    omega
  unfold allL at hx
  rw [List.mem_append, List.mem_flatMap, List.mem_flatMap] at hx
  rcases hx with ⟨m, hm, hx⟩ | ⟨d, hd, hx⟩
  · rw [up_mem h h1 h2] at hm
    have hmN : m ≤ N := by have := hm.2.1; omega
    have km := key m hm
    have hem := h.enr m hm.1 hmN
    rw [upG_mem h hm.1 hmN (up_kind h h2 hk hm)] at hx
    rcases hx with rfl | ⟨x1, x2, x3, _⟩ | ⟨s, s1, s2, s3, s4, s5, s6, s7, s8⟩
    · omega
    · exact below m x hm.1 hmN km.1 km.2 x1 x2 x3
    · have hpm := h.plt m hm.1 hmN
      have hup : Up en n (pr m) := by
        refine ⟨by omega, by have := hm.2.1; omega, ?_⟩
        have hk1 := h.kid (show 1 ≤ pr m by omega) hm.1 hmN rfl
        have := (h.nest (pr m) m (by omega) hpm hmN).2 hk1.2
        have := hm.2.2
        omega
      have kp := key _ hup
      have hs := h.kid (show 1 ≤ pr m by omega) s1 s2 s4
      have := (h.nest (pr m) s (by omega) hs.1 s2).2 hs.2
      omega
  · rw [dn_mem h1 h2] at hd
    obtain ⟨d1, d2, d3, d4⟩ := hd
    have kn := key n ⟨h1, Nat.le_refl _, (h.enr n h1 h2).1⟩
    have hed := (h.nest n d h1 d1 d2).2 d3
    have hed2 := h.enr d (by omega) d2
    rw [dnG_mem (by omega) d2] at hx
    rcases hx with rfl | ⟨x1, x2, x3, _⟩
    · omega
    · exact below d x (by omega) d2 (by omega) (by omega) x1 x2 x3
end
end Go.Proofs.YtcmlfkoeajpliaaDoor
namespace Go.Proofs.YtcmlfkoeajpliaaDoor
section
variable {N : Nat} {kd : Nat → Int} {pr en : Nat → Nat}
theorem fwd_lt (P : Nat → Bool) (N m : Nat) : (fwdL P N m).Pairwise (· < ·) := by
  unfold fwdL
  exact List.Pairwise.filter _ (List.pairwise_lt_range' _ (by omega))
theorem bwd_gt (P : Nat → Bool) : ∀ b, (bwdL P b).Pairwise (· > ·)
  | 0 => by simp [bwdL]
  | b + 1 => by
    rw [bwdL]
    split
    · rw [List.pairwise_cons]
      exact ⟨fun x hx => (bwd_mem.1 hx).2.1, bwd_gt P b⟩
    · exact bwd_gt P b
theorem ax_once (n : Nat) (a : Int) : (axL N kd pr en n a).Pairwise (· ≠ ·) := by
  unfold axL
  split
  · exact List.Pairwise.nil
  · split
    · exact (bwd_gt _ _).imp fun h => by omega
    · exact (fwd_lt _ _ _).imp fun h => by omega
theorem seg_once (a b : Nat) : (List.range' a b).Pairwise (· ≠ ·) := (List.pairwise_lt_range' _ (by omega)).imp fun h => by omega
theorem bes_of {m s : Nat} {a : Int} (ha : a = 6 ∨ a = 9) (hs : s ∈ axL N kd pr en m a) : 1 ≤ s ∧ s ≤ N ∧ s ≠ m ∧ pr s = pr m ∧ pr m ≠ 0 ∧ kd s ≠ 3 ∧ (a = 6 → m < s) ∧ (a = 9 → s < m) := by
  rw [axL_mem] at hs
  obtain ⟨_, h1, h2⟩ := hs
  rcases ha with rfl | rfl
  · have h3 : (pr m ≠ 0 ∧ pr s = pr m ∧ kd m ≠ 3 ∧ kd s ≠ 3) ∧ m < s := by simpa [axP] using h2
    exact ⟨h1.1, h1.2, by omega, h3.1.2.1, h3.1.1, h3.1.2.2.2, fun _ => h3.2, fun e => by omega⟩
  · have h3 : (pr m ≠ 0 ∧ pr s = pr m ∧ kd m ≠ 3 ∧ kd s ≠ 3) ∧ s < m := by simpa [axP] using h2
    exact ⟨h1.1, h1.2, by omega, h3.1.2.1, h3.1.1, h3.1.2.2.2, fun e => by omega, fun _ => h3.2⟩
theorem in_seg {a b x : Nat} (h : x ∈ List.range' a (b + 1 - a)) : a ≤ x ∧ x ≤ b := by rw [List.mem_range'_1] at h; omega
theorem segs_once (h : Ord N kd pr en) {m : Nat} {a : Int} (ha : a = 6 ∨ a = 9) : (segs en (axL N kd pr en m a)).Pairwise (· ≠ ·) := by
  unfold segs
  rw [List.pairwise_flatMap]
  refine ⟨fun s _ => seg_once _ _, (ax_once m a).imp_of_mem ?_⟩
  intro s t hs ht hne x hx y hy e
  subst e
  have k1 := bes_of ha hs
  have k2 := bes_of ha ht
  have i1 := in_seg hx
  have i2 := in_seg hy
  exact h.apart' k1.1 k1.2.1 k2.1 k2.2.1 hne (k1.2.2.2.1.trans k2.2.2.2.1.symm) i1.1 i1.2 i2.1 i2.2
theorem segs_bes (h : Ord N kd pr en) {m x : Nat} {a : Int} (_ha : a = 6 ∨ a = 9) (hx : x ∈ segs en (axL N kd pr en m a)) : ∃ s ∈ axL N kd pr en m a, s ≤ x ∧ x ≤ en s :=
  (segs_mem fun s hs => (h.enr s (ax_rng hs).2.1 (ax_rng hs).2.2).1).1 hx
theorem attr_in (h : Ord N kd pr en) {m x : Nat} (hx : x ∈ axL N kd pr en m 3) : pr x = m ∧ kd x = 3 ∧ m < x ∧ x ≤ en m ∧ 1 ≤ x ∧ x ≤ N := by
  have hr := ax_rng hx
  rw [axL_mem] at hx
  have e3 : pr x = m ∧ kd x = 3 := by simpa [axP] using hx.2.2
  have := h.kid hr.1.1 hr.2.1 hr.2.2 e3.1
  exact ⟨e3.1, e3.2, this.1, this.2, hr.2.1, hr.2.2⟩
theorem upG_once (h : Ord N kd pr en) {m : Nat} (hm : 1 ≤ m) (hmN : m ≤ N) (hk : kd m ≠ 3) : (upG N kd pr en m).Pairwise (· ≠ ·) := by
  have hem := h.enr m hm hmN
  have far : ∀ a, (a = 6 ∨ a = 9) → ∀ x, m ≤ x → x ≤ en m → x ∈ segs en (axL N kd pr en m a) → False := fun a ha x x1 x2 hx => by
    obtain ⟨s, hs, s1, s2⟩ := segs_bes h ha hx
    have k := bes_of ha hs
    exact h.apart' k.1 k.2.1 hm hmN k.2.2.1 k.2.2.2.1 s1 s2 x1 x2
  unfold upG
  rw [List.pairwise_cons]
  refine ⟨fun x hx e => ?_, ?_⟩
  · subst e
    rw [List.mem_append, List.mem_append] at hx
    rcases hx with hx | hx | hx
    · exact hk (attr_in h hx).2.1
    · exact far 6 (.inl rfl) _ (Nat.le_refl _) hem.1 hx
    · exact far 9 (.inr rfl) _ (Nat.le_refl _) hem.1 hx
  · rw [List.pairwise_append]
    refine ⟨ax_once _ _, ?_, fun x hx y hy e => ?_⟩
    · rw [List.pairwise_append]
      refine ⟨segs_once h (.inl rfl), segs_once h (.inr rfl), fun x hx y hy e => ?_⟩
      subst e
      obtain ⟨s, hs, s1, s2⟩ := segs_bes h (.inl rfl) hx
      obtain ⟨t, ht, t1, t2⟩ := segs_bes h (.inr rfl) hy
      have k1 := bes_of (.inl rfl) hs
      have k2 := bes_of (.inr rfl) ht
      have q1 := k1.2.2.2.2.2.2.1 rfl
      have q2 := k2.2.2.2.2.2.2.2 rfl
      exact h.apart' k1.1 k1.2.1 k2.1 k2.2.1 (by omega) (k1.2.2.2.1.trans k2.2.2.2.1.symm) s1 s2 t1 t2
    · subst e
      have k := attr_in h hx
      rw [List.mem_append] at hy
      rcases hy with hy | hy
      · exact far 6 (.inl rfl) x (by omega) k.2.2.2.1 hy
      · exact far 9 (.inr rfl) x (by omega) k.2.2.2.1 hy
theorem dnG_once (h : Ord N kd pr en) {d : Nat} (hk : kd d ≠ 3) : (dnG N kd pr en d).Pairwise (· ≠ ·) := by
  unfold dnG
  rw [List.pairwise_cons]
  refine ⟨fun x hx e => ?_, ax_once _ _⟩
  subst e
  exact hk (attr_in h hx).2.1
theorem up_end (h : Ord N kd pr en) {n m : Nat} (h2 : n ≤ N) (hu : Up en n m) : en n ≤ en m := by
  obtain ⟨m1, m2, m3⟩ := hu
  rcases Nat.eq_or_lt_of_le m2 with rfl | e
  · exact Nat.le_refl _
  · exact (h.nest m n m1 e h2).2 m3
theorem all_once (h : Ord N kd pr en) {n : Nat} (h1 : 1 ≤ n) (h2 : n ≤ N) (hk : kd n ≠ 3) : (allL N kd pr en n).Pairwise (· ≠ ·) := by
  unfold allL
  rw [List.pairwise_append]
  refine ⟨?_, ?_, ?_⟩
  · rw [List.pairwise_flatMap]
    refine ⟨fun m hm => ?_, (ax_once n 10).imp_of_mem ?_⟩
    · have hu := (up_mem h h1 h2).1 hm
      exact upG_once h hu.1 (by have := hu.2.1; omega) (up_kind h h2 hk hu)
    · have key : ∀ a b, Up en n a → Up en n b → b < a → ∀ x ∈ upG N kd pr en a, x ∈ upG N kd pr en b → False := by
        intro a b ha hb hba x hx hy
        have ka := up_kind h h2 hk ha
        have kb := up_kind h h2 hk hb
        obtain ⟨a1, a2, a3⟩ := ha
        obtain ⟨b1, b2, b3⟩ := hb
        have hpa := h.plt a a1 (by omega)
        have hab : a ≤ en b := by omega
        have hpb := (h.nest b a b1 hba (by omega)).1.1 hab
        have hea := (h.nest b a b1 hba (by omega)).2 hab
        rw [upG_mem h a1 (by omega) ka] at hx
        rw [upG_mem h b1 (by omega) kb] at hy
        have hxb : b < x ∧ x ≤ en b := by
          rcases hx with rfl | ⟨x1, x2, x3, _⟩ | ⟨s, s1, s2, s3, s4, s5, s6, s7, s8⟩
          · exact ⟨hba, hab⟩
          · have := h.kid a1 x1 x2 x3; omega
          · have q := h.kid (show 1 ≤ pr a by omega) s1 s2 s4
            have q2 := (h.nest (pr a) s (by omega) q.1 s2).2 q.2
            rcases Nat.eq_or_lt_of_le hpb.1 with e | e
            · rw [e]; omega
            · have := (h.nest b (pr a) b1 e (by omega)).2 hpb.2; omega
        rcases hy with rfl | ⟨_, y2, y3, y4⟩ | ⟨t, t1, t2, t3, t4, t5, t6, t7, t8⟩
        · omega
        · rcases hx with rfl | ⟨x1, x2, x3, _⟩ | ⟨s, s1, s2, s3, s4, s5, s6, s7, s8⟩
          · exact ka y4
          · omega
          · have q := h.kid (show 1 ≤ pr a by omega) s1 s2 s4
            rcases Nat.eq_or_lt_of_le s7 with e | e
            · subst e; exact s6 y4
            · have := (h.nest s x s1 e y2).1.1 s8
              omega
        · exact h.apart' t1 t2 b1 (by omega) t3 t4 t7 t8 (by omega) hxb.2
      intro a b ha hb hne x hx y hy e
      subst e
      have ha' := (up_mem h h1 h2).1 ha
      have hb' := (up_mem h h1 h2).1 hb
      rcases Nat.lt_or_gt_of_ne hne with e | e
      · exact key b a hb' ha' e x hy hx
      · exact key a b ha' hb' e x hx hy
  · rw [List.pairwise_flatMap]
    refine ⟨fun d hd => dnG_once h ((dn_mem h1 h2).1 hd).2.2.2, (ax_once n 2).imp_of_mem ?_⟩
    intro a b ha hb hne x hx y hy e
    subst e
    rw [dn_mem h1 h2] at ha hb
    rw [dnG_mem (by omega) ha.2.1] at hx
    rw [dnG_mem (by omega) hb.2.1] at hy
    rcases hx with rfl | ⟨_, _, x3, x4⟩ <;> rcases hy with e | ⟨_, _, y3, y4⟩
    · exact hne e
    · exact ha.2.2.2 y4
    · exact hb.2.2.2 (e ▸ x4)
    · omega
  · intro x hx y hy e
    subst e
    rw [List.mem_flatMap] at hx hy
    obtain ⟨m, hm, hx⟩ := hx
    obtain ⟨d, hd, hy⟩ := hy
    have hu := (up_mem h h1 h2).1 hm
    have hum := up_end h h2 hu
    have hkm := up_kind h h2 hk hu
    obtain ⟨m1, m2, m3⟩ := hu
    rw [dn_mem h1 h2] at hd
    obtain ⟨d1, d2, d3, d4⟩ := hd
    have hed := (h.nest n d h1 d1 d2).2 d3
    rw [upG_mem h m1 (by omega) hkm] at hx
    rw [dnG_mem (by omega) d2] at hy
    have hxr : n < x ∧ x ≤ en n ∧ pr x ≠ m ∨ x = d := by
      rcases hy with rfl | ⟨y1, y2, y3, _⟩
      · exact .inr rfl
      · have := h.kid (show 1 ≤ d by omega) y1 y2 y3
        exact .inl ⟨by omega, by omega, by omega⟩
    have hxr2 : n < x ∧ x ≤ en n := by rcases hxr with e | e <;> omega
    rcases hx with rfl | ⟨_, _, x3, x4⟩ | ⟨s, s1, s2, s3, s4, s5, s6, s7, s8⟩
    · omega
    · rcases hxr with e | rfl
      · exact e.2.2 x3
      · exact d4 x4
    · exact h.apart' s1 s2 m1 (by omega) s3 s4 s7 s8 (by omega) (by omega)
/-- How many there are. -/
theorem all_len (h : Ord N kd pr en) {n r : Nat} (h1 : 1 ≤ n) (h2 : n ≤ N) (hk : kd n ≠ 3) (hr : Up en n r) (hr0 : pr r = 0) :
    (allL N kd pr en n).length = en r + 1 - r ∧ ∀ x, x ∈ allL N kd pr en n ↔ x ∈ List.range' r (en r + 1 - r) := by
  have hm : ∀ x, x ∈ allL N kd pr en n ↔ x ∈ List.range' r (en r + 1 - r) := fun x => by
    rw [List.mem_range'_1]
    constructor
    · intro hx
      have := all_in h h1 h2 hk hr hr0 hx
      omega
    · intro hx
      exact all_has h h1 h2 hk (n - r) r x (Nat.le_refl _) hr (by omega) (by omega)
  refine ⟨?_, hm⟩
  have := (List.perm_ext_iff_of_nodup (all_once h h1 h2 hk) (seg_once r (en r + 1 - r))).2 hm
  rw [this.length_eq, List.length_range']
theorem all_ord (h : Ord N kd pr en) {n r : Nat} (h1 : 1 ≤ n) (h2 : n ≤ N) (hk : kd n ≠ 3) (hr : Up en n r) (hr0 : pr r = 0) :
    (ordZ ((allL N kd pr en n).map Int.ofNat)).length = (allL N kd pr en n).length := by
  obtain ⟨k1, k2⟩ := all_len h h1 h2 hk hr hr0
  have e : ordZ ((allL N kd pr en n).map Int.ofNat) = (List.range' r (en r + 1 - r)).map Int.ofNat := by
    refine ordZ_is ?_ fun x => ?_
    · rw [List.pairwise_map]
      exact (List.pairwise_lt_range' _ (by omega)).imp fun h => by simpa using h
    · simp only [List.mem_map, k2]
  rw [e, List.length_map, List.length_range', k1]
end
end Go.Proofs.YtcmlfkoeajpliaaDoor
namespace Go.Proofs.YtcmlfkoeajpliaaDoor
open Go.RowKit Go.Lib
set_option maxRecDepth 100000
theorem find_kid : ∀ (ks : List PT) (i : Nat), i < sizeL ks → ∃ j t, ks[j]? = some t ∧ sizeL (ks.take j) ≤ i ∧ i < sizeL (ks.take j) + t.size
  | [], i, h => by rw [sizeL] at h; omega
  | t :: ks, i, h => by
    by_cases hi : i < t.size
    · exact ⟨0, t, rfl, by rw [List.take_zero, sizeL]; omega, by rw [List.take_zero, sizeL]; omega⟩
    · rw [sizeL] at h
      obtain ⟨j, u, h1, h2, h3⟩ := find_kid ks (i - t.size) (by omega)
      refine ⟨j + 1, u, by simpa using h1, ?_, ?_⟩
      · rw [List.take_succ_cons, sizeL]; omega
      · rw [List.take_succ_cons, sizeL]; omega
theorem sub_at {L : List En} : ∀ (t : PT) (d b p i : Nat), t.right d = true → LaidAt L t b p → i < t.size → (∀ x, L[b + i]? = some x → x.k ≠ 3) → ∃ T p' d', LaidAt L T (b + i) p' ∧ T.right d' = true := by
  intro t
  induction t using PT.ind with
  | h k n v ps ks ih =>
    intro d b p i hr hl hi hx
    rw [PT.size] at hi
    rcases Nat.eq_zero_or_pos i with rfl | h0
    · exact ⟨_, p, d, hl, hr⟩
    · by_cases hp : i < 1 + ps.length
      · obtain ⟨x, hq⟩ : ∃ x, ps[i - 1]? = some x := ⟨_, List.getElem?_eq_getElem (by omega)⟩
        have := hl.at_ (lay_pair k n v ps ks b p hq)
        rw [show b + (1 + (i - 1)) = b + i by omega] at this
        exact absurd rfl (hx _ this)
      · obtain ⟨j, t, h1, h2, h3⟩ := find_kid ks (i - (1 + ps.length)) (by omega)
        have hk := lay_kid hl h1
        have hm := List.mem_of_getElem? h1
        have he : b + 1 + ps.length + sizeL (ks.take j) + (i - (1 + ps.length) - sizeL (ks.take j)) = b + i := by omega
        obtain ⟨T, p', d', k1, k2⟩ := ih t hm (d + 1) _ (b + 1) (i - (1 + ps.length) - sizeL (ks.take j)) ((right_kid hr).2 t hm).1 hk (by omega) (fun x h => hx x (by rw [← he]; exact h))
        exact ⟨T, p', d', by rwa [he] at k1, k2⟩
theorem lay_top (ts : List PT) {j : Nat} {t : PT} (ht : ts[j]? = some t) : LaidAt (layL ts 0 0) t (sizeL (ts.take j)) 0 := by
  have e := layL_app (ts.take (j + 1)) (ts.drop (j + 1)) 0 0
  rw [List.take_append_drop, layL_take ts j t ht] at e
  refine ⟨layL (ts.take j) 0 0, layL (ts.drop (j + 1)) (0 + sizeL (ts.take (j + 1))) 0, ?_, layL_len _ _ _⟩
  rw [e, List.append_assoc, Nat.zero_add, Nat.zero_add]
theorem top_at (ts : List PT) (hr : ∀ t ∈ ts, t.right 0 = true) {n : Nat} (h1 : 1 ≤ n) (h2 : n ≤ (layL ts 0 0).length) (hk : kdN (layL ts 0 0) n ≠ 3) : ∃ T p d, LaidAt (layL ts 0 0) T (n - 1) p ∧ T.right d = true := by
  have h2' := h2
  rw [layL_len] at h2
  obtain ⟨j, t, k1, k2, k3⟩ := find_kid ts (n - 1) (by omega)
  have he : sizeL (ts.take j) + (n - 1 - sizeL (ts.take j)) = n - 1 := by omega
  obtain ⟨T, p', d', q1, q2⟩ := sub_at t 0 _ 0 (n - 1 - sizeL (ts.take j)) (hr t (List.mem_of_getElem? k1)) (lay_top ts k1) (by omega) (fun x hx e => hk (by
    rw [he] at hx
    obtain ⟨y, hy, e1, _, _⟩ := told_in h1 h2'
    rw [hy] at hx
    cases hx
    rw [e1]; exact e))
  exact ⟨T, p', d', by rwa [he] at q1, q2⟩
theorem nat_unique : ∀ {a b : List Nat}, a.Pairwise (· < ·) → b.Pairwise (· < ·) → (∀ x, x ∈ a ↔ x ∈ b) → a = b
  | [], [], _, _, _ => rfl
  | [], y :: b, _, _, h => nomatch (h y).2 (.head _)
  | x :: a, [], _, _, h => nomatch (h x).1 (.head _)
  | x :: a, y :: b, ha, hb, h => by
    rw [List.pairwise_cons] at ha hb
    have e : x = y := by
      rcases List.mem_cons.1 ((h x).1 (.head _)) with h1 | h1
      · exact h1
      · rcases List.mem_cons.1 ((h y).2 (.head _)) with h2 | h2
        · exact h2.symm
        · have := hb.1 x h1; have := ha.1 y h2; omega
    subst e
    rw [nat_unique ha.2 hb.2 fun z => ?_]
    constructor
    · intro hz
      rcases List.mem_cons.1 ((h z).1 (.tail _ hz)) with rfl | h1
      · have := ha.1 z hz; omega
      · exact h1
    · intro hz
      rcases List.mem_cons.1 ((h z).2 (.tail _ hz)) with rfl | h1
      · have := hb.1 z hz; omega
      · exact h1
theorem attrs_axis {L : List En} (hO : Ord L.length (kdN L) (prN L) (enN L)) {k : Int} {n v : List UInt8} {ps : List (List UInt8 × List UInt8)} {ks : List PT} {b p d : Nat} (hl : LaidAt L (.mk k n v ps ks) b p) (hr : (PT.mk k n v ps ks).right d = true) :
    attrsN b ps.length = axL L.length (kdN L) (prN L) (enN L) (b + 1) 3 := by
  have hlen := hl.len
  rw [PT.size] at hlen
  refine nat_unique ?_ ?_ fun m => ?_
  · unfold attrsN
    rw [List.pairwise_map]
    exact (List.pairwise_lt_range (n := ps.length)).imp fun h => by omega
  · unfold axL
    rw [if_neg (by omega), if_neg (by decide)]
    exact fwd_lt _ _ _
  · rw [axL_mem]
    have e3 : axP (kdN L) (prN L) (enN L) (b + 1) 3 m = true ↔ prN L m = b + 1 ∧ kdN L m = 3 := by simp [axP]
    rw [e3]
    unfold attrsN
    simp only [List.mem_map, List.mem_range]
    constructor
    · rintro ⟨j, hj, rfl⟩
      obtain ⟨x, hx⟩ : ∃ x, ps[j]? = some x := ⟨_, List.getElem?_eq_getElem hj⟩
      have h1 := hl.at_ (lay_pair k n v ps ks b p hx)
      obtain ⟨y, hy, e1, e2, _⟩ := told_in (L := L) (n := b + 2 + j) (by omega) (by omega)
      rw [show b + 2 + j - 1 = b + (1 + j) by omega, h1] at hy
      cases hy
      exact ⟨⟨by omega, by omega⟩, ⟨by omega, by omega⟩, e2, e1⟩
    · rintro ⟨_, ⟨m1, m2⟩, m3, m4⟩
      have hk := hO.kid (show 1 ≤ b + 1 by omega) m1 m2 m3
      obtain ⟨y, hy, _, _, f3⟩ := told_in (L := L) (n := b + 1) (by omega) (by omega)
      have h0 := hl.at_ (lay_head k n v ps ks b p)
      rw [Nat.add_zero] at h0
      rw [Nat.add_sub_cancel, h0] at hy
      cases hy
      rw [f3] at hk
      obtain ⟨hk1, hk2⟩ := hk
      dsimp only at hk2
      by_cases hb : m ≤ b + 1 + ps.length
      · exact ⟨m - (b + 2), by omega, by omega⟩
      · exfalso
        have hks : 0 < ks.length := by
          cases ks with
          | nil => rw [sizeL] at hk2; omega
          | cons a ks => simp
        obtain ⟨t, ht⟩ : ∃ t, ks[0]? = some t := ⟨_, List.getElem?_eq_getElem hks⟩
        have hkid := lay_kid hl ht
        have hk3 := ((right_kid hr).2 t (List.mem_of_getElem? ht)).2
        rw [List.take_zero, sizeL] at hkid
        obtain ⟨k', n', v', ps', ks'⟩ := t
        rw [PT.k] at hk3
        have h5 := hkid.at_ (lay_head k' n' v' ps' ks' _ _)
        rcases (hO.att m m1 m2 m4).2 with h6 | h6
        · omega
        · have h7 := (h6 (b + 2 + ps.length) (by omega) (by omega)).1
          obtain ⟨z, hz, g1, _, _⟩ := told_in (L := L) (n := b + 2 + ps.length) (by omega) (by omega)
          rw [show b + 2 + ps.length - 1 = b + 1 + ps.length + 0 + 0 by omega, h5] at hz
          cases hz
          exact hk3 (g1.symm.trans h7)
theorem attrs_ord {sb lim c : Nat} {A : Option Addr} {ts : List PT} {w : World} (hS : StoreAt w sb lim A c (layL ts 0 0)) (hr : ∀ t ∈ ts, t.right 0 = true) (hL : (layL ts 0 0).length ≤ 1048576) (hO : Ord (layL ts 0 0).length (kdN (layL ts 0 0)) (prN (layL ts 0 0)) (enN (layL ts 0 0)))
    (n : Nat) (h1 : 1 ≤ n) (h2 : n ≤ (layL ts 0 0).length) (hk : kdN (layL ts 0 0) n ≠ 3) (xs : List Nat) (hxs : axL (layL ts 0 0).length (kdN (layL ts 0 0)) (prN (layL ts 0 0)) (enN (layL ts 0 0)) n 3 = xs) :
    Calls Tryd.prog 47 #[.pointer (some ⟨sb, 0, none⟩), .int .i64 (n : Int)] w fun e w' => ∃ A c, e = .returned (.slice A xs.length c) ∧ RdP (NewB w w') w' 1 A xs.length (rowI xs) ∧ Below w.heap.size w w' := by
  obtain ⟨T, p, d, hl, hT⟩ := top_at ts hr h1 h2 hk
  obtain ⟨k, nm, v, ps, ks⟩ := T
  have he := attrs_axis hO hl hT
  rw [show n - 1 + 1 = n by omega, hxs] at he
  have := attrsN_any sb lim A c _ k nm v ps ks (n - 1) p d w hS hl hL hT
  rw [he, show ((n - 1 : Nat) : Int) + 1 = (n : Int) by omega] at this
  refine this.mono ?_
  rintro e w' ⟨A1, c1, rfl, h4, h5⟩
  exact ⟨A1, c1, rfl, h4.keep (fun b hb => ⟨Nat.le_of_lt hb.1, hb.2⟩) (fun _ _ => rfl), h5⟩
theorem root_up' {L : List En} (hN : Nest 0 0 L) (hO : Ord L.length (kdN L) (prN L) (enN L)) : ∀ (f n : Nat), n ≤ f → 1 ≤ n → n ≤ L.length → Up (enN L) n (rootOf L n) ∧ prN L (rootOf L n) = 0
  | 0, n, h0, h1, _ => by omega
  | f + 1, n, h0, h1, h2 => by
    have ep : par L n = prN L n := by unfold par prN; rw [if_neg (by omega)]
    have hpl := hO.plt n h1 h2
    by_cases hp : par L n = 0
    · rw [root_zero hN h1 h2 hp]
      exact ⟨⟨h1, Nat.le_refl _, (hO.enr n h1 h2).1⟩, by rw [← ep]; exact hp⟩
    · rw [root_up hN h1 h2 hp, ep]
      obtain ⟨⟨k1, k2, k3⟩, k4⟩ := root_up' hN hO f (prN L n) (by omega) (by omega) (by omega)
      exact ⟨⟨k1, by omega, (hO.nest _ n k1 (by omega) h2).1.2 ⟨k2, k3⟩⟩, k4⟩
end Go.Proofs.YtcmlfkoeajpliaaDoor
namespace Go.Proofs.YtcmlfkoeajpliaaDoor
open Go.RowKit Go.Lib
set_option maxRecDepth 100000
/-- The blocks from lo up to hi stay. -/
def Stay (lo hi : Nat) (w W : World) : Prop := hi ≤ W.heap.size ∧ ∀ b, lo ≤ b → b < hi → W.heap[b]? = w.heap[b]?
def OffSeg (lo hi : Nat) (v : Value) : Prop := ∀ b, v.ownBlock = some b → b < lo ∨ hi ≤ b
theorem Stay.below {lo hi : Nat} {w W W' : World} (h : Stay lo hi w W) (hb : Below W.heap.size W W') : Stay lo hi w W' :=
  ⟨Nat.le_trans h.1 hb.size, fun b h1 h2 => (hb.block b (Nat.lt_of_lt_of_le h2 h.1)).trans (h.2 b h1 h2)⟩
/-- A row of numbers among these blocks. -/
def RowAt (lo hi : Nat) (w : World) (A : Option Addr) (xs : List Nat) : Prop := RdP (fun b => lo ≤ b ∧ b < hi) w 1 A xs.length (rowI xs)
theorem RowAt.later {lo hi : Nat} {w W : World} {A : Option Addr} {xs : List Nat} (h : RowAt lo hi w A xs) (hs : Stay lo hi w W) : RowAt lo hi W A xs :=
  RdP.keep h (fun _ hb => hb) (fun _p hp => World.cell?_of_block (hs.2 _ hp.1 hp.2))
theorem RowAt.cell {lo hi : Nat} {w W : World} {A : Option Addr} {xs : List Nat} (h : RowAt lo hi w A xs) (hs : Stay lo hi w W) {j : Nat} (hj : j < xs.length) : ∃ ad, A = some ad ∧ W.cell? (ad.add j) = some (.int .i64 ((xs[j]'hj : Nat) : Int)) := by
  obtain ⟨ad, e, _, hc⟩ := (h.later hs).2 (by omega)
  refine ⟨ad, e, hc j _ ?_⟩
  unfold rowI
  rw [List.getElem?_map, List.getElem?_eq_getElem hj]
  rfl
theorem RowAt.cellA {lo hi : Nat} {w W : World} {ad : Addr} {xs : List Nat} (h : RowAt lo hi w (some ad) xs) (hs : Stay lo hi w W) {j : Nat} (hj : j < xs.length) : W.cell? (ad.add j) = some (.int .i64 ((xs[j]'hj : Nat) : Int)) := by
  obtain ⟨ad', e, hc⟩ := h.cell hs hj
  cases e
  exact hc
theorem rowI_app (l k : List Nat) : rowI (l ++ k) = rowI l ++ rowI k := by unfold rowI; rw [List.map_append]
theorem rowI_len (l : List Nat) : (rowI l).length = l.length := by unfold rowI; rw [List.length_map]
theorem rowI_one (l : List Nat) : ∀ u ∈ rowI l, u.oneCell' = true := by
  intro u hu
  unfold rowI at hu
  rw [List.mem_map] at hu
  obtain ⟨j, _, rfl⟩ := hu
  rfl
theorem Stay.refl {lo hi : Nat} {w : World} (h : hi ≤ w.heap.size) : Stay lo hi w w := ⟨h, fun _ _ _ => rfl⟩
structure Grows (base : Nat) (w2 : World) (S : List (Nat × Nat × World)) (W : World) (A : Option Addr) (m c : Nat) (zs : List Nat) : Prop where
  len : zs.length = m
  own : W.ownsRow base 3 1 (.slice A m c) m (rowI zs)
  bel : Below base w2 W
  big : base ≤ W.heap.size
  stay : ∀ s ∈ S, Stay s.1 s.2.1 s.2.2 W ∧ OffSeg s.1 s.2.1 (.slice A m c)
section
variable {base : Nat} {w2 : World} {S : List (Nat × Nat × World)} {W : World} {A : Option Addr} {m c : Nat} {zs : List Nat}
theorem Grows.nil (w : World) : Grows w.heap.size w [] w none 0 0 [] :=
  ⟨rfl, World.ownsRow_nil _ _ _ _, Below.refl _ _, Nat.le_refl _, fun _s hs => nomatch hs⟩
theorem Grows.below {W' : World} (h : Grows base w2 S W A m c zs) (hb : Below W.heap.size W W') : Grows base w2 S W' A m c zs :=
  ⟨h.len, own_below h.own hb, h.bel.trans (hb.mono h.big), Nat.le_trans h.big hb.size, fun s hs => ⟨(h.stay s hs).1.below hb, (h.stay s hs).2⟩⟩
theorem Grows.seg {W' : World} (h : Grows base w2 S W A m c zs) (hb : Below W.heap.size W W') : Grows base w2 ((W.heap.size, W'.heap.size, W') :: S) W' A m c zs := by
  have h' := h.below hb
  refine ⟨h'.len, h'.own, h'.bel, h'.big, fun s hs => ?_⟩
  rcases List.mem_cons.1 hs with rfl | hs
  · exact ⟨⟨Nat.le_refl _, fun _ _ _ => rfl⟩, fun b hb => .inl (own_lt h.own hb).2⟩
  · exact h'.stay s hs
theorem Grows.sub {T : List (Nat × Nat × World)} (h : Grows base w2 S W A m c zs) (hs : ∀ s ∈ T, s ∈ S) : Grows base w2 T W A m c zs :=
  ⟨h.len, h.own, h.bel, h.big, fun s k => h.stay s (hs s k)⟩
theorem Grows.tail {s : Nat × Nat × World} (h : Grows base w2 (s :: S) W A m c zs) : Grows base w2 S W A m c zs := h.sub fun _ k => .tail _ k
/-- The row has grown. -/
theorem Grows.grown {W1 W5 : World} {A5 : Option Addr} {m5 c5 : Nat} {zs5 : List Nat} (h : Grows base w2 S W A m c zs) (hb : Below W.heap.size W W1) (ho : W5.ownsRow base 3 1 (.slice A5 m5 c5) m5 (rowI zs5)) (hg : W1.grownBy W5 (Value.slice A m c).ownBlock)
    (hat : (Value.slice A5 m5 c5).ownBlock = (Value.slice A m c).ownBlock ∨ (Value.slice A5 m5 c5).ownBlock = some W1.heap.size) (hl : zs5.length = m5) : Grows base w2 S W5 A5 m5 c5 zs5 := by
  have h1 := h.below hb
  refine ⟨hl, ho, h1.bel.grown hg h1.big (fun q hq => (own_lt h.own hq).1), Nat.le_trans h1.big hg.size, fun s hs => ?_⟩
  obtain ⟨k1, k2⟩ := h1.stay s hs
  refine ⟨⟨Nat.le_trans k1.1 hg.size, fun b b1 b2 => (hg.block b (Nat.lt_of_lt_of_le b2 k1.1) (fun e => ?_)).trans (k1.2 b b1 b2)⟩, fun b hb' => ?_⟩
  · have := k2 b e.symm; omega
  · rcases hat with e | e
    · exact k2 b (e ▸ hb')
    · rw [e] at hb'
      cases hb'
      exact .inr k1.1
end
end Go.Proofs.YtcmlfkoeajpliaaDoor
