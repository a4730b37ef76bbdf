/- Package deep: attributes counted in a map. No condition beyond what the theorems state. -/
import Derived.Test.YtnkodafhjcjpjaaDoorTrees
import Derived.Test.YtnkodafhjcjpjaaDoorSame
import Derived.Deep.Slices
import Derived.ProofKit
import Derived.WideKeyEntry
import Derived.DeepKeys4
import Derived.Maps.Own
import Derived.Maps.OwnOps
import Derived.Maps.Views
import Derived.Test.YtnkodafhjcjpjaaDoorWords
import Derived.RegionTactic
import Derived.Deep.Cut
namespace Go.Proofs.YtnkodafhjcjpjaaDoor
open Go.RowKit Go.Lib
set_option maxRecDepth 100000
set_option maxHeartbeats 8000000
def kT : Tr → Int
  | .mk k _ _ _ _ _ _ _ _ => k
theorem kT_pl (t : Tr) : kOf t.pl = kT t := by
  obtain ⟨k, n, v, A, ac, ps, K, kc, ks⟩ := t
  rw [Tr.pl, kOf, kT]
def dropC : List Tr → List Tr
  | [] => []
  | t :: ts => if kT t = 5 then dropC ts else t :: ts
theorem dropC_canon : ∀ L : List Tr, canonL (plL (dropC L)) = canonL (plL L)
  | [] => rfl
  | t :: ts => by
    rw [dropC]
    by_cases h : kT t = 5
    · rw [if_pos h, dropC_canon ts, plL, canonL_skip (by rw [kT_pl]; exact h)]
    · rw [if_neg h]
theorem dropC_head {t : Tr} {ts L : List Tr} (h : dropC L = t :: ts) : kT t ≠ 5 := by
  induction L with
  | nil => cases h
  | cons a L ih =>
    rw [dropC] at h
    by_cases ha : kT a = 5
    · rw [if_pos ha] at h; exact ih h
    · rw [if_neg ha] at h; cases h; exact ha
theorem dropC_sub : ∀ (L : List Tr) (t : Tr), t ∈ dropC L → t ∈ L
  | a :: L, t, h => by
    rw [dropC] at h
    by_cases ha : kT a = 5
    · rw [if_pos ha] at h; exact .tail _ (dropC_sub L t h)
    · rw [if_neg ha] at h; exact h
theorem dropC_len : ∀ L : List Tr, (dropC L).length ≤ L.length
  | [] => Nat.le_refl _
  | a :: L => by
    rw [dropC]
    by_cases ha : kT a = 5
    · rw [if_pos ha]; have := dropC_len L; rw [List.length_cons]; omega
    · rw [if_neg ha]; exact Nat.le_refl _
/-- The row behind its first. -/
theorem rdp_tail {P : Nat → Prop} {w : World} {ad : Addr} {n c : Nat} {t : Tr} {ts : List Tr} (h : RdP P w 5 (some ad) (n + 1) (rowT (t :: ts))) (hn : (t :: ts).length = n + 1) : RdP P w 5 (if c = 1 then some ad else some (ad.add 5)) n (rowT ts) ∨ (c = 1 ∧ 0 < n) := by
  by_cases hc : c = 1
  · by_cases h0 : 0 < n
    · exact .inr ⟨hc, h0⟩
    · obtain rfl : n = 0 := by omega
      obtain rfl : ts = [] := List.length_eq_zero_iff.1 (by simpa using hn)
      exact .inl ⟨by simp [rowT], fun h => absurd h (Nat.lt_irrefl _)⟩
  · refine .inl ?_
    rw [if_neg hc]
    obtain ⟨ad', e, hb, hcc⟩ := h.2 (by omega)
    cases e
    have hl : ts.length = n := by simpa using hn
    refine ⟨by rw [rowT_len, hl], fun _ => ⟨_, rfl, by rw [block_of_add]; exact hb, fun j u hu => ?_⟩⟩
    rw [Go.Deep.add_add]
    refine hcc _ u ?_
    have e5 : t.cells.length = 5 := by cases t; rfl
    have e2 : rowT (t :: ts) = t.cells ++ rowT ts := rfl
    rw [e2, List.getElem?_append_right (by omega), e5, show 5 + j - 5 = j by omega]
    exact hu
theorem counting_any (P : Nat → Prop) (A : Option Addr) (n c : Nat) (ks : List Tr) (w : World) (hR : RdP P w 5 A n (rowT ks)) (hn : ks.length = n) (hnc : n ≤ c) (hc : c ≤ maxLen) :
    Calls Tryd.prog 25 #[.slice A n c] w fun e w' => ∃ A' n' c', e = .returned (.slice A' n' c') ∧ RdP P w 5 A' n' (rowT (dropC ks)) ∧ (dropC ks).length = n' ∧ n' ≤ c' ∧ c' ≤ maxLen ∧ w' = w := by
  have HR := Lib.hid hR; have HN := Lib.hid hn
  clear hR hn
  go_enter Tryd.func25, Tryd.ntmps25
  go_wp2
  go_loopw [0] (fun s0 wx => ∃ (A' : Option Addr) (n' c' : Nat) (L : List Tr), s0 = .slice A' n' c' ∧ n' ≤ c' ∧ c' ≤ maxLen ∧ Hid (RdP P w 5 A' n' (rowT L)) ∧ Hid (L.length = n') ∧ Hid (dropC L = dropC ks) ∧ wx = w) (fun s0 _ => match s0 with | .slice _ n _ => n | _ => 0)
  case atStart => exact ⟨A, n, c, ks, rfl, hnc, hc, HR, HN, Lib.hid rfl, rfl⟩
  case round =>
    obtain ⟨A', n', c', L, rfl, h1, h2, hR, hL, hD, hw⟩ := hrel
    subst hw
    rcases L with _ | ⟨t, ts⟩
    · obtain rfl : n' = 0 := by have := hL.out; simpa using this.symm
      have g0 : decide (((0 : Nat) : Int) > 0) = false := by simp
      have hd : dropC ks = [] := hD.out.symm
      have HDD := Lib.hid hd
      clear hd
      go_wp2
      go_ret
      refine ⟨A', 0, c', rfl, ?_, ?_, h1, h2, rfl⟩
      · rw [HDD.out]; exact hR.out
      · rw [HDD.out]; rfl
    · obtain ⟨m, rfl⟩ : ∃ m, n' = m + 1 := ⟨ts.length, by have := hL.out; simpa using this.symm⟩
      have g0 : decide (((m + 1 : Nat) : Int) > 0) = true := by first | (simp; done) | (simp; omega)
      have g0' : decide ((0 : Int) < (m : Int) + 1) = true := by first | (simp; done) | (simp; omega)
      have g0'' : decide (0 < m + 1) = true := by simp
      obtain ⟨k', n'', v', A'', ac', ps', K', kc', ks'⟩ := t
      obtain ⟨ad, rfl, hPad, d0, _⟩ := kid_at (i := 0) hR.out rfl (by omega)
      rw [Nat.zero_mul, Addr.add_zero'] at d0
      have hts := rdp_tail (c := c') hR.out hL.out
      have HT := Lib.hid (hts.resolve_right (by omega))
      have hlt : ts.length = m := by have := hL.out; simpa using this
      have HLT := Lib.hid hlt
      clear hts hlt
      by_cases hk : k' = 5
      · subst hk
        have HD2 : Hid (dropC ts = dropC ks) := Lib.hid (by have := hD.out; rw [dropC, kT, if_pos rfl] at this; exact this)
        go_wp2
        go_roundw
        case rel => exact ⟨_, m, c' - 1, ts, by first | rfl | go_num, by omega, by omega, HT, HLT, HD2, by trivial⟩
        case measure => first | (simp; done) | (simp; omega)
      · have g1 : (k' == 5) = false := by simpa using hk
        have hd : dropC ks = Tr.mk k' n'' v' A'' ac' ps' K' kc' ks' :: ts := by have := hD.out; rw [dropC, kT, if_neg hk] at this; exact this.symm
        have HDD := Lib.hid hd
        clear hd
        go_wp2
        go_ret
        refine ⟨some ad, m + 1, c', rfl, ?_, ?_, h1, h2, rfl⟩
        · rw [HDD.out]; exact hR.out
        · rw [HDD.out]; exact hL.out
end Go.Proofs.YtnkodafhjcjpjaaDoor
namespace Go.Proofs.YtnkodafhjcjpjaaDoor
open Go.RowKit Go.Lib
set_option maxRecDepth 100000
theorem laidOut : laidOutB Tryd.prog = true := by kernel_rfl
theorem keyT : Tryd.prog.keyType 32 = true := by kernel_rfl
theorem keyL : WideMaps.KeyLaw Tryd.prog 32 := deep_law_laid laidOut (m := 100) (by decide) (of_decide_eq_true (by kernel_rfl)) (by kernel_rfl) (by kernel_rfl)
theorem key_lits (d : Nat) (s t : List UInt8) (hs : s.length ≤ maxLen) (ht : t.length ≤ maxLen) : Tryd.prog.keyLits (d + 2) 32 [.string (ba' s), .string (ba' t)] = some [.string s, .string t] := by
  have h1 : Tryd.prog.cellsOf 32 = 2 := by kernel_rfl
  have h2 : Tryd.prog.cellsOf 9 = 1 := by kernel_rfl
  have hs' : (ba' s).size ≤ maxLen := by rw [size_ba]; exact hs
  have ht' : (ba' t).size ≤ maxLen := by rw [size_ba]; exact ht
  have k1 : ∀ u : List UInt8, (ba' u).size ≤ maxLen → Tryd.prog.keyLits (d + 1) 9 [.string (ba' u)] = some [.string u] := fun u hu => by
    unfold Program.keyLits
    rw [Tryd.underlying9]
    simp [hu]
    rfl
  unfold Program.keyLits
  rw [Tryd.underlying32]
  simp [h1, h2, k1 s hs', k1 t ht']
theorem key_pair (s t : List UInt8) (hs : s.length ≤ maxLen) (ht : t.length ≤ maxLen) : ∃ kl, keyOf Tryd.prog 32 (.agg #[.string (ba' s), .string (ba' t)]) = some kl := by
  obtain ⟨m, hm⟩ : ∃ m, Tryd.prog.types.size = m + 1 := ⟨Tryd.prog.types.size - 1, by have : 0 < Tryd.prog.types.size := of_decide_eq_true (by kernel_rfl); omega⟩
  have hf : (Value.agg #[.string (ba' s), .string (ba' t)]).formed Tryd.prog 32 = true := by kernel_rfl
  unfold keyOf
  rw [Tryd.underlying32, keyT, hm, hf]
  have hc : (Value.agg #[.string (ba' s), .string (ba' t)]).cells.toList = [.string (ba' s), .string (ba' t)] := rfl
  rw [hc, key_lits m s t hs ht]
  exact ⟨_, rfl⟩
end Go.Proofs.YtnkodafhjcjpjaaDoor
namespace Go.Proofs.YtnkodafhjcjpjaaDoor
open Go.RowKit Go.Lib Go.WideElems Go.ChangeMaps Go.Maps Go.ChangeShapes Go.WideShapes Go.MapKept
set_option maxRecDepth 100000
theorem zero3 (u : World) : (zeroValue 3).run Tryd.prog u = .ok (.int .i64 0) u := by kernel_rfl
theorem keyed : Keyed Tryd.prog 32 := Keyed.of_law keyL
theorem entry_as_update {w : World} {b : Nat} {es : Array MapEntry} {clock : Nat} (hb : w.heap[b]? = some (.map es clock)) (hk : ∀ e ∈ es.toList, ∃ l, keyOf Tryd.prog 32 e.key = some l) {key : Value} {kl : Lit} (hkey : keyOf Tryd.prog 32 key = some kl) :
    ∃ (v0 : Value) (st : Nat) (es1 : Array MapEntry) (clock1 : Nat), (Instr.mapEntry 50 (.map (some b)) key).run Tryd.prog w = .ok (.tuple #[v0, goInt st]) (setBlock w b (.map es1 clock1)) ∧ (Instr.mapUpdate 50 (.map (some b)) key v0).run Tryd.prog w = .ok () (setBlock w b (.map es1 clock1)) ∧ (Instr.lookup 50 (.map (some b)) key false).run Tryd.prog w = .ok v0 w := by
  have ht : Tryd.prog.underlying 50 = some (.map 32 3) := Tryd.underlying50
  have hz : ∀ u : World, (zeroValue 3).run Tryd.prog u = .ok (.int .i64 0) u := zero3
  rcases keyL.find w hkey es.toList hk with ⟨h1, h2⟩ | ⟨j, e0, h1, h2, h3⟩
  · refine ⟨.int .i64 0, clock, es.push ⟨key, .int .i64 0, clock⟩, clock + 1, ?_, ?_, ?_⟩
    · simp [Instr.mapEntry, run_underlying ht, MapKept.run_getObj_map hb, keyL.check w false hkey, h1, hz, MapKept.run_setObj_map _ hb, Result.andThen, setBlock]
    · simp [Instr.mapUpdate, run_underlying ht, MapKept.run_getObj_map hb, keyL.check w false hkey, h1, MapKept.run_setObj_map _ hb, Result.andThen, setBlock]
    · simp [Instr.lookup, run_underlying ht, MapKept.run_getObj_map hb, keyL.check w es.isEmpty hkey, h1, hz, Result.andThen]
  · have hj : es[j]? = some e0 := by simpa using h2
    have hsame : es.modify j (fun e => { e with key := key }) = es := by
      apply Array.ext'
      rw [Array.toList_modify, modify_eq_set _ _ _ _ h2]
      have : ({ e0 with key := key } : MapEntry) = e0 := by rw [← h3]
      rw [this]
      exact set_self _ _ _ h2
    have hsame2 : es.modify j (fun e => { e with key := key, val := e0.val }) = es := by
      apply Array.ext'
      rw [Array.toList_modify, modify_eq_set _ _ _ _ h2]
      have : ({ e0 with key := key, val := e0.val } : MapEntry) = e0 := by rw [← h3]
      rw [this]
      exact set_self _ _ _ h2
    refine ⟨e0.val, e0.born, es, clock, ?_, ?_, ?_⟩
    · simp [Instr.mapEntry, run_underlying ht, MapKept.run_getObj_map hb, keyL.check w false hkey, h1, hj, h3, keyL.stays w hkey, hsame, MapKept.run_setObj_map _ hb, Result.andThen, setBlock]
    · simp [Instr.mapUpdate, run_underlying ht, MapKept.run_getObj_map hb, keyL.check w false hkey, h1, hj, h3, keyL.stays w hkey, hsame2, MapKept.run_setObj_map _ hb, Result.andThen, setBlock]
    · simp [Instr.lookup, run_underlying ht, MapKept.run_getObj_map hb, keyL.check w es.isEmpty hkey, h1, Result.andThen]
theorem bump {w : World} {b n : Nat} {D : DataW Unit} (h : w.ownsMap Tryd.prog 32 (plainElem Tryd.prog 3) b n D) (hn : n < maxLen) {key : Value} {kl : Lit} (hkey : keyOf Tryd.prog 32 key = some kl) :
    ∃ (c : Int) (st : Nat) (W1 : World), D.atKey kl (.lit (.int .i64 0)) = .lit (.int .i64 c) ∧ (Lit.int .i64 c).wf = true ∧
      (Instr.lookup 50 (.map (some b)) key false).run Tryd.prog w = .ok (.int .i64 c) w ∧ (Instr.mapEntry 50 (.map (some b)) key).run Tryd.prog w = .ok (.tuple #[.int .i64 c, goInt st]) W1 ∧ (Instr.lookup 50 (.map (some b)) key false).run Tryd.prog W1 = .ok (.int .i64 c) W1 ∧
      ∀ q : Int, (Lit.int .i64 q).wf = true → ∃ W3, (Instr.entryStore 50 (.map (some b)) (goInt st) (.int .i64 q)).run Tryd.prog W1 = .ok () W3 ∧ W3.ownsMap Tryd.prog 32 (plainElem Tryd.prog 3) b (n + 1) (D.put kl (.lit (.int .i64 q))) ∧ w.grownBy W3 (some b) := by
  have h' := h
  obtain ⟨c, hl, hat, hwf⟩ := h.lookup_int keyed Tryd.underlying50 Tryd.underlying3 (zero3 w) hkey
  obtain ⟨es, clock, hb, F, hs, hD⟩ := h
  obtain ⟨v0, st, es1, clock1, hrun, hup, hlo⟩ := entry_as_update hb F.keys hkey
  rw [hl] at hlo
  cases hlo
  obtain ⟨v0, st', es2, clock2, hrun2, _, hst⟩ := entry_then_store keyL Tryd.underlying50 zero3 hb F hkey
  rw [hrun] at hrun2
  obtain ⟨w1, hu1, how1, hg1⟩ := h'.update keyed Tryd.underlying50 hn hkey (plainElem_int Tryd.underlying3 hwf)
  rw [hu1] at hup
  obtain ⟨c', hl1, hat1, _⟩ := how1.lookup_int keyed Tryd.underlying50 Tryd.underlying3 (zero3 w1) hkey
  rw [Maps.atKey_put_same ⟨_, hD⟩ (keyed.key hkey)] at hat1
  cases hat1
  have e1 : w1 = setBlock w b (.map es1 clock1) := by injection hup
  rw [e1] at hl1
  refine ⟨c, st, _, hat, hwf, hl, hrun, hl1, fun q hq => ?_⟩
  have hlt : b < w.heap.size := h'.lt
  have e2 : setBlock w b (.map es1 clock1) = setBlock w b (.map es2 clock2) ∧ st' = st := by
    injection hrun2 with r1 r2
    refine ⟨r2, ?_⟩
    injection r1 with r3
    have r4 : goInt st = goInt st' := by simp at r3; exact r3.2
    have : ((st : Nat) : Int) = st' := by simpa [goInt] using r4
    omega
  obtain ⟨e2, rfl⟩ := e2
  obtain ⟨es', clock', hs1, hs2⟩ := hst (setBlock w b (.map es1 clock1)) (.int .i64 q) (by rw [e2]; exact heap_setBlock_same hb _)
  obtain ⟨w3, hu3, how3, hg3⟩ := h'.update keyed Tryd.underlying50 hn hkey (plainElem_int Tryd.underlying3 hq)
  rw [hu3] at hs2
  have e3 : w3 = setBlock w b (.map es' clock') := by injection hs2
  have e4 : setBlock (setBlock w b (.map es1 clock1)) b (.map es' clock') = setBlock w b (.map es' clock') := by
    simp [setBlock]
  rw [e4, ← e3] at hs1
  exact ⟨w3, hs1, how3, hg3⟩
end Go.Proofs.YtnkodafhjcjpjaaDoor
namespace Go.Proofs.YtnkodafhjcjpjaaDoor
open Go.RowKit Go.Lib
set_option maxRecDepth 100000
theorem lk {listed : Array Bool} {i j : Nat} {p : Prop} (F : listed.getD j false = true → p) (h : i ≠ j := by decide) : (listed.setIfInBounds i true).getD j false = true → p := fun q => F (ls h q)
theorem flag_ne {l : Array Bool} {i : Nat} (j : Nat) (h : i ≠ j) : (l.setIfInBounds i true).getD j false = l.getD j false := getD_set_ne false h
theorem off {a b : Bool} (h : a = true → b = true) (hb : b = false) : a = false := by cases a <;> simp_all
def Wof (entered stored : Bool) (W0 W1 W3 : World) : World := if stored then W3 else if entered then W1 else W0
def UpI (b kp st : Nat) (c : Int) (key : Value) (W0 W1 W3 : World) (c0 c1 c2 c3 c4 c6 c8 c9 c10 c11 c12 c13 c14 c15 c16 c17 c18 c19 c20 c21 c22 c23 c30 c31 c32 c33 c34 c35 c36 c37 c38 c39 c40 c41 c42 c43 c44 c45 c46 c47 : Value) (listed : Array Bool) (A : Act) (w : World) : Prop := ∃ (s24 s25 s26 s27 s28 s29 : Value), A = { tmps := #[c0, c1, c2, c3, c4, .map (some b), c6, .pointer (some ⟨kp, 0, none⟩), c8, c9, c10, c11, c12, c13, c14, c15, c16, c17, c18, c19, c20, c21, c22, c23, s24, s25, s26, s27, s28, s29, c30, c31, c32, c33, c34, c35, c36, c37, c38, c39, c40, c41, c42, c43, c44, c45, c46, c47], defers := [] } ∧
  (listed.getD 0 false = true → s24 = .map (some b)) ∧
  (listed.getD 1 false = true → s25 = key) ∧
  (listed.getD 2 false = true → s26 = .int .i64 c) ∧
  (listed.getD 3 false = true → s27 = .int .i64 (c + 1)) ∧
  (listed.getD 4 false = true → s28 = .tuple #[.int .i64 c, goInt st]) ∧
  (listed.getD 5 false = true → s29 = goInt st) ∧
  Hid (w = Wof (listed.getD 4 false) (listed.getD 6 false) W0 W1 W3) ∧
  (listed.getD 4 false = true → listed.getD 1 false = true) ∧
  (listed.getD 6 false = true → listed.getD 4 false = true) ∧
  (listed.getD 6 false = true → listed.getD 2 false = true) ∧
  (listed.getD 5 false = true → listed.getD 4 false = true) ∧
  (listed.getD 3 false = true → listed.getD 2 false = true)
set_option maxHeartbeats 16000000 in
theorem Up_region (b kp st : Nat) (c : Int) (s t : List UInt8) (W W1 W3 : World) (x24 x25 x26 x27 x28 x29 : Value) (c0 c1 c2 c3 c4 c6 c8 c9 c10 c11 c12 c13 c14 c15 c16 c17 c18 c19 c20 c21 c22 c23 c30 c31 c32 c33 c34 c35 c36 c37 c38 c39 c40 c41 c42 c43 c44 c45 c46 c47 : Value) (Q : Exit → Act → World → Prop)
    (k0 : W.cell? ⟨kp, 0, none⟩ = some (.string (ba' s))) (k1 : W.cell? ⟨kp, 1, none⟩ = some (.string (ba' t)))
    (hl : (Instr.lookup 50 (.map (some b)) (.agg #[.string (ba' s), .string (ba' t)]) false).run Tryd.prog W.drew = .ok (.int .i64 c) W.drew)
    (he : (Instr.mapEntry 50 (.map (some b)) (.agg #[.string (ba' s), .string (ba' t)])).run Tryd.prog W.drew = .ok (.tuple #[.int .i64 c, goInt st]) W1)
    (hm : (Instr.lookup 50 (.map (some b)) (.agg #[.string (ba' s), .string (ba' t)]) false).run Tryd.prog W1 = .ok (.int .i64 c) W1)
    (hs : (Instr.entryStore 50 (.map (some b)) (goInt st) (.int .i64 (c + 1))).run Tryd.prog W1 = .ok () W3)
    (hw : IntKind.i64.wrap (c + 1) = c + 1)
    (hQ : Q .normal { tmps := #[c0, c1, c2, c3, c4, .map (some b), c6, .pointer (some ⟨kp, 0, none⟩), c8, c9, c10, c11, c12, c13, c14, c15, c16, c17, c18, c19, c20, c21, c22, c23, .map (some b), (.agg #[.string (ba' s), .string (ba' t)]), .int .i64 c, .int .i64 (c + 1), .tuple #[.int .i64 c, goInt st], goInt st, c30, c31, c32, c33, c34, c35, c36, c37, c38, c39, c40, c41, c42, c43, c44, c45, c46, c47], defers := [] } W3) :
    Code.wp Tryd.prog ((Tryd.f15.body.bind (regionOf 7)).getD .skip) Q { tmps := #[c0, c1, c2, c3, c4, .map (some b), c6, .pointer (some ⟨kp, 0, none⟩), c8, c9, c10, c11, c12, c13, c14, c15, c16, c17, c18, c19, c20, c21, c22, c23, x24, x25, x26, x27, x28, x29, c30, c31, c32, c33, c34, c35, c36, c37, c38, c39, c40, c41, c42, c43, c44, c45, c46, c47], defers := [] } W := by
  conv => arg 2; whnf
  refine wp_region_inv (by kernel_rfl) (by kernel_rfl) (UpI b kp st c (.agg #[.string (ba' s), .string (ba' t)]) W.drew W1 W3 c0 c1 c2 c3 c4 c6 c8 c9 c10 c11 c12 c13 c14 c15 c16 c17 c18 c19 c20 c21 c22 c23 c30 c31 c32 c33 c34 c35 c36 c37 c38 c39 c40 c41 c42 c43 c44 c45 c46 c47) ?_ ?_ ?_
  · exact ⟨_, _, _, _, _, _, rfl, fun h => absurd h l0, fun h => absurd h l0, fun h => absurd h l0, fun h => absurd h l0, fun h => absurd h l0, fun h => absurd h l0, hid rfl, fun h => absurd h l0, fun h => absurd h l0, fun h => absurd h l0, fun h => absurd h l0, fun h => absurd h l0⟩
  · intro i o listed A w hi ho hd hn hI
    obtain ⟨s24, s25, s26, s27, s28, s29, rfl, F0, F1, F2, F3, F4, F5, F6, G1, G2, G3, G4, G5⟩ := hI
    have hi' : i < 7 := hi
    clear hi
    rcases (by omega : i = 0 ∨ i = 1 ∨ i = 2 ∨ i = 3 ∨ i = 4 ∨ i = 5 ∨ i = 6) with rfl | rfl | rfl | rfl | rfl | rfl | rfl
    · simp only [List.getElem?_toArray, List.getElem?_cons_zero, Option.some.injEq] at ho
      subst ho
      have gn : listed.getD 0 false = false := lf hn
      refine wpOp_step rfl (fun K hK => ?_)
      go_simp
      refine hK _ _ ?_
      exact ⟨_, _, _, _, _, _, rfl, fun _ => rfl, (by first | exact lk F1 | exact fun _ => rfl), (by first | exact lk F2 | exact fun _ => rfl), (by first | exact lk F3 | exact fun _ => rfl), (by first | exact lk F4 | exact fun _ => rfl), (by first | exact lk F5 | exact fun _ => rfl), hid (by rw [flag_ne 4 (by decide), flag_ne 6 (by decide)]; exact (id F6 : w = Wof (listed.getD 4 false) (listed.getD 6 false) W.drew W1 W3)), fun h => la (G1 (ls (by decide) h)), fun h => la (G2 (ls (by decide) h)), fun h => la (G3 (ls (by decide) h)), fun h => la (G4 (ls (by decide) h)), fun h => la (G5 (ls (by decide) h))⟩
    · simp only [List.getElem?_toArray, List.getElem?_cons_zero, List.getElem?_cons_succ, Option.some.injEq] at ho
      subst ho
      have gn : listed.getD 1 false = false := lf hn
      have g4 : listed.getD 4 false = false := off G1 gn
      have g6 : listed.getD 6 false = false := off G2 g4
      replace F6 := (id F6 : w = Wof (listed.getD 4 false) (listed.getD 6 false) W.drew W1 W3)
      rw [g4, g6] at F6
      replace F6 : w = W.drew := F6
      subst F6
      have e0 : W.drew.cell? ⟨kp, 0, none⟩ = some (.string (ba' s)) := k0
      have e1 : W.drew.cell? ⟨kp, 1, none⟩ = some (.string (ba' t)) := k1
      refine wpOp_step rfl (fun K hK => ?_)
      go_simp
      refine hK _ _ ?_
      exact ⟨_, _, _, _, _, _, rfl, (by first | exact lk F0 | exact fun _ => rfl), fun _ => rfl, (by first | exact lk F2 | exact fun _ => rfl), (by first | exact lk F3 | exact fun _ => rfl), (by first | exact lk F4 | exact fun _ => rfl), (by first | exact lk F5 | exact fun _ => rfl), hid (by rw [flag_ne 4 (by decide), flag_ne 6 (by decide), g4, g6]; rfl), fun _ => lself hn, fun h => la (G2 (ls (by decide) h)), fun h => la (G3 (ls (by decide) h)), fun h => la (G4 (ls (by decide) h)), fun h => la (G5 (ls (by decide) h))⟩
    · simp only [List.getElem?_toArray, List.getElem?_cons_zero, List.getElem?_cons_succ, Option.some.injEq] at ho
      subst ho
      have L0 := hd ⟨0, .data⟩ (by simp) rfl
      have L1 := hd ⟨1, .data⟩ (by simp) rfl
      obtain rfl := F0 L0
      obtain rfl := F1 L1
      have gn : listed.getD 2 false = false := lf hn
      have g6 : listed.getD 6 false = false := off G3 gn
      have hL : (Instr.lookup 50 (.map (some b)) (.agg #[.string (ba' s), .string (ba' t)]) false).run Tryd.prog w = .ok (.int .i64 c) w := by
        have F6 := (id F6 : w = Wof (listed.getD 4 false) (listed.getD 6 false) W.drew W1 W3)
        rw [g6] at F6
        cases h4 : listed.getD 4 false with
        | true => rw [h4] at F6; obtain rfl : w = W1 := F6; exact hm
        | false => rw [h4] at F6; obtain rfl : w = W.drew := F6; exact hl
      refine wpOp_step rfl (fun K hK => ?_)
      rw [if_pos (show Region.wanted _ _ = true from rfl)]
      unfold Oper.wp
      simp [execOp, hL, Result.andThen, Act.eval]
      refine hK _ _ ?_
      exact ⟨_, _, _, _, _, _, rfl, (by first | exact lk F0 | exact fun _ => rfl), (by first | exact lk F1 | exact fun _ => rfl), fun _ => rfl, (by first | exact lk F3 | exact fun _ => rfl), (by first | exact lk F4 | exact fun _ => rfl), (by first | exact lk F5 | exact fun _ => rfl), hid (by rw [flag_ne 4 (by decide), flag_ne 6 (by decide)]; exact (id F6 : w = Wof (listed.getD 4 false) (listed.getD 6 false) W.drew W1 W3)), fun h => la (G1 (ls (by decide) h)), fun h => la (G2 (ls (by decide) h)), fun _ => lself hn, fun h => la (G4 (ls (by decide) h)), fun _ => lself hn⟩
    · simp only [List.getElem?_toArray, List.getElem?_cons_zero, List.getElem?_cons_succ, Option.some.injEq] at ho
      subst ho
      have L2 := hd ⟨2, .data⟩ (by simp) rfl
      obtain rfl := F2 L2
      have gn : listed.getD 3 false = false := lf hn
      refine wpOp_step rfl (fun K hK => ?_)
      go_simp
      refine hK _ _ ?_
      exact ⟨_, _, _, _, _, _, rfl, (by first | exact lk F0 | exact fun _ => rfl), (by first | exact lk F1 | exact fun _ => rfl), (by first | exact lk F2 | exact fun _ => rfl), fun _ => rfl, (by first | exact lk F4 | exact fun _ => rfl), (by first | exact lk F5 | exact fun _ => rfl), hid (by rw [flag_ne 4 (by decide), flag_ne 6 (by decide)]; exact (id F6 : w = Wof (listed.getD 4 false) (listed.getD 6 false) W.drew W1 W3)), fun h => la (G1 (ls (by decide) h)), fun h => la (G2 (ls (by decide) h)), fun h => la (G3 (ls (by decide) h)), fun h => la (G4 (ls (by decide) h)), fun _ => la L2⟩
    · simp only [List.getElem?_toArray, List.getElem?_cons_zero, List.getElem?_cons_succ, Option.some.injEq] at ho
      subst ho
      have L0 := hd ⟨0, .data⟩ (by simp) rfl
      have L1 := hd ⟨1, .data⟩ (by simp) rfl
      obtain rfl := F0 L0
      obtain rfl := F1 L1
      have gn : listed.getD 4 false = false := lf hn
      have g4 := gn
      have g6 : listed.getD 6 false = false := off G2 g4
      replace F6 := (id F6 : w = Wof (listed.getD 4 false) (listed.getD 6 false) W.drew W1 W3)
      rw [g4, g6] at F6
      replace F6 : w = W.drew := F6
      subst F6
      refine wpOp_step rfl (fun K hK => ?_)
      rw [if_pos (show Region.wanted _ _ = true from rfl)]
      unfold Oper.wp
      simp [execOp, he, Result.andThen, Act.eval]
      refine hK _ _ ?_
      exact ⟨_, _, _, _, _, _, rfl, (by first | exact lk F0 | exact fun _ => rfl), (by first | exact lk F1 | exact fun _ => rfl), (by first | exact lk F2 | exact fun _ => rfl), (by first | exact lk F3 | exact fun _ => rfl), fun _ => rfl, (by first | exact lk F5 | exact fun _ => rfl), hid (by rw [lself hn, flag_ne 6 (by decide), g6]; rfl), fun _ => la L1, fun _ => lself hn, fun h => la (G3 (ls (by decide) h)), fun _ => lself hn, fun h => la (G5 (ls (by decide) h))⟩
    · simp only [List.getElem?_toArray, List.getElem?_cons_zero, List.getElem?_cons_succ, Option.some.injEq] at ho
      subst ho
      have L4 := hd ⟨4, .data⟩ (by simp) rfl
      obtain rfl := F4 L4
      have gn : listed.getD 5 false = false := lf hn
      refine wpOp_step rfl (fun K hK => ?_)
      go_simp
      refine hK _ _ ?_
      exact ⟨_, _, _, _, _, _, rfl, (by first | exact lk F0 | exact fun _ => rfl), (by first | exact lk F1 | exact fun _ => rfl), (by first | exact lk F2 | exact fun _ => rfl), (by first | exact lk F3 | exact fun _ => rfl), (by first | exact lk F4 | exact fun _ => rfl), fun _ => rfl, hid (by rw [flag_ne 4 (by decide), flag_ne 6 (by decide)]; exact (id F6 : w = Wof (listed.getD 4 false) (listed.getD 6 false) W.drew W1 W3)), fun h => la (G1 (ls (by decide) h)), fun h => la (G2 (ls (by decide) h)), fun h => la (G3 (ls (by decide) h)), fun _ => la L4, fun h => la (G5 (ls (by decide) h))⟩
    · simp only [List.getElem?_toArray, List.getElem?_cons_zero, List.getElem?_cons_succ, Option.some.injEq] at ho
      subst ho
      have L0 := hd ⟨0, .data⟩ (by simp) rfl
      have L5 := hd ⟨5, .data⟩ (by simp) rfl
      have L3 := hd ⟨3, .data⟩ (by simp) rfl
      obtain rfl := F0 L0
      obtain rfl := F5 L5
      obtain rfl := F3 L3
      have gn : listed.getD 6 false = false := lf hn
      have g4 := G4 L5
      have g6 := gn
      replace F6 := (id F6 : w = Wof (listed.getD 4 false) (listed.getD 6 false) W.drew W1 W3)
      rw [g4, g6] at F6
      replace F6 : w = W1 := F6
      subst F6
      refine wpOp_step rfl (fun K hK => ?_)
      rw [if_pos (show Region.wanted _ _ = true from rfl)]
      unfold Oper.wp
      simp [execOp, hs, Result.andThen, Act.eval]
      refine hK _ _ ?_
      exact ⟨_, _, _, _, _, _, rfl, (by first | exact lk F0 | exact fun _ => rfl), (by first | exact lk F1 | exact fun _ => rfl), (by first | exact lk F2 | exact fun _ => rfl), (by first | exact lk F3 | exact fun _ => rfl), (by first | exact lk F4 | exact fun _ => rfl), (by first | exact lk F5 | exact fun _ => rfl), hid (by rw [flag_ne 4 (by decide), lself hn, g4]; rfl), fun h => la (G1 (ls (by decide) h)), fun _ => la g4, fun _ => la (G5 L3), fun h => la (G4 (ls (by decide) h)), fun h => la (G5 (ls (by decide) h))⟩
  · intro listed A w hall hI
    obtain ⟨s24, s25, s26, s27, s28, s29, rfl, F0, F1, F2, F3, F4, F5, F6, _⟩ := hI
    obtain rfl := F0 (hall 0 (by decide))
    obtain rfl := F1 (hall 1 (by decide))
    obtain rfl := F2 (hall 2 (by decide))
    obtain rfl := F3 (hall 3 (by decide))
    obtain rfl := F4 (hall 4 (by decide))
    obtain rfl := F5 (hall 5 (by decide))
    replace F6 := (id F6 : w = Wof (listed.getD 4 false) (listed.getD 6 false) W.drew W1 W3)
    rw [hall 4 (by decide), hall 6 (by decide)] at F6
    obtain rfl : w = W3 := F6
    exact hQ
def DnI (b kp st : Nat) (c : Int) (key : Value) (W0 W1 W3 : World) (c0 c1 c2 c3 c4 c6 c7 c8 c10 c11 c12 c13 c14 c15 c16 c17 c18 c19 c20 c21 c22 c23 c24 c25 c26 c27 c28 c29 c30 c31 c32 c33 c34 c35 c36 c37 c38 c39 c40 c47 : Value) (listed : Array Bool) (A : Act) (w : World) : Prop := ∃ (s41 s42 s43 s44 s45 s46 : Value), A = { tmps := #[c0, c1, c2, c3, c4, .map (some b), c6, c7, c8, .pointer (some ⟨kp, 0, none⟩), c10, c11, c12, c13, c14, c15, c16, c17, c18, c19, c20, c21, c22, c23, c24, c25, c26, c27, c28, c29, c30, c31, c32, c33, c34, c35, c36, c37, c38, c39, c40, s41, s42, s43, s44, s45, s46, c47], defers := [] } ∧
  (listed.getD 0 false = true → s41 = .map (some b)) ∧
  (listed.getD 1 false = true → s42 = key) ∧
  (listed.getD 2 false = true → s43 = .int .i64 c) ∧
  (listed.getD 3 false = true → s44 = .int .i64 (c - 1)) ∧
  (listed.getD 4 false = true → s45 = .tuple #[.int .i64 c, goInt st]) ∧
  (listed.getD 5 false = true → s46 = goInt st) ∧
  Hid (w = Wof (listed.getD 4 false) (listed.getD 6 false) W0 W1 W3) ∧
  (listed.getD 4 false = true → listed.getD 1 false = true) ∧
  (listed.getD 6 false = true → listed.getD 4 false = true) ∧
  (listed.getD 6 false = true → listed.getD 2 false = true) ∧
  (listed.getD 5 false = true → listed.getD 4 false = true) ∧
  (listed.getD 3 false = true → listed.getD 2 false = true)
set_option maxHeartbeats 16000000 in
theorem Dn_region (b kp st : Nat) (c : Int) (s t : List UInt8) (W W1 W3 : World) (x41 x42 x43 x44 x45 x46 : Value) (c0 c1 c2 c3 c4 c6 c7 c8 c10 c11 c12 c13 c14 c15 c16 c17 c18 c19 c20 c21 c22 c23 c24 c25 c26 c27 c28 c29 c30 c31 c32 c33 c34 c35 c36 c37 c38 c39 c40 c47 : Value) (Q : Exit → Act → World → Prop)
    (k0 : W.cell? ⟨kp, 0, none⟩ = some (.string (ba' s))) (k1 : W.cell? ⟨kp, 1, none⟩ = some (.string (ba' t)))
    (hl : (Instr.lookup 50 (.map (some b)) (.agg #[.string (ba' s), .string (ba' t)]) false).run Tryd.prog W.drew = .ok (.int .i64 c) W.drew)
    (he : (Instr.mapEntry 50 (.map (some b)) (.agg #[.string (ba' s), .string (ba' t)])).run Tryd.prog W.drew = .ok (.tuple #[.int .i64 c, goInt st]) W1)
    (hm : (Instr.lookup 50 (.map (some b)) (.agg #[.string (ba' s), .string (ba' t)]) false).run Tryd.prog W1 = .ok (.int .i64 c) W1)
    (hs : (Instr.entryStore 50 (.map (some b)) (goInt st) (.int .i64 (c - 1))).run Tryd.prog W1 = .ok () W3)
    (hw : IntKind.i64.wrap (c - 1) = c - 1)
    (hQ : Q .normal { tmps := #[c0, c1, c2, c3, c4, .map (some b), c6, c7, c8, .pointer (some ⟨kp, 0, none⟩), c10, c11, c12, c13, c14, c15, c16, c17, c18, c19, c20, c21, c22, c23, c24, c25, c26, c27, c28, c29, c30, c31, c32, c33, c34, c35, c36, c37, c38, c39, c40, .map (some b), (.agg #[.string (ba' s), .string (ba' t)]), .int .i64 c, .int .i64 (c - 1), .tuple #[.int .i64 c, goInt st], goInt st, c47], defers := [] } W3) :
    Code.wp Tryd.prog ((Tryd.f15.body.bind (regionOf 14)).getD .skip) Q { tmps := #[c0, c1, c2, c3, c4, .map (some b), c6, c7, c8, .pointer (some ⟨kp, 0, none⟩), c10, c11, c12, c13, c14, c15, c16, c17, c18, c19, c20, c21, c22, c23, c24, c25, c26, c27, c28, c29, c30, c31, c32, c33, c34, c35, c36, c37, c38, c39, c40, x41, x42, x43, x44, x45, x46, c47], defers := [] } W := by
  conv => arg 2; whnf
  refine wp_region_inv (by kernel_rfl) (by kernel_rfl) (DnI b kp st c (.agg #[.string (ba' s), .string (ba' t)]) W.drew W1 W3 c0 c1 c2 c3 c4 c6 c7 c8 c10 c11 c12 c13 c14 c15 c16 c17 c18 c19 c20 c21 c22 c23 c24 c25 c26 c27 c28 c29 c30 c31 c32 c33 c34 c35 c36 c37 c38 c39 c40 c47) ?_ ?_ ?_
  · exact ⟨_, _, _, _, _, _, rfl, fun h => absurd h l0, fun h => absurd h l0, fun h => absurd h l0, fun h => absurd h l0, fun h => absurd h l0, fun h => absurd h l0, hid rfl, fun h => absurd h l0, fun h => absurd h l0, fun h => absurd h l0, fun h => absurd h l0, fun h => absurd h l0⟩
  · intro i o listed A w hi ho hd hn hI
    obtain ⟨s41, s42, s43, s44, s45, s46, rfl, F0, F1, F2, F3, F4, F5, F6, G1, G2, G3, G4, G5⟩ := hI
    have hi' : i < 7 := hi
    clear hi
    rcases (by omega : i = 0 ∨ i = 1 ∨ i = 2 ∨ i = 3 ∨ i = 4 ∨ i = 5 ∨ i = 6) with rfl | rfl | rfl | rfl | rfl | rfl | rfl
    · simp only [List.getElem?_toArray, List.getElem?_cons_zero, Option.some.injEq] at ho
      subst ho
      have gn : listed.getD 0 false = false := lf hn
      refine wpOp_step rfl (fun K hK => ?_)
      go_simp
      refine hK _ _ ?_
      exact ⟨_, _, _, _, _, _, rfl, fun _ => rfl, (by first | exact lk F1 | exact fun _ => rfl), (by first | exact lk F2 | exact fun _ => rfl), (by first | exact lk F3 | exact fun _ => rfl), (by first | exact lk F4 | exact fun _ => rfl), (by first | exact lk F5 | exact fun _ => rfl), hid (by rw [flag_ne 4 (by decide), flag_ne 6 (by decide)]; exact (id F6 : w = Wof (listed.getD 4 false) (listed.getD 6 false) W.drew W1 W3)), fun h => la (G1 (ls (by decide) h)), fun h => la (G2 (ls (by decide) h)), fun h => la (G3 (ls (by decide) h)), fun h => la (G4 (ls (by decide) h)), fun h => la (G5 (ls (by decide) h))⟩
    · simp only [List.getElem?_toArray, List.getElem?_cons_zero, List.getElem?_cons_succ, Option.some.injEq] at ho
      subst ho
      have gn : listed.getD 1 false = false := lf hn
      have g4 : listed.getD 4 false = false := off G1 gn
      have g6 : listed.getD 6 false = false := off G2 g4
      replace F6 := (id F6 : w = Wof (listed.getD 4 false) (listed.getD 6 false) W.drew W1 W3)
      rw [g4, g6] at F6
      replace F6 : w = W.drew := F6
      subst F6
      have e0 : W.drew.cell? ⟨kp, 0, none⟩ = some (.string (ba' s)) := k0
      have e1 : W.drew.cell? ⟨kp, 1, none⟩ = some (.string (ba' t)) := k1
      refine wpOp_step rfl (fun K hK => ?_)
      go_simp
      refine hK _ _ ?_
      exact ⟨_, _, _, _, _, _, rfl, (by first | exact lk F0 | exact fun _ => rfl), fun _ => rfl, (by first | exact lk F2 | exact fun _ => rfl), (by first | exact lk F3 | exact fun _ => rfl), (by first | exact lk F4 | exact fun _ => rfl), (by first | exact lk F5 | exact fun _ => rfl), hid (by rw [flag_ne 4 (by decide), flag_ne 6 (by decide), g4, g6]; rfl), fun _ => lself hn, fun h => la (G2 (ls (by decide) h)), fun h => la (G3 (ls (by decide) h)), fun h => la (G4 (ls (by decide) h)), fun h => la (G5 (ls (by decide) h))⟩
    · simp only [List.getElem?_toArray, List.getElem?_cons_zero, List.getElem?_cons_succ, Option.some.injEq] at ho
      subst ho
      have L0 := hd ⟨0, .data⟩ (by simp) rfl
      have L1 := hd ⟨1, .data⟩ (by simp) rfl
      obtain rfl := F0 L0
      obtain rfl := F1 L1
      have gn : listed.getD 2 false = false := lf hn
      have g6 : listed.getD 6 false = false := off G3 gn
      have hL : (Instr.lookup 50 (.map (some b)) (.agg #[.string (ba' s), .string (ba' t)]) false).run Tryd.prog w = .ok (.int .i64 c) w := by
        have F6 := (id F6 : w = Wof (listed.getD 4 false) (listed.getD 6 false) W.drew W1 W3)
        rw [g6] at F6
        cases h4 : listed.getD 4 false with
        | true => rw [h4] at F6; obtain rfl : w = W1 := F6; exact hm
        | false => rw [h4] at F6; obtain rfl : w = W.drew := F6; exact hl
      refine wpOp_step rfl (fun K hK => ?_)
      rw [if_pos (show Region.wanted _ _ = true from rfl)]
      unfold Oper.wp
      simp [execOp, hL, Result.andThen, Act.eval]
      refine hK _ _ ?_
      exact ⟨_, _, _, _, _, _, rfl, (by first | exact lk F0 | exact fun _ => rfl), (by first | exact lk F1 | exact fun _ => rfl), fun _ => rfl, (by first | exact lk F3 | exact fun _ => rfl), (by first | exact lk F4 | exact fun _ => rfl), (by first | exact lk F5 | exact fun _ => rfl), hid (by rw [flag_ne 4 (by decide), flag_ne 6 (by decide)]; exact (id F6 : w = Wof (listed.getD 4 false) (listed.getD 6 false) W.drew W1 W3)), fun h => la (G1 (ls (by decide) h)), fun h => la (G2 (ls (by decide) h)), fun _ => lself hn, fun h => la (G4 (ls (by decide) h)), fun _ => lself hn⟩
    · simp only [List.getElem?_toArray, List.getElem?_cons_zero, List.getElem?_cons_succ, Option.some.injEq] at ho
      subst ho
      have L2 := hd ⟨2, .data⟩ (by simp) rfl
      obtain rfl := F2 L2
      have gn : listed.getD 3 false = false := lf hn
      refine wpOp_step rfl (fun K hK => ?_)
      go_simp
      refine hK _ _ ?_
      exact ⟨_, _, _, _, _, _, rfl, (by first | exact lk F0 | exact fun _ => rfl), (by first | exact lk F1 | exact fun _ => rfl), (by first | exact lk F2 | exact fun _ => rfl), fun _ => rfl, (by first | exact lk F4 | exact fun _ => rfl), (by first | exact lk F5 | exact fun _ => rfl), hid (by rw [flag_ne 4 (by decide), flag_ne 6 (by decide)]; exact (id F6 : w = Wof (listed.getD 4 false) (listed.getD 6 false) W.drew W1 W3)), fun h => la (G1 (ls (by decide) h)), fun h => la (G2 (ls (by decide) h)), fun h => la (G3 (ls (by decide) h)), fun h => la (G4 (ls (by decide) h)), fun _ => la L2⟩
    · simp only [List.getElem?_toArray, List.getElem?_cons_zero, List.getElem?_cons_succ, Option.some.injEq] at ho
      subst ho
      have L0 := hd ⟨0, .data⟩ (by simp) rfl
      have L1 := hd ⟨1, .data⟩ (by simp) rfl
      obtain rfl := F0 L0
      obtain rfl := F1 L1
      have gn : listed.getD 4 false = false := lf hn
      have g4 := gn
      have g6 : listed.getD 6 false = false := off G2 g4
      replace F6 := (id F6 : w = Wof (listed.getD 4 false) (listed.getD 6 false) W.drew W1 W3)
      rw [g4, g6] at F6
      replace F6 : w = W.drew := F6
      subst F6
      refine wpOp_step rfl (fun K hK => ?_)
      rw [if_pos (show Region.wanted _ _ = true from rfl)]
      unfold Oper.wp
      simp [execOp, he, Result.andThen, Act.eval]
      refine hK _ _ ?_
      exact ⟨_, _, _, _, _, _, rfl, (by first | exact lk F0 | exact fun _ => rfl), (by first | exact lk F1 | exact fun _ => rfl), (by first | exact lk F2 | exact fun _ => rfl), (by first | exact lk F3 | exact fun _ => rfl), fun _ => rfl, (by first | exact lk F5 | exact fun _ => rfl), hid (by rw [lself hn, flag_ne 6 (by decide), g6]; rfl), fun _ => la L1, fun _ => lself hn, fun h => la (G3 (ls (by decide) h)), fun _ => lself hn, fun h => la (G5 (ls (by decide) h))⟩
    · simp only [List.getElem?_toArray, List.getElem?_cons_zero, List.getElem?_cons_succ, Option.some.injEq] at ho
      subst ho
      have L4 := hd ⟨4, .data⟩ (by simp) rfl
      obtain rfl := F4 L4
      have gn : listed.getD 5 false = false := lf hn
      refine wpOp_step rfl (fun K hK => ?_)
      go_simp
      refine hK _ _ ?_
      exact ⟨_, _, _, _, _, _, rfl, (by first | exact lk F0 | exact fun _ => rfl), (by first | exact lk F1 | exact fun _ => rfl), (by first | exact lk F2 | exact fun _ => rfl), (by first | exact lk F3 | exact fun _ => rfl), (by first | exact lk F4 | exact fun _ => rfl), fun _ => rfl, hid (by rw [flag_ne 4 (by decide), flag_ne 6 (by decide)]; exact (id F6 : w = Wof (listed.getD 4 false) (listed.getD 6 false) W.drew W1 W3)), fun h => la (G1 (ls (by decide) h)), fun h => la (G2 (ls (by decide) h)), fun h => la (G3 (ls (by decide) h)), fun _ => la L4, fun h => la (G5 (ls (by decide) h))⟩
    · simp only [List.getElem?_toArray, List.getElem?_cons_zero, List.getElem?_cons_succ, Option.some.injEq] at ho
      subst ho
      have L0 := hd ⟨0, .data⟩ (by simp) rfl
      have L5 := hd ⟨5, .data⟩ (by simp) rfl
      have L3 := hd ⟨3, .data⟩ (by simp) rfl
      obtain rfl := F0 L0
      obtain rfl := F5 L5
      obtain rfl := F3 L3
      have gn : listed.getD 6 false = false := lf hn
      have g4 := G4 L5
      have g6 := gn
      replace F6 := (id F6 : w = Wof (listed.getD 4 false) (listed.getD 6 false) W.drew W1 W3)
      rw [g4, g6] at F6
      replace F6 : w = W1 := F6
      subst F6
      refine wpOp_step rfl (fun K hK => ?_)
      rw [if_pos (show Region.wanted _ _ = true from rfl)]
      unfold Oper.wp
      simp [execOp, hs, Result.andThen, Act.eval]
      refine hK _ _ ?_
      exact ⟨_, _, _, _, _, _, rfl, (by first | exact lk F0 | exact fun _ => rfl), (by first | exact lk F1 | exact fun _ => rfl), (by first | exact lk F2 | exact fun _ => rfl), (by first | exact lk F3 | exact fun _ => rfl), (by first | exact lk F4 | exact fun _ => rfl), (by first | exact lk F5 | exact fun _ => rfl), hid (by rw [flag_ne 4 (by decide), lself hn, g4]; rfl), fun h => la (G1 (ls (by decide) h)), fun _ => la g4, fun _ => la (G5 L3), fun h => la (G4 (ls (by decide) h)), fun h => la (G5 (ls (by decide) h))⟩
  · intro listed A w hall hI
    obtain ⟨s41, s42, s43, s44, s45, s46, rfl, F0, F1, F2, F3, F4, F5, F6, _⟩ := hI
    obtain rfl := F0 (hall 0 (by decide))
    obtain rfl := F1 (hall 1 (by decide))
    obtain rfl := F2 (hall 2 (by decide))
    obtain rfl := F3 (hall 3 (by decide))
    obtain rfl := F4 (hall 4 (by decide))
    obtain rfl := F5 (hall 5 (by decide))
    replace F6 := (id F6 : w = Wof (listed.getD 4 false) (listed.getD 6 false) W.drew W1 W3)
    rw [hall 4 (by decide), hall 6 (by decide)] at F6
    obtain rfl : w = W3 := F6
    exact hQ
end Go.Proofs.YtnkodafhjcjpjaaDoor
namespace Go.Proofs.YtnkodafhjcjpjaaDoor
open Go.RowKit Go.Lib Go.WideElems Go.ChangeMaps Go.Maps Go.ChangeShapes Go.WideShapes Go.MapKept
set_option maxRecDepth 100000
def pv (p : List UInt8 × List UInt8) : Value := .agg #[.string (ba' p.1), .string (ba' p.2)]
def Short (p : List UInt8 × List UInt8) : Prop := p.1.length ≤ maxLen ∧ p.2.length ≤ maxLen
def Cnt (w : World) (b n : Nat) (f : List UInt8 × List UInt8 → Int) : Prop :=
  ∃ D : DataW Unit, w.ownsMap Tryd.prog 32 (plainElem Tryd.prog 3) b n D ∧ ∀ p, Short p → ∀ kl, keyOf Tryd.prog 32 (pv p) = some kl → D.atKey kl (.lit (.int .i64 0)) = .lit (.int .i64 (f p))
theorem pv_inj {p q : List UInt8 × List UInt8} (h : pv p = pv q) : p = q := by
  obtain ⟨a, b⟩ := p
  obtain ⟨c, d⟩ := q
  simp only [pv, Value.agg.injEq, Array.mk.injEq, List.cons.injEq, Value.string.injEq, and_true] at h
  have e : ∀ {x y : List UInt8}, ba' x = ba' y → x = y := fun {x y} h => by
    have := congrArg (fun z => z.data.toList) h
    simpa [ba'] using this
  rw [e h.1, e h.2]
theorem Cnt.made (w : World) : Cnt (w.alloc (.map #[] 0)) w.heap.size 0 (fun _ => 0) := ⟨.map [], World.ownsMap_made w _ _ _, fun _ _ _ _ => rfl⟩
theorem Cnt.kept {w w' : World} {b n : Nat} {f : List UInt8 × List UInt8 → Int} {row : Option Nat} (h : Cnt w b n f) (hg : w.grownBy w' row) (hne : some b ≠ row) : Cnt w' b n f := by
  obtain ⟨D, ho, hf⟩ := h
  exact ⟨D, ho.kept hg hne, hf⟩
theorem Cnt.lt {w : World} {b n : Nat} {f : List UInt8 × List UInt8 → Int} (h : Cnt w b n f) : b < w.heap.size := by
  obtain ⟨D, ho, _⟩ := h
  exact ho.lt
theorem Cnt.drew {w : World} {b n : Nat} {f : List UInt8 × List UInt8 → Int} (h : Cnt w b n f) : Cnt w.drew b n f := h
theorem Cnt.mono {w : World} {b n n' : Nat} {f : List UInt8 × List UInt8 → Int} (h : Cnt w b n f) (hn : n ≤ n') : Cnt w b n' f := by
  obtain ⟨D, ho, hf⟩ := h
  exact ⟨D, ho.mono hn, hf⟩
theorem Cnt.look {w : World} {b n : Nat} {f : List UInt8 × List UInt8 → Int} (h : Cnt w b n f) {p : List UInt8 × List UInt8} (hp : Short p) : (Instr.lookup 50 (.map (some b)) (pv p) false).run Tryd.prog w = .ok (.int .i64 (f p)) w := by
  obtain ⟨D, ho, hf⟩ := h
  obtain ⟨kl, hk⟩ := key_pair p.1 p.2 hp.1 hp.2
  obtain ⟨c, hl, hat, _⟩ := ho.lookup_int keyed Tryd.underlying50 Tryd.underlying3 (zero3 w) hk
  have := hf p hp kl hk
  rw [hat] at this
  cases this
  exact hl
theorem Cnt.bump {w : World} {b n : Nat} {f : List UInt8 × List UInt8 → Int} (h : Cnt w b n f) (hn : n < maxLen) {p : List UInt8 × List UInt8} (hp : Short p) :
    ∃ (st : Nat) (W1 : World), (Instr.mapEntry 50 (.map (some b)) (pv p)).run Tryd.prog w = .ok (.tuple #[.int .i64 (f p), goInt st]) W1 ∧ (Instr.lookup 50 (.map (some b)) (pv p) false).run Tryd.prog W1 = .ok (.int .i64 (f p)) W1 ∧
      ∀ q : Int, (Lit.int .i64 q).wf = true → ∃ W3, (Instr.entryStore 50 (.map (some b)) (goInt st) (.int .i64 q)).run Tryd.prog W1 = .ok () W3 ∧ Cnt W3 b (n + 1) (fun p' => if p' = p then q else f p') ∧ w.grownBy W3 (some b) := by
  have hlook := h.look hp
  obtain ⟨D, ho, hf⟩ := h
  obtain ⟨kl, hk⟩ := key_pair p.1 p.2 hp.1 hp.2
  obtain ⟨c, st, W1, hat, hwf, hl, he, hm, hs⟩ := YtnkodafhjcjpjaaDoor.bump ho hn hk
  have hc := hf p hp kl hk
  rw [hat] at hc
  cases hc
  refine ⟨st, W1, he, hm, fun q hq => ?_⟩
  obtain ⟨W3, h3, ho3, hg⟩ := hs q hq
  refine ⟨W3, h3, ⟨_, ho3, fun p' hp' kl' hk' => ?_⟩, hg⟩
  show _ = DataW.lit (Lit.int .i64 (if p' = p then q else f p'))
  by_cases e : p' = p
  · subst e
    rw [if_pos rfl]
    have : kl' = kl := by rw [show keyOf Tryd.prog 32 (pv p') = some kl from hk] at hk'; exact (Option.some.inj hk').symm
    subst this
    obtain ⟨es, _, _, _, _, hD⟩ := ho
    exact Maps.atKey_put_same ⟨_, hD⟩ (keyed.key hk) _ _
  · rw [if_neg e]
    have hne : kl' ≠ kl := fun e2 => by
      subst e2
      exact e (pv_inj (keyed.inj hk' hk))
    rw [Maps.atKey_put_other hne]
    exact hf p' hp' kl' hk'
end Go.Proofs.YtnkodafhjcjpjaaDoor
namespace Go.Proofs.YtnkodafhjcjpjaaDoor
open Go.RowKit Go.Lib
set_option maxRecDepth 100000
set_option maxHeartbeats 8000000
theorem make_map (w : World) (n : Nat) : (Instr.makeMap 50 (some (.int .i64 (n : Int)))).run Tryd.prog w = .ok (.map (some w.heap.size)) (w.alloc (.map #[] 0)) := by
  have ht : Tryd.prog.underlying 50 = some (.map 32 3) := Tryd.underlying50
  simp [Instr.makeMap, run_underlying ht, Result.andThen, asInt, asIntOf]
theorem Cnt.below {w w' : World} {b n : Nat} {f : List UInt8 × List UInt8 → Int} (h : Cnt w b n f) (hb : Below w.heap.size w w') : Cnt w' b n f := by
  have hlt := h.lt
  obtain ⟨D, ⟨es, cl, h1, h2, h3, h4⟩, hf⟩ := h
  exact ⟨D, ⟨es, cl, (hb.block b hlt).trans h1, h2, h3, h4⟩, hf⟩
def tally (L : List (List UInt8 × List UInt8)) : List UInt8 × List UInt8 → Int := fun p => (L.count p : Int)
theorem tally_up {L : List (List UInt8 × List UInt8)} {i : Nat} {p : List UInt8 × List UInt8} (h : L[i]? = some p) : (fun p' => if p' = p then tally (L.take i) p + 1 else tally (L.take i) p') = tally (L.take (i + 1)) := by
  obtain ⟨hl, rfl⟩ := List.getElem?_eq_some_iff.1 h
  funext q
  show (if q = L[i] then ((L.take i).count L[i] : Int) + 1 else ((L.take i).count q : Int)) = ((L.take (i + 1)).count q : Int)
  rw [← List.take_append_getElem hl, List.count_append]
  by_cases e : q = L[i]
  · rw [if_pos e, e]; simp
  · rw [if_neg e, show List.count q [L[i]] = 0 from List.count_eq_zero.2 (by simpa using e)]; simp
theorem tally_le (L : List (List UInt8 × List UInt8)) (p : List UInt8 × List UInt8) : 0 ≤ tally L p ∧ tally L p ≤ L.length := ⟨Int.natCast_nonneg _, Int.ofNat_le.2 List.count_le_length⟩
def left (ps L : List (List UInt8 × List UInt8)) : List UInt8 × List UInt8 → Int := fun p => tally ps p - tally L p
theorem left_down {ps L : List (List UInt8 × List UInt8)} {i : Nat} {p : List UInt8 × List UInt8} (h : L[i]? = some p) : (fun p' => if p' = p then left ps (L.take i) p - 1 else left ps (L.take i) p') = left ps (L.take (i + 1)) := by
  have := tally_up h
  funext q
  have hq := congrFun this q
  show (if q = p then tally ps p - tally (L.take i) p - 1 else tally ps q - tally (L.take i) q) = tally ps q - tally (L.take (i + 1)) q
  rw [← hq]
  by_cases e : q = p
  · rw [if_pos e, if_pos e, e]; omega
  · rw [if_neg e, if_neg e]
theorem left_end {ps qs : List (List UInt8 × List UInt8)} {j : Nat} {q : List UInt8 × List UInt8} (_hl : ps.length = qs.length) (h : qs[j]? = some q) (h0 : left ps (qs.take j) q = 0) : ¬ cntP ps = cntP qs := by
  intro e
  have h1 := congrFun e q
  have h2 := congrFun (tally_up h) q
  simp only [↓reduceIte] at h2
  have h3 : (qs.take (j + 1)).count q ≤ qs.count q := (List.take_sublist _ _).count_le q
  have h4 : (ps.count q : Int) - ((qs.take j).count q : Int) = 0 := h0
  have h5 : ((qs.take j).count q : Int) + 1 = ((qs.take (j + 1)).count q : Int) := h2
  have h6 : ps.count q = qs.count q := h1
  omega
theorem left_more {ps qs : List (List UInt8 × List UInt8)} {j : Nat} {q : List UInt8 × List UInt8} (h : qs[j]? = some q) (h0 : left ps (qs.take j) q ≠ 0) (hs : ∀ p, (qs.take j).count p ≤ ps.count p) : ∀ p, (qs.take (j + 1)).count p ≤ ps.count p := by
  intro p
  have h2 := congrFun (tally_up h) p
  have hp := hs p
  have hq := hs q
  have h4 : (ps.count q : Int) - ((qs.take j).count q : Int) ≠ 0 := h0
  have h5 : (if p = q then ((qs.take j).count q : Int) + 1 else ((qs.take j).count p : Int)) = ((qs.take (j + 1)).count p : Int) := h2
  by_cases e : p = q
  · subst e; rw [if_pos rfl] at h5; omega
  · rw [if_neg e] at h5; omega
theorem wf_int {q : Int} (h : -4611686018427387904 ≤ q) (h' : q ≤ 4611686018427387904) : (Lit.int .i64 q).wf = true := by
  have h1 : IntKind.i64.min = -9223372036854775808 := by decide
  have h2 : IntKind.i64.max = 9223372036854775807 := by decide
  simp only [Lit.wf, h1, h2, Bool.and_eq_true, decide_eq_true_eq]
  omega
theorem wrap_int {q : Int} (h : -4611686018427387904 ≤ q) (h' : q ≤ 4611686018427387904) : IntKind.i64.wrap q = q := IntWalk.i64_in q (by omega)
theorem pairs_any (P : Nat → Prop) (A B : Option Addr) (n c n' c' : Nat) (ps qs : List (List UInt8 × List UInt8)) (w : World) (hP : ∀ b, P b → b < w.heap.size) (hA : RdP P w 2 A n (rowP ps)) (hB : RdP P w 2 B n' (rowP qs))
    (hn : ps.length = n) (hn' : qs.length = n') (hl : n ≤ 1048576) (hsp : ∀ p ∈ ps, Short p) (hsq : ∀ p ∈ qs, Short p) :
    Calls Tryd.prog 15 #[.slice A n c, .slice B n' c'] w fun e w' => ∃ r, e = .returned (.bool r) ∧ (r = true ↔ cntP ps = cntP qs) ∧ Below w.heap.size w w' := by
  have HA := Lib.hid hA; have HB := Lib.hid hB; have HN := Lib.hid hn; have HN' := Lib.hid hn'; have HP := Lib.hid hP; have HSP := Lib.hid hsp; have HSQ := Lib.hid hsq
  clear hA hB hP hsp hsq
  go_enter Tryd.func15, Tryd.ntmps15
  by_cases hne : n = n'
  · subst hne
    clear hn hn'
    have hmm := make_map w n
    have HM : Hid (Cnt (w.alloc (.map #[] 0)) w.heap.size 0 (tally [])) := Lib.hid (Cnt.made w)
    go_wp2
    go_loopw [20] (fun s20 wx => ∃ i : Nat, s20 = .int .i64 i ∧ i ≤ n ∧ Hid (Cnt wx w.heap.size i (tally (ps.take i))) ∧ Below w.heap.size w wx ∧ w.heap.size < wx.heap.size) (fun s20 _ => n - (intOf s20).toNat)
    case atStart => exact ⟨0, rfl, Nat.zero_le _, by rw [List.take_zero]; exact HM, ba (Below.refl _ _), by simp⟩
    case round =>
      obtain ⟨i, rfl, hi, hC, hW, hz⟩ := hrel
      by_cases hlt : i < n
      · have g0 : decide ((i : Int) < (n : Int)) = true := by first | (simp; done) | (simp; omega)
        have hil : i < ps.length := by rw [HN.out]; exact hlt
        obtain ⟨p, hp⟩ : ∃ p, ps[i]? = some p := ⟨_, List.getElem?_eq_getElem hil⟩
        obtain ⟨ad, rfl, hPad, d0, d1⟩ := pair_at (HA.out.below HP.out hW) hp hlt
        have hsh := HSP.out p (List.mem_of_getElem? hp)
        have hct := tally_up hp
        have HCT := Lib.hid hct
        have HSH := Lib.hid hsh
        clear hp hsh hil hct
        go_upto_region 7 with fail
        have hal : Below wr.heap.size wr (wr.alloc (.cells #[.string (ba' p.1), .string (ba' p.2)] 32)) := ba (Below.refl _ _)
        have hC2 : Cnt (wr.alloc (.cells #[.string (ba' p.1), .string (ba' p.2)] 32)).drew w.heap.size i (tally (ps.take i)) := (hC.out.below hal).drew
        obtain ⟨st, W1, he, hm, hs⟩ := hC2.bump (by unfold maxLen; omega) HSH.out
        have hr := tally_le (ps.take i) p
        have hlen : (ps.take i).length ≤ n := by rw [List.length_take, HN.out]; omega
        obtain ⟨W3, h3, hC3, hg3⟩ := hs (tally (ps.take i) p + 1) (wf_int (by omega) (by omega))
        rw [HCT.out] at hC3
        have HB3 : Below w.heap.size w W3 := Below.grown (bdr (bt hW hal)) hg3 (by simp; omega) (fun k e => by cases e; exact Nat.le_refl _)
        have HC3 := Lib.hid hC3
        have hz3 : w.heap.size < W3.heap.size := hC3.lt
        clear hC3 hg3 hs
        refine Up_region w.heap.size wr.heap.size st (tally (ps.take i) p) p.1 p.2 _ W1 W3 _ _ _ _ _ _ _ _ _ _ _ _ _ _ _ _ _ _ _ _ _ _ _ _ _ _ _ _ _ _ _ _ _ _ _ _ _ _ _ _ _ _ _ _ _ _ _ (by simp) (by simp) (hC2.look HSH.out) he hm h3 (wrap_int (by omega) (by omega)) ?_
        clear he hm h3 hC2 hal
        go_wp2
        go_roundw
        case rel => exact ⟨i + 1, by go_num, by omega, HC3, HB3, hz3⟩
        case measure => simp [intOf]; omega
      · obtain rfl : i = n := by omega
        have g0 : decide ((i : Int) < (i : Int)) = false := by simp
        have hC2 : Hid (Cnt wr w.heap.size (i + 0) (left ps (qs.take 0))) := by
          have := hC.out
          rw [List.take_of_length_le (by rw [HN.out]; exact Nat.le_refl _)] at this
          have e : left ps (qs.take 0) = tally ps := by funext q; simp [left, tally]
          rw [e]
          exact Lib.hid this
        have hLe : Hid (∀ q, (qs.take 0).count q ≤ ps.count q) := Lib.hid (by simp)
        clear hC
        go_wp2
        go_loopw [33] (fun s33 wx => ∃ j : Nat, s33 = .int .i64 j ∧ j ≤ i ∧ Hid (Cnt wx w.heap.size (i + j) (left ps (qs.take j))) ∧ Hid (∀ q, (qs.take j).count q ≤ ps.count q) ∧ Below w.heap.size w wx ∧ w.heap.size < wx.heap.size) (fun s33 _ => i - (intOf s33).toNat)
        case atStart => exact ⟨0, rfl, Nat.zero_le _, hC2, hLe, hW, hz⟩
        case round =>
          clear hC2 hLe hW hz
          obtain ⟨j, rfl, hj, hC, hLe, hW, hz⟩ := hrel
          by_cases hlt : j < i
          · have g0 : decide ((j : Int) < (i : Int)) = true := by first | (simp; done) | (simp; omega)
            have hjl : j < qs.length := by rw [HN'.out]; exact hlt
            obtain ⟨q, hq⟩ : ∃ q, qs[j]? = some q := ⟨_, List.getElem?_eq_getElem hjl⟩
            obtain ⟨ad, rfl, hPad, d0, d1⟩ := pair_at (HB.out.below HP.out hW) hq hlt
            have HSH := Lib.hid (HSQ.out q (List.mem_of_getElem? hq))
            have hal : Below wr.heap.size wr (wr.alloc (.cells #[.string (ba' q.1), .string (ba' q.2)] 32)) := ba (Below.refl _ _)
            have hC2 := Lib.hid (hC.out.below hal)
            have hlk : (Instr.lookup 50 (.map (some w.heap.size)) (.agg #[.string (ba' q.1), .string (ba' q.2)]) false).run Tryd.prog (wr.alloc (.cells #[.string (ba' q.1), .string (ba' q.2)] 32)) = .ok (.int .i64 (left ps (qs.take j) q)) (wr.alloc (.cells #[.string (ba' q.1), .string (ba' q.2)] 32)) := hC2.out.look HSH.out
            have hW2 := Lib.hid (bt hW hal)
            clear hal
            by_cases h0 : left ps (qs.take j) q = 0
            · have HE := Lib.hid (left_end (by rw [HN.out, HN'.out]) hq h0)
              have g1 : (left ps (qs.take j) q == 0) = true := by simpa using h0
              clear hq h0
              go_wp2
              go_ret
              exact ⟨false, rfl, ⟨(fun h => by cases h), fun h => absurd h HE.out⟩, hW2.out⟩
            · have HLE := Lib.hid (left_more hq h0 hLe.out)
              have HCT := Lib.hid (left_down (ps := ps) hq)
              have g1 : (left ps (qs.take j) q == 0) = false := by simpa using h0
              clear hq h0
              go_upto_region 14 with fail
              clear hlk
              obtain ⟨st, W1, he, hm, hs⟩ := hC2.out.drew.bump (by unfold maxLen; omega) HSH.out
              have hr1 := tally_le ps q
              have hr2 := tally_le (qs.take j) q
              have hr : left ps (qs.take j) q = tally ps q - tally (qs.take j) q := rfl
              have hlen : (qs.take j).length ≤ i := by rw [List.length_take, HN'.out]; omega
              have hlen2 : ps.length = i := HN.out
              obtain ⟨W3, h3, hC3, hg3⟩ := hs (left ps (qs.take j) q - 1) (wf_int (by omega) (by omega))
              rw [HCT.out] at hC3
              have HB3 : Below w.heap.size w W3 := Below.grown (bdr hW2.out) hg3 (by simp; omega) (fun k e => by cases e; exact Nat.le_refl _)
              have HC3 := Lib.hid hC3
              have hz3 : w.heap.size < W3.heap.size := hC3.lt
              clear hC3 hg3 hs
              refine Dn_region w.heap.size wr.heap.size st (left ps (qs.take j) q) q.1 q.2 _ W1 W3 _ _ _ _ _ _ _ _ _ _ _ _ _ _ _ _ _ _ _ _ _ _ _ _ _ _ _ _ _ _ _ _ _ _ _ _ _ _ _ _ _ _ _ _ _ _ _ (by simp) (by simp) (hC2.out.drew.look HSH.out) he hm h3 (wrap_int (by omega) (by omega)) ?_
              clear he hm h3 hC2 hr
              go_wp2
              go_roundw
              case rel => exact ⟨j + 1, by go_num, by omega, HC3, HLE, HB3, hz3⟩
              case measure => simp [intOf]; omega
          · obtain rfl : j = i := by omega
            have g0 : decide ((j : Int) < (j : Int)) = false := by simp
            have HE : Hid (cntP ps = cntP qs) := by
              have := hLe.out
              rw [List.take_of_length_le (by rw [HN'.out]; exact Nat.le_refl _)] at this
              exact Lib.hid ((cnt_le (by rw [HN.out, HN'.out])).2 this)
            go_wp2
            go_ret
            exact ⟨true, rfl, ⟨fun _ => HE.out, fun _ => rfl⟩, hW⟩
  · have g : ((n : Int) != (n' : Int)) = true := by simpa using fun e => hne (by omega)
    go_wp2
    go_ret
    refine ⟨false, rfl, ⟨(fun h => by cases h), fun h => absurd ?_ hne⟩, Below.refl _ _⟩
    rw [← hn, ← hn']
    exact (cnt_same.1 h).1
end Go.Proofs.YtnkodafhjcjpjaaDoor
