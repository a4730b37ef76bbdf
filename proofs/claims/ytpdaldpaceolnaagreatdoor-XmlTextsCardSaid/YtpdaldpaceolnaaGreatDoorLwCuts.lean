/- The statement XmlCuts: its walk. No condition beyond what the theorems state. -/
import Derived.Test.YtpdaldpaceolnaaGreatDoorAwake
import Derived.Test.YtpdaldpaceolnaaGreatDoorCuts
namespace Go.Proofs.YtpdaldpaceolnaaGreatDoor
open Go.RowKit Go.Lib
set_option maxRecDepth 100000
set_option maxHeartbeats 16000000
def parseF (s : List UInt8) : XR PT := if validX s = true then docF (linesF s) else .bad
theorem parse_any (s : List UInt8) (hs : s.length ≤ 100000) (w : World) (hE : Env w) : Calls Tryz.prog 9 #[.string (ba' s)] w (PvPost (parseF s) w) := by
  unfold parseF
  by_cases hv : validX s = true
  · rw [if_pos hv]; exact parse_valid s hs hv w hE
  · rw [if_neg hv]; exact parse_invalid s hs (by simpa using hv) w hE
theorem parseF_ok {s : List UInt8} {T : PT} {q : List UInt8} (h : parseF s = .ok T q) : docF (linesF s) = .ok T q := by
  unfold parseF at h
  split at h
  · exact h
  · cases h
/-- A space, outside. -/
def blk (c : UInt8) : Bool := c == 32 || c == 9 || c == 10 || c == 13
theorem blk_of {c : UInt8} (h : c = 9 ∨ c = 10 ∨ c = 13 ∨ c = 32) : blk c = true := by rcases h with rfl | rfl | rfl | rfl <;> rfl
theorem tr_last {L : List Tr} {ks : List PT} {u0 : PT} (h : plL L = ks ++ [u0]) : ∃ L' u, L = L' ++ [u] ∧ u.pl = u0 := by
  rw [plL_map, List.map_eq_append_iff] at h
  obtain ⟨L', L2, e, _, h2⟩ := h
  obtain ⟨u, rfl, h3⟩ := List.map_eq_singleton_iff.1 h2
  exact ⟨L', u, e, h3⟩
theorem last_of (a b : List PT) (t : PT) : ∃ ks u, a ++ [t] ++ b = ks ++ [u] := by
  rcases List.eq_nil_or_concat b with rfl | ⟨b', z, rfl⟩
  · exact ⟨a, t, by simp⟩
  · exact ⟨a ++ [t] ++ b', z, by simp⟩
theorem cuts_law (l : List UInt8) (cut : Int) (_hl : l.length ≤ maxLen) (w : World) (hE : Env w) : Calls Tryz.prog 5 #[.string (ba' l), .int .i64 cut] w fun e w' => e = .returned (.bool true) ∧ Below w.heap.size w w' := by
  have hsz : (ba' l).size = l.length := size_ba l
  have HAW : Hid (∀ W, Below w.heap.size w W → Calls Tryz.prog 8 #[] W fun e w' => e = .returned (.bool true) ∧ Below W.heap.size W w') := Lib.hid fun W hW => awake_any W (hE.below hW)
  have HP : Hid (∀ (m : List UInt8) (W : World), m.length ≤ 100000 → Below w.heap.size w W → Calls Tryz.prog 9 #[.string (ba' m)] W (PvPost (parseF m) W)) := Lib.hid fun m W hm hW => parse_any m hm W (hE.below hW)
  clear hE
  by_cases hbad : l.length = 0 ∨ 20000 < l.length
  · have q0 : ((((l.length : Nat) : Int) == 0) || decide ((20000 : Int) < (l.length : Int))) = true := by
      rcases hbad with h | h
      · rw [h]; rfl
      · rw [decide_eq_true (show (20000 : Int) < (l.length : Int) by omega), Bool.or_true]
    obtain ⟨b1, hb1⟩ : ∃ b, ((((l.length : Nat) : Int) == 0)) = b := ⟨_, rfl⟩
    obtain ⟨b2, hb2⟩ : ∃ b, decide ((20000 : Int) < (l.length : Int)) = b := ⟨_, rfl⟩
    have hb2' : decide ((l.length : Int) > 20000) = b2 := hb2
    rw [hb1, hb2] at q0
    obtain ⟨n, hn⟩ : ∃ n, l.length = n := ⟨_, rfl⟩
    rw [hn] at hb1 hb2 hb2' hsz
    clear hbad _hl hn
    go_enter Tryz.func5, Tryz.ntmps5
    go_wp2_with fail
    refine (HAW.out _ (Below.refl _ _)).mono ?_
    rintro e w1 ⟨rfl, hbe1⟩
    have HB1 := Lib.hid hbe1
    clear hbe1
    cases b1 with
    | true =>
      go_wp2_with fail
      refine (HAW.out _ (by have := HB1.out; repeat (with_reducible (first | assumption | apply ba | apply bd | apply bdr)))).mono ?_
      rintro e w2 ⟨rfl, hbe2⟩
      have HB2 := bt HB1.out hbe2
      go_wp2
      go_ret
      exact ⟨rfl, by repeat (with_reducible (first | assumption | apply ba | apply bd | apply bdr))⟩
    | false =>
      obtain rfl : b2 = true := by simpa using q0
      go_wp2_with fail
      refine (HAW.out _ (by have := HB1.out; repeat (with_reducible (first | assumption | apply ba | apply bd | apply bdr)))).mono ?_
      rintro e w2 ⟨rfl, hbe2⟩
      have HB2 := bt HB1.out hbe2
      go_wp2
      go_ret
      exact ⟨rfl, by repeat (with_reducible (first | assumption | apply ba | apply bd | apply bdr))⟩
  · have hl0 : 0 < l.length := by omega
    have hl2 : l.length ≤ 20000 := by omega
    clear hbad _hl
    have b1 : ((((l.length : Nat) : Int) == 0)) = false := by rw [beq_eq_false_iff_ne]; omega
    have b2 : decide ((20000 : Int) < (l.length : Int)) = false := decide_eq_false (by omega)
    have b2' : decide ((l.length : Int) > 20000) = false := b2
    obtain ⟨R, hR⟩ : ∃ R, parseF l = R := ⟨_, rfl⟩
    have HP1 : Hid (∀ W : World, Below w.heap.size w W → Calls Tryz.prog 9 #[.string (ba' l)] W (PvPost R W)) := Lib.hid fun W hW => by rw [← hR]; exact HP.out l W (by omega) hW
    have HLL := Lib.hid (And.intro hl0 hl2)
    obtain ⟨n, hn⟩ : ∃ n, l.length = n := ⟨_, rfl⟩
    have HN := Lib.hid hn
    rw [hn] at b1 b2 b2' hsz
    clear hl0 hl2 hn
    go_enter Tryz.func5, Tryz.ntmps5
    go_wp2_with fail
    refine (HAW.out _ (Below.refl _ _)).mono ?_
    rintro e w1 ⟨rfl, hbe1⟩
    have HB1 := Lib.hid hbe1
    clear hbe1
    go_wp2_with fail
    refine (HP1.out _ (by have := HB1.out; repeat (with_reducible (first | assumption | apply ba | apply bd | apply bdr)))).mono ?_
    rintro e w2 he
    clear HP1 b1 b2 b2'
    cases R with
    | bad =>
      obtain ⟨rfl, hb2⟩ := he
      have HB2 := bt HB1.out hb2
      clear hb2
      go_wp2
      go_ret
      exact ⟨rfl, by repeat (with_reducible (first | assumption | apply ba | apply bd | apply bdr | (refine bs ?_ (by first | assumption | (simp; done) | (simp; omega)))))⟩
    | nest =>
      obtain ⟨rfl, hb2⟩ := he
      have HB2 := bt HB1.out hb2
      clear hb2
      go_wp2
      go_ret
      exact ⟨rfl, by repeat (with_reducible (first | assumption | apply ba | apply bd | apply bdr | (refine bs ?_ (by first | assumption | (simp; done) | (simp; omega)))))⟩
    | ok T q =>
      obtain ⟨⟨t, rfl, hp, hin, hcap⟩, hb2⟩ := he
      have HB2 := Lib.hid (bt HB1.out hb2)
      clear hb2
      have hd := parseF_ok hR
      obtain ⟨a, r, t0, r2, b, _, _, _, hT, _⟩ := doc_parts hd
      have hsome := Lib.hid (doc_some hd)
      obtain ⟨ks', u0, hks⟩ := last_of a b t0
      rw [hks] at hT
      have HF : Hid (∀ (k : Nat) (T' : PT) (q' : List UInt8), parseF (l.take k) = .ok T' q' → u0.k = 2 → ∀ y ∈ l.drop k, blk y = true) := Lib.hid fun k T' q' h' hk y hy => blk_of (cuts_fact hd (parseF_ok h') hT hk y hy)
      clear hd hks hR
      subst hT
      obtain ⟨tk, tn, tv, tA, tac, tps, tK, tkc, tks⟩ := t
      simp only [Tr.pl, PT.mk.injEq] at hp
      obtain ⟨rfl, rfl, rfl, rfl, hpk⟩ := hp
      obtain ⟨L', u, rfl, hu⟩ := tr_last hpk
      obtain ⟨uk, un, uv, uA, uac, ups, uK, ukc, uks⟩ := u
      obtain ⟨m, hm⟩ : ∃ m, L'.length = m := ⟨_, rfl⟩
      simp only [Tr.In] at hin
      obtain ⟨_, hrow, _⟩ := hin
      obtain ⟨ad, rfl, hPb, d0, _⟩ := kid_at hrow (i := m) (by rw [← hm]; exact List.getElem?_concat_length) (by rw [List.length_append, ← hm]; simp)
      have hu0 : u0.k = uk := by rw [← hu]; rfl
      rw [hu0] at HF
      clear hu hu0 hpk hrow
      have hq : (L' ++ [Tr.mk uk un uv uA uac ups uK ukc uks]).length = m + 1 := by rw [List.length_append, hm]; rfl
      rw [Tr.Caps, hq] at hcap
      have vm : wrap64 (m : Int) = (m : Int) := by have := hcap.1; have := hcap.2.1; unfold maxLen at this; unfold wrap64; omega
      simp only [Tr.v]
      rw [hq]
      clear hq hm hcap
      have hblk : ad.block < w2.heap.size := hPb.2
      go_wp2_with fail
      go_loopw [7] (fun s7 wx => ∃ e : Nat, s7 = .int .i64 (e : Nat) ∧ e ≤ n ∧ Hid (∀ x ∈ l.drop e, blk x = true) ∧ Below (w2.heap.size + 1) (w2.alloc (.cells #[.int .i64 1, .string (ba' []), .string (ba' []), .slice tA 0 tac, .slice (some ad) (m + 1) tkc] 27)) wx) (fun s7 _ => (intOf s7).toNat)
      case atStart => exact ⟨n, rfl, Nat.le_refl _, Lib.hid (by rw [← HN.out, List.drop_length]; intro x hx; cases hx), by repeat (with_reducible (first | exact Below.refl _ _ | assumption | apply ba | apply bd | apply bdr))⟩
      case round =>
        obtain ⟨e, rfl, he, hdr, hB⟩ := hrel
        rcases Nat.eq_zero_or_pos e with rfl | he0
        · exfalso
          obtain ⟨y, hy, rfl⟩ := hsome.out
          have := hdr.out 60 (by rw [List.drop_zero]; exact hy)
          revert this
          decide
        obtain ⟨e, rfl⟩ : ∃ e', e = e' + 1 := ⟨e - 1, by omega⟩
        have hlt : e < l.length := by rw [HN.out]; omega
        obtain ⟨c, hc⟩ : ∃ c, l[e]'hlt = c := ⟨_, rfl⟩
        have hlt' : e < (ba' l).size := by rw [hsz]; omega
        have ec : (ba' l)[e]'hlt' = c := hc
        have HD : Hid (l.drop e = c :: l.drop (e + 1)) := Lib.hid (by rw [List.drop_eq_getElem_cons hlt, hc])
        have vi : wrap64 (e : Int) = (e : Int) := by have := HLL.out.2; unfold wrap64; omega
        have q1 : decide ((0 : Int) < (e : Int) + 1) = true := decide_eq_true (by omega)
        have q1' : decide ((e : Int) + 1 > 0) = true := q1
        have hen : e < n := by omega
        have HB := Lib.hid hB
        clear he0 he hc hB
        by_cases hb : blk c = true
        · have HDR : Hid (∀ x ∈ l.drop e, blk x = true) := Lib.hid (by
            rw [HD.out]
            intro x hx
            rcases List.mem_cons.1 hx with rfl | hx
            · exact hb
            · exact hdr.out x hx)
          clear HD
          have hc4 : c = 32 ∨ c = 9 ∨ c = 10 ∨ c = 13 := by
            unfold blk at hb
            simpa [or_assoc] using hb
          clear hb hdr
          rcases hc4 with rfl | rfl | rfl | rfl
          all_goals (go_wp2; simp only [vi]; exact ⟨⟨e, rfl, by omega, HDR, HB.out⟩, by simp [intOf]⟩)
        · have hcn : c ≠ 32 ∧ c ≠ 9 ∧ c ≠ 10 ∧ c ≠ 13 := by
            unfold blk at hb
            simpa [or_assoc, and_assoc] using hb
          have big : ∀ z : UInt8, c ≠ z → ((c.toNat : Int) == (z.toNat : Int)) = false := fun z h => by
            rw [beq_eq_false_iff_ne]
            intro e
            exact h (UInt8.toNat_inj.1 (by omega))
          have f32 : ((c.toNat : Int) == 32) = false := big 32 hcn.1
          have f9 : ((c.toNat : Int) == 9) = false := big 9 hcn.2.1
          have f10 : ((c.toNat : Int) == 10) = false := big 10 hcn.2.2.1
          have f13 : ((c.toNat : Int) == 13) = false := big 13 hcn.2.2.2
          have HBN := Lib.hid hb
          have e4 : wr.cell? ⟨w2.heap.size, 4, none⟩ = some (.slice (some ad) (m + 1) tkc) := (HB.out.cell (by simp)).trans (by go_simp)
          have k0 := (HB.out.cell (p := ad.add (m * 5)) (by rw [block_of_add]; exact Nat.lt_succ_of_lt hblk)).trans (((Below.refl _ w2).alloc (Nat.le_refl _) _).cell (by rw [block_of_add]; exact hblk) |>.trans d0)
          obtain ⟨r1, hr1⟩ : ∃ r, cut.tmod ((e : Int) + 1) = r := ⟨_, rfl⟩
          have h1a : r1 < (e : Int) + 1 := by rw [← hr1]; exact Int.tmod_lt_of_pos cut (by omega)
          have h1b : -((e : Int) + 1) < r1 := by rw [← hr1]; exact Int.lt_tmod_of_pos cut (by omega)
          have vr : wrap64 (r1 + ((e : Int) + 1)) = r1 + ((e : Int) + 1) := by have := HLL.out.2; unfold wrap64; omega
          obtain ⟨kk, hkk⟩ : ∃ kk : Nat, (r1 + ((e : Int) + 1)).tmod ((e : Int) + 1) = (kk : Int) := ⟨((r1 + ((e : Int) + 1)).tmod ((e : Int) + 1)).toNat, by have := Int.tmod_nonneg ((e : Int) + 1) (show 0 ≤ r1 + ((e : Int) + 1) by omega); omega⟩
          have hk2 : kk < e + 1 := by have := Int.tmod_lt_of_pos (r1 + ((e : Int) + 1)) (show (0 : Int) < (e : Int) + 1 by omega); omega
          have e1 : (wrap64 (cut.tmod ((e : Int) + 1) + ((e : Int) + 1))).tmod ((e : Int) + 1) = (kk : Int) := by rw [hr1, vr, hkk]
          have hks : kk ≤ (ba' l).size := by rw [hsz]; omega
          have hkn : kk ≤ n := by omega
          have hmem : Hid (c ∈ l.drop kk) := Lib.hid (List.mem_of_mem_drop (i := e - kk) (by rw [List.drop_drop, show kk + (e - kk) = e by omega, HD.out]; exact .head _))
          have HPK : Hid (∀ W : World, Below w.heap.size w W → Calls Tryz.prog 9 #[.string ((ba' l).extract 0 kk)] W (PvPost (parseF (l.take kk)) W)) := Lib.hid fun W hW => by
            rw [cut_mid, List.drop_zero, Nat.sub_zero]
            exact HP.out _ W (by have := HLL.out.2; rw [List.length_take]; omega) hW
          have HBW : Hid (Below w.heap.size w wr) := Lib.hid (bt (ba HB2.out) (HB.out.mono (by simp)))
          clear big hcn hb hdr hr1 h1a h1b vr hkk
          by_cases hu2 : uk = 2
          · subst hu2
            go_wp2_with fail
            refine (HPK.out _ (by have := HBW.out; repeat (with_reducible (first | assumption | apply ba | apply bd | apply bdr)))).mono ?_
            rintro e' w4 he
            have hne : ∀ T' q', parseF (l.take kk) ≠ .ok T' q' := fun T' q' h' => HBN.out (HF.out kk T' q' h' (by simp) c hmem.out)
            obtain ⟨R, hR⟩ : ∃ R, parseF (l.take kk) = R := ⟨_, rfl⟩
            rw [hR] at he hne
            cases R with
            | ok T' q' => exact absurd rfl (hne T' q')
            | bad =>
              obtain ⟨rfl, hb4⟩ := he
              have HB4 := bt HBW.out hb4
              clear hb4 hne
              go_wp2
              go_ret
              exact ⟨rfl, by repeat (with_reducible (first | assumption | apply ba | apply bd | apply bdr | (refine bs ?_ (by first | assumption | (simp; done) | (simp; omega)))))⟩
            | nest =>
              obtain ⟨rfl, hb4⟩ := he
              have HB4 := bt HBW.out hb4
              clear hb4 hne
              go_wp2
              go_ret
              exact ⟨rfl, by repeat (with_reducible (first | assumption | apply ba | apply bd | apply bdr | (refine bs ?_ (by first | assumption | (simp; done) | (simp; omega)))))⟩
          · have u2 : (uk == 2) = false := by rw [beq_eq_false_iff_ne]; exact hu2
            have u2' : (uk != 2) = true := by rw [bne_iff_ne]; exact hu2
            go_wp2
            go_ret
            exact ⟨rfl, by have := HBW.out; repeat (with_reducible (first | assumption | apply ba | apply bd | apply bdr))⟩
end Go.Proofs.YtpdaldpaceolnaaGreatDoor
