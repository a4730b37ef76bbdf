/- The statement TypesKinds: its walk. No condition beyond what the theorems state. -/
import Derived.Test.YtjpopmgnhgancaaDoorKdP
import Derived.Test.YtjpopmgnhgancaaDoorKdK
import Derived.Test.YtjpopmgnhgancaaDoorKdL
import Derived.Test.YtjpopmgnhgancaaDoorKdN
import Derived.Test.YtjpopmgnhgancaaDoorRight
namespace Go.Proofs.YtjpopmgnhgancaaDoor
open Go.RowKit Go.Lib
set_option maxRecDepth 100000
set_option maxHeartbeats 16000000
def okI (x : It) : Bool := decide (0 ≤ x.m) && (decide (x.m ≠ 0) || atomR x.k x.n x.c x.s.data.toList x.b)
theorem okI_ok {x : It} (h : okI x = true) : ItOk x := by
  unfold okI at h
  rw [Bool.and_eq_true, Bool.or_eq_true, decide_eq_true_eq, decide_eq_true_eq] at h
  exact ⟨h.1, h.2.imp id atom_kinds⟩
theorem one_kindI {L : List En} {x : It} (hL : ∀ e ∈ L, EnOk e) (hx : ItOk x) : OneK (kindI L x) := by
  refine ⟨gt_kindI hL hx, ?_, ?_⟩
  · unfold kindI; split
    · rfl
    · split <;> rfl
  · unfold kindI; split
    · rename_i h0
      have h := hx.2.resolve_left (fun e => e h0)
      show x.k.toNat ≠ 0
      omega
    · split
      · show ofNode _ ≠ 0
        unfold ofNode; split <;> decide
      · show 13 ≠ 0
        decide
theorem kinds_walk (A0 : Option Addr) (cap0 nt : Nat) (ts : List Tr) (Ai : Option Addr) (ci ni : Nat) (xs : List It) (ti tq : Int) (tn : List UInt8) (w : World) (hT : tabs w) (hE : TE w) (hK : TK2 w) (hR : RdP (fun b => b < w.heap.size) w 5 A0 nt (rowT ts)) (hlen : ts.length = nt) (hin : ∀ t ∈ ts, t.In (fun b => b < w.heap.size) w) (hbk : ∀ t ∈ ts, t.pl.bulk ≤ 1048576)
    (hxs : xs.length = ni) (hni : ni ≤ 1048576) (hI : IRow6 w Ai xs) (hsz : ∀ x ∈ xs, x.s.size ≤ 1099511627776 ∧ -9223372036854775808 ≤ x.n ∧ x.n ≤ 9223372036854775807) (htn : tn.length ≤ 1099511627776) :
    Calls Tryd.prog 7 #[.slice A0 nt cap0, .slice Ai ni ci, .agg #[.int .i64 ti, .string (ba' tn), .int .i64 tq]] w fun e w' => e = .returned (.bool true) ∧ Below w.heap.size w w' := by
  have HA : Hid (∀ w1, Below w.heap.size w w1 → Calls Tryd.prog 8 #[] w1 fun e w' => e = .returned (.bool true) ∧ Below w1.heap.size w1 w') := Lib.hid fun w1 h1 => awake_any w1 (hE.below h1)
  have HRT : Hid (∀ w1 : World, Calls Tryd.prog 10 #[.agg #[.int .i64 ti, .string (ba' tn), .int .i64 tq]] w1 fun e w' => e = .returned (.bool (rightB ti tn tq)) ∧ Below w1.heap.size w1 w') := Lib.hid fun w1 => right_ref ti tq tn htn w1
  have HLD : Hid (∀ w1, Below w.heap.size w w1 → Calls Tryd.prog 12 #[.slice A0 nt cap0, .slice Ai ni ci] w1 fun e w' => (if xs.all okI then (∃ sb A c Al cl us, e = .returned (.tuple #[.pointer (some ⟨sb, 0, none⟩), .slice Al (sizeL (plL us)) cl, .bool true]) ∧ LaidS w1 w' sb A c Al cl us ∧ plL us = laidT (plL ts) 6) else e = .returned (.tuple #[.pointer none, .slice none 0 0, .bool false])) ∧ Below w1.heap.size w1 w') := Lib.hid fun w1 h1 =>
    laid14_any (fun x => atomR x.k x.n x.c x.s.data.toList x.b) A0 cap0 nt ts Ai ci ni xs w1 (Utf8Tabs_below hT h1) ⟨hR.1, fun h0 => by
      obtain ⟨a, e, hb, hc⟩ := hR.2 h0
      exact ⟨a, e, Nat.lt_of_lt_of_le hb h1.size, fun j u hu => (h1.cell (by rw [block_of_add]; exact hb)).trans (hc j u hu)⟩⟩ hlen (fun t ht => (hin t ht).keep (fun _ h => Nat.lt_of_lt_of_le h h1.size) (fun _ hp => h1.cell hp)) hbk hxs hni (fun j x hx => by
      obtain ⟨ad, e, hb, d0, d1, d2, d3, d4, d5⟩ := hI j x hx
      exact ⟨ad, e, Nat.lt_of_lt_of_le hb h1.size, (h1.cell hb).trans d0, (h1.cell (p := { block := (ad.add (j * 6)).block, off := (ad.add (j * 6)).off + 1 }) hb).trans d1, (h1.cell (p := { block := (ad.add (j * 6)).block, off := (ad.add (j * 6)).off + 2 }) hb).trans d2, (h1.cell (p := { block := (ad.add (j * 6)).block, off := (ad.add (j * 6)).off + 3 }) hb).trans d3, (h1.cell (p := { block := (ad.add (j * 6)).block, off := (ad.add (j * 6)).off + 4 }) hb).trans d4, (h1.cell (p := { block := (ad.add (j * 6)).block, off := (ad.add (j * 6)).off + 5 }) hb).trans d5⟩) (Lib.hid fun x hx _ w2 _ => atom_ref x.k x.n x.c x.s.data.toList x.b (hsz x hx).2.1 (hsz x hx).2.2 (by have := (hsz x hx).1; simpa using this) w2)
  have HE := Lib.hid hE; have HK2 := Lib.hid hK; have HII := Lib.hid hI; have HXS := Lib.hid hxs
  clear hT hE hK hR hlen hin hbk hI hsz htn hxs
  by_cases hgr : 30 < ni
  · have q1 : decide ((ni : Int) > 30) = true := by simp; omega
    have q2 : decide ((30 : Int) < (ni : Int)) = true := by simp; omega
    go_enter Tryd.func7, Tryd.ntmps7
    go_wp2_with fail
    refine (HA.out _ (by repeat (with_reducible (first | exact Below.refl _ _ | assumption | apply ba | apply bd | apply bdr | (refine bs ?_ (by first | assumption | (simp; done) | (simp; omega))) | (refine bt ?_ (by assumption)))))).mono ?_
    rintro e w1 ⟨rfl, hb1⟩
    have B1 : Below w.heap.size w w1 := (by repeat (with_reducible (first | exact Below.refl _ _ | assumption | apply ba | apply bd | apply bdr | (refine bs ?_ (by first | assumption | (simp; done) | (simp; omega))) | (refine bt ?_ (by assumption)))))
    go_wp2_with fail
    refine (HA.out _ (by repeat (with_reducible (first | exact Below.refl _ _ | assumption | apply ba | apply bd | apply bdr | (refine bs ?_ (by first | assumption | (simp; done) | (simp; omega))) | (refine bt ?_ (by assumption)))))).mono ?_
    rintro e w2 ⟨rfl, hb2⟩
    have B2 : Below w.heap.size w w2 := (by repeat (with_reducible (first | exact Below.refl _ _ | assumption | apply ba | apply bd | apply bdr | (refine bs ?_ (by first | assumption | (simp; done) | (simp; omega))) | (refine bt ?_ (by assumption)))))
    go_wp2
    go_ret
    exact ⟨rfl, B2⟩
  have q1 : decide ((ni : Int) > 30) = false := by simp; omega
  have q2 : decide ((30 : Int) < (ni : Int)) = false := by simp; omega
  go_enter Tryd.func7, Tryd.ntmps7
  go_wp2_with fail
  refine (HA.out _ (by repeat (with_reducible (first | exact Below.refl _ _ | assumption | apply ba | apply bd | apply bdr | (refine bs ?_ (by first | assumption | (simp; done) | (simp; omega))) | (refine bt ?_ (by assumption)))))).mono ?_
  rintro e w1 ⟨rfl, hb1⟩
  have B1 : Below w.heap.size w w1 := (by repeat (with_reducible (first | exact Below.refl _ _ | assumption | apply ba | apply bd | apply bdr | (refine bs ?_ (by first | assumption | (simp; done) | (simp; omega))) | (refine bt ?_ (by assumption)))))
  have hc1 := fun o => (bcell hb1).1 (w.heap.size) o (by first | (simp; done) | assumption | (simp; omega))
  have zz1 : w.heap.size < w1.heap.size := zz hb1 (by first | (simp; done) | assumption | (simp; omega))
  have e0 : w1.cell? ⟨w.heap.size, 0, none⟩ = some (.int .i64 ti) := (by first | assumption | (go_simp; done) | (go_simp; rfl) | (go_keep; done))
  have e1 : w1.cell? ⟨w.heap.size, 1, none⟩ = some (.string (ba' tn)) := (by first | assumption | (go_simp; done) | (go_simp; rfl) | (go_keep; done))
  have e2 : w1.cell? ⟨w.heap.size, 2, none⟩ = some (.int .i64 tq) := (by first | assumption | (go_simp; done) | (go_simp; rfl) | (go_keep; done))
  have HB1 := Lib.hid B1
  clear hc1 hb1
  go_wp2_with fail
  refine (HLD.out _ HB1.out).mono ?_
  rintro e w2 ⟨he, hb2⟩
  have HB2 := Lib.hid (bt HB1.out hb2)
  have f0 := cell_call e0 hb2
  have f1 := cell_call e1 hb2
  have f2 := cell_call e2 hb2
  have zf : w.heap.size < w2.heap.size := zz hb2 zz1
  clear e0 e1 e2 hb2 HLD B1 zz1
  cases hok : xs.all okI with
  | false =>
    rw [hok] at he
    obtain rfl : e = _ := he
    go_wp2
    go_ret
    exact ⟨rfl, HB2.out⟩
  | true =>
    rw [hok] at he
    obtain ⟨sb, A, c, Al, cl, us, rfl, hS, hpl⟩ := he
    have HPL := Lib.hid hpl
    have HS := Lib.hid hS
    have hIO : ∀ x ∈ xs, ItOk x := fun x hx => okI_ok (List.all_eq_true.1 hok x hx)
    have HIO := Lib.hid hIO
    clear hS hIO hpl
    cases hr : rightB ti tn tq with
    | false =>
      rw [hr] at HRT
      go_wp2_with fail
      refine (HRT.out _).mono ?_
      rintro e w3 ⟨rfl, hb3⟩
      have B3 : Below w.heap.size w w3 := bt HB2.out hb3
      go_wp2
      go_ret
      exact ⟨rfl, B3⟩
    | true =>
      rw [hr] at HRT
      obtain ⟨⟨⟨t1, t2⟩, t3⟩, gt, rfl, rfl, rfl⟩ := right_gt hr
      go_wp2_with fail
      refine (HRT.out _).mono ?_
      rintro e w3 ⟨rfl, hb3⟩
      have HB3 := Lib.hid (bt HB2.out hb3)
      have e0 := cell_call f0 hb3
      have e1 := cell_call f1 hb3
      have e2 := cell_call f2 hb3
      have ze : w.heap.size < w3.heap.size := zz hb3 zf
      have HS3 := Lib.hid (HS.out.later hb3)
      have HGT := Lib.hid gt
      clear hb3 f0 f1 f2 zf HS HRT gt
      go_wp2
      obtain ⟨L, hLd⟩ : ∃ L, layL (plL us) 0 0 = L := ⟨_, rfl⟩
      have hrr : ∀ t ∈ plL us, t.right 0 = true := by
        intro t ht
        rw [plL_map] at ht
        obtain ⟨u, hu, rfl⟩ := List.mem_map.1 ht
        exact (HS3.out.fine u hu).1
      have hen := layL_ok (plL us) hrr 0 0
      rw [hLd] at hen
      have HEN := Lib.hid hen
      have HST : Hid (∀ w1, Below w3.heap.size w3 w1 → StoreAt w1 sb 1000 A c L) := Lib.hid fun w1 h1 => by rw [← hLd]; exact (HS3.out.later h1).store
      have hln : L.length ≤ 1048576 := by
        rw [← hLd, layL_len]
        have h1 := HS3.out.size
        have h2 : us.length ≤ 6 := by
          have h3 : (plL us).length = us.length := by rw [plL_map, List.length_map]
          rw [← h3, HPL.out]
          unfold laidT
          exact Nat.le_trans (List.length_filter_le _ _) (by rw [List.length_take]; exact Nat.min_le_left _ _)
        omega
      have HLN := Lib.hid hln
      clear hLd HS3 hrr hen hln
      go_loopw [11] (fun s11 wx => ∃ (j : Nat) (a : TT), s11 = .int .i64 (j : Nat) ∧ j ≤ ni ∧ Hid (allF ((xs.take j).map (kindI L)) emptyT = a) ∧ wx.cell? ⟨w3.heap.size, 0, none⟩ = some (.int .i64 (a.k.i : Nat)) ∧ wx.cell? ⟨w3.heap.size, 1, none⟩ = some (.string (ba' a.k.n)) ∧ wx.cell? ⟨w3.heap.size, 2, none⟩ = some (.int .i64 (a.o : Nat)) ∧ wx.frozen? ⟨w3.heap.size, 0, none⟩ = false ∧ wx.frozen? ⟨w3.heap.size, 1, none⟩ = false ∧ wx.frozen? ⟨w3.heap.size, 2, none⟩ = false ∧ w3.heap.size < wx.heap.size ∧ Below w3.heap.size w3 wx) (fun s11 _ => ni - (intOf s11).toNat)
      case atStart => exact ⟨0, emptyT, rfl, Nat.zero_le _, Lib.hid rfl, (by first | assumption | (go_simp; done) | (go_simp; rfl) | (go_keep; done)), (by first | assumption | (go_simp; done) | (go_simp; rfl) | (go_keep; done)), (by first | assumption | (go_simp; done) | (go_simp; rfl) | (go_keep; done)), (by rw [frozen?_alloc_cells]; exact frz_past w3 _ _ (Nat.le_refl _)), (by rw [frozen?_alloc_cells]; exact frz_past w3 _ _ (Nat.le_refl _)), (by rw [frozen?_alloc_cells]; exact frz_past w3 _ _ (Nat.le_refl _)), by simp, ba (Below.refl _ _)⟩
      case round =>
        obtain ⟨j, a, rfl, hj, HAF, a0, a1, a2, y0, y1, y2, hz, hB⟩ := hrel
        have HB := Lib.hid hB
        have HBJ := Lib.hid (bt HB3.out hB)
        have p0 := cell_call e0 hB
        have p1 := cell_call e1 hB
        have p2 := cell_call e2 hB
        have pz : w.heap.size < wr.heap.size := zz hB ze
        have HONE : Hid (∀ k ∈ (xs.take j).map (kindI L), OneK k) := Lib.hid fun k hk => by
          obtain ⟨x, hx, rfl⟩ := List.mem_map.1 hk
          exact one_kindI HEN.out (HIO.out x (List.mem_of_mem_take hx))
        have HAG := Lib.hid (allF_is _ _ rfl HONE.out)
        rw [HAF.out] at HAG
        by_cases hlt : j < ni
        · have q3 : decide ((j : Int) < (ni : Int)) = true := by simp; omega
          have q3' : decide (j < ni) = true := by simpa using hlt
          obtain ⟨x, hx⟩ : ∃ x, xs[j]? = some x := ⟨_, List.getElem?_eq_getElem (by rw [HXS.out]; exact hlt)⟩
          have hxm := List.mem_of_getElem? hx
          obtain ⟨ad, rfl, hb0, d0, d1, d2, d3, d4, d5⟩ := HII.out j x hx
          have d0 := (HBJ.out.cell hb0).trans d0
          have d1 := (HBJ.out.cell (show ({ block := (ad.add (j * 6)).block, off := (ad.add (j * 6)).off + 1 } : Addr).block < w.heap.size from hb0)).trans d1
          have d2 := (HBJ.out.cell (show ({ block := (ad.add (j * 6)).block, off := (ad.add (j * 6)).off + 2 } : Addr).block < w.heap.size from hb0)).trans d2
          have d3 := (HBJ.out.cell (show ({ block := (ad.add (j * 6)).block, off := (ad.add (j * 6)).off + 3 } : Addr).block < w.heap.size from hb0)).trans d3
          have d4 := (HBJ.out.cell (show ({ block := (ad.add (j * 6)).block, off := (ad.add (j * 6)).off + 4 } : Addr).block < w.heap.size from hb0)).trans d4
          have d5 := (HBJ.out.cell (show ({ block := (ad.add (j * 6)).block, off := (ad.add (j * 6)).off + 5 } : Addr).block < w.heap.size from hb0)).trans d5
          have hnx : allF ((xs.take (j + 1)).map (kindI L)) emptyT = joinT [a, kindI L x] := by
            rw [List.take_add_one, hx, List.map_append, ← HAF.out]
            exact allF_snoc _ _ _
          have HNX := Lib.hid hnx
          have hOx := HIO.out x hxm
          have h1k := one_kindI HEN.out hOx
          have HKX : Hid (∀ w1, Below wr.heap.size wr w1 → Calls Tryd.prog 16 #[.pointer (some ⟨sb, 0, none⟩), .agg #[.int .i64 x.m, .int .i64 x.k, .int .i64 x.n, .int .i64 x.c, .string x.s, .bool x.b]] w1 fun e w' => e = .returned (.agg #[.int .i64 ((kindI L x).k.i : Nat), .string (ba' (kindI L x).k.n), .int .i64 ((kindI L x).o : Nat)]) ∧ Below w1.heap.size w1 w') := Lib.hid fun w1 h1 => kindI_any sb A c L x hOx HEN.out HLN.out w1 (HST.out w1 (bt HB.out h1)) (HK2.out.below (bt HBJ.out h1))
          have HIS : Hid (∀ (t : TT) (w1 : World), Below wr.heap.size wr w1 → Calls Tryd.prog 17 #[.pointer (some ⟨sb, 0, none⟩), .agg #[.int .i64 x.m, .int .i64 x.k, .int .i64 x.n, .int .i64 x.c, .string x.s, .bool x.b], .agg #[.int .i64 (t.k.i : Nat), .string (ba' t.k.n), .int .i64 (t.o : Nat)]] w1 fun e w' => e = .returned (.bool (lieB (kindI L x).k t.k)) ∧ Below w1.heap.size w1 w') := Lib.hid fun t w1 h1 => is_any sb x.m x.k x.n x.c x.s x.b (kindI L x) t h1k.1 w1 (HE.out.below (bt HBJ.out h1)) (Lib.hid fun w2 h2 => HKX.out w2 (bt h1 h2))
          obtain ⟨K, hKe⟩ : ∃ K, kindI L x = K := ⟨_, rfl⟩
          rw [hKe] at HKX HIS HNX h1k
          have l1 : lieB K.k K.k = true := (lieB_is h1k.1.1).2 (lie_refl _)
          have l2 : lieB K.k anyK = true := (lieB_is h1k.1.1).2 (lie_any h1k.1.1)
          have HI1 := Lib.hid (fun w1 h1 => HIS.out K w1 h1)
          rw [l1] at HI1
          have HI2 : Hid (∀ w1, Below wr.heap.size wr w1 → Calls Tryd.prog 17 #[.pointer (some ⟨sb, 0, none⟩), .agg #[.int .i64 x.m, .int .i64 x.k, .int .i64 x.n, .int .i64 x.c, .string x.s, .bool x.b], .agg #[.int .i64 13, .string ⟨#[]⟩, .int .i64 0]] w1 fun e w' => e = .returned (.bool true) ∧ Below w1.heap.size w1 w') := Lib.hid fun w1 h1 => by
            have h := HIS.out ⟨anyK, 0⟩ w1 h1
            rw [l2] at h
            exact h
          have HI3 := Lib.hid (fun w1 h1 => HIS.out ⟨⟨t1, tn⟩, t3⟩ w1 h1)
          have hsub : subT K ⟨⟨t1, tn⟩, 0⟩ = lieB K.k ⟨t1, tn⟩ ∨ t1 = 0 := by
            by_cases h : t1 = 0
            · exact .inr h
            · left
              rw [subT, cT_one h1k, cT, zT, decide_eq_false h]
              rfl
          have HSB : Hid (∀ w1, Below wr.heap.size wr w1 → Calls Tryd.prog 22 #[.agg #[.int .i64 (K.k.i : Nat), .string (ba' K.k.n), .int .i64 (K.o : Nat)], .agg #[.int .i64 (t1 : Nat), .string (ba' tn), .int .i64 (0 : Nat)]] w1 fun e w' => e = .returned (.bool (subT K ⟨⟨t1, tn⟩, 0⟩)) ∧ Below w1.heap.size w1 w') := Lib.hid fun w1 h1 => sub_t K ⟨⟨t1, tn⟩, 0⟩ h1k.1 ⟨HGT.out.1, Nat.zero_le _⟩ w1 (HE.out.below (bt HBJ.out h1))
          have HJN : Hid (∀ w1 g, Below wr.heap.size wr w1 → g < w1.heap.size → TRow w1 g [a, K] → Calls Tryd.prog 20 #[.slice (some ⟨g, 0, none⟩) 2 2] w1 fun e w' => e = .returned (.agg #[.int .i64 ((joinT [a, K]).k.i : Nat), .string (ba' (joinT [a, K]).k.n), .int .i64 ((joinT [a, K]).o : Nat)]) ∧ Below w1.heap.size w1 w') := Lib.hid fun w1 g h1 hg hr => join_t [a, K] (gt_two HAG.out.1 h1k.1) 2 g rfl (by decide) w1 (HE.out.below (bt HBJ.out h1)) hr hg
          obtain ⟨⟨⟨ri, rn⟩, ro⟩, hjr⟩ : ∃ r, joinT [a, K] = r := ⟨_, rfl⟩
          rw [hjr] at HJN HNX
          obtain ⟨r, hr⟩ : ∃ r, lieB K.k ⟨t1, tn⟩ = r := ⟨_, rfl⟩
          simp only [hr] at HI3 hsub
          have hbw : (ad.add (j * 6)).block < wr.heap.size := Nat.lt_of_lt_of_le hb0 HBJ.out.size
          have hw : wrap64 ((j : Int) + 1) = (j : Int) + 1 := by unfold wrap64; omega
          have HD := Lib.hid (⟨d0, d1, d2, d3, d4, d5⟩ : _ ∧ _ ∧ _ ∧ _ ∧ _ ∧ _)
          have HSU := Lib.hid hsub
          clear hKe l1 l2 hjr hr hnx hOx hxm hx hsub HIS HAG HONE h1k hB
          obtain ⟨⟨ki, kn⟩, ko⟩ := K
          obtain ⟨⟨ai, an⟩, ao⟩ := a
          obtain ⟨xm, xk, xn, xc, xs', xb⟩ := x
          simp only at d0 d1 d2 d3 d4 d5 HD HKX HI1 HI2 HI3 HSB HSU HJN a0 a1 a2
          go_wp2_with fail
          refine (HKX.out _ (Below.refl _ _)).mono ?_
          rintro e w4 ⟨rfl, hb4⟩
          have P0 := cell_call p0 hb4
          have P1 := cell_call p1 hb4
          have P2 := cell_call p2 hb4
          have A0' := cell_call a0 hb4
          have A1' := cell_call a1 hb4
          have A2' := cell_call a2 hb4
          have Y0 := froz_call y0 hz hb4
          have Y1 := froz_call y1 hz hb4
          have Y2 := froz_call y2 hz hb4
          have PZ : w.heap.size < w4.heap.size := zz hb4 pz
          have AZ : w3.heap.size < w4.heap.size := zz hb4 hz
          clear p0 p1 p2 a0 a1 a2 y0 y1 y2 d0 d1 d2 d3 d4 d5
          go_wp2
          have t0c : ((w4.alloc (.cells #[.int .i64 (ki : Nat), .string (ba' kn), .int .i64 (ko : Nat)] 26)).alloc (.cells #[.int .i64 (t1 : Nat), .string (ba' tn), .int .i64 0] 26)).cell? ⟨w.heap.size, 0, none⟩ = some (.int .i64 (t1 : Nat)) := (by first | assumption | (go_simp; done) | (go_simp; rfl) | (go_keep; done))
          have t1c : ((w4.alloc (.cells #[.int .i64 (ki : Nat), .string (ba' kn), .int .i64 (ko : Nat)] 26)).alloc (.cells #[.int .i64 (t1 : Nat), .string (ba' tn), .int .i64 0] 26)).cell? ⟨w.heap.size, 1, none⟩ = some (.string (ba' tn)) := (by first | assumption | (go_simp; done) | (go_simp; rfl) | (go_keep; done))
          have t2c : ((w4.alloc (.cells #[.int .i64 (ki : Nat), .string (ba' kn), .int .i64 (ko : Nat)] 26)).alloc (.cells #[.int .i64 (t1 : Nat), .string (ba' tn), .int .i64 0] 26)).cell? ⟨w.heap.size, 2, none⟩ = some (.int .i64 (t3 : Nat)) := (by first | assumption | (go_simp; done) | (go_simp; rfl) | (go_keep; done))
          have k0c : ((w4.alloc (.cells #[.int .i64 (ki : Nat), .string (ba' kn), .int .i64 (ko : Nat)] 26)).alloc (.cells #[.int .i64 (t1 : Nat), .string (ba' tn), .int .i64 0] 26)).cell? ⟨w4.heap.size, 0, none⟩ = some (.int .i64 (ki : Nat)) := (by first | assumption | (go_simp; done) | (go_simp; rfl) | (go_keep; done))
          have k1c : ((w4.alloc (.cells #[.int .i64 (ki : Nat), .string (ba' kn), .int .i64 (ko : Nat)] 26)).alloc (.cells #[.int .i64 (t1 : Nat), .string (ba' tn), .int .i64 0] 26)).cell? ⟨w4.heap.size, 1, none⟩ = some (.string (ba' kn)) := (by first | assumption | (go_simp; done) | (go_simp; rfl) | (go_keep; done))
          have k2c : ((w4.alloc (.cells #[.int .i64 (ki : Nat), .string (ba' kn), .int .i64 (ko : Nat)] 26)).alloc (.cells #[.int .i64 (t1 : Nat), .string (ba' tn), .int .i64 0] 26)).cell? ⟨w4.heap.size, 2, none⟩ = some (.int .i64 (ko : Nat)) := (by first | assumption | (go_simp; done) | (go_simp; rfl) | (go_keep; done))
          have o0c : ((w4.alloc (.cells #[.int .i64 (ki : Nat), .string (ba' kn), .int .i64 (ko : Nat)] 26)).alloc (.cells #[.int .i64 (t1 : Nat), .string (ba' tn), .int .i64 0] 26)).cell? ⟨w4.heap.size + 1, 0, none⟩ = some (.int .i64 (t1 : Nat)) := (by first | assumption | (go_simp; done) | (go_simp; rfl) | (go_keep; done))
          have o1c : ((w4.alloc (.cells #[.int .i64 (ki : Nat), .string (ba' kn), .int .i64 (ko : Nat)] 26)).alloc (.cells #[.int .i64 (t1 : Nat), .string (ba' tn), .int .i64 0] 26)).cell? ⟨w4.heap.size + 1, 1, none⟩ = some (.string (ba' tn)) := (by first | assumption | (go_simp; done) | (go_simp; rfl) | (go_keep; done))
          have o2c : ((w4.alloc (.cells #[.int .i64 (ki : Nat), .string (ba' kn), .int .i64 (ko : Nat)] 26)).alloc (.cells #[.int .i64 (t1 : Nat), .string (ba' tn), .int .i64 0] 26)).cell? ⟨w4.heap.size + 1, 2, none⟩ = some (.int .i64 (0 : Nat)) := (by first | assumption | (go_simp; done) | (go_simp; rfl) | (go_keep; done))
          have a0c : ((w4.alloc (.cells #[.int .i64 (ki : Nat), .string (ba' kn), .int .i64 (ko : Nat)] 26)).alloc (.cells #[.int .i64 (t1 : Nat), .string (ba' tn), .int .i64 0] 26)).cell? ⟨w3.heap.size, 0, none⟩ = some (.int .i64 (ai : Nat)) := (by first | assumption | (go_simp; done) | (go_simp; rfl) | (go_keep; done))
          have a1c : ((w4.alloc (.cells #[.int .i64 (ki : Nat), .string (ba' kn), .int .i64 (ko : Nat)] 26)).alloc (.cells #[.int .i64 (t1 : Nat), .string (ba' tn), .int .i64 0] 26)).cell? ⟨w3.heap.size, 1, none⟩ = some (.string (ba' an)) := (by first | assumption | (go_simp; done) | (go_simp; rfl) | (go_keep; done))
          have a2c : ((w4.alloc (.cells #[.int .i64 (ki : Nat), .string (ba' kn), .int .i64 (ko : Nat)] 26)).alloc (.cells #[.int .i64 (t1 : Nat), .string (ba' tn), .int .i64 0] 26)).cell? ⟨w3.heap.size, 2, none⟩ = some (.int .i64 (ao : Nat)) := (by first | assumption | (go_simp; done) | (go_simp; rfl) | (go_keep; done))
          have z0c : ((w4.alloc (.cells #[.int .i64 (ki : Nat), .string (ba' kn), .int .i64 (ko : Nat)] 26)).alloc (.cells #[.int .i64 (t1 : Nat), .string (ba' tn), .int .i64 0] 26)).frozen? ⟨w3.heap.size, 0, none⟩ = false := by rw [frozen?_alloc_cells, frozen?_alloc_cells]; exact Y0
          have z1c : ((w4.alloc (.cells #[.int .i64 (ki : Nat), .string (ba' kn), .int .i64 (ko : Nat)] 26)).alloc (.cells #[.int .i64 (t1 : Nat), .string (ba' tn), .int .i64 0] 26)).frozen? ⟨w3.heap.size, 1, none⟩ = false := by rw [frozen?_alloc_cells, frozen?_alloc_cells]; exact Y1
          have z2c : ((w4.alloc (.cells #[.int .i64 (ki : Nat), .string (ba' kn), .int .i64 (ko : Nat)] 26)).alloc (.cells #[.int .i64 (t1 : Nat), .string (ba' tn), .int .i64 0] 26)).frozen? ⟨w3.heap.size, 2, none⟩ = false := by rw [frozen?_alloc_cells, frozen?_alloc_cells]; exact Y2
          have BW : Below w4.heap.size w4 ((w4.alloc (.cells #[.int .i64 (ki : Nat), .string (ba' kn), .int .i64 (ko : Nat)] 26)).alloc (.cells #[.int .i64 (t1 : Nat), .string (ba' tn), .int .i64 0] 26)) := ba (ba (Below.refl _ _))
          have szW : w4.heap.size + 1 < ((w4.alloc (.cells #[.int .i64 (ki : Nat), .string (ba' kn), .int .i64 (ko : Nat)] 26)).alloc (.cells #[.int .i64 (t1 : Nat), .string (ba' tn), .int .i64 0] 26)).heap.size := by simp
          clear P0 P1 P2 A0' A1' A2' Y0 Y1 Y2
          generalize ((w4.alloc (.cells #[.int .i64 (ki : Nat), .string (ba' kn), .int .i64 (ko : Nat)] 26)).alloc (.cells #[.int .i64 (t1 : Nat), .string (ba' tn), .int .i64 0] 26)) = W at *
          have HBW := Lib.hid (bt hb4 BW)
          have hzW : w3.heap.size < W.heap.size := by omega
          clear BW hb4
          by_cases hz0 : t1 = 0
          · have t0z : W.cell? ⟨w.heap.size, 0, none⟩ = some (.int .i64 0) := by rw [t0c, hz0]; rfl
            {
              refine Ks_region ad (w.heap.size) (w4.heap.size) (w4.heap.size + 1) sb ni ci j ki ko t1 0 t3 xm xk xn xc xs' (ba' kn) (ba' tn) (ba' tn) xb r W (Below.refl _ _) t0z t1c t2c k0c k1c k2c o0c o1c o2c (Lib.hid fun w1 h1 => ((bt HBW.out h1).cell hbw).trans HD.out.1) (Lib.hid fun w1 h1 => ((bt HBW.out h1).cell (show ({ block := (ad.add (j * 6)).block, off := (ad.add (j * 6)).off + 1 } : Addr).block < wr.heap.size from hbw)).trans HD.out.2.1) (Lib.hid fun w1 h1 => ((bt HBW.out h1).cell (show ({ block := (ad.add (j * 6)).block, off := (ad.add (j * 6)).off + 2 } : Addr).block < wr.heap.size from hbw)).trans HD.out.2.2.1) (Lib.hid fun w1 h1 => ((bt HBW.out h1).cell (show ({ block := (ad.add (j * 6)).block, off := (ad.add (j * 6)).off + 3 } : Addr).block < wr.heap.size from hbw)).trans HD.out.2.2.2.1) (Lib.hid fun w1 h1 => ((bt HBW.out h1).cell (show ({ block := (ad.add (j * 6)).block, off := (ad.add (j * 6)).off + 4 } : Addr).block < wr.heap.size from hbw)).trans HD.out.2.2.2.2.1) (Lib.hid fun w1 h1 => ((bt HBW.out h1).cell (show ({ block := (ad.add (j * 6)).block, off := (ad.add (j * 6)).off + 5 } : Addr).block < wr.heap.size from hbw)).trans HD.out.2.2.2.2.2) (Lib.hid fun w1 h1 => HI1.out w1 (bt HBW.out h1)) (Lib.hid fun w1 h1 => HI2.out w1 (bt HBW.out h1)) hlt q3' ?_
              rintro w5 _ hb5
              have u0 := cell_call a0c hb5
              have u1 := cell_call a1c hb5
              have u2 := cell_call a2c hb5
              have v0 := cell_call k0c hb5
              have v1 := cell_call k1c hb5
              have v2 := cell_call k2c hb5
              have s0 := froz_call z0c hzW hb5
              have s1 := froz_call z1c hzW hb5
              have s2 := froz_call z2c hzW hb5
              have hz5 : w3.heap.size < w5.heap.size := zz hb5 hzW
              have hk5 : w4.heap.size < w5.heap.size := zz hb5 (by omega)
              have HB5 := Lib.hid (bt HBW.out hb5)
              clear t0c t1c t2c k0c k1c k2c o0c o1c o2c a0c a1c a2c z0c z1c z2c hb5
              clear t0z hz0
              go_wp2_with fail
              refine (HJN.out _ _ (by have := HB5.out; (repeat (with_reducible (first | exact Below.refl _ _ | assumption | apply ba | apply bd | apply bdr | (refine bs ?_ (by first | assumption | (simp; done) | (simp; omega))) | (refine bt ?_ (by assumption)))))) (by simp) (row2 _ _ (by first | assumption | (go_simp; done) | (go_simp; rfl) | (go_keep; done)) (by first | assumption | (go_simp; done) | (go_simp; rfl) | (go_keep; done)) (by first | assumption | (go_simp; done) | (go_simp; rfl) | (go_keep; done)) (by first | assumption | (go_simp; done) | (go_simp; rfl) | (go_keep; done)) (by first | assumption | (go_simp; done) | (go_simp; rfl) | (go_keep; done)) (by first | assumption | (go_simp; done) | (go_simp; rfl) | (go_keep; done)))).mono ?_
              rintro e w6 ⟨rfl, hb6⟩
              have b6 : Below wr.heap.size wr w6 := by have := HB5.out; (repeat (with_reducible (first | exact Below.refl _ _ | assumption | apply ba | apply bd | apply bdr | (refine bs ?_ (by first | assumption | (simp; done) | (simp; omega))) | (refine bt ?_ (by assumption)))))
              have U0 := ((bcell hb6).1 (w3.heap.size) 0 (by simp; omega)).trans (cell_new u0)
              have U1 := ((bcell hb6).1 (w3.heap.size) 1 (by simp; omega)).trans (cell_new u1)
              have U2 := ((bcell hb6).1 (w3.heap.size) 2 (by simp; omega)).trans (cell_new u2)
              have V0 : w6.frozen? ⟨w3.heap.size, 0, none⟩ = false := ((bcell hb6).2 (w3.heap.size) 0 (by simp; omega)).trans (by rw [frozen?_alloc_cells]; exact s0)
              have V1 : w6.frozen? ⟨w3.heap.size, 1, none⟩ = false := ((bcell hb6).2 (w3.heap.size) 1 (by simp; omega)).trans (by rw [frozen?_alloc_cells]; exact s1)
              have V2 : w6.frozen? ⟨w3.heap.size, 2, none⟩ = false := ((bcell hb6).2 (w3.heap.size) 2 (by simp; omega)).trans (by rw [frozen?_alloc_cells]; exact s2)
              have hz6 : w3.heap.size < w6.heap.size := zz hb6 (by simp; omega)
              have HB6 := Lib.hid (bt HB.out b6)
              clear u0 u1 u2 v0 v1 v2 s0 s1 s2 hb6 b6
              go_wp2
              go_roundw
              case measure => simp [intOf]; omega
              case rel => exact ⟨j + 1, ⟨⟨ri, rn⟩, ro⟩, by simp, by omega, HNX, (by first | assumption | (go_simp; done) | (go_simp; rfl) | (go_keep; done)), (by first | assumption | (go_simp; done) | (go_simp; rfl) | (go_keep; done)), (by first | assumption | (go_simp; done) | (go_simp; rfl) | (go_keep; done)), (by first | assumption | (go_simp; done) | (go_simp; rfl) | (go_keep; done)), (by first | assumption | (go_simp; done) | (go_simp; rfl) | (go_keep; done)), (by first | assumption | (go_simp; done) | (go_simp; rfl) | (go_keep; done)), by simp; omega, bs (bs (bs HB6.out (Nat.le_refl _)) (Nat.le_refl _)) (Nat.le_refl _)⟩
            }
          · have hsr := HSU.out.resolve_right hz0
            have ht1 : ((t1 : Int) != 0) = true := by simpa using hz0
            have ht2 : (t1 = 0) = False := by simpa using hz0
            {
              refine Kr_region ad (w.heap.size) (w4.heap.size) (w4.heap.size + 1) sb ni ci j ki ko t1 0 t3 xm xk xn xc xs' (ba' kn) (ba' tn) (ba' tn) xb r t1 W (Below.refl _ _) t0c t1c t2c k0c k1c k2c o0c o1c o2c (Lib.hid fun w1 h1 => ((bt HBW.out h1).cell hbw).trans HD.out.1) (Lib.hid fun w1 h1 => ((bt HBW.out h1).cell (show ({ block := (ad.add (j * 6)).block, off := (ad.add (j * 6)).off + 1 } : Addr).block < wr.heap.size from hbw)).trans HD.out.2.1) (Lib.hid fun w1 h1 => ((bt HBW.out h1).cell (show ({ block := (ad.add (j * 6)).block, off := (ad.add (j * 6)).off + 2 } : Addr).block < wr.heap.size from hbw)).trans HD.out.2.2.1) (Lib.hid fun w1 h1 => ((bt HBW.out h1).cell (show ({ block := (ad.add (j * 6)).block, off := (ad.add (j * 6)).off + 3 } : Addr).block < wr.heap.size from hbw)).trans HD.out.2.2.2.1) (Lib.hid fun w1 h1 => ((bt HBW.out h1).cell (show ({ block := (ad.add (j * 6)).block, off := (ad.add (j * 6)).off + 4 } : Addr).block < wr.heap.size from hbw)).trans HD.out.2.2.2.2.1) (Lib.hid fun w1 h1 => ((bt HBW.out h1).cell (show ({ block := (ad.add (j * 6)).block, off := (ad.add (j * 6)).off + 5 } : Addr).block < wr.heap.size from hbw)).trans HD.out.2.2.2.2.2) (Lib.hid fun w1 h1 => HI1.out w1 (bt HBW.out h1)) (Lib.hid fun w1 h1 => HI2.out w1 (bt HBW.out h1)) hlt q3' (Lib.hid fun w1 h1 => HI3.out w1 (bt HBW.out h1)) (Lib.hid fun w1 h1 => by have h := HSB.out w1 (bt HBW.out h1); rw [hsr] at h; exact h) hz0 ht1 ht2 ?_
              rintro w5 _ hb5
              have u0 := cell_call a0c hb5
              have u1 := cell_call a1c hb5
              have u2 := cell_call a2c hb5
              have v0 := cell_call k0c hb5
              have v1 := cell_call k1c hb5
              have v2 := cell_call k2c hb5
              have s0 := froz_call z0c hzW hb5
              have s1 := froz_call z1c hzW hb5
              have s2 := froz_call z2c hzW hb5
              have hz5 : w3.heap.size < w5.heap.size := zz hb5 hzW
              have hk5 : w4.heap.size < w5.heap.size := zz hb5 (by omega)
              have HB5 := Lib.hid (bt HBW.out hb5)
              clear t0c t1c t2c k0c k1c k2c o0c o1c o2c a0c a1c a2c z0c z1c z2c hb5
              clear hz0 ht1 ht2 hsr
              go_wp2_with fail
              refine (HJN.out _ _ (by have := HB5.out; (repeat (with_reducible (first | exact Below.refl _ _ | assumption | apply ba | apply bd | apply bdr | (refine bs ?_ (by first | assumption | (simp; done) | (simp; omega))) | (refine bt ?_ (by assumption)))))) (by simp) (row2 _ _ (by first | assumption | (go_simp; done) | (go_simp; rfl) | (go_keep; done)) (by first | assumption | (go_simp; done) | (go_simp; rfl) | (go_keep; done)) (by first | assumption | (go_simp; done) | (go_simp; rfl) | (go_keep; done)) (by first | assumption | (go_simp; done) | (go_simp; rfl) | (go_keep; done)) (by first | assumption | (go_simp; done) | (go_simp; rfl) | (go_keep; done)) (by first | assumption | (go_simp; done) | (go_simp; rfl) | (go_keep; done)))).mono ?_
              rintro e w6 ⟨rfl, hb6⟩
              have b6 : Below wr.heap.size wr w6 := by have := HB5.out; (repeat (with_reducible (first | exact Below.refl _ _ | assumption | apply ba | apply bd | apply bdr | (refine bs ?_ (by first | assumption | (simp; done) | (simp; omega))) | (refine bt ?_ (by assumption)))))
              have U0 := ((bcell hb6).1 (w3.heap.size) 0 (by simp; omega)).trans (cell_new u0)
              have U1 := ((bcell hb6).1 (w3.heap.size) 1 (by simp; omega)).trans (cell_new u1)
              have U2 := ((bcell hb6).1 (w3.heap.size) 2 (by simp; omega)).trans (cell_new u2)
              have V0 : w6.frozen? ⟨w3.heap.size, 0, none⟩ = false := ((bcell hb6).2 (w3.heap.size) 0 (by simp; omega)).trans (by rw [frozen?_alloc_cells]; exact s0)
              have V1 : w6.frozen? ⟨w3.heap.size, 1, none⟩ = false := ((bcell hb6).2 (w3.heap.size) 1 (by simp; omega)).trans (by rw [frozen?_alloc_cells]; exact s1)
              have V2 : w6.frozen? ⟨w3.heap.size, 2, none⟩ = false := ((bcell hb6).2 (w3.heap.size) 2 (by simp; omega)).trans (by rw [frozen?_alloc_cells]; exact s2)
              have hz6 : w3.heap.size < w6.heap.size := zz hb6 (by simp; omega)
              have HB6 := Lib.hid (bt HB.out b6)
              clear u0 u1 u2 v0 v1 v2 s0 s1 s2 hb6 b6
              go_wp2
              go_roundw
              case measure => simp [intOf]; omega
              case rel => exact ⟨j + 1, ⟨⟨ri, rn⟩, ro⟩, by simp, by omega, HNX, (by first | assumption | (go_simp; done) | (go_simp; rfl) | (go_keep; done)), (by first | assumption | (go_simp; done) | (go_simp; rfl) | (go_keep; done)), (by first | assumption | (go_simp; done) | (go_simp; rfl) | (go_keep; done)), (by first | assumption | (go_simp; done) | (go_simp; rfl) | (go_keep; done)), (by first | assumption | (go_simp; done) | (go_simp; rfl) | (go_keep; done)), (by first | assumption | (go_simp; done) | (go_simp; rfl) | (go_keep; done)), by simp; omega, bs (bs (bs HB6.out (Nat.le_refl _)) (Nat.le_refl _)) (Nat.le_refl _)⟩
            }
        · have q3 : decide ((j : Int) < (ni : Int)) = false := by simp; omega
          have q3' : decide (j < ni) = false := by simpa using hlt
          have htk : xs.take j = xs := List.take_of_length_le (by rw [HXS.out]; omega)
          have haf := HAF.out
          rw [htk] at haf
          have hone : ∀ k ∈ xs.map (kindI L), OneK k := by have h := HONE.out; rw [htk] at h; exact h
          have hag := allF_is _ _ rfl hone
          rw [haf] at hag
          have hmb : matchB (kindI L) a xs = true := by
            unfold matchB
            have h1 := match_all _ hone
            rw [haf, List.length_map] at h1
            rw [h1, Bool.true_and]
            exact List.all_eq_true.2 fun x hx => hag.2.1 _ (List.mem_map_of_mem hx)
          have hir : IRow6 wr Ai xs := fun j x hx => by
            obtain ⟨ad, e, hb, d0, d1, d2, d3, d4, d5⟩ := HII.out j x hx
            have h1 := HBJ.out
            exact ⟨ad, e, Nat.lt_of_lt_of_le hb h1.size, (h1.cell hb).trans d0, (h1.cell (p := { block := (ad.add (j * 6)).block, off := (ad.add (j * 6)).off + 1 }) hb).trans d1, (h1.cell (p := { block := (ad.add (j * 6)).block, off := (ad.add (j * 6)).off + 2 }) hb).trans d2, (h1.cell (p := { block := (ad.add (j * 6)).block, off := (ad.add (j * 6)).off + 3 }) hb).trans d3, (h1.cell (p := { block := (ad.add (j * 6)).block, off := (ad.add (j * 6)).off + 4 }) hb).trans d4, (h1.cell (p := { block := (ad.add (j * 6)).block, off := (ad.add (j * 6)).off + 5 }) hb).trans d5⟩
          have hm := match_any (kindI L) sb a hag.1 Ai ci ni xs HXS.out hni wr (HE.out.below HBJ.out) hir (fun x hx => gt_kindI HEN.out (HIO.out x hx)) (Lib.hid fun x hx w1 h1 => kindI_any sb A c L x (HIO.out x hx) HEN.out HLN.out w1 (HST.out w1 (bt HB.out h1)) (HK2.out.below (bt HBJ.out h1)))
          rw [hmb] at hm
          have HM := Lib.hid hm
          obtain ⟨⟨ai, an⟩, ao⟩ := a
          simp only at HM a0 a1 a2
          clear hm hmb hag hone haf htk hir HONE HAG HAF hB
          go_wp2_with fail
          refine HM.out.mono ?_
          rintro e w9 ⟨rfl, hb9⟩
          have B9 := bt HBJ.out hb9
          go_wp2
          go_ret
          exact ⟨rfl, B9⟩
end Go.Proofs.YtjpopmgnhgancaaDoor
