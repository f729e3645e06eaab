/-
  ClosureOrder's walk: it answers true. Conditions: what comes in reads as objects; the package-level variables as MEnv says.
-/
import Derived.Test.YtfcglnajdfpmhaaGreatDoorZClo3
import Derived.Test.YtfcglnajdfpmhaaGreatDoorZClo4
import Derived.Test.YtfcglnajdfpmhaaGreatDoorZSetM
import Derived.Deep.CutBlock
import Derived.Deep.CutRange
import Derived.Deep.DeepCutAuto
import Derived.Deep.RegionWith
import Derived.BigQuiet
namespace Go.Proofs.YtfcglnajdfpmhaaGreatDoor
open Go.RowKit Go.WideShapes

theorem blobs_words {m : Man} (hr : rightM m = true) : ∀ x ∈ blobsM m, x.size ≤ 71 := by
  intro x hx
  cases hi : m.index with
  | true => rw [blobsM_none (Or.inl hi)] at hx; cases hx
  | false =>
    have hs := (rightM_image hi).1 hr
    unfold blobsM at hx
    split at hx
    · cases hx
    · rw [onceL_mem] at hx
      rcases hx with hx | hx
      · rw [List.mem_singleton.1 hx, isD_size hs.1]; decide
      · obtain ⟨l, hl, rfl⟩ := List.mem_map.1 hx
        have := hs.2.2.1 l hl
        unfold okLayer at this
        rw [Bool.and_eq_true] at this
        rw [isD_size this.1]; decide
theorem man_words (l : List Obj) (d : ByteArray) : ∀ x ∈ blobsM (manO l d), x.size ≤ 71 := by
  rcases parseM_cases (findO l d).1 with ⟨m, h, hr, -⟩ | ⟨e, h, -⟩
  · rw [show manO l d = m from congrArg Prod.fst h]; exact blobs_words hr
  · rw [show manO l d = noMan from congrArg Prod.fst h, blobsM_none (Or.inr (by kernel_rfl))]
    intro x hx; cases hx
theorem kidsL_words {f : Wk → ByteArray → Except Int Wk} (hf : ∀ t k t', f t k = .ok t' → ∀ b ∈ t'.bs, b ∈ t.bs ∨ b.size ≤ 71) : ∀ (ks : List ByteArray) (t t' : Wk), kidsL f t ks = .ok t' → ∀ b ∈ t'.bs, b ∈ t.bs ∨ b.size ≤ 71
  | [], t, t', h => by rw [kidsL] at h; cases h; exact fun b hb => Or.inl hb
  | k :: ks, t, t', h => by
    rw [kidsL] at h
    cases hk : f t k with
    | error x => rw [hk] at h; cases h
    | ok t1 =>
      rw [hk] at h
      intro b hb
      rcases kidsL_words hf ks t1 t' h b hb with h1 | h1
      · exact hf t k t1 hk b h1
      · exact Or.inr h1
theorem walkL_words (l : List Obj) : ∀ (n : Nat) (t : Wk) (d : ByteArray) (t' : Wk), walkL l n t d = .ok t' → ∀ b ∈ t'.bs, b ∈ t.bs ∨ b.size ≤ 71
  | n, t, d, t', h => by
    rcases walkL_ok l n t t' d h with ⟨-, rfl⟩ | ⟨n, t1, rfl, -, -, hk, rfl⟩
    · exact fun b hb => Or.inl hb
    · intro b hb
      rw [onceL_mem] at hb
      rcases hb with hb | hb
      · exact kidsL_words (fun t k t' h => walkL_words l n t k t' h) _ t t1 hk b hb
      · exact Or.inr (man_words l d b hb)
theorem errO_known {l : List Obj} (hf : ObjsFew l) {d : ByteArray} (h : errO l d = 0) : d.size ≤ maxLen := by
  have h0 := errO_find h
  by_cases hn : ∀ o ∈ l, o.1 ≠ d
  · rw [findO_none' hn] at h0; cases h0
  · have ⟨o, ho⟩ := Classical.not_forall.1 hn
    have ⟨hm, he⟩ := Classical.not_forall.1 ho
    have he : o.1 = d := Classical.not_not.1 he
    rw [← he]
    exact Nat.le_trans (hf.size o hm).1 (by decide)
/-- What the law asks of a walk that ends well. -/
structure WalkFacts (l : List Obj) (t : Wk) : Prop where
  ord : Ordered l t
  words : ∀ b ∈ t.bs, b.size ≤ maxLen
  names : ∀ x ∈ t.ms, x.size ≤ maxLen
theorem WalkFacts.of {l : List Obj} (hf : ObjsFew l) {d : ByteArray} {t : Wk} (h : walkL l 4 noWk d = .ok t) : WalkFacts l t := by
  refine ⟨(walkL_whole h).1, fun b hb => ?_, fun x hx => ?_⟩
  · rcases walkL_words l 4 noWk d t h b hb with h1 | h1
    · cases h1
    · exact Nat.le_trans h1 (by decide)
  · obtain ⟨a, b, e⟩ := List.append_of_mem hx
    exact errO_known hf ((walkL_whole h).1.kids a x b e).1
theorem WalkFacts.at {l : List Obj} {t : Wk} (h : WalkFacts l t) (k : Nat) (hk : k < t.ms.length) : errO l t.ms[k] = 0 ∧ t.ms[k] ∉ t.ms.take k ∧ (∀ x ∈ (manO l t.ms[k]).kids, x ∈ t.ms.take k) ∧ ∀ b ∈ blobsM (manO l t.ms[k]), b ∈ t.bs := by
  have e : t.ms = t.ms.take k ++ t.ms[k] :: t.ms.drop (k + 1) := by rw [← List.drop_eq_getElem_cons hk, List.take_append_drop]
  have h1 := h.ord.kids _ _ _ e
  refine ⟨h1.1, fun hm => ?_, h1.2, h.ord.blobs _ (List.getElem_mem hk)⟩
  have hd := h.ord.nodup
  rw [← List.take_append_drop k t.ms, List.nodup_append] at hd
  exact hd.2.2 _ hm _ (by rw [List.drop_eq_getElem_cons hk]; exact List.mem_cons_self ..) rfl
theorem nodup_take {L : List ByteArray} (h : L.Nodup) (k : Nat) (hk : k < L.length) : L[k] ∉ L.take k := fun hm => by
  rw [← List.take_append_drop k L, List.nodup_append] at h
  exact h.2.2 _ hm _ (by rw [List.drop_eq_getElem_cons hk]; exact List.mem_cons_self ..) rfl

set_option maxRecDepth 100000 in
set_option maxHeartbeats 8000000 in
theorem corder_walk (la : List Obj) (d : ByteArray) (va : Value) (w : World) (he : MEnv w) (ha : ObjsAt w va la) :
    Calls Tryz.prog 9 #[va, .string d] w fun e w' => e = .returned (.bool true) ∧ Below w.heap.size w w' := by
  have CA := Lib.hid (few06_t va la w ha)
  obtain ⟨aa, ac, rfl, -, -⟩ := ha.shape
  have hlA := fewO_len la
  have hfA := fewO_few la
  obtain ⟨na, hna⟩ : ∃ n, la.length = n := ⟨_, rfl⟩
  rw [hna] at CA ⊢
  unfold FewEnds at CA
  obtain ⟨A, hA⟩ : ∃ x, fewO la = x := ⟨_, rfl⟩
  rw [hA] at hlA hfA CA
  have HFA := Lib.hid hfA
  have HE := Lib.hid he
  have AL := Lib.hid (fun w' (h : Below w.heap.size w w') => aliveC_t w' (he.below h))
  clear ha hna hA hfA he
  have hmm := @run_makeMap Tryz.prog
  go_enter Tryz.func9, Tryz.ntmps9
  go_wp2_with fail
  refine CA.out.mono ?_
  rintro e w2 ⟨v1, n, rfl, ho1, hb2⟩
  have hl1 := ho1.len
  obtain ⟨a1, c1, rfl, hn1, hc1⟩ := ho1.shape
  have HB2 := Lib.hid hb2
  have OF := Lib.hid (of_t _ A d w2 (HE.out.below hb2) ho1.objs HFA.out)
  unfold OfEnds at OF
  have HO2 := Lib.hid ho1
  clear ho1 hb2
  cases hw : walkL A 4 noWk d with
  | error x =>
    rw [ofL_bad hw] at OF
    have q : (x != 0) = true := bne_iff_ne.2 (walkL_err A 4 noWk d x hw)
    clear hw
    go_wp2_with fail
    refine OF.out.mono ?_
    rintro e w3 ⟨mv, bv, nm, nb, rfl, hom, hob, hb3⟩
    have hlm : nm = 0 := hom.len.symm
    have hlb : nb = 0 := hob.len.symm
    subst hlm hlb
    obtain ⟨ma, mc, rfl, -, -⟩ := hom.shape
    obtain ⟨ba, bc, rfl, -, -⟩ := hob.shape
    obtain ⟨W4, hW4⟩ : ∃ x, w3.alloc (.cells #[.slice ma 0 mc, .slice ba 0 bc] 47) = x := ⟨_, rfl⟩
    have hb4 : Below w3.heap.size w3 W4 := by rw [← hW4]; exact below_new _ _
    have hZ : At2 47 W4 w3.heap.size (.slice ma 0 mc) (.slice ba 0 bc) := by rw [← hW4]; exact At2.new _ _ _ _
    have HW4 := Lib.hid hW4
    have HZ := Lib.hid hZ
    have HB4 := Lib.hid (Below.then HB2.out (Below.then hb3 hb4))
    have A4 := Lib.hid (AL.out W4 HB4.out)
    clear hom hob hb3 hb4 hW4 hZ
    go_upto_region 3 with fail
    rw [HW4.out]
    go_wp2_with (go_at_call 29; refine A4.out.mono ?_; rintro e w5 ⟨rfl, hb5⟩; have HB5 := Lib.hid (Below.then HB4.out hb5); obtain ⟨z0, z1⟩ := (HZ.out.keep hb5).cells; clear hb5)
    go_ret
    exact ⟨rfl, HB5.out⟩
  | ok t =>
    rw [ofL_ok hw] at OF
    have HWF := Lib.hid (WalkFacts.of HFA.out hw)
    obtain ⟨pre, hpre⟩ := (walkL_whole hw).2
    have HTN := Lib.hid (walkL_len A 4 noWk d t hw)
    clear hw
    go_wp2_with fail
    refine OF.out.mono ?_
    rintro e w3 ⟨mv, bv, nm, nb, rfl, hom, hob, hb3⟩
    have hlm := hom.len
    have hlb := hob.len
    obtain ⟨ma, mc, rfl, -, -⟩ := hom.shape
    obtain ⟨ba, bc, rfl, -, -⟩ := hob.shape
    obtain ⟨W4, hW4⟩ : ∃ x, w3.alloc (.cells #[.slice ma nm mc, .slice ba nb bc] 47) = x := ⟨_, rfl⟩
    have hb4 : Below w3.heap.size w3 W4 := by rw [← hW4]; exact below_new _ _
    have hZ : At2 47 W4 w3.heap.size (.slice ma nm mc) (.slice ba nb bc) := by rw [← hW4]; exact At2.new _ _ _ _
    have HW4 := Lib.hid hW4
    have HB4 := Lib.hid (Below.then HB2.out (Below.then hb3 hb4))
    have HO4 := Lib.hid (HO2.out.keep (Below.then hb3 hb4))
    have HM4 := Lib.hid (hom.keep hb4)
    have HS4 := Lib.hid (hob.keep hb4)
    have HZ := Lib.hid hZ
    have A4 := Lib.hid (AL.out W4 HB4.out)
    have hbnd := HTN.out
    rw [hlm, hlb, show capW 4 = 4369 from rfl, show noWk.ms.length = 0 from rfl, show noWk.bs.length = 0 from rfl] at hbnd
    have hnm : nm ≤ 4369 ∧ nb ≤ 39321 := by omega
    obtain ⟨m, rfl⟩ : ∃ m, nm = m + 1 := ⟨nm - 1, by have := congrArg List.length hpre; simp at this; omega⟩
    obtain ⟨lb, lo, rfl, e0⟩ := HM4.out.strs.at m (by rw [hlm]; exact Nat.lt_succ_self m)
    have hlast : t.ms[m]'(by rw [hlm]; exact Nat.lt_succ_self m) = d := by
      have h2 : pre.length = m := by have := congrArg List.length hpre; simp at this; omega
      simp only [hpre]
      rw [List.getElem_append_right (by omega)]
      simp
    rw [hlast] at e0
    have q1 : ((m : Int) + 1 == 0) = false := beq_eq_false_iff_ne.2 (by omega)
    have q2 : (d.toList != d.toList) = false := by rw [bne_self_eq_false]
    have q3 : (d.toList == d.toList) = true := by simp
    have q4 : IntKind.i64.wrap (((m + 1 : Nat) : Int) - 1) = (m : Int) := by rw [IntKind.wrap_i64]; omega
    have HLM := Lib.hid hlm
    have HLB := Lib.hid hlb
    obtain ⟨z0, z1⟩ := hZ.cells
    clear hom hob hb3 hb4 hW4 hZ hlm hlb hpre hlast hbnd
    go_upto_region 3 with fail
    rw [HW4.out]
    go_upto_region 8 with (go_at_call 29; refine A4.out.mono ?_; rintro e w5 ⟨rfl, hb5⟩; have HB5 := Lib.hid hb5; clear hb5)
    obtain ⟨B1, hB1⟩ : ∃ x, w5.heap.size = x := ⟨_, rfl⟩
    obtain ⟨Wm, hWm⟩ : ∃ x, (w5.alloc (.map #[] 0)).alloc (.map #[] 0) = x := ⟨_, rfl⟩
    have hbm : Below w5.heap.size w5 Wm := by rw [← hWm]; exact Below.then (below_new _ _) (below_new _ _)
    have HM1 := Lib.hid (show SetAt Wm B1 0 [] by rw [← hWm, ← hB1]; exact (SetAt.made w5).below (below_new _ _))
    have HM2 := Lib.hid (show SetAt Wm (B1 + 1) 0 [] by rw [← hWm, ← hB1]; have e := SetAt.made (w5.alloc (.map #[] 0)); rwa [World.size_alloc] at e)
    have HBW := Lib.hid (Below.then HB5.out hbm)
    have HB5s := Lib.hid (show w5.heap.size ≤ B1 from Nat.le_of_eq hB1)
    have HWm := Lib.hid hWm
    have HBm := Lib.hid hbm
    have HZm := Lib.hid (HZ.out.keep HBW.out)
    have HMm := Lib.hid (HM4.out.keep HBW.out)
    have HSm := Lib.hid (HS4.out.keep HBW.out)
    have HOm := Lib.hid (HO4.out.keep HBW.out)
    have HBall := Lib.hid (Below.then HB4.out HBW.out)
    obtain ⟨zm0, zm1⟩ := HZm.out.cells
    obtain ⟨hnm1, hnb1⟩ := hnm
    clear hWm hbm z0 z1 e0
    go_upto_region 9 with fail
    try rw [hB1]
    rw [HWm.out]
    go_wp2_with fail
    go_loopw [67] (fun iv wr => ∃ k : Nat, k ≤ nb ∧ iv = .int .i64 k ∧ SetAt wr (B1 + 1) k (t.bs.take k) ∧ SetAt wr B1 0 [] ∧ Below w5.heap.size w5 wr) (fun i _ => nb - (intOf i).toNat)
    case atStart => exact ⟨0, Nat.zero_le _, rfl, HM2.out, HM1.out, HBm.out⟩
    case round =>
      obtain ⟨k, hk, rfl, hS2, hS1, hb⟩ := hrel
      have HBR := Lib.hid hb
      have HZr := Lib.hid ((HZ.out.keep HB5.out).keep hb)
      by_cases hlt : k < nb
      · have h1 : k < t.bs.length := by rw [HLB.out]; exact hlt
        obtain ⟨bb, bo, rfl, v0⟩ := ((HS4.out.keep HB5.out).keep hb).strs.at k h1
        have hxz := HWF.out.words _ (List.getElem_mem h1)
        have hnot := nodup_take HWF.out.ord.bnodup k h1
        have HTK := Lib.hid (show t.bs.take (k + 1) = t.bs.take k ++ [t.bs[k]] from List.take_succ_eq_append_getElem h1)
        obtain ⟨x, hx⟩ : ∃ x, t.bs[k] = x := ⟨_, rfl⟩
        rw [hx] at v0 hxz hnot HTK
        have hlk := hS2.look x hxz
        rw [decide_eq_false hnot] at hlk
        obtain ⟨w', hup, hS3, hgr⟩ := hS2.add x hxz (by unfold maxLen; omega)
        have HS3 := Lib.hid (show SetAt w' (B1 + 1) (k + 1) (t.bs.take (k + 1)) by rw [HTK.out]; exact hS3)
        have HS1 := Lib.hid (hS1.keep (hgr.block B1 hS1.lt (by simp)))
        have HB2' := Lib.hid (show Below w5.heap.size w5 w' from hb.trans (below_set hgr (by have := HB5s.out; omega) hS2.lt))
        clear hS1 hS2 hS3 hgr hb hx hnot hxz zm0 zm1
        go_wp2_with fail
        go_roundw
        case rel => exact ⟨k + 1, by omega, by go_num, HS3.out, HS1.out, HB2'.out⟩
        case measure => simp [intOf]; omega
      · have HS2 := Lib.hid (show SetAt wr (B1 + 1) k t.bs by
          rw [List.take_of_length_le (by rw [HLB.out]; omega)] at hS2
          exact hS2)
        have HS1 := Lib.hid hS1
        obtain ⟨z0, z1⟩ := HZr.out.cells
        clear hS1 hS2 hb zm0 zm1
        go_wp2_with fail
        obtain ⟨kb, hkb⟩ : ∃ kb, k = kb := ⟨_, rfl⟩
        rw [hkb] at HS2
        clear hkb z0 z1
        go_loopw [80] (fun iv wr => ∃ k : Nat, k ≤ m + 1 ∧ iv = .int .i64 k ∧ SetAt wr B1 k (t.ms.take k) ∧ SetAt wr (B1 + 1) kb t.bs ∧ Below w5.heap.size w5 wr) (fun i _ => m + 1 - (intOf i).toNat)
        case atStart => exact ⟨0, Nat.zero_le _, rfl, HS1.out, HS2.out, HBR.out⟩
        case round =>
          obtain ⟨k, hk, rfl, hS1, hS2, hb⟩ := hrel
          have HBq := Lib.hid hb
          by_cases hlt : k < m + 1
          · have h1 : k < t.ms.length := by rw [HLM.out]; exact hlt
            obtain ⟨mb, mo, e, v0⟩ := ((HM4.out.keep HB5.out).keep hb).strs.at k h1
            simp only [Option.some.injEq, Addr.mk.injEq, and_true] at e
            obtain ⟨rfl, rfl⟩ := e
            obtain ⟨he0, hnot, hkids, hblob⟩ := HWF.out.at k h1
            have hxz := HWF.out.names _ (List.getElem_mem h1)
            have HTK := Lib.hid (show t.ms.take (k + 1) = t.ms.take k ++ [t.ms[k]] from List.take_succ_eq_append_getElem h1)
            have HNM := Lib.hid (show ∀ x ∈ t.ms.take k, x.size ≤ maxLen from fun x hx => HWF.out.names x (List.mem_of_mem_take hx))
            obtain ⟨x, hx⟩ : ∃ x, t.ms[k] = x := ⟨_, rfl⟩
            rw [hx] at v0 hxz hnot HTK he0 hkids hblob
            have F := Lib.hid (find_t _ A x wr (HE.out.lo.below (Below.then (Below.then HB4.out HB5.out) hb)) ((HO4.out.keep HB5.out).keep hb).objs HFA.out)
            have P := Lib.hid (fun w' (h : Below wr.heap.size wr w') => ParseM_t (findO A x).1 w' (Nat.le_trans (findO_size A x 1048576 fun o ho => (HFA.out.size o ho).2) (by decide)) (HE.out.below (Below.then (Below.then (Below.then HB4.out HB5.out) hb) h)))
            have hf0 := errO_find he0
            have hp0 : (parseM (findO A x).1).2 = 0 := by rw [← findO_yes hf0]; exact he0
            change ∀ y ∈ (parseM (findO A x).1).1.kids, y ∈ t.ms.take k at hkids
            change ∀ y ∈ blobsM (parseM (findO A x).1).1, y ∈ t.bs at hblob
            have hfw := parseM_few (findO A x).1
            unfold ParseMEnds at P
            rw [hf0] at F
            rw [hp0] at P
            obtain ⟨s, hs⟩ : ∃ s, (findO A x).1 = s := ⟨_, rfl⟩
            rw [hs] at F P hkids hblob hfw
            obtain ⟨M, hM⟩ : ∃ M, (parseM s).1 = M := ⟨_, rfl⟩
            rw [hM] at P hkids hblob hfw
            have HKD := Lib.hid hkids
            have HBL := Lib.hid hblob
            have HFW := Lib.hid hfw
            have HSA := Lib.hid hS1
            have HSB := Lib.hid hS2
            have HNOT := Lib.hid hnot
            have HXZ := Lib.hid hxz
            clear hkids hblob hfw hS1 hS2 hb hx hnot hxz hf0 hp0 he0 hs hM
            go_wp2_with fail
            refine F.out.mono ?_
            rintro e wa ⟨rfl, hba⟩
            have HBA := Lib.hid hba
            clear hba
            go_wp2_with fail
            refine (P.out wa HBA.out).mono ?_
            rintro e wb ⟨r, rfl, hm⟩
            obtain ⟨mi, c, la, nl, lc, ka, nk, kc, rfl, -, -, -, hkn⟩ := hm.man.shape
            obtain ⟨wc, hwc⟩ : ∃ x, wb.alloc (.cells #[.bool mi, .string c, .slice la nl lc, .slice ka nk kc] 25) = x := ⟨_, rfl⟩
            have hbc : Below wb.heap.size wb wc := by rw [← hwc]; exact below_new _ _
            have hA4 : At4 wc wb.heap.size (.bool mi) (.string c) (.slice la nl lc) (.slice ka nk kc) := by rw [← hwc]; exact At4.new _ _ _ _ _
            obtain ⟨y0, y1, y2, y3⟩ := hA4.cells
            have HBC := Lib.hid (Below.then HBA.out (Below.then hm.below hbc))
            have HMC := Lib.hid (hm.man.keep hbc)
            have HAC := Lib.hid hA4
            have HKN := Lib.hid hkn
            have HWC := Lib.hid hwc
            have hlk := (HSA.out.below HBC.out).look x HXZ.out
            rw [decide_eq_false HNOT.out] at hlk
            have hnk : nk ≤ 1048576 := by rw [← hkn]; exact HFW.out.kids
            obtain ⟨⟨lv, kv, hev, -, hks⟩, -⟩ := HMC.out
            simp only [Value.agg.injEq, Array.mk.injEq, List.cons.injEq, and_true] at hev
            obtain ⟨-, -, -, rfl⟩ := hev
            have HKS := Lib.hid hks
            clear hm hbc hA4 hwc hks hkn
            go_upto_region 21 with fail
            rw [HWC.out]
            go_wp2_with fail
            go_loopw [109] (fun iv wr => ∃ j : Nat, j ≤ nk ∧ iv = .int .i64 j ∧ Below wc.heap.size wc wr) (fun i _ => nk - (intOf i).toNat)
            case atStart => exact ⟨0, Nat.zero_le _, rfl, Below.refl _ _⟩
            case round =>
              obtain ⟨j, hj, rfl, hb⟩ := hrel
              have HBJ := Lib.hid hb
              clear y0 y1 y2 y3 hlk
              by_cases hjl : j < nk
              · have h2 : j < M.kids.length := by rw [HKN.out]; exact hjl
                obtain ⟨kb2, ko, rfl, v1⟩ := (HKS.out.keep hb).at j h2
                have hmem := HKD.out _ (List.getElem_mem h2)
                obtain ⟨y, hy⟩ : ∃ y, M.kids[j] = y := ⟨_, rfl⟩
                rw [hy] at v1 hmem
                have hlk := ((HSA.out.below HBC.out).below hb).look y (HNM.out y hmem)
                rw [decide_eq_true hmem] at hlk
                clear hb hy hmem
                go_wp2_with fail
                go_roundw
                case rel => exact ⟨j + 1, by omega, by go_num, HBJ.out⟩
                case measure => simp [intOf]; omega
              · obtain ⟨wd, rfl⟩ : ∃ wd : World, wd = wr := ⟨_, rfl⟩
                obtain ⟨y0, y1, y2, y3⟩ := (HAC.out.keep hb).cells
                have HBD := Lib.hid (Below.then HBC.out hb)
                have HBd := Lib.hid (show Below w.heap.size w wd from Below.then (Below.then (Below.then HB4.out HB5.out) HBq.out) HBD.out)
                have G := Lib.hid (Blobs_t M _ wd (HMC.out.keep hb) HFW.out (HE.out.lo.below HBd.out))
                clear hb
                go_wp2_with fail
                refine G.out.mono ?_
                rintro e we ⟨rv, rn, rfl, hrv, hbe⟩
                have hrl := hrv.len
                obtain ⟨ra, rc, rfl, hrc1, hrc2⟩ := hrv.shape
                unfold maxLen at hrc2
                have HRV := Lib.hid hrv
                have HRL := Lib.hid hrl
                have HBE := Lib.hid (Below.then HBD.out hbe)
                clear hrv hbe hrl y0 y1 y2 y3
                go_wp2_with fail
                go_loopw [121] (fun iv wr => ∃ j : Nat, j ≤ rn ∧ iv = .int .i64 j ∧ Below we.heap.size we wr) (fun i _ => rn - (intOf i).toNat)
                case atStart => exact ⟨0, Nat.zero_le _, rfl, Below.refl _ _⟩
                case round =>
                  obtain ⟨j2, hj2, rfl, hb⟩ := hrel
                  have HBJ2 := Lib.hid hb
                  by_cases hjl2 : j2 < rn
                  · have h2 : j2 < (blobsM M).length := by rw [HRL.out]; exact hjl2
                    obtain ⟨kb3, ko3, rfl, v1⟩ := (HRV.out.keep hb).strs.at j2 h2
                    have hmem := HBL.out _ (List.getElem_mem h2)
                    obtain ⟨y, hy⟩ : ∃ y, (blobsM M)[j2] = y := ⟨_, rfl⟩
                    rw [hy] at v1 hmem
                    have hlk := ((HSB.out.below HBE.out).below hb).look y (HWF.out.words y hmem)
                    rw [decide_eq_true hmem] at hlk
                    clear hb hy hmem
                    go_wp2_with fail
                    go_roundw
                    case rel => exact ⟨j2 + 1, by omega, by go_num, HBJ2.out⟩
                    case measure => simp [intOf]; omega
                  · have HBF := Lib.hid (Below.then HBE.out hb)
                    have hS := HSA.out.below HBF.out
                    obtain ⟨w', hup, hS3, hgr⟩ := hS.add x HXZ.out (by unfold maxLen; omega)
                    have HS3 := Lib.hid (show SetAt w' B1 (k + 1) (t.ms.take (k + 1)) by rw [HTK.out]; exact hS3)
                    have hSb := HSB.out.below HBF.out
                    have HS4' := Lib.hid (hSb.keep (hgr.block (B1 + 1) hSb.lt (by simp)))
                    have HBN := Lib.hid (show Below w5.heap.size w5 w' from (Below.then HBq.out HBF.out).trans (below_set hgr HB5s.out hS.lt))
                    clear hS hS3 hSb hgr hb
                    go_wp2_with fail
                    go_roundw
                    case rel => exact ⟨k + 1, by omega, by go_num, HS3.out, HS4'.out, HBN.out⟩
                    case measure => simp [intOf]; omega
          · clear hb hS1 hS2
            go_wp2_with fail
            go_ret
            exact ⟨rfl, Below.then (Below.then HB4.out HB5.out) HBq.out⟩
end Go.Proofs.YtfcglnajdfpmhaaGreatDoor
