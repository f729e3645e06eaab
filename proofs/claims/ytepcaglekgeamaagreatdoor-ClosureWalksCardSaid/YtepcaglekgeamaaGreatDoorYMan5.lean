/-
  The program's Parse of manifests, by a contract. Conditions: the package-level variables as MEnv says; texts of at most 2^30 bytes.
-/
import Derived.Test.YtepcaglekgeamaaGreatDoorYMan4
namespace Go.Proofs.YtepcaglekgeamaaGreatDoor
open Go.RowKit

theorem mayV_items {d : Nat} {T : Val} (h : mayV d T = true) : T.items.length ≤ 16 ∧ T.word.size ≤ 200 ∧ ∀ X ∈ T.items, ∃ e, mayV e X = true := by
  cases d with
  | zero => rw [mayV] at h; cases h
  | succ d =>
    obtain ⟨k, n, s, l, ns⟩ := T
    rw [mayV, Bool.and_eq_true, oneV_iff] at h
    exact ⟨h.1.few, wordB_size _ h.1.isWord, fun X hX => ⟨d, List.all_eq_true.1 h.2 X hX⟩⟩

theorem getV_mem {T X : Val} {name : ByteArray} {kind : Int} (h : getV T name kind = some X) : X ∈ T.items := by
  unfold getV at h
  split at h
  · cases hf : firstIdx T.names name with
    | none => rw [hf] at h; cases h
    | some i =>
      rw [hf] at h
      simp only at h
      cases hx : T.items[i]? with
      | none => rw [hx] at h; cases h
      | some Y =>
        rw [hx] at h
        simp only at h
        split at h
        · obtain rfl := Option.some.inj h
          exact List.mem_of_getElem? hx
        · cases h
  · cases h

theorem member_may {d : Nat} {T : Val} (h : mayV d T = true) (name : ByteArray) (kind : Int) : (memberV T name kind).items.length ≤ 16 ∧ (memberV T name kind).word.size ≤ 200 ∧ ∀ X ∈ (memberV T name kind).items, ∃ e, mayV e X = true := by
  unfold memberV
  cases hg : getV T name kind with
  | none => exact ⟨Nat.zero_le _, Nat.zero_le _, fun X hX => by cases hX⟩
  | some X =>
    obtain ⟨e, he⟩ := (mayV_items h).2.2 X (getV_mem hg)
    exact mayV_items he

theorem readM_few {T : Val} (h : mayV 6 T = true) : (readM T).Few := by
  have hw : ∀ name, (wordOfV T name).size ≤ 200 := fun name => (member_may h name 2).2.1
  unfold readM
  split
  · obtain ⟨h1, -, h3⟩ := member_may h nKids 3
    refine ⟨⟨(show (0 : Nat) < 1099511627776 by decide), by simp, fun k hk => ?_⟩, Nat.zero_le _, by show ((rowOfV T nKids).map Val.word).length ≤ _; rw [List.length_map]; exact Nat.le_trans h1 (by decide)⟩
    obtain ⟨X, hX, rfl⟩ := List.mem_map.1 hk
    obtain ⟨e, he⟩ := h3 X hX
    exact Nat.lt_of_le_of_lt (mayV_items he).2.1 (by decide)
  · obtain ⟨h1, -, h3⟩ := member_may h nLayers 3
    refine ⟨⟨Nat.lt_of_le_of_lt (hw nConfig) (by decide), fun l hl => ?_, by simp⟩, by show ((rowOfV T nLayers).map layerOfV).length ≤ _; rw [List.length_map]; exact Nat.le_trans h1 (by decide), Nat.zero_le _⟩
    obtain ⟨X, hX, rfl⟩ := List.mem_map.1 hl
    obtain ⟨e, he⟩ := h3 X hX
    exact Nat.lt_of_le_of_lt (member_may he nDigest 2).2.1 (by decide)

theorem noMan_at (w : World) : ManAt w (.agg #[.bool false, .string ⟨#[]⟩, .slice none 0 0, .slice none 0 0]) noMan :=
  ⟨⟨_, _, rfl, Or.inl ⟨rfl, Or.inl rfl⟩, Or.inl ⟨rfl, Or.inl rfl⟩⟩, (show (0 : Nat) ≤ maxLen by decide), (fun l h => absurd h (by simp [noMan])), (fun k h => absurd h (by simp [noMan]))⟩

def ParseMEnds (s : ByteArray) (w : World) (e : Ending) (w' : World) : Prop :=
  ∃ r, e = .returned (.tuple #[r, .int .i64 (parseM s).2]) ∧ ManMade w (parseM s).1 r w'

theorem ParseMEnds.none {s : ByteArray} {w w' : World} {k : Int} (h : parseM s = (noMan, k)) (hb : Below w.heap.size w w') : ParseMEnds s w (.returned (.tuple #[.agg #[.bool false, .string ⟨#[]⟩, .slice none 0 0, .slice none 0 0], .int .i64 k])) w' := by
  refine ⟨_, by rw [h], hb, fun w'' _ => ?_⟩
  rw [h]
  exact noMan_at w''

set_option maxRecDepth 100000 in
set_option maxHeartbeats 8000000 in
theorem ParseM_t (s : ByteArray) (w : World) (hs : s.size ≤ 1073741824) (he : MEnv w) :
    Calls Tryz.prog 48 #[.string s] w (ParseMEnds s w) := by
  obtain ⟨W, hW⟩ : ∃ W, w.alloc (.cells #[.bool false, .string ⟨#[]⟩, .slice none 0 0, .slice none 0 0] 53) = W := ⟨_, rfl⟩
  have hb0 : Below w.heap.size w W := by rw [← hW]; exact below_new _ _
  have hZ : At4 W w.heap.size (.bool false) (.string ⟨#[]⟩) (.slice none 0 0) (.slice none 0 0) := by rw [← hW]; exact At4.new _ _ _ _ _
  have P := Lib.hid (Parse_t s W (he.below hb0).t (by unfold maxLen; omega))
  have HE := Lib.hid he
  have HZ := Lib.hid hZ
  have HB0 := Lib.hid hb0
  have HW := Lib.hid hW
  have HSZ := Lib.hid (show W.heap.size = w.heap.size + 1 by rw [← hW]; simp)
  clear hb0 hZ hW he
  go_enter Tryz.func48, Tryz.ntmps48
  go_upto_region 1 with fail
  rw [HW.out]
  go_wp2_with fail
  refine P.out.mono ?_
  intro e w1 hx
  have HB1 := Lib.hid (Below.then HB0.out hx.below)
  have hi := hx.is
  have hb1 := hx.below
  clear hx
  -- an error, told on
  have hbad : ∀ k : Int, (k == 0) = false → parseM s = (noMan, k) → e = .returned (.tuple #[noVal, .int .i64 k]) → (∃ T v, parseV s = some T ∧ e = .returned (.tuple #[v, .int .i64 0])) ∨ ∃ k : Int, (k == 0) = false ∧ parseM s = (noMan, k) ∧ e = .returned (.tuple #[noVal, .int .i64 k]) := fun k h1 h2 h3 => Or.inr ⟨k, h1, h2, h3⟩
  have hways : (∃ T v, s.size ≤ 4096 ∧ parseV s = some T ∧ e = .returned (.tuple #[v, .int .i64 0]) ∧ IsVal w1 v T) ∨ ∃ k : Int, (k == 0) = false ∧ parseM s = (noMan, k) ∧ e = .returned (.tuple #[noVal, .int .i64 k]) := by
    by_cases hl : 4096 < s.size
    · rw [if_pos hl] at hi
      exact Or.inr ⟨2, rfl, by unfold parseM; rw [if_pos hl], hi⟩
    · rw [if_neg hl] at hi
      cases hp : parseV s with
      | none => rw [hp] at hi; exact Or.inr ⟨6, rfl, by unfold parseM; rw [if_neg hl, hp], hi⟩
      | some T => rw [hp] at hi; obtain ⟨v, h1, h2⟩ := hi; exact Or.inl ⟨T, v, by omega, rfl, h1, h2⟩
  clear hi hbad
  rcases hways with ⟨T, v, hsz, hpv, rfl, hv⟩ | ⟨k, hk, hpm, rfl⟩
  rotate_left
  · unfold noVal
    have hbb : Below w1.heap.size w1 (w1.alloc (.cells #[.int .i64 0, .int .i64 0, .string ⟨#[]⟩, .slice none 0 0, .slice none 0 0] 71)) := below_new _ _
    have hZ2 := HZ.out.keep (Below.then hb1 hbb)
    have HZ2 := Lib.hid hZ2
    have HB2 := Lib.hid (Below.then HB1.out hbb)
    have HPM := Lib.hid hpm
    obtain ⟨z0, z1, z2, z3⟩ := hZ2.cells
    have f0 := hZ2.frozen 0
    have f1 := hZ2.frozen 1
    have f2 := hZ2.frozen 2
    have f3 := hZ2.frozen 3
    have q : (k != 0) = true := by rw [bne, hk]; rfl
    clear hbb hZ2 hpm hb1 hk
    go_wp2_with fail
    refine bodyPost_ret (results_two (p := 2) (u := 3) rfl _ _ w.heap.size 53 _ (0, 0) _ rfl (set4_four HZ2.out _ _ _ _) Tryz.underlying53 rfl manSize) rfl ?_
    exact ParseMEnds.none HPM.out (below_four HB2.out (Nat.le_refl _) _ _ _ _)
  · obtain ⟨hm6, -⟩ := (parseV_iff s T).1 hpv
    obtain ⟨vk, vn, vs, via, vna, vli, vic, vnn, vnc, rfl⟩ := hv.shape
    obtain ⟨W2, hW2⟩ : ∃ W2, w1.alloc (.cells #[.int .i64 vk, .int .i64 vn, .string vs, .slice via vli vic, .slice vna vnn vnc] 71) = W2 := ⟨_, rfl⟩
    have hb2 : Below w1.heap.size w1 W2 := by rw [← hW2]; exact below_new _ _
    have hA2 : At5 W2 w1.heap.size (.int .i64 vk) (.int .i64 vn) (.string vs) (.slice via vli vic) (.slice vna vnn vnc) := by rw [← hW2]; exact At5.new _ _ _ _ _ _
    obtain ⟨h1, -, h3⟩ := member_may hm6 nKids 3
    obtain ⟨h1', -, -⟩ := member_may hm6 nLayers 3
    have RD := Lib.hid (read_c T _ W2 (hv.keep hb2) (Nat.le_trans h1 (by decide)) (Nat.le_trans h1' (by decide)) fun X hX => by
      obtain ⟨e, he⟩ := h3 X hX
      exact Nat.le_trans (mayV_items he).2.1 (by decide))
    have HBW2 := Lib.hid (Below.then hb1 hb2)
    have HB2 := Lib.hid (Below.then HB1.out hb2)
    have HV2 := Lib.hid (hv.keep hb2)
    have HA2 := Lib.hid hA2
    have HW2 := Lib.hid hW2
    have HFEW := Lib.hid (readM_few hm6)
    have HPM := Lib.hid (show parseM s = if rightM (readM T) = true ∧ likeV T (valM (readM T)) = true then (readM T, 0) else (noMan, 8) by unfold parseM; rw [if_neg (by omega), hpv])
    obtain ⟨a0, a1, a2, a3, a4⟩ := hA2.cells
    clear hb1 hb2 hA2 hW2 hv hpv h1 h1' h3 hm6
    go_upto_region 2 with fail
    rw [HW2.out]
    go_wp2_with fail
    refine RD.out.mono ?_
    rintro e w3 ⟨m, rfl, hm⟩
    obtain ⟨i, c, la, nl, lc, ka, nk, kc, rfl, -, -, -, -⟩ := hm.man.shape
    obtain ⟨V, hV⟩ : ∃ V, w3.alloc (.cells #[.bool i, .string c, .slice la nl lc, .slice ka nk kc] 53) = V := ⟨_, rfl⟩
    have hbV : Below w3.heap.size w3 V := by rw [← hV]; exact below_new _ _
    have hT : At4 V w3.heap.size (.bool i) (.string c) (.slice la nl lc) (.slice ka nk kc) := by rw [← hV]; exact At4.new _ _ _ _ _
    have hbb := Below.then hm.below hbV
    have HBV := Lib.hid (Below.then HB2.out hbb)
    have HMV := Lib.hid (hm.man.keep hbV)
    have HZV := Lib.hid (HZ.out.keep (Below.then HBW2.out hbb))
    have HVV := Lib.hid (HV2.out.keep hbb)
    have HAV := Lib.hid (HA2.out.keep hbb)
    have HTV := Lib.hid hT
    have HFAR := Lib.hid (show ∀ w'', (∀ b, W.heap.size ≤ b → b < V.heap.size → w''.heap[b]? = V.heap[b]?) → ManAt w'' (.agg #[.bool i, .string c, .slice la nl lc, .slice ka nk kc]) (readM T) from fun w'' h => hm.far w'' fun b h1 h2 => (h b (by have := HBW2.out.size; omega) (Nat.lt_of_lt_of_le h2 hbV.size)).trans (hbV.block b h2))
    obtain ⟨RM, hRM⟩ : ∃ RM, readM T = RM := ⟨_, rfl⟩
    rw [hRM] at HMV HFEW HPM HFAR
    have R := Lib.hid (fun w' (h : Below V.heap.size V w') => Right_t RM _ w' (HMV.out.keep h) HFEW.out.small (HE.out.below (Below.then HBV.out h)).lo)
    have HV := Lib.hid hV
    clear hV hbV hT hbb hm hRM a0 a1 a2 a3 a4
    obtain ⟨rt, hrt⟩ : ∃ rt, rightM RM = rt := ⟨_, rfl⟩
    rw [hrt] at R HPM
    have HK4 := Lib.hid (show ∀ w', Below V.heap.size V w' → (w'.cell? ⟨w3.heap.size, 0, none⟩ = some (.bool i) ∧ w'.cell? ⟨w3.heap.size, 1, none⟩ = some (.string c) ∧ w'.cell? ⟨w3.heap.size, 2, none⟩ = some (.slice la nl lc) ∧ w'.cell? ⟨w3.heap.size, 3, none⟩ = some (.slice ka nk kc)) from fun w' h => (HTV.out.keep h).cells)
    have HK5 := Lib.hid (show ∀ w', Below V.heap.size V w' → (w'.cell? ⟨w1.heap.size, 0, none⟩ = some (.int .i64 vk) ∧ w'.cell? ⟨w1.heap.size, 1, none⟩ = some (.int .i64 vn) ∧ w'.cell? ⟨w1.heap.size, 2, none⟩ = some (.string vs) ∧ w'.cell? ⟨w1.heap.size, 3, none⟩ = some (.slice via vli vic) ∧ w'.cell? ⟨w1.heap.size, 4, none⟩ = some (.slice vna vnn vnc)) from fun w' h => (HAV.out.keep h).cells)
    have CR := Lib.hid (show ∀ w', Below V.heap.size V w' → Calls Tryz.prog 41 #[.agg #[.bool i, .string c, .slice la nl lc, .slice ka nk kc]] w' fun e w4 => e = .returned (.bool rt) ∧ Below V.heap.size V w4 ∧ (w4.cell? ⟨w3.heap.size, 0, none⟩ = some (.bool i) ∧ w4.cell? ⟨w3.heap.size, 1, none⟩ = some (.string c) ∧ w4.cell? ⟨w3.heap.size, 2, none⟩ = some (.slice la nl lc) ∧ w4.cell? ⟨w3.heap.size, 3, none⟩ = some (.slice ka nk kc)) ∧ (w4.cell? ⟨w1.heap.size, 0, none⟩ = some (.int .i64 vk) ∧ w4.cell? ⟨w1.heap.size, 1, none⟩ = some (.int .i64 vn) ∧ w4.cell? ⟨w1.heap.size, 2, none⟩ = some (.string vs) ∧ w4.cell? ⟨w1.heap.size, 3, none⟩ = some (.slice via vli vic) ∧ w4.cell? ⟨w1.heap.size, 4, none⟩ = some (.slice vna vnn vnc)) from
      fun w' h => (R.out w' h).mono fun e w4 h4 => ⟨h4.1, Below.then h h4.2, HK4.out w4 (Below.then h h4.2), HK5.out w4 (Below.then h h4.2)⟩)
    have CW := Lib.hid (show ∀ w', Below V.heap.size V w' → Calls Tryz.prog 43 #[.agg #[.bool i, .string c, .slice la nl lc, .slice ka nk kc]] w' fun e w4 => ∃ v, e = .returned v ∧ Below V.heap.size V w4 ∧ IsVal w4 v (valM RM) ∧ (w4.cell? ⟨w1.heap.size, 0, none⟩ = some (.int .i64 vk) ∧ w4.cell? ⟨w1.heap.size, 1, none⟩ = some (.int .i64 vn) ∧ w4.cell? ⟨w1.heap.size, 2, none⟩ = some (.string vs) ∧ w4.cell? ⟨w1.heap.size, 3, none⟩ = some (.slice via vli vic) ∧ w4.cell? ⟨w1.heap.size, 4, none⟩ = some (.slice vna vnn vnc)) from
      fun w' h => (write_c RM _ w' (HMV.out.keep h) HFEW.out.layers HFEW.out.kids).mono fun e w4 ⟨v, h1, h2⟩ => ⟨v, h1, Below.then h h2.below, h2.is.isVal, HK5.out w4 (Below.then h h2.below)⟩)
    have CL := Lib.hid (show ∀ w' v, Below V.heap.size V w' → IsVal w' v (valM RM) → Calls Tryz.prog 78 #[.agg #[.int .i64 vk, .int .i64 vn, .string vs, .slice via vli vic, .slice vna vnn vnc], v] w' fun e w4 => e = .returned (.bool (likeV T (valM RM))) ∧ Below V.heap.size V w4 from
      fun w' v h hv => (likeP_any T (valM RM) _ _ w' (HVV.out.keep h) hv).mono fun e w4 h4 => ⟨h4.1, Below.then h h4.2⟩)
    obtain ⟨lk, hlk⟩ : ∃ lk, likeV T (valM RM) = lk := ⟨_, rfl⟩
    rw [hlk] at CL HPM
    obtain ⟨p0, p1, p2, p3⟩ := HK4.out V (Below.refl _ _)
    obtain ⟨v0, v1, v2, v3, v4⟩ := HK5.out V (Below.refl _ _)
    have hbr := Below.refl V.heap.size V
    clear hrt hlk R
    go_upto_region 5 with fail
    rw [HV.out]
    -- the ends
    have HNO := Lib.hid (show (rt = false ∨ lk = false) → ∀ w', Below V.heap.size V w' → (At4 w' w.heap.size (.bool false) (.string ⟨#[]⟩) (.slice none 0 0) (.slice none 0 0)) ∧ ParseMEnds s w (.returned (.tuple #[.agg #[.bool false, .string ⟨#[]⟩, .slice none 0 0, .slice none 0 0], .int .i64 8])) (set4 w' w.heap.size (.bool false) (.string ⟨#[]⟩) (.slice none 0 0) (.slice none 0 0)) from fun h w' hb => by
      refine ⟨HZV.out.keep hb, ParseMEnds.none ?_ (below_four (Below.then HBV.out hb) (Nat.le_refl _) _ _ _ _)⟩
      rw [HPM.out, if_neg]
      rintro ⟨h1, h2⟩
      rcases h with h | h
      · rw [h] at h1; cases h1
      · rw [h] at h2; cases h2)
    have HYES := Lib.hid (show rt = true → lk = true → ∀ w', Below V.heap.size V w' → (At4 w' w.heap.size (.bool false) (.string ⟨#[]⟩) (.slice none 0 0) (.slice none 0 0)) ∧ (w'.cell? ⟨w3.heap.size, 0, none⟩ = some (.bool i) ∧ w'.cell? ⟨w3.heap.size, 1, none⟩ = some (.string c) ∧ w'.cell? ⟨w3.heap.size, 2, none⟩ = some (.slice la nl lc) ∧ w'.cell? ⟨w3.heap.size, 3, none⟩ = some (.slice ka nk kc)) ∧ ParseMEnds s w (.returned (.tuple #[.agg #[.bool i, .string c, .slice la nl lc, .slice ka nk kc], .int .i64 0])) (set4 w' w.heap.size (.bool i) (.string c) (.slice la nl lc) (.slice ka nk kc)) from fun h1 h2 w' hb => by
      have hpm : parseM s = (RM, 0) := by rw [HPM.out, if_pos ⟨h1, h2⟩]
      refine ⟨HZV.out.keep hb, HK4.out w' hb, _, by rw [hpm], below_four (Below.then HBV.out hb) (Nat.le_refl _) _ _ _ _, fun w'' hfar => ?_⟩
      rw [hpm]
      refine HFAR.out w'' fun b hb1 hb2 => ?_
      have hz := HSZ.out
      have hw' := hb.size
      rw [hfar b (by omega) (by rw [set4_size]; omega), set4_block _ _ _ _ _ _ b (by omega)]
      exact hb.block b hb2)
    cases rt with
    | false =>
      go_region_law
          (first
          | (go_simp; go_at_call 41; refine (CR.out _ (by first | exact hbr | exact hbr.drew)).mono ?_; rintro e w4 ⟨rfl, hbr, ⟨p0, p1, p2, p3⟩, ⟨v0, v1, v2, v3, v4⟩⟩))
      all_goals
        obtain ⟨hz4, hend⟩ := HNO.out (Or.inl rfl) _ hbr
        have HZ4 := Lib.hid hz4
        have HEND := Lib.hid hend
        obtain ⟨z0, z1, z2, z3⟩ := hz4.cells
        have f0 := hz4.frozen 0
        have f1 := hz4.frozen 1
        have f2 := hz4.frozen 2
        have f3 := hz4.frozen 3
        clear hz4 hend
        go_wp2_with fail
        refine bodyPost_ret (results_two (p := 2) (u := 3) rfl _ _ w.heap.size 53 _ (0, 0) _ rfl (set4_four HZ4.out _ _ _ _) Tryz.underlying53 rfl manSize) rfl ?_
        exact HEND.out
    | true =>
      cases lk with
      | false =>
        go_region_law
          (first
          | (go_simp; go_at_call 41; refine (CR.out _ (by first | exact hbr | exact hbr.drew)).mono ?_; rintro e w4 ⟨rfl, hbr, ⟨p0, p1, p2, p3⟩, ⟨v0, v1, v2, v3, v4⟩⟩)
          | (go_simp; go_at_call 43; refine (CW.out _ (by first | exact hbr | exact hbr.drew)).mono ?_; rintro e w5 ⟨vw, rfl, hbr, hvw, ⟨v0, v1, v2, v3, v4⟩⟩)
          | (go_simp; go_at_call 78; refine (CL.out _ _ (by first | exact hbr | exact hbr.drew) hvw).mono ?_; rintro e w6 ⟨rfl, hbr⟩))
        all_goals
          obtain ⟨hz4, hend⟩ := HNO.out (Or.inr rfl) _ hbr
          have HZ4 := Lib.hid hz4
          have HEND := Lib.hid hend
          obtain ⟨z0, z1, z2, z3⟩ := hz4.cells
          have f0 := hz4.frozen 0
          have f1 := hz4.frozen 1
          have f2 := hz4.frozen 2
          have f3 := hz4.frozen 3
          clear hz4 hend
          go_wp2_with fail
          refine bodyPost_ret (results_two (p := 2) (u := 3) rfl _ _ w.heap.size 53 _ (0, 0) _ rfl (set4_four HZ4.out _ _ _ _) Tryz.underlying53 rfl manSize) rfl ?_
          exact HEND.out
      | true =>
        go_region_law
          (first
          | (go_simp; go_at_call 41; refine (CR.out _ (by first | exact hbr | exact hbr.drew)).mono ?_; rintro e w4 ⟨rfl, hbr, ⟨p0, p1, p2, p3⟩, ⟨v0, v1, v2, v3, v4⟩⟩)
          | (go_simp; go_at_call 43; refine (CW.out _ (by first | exact hbr | exact hbr.drew)).mono ?_; rintro e w5 ⟨vw, rfl, hbr, hvw, ⟨v0, v1, v2, v3, v4⟩⟩)
          | (go_simp; go_at_call 78; refine (CL.out _ _ (by first | exact hbr | exact hbr.drew) hvw).mono ?_; rintro e w6 ⟨rfl, hbr⟩))
        all_goals
          obtain ⟨hz4, ⟨t0, t1, t2, t3⟩, hend⟩ := HYES.out rfl rfl _ hbr
          have HZ4 := Lib.hid hz4
          have HEND := Lib.hid hend
          obtain ⟨z0, z1, z2, z3⟩ := hz4.cells
          have f0 := hz4.frozen 0
          have f1 := hz4.frozen 1
          have f2 := hz4.frozen 2
          have f3 := hz4.frozen 3
          clear hz4 hend
          go_wp2_with fail
          refine bodyPost_ret (results_two (p := 2) (u := 3) rfl _ _ w.heap.size 53 _ (0, 0) _ rfl (set4_four HZ4.out _ _ _ _) Tryz.underlying53 rfl manSize) rfl ?_
          exact HEND.out
end Go.Proofs.YtepcaglekgeamaaGreatDoor
