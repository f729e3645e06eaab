/-
  The program's first place of an upload and of an object, by contracts. Conditions: what is captured lies where it is told.
  The program's own reckoning of which blobs may be, by contracts. Conditions: the digest's tables and octet's errors lie where they were laid.
  The program's areObjects, and Right of blobs, by contracts. Conditions: the digest's tables and octet's errors lie where they were laid.
-/
import Derived.Test.YtodjhmphneoifaaGreatDoorZBlb1
import Derived.Test.YtodjhmphneoifaaGreatDoorZBlb2
import Derived.Deep.RegionHeld3
/-! The program's first place of an upload and of an object, by contracts. Conditions: what is captured lies where it is told. -/
namespace Go.Proofs.YtodjhmphneoifaaGreatDoor
open Go.RowKit Go.WideShapes

/-- The places, under one name's form. -/
abbrev upP (l : List (Int × ByteArray)) (d : Int) : Int := upL l d
abbrev objP (l : List (ByteArray × ByteArray)) (d : ByteArray) : Int := atL l d

set_option maxRecDepth 100000 in
set_option maxHeartbeats 2000000 in
theorem upIs_t (x : Int) (y : ByteArray) (d : Int) (c : Nat) (w : World) (hc : w.cell? ⟨c, 0, none⟩ = some (.int .i64 d)) :
    Calls Tryz.prog 39 #[.agg #[.int .i64 x, .string y], .pointer (some ⟨c, 0, none⟩)] w fun e w' => e = .returned (.bool (x == d)) ∧ Below w.heap.size w w' := by
  obtain ⟨W, hW⟩ : ∃ W, w.alloc (.cells #[.int .i64 x, .string y] 40) = W := ⟨_, rfl⟩
  have HB := Lib.hid (show Below w.heap.size w W by rw [← hW]; exact below_new _ _)
  have HX := Lib.hid (show At2 40 W w.heap.size (.int .i64 x) (.string y) by rw [← hW]; exact At2.new _ _ _ _)
  have c0 := Below.keepc HB.out hc
  have q : ((x == d)) = (x == d) := rfl
  have HQ := Lib.hid q
  clear q
  have HW := Lib.hid hW
  clear hW hc
  go_enter Tryz.func39, Tryz.ntmps39
  go_upto_region 1 with fail
  rw [HW.out]
  obtain ⟨x0, x1⟩ := HX.out.cells
  go_wp2_with fail
  go_ret
  exact ⟨rfl, HB.out⟩

set_option maxRecDepth 100000 in
set_option maxHeartbeats 2000000 in
theorem upIndex_t (v : Value) (l : List (Int × ByteArray)) (d : Int) (c : Nat) (w : World) (h : PairsAt w v (l.map upCell)) (hc : w.cell? ⟨c, 0, none⟩ = some (.int .i64 d)) :
    Calls Tryz.prog 52 #[v, .func (.func 39) #[] #[.pointer (some ⟨c, 0, none⟩)]] w fun e w' => e = .returned (.int .i64 (upP l d)) ∧ Below w.heap.size w w' := by
  obtain ⟨a, cap, rfl, hcap, hl⟩ := h.shape
  rw [List.length_map] at hl h ⊢
  have HP := Lib.hid h
  have HE := Lib.hid (show upP l d = findF (fun o : Int × ByteArray => o.1 == d) 0 l from rfl)
  have HST := Lib.hid (fun k hk => findF_step (fun o : Int × ByteArray => o.1 == d) l k hk)
  have HEN := Lib.hid (fun k hk => findF_end (fun o : Int × ByteArray => o.1 == d) l k hk)
  have HC := Lib.hid (fun x y w' (hb : Below w.heap.size w w') => upIs_t x y d c w' (Below.keepc hb hc))
  obtain ⟨p, hp⟩ : ∃ p : Int × ByteArray → Bool, (fun o => o.1 == d) = p := ⟨_, rfl⟩
  rw [hp] at HE HST HEN
  obtain ⟨n, hn⟩ : ∃ n, l.length = n := ⟨_, rfl⟩
  rw [hn] at hl HP ⊢
  have HN := Lib.hid hn
  unfold maxLen at hl
  clear h hc hp hn hcap
  go_enter Tryz.func52, Tryz.ntmps52
  go_wp2_with fail
  go_loopw [5, 8] (fun _ iv wr => ∃ k : Nat, k ≤ n ∧ iv = .int .i64 k ∧ findF p k (l.drop k) = upP l d ∧ Below w.heap.size w wr) (fun _ i _ => n - (intOf i).toNat)
  case atStart => exact ⟨0, Nat.zero_le _, rfl, HE.out.symm, Below.refl _ _⟩
  case round =>
    obtain ⟨k, hk, rfl, hf, hb⟩ := hrel
    have HF := Lib.hid hf
    have HBR := Lib.hid hb
    clear hf hb
    by_cases hlt : k < n
    · have hkl : k < l.length := by rw [HN.out]; exact hlt
      obtain ⟨lb, lo, rfl, e0, e1⟩ := (HP.out.keep HBR.out).at k (by rw [List.length_map]; exact hkl)
      rw [up_getElem l k hkl] at e0 e1
      have hst := HST.out k hkl
      obtain ⟨⟨x, y⟩, hx⟩ : ∃ x, l[k] = x := ⟨_, rfl⟩
      rw [hx] at e0 e1 hst
      rw [HF.out] at hst
      simp only at e0 e1 hst
      have HS := Lib.hid hst
      have HC1 := Lib.hid (HC.out x y wr HBR.out)
      obtain ⟨b, hb⟩ : ∃ b, (x == d) = b := ⟨_, rfl⟩
      rw [hb] at HS HC1
      clear hst hx hb
      cases b with
      | true =>
        have HO := Lib.hid (show upP l d = (k : Int) by rw [HS.out, if_pos rfl])
        go_wp2_with fail
        refine HC1.out.mono ?_
        rintro e w1 ⟨rfl, hb1⟩
        have HB1 := Lib.hid (Below.then HBR.out hb1)
        clear hb1
        go_wp2_with fail
        go_ret
        exact ⟨by rw [HO.out]; rfl, HB1.out⟩
      | false =>
        have HO := Lib.hid (show findF p (k + 1) (l.drop (k + 1)) = upP l d by rw [HS.out, if_neg (by decide)])
        go_wp2_with fail
        refine HC1.out.mono ?_
        rintro e w1 ⟨rfl, hb1⟩
        have HB1 := Lib.hid (Below.then HBR.out hb1)
        clear hb1
        go_wp2_with fail
        go_roundw
        case rel => exact ⟨k + 1, by omega, by go_num, HO.out, HB1.out⟩
        case measure => simp [intOf]; omega
    · have HO := Lib.hid (show upP l d = -1 by rw [← HF.out]; exact HEN.out k (by rw [HN.out]; omega))
      go_wp2_with fail
      go_ret
      exact ⟨by rw [HO.out]; rfl, HBR.out⟩

/-- What finding answers. -/
def upFirst (l : List (Int × ByteArray)) (d : Int) : Int × Int := if upP l d < 0 then (0, 9) else (upP l d, 0)
set_option maxRecDepth 100000 in
theorem upFirst_t (v : Value) (l : List (Int × ByteArray)) (d : Int) (c : Nat) (w : World) (h : PairsAt w v (l.map upCell)) (hc : w.cell? ⟨c, 0, none⟩ = some (.int .i64 d)) :
    Calls Tryz.prog 38 #[v, .func (.func 39) #[] #[.pointer (some ⟨c, 0, none⟩)]] w fun e w' => e = .returned (.tuple #[.int .i64 (upFirst l d).1, .int .i64 (upFirst l d).2]) ∧ Below w.heap.size w w' := by
  have I := Lib.hid (upIndex_t v l d c w h hc)
  have HE := Lib.hid (show upFirst l d = if upP l d < 0 then (0, 9) else (upP l d, 0) from rfl)
  obtain ⟨k, hk⟩ : ∃ k, upP l d = k := ⟨_, rfl⟩
  rw [hk] at I HE
  clear hk h hc
  go_enter Tryz.func38, Tryz.ntmps38
  go_wp2_with fail
  refine I.out.mono ?_
  rintro e w1 ⟨rfl, hb1⟩
  have HB := Lib.hid hb1
  clear hb1
  by_cases hlt : k < 0
  · have HO := Lib.hid (HE.out.trans (if_pos hlt))
    go_wp2_with fail
    go_ret2
    exact ⟨by rw [HO.out]; rfl, HB.out⟩
  · have HO := Lib.hid (HE.out.trans (if_neg hlt))
    go_wp2_with fail
    go_ret2
    exact ⟨by rw [HO.out]; rfl, HB.out⟩

set_option maxRecDepth 100000 in
set_option maxHeartbeats 2000000 in
theorem objIs_t (x : ByteArray) (y : ByteArray) (d : ByteArray) (c : Nat) (w : World) (hc : w.cell? ⟨c, 0, none⟩ = some (.string d)) :
    Calls Tryz.prog 51 #[.agg #[.string x, .string y], .pointer (some ⟨c, 0, none⟩)] w fun e w' => e = .returned (.bool (decide (x = d))) ∧ Below w.heap.size w w' := by
  obtain ⟨W, hW⟩ : ∃ W, w.alloc (.cells #[.string x, .string y] 43) = W := ⟨_, rfl⟩
  have HB := Lib.hid (show Below w.heap.size w W by rw [← hW]; exact below_new _ _)
  have HX := Lib.hid (show At2 43 W w.heap.size (.string x) (.string y) by rw [← hW]; exact At2.new _ _ _ _)
  have c0 := Below.keepc HB.out hc
  have q : (x.toList == d.toList) = decide (x = d) := beqB x d
  have HQ := Lib.hid q
  obtain ⟨b, hb⟩ : ∃ b, decide (x = d) = b := ⟨_, rfl⟩
  rw [hb] at q ⊢
  clear hb
  have HW := Lib.hid hW
  clear hW hc
  go_enter Tryz.func51, Tryz.ntmps51
  go_upto_region 1 with fail
  rw [HW.out]
  obtain ⟨x0, x1⟩ := HX.out.cells
  go_wp2_with fail
  go_ret
  exact ⟨rfl, HB.out⟩

set_option maxRecDepth 100000 in
set_option maxHeartbeats 2000000 in
theorem objIndex_t (v : Value) (l : List (ByteArray × ByteArray)) (d : ByteArray) (c : Nat) (w : World) (h : PairsAt w v (l.map objCell)) (hc : w.cell? ⟨c, 0, none⟩ = some (.string d)) :
    Calls Tryz.prog 63 #[v, .func (.func 51) #[] #[.pointer (some ⟨c, 0, none⟩)]] w fun e w' => e = .returned (.int .i64 (objP l d)) ∧ Below w.heap.size w w' := by
  obtain ⟨a, cap, rfl, hcap, hl⟩ := h.shape
  rw [List.length_map] at hl h ⊢
  have HP := Lib.hid h
  have HE := Lib.hid (show objP l d = findF (fun o : ByteArray × ByteArray => decide (o.1 = d)) 0 l from rfl)
  have HST := Lib.hid (fun k hk => findF_step (fun o : ByteArray × ByteArray => decide (o.1 = d)) l k hk)
  have HEN := Lib.hid (fun k hk => findF_end (fun o : ByteArray × ByteArray => decide (o.1 = d)) l k hk)
  have HC := Lib.hid (fun x y w' (hb : Below w.heap.size w w') => objIs_t x y d c w' (Below.keepc hb hc))
  obtain ⟨p, hp⟩ : ∃ p : ByteArray × ByteArray → Bool, (fun o => decide (o.1 = d)) = p := ⟨_, rfl⟩
  rw [hp] at HE HST HEN
  obtain ⟨n, hn⟩ : ∃ n, l.length = n := ⟨_, rfl⟩
  rw [hn] at hl HP ⊢
  have HN := Lib.hid hn
  unfold maxLen at hl
  clear h hc hp hn hcap
  go_enter Tryz.func63, Tryz.ntmps63
  go_wp2_with fail
  go_loopw [5, 8] (fun _ iv wr => ∃ k : Nat, k ≤ n ∧ iv = .int .i64 k ∧ findF p k (l.drop k) = objP l d ∧ Below w.heap.size w wr) (fun _ i _ => n - (intOf i).toNat)
  case atStart => exact ⟨0, Nat.zero_le _, rfl, HE.out.symm, Below.refl _ _⟩
  case round =>
    obtain ⟨k, hk, rfl, hf, hb⟩ := hrel
    have HF := Lib.hid hf
    have HBR := Lib.hid hb
    clear hf hb
    by_cases hlt : k < n
    · have hkl : k < l.length := by rw [HN.out]; exact hlt
      obtain ⟨lb, lo, rfl, e0, e1⟩ := (HP.out.keep HBR.out).at k (by rw [List.length_map]; exact hkl)
      rw [obj_getElem l k hkl] at e0 e1
      have hst := HST.out k hkl
      obtain ⟨⟨x, y⟩, hx⟩ : ∃ x, l[k] = x := ⟨_, rfl⟩
      rw [hx] at e0 e1 hst
      rw [HF.out] at hst
      simp only at e0 e1 hst
      have HS := Lib.hid hst
      have HC1 := Lib.hid (HC.out x y wr HBR.out)
      obtain ⟨b, hb⟩ : ∃ b, (decide (x = d)) = b := ⟨_, rfl⟩
      rw [hb] at HS HC1
      clear hst hx hb
      cases b with
      | true =>
        have HO := Lib.hid (show objP l d = (k : Int) by rw [HS.out, if_pos rfl])
        go_wp2_with fail
        refine HC1.out.mono ?_
        rintro e w1 ⟨rfl, hb1⟩
        have HB1 := Lib.hid (Below.then HBR.out hb1)
        clear hb1
        go_wp2_with fail
        go_ret
        exact ⟨by rw [HO.out]; rfl, HB1.out⟩
      | false =>
        have HO := Lib.hid (show findF p (k + 1) (l.drop (k + 1)) = objP l d by rw [HS.out, if_neg (by decide)])
        go_wp2_with fail
        refine HC1.out.mono ?_
        rintro e w1 ⟨rfl, hb1⟩
        have HB1 := Lib.hid (Below.then HBR.out hb1)
        clear hb1
        go_wp2_with fail
        go_roundw
        case rel => exact ⟨k + 1, by omega, by go_num, HO.out, HB1.out⟩
        case measure => simp [intOf]; omega
    · have HO := Lib.hid (show objP l d = -1 by rw [← HF.out]; exact HEN.out k (by rw [HN.out]; omega))
      go_wp2_with fail
      go_ret
      exact ⟨by rw [HO.out]; rfl, HBR.out⟩

/-- What finding answers. -/
def objFirst (l : List (ByteArray × ByteArray)) (d : ByteArray) : Int × Int := if objP l d < 0 then (0, 9) else (objP l d, 0)
set_option maxRecDepth 100000 in
theorem objFirst_t (v : Value) (l : List (ByteArray × ByteArray)) (d : ByteArray) (c : Nat) (w : World) (h : PairsAt w v (l.map objCell)) (hc : w.cell? ⟨c, 0, none⟩ = some (.string d)) :
    Calls Tryz.prog 50 #[v, .func (.func 51) #[] #[.pointer (some ⟨c, 0, none⟩)]] w fun e w' => e = .returned (.tuple #[.int .i64 (objFirst l d).1, .int .i64 (objFirst l d).2]) ∧ Below w.heap.size w w' := by
  have I := Lib.hid (objIndex_t v l d c w h hc)
  have HE := Lib.hid (show objFirst l d = if objP l d < 0 then (0, 9) else (objP l d, 0) from rfl)
  obtain ⟨k, hk⟩ : ∃ k, objP l d = k := ⟨_, rfl⟩
  rw [hk] at I HE
  clear hk h hc
  go_enter Tryz.func50, Tryz.ntmps50
  go_wp2_with fail
  refine I.out.mono ?_
  rintro e w1 ⟨rfl, hb1⟩
  have HB := Lib.hid hb1
  clear hb1
  by_cases hlt : k < 0
  · have HO := Lib.hid (HE.out.trans (if_pos hlt))
    go_wp2_with fail
    go_ret2
    exact ⟨by rw [HO.out]; rfl, HB.out⟩
  · have HO := Lib.hid (HE.out.trans (if_neg hlt))
    go_wp2_with fail
    go_ret2
    exact ⟨by rw [HO.out]; rfl, HB.out⟩

set_option maxRecDepth 100000 in
theorem objPlace_t (v : Value) (l : List (ByteArray × ByteArray)) (d : ByteArray) (w : World) (h : PairsAt w v (l.map objCell)) :
    Calls Tryz.prog 37 #[v, .string d] w fun e w' => e = .returned (.tuple #[.int .i64 (objFirst l d).1, .int .i64 (objFirst l d).2]) ∧ Below w.heap.size w w' := by
  obtain ⟨W, hW⟩ : ∃ W, w.alloc (.cells #[.string d] 9) = W := ⟨_, rfl⟩
  have HB := Lib.hid (show Below w.heap.size w W by rw [← hW]; exact below_new _ _)
  have F := Lib.hid (objFirst_t v l d w.heap.size W (h.keep HB.out) (by rw [← hW, World.cell?_alloc_at _ _ _ _ rfl]; rfl))
  obtain ⟨⟨k, e⟩, hk⟩ : ∃ k, objFirst l d = k := ⟨_, rfl⟩
  rw [hk] at F ⊢
  have HW := Lib.hid hW
  clear hW h hk
  go_enter Tryz.func37, Tryz.ntmps37
  go_upto_region 1 with fail
  rw [HW.out]
  go_wp2_with fail
  refine F.out.mono ?_
  rintro e w1 ⟨rfl, hb1⟩
  have HB1 := Lib.hid (Below.then HB.out hb1)
  clear hb1
  go_wp2_with fail
  go_ret2
  exact ⟨rfl, HB1.out⟩

set_option maxRecDepth 100000 in
theorem has_t (v : Value) (l : List (ByteArray × ByteArray)) (d : ByteArray) (w : World) (h : PairsAt w v (l.map objCell)) :
    Calls Tryz.prog 42 #[v, .string d] w fun e w' => e = .returned (.bool (decide (0 ≤ atL l d))) ∧ Below w.heap.size w w' := by
  have F := Lib.hid (objPlace_t v l d w h)
  have HE : ((objFirst l d).2 == 0) = decide (0 ≤ atL l d) := by
    unfold objFirst
    by_cases hlt : atL l d < 0
    · rw [if_pos hlt, decide_eq_false (by omega)]; rfl
    · rw [if_neg hlt, decide_eq_true (by omega)]; rfl
  obtain ⟨b, hb⟩ : ∃ b, decide (0 ≤ atL l d) = b := ⟨_, rfl⟩
  obtain ⟨⟨k, e⟩, hk⟩ : ∃ k, objFirst l d = k := ⟨_, rfl⟩
  rw [hk] at F HE
  rw [hb] at HE ⊢
  simp only at HE
  clear h hk hb
  go_enter Tryz.func42, Tryz.ntmps42
  go_wp2_with fail
  refine F.out.mono ?_
  rintro e w1 ⟨rfl, hb1⟩
  have HB1 := Lib.hid hb1
  clear hb1
  go_wp2_with fail
  go_ret
  exact ⟨rfl, HB1.out⟩

set_option maxRecDepth 100000 in
theorem isShort_t (s : ByteArray) (w : World) : Calls Tryz.prog 40 #[.string s] w fun e w' => e = .returned (.bool (decide (s.size ≤ 4096))) ∧ w' = w := by
  have q : decide ((s.size : Int) ≤ 4096) = decide (s.size ≤ 4096) := decide_eq_decide.2 (by omega)
  go_enter Tryz.func40, Tryz.ntmps40
  go_wp2_with fail
  go_ret
  exact ⟨by first | rfl | rw [q]; rfl, rfl⟩
set_option maxRecDepth 100000 in
theorem isQuota_t (n : Int) (w : World) : Calls Tryz.prog 23 #[.int .i64 n] w fun e w' => e = .returned (.bool (decide (0 ≤ n) && decide (n ≤ 1048576))) ∧ w' = w := by
  by_cases h : 0 ≤ n
  · have HO := Lib.hid (show (decide (0 ≤ n) && decide (n ≤ 1048576)) = decide (n ≤ 1048576) by rw [decide_eq_true h]; rfl)
    go_enter Tryz.func23, Tryz.ntmps23
    go_wp2_with fail
    go_ret
    exact ⟨by rw [HO.out]; rfl, rfl⟩
  · have HO := Lib.hid (show (decide (0 ≤ n) && decide (n ≤ 1048576)) = false by rw [decide_eq_false h]; rfl)
    go_enter Tryz.func23, Tryz.ntmps23
    go_wp2_with fail
    go_ret
    exact ⟨by rw [HO.out]; rfl, rfl⟩
set_option maxRecDepth 100000 in
theorem isLast_t (n : Int) (w : World) : Calls Tryz.prog 26 #[.int .i64 n] w fun e w' => e = .returned (.bool (decide (0 ≤ n) && decide (n ≤ 1099511627776))) ∧ w' = w := by
  by_cases h : 0 ≤ n
  · have HO := Lib.hid (show (decide (0 ≤ n) && decide (n ≤ 1099511627776)) = decide (n ≤ 1099511627776) by rw [decide_eq_true h]; rfl)
    go_enter Tryz.func26, Tryz.ntmps26
    go_wp2_with fail
    go_ret
    exact ⟨by rw [HO.out]; rfl, rfl⟩
  · have HO := Lib.hid (show (decide (0 ≤ n) && decide (n ≤ 1099511627776)) = false by rw [decide_eq_false h]; rfl)
    go_enter Tryz.func26, Tryz.ntmps26
    go_wp2_with fail
    go_ret
    exact ⟨by rw [HO.out]; rfl, rfl⟩

end Go.Proofs.YtodjhmphneoifaaGreatDoor
/-! The program's own reckoning of which blobs may be, by contracts. Conditions: the digest's tables and octet's errors lie where they were laid. -/
namespace Go.Proofs.YtodjhmphneoifaaGreatDoor
open Go.RowKit Go.WideShapes

/-- What the digest's calls want of the world. -/
structure DEnv (w : World) (aD aS aZ : Addr) : Prop where
  env : Env w aD aS aZ
  tabs : Tabs w
theorem DEnv.keep {w w' : World} {aD aS aZ : Addr} (h : DEnv w aD aS aZ) (hb : Below w.heap.size w w') : DEnv w' aD aS aZ := ⟨h.env.keep hb, h.tabs.keep h.tabs.many hb⟩

theorem few_list {l : List (ByteArray × ByteArray)} (h1 : l.length ≤ 100) (h2 : ∀ o ∈ l, o.2.size ≤ 5000) : FewIs ⟨l, 0, [], 0⟩ := ⟨h1, h2⟩
set_option maxRecDepth 100000 in
set_option maxHeartbeats 2000000 in
theorem size_t (v : Value) (os : List (ByteArray × ByteArray)) (w : World) (h : PairsAt w v (os.map objCell)) (hf : FewIs ⟨os, 0, [], 0⟩) :
    Calls Tryz.prog 29 #[v] w fun e w' => e = .returned (.int .i64 (usedL os : Nat)) ∧ Below w.heap.size w w' := by
  obtain ⟨a, c, rfl, -, hl1⟩ := h.shape
  have hdt := hf.data
  have hus := hf.used
  simp only at hdt hus
  rw [List.length_map] at hl1 h ⊢
  obtain ⟨n, hn⟩ : ∃ x, os.length = x := ⟨_, rfl⟩
  rw [hn] at hl1 h ⊢
  unfold maxLen at hl1
  have HP := Lib.hid h
  have HN := Lib.hid hn
  have HD := Lib.hid hdt
  have HU := Lib.hid hus
  have HT := Lib.hid (fun k hk => usedL_take os k hk)
  clear h hn hdt hus hf
  go_enter Tryz.func29, Tryz.ntmps29
  go_wp2_with fail
  go_loopw [3, 8] (fun nv iv wr => ∃ k u : Nat, k ≤ n ∧ iv = .int .i64 k ∧ nv = .int .i64 u ∧ usedL (os.take k) = u ∧ Below w.heap.size w wr) (fun _ i _ => n - (intOf i).toNat)
  case atStart => exact ⟨0, 0, Nat.zero_le _, rfl, rfl, rfl, Below.refl _ _⟩
  case round =>
    obtain ⟨k, u, hk, rfl, rfl, hf, hb⟩ := hrel
    have HF := Lib.hid hf
    have HBR := Lib.hid hb
    have hu5 : u ≤ 500000 := by rw [← hf]; exact HU.out k
    clear hf hb
    by_cases hlt : k < n
    · have hkl : k < os.length := by rw [HN.out]; exact hlt
      obtain ⟨lb, lo, rfl, e0, e1⟩ := (HP.out.keep HBR.out).at k (by rw [List.length_map]; exact hkl)
      rw [obj_getElem os k hkl] at e0 e1
      have hst := HT.out k hkl
      have hyz := HD.out _ (List.getElem_mem hkl)
      obtain ⟨⟨x, y⟩, hx⟩ : ∃ x, os[k] = x := ⟨_, rfl⟩
      rw [hx] at e0 e1 hst hyz
      rw [HF.out] at hst
      have HS := Lib.hid hst
      obtain ⟨W1, hW1⟩ : ∃ W1, wr.alloc (.cells #[.string x, .string y] 43) = W1 := ⟨_, rfl⟩
      obtain ⟨B1, hB1⟩ : ∃ B, wr.heap.size = B := ⟨_, rfl⟩
      have HB1 := Lib.hid (show Below w.heap.size w W1 by rw [← hW1]; exact Below.then HBR.out (below_new _ _))
      have HX := Lib.hid (show At2 43 W1 B1 (.string x) (.string y) by rw [← hW1, ← hB1]; exact At2.new _ _ _ _)
      have HW1 := Lib.hid hW1
      clear hW1 hst hx
      simp only at hyz
      go_upto_region 5 with fail
      rw [HW1.out]
      clear hB1
      obtain ⟨x0, x1⟩ := HX.out.cells
      go_wp2_with fail
      go_roundw
      case rel => exact ⟨k + 1, u + y.size, by omega, by go_num, by go_num, HS.out, HB1.out⟩
      case measure => simp [intOf]; omega
    · have HO := Lib.hid (show usedL os = u by
        have := HF.out
        rwa [List.take_of_length_le (by rw [HN.out]; omega)] at this)
      go_wp2_with fail
      go_ret
      exact ⟨by rw [HO.out]; rfl, HBR.out⟩

set_option maxRecDepth 100000 in
set_option maxHeartbeats 2000000 in
theorem areUploads_t (v : Value) (us : List (Int × ByteArray)) (l : Int) (w : World) (h : PairsAt w v (us.map upCell)) :
    Calls Tryz.prog 27 #[v, .int .i64 l] w fun e w' => e = .returned (.bool (upsF l 0 us)) ∧ Below w.heap.size w w' := by
  obtain ⟨a, c, rfl, -, hl1⟩ := h.shape
  rw [List.length_map] at hl1 h ⊢
  obtain ⟨m, hm⟩ : ∃ x, us.length = x := ⟨_, rfl⟩
  rw [hm] at hl1 h ⊢
  unfold maxLen at hl1
  have HP := Lib.hid h
  have HN := Lib.hid hm
  have HSU := Lib.hid (fun p k hk => upsF_step l p us k hk)
  have HEU := Lib.hid (fun p k hk => upsF_end l p us k hk)
  have SH := Lib.hid isShort_t
  clear h hm
  go_enter Tryz.func27, Tryz.ntmps27
  go_wp2_with fail
  go_loopw [5, 10] (fun pv iv wr => ∃ (k : Nat) (p : Int), k ≤ m ∧ iv = .int .i64 k ∧ pv = .int .i64 p ∧ upsF l p (us.drop k) = upsF l 0 us ∧ Below w.heap.size w wr) (fun _ i _ => m - (intOf i).toNat)
  case atStart => exact ⟨0, 0, Nat.zero_le _, rfl, rfl, rfl, Below.refl _ _⟩
  case round =>
    obtain ⟨k, p, hk, rfl, rfl, hfk, hbr⟩ := hrel
    have HF := Lib.hid hfk
    have HBR := Lib.hid hbr
    clear hfk hbr
    by_cases hlt : k < m
    · have hkl : k < us.length := by rw [HN.out]; exact hlt
      obtain ⟨lb, lo, rfl, e0, e1⟩ := (HP.out.keep HBR.out).at k (by rw [List.length_map]; exact hkl)
      rw [up_getElem us k hkl] at e0 e1
      have hst := HSU.out p k hkl
      obtain ⟨⟨x, y⟩, hx⟩ : ∃ x, us[k] = x := ⟨_, rfl⟩
      rw [hx] at e0 e1 hst
      simp only at e0 e1 hst
      rw [HF.out, show upOk l p (x, y) = (decide (y.size ≤ 4096) && decide (p < x) && decide (x ≤ l)) from rfl] at hst
      have HS := Lib.hid hst
      obtain ⟨W1, hW1⟩ : ∃ W1, wr.alloc (.cells #[.int .i64 x, .string y] 40) = W1 := ⟨_, rfl⟩
      obtain ⟨B1, hB1⟩ : ∃ B, wr.heap.size = B := ⟨_, rfl⟩
      have HB1 := Lib.hid (show Below w.heap.size w W1 by rw [← hW1]; exact Below.then HBR.out (below_new _ _))
      have HX := Lib.hid (show At2 40 W1 B1 (.int .i64 x) (.string y) by rw [← hW1, ← hB1]; exact At2.new _ _ _ _)
      have HW1 := Lib.hid hW1
      have S1 := Lib.hid (SH.out y W1)
      clear hW1 hst hx
      go_upto_region 5 with fail
      rw [HW1.out]
      clear hB1 e0 e1
      obtain ⟨x0, x1⟩ := HX.out.cells
      by_cases h5 : p < x
      rotate_left
      · have HO := Lib.hid (show upsF l 0 us = false by rw [HS.out, decide_eq_false h5]; simp)
        go_wp2_with fail
        go_ret
        exact ⟨by rw [HO.out]; rfl, HB1.out⟩
      by_cases h6 : x ≤ l
      rotate_left
      · have HO := Lib.hid (show upsF l 0 us = false by rw [HS.out, decide_eq_false h6]; simp)
        go_wp2_with fail
        go_ret
        exact ⟨by rw [HO.out]; rfl, HB1.out⟩
      obtain ⟨s4, hs4⟩ : ∃ b, decide (y.size ≤ 4096) = b := ⟨_, rfl⟩
      rw [hs4] at S1 HS
      clear hs4
      cases s4 with
      | false =>
        have HO := Lib.hid (show upsF l 0 us = false by rw [HS.out]; rfl)
        go_wp2_with fail
        refine S1.out.mono ?_
        rintro e w2 ⟨rfl, rfl⟩
        go_wp2_with fail
        go_ret
        exact ⟨by rw [HO.out]; rfl, HB1.out⟩
      | true =>
        have HO := Lib.hid (show upsF l x (us.drop (k + 1)) = upsF l 0 us by rw [HS.out, decide_eq_true h5, decide_eq_true h6]; rfl)
        go_wp2_with fail
        refine S1.out.mono ?_
        rintro e w2 ⟨rfl, rfl⟩
        obtain ⟨x0, x1⟩ := HX.out.cells
        go_wp2_with fail
        go_roundw
        case rel => exact ⟨k + 1, x, by omega, by go_num, rfl, HO.out, HB1.out⟩
        case measure => simp [intOf]; omega
    · have HO := Lib.hid (show upsF l 0 us = true by rw [← HF.out]; exact HEU.out p k (by rw [HN.out]; omega))
      go_wp2_with fail
      go_ret
      exact ⟨by rw [HO.out]; rfl, HBR.out⟩
end Go.Proofs.YtodjhmphneoifaaGreatDoor
/-! The program's areObjects, and Right of blobs, by contracts. Conditions: the digest's tables and octet's errors lie where they were laid. -/
namespace Go.Proofs.YtodjhmphneoifaaGreatDoor
open Go.RowKit Go.WideShapes

theorem atL_take {l : List (ByteArray × ByteArray)} {k : Nat} (hk : k < l.length) : (atL l l[k].1 == (k : Int)) = !decide (0 ≤ atL (l.take k) l[k].1) := by
  have hiff := atL_self hk
  by_cases h : ∀ j (hj : j < k), (l[j]'(by omega)).1 ≠ l[k].1
  · rw [hiff.2 h, beq_self_eq_true]
    have : atL (l.take k) l[k].1 = -1 := findL_none fun x hx => by
      obtain ⟨j, hj, rfl⟩ := List.getElem_of_mem hx
      rw [List.length_take] at hj
      rw [List.getElem_take]
      exact decide_eq_false (h j (by omega))
    rw [this]; rfl
  · rw [beq_eq_false_iff_ne.2 (fun e => h (hiff.1 e))]
    have : 0 ≤ atL (l.take k) l[k].1 := by
      rcases Int.lt_or_le (atL (l.take k) l[k].1) 0 with hn | hp
      · exfalso
        refine h fun j hj => ?_
        have hm : l[j]'(by omega) ∈ l.take k := by
          rw [List.mem_take_iff_getElem]
          exact ⟨j, by omega, rfl⟩
        have := findL_neg (p := fun o : ByteArray × ByteArray => decide (o.1 = l[k].1)) hn _ hm
        simpa using this
      · exact hp
    rw [decide_eq_true this]; rfl
def noB (os : List (ByteArray × ByteArray)) : Blb := ⟨os, 0, [], 0⟩
theorem objsF_of (b : Blb) : ∀ (l : List (ByteArray × ByteArray)) (k : Nat), objsF (noB b.objs) k l = objsF b k l
  | [], _ => rfl
  | o :: r, k => by
    show (objOk (noB b.objs) k o && objsF (noB b.objs) (k + 1) r) = (objOk b k o && objsF b (k + 1) r)
    rw [objsF_of b r (k + 1)]; rfl

set_option maxRecDepth 100000 in
set_option maxHeartbeats 4000000 in
theorem areObjects_t (v : Value) (os : List (ByteArray × ByteArray)) (w : World) (aD aS aZ : Addr) (h : PairsAt w v (os.map objCell)) (hz : ∀ o ∈ os, o.1.size ≤ maxLen) (he : DEnv w aD aS aZ) :
    Calls Tryz.prog 28 #[v] w fun e w' => e = .returned (.bool (objsF (noB os) 0 os)) ∧ Below w.heap.size w w' := by
  obtain ⟨a, c, rfl, hcap, hcm⟩ := h.shape3
  rw [List.length_map] at hcap h ⊢
  obtain ⟨n, hn⟩ : ∃ x, os.length = x := ⟨_, rfl⟩
  rw [hn] at hcap h ⊢
  unfold maxLen at hcm
  have hl1 : n ≤ 9223372036854775807 := by omega
  have HP := Lib.hid h
  have HN := Lib.hid hn
  have HZ := Lib.hid hz
  have HEN := Lib.hid (fun k hk => objsF_end (noB os) os k hk)
  have HST := Lib.hid (fun k hk => objsF_step (noB os) os k hk)
  have HAT := Lib.hid (fun k (hk : k < os.length) => atL_take hk)
  have SH := Lib.hid isShort_t
  have FT := Lib.hid (fun s d w' (hb : Below w.heap.size w w') (hs : s.size ≤ 9223372036854775807) (hd : d.size < 1099511627776) => fits_any aD aS aZ s d w' (he.keep hb).env (he.keep hb).tabs hs hd)
  have HS0 := Lib.hid (fun k d w' (hk : k ≤ n) (hb : Below w.heap.size w w') => has_t (.slice a k c) (os.take k) d w' ((h.keep hb).take (by rw [List.length_map, hn]) k hk _ (by rw [List.map_take])))
  clear h hn hz he
  go_enter Tryz.func28, Tryz.ntmps28
  go_wp2_with fail
  go_loopw [3, 7] (fun _ iv wr => ∃ k : Nat, k ≤ n ∧ iv = .int .i64 k ∧ objsF (noB os) k (os.drop k) = objsF (noB os) 0 os ∧ Below w.heap.size w wr) (fun _ i _ => n - (intOf i).toNat)
  case atStart => exact ⟨0, Nat.zero_le _, rfl, rfl, Below.refl _ _⟩
  case round =>
    obtain ⟨k, hk, rfl, hfk, hbr⟩ := hrel
    have HF := Lib.hid hfk
    have HBR := Lib.hid hbr
    clear hfk hbr
    by_cases hlt : k < n
    · have hkl : k < os.length := by rw [HN.out]; exact hlt
      obtain ⟨lb, lo, rfl, e0, e1⟩ := (HP.out.keep HBR.out).at k (by rw [List.length_map]; exact hkl)
      rw [obj_getElem os k hkl] at e0 e1
      have hst := HST.out k hkl
      have hat := HAT.out k hkl
      have hz := HZ.out _ (List.getElem_mem hkl)
      obtain ⟨⟨x, y⟩, hx⟩ : ∃ x, os[k] = x := ⟨_, rfl⟩
      rw [hx] at e0 e1 hst hat hz
      simp only at e0 e1 hat hz
      rw [HF.out, show objOk (noB os) k (x, y) = (decide (y.size ≤ 4096) && (fitsD x y == 0) && (atL os x == (k : Int))) from rfl, hat] at hst
      have HS := Lib.hid hst
      unfold maxLen at hz
      have hkc : k ≤ c := by omega
      obtain ⟨W1, hW1⟩ : ∃ W1, wr.alloc (.cells #[.string x, .string y] 43) = W1 := ⟨_, rfl⟩
      obtain ⟨B1, hB1⟩ : ∃ B, wr.heap.size = B := ⟨_, rfl⟩
      have HB1 := Lib.hid (show Below w.heap.size w W1 by rw [← hW1]; exact Below.then HBR.out (below_new _ _))
      have HX := Lib.hid (show At2 43 W1 B1 (.string x) (.string y) by rw [← hW1, ← hB1]; exact At2.new _ _ _ _)
      have HW1 := Lib.hid hW1
      obtain ⟨hb, hhb⟩ : ∃ b, decide (0 ≤ atL (os.take k) x) = b := ⟨_, rfl⟩
      obtain ⟨fe, hfe⟩ : ∃ f, fitsD x y = f := ⟨_, rfl⟩
      have S1 := Lib.hid (fun w' => SH.out y w')
      have F1 := Lib.hid (fun w' hb (hy : y.size ≤ 4096) => FT.out x y w' hb hz (by omega))
      have H1 := Lib.hid (fun w' hb => HS0.out k x w' hk hb)
      rw [hhb] at H1 HS
      rw [hfe] at F1 HS
      clear hW1 hst hat hx hhb hfe
      go_upto_region 4 with fail
      rw [HW1.out]
      clear hB1 e0 e1
      obtain ⟨x0, x1⟩ := HX.out.cells
      have hbA := Below.refl W1.heap.size W1
      by_cases h4 : y.size ≤ 4096
      rotate_left
      · have HO := Lib.hid (show objsF (noB os) 0 os = false by rw [HS.out, decide_eq_false h4]; rfl)
        rw [decide_eq_false h4] at S1
        refine wp_region_held_drew (S := fun w' => w'.cell? ⟨B1, 0, none⟩ = some (.string x) ∧ w'.cell? ⟨B1, 1, none⟩ = some (.string y)) (by kernel_rfl) ?hSa (fun hHeld => ?hRa)
        case hSa => exact ⟨x0, x1⟩
        refine wpAnyH_take (i := 0) (oi := { dst := some 12, op := Op.fieldAddr 43 (Operand.tmp 4) 1, type := 0, pos := "right.go:38", after := #[], guard := none }) (v := ?gva0) rfl (by kernel_rfl) (by kernel_rfl) (by kernel_rfl) (fun _ _ _ h => h) (Or.inl ⟨by rfl, ?gya0⟩) (by assumption) ?gra0
        case gya0 => (intro w hSw; (try dsimp only at hSw); go_simp; try with_reducible rfl)
        try simp only [Act.put, List.setIfInBounds_toArray, List.set_cons_zero, List.set_cons_succ]
        refine wpAnyH_take (i := 1) (oi := { dst := some 13, op := Op.load 9 (Operand.tmp 12), type := 9, pos := "right.go:38", after := #[{ on := 0, ground := Ground.data }], guard := none }) (v := ?gva1) rfl (by kernel_rfl) (by kernel_rfl) (by kernel_rfl) (fun _ _ _ h => h) (Or.inl ⟨by rfl, ?gya1⟩) (by assumption) ?gra1
        case gya1 => (intro w hSw; (try dsimp only at hSw); go_simp; try with_reducible rfl)
        try simp only [Act.put, List.setIfInBounds_toArray, List.set_cons_zero, List.set_cons_succ]
        refine wpAnyH_ready (rs := [2]) (by kernel_rfl) (by simp) ?_
        refine AllReadyH.cons (o := { dst := some 14, op := Op.call { callee := Callee.value (Operand.func 40), args := #[Operand.tmp 13], argTypes := #[9] }, type := 4, pos := "right.go:38", after := #[{ on := 1, ground := Ground.data }], guard := none }) rfl (fun K hK => ?_) AllReadyH.nil
        rw [if_pos (by kernel_rfl)]
        go_simp
        go_wp2_with (go_at_call 40; refine (S1.out _).mono ?_; rintro e wS ⟨rfl, hwS⟩; subst hwS)
        refine hK.out _ _ ?hSa2 (fun hHeld2 => ?hRa2)
        case hSa2 => exact ⟨x0, x1⟩
        clear hK K
        try simp only [Act.put, List.setIfInBounds_toArray, List.set_cons_zero, List.set_cons_succ]
        refine wpAnyH_take (i := 3) (oi := { dst := some 15, op := Op.unOp UnOp.not 4 (Operand.tmp 14), type := 4, pos := "right.go:38", after := #[{ on := 2, ground := Ground.data }], guard := none }) (v := ?gva3) rfl (by kernel_rfl) (by kernel_rfl) (by kernel_rfl) (fun _ _ _ h => h) (Or.inl ⟨by rfl, ?gya3⟩) (by assumption) ?gra3
        case gya3 => (intro w hSw; (try dsimp only at hSw); go_simp; try with_reducible rfl)
        try simp only [Act.put, List.setIfInBounds_toArray, List.set_cons_zero, List.set_cons_succ]
        refine wpAnyH_take (i := 4) (oi := { dst := some 16, op := Op.move (Operand.tmp 15), type := 4, pos := "right.go:38", after := #[{ on := 3, ground := Ground.data }, { on := 2, ground := Ground.chain }], guard := none }) (v := ?gva4) rfl (by kernel_rfl) (by kernel_rfl) (by kernel_rfl) (fun _ _ _ h => h) (Or.inl ⟨by rfl, ?gya4⟩) (by assumption) ?gra4
        case gya4 => (intro w hSw; (try dsimp only at hSw); go_simp; try with_reducible rfl)
        try simp only [Act.put, List.setIfInBounds_toArray, List.set_cons_zero, List.set_cons_succ]
        refine wpAnyH_take (i := 5) (oi := { dst := some 17, op := Op.fieldAddr 43 (Operand.tmp 4) 0, type := 0, pos := "right.go:38", after := #[{ on := 4, ground := Ground.guard }], guard := some (4, false) }) (v := undef) rfl (by kernel_rfl) (by kernel_rfl) (by kernel_rfl) (fun _ _ _ h => h) (Or.inr ⟨by rfl, rfl⟩) (by assumption) ?gra5
        try simp only [Act.put, List.setIfInBounds_toArray, List.set_cons_zero, List.set_cons_succ]
        refine wpAnyH_take (i := 6) (oi := { dst := some 18, op := Op.load 9 (Operand.tmp 17), type := 9, pos := "right.go:38", after := #[{ on := 5, ground := Ground.data }, { on := 4, ground := Ground.guard }], guard := some (4, false) }) (v := undef) rfl (by kernel_rfl) (by kernel_rfl) (by kernel_rfl) (fun _ _ _ h => h) (Or.inr ⟨by rfl, rfl⟩) (by assumption) ?gra6
        try simp only [Act.put, List.setIfInBounds_toArray, List.set_cons_zero, List.set_cons_succ]
        refine wpAnyH_take (i := 7) (oi := { dst := some 19, op := Op.fieldAddr 43 (Operand.tmp 4) 1, type := 0, pos := "right.go:38", after := #[{ on := 4, ground := Ground.guard }], guard := some (4, false) }) (v := undef) rfl (by kernel_rfl) (by kernel_rfl) (by kernel_rfl) (fun _ _ _ h => h) (Or.inr ⟨by rfl, rfl⟩) (by assumption) ?gra7
        try simp only [Act.put, List.setIfInBounds_toArray, List.set_cons_zero, List.set_cons_succ]
        refine wpAnyH_take (i := 8) (oi := { dst := some 20, op := Op.load 9 (Operand.tmp 19), type := 9, pos := "right.go:38", after := #[{ on := 7, ground := Ground.data }, { on := 4, ground := Ground.guard }], guard := some (4, false) }) (v := undef) rfl (by kernel_rfl) (by kernel_rfl) (by kernel_rfl) (fun _ _ _ h => h) (Or.inr ⟨by rfl, rfl⟩) (by assumption) ?gra8
        try simp only [Act.put, List.setIfInBounds_toArray, List.set_cons_zero, List.set_cons_succ]
        refine wpAnyH_take (i := 9) (oi := { dst := some 21, op := Op.call { callee := Callee.value (Operand.func 41), args := #[Operand.tmp 18, Operand.tmp 20], argTypes := #[9, 9] }, type := 27, pos := "right.go:38", after := #[{ on := 6, ground := Ground.data }, { on := 8, ground := Ground.data }, { on := 4, ground := Ground.chain }, { on := 4, ground := Ground.guard }], guard := some (4, false) }) (v := undef) rfl (by kernel_rfl) (by kernel_rfl) (by kernel_rfl) (fun _ _ _ h => h) (Or.inr ⟨by rfl, rfl⟩) (by assumption) ?gra9
        try simp only [Act.put, List.setIfInBounds_toArray, List.set_cons_zero, List.set_cons_succ]
        refine wpAnyH_take (i := 10) (oi := { dst := some 22, op := Op.binOp BinOp.neq 27 (Operand.tmp 21) (Operand.const (Value.int IntKind.i64 0)) 27, type := 4, pos := "right.go:38", after := #[{ on := 9, ground := Ground.data }, { on := 4, ground := Ground.guard }], guard := some (4, false) }) (v := undef) rfl (by kernel_rfl) (by kernel_rfl) (by kernel_rfl) (fun _ _ _ h => h) (Or.inr ⟨by rfl, rfl⟩) (by assumption) ?gra10
        try simp only [Act.put, List.setIfInBounds_toArray, List.set_cons_zero, List.set_cons_succ]
        refine wpAnyH_take (i := 11) (oi := { dst := some 23, op := Op.pick (Operand.tmp 16) (Operand.const (Value.bool true)) (Operand.tmp 22), type := 4, pos := "right.go:38", after := #[{ on := 4, ground := Ground.data }, { on := 10, ground := Ground.data }], guard := none }) (v := ?gva11) rfl (by kernel_rfl) (by kernel_rfl) (by kernel_rfl) (fun _ _ _ h => h) (Or.inl ⟨by rfl, ?gya11⟩) (by assumption) ?gra11
        case gya11 => (intro w hSw; (try dsimp only at hSw); go_simp; try with_reducible rfl)
        try simp only [Act.put, List.setIfInBounds_toArray, List.set_cons_zero, List.set_cons_succ]
        refine wpAnyH_take (i := 12) (oi := { dst := some 24, op := Op.move (Operand.tmp 23), type := 4, pos := "right.go:38", after := #[{ on := 11, ground := Ground.data }, { on := 9, ground := Ground.chain }], guard := none }) (v := ?gva12) rfl (by kernel_rfl) (by kernel_rfl) (by kernel_rfl) (fun _ _ _ h => h) (Or.inl ⟨by rfl, ?gya12⟩) (by assumption) ?gra12
        case gya12 => (intro w hSw; (try dsimp only at hSw); go_simp; try with_reducible rfl)
        try simp only [Act.put, List.setIfInBounds_toArray, List.set_cons_zero, List.set_cons_succ]
        refine wpAnyH_take (i := 13) (oi := { dst := some 25, op := Op.move (Operand.tmp 0), type := 22, pos := "right.go:38", after := #[{ on := 12, ground := Ground.guard }], guard := some (12, false) }) (v := undef) rfl (by kernel_rfl) (by kernel_rfl) (by kernel_rfl) (fun _ _ _ h => h) (Or.inr ⟨by rfl, rfl⟩) (by assumption) ?gra13
        try simp only [Act.put, List.setIfInBounds_toArray, List.set_cons_zero, List.set_cons_succ]
        refine wpAnyH_take (i := 14) (oi := { dst := some 26, op := Op.move (Operand.tmp 3), type := 3, pos := "right.go:38", after := #[{ on := 12, ground := Ground.guard }], guard := some (12, false) }) (v := undef) rfl (by kernel_rfl) (by kernel_rfl) (by kernel_rfl) (fun _ _ _ h => h) (Or.inr ⟨by rfl, rfl⟩) (by assumption) ?gra14
        try simp only [Act.put, List.setIfInBounds_toArray, List.set_cons_zero, List.set_cons_succ]
        refine wpAnyH_take (i := 15) (oi := { dst := some 27, op := Op.slice 22 (Operand.tmp 25) none (some (Operand.tmp 26)) none, type := 22, pos := "right.go:38", after := #[{ on := 13, ground := Ground.data }, { on := 14, ground := Ground.data }, { on := 12, ground := Ground.guard }], guard := some (12, false) }) (v := undef) rfl (by kernel_rfl) (by kernel_rfl) (by kernel_rfl) (fun _ _ _ h => h) (Or.inr ⟨by rfl, rfl⟩) (by assumption) ?gra15
        try simp only [Act.put, List.setIfInBounds_toArray, List.set_cons_zero, List.set_cons_succ]
        refine wpAnyH_take (i := 16) (oi := { dst := some 28, op := Op.fieldAddr 43 (Operand.tmp 4) 0, type := 0, pos := "right.go:38", after := #[{ on := 12, ground := Ground.guard }], guard := some (12, false) }) (v := undef) rfl (by kernel_rfl) (by kernel_rfl) (by kernel_rfl) (fun _ _ _ h => h) (Or.inr ⟨by rfl, rfl⟩) (by assumption) ?gra16
        try simp only [Act.put, List.setIfInBounds_toArray, List.set_cons_zero, List.set_cons_succ]
        refine wpAnyH_take (i := 17) (oi := { dst := some 29, op := Op.load 9 (Operand.tmp 28), type := 9, pos := "right.go:38", after := #[{ on := 16, ground := Ground.data }, { on := 12, ground := Ground.guard }], guard := some (12, false) }) (v := undef) rfl (by kernel_rfl) (by kernel_rfl) (by kernel_rfl) (fun _ _ _ h => h) (Or.inr ⟨by rfl, rfl⟩) (by assumption) ?gra17
        try simp only [Act.put, List.setIfInBounds_toArray, List.set_cons_zero, List.set_cons_succ]
        refine wpAnyH_take (i := 18) (oi := { dst := some 30, op := Op.call { callee := Callee.value (Operand.func 42), args := #[Operand.tmp 27, Operand.tmp 29], argTypes := #[22, 9] }, type := 4, pos := "right.go:38", after := #[{ on := 15, ground := Ground.data }, { on := 17, ground := Ground.data }, { on := 12, ground := Ground.chain }, { on := 12, ground := Ground.guard }], guard := some (12, false) }) (v := undef) rfl (by kernel_rfl) (by kernel_rfl) (by kernel_rfl) (fun _ _ _ h => h) (Or.inr ⟨by rfl, rfl⟩) (by assumption) ?gra18
        try simp only [Act.put, List.setIfInBounds_toArray, List.set_cons_zero, List.set_cons_succ]
        refine wpAnyH_take (i := 19) (oi := { dst := some 31, op := Op.pick (Operand.tmp 24) (Operand.const (Value.bool true)) (Operand.tmp 30), type := 4, pos := "right.go:38", after := #[{ on := 12, ground := Ground.data }, { on := 18, ground := Ground.data }], guard := none }) (v := ?gva19) rfl (by kernel_rfl) (by kernel_rfl) (by kernel_rfl) (fun _ _ _ h => h) (Or.inl ⟨by rfl, ?gya19⟩) (by assumption) ?gra19
        case gya19 => (intro w hSw; (try dsimp only at hSw); go_simp; try with_reducible rfl)
        try simp only [Act.put, List.setIfInBounds_toArray, List.set_cons_zero, List.set_cons_succ]
        refine wpAnyH_done (by kernel_rfl) ?_ _
        all_goals
          go_wp2_with fail
          go_ret
          exact ⟨by rw [HO.out]; rfl, by first | exact Below.then HB1.out hbA | exact Below.then HB1.out hbA.drew⟩
      rw [decide_eq_true h4] at S1 HS
      have F2 := Lib.hid (fun w' hb => F1.out w' hb h4)
      by_cases h0 : fe = 0
      rotate_left
      · have HO := Lib.hid (show objsF (noB os) 0 os = false by rw [HS.out, beq_eq_false_iff_ne.2 h0]; rfl)
        have q0 : (fe != 0) = true := bne_iff_ne.2 h0
        clear h0 F1
        refine wp_region_held_drew (S := fun w' => w'.cell? ⟨B1, 0, none⟩ = some (.string x) ∧ w'.cell? ⟨B1, 1, none⟩ = some (.string y)) (by kernel_rfl) ?hSb (fun hHeld => ?hRb)
        case hSb => exact ⟨x0, x1⟩
        refine wpAnyH_take (i := 0) (oi := { dst := some 12, op := Op.fieldAddr 43 (Operand.tmp 4) 1, type := 0, pos := "right.go:38", after := #[], guard := none }) (v := ?gvb0) rfl (by kernel_rfl) (by kernel_rfl) (by kernel_rfl) (fun _ _ _ h => h) (Or.inl ⟨by rfl, ?gyb0⟩) (by assumption) ?grb0
        case gyb0 => (intro w hSw; (try dsimp only at hSw); go_simp; try with_reducible rfl)
        try simp only [Act.put, List.setIfInBounds_toArray, List.set_cons_zero, List.set_cons_succ]
        refine wpAnyH_take (i := 1) (oi := { dst := some 13, op := Op.load 9 (Operand.tmp 12), type := 9, pos := "right.go:38", after := #[{ on := 0, ground := Ground.data }], guard := none }) (v := ?gvb1) rfl (by kernel_rfl) (by kernel_rfl) (by kernel_rfl) (fun _ _ _ h => h) (Or.inl ⟨by rfl, ?gyb1⟩) (by assumption) ?grb1
        case gyb1 => (intro w hSw; (try dsimp only at hSw); go_simp; try with_reducible rfl)
        try simp only [Act.put, List.setIfInBounds_toArray, List.set_cons_zero, List.set_cons_succ]
        refine wpAnyH_ready (rs := [2]) (by kernel_rfl) (by simp) ?_
        refine AllReadyH.cons (o := { dst := some 14, op := Op.call { callee := Callee.value (Operand.func 40), args := #[Operand.tmp 13], argTypes := #[9] }, type := 4, pos := "right.go:38", after := #[{ on := 1, ground := Ground.data }], guard := none }) rfl (fun K hK => ?_) AllReadyH.nil
        rw [if_pos (by kernel_rfl)]
        go_simp
        go_wp2_with (go_at_call 40; refine (S1.out _).mono ?_; rintro e wS ⟨rfl, hwS⟩; subst hwS)
        refine hK.out _ _ ?hSb2 (fun hHeld2 => ?hRb2)
        case hSb2 => exact ⟨x0, x1⟩
        clear hK K
        try simp only [Act.put, List.setIfInBounds_toArray, List.set_cons_zero, List.set_cons_succ]
        refine wpAnyH_take (i := 3) (oi := { dst := some 15, op := Op.unOp UnOp.not 4 (Operand.tmp 14), type := 4, pos := "right.go:38", after := #[{ on := 2, ground := Ground.data }], guard := none }) (v := ?gvb3) rfl (by kernel_rfl) (by kernel_rfl) (by kernel_rfl) (fun _ _ _ h => h) (Or.inl ⟨by rfl, ?gyb3⟩) (by assumption) ?grb3
        case gyb3 => (intro w hSw; (try dsimp only at hSw); go_simp; try with_reducible rfl)
        try simp only [Act.put, List.setIfInBounds_toArray, List.set_cons_zero, List.set_cons_succ]
        refine wpAnyH_take (i := 4) (oi := { dst := some 16, op := Op.move (Operand.tmp 15), type := 4, pos := "right.go:38", after := #[{ on := 3, ground := Ground.data }, { on := 2, ground := Ground.chain }], guard := none }) (v := ?gvb4) rfl (by kernel_rfl) (by kernel_rfl) (by kernel_rfl) (fun _ _ _ h => h) (Or.inl ⟨by rfl, ?gyb4⟩) (by assumption) ?grb4
        case gyb4 => (intro w hSw; (try dsimp only at hSw); go_simp; try with_reducible rfl)
        try simp only [Act.put, List.setIfInBounds_toArray, List.set_cons_zero, List.set_cons_succ]
        refine wpAnyH_take (i := 5) (oi := { dst := some 17, op := Op.fieldAddr 43 (Operand.tmp 4) 0, type := 0, pos := "right.go:38", after := #[{ on := 4, ground := Ground.guard }], guard := some (4, false) }) (v := ?gvb5) rfl (by kernel_rfl) (by kernel_rfl) (by kernel_rfl) (fun _ _ _ h => h) (Or.inl ⟨by rfl, ?gyb5⟩) (by assumption) ?grb5
        case gyb5 => (intro w hSw; (try dsimp only at hSw); go_simp; try with_reducible rfl)
        try simp only [Act.put, List.setIfInBounds_toArray, List.set_cons_zero, List.set_cons_succ]
        refine wpAnyH_take (i := 6) (oi := { dst := some 18, op := Op.load 9 (Operand.tmp 17), type := 9, pos := "right.go:38", after := #[{ on := 5, ground := Ground.data }, { on := 4, ground := Ground.guard }], guard := some (4, false) }) (v := ?gvb6) rfl (by kernel_rfl) (by kernel_rfl) (by kernel_rfl) (fun _ _ _ h => h) (Or.inl ⟨by rfl, ?gyb6⟩) (by assumption) ?grb6
        case gyb6 => (intro w hSw; (try dsimp only at hSw); go_simp; try with_reducible rfl)
        try simp only [Act.put, List.setIfInBounds_toArray, List.set_cons_zero, List.set_cons_succ]
        refine wpAnyH_take (i := 7) (oi := { dst := some 19, op := Op.fieldAddr 43 (Operand.tmp 4) 1, type := 0, pos := "right.go:38", after := #[{ on := 4, ground := Ground.guard }], guard := some (4, false) }) (v := ?gvb7) rfl (by kernel_rfl) (by kernel_rfl) (by kernel_rfl) (fun _ _ _ h => h) (Or.inl ⟨by rfl, ?gyb7⟩) (by assumption) ?grb7
        case gyb7 => (intro w hSw; (try dsimp only at hSw); go_simp; try with_reducible rfl)
        try simp only [Act.put, List.setIfInBounds_toArray, List.set_cons_zero, List.set_cons_succ]
        refine wpAnyH_take (i := 8) (oi := { dst := some 20, op := Op.load 9 (Operand.tmp 19), type := 9, pos := "right.go:38", after := #[{ on := 7, ground := Ground.data }, { on := 4, ground := Ground.guard }], guard := some (4, false) }) (v := ?gvb8) rfl (by kernel_rfl) (by kernel_rfl) (by kernel_rfl) (fun _ _ _ h => h) (Or.inl ⟨by rfl, ?gyb8⟩) (by assumption) ?grb8
        case gyb8 => (intro w hSw; (try dsimp only at hSw); go_simp; try with_reducible rfl)
        try simp only [Act.put, List.setIfInBounds_toArray, List.set_cons_zero, List.set_cons_succ]
        refine wpAnyH_ready (rs := [9]) (by kernel_rfl) (by simp) ?_
        refine AllReadyH.cons (o := { dst := some 21, op := Op.call { callee := Callee.value (Operand.func 41), args := #[Operand.tmp 18, Operand.tmp 20], argTypes := #[9, 9] }, type := 27, pos := "right.go:38", after := #[{ on := 6, ground := Ground.data }, { on := 8, ground := Ground.data }, { on := 4, ground := Ground.chain }, { on := 4, ground := Ground.guard }], guard := some (4, false) }) rfl (fun K hK => ?_) AllReadyH.nil
        rw [if_pos (by kernel_rfl)]
        go_simp
        go_wp2_with (go_at_call 41; refine (F2.out _ (Below.then HB1.out (by first | exact hbA | exact hbA.drew))).mono ?_; rintro e wS ⟨rfl, hbS⟩)
        have hbA : Below W1.heap.size W1 wS := (by first | exact Below.then hbA hbS | exact Below.then hbA.drew hbS)
        obtain ⟨x0, x1⟩ := (HX.out.keep hbA).cells
        refine hK.out _ _ ?hSb9 (fun hHeld9 => ?hRb9)
        case hSb9 => exact ⟨x0, x1⟩
        clear hK K
        try simp only [Act.put, List.setIfInBounds_toArray, List.set_cons_zero, List.set_cons_succ]
        refine wpAnyH_take (i := 10) (oi := { dst := some 22, op := Op.binOp BinOp.neq 27 (Operand.tmp 21) (Operand.const (Value.int IntKind.i64 0)) 27, type := 4, pos := "right.go:38", after := #[{ on := 9, ground := Ground.data }, { on := 4, ground := Ground.guard }], guard := some (4, false) }) (v := ?gvb10) rfl (by kernel_rfl) (by kernel_rfl) (by kernel_rfl) (fun _ _ _ h => h) (Or.inl ⟨by rfl, ?gyb10⟩) (by assumption) ?grb10
        case gyb10 => (intro w hSw; (try dsimp only at hSw); go_simp; try with_reducible rfl)
        try simp only [Act.put, List.setIfInBounds_toArray, List.set_cons_zero, List.set_cons_succ]
        refine wpAnyH_take (i := 11) (oi := { dst := some 23, op := Op.pick (Operand.tmp 16) (Operand.const (Value.bool true)) (Operand.tmp 22), type := 4, pos := "right.go:38", after := #[{ on := 4, ground := Ground.data }, { on := 10, ground := Ground.data }], guard := none }) (v := ?gvb11) rfl (by kernel_rfl) (by kernel_rfl) (by kernel_rfl) (fun _ _ _ h => h) (Or.inl ⟨by rfl, ?gyb11⟩) (by assumption) ?grb11
        case gyb11 => (intro w hSw; (try dsimp only at hSw); go_simp; try with_reducible rfl)
        try simp only [Act.put, List.setIfInBounds_toArray, List.set_cons_zero, List.set_cons_succ]
        refine wpAnyH_take (i := 12) (oi := { dst := some 24, op := Op.move (Operand.tmp 23), type := 4, pos := "right.go:38", after := #[{ on := 11, ground := Ground.data }, { on := 9, ground := Ground.chain }], guard := none }) (v := ?gvb12) rfl (by kernel_rfl) (by kernel_rfl) (by kernel_rfl) (fun _ _ _ h => h) (Or.inl ⟨by rfl, ?gyb12⟩) (by assumption) ?grb12
        case gyb12 => (intro w hSw; (try dsimp only at hSw); go_simp; try with_reducible rfl)
        try simp only [Act.put, List.setIfInBounds_toArray, List.set_cons_zero, List.set_cons_succ]
        refine wpAnyH_take (i := 13) (oi := { dst := some 25, op := Op.move (Operand.tmp 0), type := 22, pos := "right.go:38", after := #[{ on := 12, ground := Ground.guard }], guard := some (12, false) }) (v := undef) rfl (by kernel_rfl) (by kernel_rfl) (by kernel_rfl) (fun _ _ _ h => h) (Or.inr ⟨by rfl, rfl⟩) (by assumption) ?grb13
        try simp only [Act.put, List.setIfInBounds_toArray, List.set_cons_zero, List.set_cons_succ]
        refine wpAnyH_take (i := 14) (oi := { dst := some 26, op := Op.move (Operand.tmp 3), type := 3, pos := "right.go:38", after := #[{ on := 12, ground := Ground.guard }], guard := some (12, false) }) (v := undef) rfl (by kernel_rfl) (by kernel_rfl) (by kernel_rfl) (fun _ _ _ h => h) (Or.inr ⟨by rfl, rfl⟩) (by assumption) ?grb14
        try simp only [Act.put, List.setIfInBounds_toArray, List.set_cons_zero, List.set_cons_succ]
        refine wpAnyH_take (i := 15) (oi := { dst := some 27, op := Op.slice 22 (Operand.tmp 25) none (some (Operand.tmp 26)) none, type := 22, pos := "right.go:38", after := #[{ on := 13, ground := Ground.data }, { on := 14, ground := Ground.data }, { on := 12, ground := Ground.guard }], guard := some (12, false) }) (v := undef) rfl (by kernel_rfl) (by kernel_rfl) (by kernel_rfl) (fun _ _ _ h => h) (Or.inr ⟨by rfl, rfl⟩) (by assumption) ?grb15
        try simp only [Act.put, List.setIfInBounds_toArray, List.set_cons_zero, List.set_cons_succ]
        refine wpAnyH_take (i := 16) (oi := { dst := some 28, op := Op.fieldAddr 43 (Operand.tmp 4) 0, type := 0, pos := "right.go:38", after := #[{ on := 12, ground := Ground.guard }], guard := some (12, false) }) (v := undef) rfl (by kernel_rfl) (by kernel_rfl) (by kernel_rfl) (fun _ _ _ h => h) (Or.inr ⟨by rfl, rfl⟩) (by assumption) ?grb16
        try simp only [Act.put, List.setIfInBounds_toArray, List.set_cons_zero, List.set_cons_succ]
        refine wpAnyH_take (i := 17) (oi := { dst := some 29, op := Op.load 9 (Operand.tmp 28), type := 9, pos := "right.go:38", after := #[{ on := 16, ground := Ground.data }, { on := 12, ground := Ground.guard }], guard := some (12, false) }) (v := undef) rfl (by kernel_rfl) (by kernel_rfl) (by kernel_rfl) (fun _ _ _ h => h) (Or.inr ⟨by rfl, rfl⟩) (by assumption) ?grb17
        try simp only [Act.put, List.setIfInBounds_toArray, List.set_cons_zero, List.set_cons_succ]
        refine wpAnyH_take (i := 18) (oi := { dst := some 30, op := Op.call { callee := Callee.value (Operand.func 42), args := #[Operand.tmp 27, Operand.tmp 29], argTypes := #[22, 9] }, type := 4, pos := "right.go:38", after := #[{ on := 15, ground := Ground.data }, { on := 17, ground := Ground.data }, { on := 12, ground := Ground.chain }, { on := 12, ground := Ground.guard }], guard := some (12, false) }) (v := undef) rfl (by kernel_rfl) (by kernel_rfl) (by kernel_rfl) (fun _ _ _ h => h) (Or.inr ⟨by rfl, rfl⟩) (by assumption) ?grb18
        try simp only [Act.put, List.setIfInBounds_toArray, List.set_cons_zero, List.set_cons_succ]
        refine wpAnyH_take (i := 19) (oi := { dst := some 31, op := Op.pick (Operand.tmp 24) (Operand.const (Value.bool true)) (Operand.tmp 30), type := 4, pos := "right.go:38", after := #[{ on := 12, ground := Ground.data }, { on := 18, ground := Ground.data }], guard := none }) (v := ?gvb19) rfl (by kernel_rfl) (by kernel_rfl) (by kernel_rfl) (fun _ _ _ h => h) (Or.inl ⟨by rfl, ?gyb19⟩) (by assumption) ?grb19
        case gyb19 => (intro w hSw; (try dsimp only at hSw); go_simp; try with_reducible rfl)
        try simp only [Act.put, List.setIfInBounds_toArray, List.set_cons_zero, List.set_cons_succ]
        refine wpAnyH_done (by kernel_rfl) ?_ _
        all_goals
          go_wp2_with fail
          go_ret
          exact ⟨by rw [HO.out]; rfl, by first | exact Below.then HB1.out hbA | exact Below.then HB1.out hbA.drew⟩
      have q0 : (fe != 0) = false := by rw [h0]; rfl
      have HS2 := Lib.hid (show objsF (noB os) 0 os = (!hb && objsF (noB os) (k + 1) (os.drop (k + 1))) by rw [HS.out, h0]; rfl)
      clear h0 F1
      cases hb with
      | true =>
        have HO := Lib.hid (show objsF (noB os) 0 os = false by rw [HS2.out]; rfl)
        go_region_held3 (fun w' => w'.cell? ⟨B1, 0, none⟩ = some (.string x) ∧ w'.cell? ⟨B1, 1, none⟩ = some (.string y)) (exact ⟨x0, x1⟩)
          (first
            | (go_simp; go_at_call 40; refine (S1.out _).mono ?_; rintro e wS ⟨rfl, rfl⟩)
            | (go_simp; go_at_call 41; refine (F2.out _ (Below.then HB1.out (by first | exact hbA | exact hbA.drew))).mono ?_; rintro e wS ⟨rfl, hbS⟩; have hbA : Below W1.heap.size W1 wS := (by first | exact Below.then hbA hbS | exact Below.then hbA.drew hbS); obtain ⟨x0, x1⟩ := (HX.out.keep hbA).cells)
            | (go_simp; go_at_call 42; refine (H1.out _ (Below.then HB1.out (by first | exact hbA | exact hbA.drew))).mono ?_; rintro e wS ⟨rfl, hbS⟩; have hbA : Below W1.heap.size W1 wS := (by first | exact Below.then hbA hbS | exact Below.then hbA.drew hbS); obtain ⟨x0, x1⟩ := (HX.out.keep hbA).cells))
        all_goals
          go_wp2_with fail
          go_ret
          exact ⟨by rw [HO.out]; rfl, by first | exact Below.then HB1.out hbA | exact Below.then HB1.out hbA.drew⟩
      | false =>
        have HO := Lib.hid (show objsF (noB os) (k + 1) (os.drop (k + 1)) = objsF (noB os) 0 os by rw [HS2.out]; rfl)
        go_region_held3 (fun w' => w'.cell? ⟨B1, 0, none⟩ = some (.string x) ∧ w'.cell? ⟨B1, 1, none⟩ = some (.string y)) (exact ⟨x0, x1⟩)
          (first
            | (go_simp; go_at_call 40; refine (S1.out _).mono ?_; rintro e wS ⟨rfl, rfl⟩)
            | (go_simp; go_at_call 41; refine (F2.out _ (Below.then HB1.out (by first | exact hbA | exact hbA.drew))).mono ?_; rintro e wS ⟨rfl, hbS⟩; have hbA : Below W1.heap.size W1 wS := (by first | exact Below.then hbA hbS | exact Below.then hbA.drew hbS); obtain ⟨x0, x1⟩ := (HX.out.keep hbA).cells)
            | (go_simp; go_at_call 42; refine (H1.out _ (Below.then HB1.out (by first | exact hbA | exact hbA.drew))).mono ?_; rintro e wS ⟨rfl, hbS⟩; have hbA : Below W1.heap.size W1 wS := (by first | exact Below.then hbA hbS | exact Below.then hbA.drew hbS); obtain ⟨x0, x1⟩ := (HX.out.keep hbA).cells))
        all_goals
          have HBZ := Lib.hid (Below.then HB1.out hbA)
          go_wp2_with fail
          go_roundw
          case rel => exact ⟨k + 1, by omega, by go_num, HO.out, by first | exact HBZ.out | exact HBZ.out.drew⟩
          case measure => simp [intOf]; omega
    · have HO := Lib.hid (show objsF (noB os) 0 os = true by rw [← HF.out]; exact HEN.out k (by rw [HN.out]; omega))
      go_wp2_with fail
      go_ret
      exact ⟨by rw [HO.out]; rfl, HBR.out⟩
end Go.Proofs.YtodjhmphneoifaaGreatDoor
