/-
  The closures' laws' own 'alive', by a contract. Conditions: the package-level variables as MEnv says.
-/
import Derived.Test.YtepcaglekgeamaaGreatDoorYClo2
import Derived.Test.YtepcaglekgeamaaGreatDoorYMan4
import Derived.Deep.CutBlock
import Derived.Deep.CutRange
import Derived.Deep.DeepCutAuto
import Derived.Deep.RegionWith
import Derived.BigQuiet
import Derived.Test.YtepcaglekgeamaaGreatDoorYRegS
namespace Go.Proofs.YtepcaglekgeamaaGreatDoor
open Go.RowKit

def aliveMan : Man := ⟨false, ofB ⟨#[99]⟩, [], []⟩

def aliveTxt : ByteArray := ⟨(textM aliveMan).toArray⟩

set_option maxRecDepth 100000 in
theorem alive_sha : (shaL [99]).getD 0 0 = 46 ∧ (shaL (textM aliveMan)).getD 0 0 = 110 := ⟨by kernel_rfl, by kernel_rfl⟩

set_option maxRecDepth 100000 in
theorem alive_len : (textM aliveMan).length = 111 := by kernel_rfl

theorem alive_ne : ofB ⟨#[99]⟩ ≠ ofB aliveTxt := by
  intro h
  have h1 : parseD (ofB ⟨#[99]⟩) = parseD (ofB aliveTxt) := by rw [h]
  rw [parseD_of, parseD_of] at h1
  have h2 : sumB ⟨#[99]⟩ = sumB aliveTxt := (Prod.mk.inj h1).1
  have h3 : (shaL [99]).toArray = (shaL (textM aliveMan).toArray.toList).toArray := congrArg ByteArray.data h2
  have h4 : shaL [99] = shaL (textM aliveMan) := by simpa using h3
  have h5 := alive_sha
  rw [h4, h5.2] at h5
  exact absurd h5.1 (by decide)

theorem alive_right : rightM aliveMan = true := (rightM_image rfl).2 ⟨isD_of _, Nat.zero_le _, (fun l h => by cases h), rfl⟩

theorem alive_print : printM aliveMan = (aliveTxt, 0) := by unfold printM; rw [if_pos alive_right]; rfl

theorem alive_parse : parseM aliveTxt = (aliveMan, 0) := by
  rcases printM_cases aliveMan with ⟨t, h1, -, h2, -⟩ | ⟨-, h⟩
  · rw [alive_print] at h1
    obtain rfl := (Prod.mk.inj h1).1
    exact h2
  · rw [alive_right] at h; cases h

theorem fits_of (x : ByteArray) : fitsD (ofB x) x = 0 := by rw [fitsD_of, if_pos rfl]

def aliveObjs : List Obj := [(ofB ⟨#[99]⟩, ⟨#[99]⟩), (ofB aliveTxt, aliveTxt)]

theorem alive_blobs : blobsM aliveMan = [ofB ⟨#[99]⟩] := by
  unfold blobsM
  rw [if_neg (by rw [alive_right]; simp [aliveMan])]
  rfl

theorem alive_find : findO aliveObjs (ofB aliveTxt) = (aliveTxt, 0) ∧ findO aliveObjs (ofB ⟨#[99]⟩) = (⟨#[99]⟩, 0) ∧ findO (aliveObjs.drop 1) (ofB aliveTxt) = (aliveTxt, 0) ∧ findO (aliveObjs.drop 1) (ofB ⟨#[99]⟩) = (⟨#[]⟩, 9) := by
  have hne := alive_ne
  refine ⟨?_, ?_, ?_, ?_⟩
  · simp [aliveObjs, findO, hne, fits_of]
  · simp [aliveObjs, findO, fits_of]
  · simp [aliveObjs, findO, fits_of]
  · simp [aliveObjs, findO, Ne.symm hne]

theorem alive_walk (l : List Obj) (h : findO l (ofB aliveTxt) = (aliveTxt, 0)) : fullL l (ofB aliveTxt) = blobsO l [ofB ⟨#[99]⟩] := by
  have he : errO l (ofB aliveTxt) = 0 := by rw [findO_yes (by rw [h]), h, alive_parse]
  have hm : manO l (ofB aliveTxt) = aliveMan := by unfold manO; rw [h, alive_parse]
  have hw : walkL l 4 noWk (ofB aliveTxt) = .ok ⟨[ofB aliveTxt], [ofB ⟨#[99]⟩]⟩ := by
    rw [walkL_kids (by simp [noWk]) he, hm, show aliveMan.kids = [] from rfl, alive_blobs, kidsL]
    simp [noWk, onceL]
  unfold fullL
  rw [hw]

theorem alive_full : fullL aliveObjs (ofB aliveTxt) = 0 ∧ fullL (aliveObjs.drop 1) (ofB aliveTxt) = 9 := by
  obtain ⟨h1, h2, h3, h4⟩ := alive_find
  refine ⟨?_, ?_⟩
  · rw [alive_walk _ h1, blobsO, h2]; rfl
  · rw [alive_walk _ h3, blobsO, h4]; rfl

set_option maxRecDepth 100000 in
set_option maxHeartbeats 4000000 in
theorem aliveC_t (w : World) (he : MEnv w) :
    Calls Tryz.prog 9 #[] w fun e w' => e = .returned (.bool true) ∧ Below w.heap.size w w' := by
  have O := Lib.hid (fun w' (h : Below w.heap.size w w') => of_any ⟨#[99]⟩ w' (he.below h).tabs (by decide))
  have htz : aliveTxt.size = 111 := by
    show (textM aliveMan).toArray.size = 111
    rw [List.size_toArray, alive_len]
  have hfull := alive_full
  have hpr := alive_print
  have HDZ := Lib.hid (ofB_size ⟨#[99]⟩)
  have HTZ := Lib.hid (ofB_size aliveTxt)
  unfold aliveObjs at hfull
  obtain ⟨T, hT⟩ : ∃ T, aliveTxt = T := ⟨_, rfl⟩
  rw [hT] at htz hfull hpr HTZ
  have OT := Lib.hid (fun w' (h : Below w.heap.size w w') => of_any T w' (he.below h).tabs (by omega))
  obtain ⟨dT, hdT⟩ : ∃ dT, ofB T = dT := ⟨_, rfl⟩
  unfold aliveMan at hpr
  obtain ⟨d, hd⟩ : ∃ d, ofB ⟨#[99]⟩ = d := ⟨_, rfl⟩
  rw [hd] at O hpr hfull HDZ
  rw [hdT] at OT hfull HTZ
  have P := Lib.hid (fun w' (h : Below w.heap.size w w') => by
    have h := PrintM_t ⟨false, d, [], []⟩ (.agg #[.bool false, .string d, .slice none 0 0, .slice none 0 0]) w' ⟨⟨_, _, rfl, Or.inl ⟨rfl, Or.inl rfl⟩, Or.inl ⟨rfl, Or.inl rfl⟩⟩, (show d.size ≤ maxLen by rw [HDZ.out]; decide), by simp, by simp⟩
      ⟨⟨(show d.size < 1099511627776 by rw [HDZ.out]; decide), by simp, by simp⟩, Nat.zero_le _, Nat.zero_le _⟩ (he.below h).lo
    rw [hpr] at h
    exact h)
  have HF := Lib.hid hfull
  have HE := Lib.hid he
  have HSZ := Lib.hid htz
  have q70 : decide ((70 : Int) < (T.size : Int)) = true := decide_eq_true (by omega)
  clear hT hfull hpr hd hdT he htz
  go_enter Tryz.func9, Tryz.ntmps9
  go_wp2_with fail
  refine (O.out w (Below.refl _ _)).mono ?_
  rintro e w1 ⟨rfl, hb1⟩
  have HB1 := Lib.hid hb1
  clear hb1
  go_wp2_with fail
  refine (P.out w1 HB1.out).mono ?_
  rintro e w2 ⟨rfl, hb2⟩
  have HB2 := Lib.hid (Below.then HB1.out hb2)
  clear hb2
  go_wp2_with fail
  refine (O.out w2 HB2.out).mono ?_
  rintro e w3 ⟨rfl, hb3⟩
  have HB3 := Lib.hid (Below.then HB2.out hb3)
  clear hb3
  go_wp2_with fail
  refine (OT.out w3 HB3.out).mono ?_
  rintro e w4 ⟨rfl, hb4⟩
  have HB4 := Lib.hid (Below.then HB3.out hb4)
  clear hb4
  obtain ⟨V, hV⟩ : ∃ V, w4.alloc (.cells #[.string d, .string ⟨#[99]⟩, .string dT, .string T] 40) = V := ⟨_, rfl⟩
  have hbV : Below w4.heap.size w4 V := by rw [← hV]; exact below_new _ _
  have hbl : V.heap[w4.heap.size]? = some (.cells #[.string d, .string ⟨#[99]⟩, .string dT, .string T] 40 (0, 0)) := by rw [← hV]; exact heap_alloc_new w4 _
  have hcl : ∀ j u, #[Value.string d, .string ⟨#[99]⟩, .string dT, .string T][j]? = some u → V.cell? ⟨w4.heap.size, j, none⟩ = some u := fun j u h => by simp [World.cell?, hbl, h]
  have c0 := hcl 0 _ rfl
  have c1 := hcl 1 _ rfl
  have c2 := hcl 2 _ rfl
  have c3 := hcl 3 _ rfl
  have hsz : ∀ o ∈ ([(d, ⟨#[99]⟩), (dT, T)] : List Obj), o.1.size ≤ 1048576 ∧ o.2.size ≤ 1048576 := fun o ho => by
    have h1 := HDZ.out
    have h2 := HTZ.out
    have h3 := HSZ.out
    simp only [List.mem_cons, List.not_mem_nil, or_false] at ho
    rcases ho with rfl | rfl
    · exact ⟨by show d.size ≤ _; omega, (by decide : 1 ≤ 1048576)⟩
    · exact ⟨by show dT.size ≤ _; omega, by show T.size ≤ _; omega⟩
  have hobj : ObjsAt V (.slice (some ⟨w4.heap.size, 0, none⟩) 2 2) [(d, ⟨#[99]⟩), (dT, T)] := ⟨Or.inr ⟨_, 0, 2, rfl, (by decide : 0 < 2), Nat.le_refl 2, by decide, fun i hi => by
    have hi2 : i < 2 := by simpa using hi
    match i, hi2 with
    | 0, _ => exact ⟨c0, c1⟩
    | 1, _ => exact ⟨c2, c3⟩⟩, fun o ho => ⟨Nat.le_trans (hsz o ho).1 (by decide), Nat.le_trans (hsz o ho).2 (by decide)⟩⟩
  have hobj1 : ObjsAt V (.slice (some ⟨w4.heap.size, 2, none⟩) 1 1) (List.drop 1 [(d, ⟨#[99]⟩), (dT, T)]) := ⟨Or.inr ⟨_, 2, 1, rfl, (by decide : 0 < 1), Nat.le_refl 1, by decide, fun i hi => by
    have hi2 : i < 1 := by simpa using hi
    match i, hi2 with
    | 0, _ => exact ⟨c2, c3⟩⟩, fun o ho => by
      have := hsz o (List.mem_of_mem_drop ho)
      exact ⟨Nat.le_trans this.1 (by decide), Nat.le_trans this.2 (by decide)⟩⟩
  have HBV := Lib.hid (Below.then HB4.out hbV)
  have CO := Lib.hid (show ∀ w', Below V.heap.size V w' → Calls Tryz.prog 24 #[.string T] w' fun e w'' => e = .returned (.string dT) ∧ Below w'.heap.size w' w'' from fun w' h => OT.out w' (Below.then HBV.out h))
  have CA := Lib.hid (show ∀ w', Below V.heap.size V w' → Calls Tryz.prog 11 #[.slice (some ⟨w4.heap.size, 0, none⟩) 2 2, .string dT] w' fun e w'' => e = .returned (.int .i64 0) ∧ Below w'.heap.size w' w'' from fun w' h => by
    have hc := cloWhole_t _ _ dT w' (HE.out.below (Below.then HBV.out h)) (hobj.keep h) ⟨(by decide : 2 ≤ 1048576), hsz⟩
    rw [HF.out.1] at hc
    exact hc)
  have CB := Lib.hid (show ∀ w', Below V.heap.size V w' → Calls Tryz.prog 11 #[.slice (some ⟨w4.heap.size, 2, none⟩) 1 1, .string dT] w' fun e w'' => e = .returned (.int .i64 9) ∧ Below w'.heap.size w' w'' from fun w' h => by
    have hc := cloWhole_t _ _ dT w' (HE.out.below (Below.then HBV.out h)) (hobj1.keep h) ⟨(by decide : 1 ≤ 1048576), fun o ho => hsz o (List.mem_of_mem_drop ho)⟩
    rw [HF.out.2] at hc
    exact hc)
  have HV := Lib.hid hV
  clear hV hbV hbl hcl c0 c1 c2 c3 hsz hobj hobj1
  go_upto_region 3 with fail
  rw [HV.out]
  have hbA := Below.refl V.heap.size V
  refine wp_region_held_drew (S := fun _ => True) (by kernel_rfl) ?hSr (fun hHeld => ?hRr)
  case hSr => exact trivial
  refine wpAnyH_take (i := 0) (oi := { dst := some 17, op := Op.move (Operand.tmp 2), type := 24, pos := "law.go:17", after := #[], guard := none }) (v := ?gvr0) rfl (by kernel_rfl) (by kernel_rfl) (by kernel_rfl) (fun _ _ _ h => h) (Or.inl ⟨by rfl, ?gyr0⟩) (by assumption) ?grr0
  case gyr0 => (intro w hSw; (try dsimp only at hSw); go_simp; try with_reducible rfl)
  try simp only [Act.put, List.setIfInBounds_toArray, List.set_cons_zero, List.set_cons_succ]
  refine wpAnyH_take (i := 1) (oi := { dst := some 18, op := Op.binOp BinOp.eql 24 (Operand.tmp 17) (Operand.const (Value.int IntKind.i64 0)) 24, type := 4, pos := "law.go:17", after := #[{ on := 0, ground := Ground.data }], guard := none }) (v := ?gvr1) rfl (by kernel_rfl) (by kernel_rfl) (by kernel_rfl) (fun _ _ _ h => h) (Or.inl ⟨by rfl, ?gyr1⟩) (by assumption) ?grr1
  case gyr1 => (intro w hSw; (try dsimp only at hSw); go_simp; try with_reducible rfl)
  try simp only [Act.put, List.setIfInBounds_toArray, List.set_cons_zero, List.set_cons_succ]
  refine wpAnyH_take (i := 2) (oi := { dst := some 19, op := Op.move (Operand.tmp 18), type := 4, pos := "law.go:17", after := #[{ on := 1, ground := Ground.data }], guard := none }) (v := ?gvr2) rfl (by kernel_rfl) (by kernel_rfl) (by kernel_rfl) (fun _ _ _ h => h) (Or.inl ⟨by rfl, ?gyr2⟩) (by assumption) ?grr2
  case gyr2 => (intro w hSw; (try dsimp only at hSw); go_simp; try with_reducible rfl)
  try simp only [Act.put, List.setIfInBounds_toArray, List.set_cons_zero, List.set_cons_succ]
  refine wpAnyH_take (i := 3) (oi := { dst := some 20, op := Op.move (Operand.tmp 1), type := 9, pos := "law.go:17", after := #[{ on := 2, ground := Ground.guard }], guard := some (2, true) }) (v := ?gvr3) rfl (by kernel_rfl) (by kernel_rfl) (by kernel_rfl) (fun _ _ _ h => h) (Or.inl ⟨by rfl, ?gyr3⟩) (by assumption) ?grr3
  case gyr3 => (intro w hSw; (try dsimp only at hSw); go_simp; try with_reducible rfl)
  try simp only [Act.put, List.setIfInBounds_toArray, List.set_cons_zero, List.set_cons_succ]
  refine wpAnyH_take (i := 4) (oi := { dst := some 21, op := Op.call { callee := Callee.builtin Builtin.len, args := #[Operand.tmp 20], argTypes := #[9] }, type := 3, pos := "law.go:17", after := #[{ on := 3, ground := Ground.data }, { on := 2, ground := Ground.guard }], guard := some (2, true) }) (v := ?gvr4) rfl (by kernel_rfl) (by kernel_rfl) (by kernel_rfl) (fun _ _ _ h => h) (Or.inl ⟨by rfl, ?gyr4⟩) (by assumption) ?grr4
  case gyr4 => (intro w hSw; (try dsimp only at hSw); go_simp; try with_reducible rfl)
  try simp only [Act.put, List.setIfInBounds_toArray, List.set_cons_zero, List.set_cons_succ]
  refine wpAnyH_take (i := 5) (oi := { dst := some 22, op := Op.binOp BinOp.gtr 3 (Operand.tmp 21) (Operand.const (Value.int IntKind.i64 70)) 3, type := 4, pos := "law.go:17", after := #[{ on := 4, ground := Ground.data }, { on := 2, ground := Ground.guard }], guard := some (2, true) }) (v := ?gvr5) rfl (by kernel_rfl) (by kernel_rfl) (by kernel_rfl) (fun _ _ _ h => h) (Or.inl ⟨by rfl, ?gyr5⟩) (by assumption) ?grr5
  case gyr5 => (intro w hSw; (try dsimp only at hSw); go_simp; try with_reducible rfl)
  try simp only [Act.put, List.setIfInBounds_toArray, List.set_cons_zero, List.set_cons_succ]
  refine wpAnyH_take (i := 6) (oi := { dst := some 23, op := Op.pick (Operand.tmp 19) (Operand.tmp 22) (Operand.const (Value.bool false)), type := 4, pos := "law.go:17", after := #[{ on := 2, ground := Ground.data }, { on := 5, ground := Ground.data }], guard := none }) (v := ?gvr6) rfl (by kernel_rfl) (by kernel_rfl) (by kernel_rfl) (fun _ _ _ h => h) (Or.inl ⟨by rfl, ?gyr6⟩) (by assumption) ?grr6
  case gyr6 => (intro w hSw; (try dsimp only at hSw); go_simp; try with_reducible rfl)
  try simp only [Act.put, List.setIfInBounds_toArray, List.set_cons_zero, List.set_cons_succ]
  refine wpAnyH_take (i := 7) (oi := { dst := some 24, op := Op.move (Operand.tmp 23), type := 4, pos := "law.go:17", after := #[{ on := 6, ground := Ground.data }, { on := 2, ground := Ground.chain }], guard := none }) (v := ?gvr7) rfl (by kernel_rfl) (by kernel_rfl) (by kernel_rfl) (fun _ _ _ h => h) (Or.inl ⟨by rfl, ?gyr7⟩) (by assumption) ?grr7
  case gyr7 => (intro w hSw; (try dsimp only at hSw); go_simp; try with_reducible rfl)
  try simp only [Act.put, List.setIfInBounds_toArray, List.set_cons_zero, List.set_cons_succ]
  refine wpAnyH_take (i := 8) (oi := { dst := some 25, op := Op.move (Operand.tmp 3), type := 22, pos := "law.go:17", after := #[{ on := 7, ground := Ground.guard }], guard := some (7, true) }) (v := ?gvr8) rfl (by kernel_rfl) (by kernel_rfl) (by kernel_rfl) (fun _ _ _ h => h) (Or.inl ⟨by rfl, ?gyr8⟩) (by assumption) ?grr8
  case gyr8 => (intro w hSw; (try dsimp only at hSw); go_simp; try with_reducible rfl)
  try simp only [Act.put, List.setIfInBounds_toArray, List.set_cons_zero, List.set_cons_succ]
  refine wpAnyH_take (i := 9) (oi := { dst := some 26, op := Op.move (Operand.tmp 1), type := 9, pos := "law.go:17", after := #[{ on := 7, ground := Ground.guard }], guard := some (7, true) }) (v := ?gvr9) rfl (by kernel_rfl) (by kernel_rfl) (by kernel_rfl) (fun _ _ _ h => h) (Or.inl ⟨by rfl, ?gyr9⟩) (by assumption) ?grr9
  case gyr9 => (intro w hSw; (try dsimp only at hSw); go_simp; try with_reducible rfl)
  try simp only [Act.put, List.setIfInBounds_toArray, List.set_cons_zero, List.set_cons_succ]
  refine wpAnyH_ready (rs := [10]) (by kernel_rfl) (by simp) ?_
  refine AllReadyH.cons (o := { dst := some 27, op := Op.call { callee := Callee.value (Operand.func 24), args := #[Operand.tmp 26], argTypes := #[9] }, type := 9, pos := "law.go:17", after := #[{ on := 9, ground := Ground.data }, { on := 7, ground := Ground.chain }, { on := 7, ground := Ground.guard }], guard := some (7, true) }) rfl (fun K hK => ?_) AllReadyH.nil
  rw [if_pos (by kernel_rfl)]
  go_simp
  go_wp2_with (go_at_call 24; refine (CO.out V.drew (hbA.drew)).mono ?_; rintro e wr1 ⟨rfl, hbn⟩)
  have hbr1 := Below.then (hbA.drew) hbn
  clear hbn
  refine hK.out _ _ ?hSr10 (fun hHeld10 => ?hRr10)
  case hSr10 => exact trivial
  clear hK K
  try simp only [Act.put, List.setIfInBounds_toArray, List.set_cons_zero, List.set_cons_succ]
  refine wpAnyH_ready (rs := [11]) (by kernel_rfl) (by simp) ?_
  refine AllReadyH.cons (o := { dst := some 28, op := Op.call { callee := Callee.value (Operand.func 11), args := #[Operand.tmp 25, Operand.tmp 27], argTypes := #[22, 9] }, type := 24, pos := "law.go:17", after := #[{ on := 8, ground := Ground.data }, { on := 10, ground := Ground.data }, { on := 10, ground := Ground.chain }, { on := 7, ground := Ground.guard }], guard := some (7, true) }) rfl (fun K hK => ?_) AllReadyH.nil
  rw [if_pos (by kernel_rfl)]
  go_simp
  go_wp2_with (go_at_call 11; refine (CA.out wr1 (hbr1)).mono ?_; rintro e wr2 ⟨rfl, hbn⟩)
  have hbr2 := Below.then (hbr1) hbn
  clear hbn
  refine hK.out _ _ ?hSr11 (fun hHeld11 => ?hRr11)
  case hSr11 => exact trivial
  clear hK K
  try simp only [Act.put, List.setIfInBounds_toArray, List.set_cons_zero, List.set_cons_succ]
  refine wpAnyH_take (i := 12) (oi := { dst := some 29, op := Op.binOp BinOp.eql 24 (Operand.tmp 28) (Operand.const (Value.int IntKind.i64 0)) 24, type := 4, pos := "law.go:17", after := #[{ on := 11, ground := Ground.data }, { on := 7, ground := Ground.guard }], guard := some (7, true) }) (v := ?gvr12) rfl (by kernel_rfl) (by kernel_rfl) (by kernel_rfl) (fun _ _ _ h => h) (Or.inl ⟨by rfl, ?gyr12⟩) (by assumption) ?grr12
  case gyr12 => (intro w hSw; (try dsimp only at hSw); go_simp; try with_reducible rfl)
  try simp only [Act.put, List.setIfInBounds_toArray, List.set_cons_zero, List.set_cons_succ]
  refine wpAnyH_take (i := 13) (oi := { dst := some 30, op := Op.pick (Operand.tmp 24) (Operand.tmp 29) (Operand.const (Value.bool false)), type := 4, pos := "law.go:17", after := #[{ on := 7, ground := Ground.data }, { on := 12, ground := Ground.data }], guard := none }) (v := ?gvr13) rfl (by kernel_rfl) (by kernel_rfl) (by kernel_rfl) (fun _ _ _ h => h) (Or.inl ⟨by rfl, ?gyr13⟩) (by assumption) ?grr13
  case gyr13 => (intro w hSw; (try dsimp only at hSw); go_simp; try with_reducible rfl)
  try simp only [Act.put, List.setIfInBounds_toArray, List.set_cons_zero, List.set_cons_succ]
  refine wpAnyH_take (i := 14) (oi := { dst := some 31, op := Op.move (Operand.tmp 30), type := 4, pos := "law.go:17", after := #[{ on := 13, ground := Ground.data }, { on := 11, ground := Ground.chain }], guard := none }) (v := ?gvr14) rfl (by kernel_rfl) (by kernel_rfl) (by kernel_rfl) (fun _ _ _ h => h) (Or.inl ⟨by rfl, ?gyr14⟩) (by assumption) ?grr14
  case gyr14 => (intro w hSw; (try dsimp only at hSw); go_simp; try with_reducible rfl)
  try simp only [Act.put, List.setIfInBounds_toArray, List.set_cons_zero, List.set_cons_succ]
  refine wpAnyH_take (i := 15) (oi := { dst := some 32, op := Op.move (Operand.tmp 3), type := 22, pos := "law.go:17", after := #[{ on := 14, ground := Ground.guard }], guard := some (14, true) }) (v := ?gvr15) rfl (by kernel_rfl) (by kernel_rfl) (by kernel_rfl) (fun _ _ _ h => h) (Or.inl ⟨by rfl, ?gyr15⟩) (by assumption) ?grr15
  case gyr15 => (intro w hSw; (try dsimp only at hSw); go_simp; try with_reducible rfl)
  try simp only [Act.put, List.setIfInBounds_toArray, List.set_cons_zero, List.set_cons_succ]
  refine wpAnyH_take (i := 16) (oi := { dst := some 33, op := Op.slice 22 (Operand.tmp 32) (some (Operand.const (Value.int IntKind.i64 1))) none none, type := 22, pos := "law.go:17", after := #[{ on := 15, ground := Ground.data }, { on := 14, ground := Ground.guard }], guard := some (14, true) }) (v := ?gvr16) rfl (by kernel_rfl) (by kernel_rfl) (by kernel_rfl) (fun _ _ _ h => h) (Or.inl ⟨by rfl, ?gyr16⟩) (by assumption) ?grr16
  case gyr16 => (intro w hSw; (try dsimp only at hSw); go_simp; try with_reducible rfl)
  try simp only [Act.put, List.setIfInBounds_toArray, List.set_cons_zero, List.set_cons_succ]
  refine wpAnyH_take (i := 17) (oi := { dst := some 34, op := Op.move (Operand.tmp 1), type := 9, pos := "law.go:17", after := #[{ on := 14, ground := Ground.guard }], guard := some (14, true) }) (v := ?gvr17) rfl (by kernel_rfl) (by kernel_rfl) (by kernel_rfl) (fun _ _ _ h => h) (Or.inl ⟨by rfl, ?gyr17⟩) (by assumption) ?grr17
  case gyr17 => (intro w hSw; (try dsimp only at hSw); go_simp; try with_reducible rfl)
  try simp only [Act.put, List.setIfInBounds_toArray, List.set_cons_zero, List.set_cons_succ]
  refine wpAnyH_ready (rs := [18]) (by kernel_rfl) (by simp) ?_
  refine AllReadyH.cons (o := { dst := some 35, op := Op.call { callee := Callee.value (Operand.func 24), args := #[Operand.tmp 34], argTypes := #[9] }, type := 9, pos := "law.go:17", after := #[{ on := 17, ground := Ground.data }, { on := 14, ground := Ground.chain }, { on := 14, ground := Ground.guard }], guard := some (14, true) }) rfl (fun K hK => ?_) AllReadyH.nil
  rw [if_pos (by kernel_rfl)]
  go_simp
  go_wp2_with (go_at_call 24; refine (CO.out wr2 (hbr2)).mono ?_; rintro e wr3 ⟨rfl, hbn⟩)
  have hbr3 := Below.then (hbr2) hbn
  clear hbn
  refine hK.out _ _ ?hSr18 (fun hHeld18 => ?hRr18)
  case hSr18 => exact trivial
  clear hK K
  try simp only [Act.put, List.setIfInBounds_toArray, List.set_cons_zero, List.set_cons_succ]
  refine wpAnyH_ready (rs := [19]) (by kernel_rfl) (by simp) ?_
  refine AllReadyH.cons (o := { dst := some 36, op := Op.call { callee := Callee.value (Operand.func 11), args := #[Operand.tmp 33, Operand.tmp 35], argTypes := #[22, 9] }, type := 24, pos := "law.go:17", after := #[{ on := 16, ground := Ground.data }, { on := 18, ground := Ground.data }, { on := 18, ground := Ground.chain }, { on := 14, ground := Ground.guard }], guard := some (14, true) }) rfl (fun K hK => ?_) AllReadyH.nil
  rw [if_pos (by kernel_rfl)]
  go_simp
  go_wp2_with (go_at_call 11; refine (CB.out wr3 (hbr3)).mono ?_; rintro e wr4 ⟨rfl, hbn⟩)
  have hbr4 := Below.then (hbr3) hbn
  clear hbn
  refine hK.out _ _ ?hSr19 (fun hHeld19 => ?hRr19)
  case hSr19 => exact trivial
  clear hK K
  try simp only [Act.put, List.setIfInBounds_toArray, List.set_cons_zero, List.set_cons_succ]
  refine wpAnyH_take (i := 20) (oi := { dst := some 37, op := Op.binOp BinOp.eql 24 (Operand.tmp 36) (Operand.const (Value.int IntKind.i64 9)) 24, type := 4, pos := "law.go:17", after := #[{ on := 19, ground := Ground.data }, { on := 14, ground := Ground.guard }], guard := some (14, true) }) (v := ?gvr20) rfl (by kernel_rfl) (by kernel_rfl) (by kernel_rfl) (fun _ _ _ h => h) (Or.inl ⟨by rfl, ?gyr20⟩) (by assumption) ?grr20
  case gyr20 => (intro w hSw; (try dsimp only at hSw); go_simp; try with_reducible rfl)
  try simp only [Act.put, List.setIfInBounds_toArray, List.set_cons_zero, List.set_cons_succ]
  refine wpAnyH_take (i := 21) (oi := { dst := some 38, op := Op.pick (Operand.tmp 31) (Operand.tmp 37) (Operand.const (Value.bool false)), type := 4, pos := "law.go:17", after := #[{ on := 14, ground := Ground.data }, { on := 20, ground := Ground.data }], guard := none }) (v := ?gvr21) rfl (by kernel_rfl) (by kernel_rfl) (by kernel_rfl) (fun _ _ _ h => h) (Or.inl ⟨by rfl, ?gyr21⟩) (by assumption) ?grr21
  case gyr21 => (intro w hSw; (try dsimp only at hSw); go_simp; try with_reducible rfl)
  try simp only [Act.put, List.setIfInBounds_toArray, List.set_cons_zero, List.set_cons_succ]
  refine wpAnyH_take (i := 22) (oi := { dst := some 0, op := Op.assign (Operand.tmp 38), type := 4, pos := "law.go:17", after := #[{ on := 21, ground := Ground.data }, { on := 19, ground := Ground.chain }, { on := 0, ground := Ground.phase }, { on := 1, ground := Ground.phase }, { on := 2, ground := Ground.phase }, { on := 3, ground := Ground.phase }, { on := 4, ground := Ground.phase }, { on := 5, ground := Ground.phase }, { on := 6, ground := Ground.phase }, { on := 7, ground := Ground.phase }, { on := 8, ground := Ground.phase }, { on := 9, ground := Ground.phase }, { on := 10, ground := Ground.phase }, { on := 11, ground := Ground.phase }, { on := 12, ground := Ground.phase }, { on := 13, ground := Ground.phase }, { on := 14, ground := Ground.phase }, { on := 15, ground := Ground.phase }, { on := 16, ground := Ground.phase }, { on := 17, ground := Ground.phase }, { on := 18, ground := Ground.phase }, { on := 19, ground := Ground.phase }, { on := 20, ground := Ground.phase }, { on := 21, ground := Ground.phase }], guard := none }) (v := ?gvr22) rfl (by kernel_rfl) (by kernel_rfl) (by kernel_rfl) (fun _ _ _ h => h) (Or.inl ⟨by rfl, ?gyr22⟩) (by assumption) ?grr22
  case gyr22 => (intro w hSw; (try dsimp only at hSw); go_simp; try with_reducible rfl)
  try simp only [Act.put, List.setIfInBounds_toArray, List.set_cons_zero]
  refine wpAnyH_done (by kernel_rfl) ?_ _
  have HEND := Lib.hid (Below.then HBV.out hbr4)
  clear hbr1 hbr2 hbr3 hbr4
  go_wp2_with fail
  go_ret
  exact ⟨rfl, HEND.out⟩
end Go.Proofs.YtepcaglekgeamaaGreatDoor
