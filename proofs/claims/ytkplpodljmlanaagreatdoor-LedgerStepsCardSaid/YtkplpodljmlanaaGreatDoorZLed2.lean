/-
  The program's headed and filled, by contracts: what steps write. Conditions: few bytes; octet's errors lie where they lie.
  The program's laying and its closure, by contracts: steps in memory. Conditions: octet's errors lie where they lie.
  slices.Equal of rows of strings, the document's own Same of any two rows, the program's Right of a ledger, by contracts. Conditions: octet's errors lie where they lie.
  The program's adding, renewing and Steps, by contracts. Conditions: octet's errors lie where they lie.
  The program's written, by a contract: steps saved and flushed, one by one. Conditions: at most 100 writes a step; octet's errors lie where they lie.
  The program's Add, Renew and Format, by contracts. Conditions: octet's errors lie where they lie.
  The program's Format, by a contract. Conditions: octet's errors lie where they lie.
  Plain facts of ledgers: what Format, Add and Renew come to. Conditions: none.
  The laws' few, texts and alive, by contracts. Conditions: octet's errors lie where they lie.
  What the laws of ledgers share: texts and Add or Renew in one region, plain facts of both halves. Conditions: none.
-/
import Derived.Test.YtkplpodljmlanaaGreatDoorZLed1
import Derived.Deep.RegionHeld3
import Derived.Deep.RegionLaw
import Derived.Deep.AppendLies
import Derived.Test.YtkplpodljmlanaaGreatDoorZOct2
import Derived.Deep.DeepCutAuto
import Derived.BigQuiet
import Derived.Lib.MinMax
import Derived.BigRegion
/-! The program's headed and filled, by contracts: what steps write. Conditions: few bytes; octet's errors lie where they lie. -/
namespace Go.Proofs.YtkplpodljmlanaaGreatDoor
open Go.RowKit Go.WideShapes

theorem infoWrite2 : (Tryz.prog.info? 48).map (·.size) = some 2 := by kernel_rfl
set_option maxRecDepth 100000 in
set_option maxHeartbeats 2000000 in
theorem headed_t (aD aS aZ : Addr) (p r g u : Nat) (w : World) (he : Env w aD aS aZ) (hg : g < 281474976710656) (hu : u < 16777216) :
    Calls Tryz.prog 46 #[.agg #[.int .i64 p, .int .i64 r], .int .i64 g, .int .i64 u] w fun e w' => e = .returned (.agg #[.int .i64 p, .string (headB g u)]) ∧ Below w.heap.size w w' := by
  obtain ⟨W, hW⟩ : ∃ W, (w.alloc (.cells #[.int .i64 p, .int .i64 r] 71)).alloc (.cells #[zeroV, .string ⟨#[]⟩] 48) = W := ⟨_, rfl⟩
  have HB := Lib.hid (show Below w.heap.size w W by rw [← hW]; exact Below.then (below_new _ _) (below_new _ _))
  have HA := Lib.hid (show At2 71 W w.heap.size (.int .i64 p) (.int .i64 r) by rw [← hW]; exact (At2.new _ _ _ _).keep (below_new _ _))
  have HC := Lib.hid (show At2 48 W (w.heap.size + 1) zeroV (.string ⟨#[]⟩) by
    rw [← hW]
    have e := At2.new 48 (w.alloc (.cells #[.int .i64 p, .int .i64 r] 71)) zeroV (.string ⟨#[]⟩)
    rwa [World.size_alloc] at e)
  have HX := Lib.hid (fun w' (hb : Below W.heap.size W w') => headText_t aD aS aZ g u w' (he.keep (Below.then HB.out hb)) hg hu)
  obtain ⟨x, hx⟩ : ∃ x, headB g u = x := ⟨_, rfl⟩
  rw [hx] at HX ⊢
  have HW := Lib.hid hW
  clear hW he hx
  go_enter Tryz.func46, Tryz.ntmps46
  go_upto_region 1 with fail
  rw [HW.out]
  obtain ⟨a0, a1⟩ := HA.out.cells
  obtain ⟨b0, b1⟩ := HC.out.cells
  obtain ⟨f0, f1⟩ := HC.out.free
  have hbA := Below.refl W.heap.size W
  go_region_law (first | (go_simp; go_at_call 60; refine (HX.out _ (by first | exact hbA | exact hbA.drew)).mono ?_; rintro e wS ⟨rfl, hbS⟩; have hbA : Below W.heap.size W wS := (by first | exact Below.then hbA hbS | exact Below.then hbA.drew hbS); obtain ⟨a0, a1⟩ := (HA.out.keep hbA).cells; obtain ⟨b0, b1⟩ := (HC.out.keep hbA).cells; obtain ⟨f0, f1⟩ := (HC.out.keep hbA).free))
  all_goals
    go_wp2_with fail
    exact bodyPost_ret (results_cell_row (p := 6) rfl _ _ (w.heap.size + 1) 48 _ (0, 0) _ rfl ((HC.out.keep hbA).set _ _) Tryz.underlying48 rfl infoWrite2) rfl ⟨rfl, set2_below (Below.then HB.out hbA) (by omega) _ _⟩

theorem fill_end (there fresh : List UInt8) (k : Nat) (h : fresh ≠ []) (h1 : ¬ (there.length / 128 + k) * 128 < (there ++ fresh).length) (h2 : k ≤ fillN there fresh) : k = fillN there fresh := by
  unfold fillN at *
  rw [if_neg h] at *
  rw [List.length_append] at *
  omega
theorem one_write (x : Int × ByteArray) : ∀ u ∈ [Value.int .i64 x.1, Value.string x.2], u.oneCell' = true := by
  intro u hu
  simp at hu
  rcases hu with rfl | rfl <;> rfl
set_option maxRecDepth 100000 in
set_option maxHeartbeats 4000000 in
theorem filled_t (p r : Nat) (th fr : ByteArray) (w : World) (hp : p ≤ 64) (hz : th.size + fr.size ≤ 4000) :
    Calls Tryz.prog 90 #[.agg #[.int .i64 p, .int .i64 r], .string th, .string fr] w fun e w' => ∃ v, e = .returned v ∧ PairsAt w' v ((fillL p th.data.toList fr.data.toList (fillN th.data.toList fr.data.toList)).map writeCell) ∧ Below w.heap.size w w' := by
  obtain ⟨i0, hi, hz0, hz1, hz2⟩ := info_parts infoWrite
  obtain ⟨W, hW⟩ : ∃ W, w.alloc (.cells #[.int .i64 p, .int .i64 r] 71) = W := ⟨_, rfl⟩
  have HB := Lib.hid (show Below w.heap.size w W by rw [← hW]; exact below_new _ _)
  have HA := Lib.hid (show At2 71 W w.heap.size (.int .i64 p) (.int .i64 r) by rw [← hW]; exact At2.new _ _ _ _)
  have HW := Lib.hid hW
  clear hW
  by_cases h0 : fr.size = 0
  · have hfe : fr = ⟨#[]⟩ := by
      apply ByteArray.ext; exact Array.eq_empty_of_size_eq_zero h0
    have HO := Lib.hid (show (fillL p th.data.toList fr.data.toList (fillN th.data.toList fr.data.toList)) = [] by
      unfold fillN
      rw [if_pos (by rw [hfe])]
      rfl)
    subst hfe
    clear hz
    go_enter Tryz.func90, Tryz.ntmps90
    go_upto_region 1 with fail
    rw [HW.out]
    go_wp2_with fail
    go_ret
    exact ⟨_, rfl, by rw [HO.out]; exact Or.inl ⟨rfl, Or.inl rfl⟩, HB.out⟩
  · have hne : fr.data.toList ≠ [] := by
      intro e; apply h0; rw [← toList_size, e]; rfl
    have q0 : (fr.toList == []) = false := by
      rw [beq_eq_false_iff_ne, ByteArray.toList_eq]; exact hne
    have q1 : fr.toList.isEmpty = false := by
      rw [ByteArray.toList_eq, List.isEmpty_eq_false_iff]; exact hne
    have HNE := Lib.hid hne
    have htx : (th ++ fr).data.toList = th.data.toList ++ fr.data.toList := by rw [ByteArray.data_append]; simp
    have htz : (th ++ fr).size = th.size + fr.size := ByteArray.size_append
    obtain ⟨tx, htxe⟩ : ∃ t, th ++ fr = t := ⟨_, rfl⟩
    rw [htxe] at htx htz
    obtain ⟨A, hA⟩ : ∃ A, th.size / 128 = A := ⟨_, rfl⟩
    have hA1 : (th.size : Int) / 128 = (A : Int) := by omega
    have hA2 : (th.size : Int).tdiv 128 = (A : Int) := by rw [Int.tdiv_eq_ediv_of_nonneg (by omega)]; exact hA1
    have hA3 : A ≤ 32 := by omega
    have HAA := Lib.hid (show th.data.toList.length / 128 = A by rw [toList_size]; exact hA)
    have HTX := Lib.hid htx
    have HLEN := Lib.hid (show (th.data.toList ++ fr.data.toList).length = tx.size by rw [← htx, toList_size])
    have SEC := Lib.hid (fun (s : ByteArray) (w' : World) (hs : s.size ≤ 4000) => lsector_t s w' (by omega))
    have htz2 : tx.size ≤ 4000 := by omega
    clear htx hne h0 hA htz
    go_enter Tryz.func90, Tryz.ntmps90
    go_upto_region 1 with fail
    rw [HW.out]
    go_wp2_with fail
    go_loopw [8, 9] (fun lv iv wr => ∃ k : Nat, k ≤ fillN th.data.toList fr.data.toList ∧ k ≤ 33 ∧ iv = .int .i64 ((A + k : Nat) : Int) ∧ (∃ a c, lv = .slice a k c) ∧ wr.ownsRow W.heap.size 48 2 lv k (cellsL ((fillL p th.data.toList fr.data.toList k).map writeCell)) ∧ Below W.heap.size W wr) (fun _ iv _ => tx.size - (intOf iv).toNat)
    case atStart => exact ⟨0, Nat.zero_le _, by omega, rfl, ⟨_, _, rfl⟩, World.ownsRow_nil _ _ _ _, Below.refl _ _⟩
    case round =>
      obtain ⟨k, hk, hk33, rfl, ⟨a, c, rfl⟩, hown, hb⟩ := hrel
      obtain ⟨i, hik⟩ : ∃ i, A + k = i := ⟨_, rfl⟩
      rw [hik]
      have HO := Lib.hid hown
      have HBR := Lib.hid hb
      have HK := Lib.hid hk
      clear hown hb hk
      by_cases hlt : i * 128 < tx.size
      · have hi1 : (i : Int) * 128 < (tx.size : Int) := by omega
        have hss : (tx.extract (i * 128) tx.size).size ≤ 4000 := by simp; omega
        have hse : (tx.extract (i * 128) tx.size).data.toList = (th.data.toList ++ fr.data.toList).drop (i * 128) := by rw [extract_end, HTX.out]
        have SX := fun w' => SEC.out (tx.extract (i * 128) tx.size) w' hss
        rw [hse] at SX
        have HST := Lib.hid (show cellsL ((fillL p th.data.toList fr.data.toList (k + 1)).map writeCell) = cellsL ((fillL p th.data.toList fr.data.toList k).map writeCell) ++ [.int .i64 ((p + 1 + i : Nat) : Int), .string (secB' ((th.data.toList ++ fr.data.toList).drop (i * 128)))] by
          rw [fillL_succ, List.map_append, cellsL_append, HAA.out, hik]; rfl)
        obtain ⟨sx, hsx⟩ : ∃ s, tx.extract (i * 128) tx.size = s := ⟨_, rfl⟩
        rw [hsx] at SX
        obtain ⟨q, hq⟩ : ∃ q, secB' ((th.data.toList ++ fr.data.toList).drop (i * 128)) = q := ⟨_, rfl⟩
        rw [hq] at SX HST
        have hqs : q.size = 128 := by rw [← hq]; exact secB'_size _
        have SX := Lib.hid SX
        obtain ⟨j, hj⟩ : ∃ j, i * 128 = j := ⟨_, rfl⟩
        have hji : (i : Int) * 128 = (j : Int) := by omega
        have hjt : j ≤ tx.size := by omega
        rw [hj] at hsx
        have hsx2 : tx.extract (j : Int).toNat tx.size = sx := by rw [Int.toNat_natCast]; exact hsx
        have hpi : (p : Int) + 1 + (i : Int) = ((p + 1 + i : Nat) : Int) := by omega
        have hi2 : i ≤ 65 := by omega
        have hw1 : IntKind.i64.wrap ((p : Int) + 1) = (p : Int) + 1 := by rw [IntKind.wrap_i64]; omega
        have hw2 : IntKind.i64.wrap (((p + 1 + i : Nat) : Int)) = ((p + 1 + i : Nat) : Int) := by rw [IntKind.wrap_i64]; omega
        have hw3 : IntKind.i64.wrap (j : Int) = (j : Int) := by rw [IntKind.wrap_i64]; omega
        obtain ⟨pi, hpie⟩ : ∃ x, p + 1 + i = x := ⟨_, rfl⟩
        rw [hpie] at hpi hw2 HST
        clear hse hq hss hj hpie
        obtain ⟨a0, a1⟩ := (HA.out.keep HBR.out).cells
        have hbA := Below.refl wr.heap.size wr
        go_upto_region 8 with fail
        have hk64 : (k + 1) * 24 ≤ 140737488355328 := by omega
        have hkm : k + 1 ≤ maxLen := by unfold maxLen; omega
        go_region_law (first
          | (refine step_append_lies _ (by rfl) (.tmp 25) (.tmp 37) 23 (by rfl) W.heap.size 48 i0 (.agg #[.int .i64 0, .string ⟨#[]⟩]) 2 24 Tryz.underlying23 hi hz0 hz1 hz2 rfl (by decide) _ k _ (by rfl) (HOS.out.alloc _) ⟨wS.heap.size, 0, none⟩ 1 1 [.int .i64 pi, .string q] (by rfl) (by rfl) (World.news_of_block (heap_alloc_new wS _)) (one_write (pi, q)) (by decide) hkm hk64 hSZ (wS.heap.size + 1) (by simp) ?_; intro g3 c3 w3 hown3 hgrow3 hat3 hlt3)
          | (go_simp; go_at_call 75; refine (SX.out _).mono ?_; rintro e wS ⟨rfl, hbS⟩; have hbA : Below wr.heap.size wr wS := (by first | exact Below.then hbA hbS | exact Below.then hbA.drew hbS); obtain ⟨a0, a1⟩ := (HA.out.keep (Below.then HBR.out hbA)).cells; have HOS := Lib.hid (HO.out.kept (grownBy_of_below hbA) (by cases (Value.slice a k c).ownBlock <;> simp)); have hSZ : W.heap.size ≤ (wS.alloc (.cells #[.int .i64 pi, .string q] 48)).heap.size := (by have h1 := HBR.out.size; have h2 := hbA.size; rw [World.size_alloc]; omega)))
        all_goals
          have HB3 := Lib.hid (show Below W.heap.size W w3 from (((Below.then HBR.out hbA).alloc (by have h1 := HBR.out.size; have h2 := hbA.size; omega) _).grown hgrow3 (by have h1 := HBR.out.size; have h2 := hbA.size; simp; omega) (fun k' hk' => (HO.out.lt k' hk').1)))
          rw [show k + 1 = k + 1 from rfl] at hown3
          have HO3 := Lib.hid (show w3.ownsRow W.heap.size 48 2 (.slice (some ⟨g3, 0, none⟩) (k + 1) c3) (k + 1) (cellsL ((fillL p th.data.toList fr.data.toList (k + 1)).map writeCell)) by rw [HST.out]; exact hown3)
          have hki : A + (k + 1) = i + 1 := by omega
          have HKN := Lib.hid (show k + 1 ≤ fillN th.data.toList fr.data.toList by
            have := fillN_ge (there := th.data.toList) (fresh := fr.data.toList) (i := i) HNE.out (by rw [HLEN.out]; exact hlt)
            rw [HAA.out] at this
            omega)
          clear hown3 hgrow3 hbA a0 a1 hat3
          go_wp2_with fail
          go_roundw
          case rel => exact ⟨k + 1, HKN.out, by omega, by rw [hki]; go_num, ⟨_, _, rfl⟩, HO3.out, HB3.out⟩
          case measure => simp [intOf]; omega
      · have hkN := fill_end th.data.toList fr.data.toList k HNE.out (by rw [HAA.out, hik, HLEN.out]; exact hlt) HK.out
        have HP := Lib.hid (show PairsAt wr (.slice a k c) ((fillL p th.data.toList fr.data.toList (fillN th.data.toList fr.data.toList)).map writeCell) by
          rw [← hkN]
          exact PairsAt.of_own HO.out (by rw [List.length_map, fillL_length]))
        have hi1 : ¬ (i : Int) * 128 < (tx.size : Int) := by omega
        have HBF := Lib.hid (Below.then HB.out HBR.out)
        have hi2 : i ≤ 65 := by omega
        clear hkN
        go_wp2_with fail
        go_ret
        exact ⟨_, rfl, HP.out, HBF.out⟩
end Go.Proofs.YtkplpodljmlanaaGreatDoor
/-! The program's laying and its closure, by contracts: steps in memory. Conditions: octet's errors lie where they lie. -/
namespace Go.Proofs.YtkplpodljmlanaaGreatDoor
open Go.RowKit Go.WideShapes

/-- Steps, as laying lays them. -/
def layG (p rm g : Nat) (there s : List UInt8) : List (List (Int × ByteArray)) × Int :=
  if rm < there.length + s.length ∨ 1099511627776 < g then ([], 13) else ([fillL p there s (fillN there s), [((p : Int), headB g (there.length + s.length))]], 0)
theorem layL_eq (d : Dsk) (m g : Nat) (there s : List UInt8) : layL d m g there s = layG (m * hOf d) (roomN d) g there s := rfl

/-- The value v reads as these steps. -/
def StepsAt (w : World) (v : Value) (ll : List (List (Int × ByteArray))) : Prop :=
  (ll = [] ∧ v = .slice none 0 0) ∨ ∃ b cap, v = .slice (some ⟨b, 0, none⟩) ll.length cap ∧ 0 < ll.length ∧ ll.length ≤ cap ∧ cap ≤ maxLen ∧ ∀ i (h : i < ll.length), ∃ u, w.cell? ⟨b, i, none⟩ = some u ∧ PairsAt w u (ll[i].map writeCell)
theorem StepsAt.keep {w w' : World} {v : Value} {ll : List (List (Int × ByteArray))} (h : StepsAt w v ll) (hb : Below w.heap.size w w') : StepsAt w' v ll := by
  rcases h with h | ⟨b, cap, h1, h2, h3, h4, h5⟩
  · exact Or.inl h
  · refine Or.inr ⟨b, cap, h1, h2, h3, h4, fun i hi => ?_⟩
    obtain ⟨u, k1, k2⟩ := h5 i hi
    exact ⟨u, Below.keepc hb k1, k2.keep hb⟩
theorem StepsAt.shape {w : World} {v : Value} {ll : List (List (Int × ByteArray))} (h : StepsAt w v ll) : ∃ a cap, v = .slice a ll.length cap ∧ ll.length ≤ 9223372036854775807 := by
  rcases h with ⟨rfl, rfl⟩ | ⟨b, cap, rfl, h2, h3, h4, -⟩
  · exact ⟨none, 0, rfl, by decide⟩
  · unfold maxLen at h4; exact ⟨_, _, rfl, by omega⟩
theorem head_row {t : TypeId} {w : World} {B : Nat} {p : Int} {x : ByteArray} (h : At2 t w B (.int .i64 p) (.string x)) : PairsAt w (.slice (some ⟨B, 0, none⟩) 1 1) ([(p, x)].map writeCell) := by
  refine Or.inr ⟨B, 0, 1, rfl, Nat.le_refl 1, Nat.le_refl 1, by decide, fun i hi => ?_⟩
  obtain rfl : i = 0 := by simpa using hi
  exact h.cells
theorem two_steps {t : TypeId} {w : World} {B : Nat} {u1 u2 : Value} {l1 l2 : List (Int × ByteArray)} (h : At2 t w B u1 u2) (h1 : PairsAt w u1 (l1.map writeCell)) (h2 : PairsAt w u2 (l2.map writeCell)) : StepsAt w (.slice (some ⟨B, 0, none⟩) 2 2) [l1, l2] := by
  refine Or.inr ⟨B, 2, rfl, by simp, Nat.le_refl 2, by decide, fun i hi => ?_⟩
  rcases (show i = 0 ∨ i = 1 by simp at hi; omega) with rfl | rfl
  · exact ⟨u1, h.cells.1, h1⟩
  · exact ⟨u2, h.cells.2, h2⟩
/-- Steps and a number, as a call answers them. -/
def StepsOut (r : List (List (Int × ByteArray)) × Int) (w : World) (e : Ending) (w' : World) : Prop := ∃ v, e = .returned (.tuple #[v, .int .i64 r.2]) ∧ StepsAt w' v r.1 ∧ Below w.heap.size w w'

/-- What the closure of laying has. -/
structure LayAt (w : World) (Bt Bh Bg p r g : Nat) (th : ByteArray) : Prop where
  there : w.cell? ⟨Bt, 0, none⟩ = some (.string th)
  half : At2 71 w Bh (.int .i64 p) (.int .i64 r)
  gen : w.cell? ⟨Bg, 0, none⟩ = some (.int .i64 g)
theorem LayAt.keep {w w' : World} {Bt Bh Bg p r g : Nat} {th : ByteArray} (h : LayAt w Bt Bh Bg p r g th) (hb : Below w.heap.size w w') : LayAt w' Bt Bh Bg p r g th := ⟨Below.keepc hb h.there, h.half.keep hb, Below.keepc hb h.gen⟩

set_option maxRecDepth 100000 in
set_option maxHeartbeats 8000000 in
theorem laying1_t (aD aS aZ : Addr) (Bt Bh Bg p r g rm : Nat) (th bd : ByteArray) (w : World) (he : Env w aD aS aZ) (hL : LayAt w Bt Bh Bg p r g th) (hp : p + 1 ≤ r) (hr : r ≤ 64) (hrm : (r - p - 1) * 128 = rm) (hth : th.size ≤ 3968) (hrm2 : rm ≤ 4000) (hbd : bd.size ≤ 1099511627776) (hg : g ≤ 1099511627777) :
    Calls Tryz.prog 89 #[.string bd, .pointer (some ⟨Bt, 0, none⟩), .pointer (some ⟨Bh, 0, none⟩), .pointer (some ⟨Bg, 0, none⟩)] w (StepsOut (layG p rm g th.data.toList bd.data.toList) w) := by
  have HE := Lib.hid he
  have HL := Lib.hid hL
  have HD := Lib.hid (show layG p rm g th.data.toList bd.data.toList = if rm < th.size + bd.size ∨ 1099511627776 < g then ([], 13) else ([fillL p th.data.toList bd.data.toList (fillN th.data.toList bd.data.toList), [((p : Int), headB g (th.size + bd.size))]], 0) by
    unfold layG; rw [toList_size, toList_size])
  have SZ := Lib.hid (fun w' => by have := size_t p r w' hp (by omega); rwa [hrm] at this)
  have hrm64 : rm ≤ 8064 := by omega
  have hwr : IntKind.i64.wrap ((th.size : Int) + (bd.size : Int)) = ((th.size + bd.size : Nat) : Int) := by rw [IntKind.wrap_i64]; omega
  obtain ⟨us, hus⟩ : ∃ us, th.size + bd.size = us := ⟨_, rfl⟩
  have husi : (th.size : Int) + (bd.size : Int) = (us : Int) := by omega
  rw [hus] at HD
  have HR := Lib.hid (And.intro hrm hus)
  obtain ⟨a0, a1⟩ := HL.out.half.cells
  have t0 := HL.out.there
  have g0 := HL.out.gen
  clear he hL hrm hus hwr
  go_enter Tryz.func89, Tryz.ntmps89
  go_wp2_with fail
  refine (SZ.out w).mono ?_
  rintro e w1 ⟨rfl, hb1⟩
  have HB1 := Lib.hid hb1
  have HL1 := Lib.hid (HL.out.keep hb1)
  clear hb1 a0 a1 t0 g0 SZ
  have g0 := HL1.out.gen
  by_cases h1 : rm < us
  · have HO := Lib.hid (show layG p rm g th.data.toList bd.data.toList = ([], 13) by rw [HD.out, if_pos (Or.inl h1)])
    go_wp2_with fail
    go_ret2
    exact ⟨_, by rw [HO.out]; rfl, by rw [HO.out]; exact Or.inl ⟨rfl, rfl⟩, HB1.out⟩
  by_cases h2 : 1099511627776 < g
  · have HO := Lib.hid (show layG p rm g th.data.toList bd.data.toList = ([], 13) by rw [HD.out, if_pos (Or.inr h2)])
    go_wp2_with fail
    go_ret2
    exact ⟨_, by rw [HO.out]; rfl, by rw [HO.out]; exact Or.inl ⟨rfl, rfl⟩, HB1.out⟩
  have HO := Lib.hid (show layG p rm g th.data.toList bd.data.toList = ([fillL p th.data.toList bd.data.toList (fillN th.data.toList bd.data.toList), [((p : Int), headB g us)]], 0) by rw [HD.out, if_neg (by omega)])
  have FI := Lib.hid (show ∀ w', Calls Tryz.prog 90 #[.agg #[.int .i64 p, .int .i64 r], .string th, .string bd] w' fun e w'' => ∃ a l c, e = .returned (.slice a l c) ∧ PairsAt w'' (.slice a l c) ((fillL p th.data.toList bd.data.toList (fillN th.data.toList bd.data.toList)).map writeCell) ∧ Below w'.heap.size w' w'' from fun w' => (filled_t p r th bd w' (by omega) (by have := HR.out; omega)).mono fun e w'' ⟨v, h1, h2, h3⟩ => by
    obtain ⟨a, c, rfl, -, -⟩ := h2.shape
    exact ⟨a, _, c, h1, h2, h3⟩)
  have HX := Lib.hid (fun w' (hb : Below w1.heap.size w1 w') => headed_t aD aS aZ p r g us w' (HE.out.keep (Below.then HB1.out hb)) (by omega) (by omega))
  obtain ⟨x, hx⟩ : ∃ x, headB g us = x := ⟨_, rfl⟩
  rw [hx] at HO HX
  obtain ⟨a0, a1⟩ := HL1.out.half.cells
  have t0 := HL1.out.there
  have hbA := Below.refl w1.heap.size w1
  clear hx HD
  go_upto_region 4 with fail
  go_region_held3 (fun w' => w'.cell? ⟨Bh, 0, none⟩ = some (.int .i64 p) ∧ w'.cell? ⟨Bh, 1, none⟩ = some (.int .i64 r) ∧ w'.cell? ⟨Bt, 0, none⟩ = some (.string th) ∧ w'.cell? ⟨Bg, 0, none⟩ = some (.int .i64 g)) (first | exact ⟨a0, a1, t0, g0⟩ | exact ⟨Below.keepc (below_new _ _) a0, Below.keepc (below_new _ _) a1, Below.keepc (below_new _ _) t0, Below.keepc (below_new _ _) g0⟩ | exact ⟨Below.keepc (Below.then (below_new _ _) (below_new _ _)) a0, Below.keepc (Below.then (below_new _ _) (below_new _ _)) a1, Below.keepc (Below.then (below_new _ _) (below_new _ _)) t0, Below.keepc (Below.then (below_new _ _) (below_new _ _)) g0⟩)
    (first
    | (go_simp; go_at_call 90
       refine (FI.out _).mono ?_
       rintro e wF ⟨fa, fl, fc, rfl, hPF, hbF⟩
       have hbA := (by first | exact Below.then hbA hbF | exact Below.then hbA.drew hbF | exact Below.then (Below.then hbA (below_new _ _)) hbF | exact Below.then (Below.then hbA (below_new _ _)).drew hbF)
       obtain ⟨a0, a1⟩ := (HL1.out.keep hbA).half.cells
       have t0 := (HL1.out.keep hbA).there
       have g0 := (HL1.out.keep hbA).gen)
    | (go_simp; go_at_call 46
       refine (HX.out _ (by first | exact hbA | exact hbA.drew)).mono ?_
       rintro e wH ⟨rfl, hbH⟩
       have hbA := (by first | exact Below.then hbA hbH | exact Below.then hbA.drew hbH)
       obtain ⟨a0, a1⟩ := (HL1.out.keep hbA).half.cells
       have t0 := (HL1.out.keep hbA).there
       have g0 := (HL1.out.keep hbA).gen))
  all_goals
    have hA1 := At2.new 48 wH (.int .i64 p) (.string x)
    have hA2 := At2.new 23 (wH.alloc (.cells #[.int .i64 p, .string x] 48)) (.slice fa fl fc) (.slice (some ⟨wH.heap.size, 0, none⟩) 1 1)
    rw [World.size_alloc] at hA2
    have hb2 := Below.then (below_new wH (.cells #[.int .i64 p, .string x] 48)) (below_new _ (.cells #[.slice fa fl fc, .slice (some ⟨wH.heap.size, 0, none⟩) 1 1] 23))
    have HS := Lib.hid (two_steps hA2 (hPF.keep (Below.then hbH hb2)) (head_row (hA1.keep (below_new _ _))))
    have HBF := Lib.hid (Below.then HB1.out (Below.then hbA hb2))
    clear hA1 hA2 hb2 hPF hbH hbA a0 a1 t0 g0
    go_wp2_with fail
    go_ret2
    exact ⟨_, by rw [HO.out]; rfl, by rw [HO.out]; exact HS.out, HBF.out⟩

/-- What laying answers: the closure, and where its variables lie. -/
def LayIs (p r g : Nat) (th : ByteArray) (w : World) (e : Ending) (w' : World) : Prop :=
  ∃ Bt Bh Bg, e = .returned (.func (.func 89) #[] #[.pointer (some ⟨Bt, 0, none⟩), .pointer (some ⟨Bh, 0, none⟩), .pointer (some ⟨Bg, 0, none⟩)]) ∧ LayAt w' Bt Bh Bg p r g th ∧ Below w.heap.size w w'
set_option maxRecDepth 100000 in
set_option maxHeartbeats 2000000 in
theorem laying_t (p r g : Nat) (th : ByteArray) (w : World) : Calls Tryz.prog 70 #[.agg #[.int .i64 p, .int .i64 r], .int .i64 g, .string th] w (LayIs p r g th w) := by
  obtain ⟨W1, hW1⟩ : ∃ W, w.alloc (.cells #[.int .i64 p, .int .i64 r] 71) = W := ⟨_, rfl⟩
  obtain ⟨W2, hW2⟩ : ∃ W, W1.alloc (.cells #[.int .i64 g] 3) = W := ⟨_, rfl⟩
  obtain ⟨W3, hW3⟩ : ∃ W, W2.alloc (.cells #[.string th] 9) = W := ⟨_, rfl⟩
  have s1 : W1.heap.size = w.heap.size + 1 := by rw [← hW1, World.size_alloc]
  have s2 : W2.heap.size = w.heap.size + 1 + 1 := by rw [← hW2, World.size_alloc, s1]
  have b2 : Below W1.heap.size W1 W2 := by rw [← hW2]; exact below_new _ _
  have b3 : Below W2.heap.size W2 W3 := by rw [← hW3]; exact below_new _ _
  have hA : At2 71 W1 w.heap.size (.int .i64 p) (.int .i64 r) := by rw [← hW1]; exact At2.new _ _ _ _
  have hG : W2.cell? ⟨w.heap.size + 1, 0, none⟩ = some (.int .i64 g) := by rw [← hW2, ← s1, World.cell?_alloc_at _ _ _ _ rfl]; rfl
  have hT : W3.cell? ⟨w.heap.size + 1 + 1, 0, none⟩ = some (.string th) := by rw [← hW3, ← s2, World.cell?_alloc_at _ _ _ _ rfl]; rfl
  have HL := Lib.hid (show LayAt W3 (w.heap.size + 1 + 1) w.heap.size (w.heap.size + 1) p r g th from ⟨hT, hA.keep (Below.then b2 b3), Below.keepc b3 hG⟩)
  have HB := Lib.hid (show Below w.heap.size w W3 from Below.then (by rw [← hW1]; exact below_new _ _) (Below.then b2 b3))
  have HW := Lib.hid (show ((w.alloc (.cells #[.int .i64 p, .int .i64 r] 71)).alloc (.cells #[.int .i64 g] 3)).alloc (.cells #[.string th] 9) = W3 by rw [hW1, hW2, hW3])
  clear hW1 hW2 hW3 s1 s2 b2 b3 hA hG hT
  go_enter Tryz.func70, Tryz.ntmps70
  go_upto_region 1 with fail
  rw [HW.out]
  go_wp2_with fail
  go_ret
  exact ⟨_, _, _, rfl, HL.out, HB.out⟩
end Go.Proofs.YtkplpodljmlanaaGreatDoor
/-! slices.Equal of rows of strings, the document's own Same of any two rows, the program's Right of a ledger, by contracts. Conditions: octet's errors lie where they lie. -/
namespace Go.Proofs.YtkplpodljmlanaaGreatDoor
open Go.RowKit Go.WideShapes

set_option maxRecDepth 100000 in
theorem equal_strs (x y : Value) (xs ys : List ByteArray) (w : World) (hx : StrsAt w x xs) (hy : StrsAt w y ys) :
    Calls Tryz.prog 48 #[x, y] w fun e w' => e = .returned (.bool (decide (xs = ys))) ∧ Below w.heap.size w w' := by
  obtain ⟨na, nc, rfl, -, hl⟩ := hx.shape
  obtain ⟨na', nc', rfl, -, hl'⟩ := hy.shape
  obtain ⟨nn, hnn⟩ : ∃ z, xs.length = z := ⟨_, rfl⟩
  obtain ⟨nn', hnn'⟩ : ∃ z, ys.length = z := ⟨_, rfl⟩
  rw [hnn] at hx hl ⊢
  rw [hnn'] at hy hl' ⊢
  unfold maxLen at hl hl'
  by_cases hne : nn = nn'
  rotate_left
  · rw [decide_eq_false (show ¬ xs = ys from fun e => hne (by rw [← hnn, ← hnn', e]))]
    have q : ((nn : Int) != (nn' : Int)) = true := bne_iff_ne.2 (by omega)
    clear hx hy
    go_enter Tryz.func48, Tryz.ntmps48
    go_wp2_with fail
    go_ret
    exact ⟨rfl, Below.refl _ _⟩
  subst hne
  rcases hx with ⟨h0, -⟩ | ⟨pb, po, pc, he, hpos, -, -, hcs⟩
  · have h00 : nn = 0 := by rw [← hnn, h0]; rfl
    subst h00
    rw [decide_eq_true (show xs = ys by rw [h0, List.length_eq_zero_iff.1 hnn'])]
    clear hy
    go_enter Tryz.func48, Tryz.ntmps48
    go_wp2_with fail
    refine wp_loop_rounds 1 ?_
    rw [rounds_succ]
    go_wp2_with fail
    go_ret
    exact ⟨rfl, Below.refl _ _⟩
  · rcases hy with ⟨h0, -⟩ | ⟨pb', po', pc', he', -, -, -, hcs'⟩
    · rw [h0] at hnn'
      exact absurd hpos (by rw [hnn, ← hnn']; simp)
    · simp only [Value.slice.injEq] at he he'
      obtain ⟨rfl, -, rfl⟩ := he
      obtain ⟨rfl, -, rfl⟩ := he'
      have HC := Lib.hid hcs
      have HC' := Lib.hid hcs'
      have HX := Lib.hid hnn
      have HY := Lib.hid hnn'
      clear hcs hcs' hnn hnn' hpos
      go_enter Tryz.func48, Tryz.ntmps48
      go_wp2_with fail
      go_loopw [13] (fun iv wr => ∃ j : Nat, j ≤ nn ∧ iv = .int .i64 j ∧ xs.take j = ys.take j ∧ Below w.heap.size w wr) (fun i _ => nn - (intOf i).toNat)
      case atStart => exact ⟨0, Nat.zero_le _, rfl, rfl, Below.refl _ _⟩
      case round =>
        obtain ⟨j, hj, rfl, htk, hb⟩ := hrel
        have HT := Lib.hid htk
        have HR := Lib.hid hb
        clear htk hb
        by_cases hlt : j < nn
        · have hj1 : j < xs.length := by have := HX.out; omega
          have hj2 : j < ys.length := by have := HY.out; omega
          have kc : ∀ {p : Addr} {v : Value}, w.cell? p = some v → wr.cell? p = some v := fun h => HR.out.cell (World.block_lt_of_cell? _ _ h) |>.trans h
          have hc1 := kc (HC.out j hj1)
          have hc2 := kc (HC'.out j hj2)
          have ht1 : xs.take (j + 1) = xs.take j ++ [xs[j]'hj1] := List.take_succ_eq_append_getElem hj1
          have ht2 : ys.take (j + 1) = ys.take j ++ [ys[j]'hj2] := List.take_succ_eq_append_getElem hj2
          obtain ⟨x, hx⟩ : ∃ x, xs[j]'hj1 = x := ⟨_, rfl⟩
          obtain ⟨y, hy⟩ : ∃ y, ys[j]'hj2 = y := ⟨_, rfl⟩
          rw [hx] at hc1 ht1
          rw [hy] at hc2 ht2
          clear kc
          by_cases hxy : x = y
          · have hcm : (x.toList == y.toList) = true := by rw [beqB, decide_eq_true hxy]
            have hcn : (x.toList != y.toList) = false := by rw [bne, hcm]; rfl
            have HN1 := Lib.hid (show xs.take (j + 1) = ys.take (j + 1) by rw [ht1, ht2, HT.out, hxy])
            clear ht1 ht2 hx hy hxy
            go_wp2_with fail
            go_quiet (fail)
            go_wp2_with fail
            go_roundw
            case rel => exact ⟨j + 1, by omega, by go_num, HN1.out, below_drewN HR.out _⟩
            case measure => simp [intOf]; omega
          · have hcm : (x.toList == y.toList) = false := by rw [beqB, decide_eq_false hxy]
            have hcn : (x.toList != y.toList) = true := by rw [bne, hcm]; rfl
            have HO := Lib.hid (show decide (xs = ys) = false from decide_eq_false fun e => hxy (by subst e; rw [← hx, ← hy]))
            clear ht1 ht2 hx hy hxy
            go_wp2_with fail
            go_quiet (fail)
            go_wp2_with fail
            go_ret
            exact ⟨by rw [HO.out]; rfl, below_drewN HR.out _⟩
        · have HO := Lib.hid (show decide (xs = ys) = true from decide_eq_true (by
            have h1 := HT.out
            rw [List.take_of_length_le (by have := HX.out; omega), List.take_of_length_le (by have := HY.out; omega)] at h1
            exact h1))
          go_wp2_with fail
          go_ret
          exact ⟨by rw [HO.out]; rfl, HR.out⟩


set_option maxRecDepth 100000 in
theorem Same_strs (v u : Value) (ss ts : List ByteArray) (w : World) (h : StrsAt w v ss) (g : StrsAt w u ts) :
    Calls Tryz.prog 32 #[v, u] w fun e w' => e = .returned (.bool (decide (ss = ts))) ∧ Below w.heap.size w w' := by
  by_cases h0 : ss.length = 0
  · obtain ⟨a, c, rfl, -, -⟩ := h.shape
    obtain ⟨a', c', rfl, -, hl⟩ := g.shape
    unfold maxLen at hl
    have hs := List.length_eq_zero_iff.1 h0
    rw [h0]
    by_cases g0 : ts.length = 0
    · have hO := Lib.hid (show decide (ss = ts) = true from decide_eq_true (by rw [hs, List.length_eq_zero_iff.1 g0]))
      rw [g0]
      clear h g hs
      go_enter Tryz.func32, Tryz.ntmps32
      go_wp2
      refine wp_loop_rounds 1 ?_
      rw [rounds_succ]
      go_wp2
      go_ret
      exact ⟨by rw [hO.out]; rfl, Below.refl _ _⟩
    · have hO := Lib.hid (show decide (ss = ts) = false from decide_eq_false (fun e => g0 (by rw [← e, hs]; rfl)))
      obtain ⟨n, hn⟩ : ∃ n, ts.length = n := ⟨_, rfl⟩
      rw [hn] at hl g0 ⊢
      have t0 : ((0 : Int) != (n : Int)) = true := by rw [bne_iff_ne]; omega
      clear h g hs hn
      go_enter Tryz.func32, Tryz.ntmps32
      go_wp2
      go_ret
      exact ⟨by rw [hO.out]; rfl, Below.refl _ _⟩
  · by_cases g0 : ts.length = 0
    · obtain ⟨a, c, rfl, -, hl⟩ := h.shape
      obtain ⟨a', c', rfl, -, -⟩ := g.shape
      unfold maxLen at hl
      have hO := Lib.hid (show decide (ss = ts) = false from decide_eq_false (fun e => h0 (by rw [e, g0])))
      rw [g0]
      obtain ⟨n, hn⟩ : ∃ n, ss.length = n := ⟨_, rfl⟩
      rw [hn] at hl h0 ⊢
      have t0 : ((n : Int) != (0 : Int)) = true := by rw [bne_iff_ne]; omega
      clear h g hn
      go_enter Tryz.func32, Tryz.ntmps32
      go_wp2
      go_ret
      exact ⟨by rw [hO.out]; rfl, Below.refl _ _⟩
    · exact Same_any v u ss ts w (h.row (by omega)) (g.row (by omega))

theorem LedAt.strs {w : World} {s d h g u e : Value} {l : Led} (H : LedAt w (.agg #[s, d, h, g, u, e]) l) : StrsAt w e l.ents := H.parts.2.1
set_option maxRecDepth 100000 in
set_option maxHeartbeats 8000000 in
/-- May a ledger be. -/
theorem lRight_t (aD aS aZ : Addr) (v : Value) (l : Led) (w : World) (he : Env w aD aS aZ) (h : LedAt w v l) :
    Calls Tryz.prog 18 #[v] w fun e w' => e = .returned (.bool (rightLed l)) ∧ Below w.heap.size w w' := by
  have HV := Lib.hid h
  obtain ⟨a, c, a', c', b, k, rfl, -, -, -⟩ := h.shape
  have hpt := h.parts
  have HD := Lib.hid (show rightLed l = ((openL l.disk).2 == 0 && (openL l.disk).1.half == l.half && (openL l.disk).1.gen == l.gen && (openL l.disk).1.used == l.used && decide ((openL l.disk).1.ents = l.ents)) from rfl)
  have EQ := Lib.hid (fun (x : Value) (xs : List ByteArray) w' (hb : Below w.heap.size w w') (hx : StrsAt w' x xs) => equal_strs x (.slice b l.ents.length k) xs l.ents w' hx (hpt.2.1.keep hb))
  obtain ⟨n, hn⟩ : ∃ n, l.disk.secs.length = n := ⟨_, rfl⟩
  obtain ⟨n', hn'⟩ : ∃ n, l.disk.dirty.length = n := ⟨_, rfl⟩
  obtain ⟨ne, hne⟩ : ∃ n, l.ents.length = n := ⟨_, rfl⟩
  obtain ⟨⟨f, fe⟩, hf⟩ : ∃ x, openL l.disk = x := ⟨_, rfl⟩
  have OP := fun w' (hb : Below w.heap.size w w') => Open_t aD aS aZ (.agg #[.slice a l.disk.secs.length c, .slice a' l.disk.dirty.length c']) l.disk w' (he.keep hb) (hpt.1.keep hb)
  rw [hf] at OP HD
  rw [hn] at OP HV ⊢
  rw [hn'] at OP HV ⊢
  rw [hne] at EQ HV ⊢
  simp only at HD
  obtain ⟨lh, hlh⟩ : ∃ x, l.half = x := ⟨_, rfl⟩
  obtain ⟨lg, hlg⟩ : ∃ x, l.gen = x := ⟨_, rfl⟩
  obtain ⟨lu, hlu⟩ : ∃ x, l.used = x := ⟨_, rfl⟩
  rw [hlh] at HV HD ⊢
  rw [hlg] at HV HD ⊢
  rw [hlu] at HV HD ⊢
  obtain ⟨W, hW⟩ : ∃ W, w.alloc (.cells #[.slice a n c, .slice a' n' c', .int .i64 lh, .int .i64 lg, .int .i64 lu, .slice b ne k] 27) = W := ⟨_, rfl⟩
  have HB := Lib.hid (show Below w.heap.size w W by rw [← hW]; exact below_new _ _)
  have HA := Lib.hid (show At6 27 W w.heap.size (.slice a n c) (.slice a' n' c') (.int .i64 lh) (.int .i64 lg) (.int .i64 lu) (.slice b ne k) by rw [← hW]; exact At6.new _ _ _ _ _ _ _ _)
  have OPW := Lib.hid (OP W HB.out)
  have HW := Lib.hid hW
  clear hW h he hpt hn hn' hne hf OP hlh hlg hlu
  go_enter Tryz.func18, Tryz.ntmps18
  go_upto_region 1 with fail
  rw [HW.out]
  obtain ⟨a0, a1, a2, a3, a4, a5⟩ := HA.out.cells
  go_wp2_with fail
  refine OPW.out.mono ?_
  rintro e w1 ⟨v, rfl, hfd, hb1⟩
  obtain ⟨fa, fc, fa', fc', fb, fk, rfl, -, -, -⟩ := hfd.shape
  have hfs := hfd.strs
  obtain ⟨n1, hn1⟩ : ∃ n, f.disk.secs.length = n := ⟨_, rfl⟩
  obtain ⟨n2, hn2⟩ : ∃ n, f.disk.dirty.length = n := ⟨_, rfl⟩
  obtain ⟨n3, hn3⟩ : ∃ n, f.ents.length = n := ⟨_, rfl⟩
  obtain ⟨fh, hfh⟩ : ∃ x, f.half = x := ⟨_, rfl⟩
  obtain ⟨fg, hfg⟩ : ∃ x, f.gen = x := ⟨_, rfl⟩
  obtain ⟨fu, hfu⟩ : ∃ x, f.used = x := ⟨_, rfl⟩
  rw [hn3] at hfs
  rw [hfh, hfg, hfu] at HD
  rw [hn1, hn2, hn3, hfh, hfg, hfu]
  obtain ⟨W2, hW2⟩ : ∃ W, w1.alloc (.cells #[.slice fa n1 fc, .slice fa' n2 fc', .int .i64 fh, .int .i64 fg, .int .i64 fu, .slice fb n3 fk] 27) = W := ⟨_, rfl⟩
  have hb2 : Below w1.heap.size w1 W2 := by rw [← hW2]; exact below_new _ _
  have HF := Lib.hid (show At6 27 W2 w1.heap.size (.slice fa n1 fc) (.slice fa' n2 fc') (.int .i64 fh) (.int .i64 fg) (.int .i64 fu) (.slice fb n3 fk) by rw [← hW2]; exact At6.new _ _ _ _ _ _ _ _)
  have HA2 := Lib.hid (HA.out.keep (Below.then hb1 hb2))
  have HB2 := Lib.hid (Below.then HB.out (Below.then hb1 hb2))
  have EQ2 := Lib.hid (EQ.out _ f.ents W2 HB2.out (hfs.keep hb2))
  have HW2 := Lib.hid hW2
  clear hn1 hn2 hn3 hfh hfg hfu hW2 hb2 hfs hfd hb1 a0 a1 a2 a3 a4 a5 OPW
  obtain ⟨q0, hq0⟩ : ∃ q, (fe == 0) = q := ⟨_, rfl⟩
  obtain ⟨q1, hq1⟩ : ∃ q, (fh == lh) = q := ⟨_, rfl⟩
  obtain ⟨q2, hq2⟩ : ∃ q, (fg == lg) = q := ⟨_, rfl⟩
  obtain ⟨q3, hq3⟩ : ∃ q, (fu == lu) = q := ⟨_, rfl⟩
  obtain ⟨q4, hq4⟩ : ∃ q, decide (f.ents = l.ents) = q := ⟨_, rfl⟩
  rw [hq0, hq1, hq2, hq3, hq4] at HD
  rw [hq4] at EQ2
  clear hq4
  go_upto_region 2 with fail
  rw [HW2.out]
  obtain ⟨a0, a1, a2, a3, a4, a5⟩ := HA2.out.cells
  obtain ⟨b0, b1, b2, b3, b4, b5⟩ := HF.out.cells
  cases q0 with
  | false =>
    go_wp2_with fail
    go_ret
    exact ⟨by rw [HD.out]; rfl, HB2.out⟩
  | true =>
  cases q1 with
  | false =>
    go_wp2_with fail
    go_ret
    exact ⟨by rw [HD.out]; rfl, HB2.out⟩
  | true =>
  cases q2 with
  | false =>
    go_wp2_with fail
    go_ret
    exact ⟨by rw [HD.out]; rfl, HB2.out⟩
  | true =>
  cases q3 with
  | false =>
    go_wp2_with fail
    go_ret
    exact ⟨by rw [HD.out]; rfl, HB2.out⟩
  | true =>
    go_wp2_with fail
    refine EQ2.out.mono ?_
    rintro e w3 ⟨rfl, hb3⟩
    have HB3 := Lib.hid (Below.then HB2.out hb3)
    clear hb3
    go_wp2_with fail
    go_ret
    exact ⟨by rw [HD.out]; rfl, HB3.out⟩
end Go.Proofs.YtkplpodljmlanaaGreatDoor
/-! The program's adding, renewing and Steps, by contracts. Conditions: octet's errors lie where they lie. -/
namespace Go.Proofs.YtkplpodljmlanaaGreatDoor
open Go.RowKit Go.WideShapes

/-- The bytes that stay, as a string. -/
theorem room_cut {d : Dsk} {n g u : Nat} {es : List ByteArray} (h : Opens d n g u es) : ((⟨(roomL d n).toArray⟩ : ByteArray).extract 0 u).data.toList = (roomL d n).take u ∧ ((⟨(roomL d n).toArray⟩ : ByteArray).extract 0 u).size = u ∧ u ≤ (⟨(roomL d n).toArray⟩ : ByteArray).size := by
  have h1 := room_size d n h.right h.half
  have h2 := h.used
  refine ⟨?_, ?_, by omega⟩
  · rw [Lib.extract_data]; simp
  · simp; omega

set_option maxRecDepth 100000 in
set_option maxHeartbeats 4000000 in
theorem adding_t (d : Dsk) (n g u : Nat) (es : List ByteArray) (a a' b : Option Addr) (c c' k ne n0 n1 : Nat) (w : World) (h : Opens d n g u es) (hd : DskAt w (.agg #[.slice a n0 c, .slice a' n1 c']) d) :
    Calls Tryz.prog 50 #[.agg #[.slice a n0 c, .slice a' n1 c', natV n, natV g, natV u, .slice b ne k]] w fun e w' => ∃ y : ByteArray, y.data.toList = (roomL d n).take u ∧ y.size = u ∧ LayIs (n * hOf d) ((n + 1) * hOf d) g y w e w' := by
  have HV := Lib.hid hd
  have hr := h.right
  have hu := h.used
  have hn := h.half
  obtain ⟨W, hW⟩ : ∃ W, w.alloc (.cells #[.slice a n0 c, .slice a' n1 c', natV n, natV g, natV u, .slice b ne k] 27) = W := ⟨_, rfl⟩
  have HB := Lib.hid (show Below w.heap.size w W by rw [← hW]; exact below_new _ _)
  have HA := Lib.hid (show At6 27 W w.heap.size (.slice a n0 c) (.slice a' n1 c') (natV n) (natV g) (natV u) (.slice b ne k) by rw [← hW]; exact At6.new _ _ _ _ _ _ _ _)
  have CH := fun w' (hb : Below w.heap.size w w') => halfOf_t _ d n w' (HV.out.keep hb) hn hr.most
  have CR := fun w' (hb : Below w.heap.size w w') => room_t _ d n w' (HV.out.keep hb) hn hr
  obtain ⟨y1, y2, y3⟩ := room_cut h
  unfold halfV at CH CR
  obtain ⟨p, hp⟩ : ∃ p, n * hOf d = p := ⟨_, rfl⟩
  obtain ⟨r, hrr⟩ : ∃ r, (n + 1) * hOf d = r := ⟨_, rfl⟩
  obtain ⟨R, hR⟩ : ∃ R : ByteArray, ⟨(roomL d n).toArray⟩ = R := ⟨_, rfl⟩
  rw [hp, hrr] at CH CR ⊢
  rw [hR] at CR y1 y2 y3
  obtain ⟨y, hy⟩ : ∃ y, R.extract 0 u = y := ⟨_, rfl⟩
  rw [hy] at y1 y2
  have hy2 : R.extract 0 (u : Int).toNat = y := by rw [Int.toNat_natCast]; exact hy
  have CL := Lib.hid (fun w' => laying_t p r g y w')
  have CH := Lib.hid CH
  have CR := Lib.hid CR
  have HY := Lib.hid (And.intro y1 y2)
  have HW := Lib.hid hW
  clear hW hd hr hp hrr hR y1 y2 h
  go_enter Tryz.func50, Tryz.ntmps50
  go_upto_region 1 with fail
  rw [HW.out]
  obtain ⟨a0, a1, a2, a3, a4, a5⟩ := HA.out.cells
  go_wp2_with fail
  refine (CH.out W HB.out).mono ?_
  rintro e w1 ⟨rfl, hb1⟩
  obtain ⟨W2, hW2⟩ : ∃ W, w1.alloc (.cells #[natV p, natV r] 71) = W := ⟨_, rfl⟩
  have hb2 : Below w1.heap.size w1 W2 := by rw [← hW2]; exact below_new _ _
  have HH := Lib.hid (show At2 71 W2 w1.heap.size (natV p) (natV r) by rw [← hW2]; exact At2.new _ _ _ _)
  have HA2 := Lib.hid (HA.out.keep (Below.then hb1 hb2))
  have HB2 := Lib.hid (Below.then HB.out (Below.then hb1 hb2))
  have HW2 := Lib.hid hW2
  clear hW2 hb1 hb2 a0 a1 a2 a3 a4 a5
  go_upto_region 2 with fail
  rw [HW2.out]
  obtain ⟨a0, a1, a2, a3, a4, a5⟩ := HA2.out.cells
  obtain ⟨b0, b1⟩ := HH.out.cells
  have hbA := Below.refl W2.heap.size W2
  go_region_held3 (fun w' => w'.cell? ⟨w.heap.size, 0, none⟩ = some (.slice a n0 c) ∧ w'.cell? ⟨w.heap.size, 1, none⟩ = some (.slice a' n1 c') ∧ w'.cell? ⟨w.heap.size, 3, none⟩ = some (natV g) ∧ w'.cell? ⟨w.heap.size, 4, none⟩ = some (natV u) ∧ w'.cell? ⟨w1.heap.size, 0, none⟩ = some (natV p) ∧ w'.cell? ⟨w1.heap.size, 1, none⟩ = some (natV r)) (exact ⟨a0, a1, a3, a4, b0, b1⟩)
    (first
    | (go_simp; go_at_call 38
       refine (CR.out _ (by first | exact Below.then HB2.out hbA | exact Below.then HB2.out hbA.drew)).mono ?_
       rintro e wS ⟨rfl, hbS⟩
       have hbA : Below W2.heap.size W2 wS := by first | exact Below.then hbA hbS | exact Below.then hbA.drew hbS
       obtain ⟨a0, a1, a2, a3, a4, a5⟩ := (HA2.out.keep hbA).cells
       obtain ⟨b0, b1⟩ := (HH.out.keep hbA).cells)
    | (go_simp; go_at_call 70
       refine (CL.out _).mono ?_
       rintro e wS ⟨Bt, Bh, Bg, rfl, hLay, hbS⟩
       have hbA : Below W2.heap.size W2 wS := by first | exact Below.then hbA hbS | exact Below.then hbA.drew hbS
       obtain ⟨a0, a1, a2, a3, a4, a5⟩ := (HA2.out.keep hbA).cells
       obtain ⟨b0, b1⟩ := (HH.out.keep hbA).cells))
  all_goals
    have HBF := Lib.hid (Below.then HB2.out hbA)
    have HLay := Lib.hid hLay
    clear hbA hLay a0 a1 a2 a3 a4 a5 b0 b1
    go_wp2_with fail
    go_ret
    exact ⟨y, HY.out.1, HY.out.2, Bt, Bh, Bg, rfl, HLay.out, HBF.out⟩

set_option maxRecDepth 100000 in
set_option maxHeartbeats 4000000 in
theorem renewing_t (d : Dsk) (n g u : Nat) (es : List ByteArray) (a a' b : Option Addr) (c c' k ne n0 n1 : Nat) (w : World) (h : Opens d n g u es) (hd : DskAt w (.agg #[.slice a n0 c, .slice a' n1 c']) d) :
    Calls Tryz.prog 51 #[.agg #[.slice a n0 c, .slice a' n1 c', natV n, natV g, natV u, .slice b ne k]] w (LayIs ((1 - n) * hOf d) ((1 - n + 1) * hOf d) (g + 1) ⟨#[]⟩ w) := by
  have HV := Lib.hid hd
  have hr := h.right
  have hn := h.half
  have hg := h.most
  obtain ⟨W, hW⟩ : ∃ W, w.alloc (.cells #[.slice a n0 c, .slice a' n1 c', natV n, natV g, natV u, .slice b ne k] 27) = W := ⟨_, rfl⟩
  have HB := Lib.hid (show Below w.heap.size w W by rw [← hW]; exact below_new _ _)
  have HA := Lib.hid (show At6 27 W w.heap.size (.slice a n0 c) (.slice a' n1 c') (natV n) (natV g) (natV u) (.slice b ne k) by rw [← hW]; exact At6.new _ _ _ _ _ _ _ _)
  obtain ⟨m, hm⟩ : ∃ m, 1 - n = m := ⟨_, rfl⟩
  have hmi : (1 : Int) - (n : Int) = (m : Int) := by omega
  have hgi : (g : Int) + 1 = ((g + 1 : Nat) : Int) := by omega
  obtain ⟨g1, hg1⟩ : ∃ x, g + 1 = x := ⟨_, rfl⟩
  rw [hg1] at hgi ⊢
  rw [hm]
  have hw1 : IntKind.i64.wrap (m : Int) = (m : Int) := by rw [IntKind.wrap_i64]; omega
  have hw2 : IntKind.i64.wrap (g1 : Int) = (g1 : Int) := by rw [IntKind.wrap_i64]; omega
  have CH := fun w' (hb : Below w.heap.size w w') => halfOf_t _ d m w' (HV.out.keep hb) (by omega) hr.most
  unfold halfV at CH
  obtain ⟨p, hp⟩ : ∃ p, m * hOf d = p := ⟨_, rfl⟩
  obtain ⟨r, hrr⟩ : ∃ r, (m + 1) * hOf d = r := ⟨_, rfl⟩
  rw [hp, hrr] at CH ⊢
  have CL := Lib.hid (fun w' => laying_t p r g1 ⟨#[]⟩ w')
  have CH := Lib.hid CH
  have HW := Lib.hid hW
  clear hW hd hr hp hrr h hm hg1 hn hg
  go_enter Tryz.func51, Tryz.ntmps51
  go_upto_region 1 with fail
  rw [HW.out]
  obtain ⟨a0, a1, a2, a3, a4, a5⟩ := HA.out.cells
  have hbA := Below.refl W.heap.size W
  go_region_held3 (fun w' => w'.cell? ⟨w.heap.size, 0, none⟩ = some (.slice a n0 c) ∧ w'.cell? ⟨w.heap.size, 1, none⟩ = some (.slice a' n1 c') ∧ w'.cell? ⟨w.heap.size, 2, none⟩ = some (natV n) ∧ w'.cell? ⟨w.heap.size, 3, none⟩ = some (natV g)) (exact ⟨a0, a1, a2, a3⟩)
    (first
    | (go_simp; go_at_call 35
       refine (CH.out _ (by first | exact Below.then HB.out hbA | exact Below.then HB.out hbA.drew)).mono ?_
       rintro e wS ⟨rfl, hbS⟩
       have hbA : Below W.heap.size W wS := by first | exact Below.then hbA hbS | exact Below.then hbA.drew hbS
       obtain ⟨a0, a1, a2, a3, a4, a5⟩ := (HA.out.keep hbA).cells)
    | (go_simp; go_at_call 70
       refine (CL.out _).mono ?_
       rintro e wS ⟨Bt, Bh, Bg, rfl, hLay, hbS⟩
       have hbA : Below W.heap.size W wS := by first | exact Below.then hbA hbS | exact Below.then hbA.drew hbS
       obtain ⟨a0, a1, a2, a3, a4, a5⟩ := (HA.out.keep hbA).cells))
  all_goals
    have HBF := Lib.hid (Below.then HB.out hbA)
    have HLay := Lib.hid hLay
    clear hbA hLay a0 a1 a2 a3 a4 a5
    go_wp2_with fail
    go_ret
    exact ⟨Bt, Bh, Bg, rfl, HLay.out, HBF.out⟩

theorem bind_size (ss : List ByteArray) (h : mayB ss = true) : (⟨(bindL ss).toArray⟩ : ByteArray).size ≤ 262272 := by
  have h1 := bindL_length_le ss (mayB_iff h).1
  have h2 := (mayB_iff h).2
  show (bindL ss).toArray.size ≤ _
  rw [List.size_toArray]
  omega
set_option maxRecDepth 100000 in
set_option maxHeartbeats 8000000 in
theorem lSteps_t (aD aS aZ : Addr) (v sv : Value) (l : Led) (renew : Bool) (ss : List ByteArray) (w : World) (he : Env w aD aS aZ) (h : LedAt w v l) (hss : StrRow w sv ss) (hz : ∀ s ∈ ss, s.size ≤ maxLen) :
    Calls Tryz.prog 20 #[v, .bool renew, sv] w (StepsOut (stepsL l renew ss) w) := by
  have HV := Lib.hid h
  have HE := Lib.hid he
  have HR := Lib.hid (fun w' (hb : Below w.heap.size w w') => lRight_t aD aS aZ v l w' (he.keep hb) (h.keep hb))
  have HBI := Lib.hid (fun w' (hb : Below w.heap.size w w') => Bind_any aD aS aZ sv ss w' (he.keep hb) (hss.keep hb) hz)
  obtain ⟨sa, sc, rfl, -⟩ := hss.shape
  obtain ⟨a, c, a', c', b, k, rfl, -, -, -⟩ := h.shape
  have hdk := h.parts.1
  have HDK := Lib.hid hdk
  have HS := Lib.hid (show stepsL l renew ss = if rightLed l then (if mayB ss then (if renew then layL l.disk (1 - l.half).toNat (l.gen + 1).toNat [] (bindL ss) else layL l.disk l.half.toNat l.gen.toNat ((roomL l.disk l.half.toNat).take l.used.toNat) (bindL ss)) else ([], 2)) else ([], 1) from rfl)
  have HRI := Lib.hid (fun (q : rightLed l = true) => rightLed_inv q)
  obtain ⟨n0, hn0⟩ : ∃ n, l.disk.secs.length = n := ⟨_, rfl⟩
  obtain ⟨n1, hn1⟩ : ∃ n, l.disk.dirty.length = n := ⟨_, rfl⟩
  obtain ⟨ne, hne⟩ : ∃ n, l.ents.length = n := ⟨_, rfl⟩
  obtain ⟨ns, hns⟩ : ∃ n, ss.length = n := ⟨_, rfl⟩
  rw [hn0] at HR HV HDK ⊢
  rw [hn1] at HR HV HDK ⊢
  rw [hne] at HR HV ⊢
  rw [hns] at HBI ⊢
  obtain ⟨r, hr⟩ : ∃ r, rightLed l = r := ⟨_, rfl⟩
  rw [hr] at HR HS HRI
  obtain ⟨lh, hlh⟩ : ∃ x, l.half = x := ⟨_, rfl⟩
  obtain ⟨lg, hlg⟩ : ∃ x, l.gen = x := ⟨_, rfl⟩
  obtain ⟨lu, hlu⟩ : ∃ x, l.used = x := ⟨_, rfl⟩
  have HLF := Lib.hid (And.intro hlh (And.intro hlg hlu))
  rw [hlh, hlg, hlu] at HR HV ⊢
  obtain ⟨W, hW⟩ : ∃ W, w.alloc (.cells #[.slice a n0 c, .slice a' n1 c', .int .i64 lh, .int .i64 lg, .int .i64 lu, .slice b ne k] 27) = W := ⟨_, rfl⟩
  have HB := Lib.hid (show Below w.heap.size w W by rw [← hW]; exact below_new _ _)
  have HA := Lib.hid (show At6 27 W w.heap.size (.slice a n0 c) (.slice a' n1 c') (.int .i64 lh) (.int .i64 lg) (.int .i64 lu) (.slice b ne k) by rw [← hW]; exact At6.new _ _ _ _ _ _ _ _)
  have HRW := Lib.hid (HR.out W HB.out)
  have HW := Lib.hid hW
  clear hW h he hdk hss hz hn0 hn1 hne hns hr hlh hlg hlu HR
  go_enter Tryz.func20, Tryz.ntmps20
  go_upto_region 1 with fail
  rw [HW.out]
  obtain ⟨a0, a1, a2, a3, a4, a5⟩ := HA.out.cells
  go_wp2_with fail
  refine HRW.out.mono ?_
  rintro e w1 ⟨rfl, hb1⟩
  have HB1 := Lib.hid (Below.then HB.out hb1)
  have HA1 := Lib.hid (HA.out.keep hb1)
  have HBI1 := Lib.hid (HBI.out w1 HB1.out)
  clear hb1 a0 a1 a2 a3 a4 a5 HRW HBI
  cases r with
  | false =>
    have HO := Lib.hid (show stepsL l renew ss = ([], 1) by rw [HS.out]; rfl)
    go_wp2_with fail
    go_ret2
    exact ⟨_, by rw [HO.out]; rfl, by rw [HO.out]; exact Or.inl ⟨rfl, rfl⟩, HB1.out⟩
  | true =>
  obtain ⟨n, g, u, es, hop, hl⟩ := HRI.out rfl
  have hq : lh = (n : Int) ∧ lg = (g : Int) ∧ lu = (u : Int) := by
    obtain ⟨q1, q2, q3⟩ := HLF.out
    rw [hl] at q1 q2 q3
    exact ⟨q1.symm, q2.symm, q3.symm⟩
  obtain ⟨rfl, rfl, rfl⟩ := hq
  have HOP := Lib.hid hop
  have HSO := Lib.hid (show stepsL l renew ss = if mayB ss then layL l.disk (mOf renew n) (gOf renew g) (thereOf renew l.disk n u) (bindL ss) else ([], 2) by
    rw [hl]; exact stepsL_of hop renew ss)
  clear hl hop HRI HS HLF
  obtain ⟨⟨bd, be⟩, hbo⟩ : ∃ x, bindOut ss = x := ⟨_, rfl⟩
  rw [hbo] at HBI1
  have HBO := Lib.hid hbo
  clear hbo
  obtain ⟨mb, hmb⟩ : ∃ q, mayB ss = q := ⟨_, rfl⟩
  rw [hmb] at HSO
  have HMB := Lib.hid hmb
  clear hmb
  go_wp2_with fail
  refine HBI1.out.mono ?_
  rintro e w2 ⟨rfl, hb2⟩
  have HB2 := Lib.hid (Below.then HB1.out hb2)
  have HA2 := Lib.hid (HA1.out.keep hb2)
  clear hb2 HBI1
  simp only
  cases mb with
  | false =>
    have HO := Lib.hid (show stepsL l renew ss = ([], 2) by rw [HSO.out]; rfl)
    have hbe : bd = ⟨#[]⟩ ∧ be = 2 := by
      have := HBO.out
      unfold bindOut at this
      rw [HMB.out] at this
      simp at this
      exact ⟨this.1.symm, this.2.symm⟩
    obtain ⟨rfl, rfl⟩ := hbe
    go_wp2_with fail
    go_ret2
    exact ⟨_, by rw [HO.out]; rfl, by rw [HO.out]; exact Or.inl ⟨rfl, rfl⟩, HB2.out⟩
  | true =>
    have hbe : (⟨(bindL ss).toArray⟩ : ByteArray) = bd ∧ 0 = be := by
      have := HBO.out
      unfold bindOut at this
      rw [HMB.out] at this
      simpa using this
    obtain ⟨hbd, rfl⟩ := hbe
    have hbl : bd.data.toList = bindL ss := by rw [← hbd]
    have hbz : bd.size ≤ 262272 := by rw [← hbd]; exact bind_size ss HMB.out
    have HBL := Lib.hid hbl
    have AD := Lib.hid (adding_t l.disk n g u es a a' b c c' k ne n0 n1 w2 HOP.out (HDK.out.keep HB2.out))
    clear hbl hbd
    obtain ⟨a0, a1, a2, a3, a4, a5⟩ := HA2.out.cells
    go_wp2_with fail
    refine AD.out.mono ?_
    rintro e w3 ⟨y, hy1, hy2, Bt, Bh, Bg, rfl, hLay, hb3⟩
    have HB3 := Lib.hid (Below.then HB2.out hb3)
    have HA3 := Lib.hid (HA2.out.keep hb3)
    have h2 := hOf_two HOP.out.right
    have hrn := roomN_le HOP.out.right
    have hn := HOP.out.half
    have hgm := HOP.out.most
    have hum := HOP.out.used
    clear hb3 a0 a1 a2 a3 a4 a5 AD
    cases renew with
    | false =>
      have LL := laying1_t aD aS aZ Bt Bh Bg (n * hOf l.disk) ((n + 1) * hOf l.disk) g (roomN l.disk) y bd w3 (HE.out.keep HB3.out) hLay (by rw [Nat.succ_mul]; omega) (by rcases (show n = 0 ∨ n = 1 by omega) with rfl | rfl <;> omega) (by rw [Nat.succ_mul]; unfold roomN; congr 1; omega) (by omega) (by omega) (by omega) (by omega)
      rw [hy1, HBL.out, ← layL_eq] at LL
      have HO := Lib.hid (show stepsL l false ss = layL l.disk n g ((roomL l.disk n).take u) (bindL ss) by rw [HSO.out]; rfl)
      rw [← HO.out] at LL
      have LL := Lib.hid LL
      clear hy1 hLay h2 hrn hn hgm hum
      go_wp2_with fail
      refine LL.out.mono ?_
      rintro e w4 ⟨v4, rfl, hst, hb4⟩
      obtain ⟨va, vc, rfl, -⟩ := hst.shape
      have HST := Lib.hid hst
      have HB4 := Lib.hid (Below.then HB3.out hb4)
      clear hst hb4
      obtain ⟨⟨rs, re⟩, hrs⟩ : ∃ x, stepsL l false ss = x := ⟨_, rfl⟩
      rw [hrs] at HST ⊢
      simp only at HST ⊢
      have HRS := Lib.hid hrs
      clear hrs HO LL HSO
      go_wp2_with fail
      go_ret2
      exact ⟨_, by rw [HRS.out]; rfl, by rw [HRS.out]; exact HST.out, HB4.out⟩
    | true =>
      have RN := Lib.hid (renewing_t l.disk n g u es a a' b c c' k ne n0 n1 w3 HOP.out (HDK.out.keep HB3.out))
      obtain ⟨a0, a1, a2, a3, a4, a5⟩ := HA3.out.cells
      clear hy1 hLay
      go_wp2_with fail
      refine RN.out.mono ?_
      rintro e w5 ⟨Bt, Bh, Bg, rfl, hLay, hb5⟩
      have HB5 := Lib.hid (Below.then HB3.out hb5)
      have LL := laying1_t aD aS aZ Bt Bh Bg ((1 - n) * hOf l.disk) ((1 - n + 1) * hOf l.disk) (g + 1) (roomN l.disk) ⟨#[]⟩ bd w5 (HE.out.keep HB5.out) hLay (by rw [Nat.succ_mul]; omega) (by rcases (show n = 0 ∨ n = 1 by omega) with rfl | rfl <;> omega) (by rw [Nat.succ_mul]; unfold roomN; congr 1; omega) (by show 0 ≤ _; omega) (by omega) (by omega) (by omega)
      rw [HBL.out, ← layL_eq] at LL
      have HO := Lib.hid (show stepsL l true ss = layL l.disk (1 - n) (g + 1) [] (bindL ss) by rw [HSO.out]; rfl)
      rw [show (⟨#[]⟩ : ByteArray).data.toList = [] from rfl, ← HO.out] at LL
      have LL := Lib.hid LL
      clear hLay h2 hrn hn hgm hum hb5 a0 a1 a2 a3 a4 a5
      go_wp2_with fail
      refine LL.out.mono ?_
      rintro e w4 ⟨v4, rfl, hst, hb4⟩
      obtain ⟨va, vc, rfl, -⟩ := hst.shape
      have HST := Lib.hid hst
      have HB4 := Lib.hid (Below.then HB5.out hb4)
      clear hst hb4
      obtain ⟨⟨rs, re⟩, hrs⟩ : ∃ x, stepsL l true ss = x := ⟨_, rfl⟩
      rw [hrs] at HST ⊢
      simp only at HST ⊢
      have HRS := Lib.hid hrs
      clear hrs HO LL HSO
      go_wp2_with fail
      go_ret2
      exact ⟨_, by rw [HRS.out]; rfl, by rw [HRS.out]; exact HST.out, HB4.out⟩
end Go.Proofs.YtkplpodljmlanaaGreatDoor
/-! The program's written, by a contract: steps saved and flushed, one by one. Conditions: at most 100 writes a step; octet's errors lie where they lie. -/
namespace Go.Proofs.YtkplpodljmlanaaGreatDoor
open Go.RowKit Go.WideShapes

theorem set2_block (w : World) (B k : Nat) (a b : Value) (hne : k ≠ B) : (set2 w B a b).heap[k]? = w.heap[k]? := by
  unfold set2
  rw [Below.heap_setCell _ _ _ _ hne, Below.heap_setCell _ _ _ _ hne]
theorem DskIn.boxed {w : World} {B : Nat} {d : Dsk} (h : DskIn w B d) (n m : Nat) (hn : d.secs.length = n) (hm : d.dirty.length = m) : ∃ a c a' c', At2 25 w B (.slice a n c) (.slice a' m c') ∧ DskAt w (.agg #[.slice a n c, .slice a' m c']) d := by
  subst hn; subst hm; exact h
theorem writtenL_cons (d : Dsk) (s : List (Int × ByteArray)) (r : List (List (Int × ByteArray))) : writtenL d (s :: r) = if (saveD d s).2 = 0 then (if (flushD (saveD d s).1).2 = 0 then writtenL (flushD (saveD d s).1).1 r else (nilLed, (flushD (saveD d s).1).2)) else (nilLed, (saveD d s).2) := rfl

/-- What steps must be for Save. -/
def StepsOk (ll : List (List (Int × ByteArray))) : Prop := ∀ s ∈ ll, s.length ≤ 100 ∧ ∀ x ∈ s, x.2.size ≤ maxLen ∧ -9223372036854775808 ≤ x.1 ∧ x.1 ≤ 9223372036854775807

set_option maxRecDepth 100000 in
set_option maxHeartbeats 8000000 in
theorem written_t (aD aS aZ : Addr) (v sv : Value) (d : Dsk) (ll : List (List (Int × ByteArray))) (w : World) (he : Env w aD aS aZ) (h : DskAt w v d) (hs : StepsAt w sv ll) (hok : StepsOk ll) (h0 : 0 < ll.length) :
    Calls Tryz.prog 45 #[v, sv] w (LedOut (writtenL d ll) w) := by
  have HE := Lib.hid he
  have HOK := Lib.hid hok
  obtain ⟨b, cap, rfl, hc⟩ : ∃ b cap, sv = .slice (some ⟨b, 0, none⟩) ll.length cap ∧ ∀ i (h : i < ll.length), ∃ u, w.cell? ⟨b, i, none⟩ = some u ∧ PairsAt w u (ll[i].map writeCell) := by
    rcases hs with ⟨e, -⟩ | ⟨b, cap, h1, -, -, -, h5⟩
    · rw [e] at h0; simp at h0
    · exact ⟨b, cap, h1, h5⟩
  have HC := Lib.hid hc
  obtain ⟨a, c, a', c', rfl, hl1, hl2⟩ := h.shape
  obtain ⟨W, hW⟩ : ∃ W, (w.alloc (.cells #[.slice a d.secs.length c, .slice a' d.dirty.length c'] 25)).alloc (.cells #[nilV, nilV, zeroV, zeroV, zeroV, nilV] 27) = W := ⟨_, rfl⟩
  have HB := Lib.hid (show Below w.heap.size w W by rw [← hW]; exact Below.then (below_new _ _) (below_new _ _))
  have HA := Lib.hid (show DskIn W w.heap.size d by rw [← hW]; exact (DskIn.new h).keep (below_new _ _))
  have HR := Lib.hid (show At6 27 W (w.heap.size + 1) nilV nilV zeroV zeroV zeroV nilV by
    rw [← hW]
    have e := At6.new 27 (w.alloc (.cells #[.slice a d.secs.length c, .slice a' d.dirty.length c'] 25)) nilV nilV zeroV zeroV zeroV nilV
    rwa [World.size_alloc] at e)
  have HW := Lib.hid hW
  obtain ⟨nl, hnl⟩ : ∃ n, ll.length = n := ⟨_, rfl⟩
  obtain ⟨n0, hn0⟩ : ∃ n, d.secs.length = n := ⟨_, rfl⟩
  obtain ⟨n1, hn1⟩ : ∃ n, d.dirty.length = n := ⟨_, rfl⟩
  rw [hn0, hn1] at HW ⊢
  rw [hnl] at h0 ⊢
  have hnl63 : nl ≤ 9223372036854775807 := by
    rcases hs with ⟨e, -⟩ | ⟨b, cap, h1, -, h3, h4, h5⟩
    · rw [← hnl, e]; decide
    · unfold maxLen at h4; omega
  have HNL := Lib.hid hnl
  clear hW he h hs hok hc hnl hn0 hn1 hl1 hl2
  go_enter Tryz.func45, Tryz.ntmps45
  go_upto_region 1 with fail
  rw [HW.out]
  go_wp2_with fail
  go_loopw [12] (fun iv wr => ∃ (i : Nat) (di : Dsk), i ≤ nl ∧ iv = .int .i64 i ∧ DskIn wr w.heap.size di ∧ writtenL di (ll.drop i) = writtenL d ll ∧ At6 27 wr (w.heap.size + 1) nilV nilV zeroV zeroV zeroV nilV ∧ Below w.heap.size w wr) (fun iv _ => nl - (intOf iv).toNat)
  case atStart => exact ⟨0, d, Nat.zero_le _, rfl, HA.out, rfl, HR.out, HB.out⟩
  case round =>
    obtain ⟨i, di, hi, rfl, hdi, hwr, hR, hb⟩ := hrel
    have HBR := Lib.hid hb
    have HRR := Lib.hid hR
    have HWR := Lib.hid hwr
    obtain ⟨m0, hm0⟩ : ∃ n, di.secs.length = n := ⟨_, rfl⟩
    obtain ⟨m1, hm1⟩ : ∃ n, di.dirty.length = n := ⟨_, rfl⟩
    obtain ⟨xa, xc, ya, yc, hbox, hdat⟩ := hdi.boxed m0 m1 hm0 hm1
    have HDI := Lib.hid hdi
    have HBOX := Lib.hid hbox
    have HDAT := Lib.hid hdat
    clear hb hR hwr hdi hdat hm0 hm1
    obtain ⟨a0, a1⟩ := hbox.cells
    clear hbox
    by_cases hlt : i < nl
    · have hlt' : (i : Int) < (nl : Int) := by omega
      have hil : i < ll.length := by rw [HNL.out]; exact hlt
      obtain ⟨u, hu1, hu2⟩ := HC.out i hil
      have hok := HOK.out _ (List.getElem_mem hil)
      have hcons : writtenL di (ll[i] :: ll.drop (i + 1)) = writtenL d ll := by rw [← HWR.out, List.drop_eq_getElem_cons hil]
      obtain ⟨s, hsi⟩ : ∃ s, ll[i] = s := ⟨_, rfl⟩
      rw [hsi] at hu2 hok hcons
      rw [writtenL_cons] at hcons
      obtain ⟨ua, uc, rfl, -, -⟩ := hu2.shape
      have huw := Below.keepc HBR.out hu1
      have SV := Save_t _ _ di s wr HDAT.out (hu2.keep HBR.out) hok.2 hok.1
      obtain ⟨⟨x, xe⟩, hx⟩ : ∃ r, saveD di s = r := ⟨_, rfl⟩
      rw [hx] at SV hcons
      simp only at hcons
      have SV := Lib.hid SV
      obtain ⟨us, hus⟩ : ∃ n, (s.map writeCell).length = n := ⟨_, rfl⟩
      rw [hus] at SV huw
      have HCO := Lib.hid hcons
      clear hcons hu1 hu2 hok hsi hx hus
      go_wp2_with fail
      refine SV.out.mono ?_
      rintro e w1 ⟨v1, rfl, hd1, hb1⟩
      simp only at hd1
      obtain ⟨p1, c1, p2, c2, rfl, -, -⟩ := hd1.shape
      obtain ⟨k0, hk0⟩ : ∃ n, x.secs.length = n := ⟨_, rfl⟩
      obtain ⟨k1, hk1⟩ : ∃ n, x.dirty.length = n := ⟨_, rfl⟩
      rw [hk0, hk1] at hd1 ⊢
      obtain ⟨W2, hW2⟩ : ∃ W, w1.alloc (.cells #[.slice p1 k0 c1, .slice p2 k1 c2] 25) = W := ⟨_, rfl⟩
      have hb2 : Below wr.heap.size wr W2 := Below.then hb1 (by rw [← hW2]; exact below_new _ _)
      have HX := Lib.hid (show At2 25 W2 w1.heap.size (.slice p1 k0 c1) (.slice p2 k1 c2) by rw [← hW2]; exact At2.new _ _ _ _)
      have HXD := Lib.hid (show DskAt W2 (.agg #[.slice p1 k0 c1, .slice p2 k1 c2]) x by rw [← hW2]; exact hd1.keep (below_new _ _))
      have HB2 := Lib.hid hb2
      have HW2 := Lib.hid hW2
      have HR2 := Lib.hid (HRR.out.keep hb2)
      have HBF := Lib.hid (Below.then HBR.out hb2)
      clear hb1 hb2 hW2 hd1 a0 a1 hk0 hk1 SV
      simp only
      go_upto_region 5 with fail
      rw [HW2.out]
      by_cases hxe : xe = 0
      rotate_left
      · have HO := Lib.hid (show writtenL d ll = (nilLed, xe) by rw [← HCO.out, if_neg hxe])
        have q : (xe != 0) = true := bne_iff_ne.2 hxe
        obtain ⟨f0, f1, f2, f3, f4, f5⟩ := HR2.out.free
        obtain ⟨g0, g1, g2, g3, g4, g5⟩ := HR2.out.cells
        go_wp2_with fail
        exact bodyPost_ret (results_led (p := 4) (q := 5) rfl _ _ (w.heap.size + 1) _ _ _ _ _ _ rfl (HR2.out.set _ _ _ _ _ _)) rfl ⟨_, by rw [HO.out]; rfl, by rw [HO.out]; exact nilLed_at _, set6_below HBF.out (by omega) _ _ _ _ _ _⟩
      · subst hxe
        have FL := Flush_t _ x W2 HXD.out
        obtain ⟨⟨y, ye⟩, hy⟩ : ∃ r, flushD x = r := ⟨_, rfl⟩
        have hcons := HCO.out
        rw [if_pos rfl, hy] at hcons
        simp only at hcons
        rw [hy] at FL
        have FL := Lib.hid FL
        have HCO2 := Lib.hid hcons
        clear hcons hy HCO
        obtain ⟨x0, x1⟩ := HX.out.cells
        go_wp2_with fail
        refine FL.out.mono ?_
        rintro e w3 ⟨v3, rfl, hd3, hb3⟩
        simp only at hd3
        obtain ⟨p3, c3, p4, c4, rfl, -, -⟩ := hd3.shape
        obtain ⟨k2, hk2⟩ : ∃ n, y.secs.length = n := ⟨_, rfl⟩
        obtain ⟨k3, hk3⟩ : ∃ n, y.dirty.length = n := ⟨_, rfl⟩
        have hbox3 := HBOX.out.keep (Below.then HB2.out hb3)
        have hdi3 := HDI.out.keep (Below.then HB2.out hb3)
        rw [hk2, hk3] at hd3 ⊢
        obtain ⟨W4, hW4⟩ : ∃ W, (w3.setCell ⟨w.heap.size, 0, none⟩ (.slice p3 k2 c3)).setCell ⟨w.heap.size, 1, none⟩ (.slice p4 k3 c4) = W := ⟨_, rfl⟩
        have HI4 := Lib.hid (show DskIn W4 w.heap.size y by rw [← hW4]; exact DskIn.set hdi3 hd3)
        have HR4 := Lib.hid (show At6 27 W4 (w.heap.size + 1) nilV nilV zeroV zeroV zeroV nilV by
          rw [← hW4]
          exact (HR2.out.keep hb3).other (set2_block w3 w.heap.size (w.heap.size + 1) (.slice p3 k2 c3) (.slice p4 k3 c4) (by omega)))
        have HB4 := Lib.hid (show Below w.heap.size w W4 by rw [← hW4]; exact set2_below (Below.then HBF.out hb3) (Nat.le_refl _) (.slice p3 k2 c3) (.slice p4 k3 c4))
        have HW4 := Lib.hid hW4
        obtain ⟨b0, b1⟩ := hbox3.cells
        obtain ⟨e0, e1⟩ := hbox3.free
        clear hk2 hk3 hW4 hd3 hb3 hbox3 hdi3 x0 x1 FL
        simp only
        go_upto_region 8 with fail
        rw [HW4.out]
        by_cases hye : ye = 0
        rotate_left
        · have HO := Lib.hid (show writtenL d ll = (nilLed, ye) by rw [← HCO2.out, if_neg hye])
          have q : (ye != 0) = true := bne_iff_ne.2 hye
          obtain ⟨f0, f1, f2, f3, f4, f5⟩ := HR4.out.free
          obtain ⟨g0, g1, g2, g3, g4, g5⟩ := HR4.out.cells
          clear b0 b1 e0 e1
          go_wp2_with fail
          exact bodyPost_ret (results_led (p := 4) (q := 5) rfl _ _ (w.heap.size + 1) _ _ _ _ _ _ rfl (HR4.out.set _ _ _ _ _ _)) rfl ⟨_, by rw [HO.out]; rfl, by rw [HO.out]; exact nilLed_at _, set6_below HB4.out (by omega) _ _ _ _ _ _⟩
        · subst hye
          have HNX := Lib.hid (show writtenL y (ll.drop (i + 1)) = writtenL d ll by rw [← HCO2.out, if_pos rfl])
          clear b0 b1 e0 e1
          go_wp2_with fail
          go_roundw
          case rel => exact ⟨i + 1, y, by omega, by go_num, HI4.out, HNX.out, HR4.out, HB4.out⟩
          case measure => simp [intOf]; omega
    · have hlt' : ¬ ((i : Int) < (nl : Int)) := by omega
      have HO := Lib.hid (show openL di = writtenL d ll by
        rw [← HWR.out, List.drop_eq_nil_of_le (by rw [HNL.out]; omega)]; rfl)
      have OP := Lib.hid (Open_t aD aS aZ _ di wr (HE.out.keep HBR.out) HDAT.out)
      go_wp2_with fail
      refine OP.out.mono ?_
      rintro e w1 ⟨v1, rfl, hd1, hb1⟩
      obtain ⟨p1, c1, p2, c2, p3, c3, rfl, -, -, -⟩ := hd1.shape
      have HL1 := Lib.hid hd1
      have HR1 := Lib.hid (HRR.out.keep hb1)
      have HB1 := Lib.hid (Below.then HBR.out hb1)
      have HDN := Lib.hid (openL_dirty di)
      obtain ⟨⟨f, fe⟩, hf⟩ : ∃ r, openL di = r := ⟨_, rfl⟩
      rw [hf] at HL1 HO HDN ⊢
      simp only at HL1 HDN ⊢
      clear hd1 hb1 hf a0 a1 OP
      obtain ⟨f0, f1, f2, f3, f4, f5⟩ := HR1.out.free
      obtain ⟨g0, g1, g2, g3, g4, g5⟩ := HR1.out.cells
      go_wp2_with fail
      exact bodyPost_ret (results_led (p := 4) (q := 5) rfl _ _ (w.heap.size + 1) _ _ _ _ _ _ rfl (HR1.out.set _ _ _ _ _ _)) rfl ⟨_, by rw [← HO.out]; rfl, by rw [← HO.out]; exact HL1.out.nst HDN.out (set6_nst HR1.out (noStr_slice _ _ _) (noStr_slice _ _ _) (noStr_int _ _) (noStr_int _ _) (noStr_int _ _) (noStr_slice _ _ _) _ _ _ _ _ _), set6_below HB1.out (by omega) _ _ _ _ _ _⟩
end Go.Proofs.YtkplpodljmlanaaGreatDoor
/-! The program's Add, Renew and Format, by contracts. Conditions: octet's errors lie where they lie. -/
namespace Go.Proofs.YtkplpodljmlanaaGreatDoor
open Go.RowKit Go.WideShapes

theorem writtenL_dirty : ∀ (ll : List (List (Int × ByteArray))) (d : Dsk), (writtenL d ll).1.disk.dirty = []
  | [], d => openL_dirty d
  | s :: r, d => by
    rw [writtenL_cons]
    split
    · split
      · exact writtenL_dirty r _
      · rfl
    · rfl
theorem stepsL_ok {l : Led} {renew : Bool} {ss : List ByteArray} (h : (stepsL l renew ss).2 = 0) : StepsOk (stepsL l renew ss).1 ∧ 0 < (stepsL l renew ss).1.length := by
  have hr : rightLed l = true := by
    cases hq : rightLed l with
    | true => rfl
    | false => unfold stepsL at h; rw [hq] at h; cases h
  obtain ⟨n, g, u, es, ho, e⟩ := rightLed_inv hr
  rw [e] at h ⊢
  obtain ⟨hg, hs⟩ := goes_of ho h
  rw [hs]
  refine ⟨fun s hs => ?_, by simp⟩
  have hm := ho.right.most
  rcases List.mem_cons.1 hs with rfl | hs
  · obtain ⟨h1, h2⟩ := fillW_right ho.right hg.le hg.fits
    refine ⟨by omega, fun x hx => ?_⟩
    obtain ⟨k1, k2, k3⟩ := (well_iff _ _).1 h1 x hx
    exact ⟨by rw [k3]; unfold maxLen; decide, by omega, by omega⟩
  · rw [List.mem_singleton.1 hs]
    refine ⟨by simp, fun x hx => ?_⟩
    obtain ⟨k1, k2, k3⟩ := (well_iff _ _).1 (headW_right ho.right hg.le (gOf renew g) _) x hx
    exact ⟨by rw [k3]; unfold maxLen; decide, by omega, by omega⟩

set_option maxRecDepth 100000 in
set_option maxHeartbeats 4000000 in
theorem Add_t (aD aS aZ : Addr) (v sv : Value) (l : Led) (ss : List ByteArray) (w : World) (he : Env w aD aS aZ) (h : LedAt w v l) (hss : StrRow w sv ss) (hz : ∀ s ∈ ss, s.size ≤ maxLen) :
    Calls Tryz.prog 22 #[v, sv] w (LedOut (addL l false ss) w) := by
  have HE := Lib.hid he
  have ST := fun w' (hb : Below w.heap.size w w') => lSteps_t aD aS aZ v sv l false ss w' (he.keep hb) (h.keep hb) (hss.keep hb) hz
  have HSO := Lib.hid (stepsL_ok (l := l) (renew := false) (ss := ss))
  have HAD := Lib.hid (show addL l false ss = if (stepsL l false ss).2 = 0 then writtenL l.disk (stepsL l false ss).1 else (nilLed, (stepsL l false ss).2) from rfl)
  have HWD := Lib.hid (fun d => writtenL_dirty (stepsL l false ss).1 d)
  have HDK := Lib.hid (fun w' (hb : Below w.heap.size w w') => (h.keep hb))
  obtain ⟨sa, sc, rfl, -⟩ := hss.shape
  obtain ⟨a, c, a', c', b, k, rfl, -, -, -⟩ := h.shape
  have HDD := Lib.hid (fun w' (hb : Below w.heap.size w w') => (HDK.out w' hb).parts.1)
  obtain ⟨n0, hn0⟩ : ∃ n, l.disk.secs.length = n := ⟨_, rfl⟩
  obtain ⟨n1, hn1⟩ : ∃ n, l.disk.dirty.length = n := ⟨_, rfl⟩
  obtain ⟨ne, hne⟩ : ∃ n, l.ents.length = n := ⟨_, rfl⟩
  obtain ⟨ns, hns⟩ : ∃ n, ss.length = n := ⟨_, rfl⟩
  obtain ⟨lh, hlh⟩ : ∃ x, l.half = x := ⟨_, rfl⟩
  obtain ⟨lg, hlg⟩ : ∃ x, l.gen = x := ⟨_, rfl⟩
  obtain ⟨lu, hlu⟩ : ∃ x, l.used = x := ⟨_, rfl⟩
  obtain ⟨⟨rs, re⟩, hrs⟩ : ∃ x, stepsL l false ss = x := ⟨_, rfl⟩
  rw [hn0, hn1, hne, hns, hlh, hlg, hlu, hrs] at ST
  rw [hrs] at HSO HAD HWD
  simp only at HSO HAD HWD
  rw [hn0, hn1] at HDD
  rw [hn0, hn1, hne, hns, hlh, hlg, hlu]
  obtain ⟨W, hW⟩ : ∃ W, (w.alloc (.cells #[.slice a n0 c, .slice a' n1 c', .int .i64 lh, .int .i64 lg, .int .i64 lu, .slice b ne k] 27)).alloc (.cells #[nilV, nilV, zeroV, zeroV, zeroV, nilV] 27) = W := ⟨_, rfl⟩
  have HB := Lib.hid (show Below w.heap.size w W by rw [← hW]; exact Below.then (below_new _ _) (below_new _ _))
  have HA := Lib.hid (show At6 27 W w.heap.size (.slice a n0 c) (.slice a' n1 c') (.int .i64 lh) (.int .i64 lg) (.int .i64 lu) (.slice b ne k) by rw [← hW]; exact (At6.new _ _ _ _ _ _ _ _).keep (below_new _ _))
  have HR := Lib.hid (show At6 27 W (w.heap.size + 1) nilV nilV zeroV zeroV zeroV nilV by
    rw [← hW]
    have e := At6.new 27 (w.alloc (.cells #[.slice a n0 c, .slice a' n1 c', .int .i64 lh, .int .i64 lg, .int .i64 lu, .slice b ne k] 27)) nilV nilV zeroV zeroV zeroV nilV
    rwa [World.size_alloc] at e)
  have HW := Lib.hid hW
  have STW := Lib.hid (ST W HB.out)
  clear hW he h hss hz ST hn0 hn1 hne hns hlh hlg hlu hrs HDK
  go_enter Tryz.func22, Tryz.ntmps22
  go_upto_region 1 with fail
  rw [HW.out]
  obtain ⟨a0, a1, a2, a3, a4, a5⟩ := HA.out.cells
  go_wp2_with fail
  refine STW.out.mono ?_
  rintro e w1 ⟨v1, rfl, hst, hb1⟩
  obtain ⟨va, vc, rfl, -⟩ := hst.shape
  simp only at hst
  have HST := Lib.hid hst
  have HB1 := Lib.hid (Below.then HB.out hb1)
  have HA1 := Lib.hid (HA.out.keep hb1)
  have HR1 := Lib.hid (HR.out.keep hb1)
  clear hst hb1 a0 a1 a2 a3 a4 a5 STW
  by_cases hre : re = 0
  rotate_left
  · have HO := Lib.hid (show addL l false ss = (nilLed, re) by rw [HAD.out, if_neg hre])
    have q : (re != 0) = true := bne_iff_ne.2 hre
    obtain ⟨f0, f1, f2, f3, f4, f5⟩ := HR1.out.free
    obtain ⟨g0, g1, g2, g3, g4, g5⟩ := HR1.out.cells
    simp only
    go_wp2_with fail
    exact bodyPost_ret (results_led (p := 4) (q := 5) rfl _ _ (w.heap.size + 1) _ _ _ _ _ _ rfl (HR1.out.set _ _ _ _ _ _)) rfl ⟨_, by rw [HO.out]; rfl, by rw [HO.out]; exact nilLed_at _, set6_below HB1.out (by omega) _ _ _ _ _ _⟩
  · subst hre
    have HO := Lib.hid (show addL l false ss = writtenL l.disk rs by rw [HAD.out, if_pos rfl])
    obtain ⟨hok, hpos⟩ := HSO.out rfl
    have WR := Lib.hid (written_t aD aS aZ _ _ l.disk rs w1 (HE.out.keep HB1.out) (HDD.out w1 HB1.out) HST.out hok hpos)
    have HDN := Lib.hid (HWD.out l.disk)
    obtain ⟨⟨f, fe⟩, hf⟩ : ∃ r, writtenL l.disk rs = r := ⟨_, rfl⟩
    rw [hf] at WR HO HDN
    simp only at HDN
    clear hf HWD hok hpos HSO HAD
    obtain ⟨a0, a1, a2, a3, a4, a5⟩ := HA1.out.cells
    simp only
    go_wp2_with fail
    refine WR.out.mono ?_
    rintro e w2 ⟨v2, rfl, hl2, hb2⟩
    obtain ⟨p1, c1, p2, c2, p3, c3, rfl, -, -, -⟩ := hl2.shape
    simp only at hl2
    have HL2 := Lib.hid hl2
    have HR2 := Lib.hid (HR1.out.keep hb2)
    have HB2 := Lib.hid (Below.then HB1.out hb2)
    clear hl2 hb2 a0 a1 a2 a3 a4 a5 WR
    obtain ⟨f0, f1, f2, f3, f4, f5⟩ := HR2.out.free
    obtain ⟨g0, g1, g2, g3, g4, g5⟩ := HR2.out.cells
    simp only
    go_wp2_with fail
    exact bodyPost_ret (results_led (p := 4) (q := 5) rfl _ _ (w.heap.size + 1) _ _ _ _ _ _ rfl (HR2.out.set _ _ _ _ _ _)) rfl ⟨_, by rw [HO.out]; rfl, by rw [HO.out]; exact HL2.out.nst HDN.out (set6_nst HR2.out (noStr_slice _ _ _) (noStr_slice _ _ _) (noStr_int _ _) (noStr_int _ _) (noStr_int _ _) (noStr_slice _ _ _) _ _ _ _ _ _), set6_below HB2.out (by omega) _ _ _ _ _ _⟩

set_option maxRecDepth 100000 in
set_option maxHeartbeats 4000000 in
theorem Renew_t (aD aS aZ : Addr) (v sv : Value) (l : Led) (ss : List ByteArray) (w : World) (he : Env w aD aS aZ) (h : LedAt w v l) (hss : StrRow w sv ss) (hz : ∀ s ∈ ss, s.size ≤ maxLen) :
    Calls Tryz.prog 21 #[v, sv] w (LedOut (addL l true ss) w) := by
  have HE := Lib.hid he
  have ST := fun w' (hb : Below w.heap.size w w') => lSteps_t aD aS aZ v sv l true ss w' (he.keep hb) (h.keep hb) (hss.keep hb) hz
  have HSO := Lib.hid (stepsL_ok (l := l) (renew := true) (ss := ss))
  have HAD := Lib.hid (show addL l true ss = if (stepsL l true ss).2 = 0 then writtenL l.disk (stepsL l true ss).1 else (nilLed, (stepsL l true ss).2) from rfl)
  have HWD := Lib.hid (fun d => writtenL_dirty (stepsL l true ss).1 d)
  have HDK := Lib.hid (fun w' (hb : Below w.heap.size w w') => (h.keep hb))
  obtain ⟨sa, sc, rfl, -⟩ := hss.shape
  obtain ⟨a, c, a', c', b, k, rfl, -, -, -⟩ := h.shape
  have HDD := Lib.hid (fun w' (hb : Below w.heap.size w w') => (HDK.out w' hb).parts.1)
  obtain ⟨n0, hn0⟩ : ∃ n, l.disk.secs.length = n := ⟨_, rfl⟩
  obtain ⟨n1, hn1⟩ : ∃ n, l.disk.dirty.length = n := ⟨_, rfl⟩
  obtain ⟨ne, hne⟩ : ∃ n, l.ents.length = n := ⟨_, rfl⟩
  obtain ⟨ns, hns⟩ : ∃ n, ss.length = n := ⟨_, rfl⟩
  obtain ⟨lh, hlh⟩ : ∃ x, l.half = x := ⟨_, rfl⟩
  obtain ⟨lg, hlg⟩ : ∃ x, l.gen = x := ⟨_, rfl⟩
  obtain ⟨lu, hlu⟩ : ∃ x, l.used = x := ⟨_, rfl⟩
  obtain ⟨⟨rs, re⟩, hrs⟩ : ∃ x, stepsL l true ss = x := ⟨_, rfl⟩
  rw [hn0, hn1, hne, hns, hlh, hlg, hlu, hrs] at ST
  rw [hrs] at HSO HAD HWD
  simp only at HSO HAD HWD
  rw [hn0, hn1] at HDD
  rw [hn0, hn1, hne, hns, hlh, hlg, hlu]
  obtain ⟨W, hW⟩ : ∃ W, (w.alloc (.cells #[.slice a n0 c, .slice a' n1 c', .int .i64 lh, .int .i64 lg, .int .i64 lu, .slice b ne k] 27)).alloc (.cells #[nilV, nilV, zeroV, zeroV, zeroV, nilV] 27) = W := ⟨_, rfl⟩
  have HB := Lib.hid (show Below w.heap.size w W by rw [← hW]; exact Below.then (below_new _ _) (below_new _ _))
  have HA := Lib.hid (show At6 27 W w.heap.size (.slice a n0 c) (.slice a' n1 c') (.int .i64 lh) (.int .i64 lg) (.int .i64 lu) (.slice b ne k) by rw [← hW]; exact (At6.new _ _ _ _ _ _ _ _).keep (below_new _ _))
  have HR := Lib.hid (show At6 27 W (w.heap.size + 1) nilV nilV zeroV zeroV zeroV nilV by
    rw [← hW]
    have e := At6.new 27 (w.alloc (.cells #[.slice a n0 c, .slice a' n1 c', .int .i64 lh, .int .i64 lg, .int .i64 lu, .slice b ne k] 27)) nilV nilV zeroV zeroV zeroV nilV
    rwa [World.size_alloc] at e)
  have HW := Lib.hid hW
  have STW := Lib.hid (ST W HB.out)
  clear hW he h hss hz ST hn0 hn1 hne hns hlh hlg hlu hrs HDK
  go_enter Tryz.func21, Tryz.ntmps21
  go_upto_region 1 with fail
  rw [HW.out]
  obtain ⟨a0, a1, a2, a3, a4, a5⟩ := HA.out.cells
  go_wp2_with fail
  refine STW.out.mono ?_
  rintro e w1 ⟨v1, rfl, hst, hb1⟩
  obtain ⟨va, vc, rfl, -⟩ := hst.shape
  simp only at hst
  have HST := Lib.hid hst
  have HB1 := Lib.hid (Below.then HB.out hb1)
  have HA1 := Lib.hid (HA.out.keep hb1)
  have HR1 := Lib.hid (HR.out.keep hb1)
  clear hst hb1 a0 a1 a2 a3 a4 a5 STW
  by_cases hre : re = 0
  rotate_left
  · have HO := Lib.hid (show addL l true ss = (nilLed, re) by rw [HAD.out, if_neg hre])
    have q : (re != 0) = true := bne_iff_ne.2 hre
    obtain ⟨f0, f1, f2, f3, f4, f5⟩ := HR1.out.free
    obtain ⟨g0, g1, g2, g3, g4, g5⟩ := HR1.out.cells
    simp only
    go_wp2_with fail
    exact bodyPost_ret (results_led (p := 4) (q := 5) rfl _ _ (w.heap.size + 1) _ _ _ _ _ _ rfl (HR1.out.set _ _ _ _ _ _)) rfl ⟨_, by rw [HO.out]; rfl, by rw [HO.out]; exact nilLed_at _, set6_below HB1.out (by omega) _ _ _ _ _ _⟩
  · subst hre
    have HO := Lib.hid (show addL l true ss = writtenL l.disk rs by rw [HAD.out, if_pos rfl])
    obtain ⟨hok, hpos⟩ := HSO.out rfl
    have WR := Lib.hid (written_t aD aS aZ _ _ l.disk rs w1 (HE.out.keep HB1.out) (HDD.out w1 HB1.out) HST.out hok hpos)
    have HDN := Lib.hid (HWD.out l.disk)
    obtain ⟨⟨f, fe⟩, hf⟩ : ∃ r, writtenL l.disk rs = r := ⟨_, rfl⟩
    rw [hf] at WR HO HDN
    simp only at HDN
    clear hf HWD hok hpos HSO HAD
    obtain ⟨a0, a1, a2, a3, a4, a5⟩ := HA1.out.cells
    simp only
    go_wp2_with fail
    refine WR.out.mono ?_
    rintro e w2 ⟨v2, rfl, hl2, hb2⟩
    obtain ⟨p1, c1, p2, c2, p3, c3, rfl, -, -, -⟩ := hl2.shape
    simp only at hl2
    have HL2 := Lib.hid hl2
    have HR2 := Lib.hid (HR1.out.keep hb2)
    have HB2 := Lib.hid (Below.then HB1.out hb2)
    clear hl2 hb2 a0 a1 a2 a3 a4 a5 WR
    obtain ⟨f0, f1, f2, f3, f4, f5⟩ := HR2.out.free
    obtain ⟨g0, g1, g2, g3, g4, g5⟩ := HR2.out.cells
    simp only
    go_wp2_with fail
    exact bodyPost_ret (results_led (p := 4) (q := 5) rfl _ _ (w.heap.size + 1) _ _ _ _ _ _ rfl (HR2.out.set _ _ _ _ _ _)) rfl ⟨_, by rw [HO.out]; rfl, by rw [HO.out]; exact HL2.out.nst HDN.out (set6_nst HR2.out (noStr_slice _ _ _) (noStr_slice _ _ _) (noStr_int _ _) (noStr_int _ _) (noStr_int _ _) (noStr_slice _ _ _) _ _ _ _ _ _), set6_below HB2.out (by omega) _ _ _ _ _ _⟩
end Go.Proofs.YtkplpodljmlanaaGreatDoor
/-! The program's Format, by a contract. Conditions: octet's errors lie where they lie. -/
namespace Go.Proofs.YtkplpodljmlanaaGreatDoor
open Go.RowKit Go.WideShapes

theorem sets_cell {w : World} {B : Nat} {a b c d e f u : Value} {p : Addr} (hne : p.block ≠ B) (h : w.cell? p = some u) : ((((((w.setCell ⟨B, 0, none⟩ a).setCell ⟨B, 1, none⟩ b).setCell ⟨B, 2, none⟩ c).setCell ⟨B, 3, none⟩ d).setCell ⟨B, 4, none⟩ e).setCell ⟨B, 5, none⟩ f).cell? p = some u :=
  (World.cell?_of_block (set6_block w B p.block a b c d e f hne)).trans h
def formatL (n : Int) : Led × Int := if (newD n).2 = 0 then writtenL (newD n).1 [[headW (newD n).1 0 1 0]] else (nilLed, (newD n).2)
theorem newD_ok {n : Int} (h : (newD n).2 = 0) : RightIs (newD n).1 ∧ (newD n).1.dirty = [] := by
  unfold newD at h ⊢
  split
  · rename_i hh
    simp only [haveB, Bool.and_eq_true, decide_eq_true_eq] at hh
    refine ⟨⟨fun s hs => ?_, by simp; omega, by simp; omega, by simp, fun w hw => by cases hw⟩, rfl⟩
    rw [List.eq_of_mem_replicate hs]; exact secB_size 0
  · rename_i hh
    rw [if_neg hh] at h
    cases h

theorem one_step (w : World) (p : Int) (x : ByteArray) : StepsAt ((w.alloc (.cells #[.int .i64 p, .string x] 48)).alloc (.cells #[.slice (some ⟨w.heap.size, 0, none⟩) 1 1] 23)) (.slice (some ⟨w.heap.size + 1, 0, none⟩) 1 1) [[(p, x)]] := by
  refine Or.inr ⟨w.heap.size + 1, 1, rfl, by simp, Nat.le_refl 1, by decide, fun i hi => ?_⟩
  obtain rfl : i = 0 := by simpa using hi
  refine ⟨.slice (some ⟨w.heap.size, 0, none⟩) 1 1, ?_, head_row ((At2.new 48 w (.int .i64 p) (.string x)).keep (below_new _ _))⟩
  rw [World.cell?_alloc_at _ _ _ _ (by simp)]; rfl

set_option maxRecDepth 100000 in
set_option maxHeartbeats 4000000 in
theorem Format_t (aD aS aZ : Addr) (n : Int) (w : World) (he : Env w aD aS aZ) : Calls Tryz.prog 14 #[.int .i64 n] w (LedOut (formatL n) w) := by
  have HE := Lib.hid he
  have HF := Lib.hid (show formatL n = if (newD n).2 = 0 then writtenL (newD n).1 [[headW (newD n).1 0 1 0]] else (nilLed, (newD n).2) from rfl)
  have HNO := Lib.hid (newD_ok (n := n))
  obtain ⟨W, hW⟩ : ∃ W, w.alloc (.cells #[nilV, nilV, zeroV, zeroV, zeroV, nilV] 27) = W := ⟨_, rfl⟩
  have HB := Lib.hid (show Below w.heap.size w W by rw [← hW]; exact below_new _ _)
  have HR := Lib.hid (show At6 27 W w.heap.size nilV nilV zeroV zeroV zeroV nilV by rw [← hW]; exact At6.new _ _ _ _ _ _ _ _)
  have NW := New_t n W
  obtain ⟨⟨d, de⟩, hd⟩ : ∃ x, newD n = x := ⟨_, rfl⟩
  rw [hd] at NW HF HNO
  simp only at HF HNO
  have NW := Lib.hid NW
  have HW := Lib.hid hW
  clear hW he hd
  go_enter Tryz.func14, Tryz.ntmps14
  go_upto_region 1 with fail
  rw [HW.out]
  go_wp2_with fail
  refine NW.out.mono ?_
  rintro e w1 ⟨v, rfl, hd1, hb1⟩
  obtain ⟨p1, c1, p2, c2, rfl, -, -⟩ := hd1.shape
  simp only at hd1
  obtain ⟨n0, hn0⟩ : ∃ n, d.secs.length = n := ⟨_, rfl⟩
  obtain ⟨n1, hn1⟩ : ∃ n, d.dirty.length = n := ⟨_, rfl⟩
  simp only
  rw [hn0, hn1] at hd1 ⊢
  obtain ⟨W2, hW2⟩ : ∃ W, w1.alloc (.cells #[.slice p1 n0 c1, .slice p2 n1 c2] 25) = W := ⟨_, rfl⟩
  have hb2 : Below W.heap.size W W2 := Below.then hb1 (by rw [← hW2]; exact below_new _ _)
  have HD := Lib.hid (show DskAt W2 (.agg #[.slice p1 n0 c1, .slice p2 n1 c2]) d by rw [← hW2]; exact hd1.keep (below_new _ _))
  have HX := Lib.hid (show At2 25 W2 w1.heap.size (.slice p1 n0 c1) (.slice p2 n1 c2) by rw [← hW2]; exact At2.new _ _ _ _)
  have HR2 := Lib.hid (HR.out.keep hb2)
  have hne : w1.heap.size ≠ w.heap.size := by have h1 := HR.out.lt; have h2 := hb1.size; omega
  have HB2 := Lib.hid (Below.then HB.out hb2)
  have HW2 := Lib.hid hW2
  clear hW2 hb1 hb2 hd1 hn0 hn1 NW
  go_upto_region 2 with fail
  rw [HW2.out]
  by_cases hde : de = 0
  rotate_left
  · have HO := Lib.hid (show formatL n = (nilLed, de) by rw [HF.out, if_neg hde])
    have q : (de != 0) = true := bne_iff_ne.2 hde
    obtain ⟨f0, f1, f2, f3, f4, f5⟩ := HR2.out.free
    obtain ⟨g0, g1, g2, g3, g4, g5⟩ := HR2.out.cells
    go_wp2_with fail
    exact bodyPost_ret (results_led (p := 2) (q := 3) rfl _ _ w.heap.size _ _ _ _ _ _ rfl (HR2.out.set _ _ _ _ _ _)) rfl ⟨_, by rw [HO.out]; rfl, by rw [HO.out]; exact nilLed_at _, set6_below HB2.out (Nat.le_refl _) _ _ _ _ _ _⟩
  · subst hde
    obtain ⟨hr, hdn⟩ := HNO.out rfl
    have HO := Lib.hid (show formatL n = writtenL d [[headW d 0 1 0]] by rw [HF.out, if_pos rfl])
    have CH := fun w' (hb : Below W2.heap.size W2 w') => halfOf_t _ d 0 w' (HD.out.keep hb) (by omega) hr.most
    unfold halfV at CH
    obtain ⟨p, hp⟩ : ∃ p, 0 * hOf d = p := ⟨_, rfl⟩
    obtain ⟨r, hrr⟩ : ∃ r, (0 + 1) * hOf d = r := ⟨_, rfl⟩
    rw [hp, hrr] at CH
    have CH := Lib.hid CH
    have hok : StepsOk [[headW d 0 1 0]] := by
      intro s hs
      rw [List.mem_singleton.1 hs]
      refine ⟨by simp, fun x hx => ?_⟩
      obtain ⟨k1, k2, k3⟩ := (well_iff _ _).1 (headW_right hr (by omega : 0 ≤ 1) 1 0) x hx
      have := hr.most
      exact ⟨by rw [k3]; unfold maxLen; decide, by omega, by omega⟩
    have CW := Lib.hid (show ∀ w' (B : Nat), Below W2.heap.size W2 w' → StepsAt w' (.slice (some ⟨B, 0, none⟩) 1 1) [[headW d 0 1 0]] → Calls Tryz.prog 45 #[.agg #[.slice p1 n0 c1, .slice p2 n1 c2], .slice (some ⟨B, 0, none⟩) 1 1] w' (LedOut (writtenL d [[headW d 0 1 0]]) w') from fun w' B hb hs => written_t aD aS aZ _ _ d _ w' (HE.out.keep (Below.then HB2.out hb)) (HD.out.keep hb) hs hok (by simp))
    have HHW := Lib.hid (show headW d 0 1 0 = ((p : Int), headB 1 0) by unfold headW; rw [hp])
    have HX1 := Lib.hid (fun w' (hb : Below W2.heap.size W2 w') => headed_t aD aS aZ p r 1 0 w' (HE.out.keep (Below.then HB2.out hb)) (by omega) (by omega))
    obtain ⟨x, hx⟩ : ∃ x, headB 1 0 = x := ⟨_, rfl⟩
    rw [hx] at HX1 HHW
    have HWD := Lib.hid (writtenL_dirty [[headW d 0 1 0]] d)
    obtain ⟨⟨f, fe⟩, hf⟩ : ∃ r, writtenL d [[headW d 0 1 0]] = r := ⟨_, rfl⟩
    rw [hf] at CW HO HWD
    rw [HHW.out] at CW
    simp only at HWD
    clear hr hdn hp hrr hok hf hx HNO HF
    obtain ⟨a0, a1⟩ := HX.out.cells
    obtain ⟨f0, f1, f2, f3, f4, f5⟩ := HR2.out.free
    obtain ⟨g0, g1, g2, g3, g4, g5⟩ := HR2.out.cells
    have hbA := Below.refl W2.heap.size W2
    go_upto_region 4 with fail
    go_region_law (first
      | (go_simp; go_at_call 35; refine (CH.out _ (by first | exact hbA | exact hbA.drew)).mono ?_; rintro e wS ⟨rfl, hbS⟩; have hbA : Below W2.heap.size W2 wS := (by first | exact Below.then hbA hbS | exact Below.then hbA.drew hbS); obtain ⟨a0, a1⟩ := (HX.out.keep hbA).cells)
      | (go_simp; go_at_call 46; refine (HX1.out _ (by first | exact hbA | exact hbA.drew)).mono ?_; rintro e wH ⟨rfl, hbS⟩; have hbA : Below W2.heap.size W2 wH := (by first | exact Below.then hbA hbS | exact Below.then hbA.drew hbS); obtain ⟨a0, a1⟩ := (HX.out.keep hbA).cells; obtain ⟨l0, l1⟩ := (HX.out.keep (Below.then hbA (below_new wH (.cells #[.int .i64 p, .string x] 48)))).cells; have hbB := Lib.hid (Below.then hbA (Below.then (below_new wH (.cells #[.int .i64 p, .string x] 48)) (below_new _ (.cells #[.slice (some ⟨wH.heap.size, 0, none⟩) 1 1] 23)))); obtain ⟨m0, m1⟩ := (HX.out.keep hbB.out).cells; have hSW := Lib.hid (one_step wH (p : Int) x))
      | (go_simp; go_at_call 45; refine (CW.out _ _ hbB.out hSW.out).mono ?_; rintro e w5 ⟨v2, rfl, hl2, hb5⟩; obtain ⟨q1, k1, q2, k2, q3, k3, rfl, -, -, -⟩ := hl2.shape; have hR5 := Lib.hid (HR2.out.keep (Below.then hbB.out hb5)); obtain ⟨f0, f1, f2, f3, f4, f5⟩ := hR5.out.free; obtain ⟨g0, g1, g2, g3, g4, g5⟩ := hR5.out.cells))
    all_goals
      have HL2 := Lib.hid hl2
      have HB5 := Lib.hid (Below.then HB2.out (Below.then hbB.out hb5))
      clear hl2 hbS a0 a1 l0 l1 m0 m1 f0 f1 f2 f3 f4 f5 g0 g1 g2 g3 g4 g5
      go_wp2_with fail
      exact bodyPost_ret (results_led (p := 2) (q := 3) rfl _ _ w.heap.size _ _ _ _ _ _ rfl (hR5.out.set _ _ _ _ _ _)) rfl ⟨_, by rw [HO.out]; rfl, by rw [HO.out]; exact HL2.out.nst HWD.out (set6_nst hR5.out (noStr_slice _ _ _) (noStr_slice _ _ _) (noStr_int _ _) (noStr_int _ _) (noStr_int _ _) (noStr_slice _ _ _) _ _ _ _ _ _), set6_below HB5.out (Nat.le_refl _) _ _ _ _ _ _⟩
end Go.Proofs.YtkplpodljmlanaaGreatDoor
/-! Plain facts of ledgers: what Format, Add and Renew come to. Conditions: none. -/
namespace Go.Proofs.YtkplpodljmlanaaGreatDoor

def nextD (d : Dsk) (n g u : Nat) (renew : Bool) (ss : List ByteArray) : Dsk := headD (fillOf d n u renew ss) (mOf renew n) (gOf renew g) (usedOf d n u renew ss)
section
variable {d : Dsk} {n g u : Nat} {es : List ByteArray} {renew : Bool} {ss : List ByteArray}
theorem fillOf_len (d : Dsk) (n u : Nat) (renew : Bool) (ss : List ByteArray) : (fillOf d n u renew ss).secs.length = d.secs.length := fillD_len ..
theorem headW_fill (d : Dsk) (n u m g' u' : Nat) (renew : Bool) (ss : List ByteArray) : headW d m g' u' = headW (fillOf d n u renew ss) m g' u' := by unfold headW; rw [fillOf_half]
theorem Goes.headed (h : Goes d n g u es renew ss) : Headed (fillOf d n u renew ss) (nextD d n g u renew ss) (mOf renew n) (headL (gOf renew g) (usedOf d n u renew ss)) := headD_headed h.mid.right h.le _ _
theorem Goes.next (h : Goes d n g u es renew ss) : Opens (nextD d n g u renew ss) (mOf renew n) (gOf renew g) (usedOf d n u renew ss) (esOf renew es ss) := h.news h.headed
theorem Goes.written (h : Goes d n g u es renew ss) : writtenL d [fillW d (mOf renew n) (thereOf renew d n u) (bindL ss), [headW d (mOf renew n) (gOf renew g) (usedOf d n u renew ss)]] = openL (nextD d n g u renew ss) := by
  obtain ⟨h1, h2⟩ := fill_flush h.opens.right h.opens.clean h.le h.fits
  obtain ⟨h3, h4⟩ := head_flush h.mid.right h.mid.clean h.le (gOf renew g) (usedOf d n u renew ss)
  rw [headW_fill d n u _ _ _ renew ss, writtenL_cons, h1, if_pos rfl, h2, if_pos rfl]
  show writtenL (fillOf d n u renew ss) _ = _
  rw [writtenL_cons, h3, if_pos rfl, h4, if_pos rfl]
  rfl
theorem addL_ok (h : Opens d n g u es) (h0 : (stepsL ⟨d, n, g, u, es⟩ renew ss).2 = 0) :
    Goes d n g u es renew ss ∧ addL ⟨d, n, g, u, es⟩ renew ss = (⟨nextD d n g u renew ss, (mOf renew n : Nat), (gOf renew g : Nat), (usedOf d n u renew ss : Nat), esOf renew es ss⟩, 0) := by
  obtain ⟨hg, hs⟩ := goes_of h h0
  refine ⟨hg, ?_⟩
  unfold addL
  rw [if_pos h0, hs]
  show writtenL d _ = _
  have := hg.written
  unfold usedOf at this
  rw [this, hg.next.out]
theorem addL_no (h : Opens d n g u es) (h0 : (stepsL ⟨d, n, g, u, es⟩ renew ss).2 ≠ 0) :
    addL ⟨d, n, g, u, es⟩ renew ss = (nilLed, 2) ∧ mayB ss = false ∨ addL ⟨d, n, g, u, es⟩ renew ss = (nilLed, 13) ∧ mayB ss = true ∧ (roomN d < (thereOf renew d n u).length + (bindL ss).length ∨ 1099511627776 < gOf renew g) := by
  unfold addL
  rw [if_neg h0]
  rcases steps_no h h0 with ⟨h1, h2⟩ | ⟨h1, h2, h3⟩
  · rw [h1]; exact Or.inl ⟨rfl, h2⟩
  · rw [h1]; exact Or.inr ⟨rfl, h2, h3⟩
theorem addL_goes (h : Goes d n g u es renew ss) : addL ⟨d, n, g, u, es⟩ renew ss = (⟨nextD d n g u renew ss, (mOf renew n : Nat), (gOf renew g : Nat), (usedOf d n u renew ss : Nat), esOf renew es ss⟩, 0) := by
  refine (addL_ok h.opens ?_).2
  rw [stepsL_of h.opens, h.may, if_pos rfl]
  unfold layL
  rw [if_neg (by have := h.fits; have := h.most; omega)]
end

/-! ### What any call comes to -/
/-- A ledger that may be. -/
def LedOk (l : Led) : Prop := ∃ n g u, Opens l.disk n g u l.ents ∧ l.half = (n : Int) ∧ l.gen = (g : Int) ∧ l.used = (u : Int)
theorem LedOk.of {d : Dsk} {n g u : Nat} {es : List ByteArray} (h : Opens d n g u es) : LedOk ⟨d, n, g, u, es⟩ := ⟨n, g, u, h, rfl, rfl, rfl⟩
theorem LedOk.dirty {l : Led} (h : LedOk l) : l.disk.dirty = [] := by obtain ⟨n, g, u, h, -⟩ := h; exact h.clean
theorem LedOk.open {l : Led} (h : LedOk l) : openL l.disk = (l, 0) := by
  obtain ⟨n, g, u, h, h1, h2, h3⟩ := h
  rw [h.out, ← h1, ← h2, ← h3]
theorem LedOk.right {l : Led} (h : LedOk l) : rightLed l = true := by
  unfold rightLed
  rw [h.open]
  simp
/-- An error, or a ledger that may be with these entries. -/
theorem addL_any {l : Led} (h : LedOk l) (renew : Bool) (ss : List ByteArray) :
    (addL l renew ss = (nilLed, 2) ∨ addL l renew ss = (nilLed, 13)) ∨ ∃ l', addL l renew ss = (l', 0) ∧ LedOk l' ∧ l'.ents = esOf renew l.ents ss ∧ l'.disk.secs.length = l.disk.secs.length ∧ mayB ss = true := by
  obtain ⟨n, g, u, ho, h1, h2, h3⟩ := h
  obtain ⟨d, lh, lg, lu, es⟩ := l
  simp only at ho h1 h2 h3
  subst h1; subst h2; subst h3
  by_cases h0 : (stepsL ⟨d, n, g, u, es⟩ renew ss).2 = 0
  · obtain ⟨hg, e⟩ := addL_ok ho h0
    refine Or.inr ⟨_, e, LedOk.of hg.next, rfl, ?_, hg.may⟩
    show (clean _ _).secs.length = _
    rw [clean_length, fillOf_len]
  · left
    rcases addL_no ho h0 with ⟨e, -⟩ | ⟨e, -⟩
    · exact Or.inl e
    · exact Or.inr e

/-! ### Format -/
theorem zeros_told (room : Nat) : toldGo room (List.replicate 128 0) = (0, 0) := by
  unfold toldGo
  rw [if_neg]
  rintro ⟨h, -⟩
  exact absurd h (by decide)
def fmtD (n : Nat) : Dsk := headD ⟨List.replicate n (secB 0), []⟩ 0 1 0
theorem zero_sec (n k : Nat) (hk : k < n) : secAt ⟨List.replicate n (secB 0), []⟩ k = List.replicate 128 0 := by
  unfold secAt
  rw [List.getD_eq_getElem?_getD, List.getElem?_replicate, if_pos hk]
  rfl
theorem newD_nat (n : Nat) (h4 : 4 ≤ n) (h64 : n ≤ 64) : newD n = (⟨List.replicate n (secB 0), []⟩, 0) := by
  unfold newD
  rw [if_pos (by simp [haveB]; omega), Int.toNat_natCast]
theorem fmt_right (n : Nat) (h4 : 4 ≤ n) (h64 : n ≤ 64) : RightIs ⟨List.replicate n (secB 0), []⟩ := by
  have := newD_ok (n := (n : Int)) (by rw [newD_nat n h4 h64])
  rw [newD_nat n h4 h64] at this
  exact this.1
theorem fmt_headed (n : Nat) (h4 : 4 ≤ n) (h64 : n ≤ 64) : Headed ⟨List.replicate n (secB 0), []⟩ (fmtD n) 0 (headL 1 0) := headD_headed (fmt_right n h4 h64) (by omega) 1 0
theorem fmtD_len (n : Nat) : (fmtD n).secs.length = n := by unfold fmtD headD; rw [clean_length]; simp
theorem fmt_opens (n : Nat) (h4 : 4 ≤ n) (h64 : n ≤ 64) : Opens (fmtD n) 0 1 0 [] := by
  refine (fmt_headed n h4 h64).news (fmt_right n h4 h64) (by omega) (by omega) (by omega) (Nat.zero_le _) (Or.inl ⟨rfl, ?_⟩) rfl
  have h1 := head_lt (fmt_right n h4 h64) (show 1 ≤ 1 by omega)
  have h2 : hOf ⟨List.replicate n (secB 0), []⟩ < n := by simpa using h1
  show (toldGo _ _).1 ≤ 1
  rw [zero_sec n _ (by omega), zeros_told]
  exact Nat.zero_le _
theorem formatL_ok (n : Nat) (h4 : 4 ≤ n) (h64 : n ≤ 64) : formatL n = (⟨fmtD n, 0, 1, 0, []⟩, 0) := by
  unfold formatL
  rw [newD_nat n h4 h64, if_pos rfl]
  obtain ⟨h3, h5⟩ := head_flush (fmt_right n h4 h64) rfl (show 0 ≤ 1 by omega) 1 0
  show writtenL _ _ = _
  rw [writtenL_cons, h3, if_pos rfl, h5, if_pos rfl]
  show openL (fmtD n) = _
  rw [(fmt_opens n h4 h64).out]
  rfl
theorem formatL_no (n : Int) (h : ¬ (4 ≤ n ∧ n ≤ 64)) : formatL n = (nilLed, 1) := by
  unfold formatL newD
  rw [if_neg (show ¬ haveB n = true by simp only [haveB, Bool.and_eq_true, decide_eq_true_eq]; exact h), if_neg (by decide)]
theorem fmt_ok (n : Nat) (h4 : 4 ≤ n) (h64 : n ≤ 64) : LedOk ⟨fmtD n, 0, 1, 0, []⟩ := LedOk.of (fmt_opens n h4 h64)
end Go.Proofs.YtkplpodljmlanaaGreatDoor
/-! The laws' few, texts and alive, by contracts. Conditions: octet's errors lie where they lie. -/
namespace Go.Proofs.YtkplpodljmlanaaGreatDoor
open Go.RowKit Go.WideShapes

theorem StrsAt.many {w : World} {v : Value} {ss : List ByteArray} (h : StrsAt w v ss) : (v = .slice none 0 0 ∧ ss = []) ∨ ∃ ad cap, v = .slice (some ad) ss.length cap ∧ ss.length ≤ cap ∧ cap ≤ maxLen ∧ ∀ i (h : i < ss.length), w.cell? (ad.add i) = some (.string ss[i]) := by
  rcases h with ⟨rfl, rfl | ⟨a, cap, rfl, hc⟩⟩ | ⟨b, o, cap, rfl, h2, h3, h4, h5⟩
  · exact Or.inl ⟨rfl, rfl⟩
  · exact Or.inr ⟨a, cap, rfl, Nat.zero_le _, hc, fun i hi => absurd hi (Nat.not_lt_zero _)⟩
  · exact Or.inr ⟨_, cap, rfl, h3, h4, fun i hi => by rw [add_plain]; exact h5 i hi⟩
set_option maxRecDepth 100000 in
set_option maxHeartbeats 2000000 in
theorem texts_t (v : Value) (ss : List ByteArray) (w : World) (h : StrsAt w v ss) (hsz : ∀ s ∈ ss, s.size ≤ maxLen) :
    Calls Tryz.prog 19 #[v] w fun e w' => ∃ g c, e = .returned (.slice (some ⟨g, 0, none⟩) (fewB ss).length c) ∧ StrRow w' (.slice (some ⟨g, 0, none⟩) (fewB ss).length c) (fewB ss) ∧ Below w.heap.size w w' := by
  have hl := h.shape.choose_spec.choose_spec.2.2
  unfold maxLen at hl hsz
  obtain ⟨i0, hi, hz0, hz1, hz2⟩ := info_parts infoStr
  rcases h.many with ⟨rfl, rfl⟩ | ⟨ad, cap, rfl, h2, h3, h4⟩
  clear h
  · have m0 : min (0 : Int) 66 = 0 := by decide
    go_enter Tryz.func19, Tryz.ntmps19
    go_wp2_with fail
    refine wp_loop_rounds 1 ?_
    rw [rounds_succ]
    go_wp2
    go_ret
    exact ⟨_, _, rfl, Or.inr ⟨w.heap.size, 0, 0, rfl, Nat.le_refl _, Nat.zero_le _, fun i hi => absurd hi (Nat.not_lt_zero _)⟩, (Below.refl _ _).alloc (by omega) _⟩
  · obtain ⟨m, hm⟩ : ∃ m, min ss.length 66 = m := ⟨_, rfl⟩
    have hm' : min ((ss.length : Nat) : Int) 66 = (m : Int) := by omega
    have hms : m ≤ ss.length := by omega
    have hm66 : m ≤ 66 := by omega
    have hlm : (ss.take m).length = m := by simp; omega
    have hf : fewB ss = (ss.take m).map cutS := by
      unfold fewB
      rw [← hm, List.take_eq_take_min]; simp [Nat.min_comm]; rfl
    have HF := Lib.hid hf
    have hflen := Lib.hid (show (fewB ss).length = m by rw [hf, List.length_map, hlm])
    have HL := Lib.hid hlm
    have hcells : ∀ o', ∀ (j : Nat) (u : Value), (strC (ss.take m))[j]? = some u → (w.alloc o').cell? (ad.add j) = some u := fun o' j u hu => by
      have hj : j < m := by
        have := (List.getElem?_eq_some_iff.1 hu).1; rw [strC_length, hlm] at this; exact this
      have hc := h4 j (by omega)
      have hu' : u = .string ss[j] := by
        simp only [strC, List.getElem?_map, List.getElem?_take] at hu
        rw [if_pos hj, List.getElem?_eq_getElem (by omega)] at hu
        simpa using hu.symm
      rw [hu', World.cell?_alloc_lt _ _ _ (World.block_lt_of_cell? _ _ hc)]
      exact hc
    have HC := Lib.hid hcells
    have HZ := Lib.hid hsz
    clear h4 hsz hcells hf hlm hm
    unfold maxLen at h3
    go_enter Tryz.func19, Tryz.ntmps19
    go_wp2_with (at_builtin; refine wpList_append_own _ rfl _ _ 22 rfl w.heap.size 9 i0 (.string ⟨#[]⟩) 1 16 Tryz.underlying22 hi hz0 hz1 hz2 rfl (by decide) _ 0 [] rfl (World.ownsRow_lit w #[] 0 (Nat.le_refl _) (Nat.zero_le _) rfl) ad m cap (strC (ss.take m)) rfl ?c1 ?c2 ?c3 ?c4 ?c5 ?c6 ?_)
    case c1 => rw [strC_length, HL.out, Nat.mul_one]
    case c2 => exact HC.out _
    case c3 => intro u hu; obtain ⟨t, _, rfl⟩ := List.mem_map.1 hu; rfl
    case c4 => unfold maxLen; omega
    case c5 => omega
    case c6 => simp
    intro v' w1 hown hgrow hnil
    have hb1 : Below w.heap.size w w1 := ((Below.refl _ _).alloc (Nat.le_refl _) _).grown hgrow (by simp) (fun _ e => by cases e; exact Nat.le_refl _)
    have hv : ∃ g c, v' = .slice (some ⟨g, 0, none⟩) m c := by
      rcases hown.2 with ⟨h0, _⟩ | ⟨g, c, cur, hv, _⟩
      · exact (hnil h0).elim
      · exact ⟨g, c, hv⟩
    obtain ⟨g, c, rfl⟩ := hv
    clear hnil hgrow
    have hgB : w.heap.size ≤ g := (hown.lt g rfl).1
    go_wp2_with fail
    go_loopw [14] (fun i wr => ∃ k : Nat, k ≤ m ∧ i = .int .i64 k ∧ wr.ownsRow w.heap.size 9 1 (.slice (some ⟨g, 0, none⟩) m c) m (strC (cutTo (ss.take m) k)) ∧ Below w.heap.size w wr) (fun i _ => m - (intOf i).toNat)
    case atStart => exact ⟨0, Nat.zero_le _, rfl, by simpa [cutTo] using hown, hb1⟩
    case round =>
      obtain ⟨k, hk, rfl, ho, hb⟩ := hrel
      by_cases hlt : k < m
      · have hkl : k < (ss.take m).length := by rw [HL.out]; exact hlt
        have hc := (ho.cellAt k (by omega)).trans (cutTo_get (ss.take m) k hkl)
        have hfz := ho.frozenAt k
        have st := Lib.hid (ho.stored k (.string (cutS (ss.take m)[k])))
        have hset := Lib.hid (cutTo_set (ss.take m) k hkl)
        have hsk := HZ.out (ss.take m)[k] (List.mem_of_mem_take (List.getElem_mem hkl))
        obtain ⟨x, hx⟩ : ∃ x, (ss.take m)[k] = x := ⟨_, rfl⟩
        rw [hx] at hc hsk st hset
        have hmx : min ((x.size : Nat) : Int) 4100 = ((min x.size 4100 : Nat) : Int) := by omega
        have hcut : x.extract 0 (min x.size 4100) = cutS x := rfl
        have hmx2 : (((min x.size 4100 : Nat) : Int)).toNat = min x.size 4100 := by omega
        clear hx
        go_wp2_with fail
        go_roundw
        case rel => exact ⟨k + 1, by omega, by go_num, by rw [← hset.out]; exact st.out.1, hb.grown st.out.2 hb.size (fun _ e => by cases e; exact hgB)⟩
        case measure => simp [intOf]; omega
      · obtain rfl : k = m := by omega
        have hdone := Lib.hid (show StrRow wr (.slice (some ⟨g, 0, none⟩) k c) (fewB ss) from by
          have e : cutTo (ss.take k) k = fewB ss := by
            have := cutTo_all (ss.take k); rw [HL.out] at this; rw [this, HF.out]
          rw [e] at ho
          exact StrRow.of_own ho (by rw [HF.out, List.length_map, HL.out]))
        go_wp2_with fail
        go_ret
        exact ⟨_, _, by rw [hflen.out]; rfl, by rw [hflen.out]; exact hdone.out, hb⟩

/-! ### alive -/
def abL : List ByteArray := [⟨#[97]⟩, ⟨#[98]⟩]
def aliveL : Led := ⟨nextD (fmtD 8) 0 1 0 false abL, 0, 1, (usedOf (fmtD 8) 0 0 false abL : Nat), abL⟩
theorem alive_goes : Goes (fmtD 8) 0 1 0 [] false abL := by
  refine ⟨fmt_opens 8 (by omega) (by omega), by decide, ?_, by decide⟩
  have h1 : (thereOf false (fmtD 8) 0 0).length = 0 := by simp [thereOf]
  have h2 : (bindL abL).length = 6 := by decide
  have h3 : roomN (fmtD 8) = 384 := by unfold roomN hOf; rw [fmtD_len]
  omega
theorem alive_add : addL ⟨fmtD 8, 0, 1, 0, []⟩ false abL = (aliveL, 0) := addL_goes alive_goes
theorem alive_ok : LedOk aliveL := LedOk.of alive_goes.next

theorem ab_sizes : ∀ s ∈ abL, s.size ≤ maxLen := by
  intro s hs
  rcases List.mem_cons.1 hs with rfl | hs
  · decide
  · rw [List.mem_singleton.1 hs]; decide

/-! ### A variable that holds a ledger -/
def LedIn (w : World) (B : Nat) (l : Led) : Prop := ∃ a c a' c' b k, At6 27 w B (.slice a l.disk.secs.length c) (.slice a' l.disk.dirty.length c') (.int .i64 l.half) (.int .i64 l.gen) (.int .i64 l.used) (.slice b l.ents.length k) ∧ LedAt w (.agg #[.slice a l.disk.secs.length c, .slice a' l.disk.dirty.length c', .int .i64 l.half, .int .i64 l.gen, .int .i64 l.used, .slice b l.ents.length k]) l
theorem LedIn.keep {w w' : World} {B : Nat} {l : Led} (h : LedIn w B l) (hb : Below w.heap.size w w') : LedIn w' B l := by
  obtain ⟨a, c, a', c', b, k, h1, h2⟩ := h
  exact ⟨a, c, a', c', b, k, h1.keep hb, h2.keep hb⟩
theorem LedIn.lt {w : World} {B : Nat} {l : Led} (h : LedIn w B l) : B < w.heap.size := by
  obtain ⟨a, c, a', c', b, k, h1, h2⟩ := h
  exact h1.lt
theorem LedAt.eqs {w : World} {s d h g u e : Value} {l : Led} (H : LedAt w (.agg #[s, d, h, g, u, e]) l) : ∃ a c a' c' b k, s = .slice a l.disk.secs.length c ∧ d = .slice a' l.disk.dirty.length c' ∧ h = .int .i64 l.half ∧ g = .int .i64 l.gen ∧ u = .int .i64 l.used ∧ e = .slice b l.ents.length k := by
  obtain ⟨a, c, a', c', b, k, e, -, -, -⟩ := H.shape
  simp only [Value.agg.injEq, Array.mk.injEq, List.cons.injEq, and_true] at e
  obtain ⟨e1, e2, e3, e4, e5, e6⟩ := e
  exact ⟨a, c, a', c', b, k, e1, e2, e3, e4, e5, e6⟩
theorem LedIn.new {w : World} {s d h g u e : Value} {l : Led} (H : LedAt w (.agg #[s, d, h, g, u, e]) l) : LedIn (w.alloc (.cells #[s, d, h, g, u, e] 27)) w.heap.size l := by
  obtain ⟨a, c, a', c', b, k, rfl, rfl, rfl, rfl, rfl, rfl⟩ := H.eqs
  exact ⟨a, c, a', c', b, k, At6.new _ _ _ _ _ _ _ _, H.keep (below_new _ _)⟩
theorem LedIn.noStr {w : World} {B : Nat} {l : Led} (h : LedIn w B l) (s d hh g u e : Value) : NSt w (set6 w B s d hh g u e) := by
  obtain ⟨a, c, a', c', b, k, h1, h2⟩ := h
  exact set6_nst h1 (noStr_slice _ _ _) (noStr_slice _ _ _) (noStr_int _ _) (noStr_int _ _) (noStr_int _ _) (noStr_slice _ _ _) _ _ _ _ _ _
theorem LedIn.set {w : World} {B : Nat} {s d h g u e : Value} {l0 l : Led} (h0 : LedIn w B l0) (H : LedAt w (.agg #[s, d, h, g, u, e]) l) (hd : l.disk.dirty = []) : LedIn (set6 w B s d h g u e) B l := by
  have hn := h0.noStr s d h g u e
  obtain ⟨a, c, a', c', b, k, rfl, rfl, rfl, rfl, rfl, rfl⟩ := H.eqs
  obtain ⟨_, _, _, _, _, _, h1, -⟩ := h0
  exact ⟨a, c, a', c', b, k, h1.set _ _ _ _ _ _, H.nst hd hn⟩
theorem LedIn.other {w : World} {B B' : Nat} {l0 l : Led} (h : LedIn w B l) (h0 : LedIn w B' l0) (hne : B ≠ B') (hd : l.disk.dirty = []) (s d hh g u e : Value) : LedIn (set6 w B' s d hh g u e) B l := by
  obtain ⟨a, c, a', c', b, k, h1, h2⟩ := h
  exact ⟨a, c, a', c', b, k, h1.other (set6_block w B' B s d hh g u e hne), h2.nst hd (h0.noStr s d hh g u e)⟩
/-- As the walks meet it: letters for all lengths and numbers. -/
theorem LedIn.boxed {w : World} {B : Nat} {l : Led} (h : LedIn w B l) {n0 n1 ne : Nat} {lh lg lu : Int} (e0 : l.disk.secs.length = n0) (e1 : l.disk.dirty.length = n1) (e2 : l.ents.length = ne) (e3 : l.half = lh) (e4 : l.gen = lg) (e5 : l.used = lu) :
    ∃ a c a' c' b k, At6 27 w B (.slice a n0 c) (.slice a' n1 c') (.int .i64 lh) (.int .i64 lg) (.int .i64 lu) (.slice b ne k) ∧ LedAt w (.agg #[.slice a n0 c, .slice a' n1 c', .int .i64 lh, .int .i64 lg, .int .i64 lu, .slice b ne k]) l := by
  subst e0; subst e1; subst e2; subst e3; subst e4; subst e5; exact h
theorem LedAt.boxed {w : World} {v : Value} {l : Led} (h : LedAt w v l) {n0 n1 ne : Nat} {lh lg lu : Int} (e0 : l.disk.secs.length = n0) (e1 : l.disk.dirty.length = n1) (e2 : l.ents.length = ne) (e3 : l.half = lh) (e4 : l.gen = lg) (e5 : l.used = lu) :
    ∃ a c a' c' b k, v = .agg #[.slice a n0 c, .slice a' n1 c', .int .i64 lh, .int .i64 lg, .int .i64 lu, .slice b ne k] := by
  subst e0; subst e1; subst e2; subst e3; subst e4; subst e5
  obtain ⟨a, c, a', c', b, k, e, -, -, -⟩ := h.shape
  exact ⟨a, c, a', c', b, k, e⟩

set_option maxRecDepth 100000 in
set_option maxHeartbeats 4000000 in
theorem alive_t (aD aS aZ : Addr) (w : World) (he : Env w aD aS aZ) : Calls Tryz.prog 16 #[] w fun e w' => e = .returned (.bool true) ∧ Below w.heap.size w w' := by
  have HE := Lib.hid he
  have F := Format_t aD aS aZ 8 w he
  rw [show formatL 8 = (⟨fmtD 8, 0, 1, 0, []⟩, 0) from formatL_ok 8 (by omega) (by omega)] at F
  have F := Lib.hid F
  have HL0 := Lib.hid (show (fmtD 8).secs.length = 8 from fmtD_len 8)
  have HAD := Lib.hid alive_add
  have HDR := Lib.hid alive_ok.dirty
  clear he
  go_enter Tryz.func16, Tryz.ntmps16
  go_wp2_with fail
  refine F.out.mono ?_
  rintro e w1 ⟨v, rfl, hl1, hb1⟩
  obtain ⟨a, c, a', c', b, k, rfl⟩ := hl1.boxed (n0 := 8) (n1 := 0) (ne := 0) (lh := 0) (lg := 1) (lu := 0) HL0.out rfl rfl rfl rfl rfl
  simp only at hl1
  obtain ⟨W2, hW2⟩ : ∃ W, w1.alloc (.cells #[.slice a 8 c, .slice a' 0 c', .int .i64 0, .int .i64 1, .int .i64 0, .slice b 0 k] 27) = W := ⟨_, rfl⟩
  have HI := Lib.hid (show LedIn W2 w1.heap.size ⟨fmtD 8, 0, 1, 0, []⟩ by rw [← hW2]; exact LedIn.new hl1)
  have HB2 := Lib.hid (show Below w.heap.size w W2 by rw [← hW2]; exact Below.then hb1 (below_new _ _))
  have HLA := Lib.hid (show LedAt W2 (.agg #[.slice a 8 c, .slice a' 0 c', .int .i64 0, .int .i64 1, .int .i64 0, .slice b 0 k]) ⟨fmtD 8, 0, 1, 0, []⟩ by rw [← hW2]; exact hl1.keep (below_new _ _))
  have HA6 := Lib.hid (show At6 27 W2 w1.heap.size (.slice a 8 c) (.slice a' 0 c') (.int .i64 0) (.int .i64 1) (.int .i64 0) (.slice b 0 k) by rw [← hW2]; exact At6.new _ _ _ _ _ _ _ _)
  have HW2 := Lib.hid hW2
  have HBB := Lib.hid (show w.heap.size ≤ w1.heap.size from hb1.size)
  clear hW2 hl1 hb1 F
  go_upto_region 2 with fail
  rw [HW2.out]
  obtain ⟨a0, a1, a2, a3, a4, a5⟩ := HA6.out.cells
  obtain ⟨W3, hW3⟩ : ∃ W, W2.alloc (.cells #[.string ⟨#[97]⟩, .string ⟨#[98]⟩] 9) = W := ⟨_, rfl⟩
  have hb3 : Below W2.heap.size W2 W3 := by rw [← hW3]; exact below_new _ _
  have hss : StrRow W3 (.slice (some ⟨W2.heap.size, 0, none⟩) 2 2) abL := by
    have h := (At2.new 9 W2 (.string ⟨#[97]⟩) (.string ⟨#[98]⟩)).cells
    rw [hW3] at h
    refine Or.inr ⟨W2.heap.size, 0, 2, rfl, Nat.le_refl _, by decide, fun i hi => ?_⟩
    rcases (show i = 0 ∨ i = 1 by simp [abL] at hi; omega) with rfl | rfl
    · exact h.1
    · exact h.2
  have AD := Add_t aD aS aZ _ _ ⟨fmtD 8, 0, 1, 0, []⟩ abL W3 (HE.out.keep (Below.then HB2.out hb3)) (HLA.out.keep hb3) hss ab_sizes
  rw [HAD.out] at AD
  have AD := Lib.hid AD
  have HI3 := Lib.hid (HI.out.keep hb3)
  have HB3 := Lib.hid (Below.then HB2.out hb3)
  have HW3 := Lib.hid hW3
  clear hW3 hb3 hss
  go_wp2_with fail
  rw [HW3.out]
  refine AD.out.mono ?_
  rintro e w4 ⟨v4, rfl, hl4, hb4⟩
  obtain ⟨q1, k1, q2, k2, q3, k3, rfl⟩ := hl4.boxed (ne := 2) (lh := 0) (lg := 1) rfl rfl rfl rfl rfl rfl
  simp only at hl4
  have hi4 := HI3.out.keep hb4
  obtain ⟨_, _, _, _, _, _, hA4, -⟩ := hi4
  obtain ⟨n0, hn0⟩ : ∃ n, aliveL.disk.secs.length = n := ⟨_, rfl⟩
  obtain ⟨n1, hn1⟩ : ∃ n, aliveL.disk.dirty.length = n := ⟨_, rfl⟩
  obtain ⟨lu, hlu⟩ : ∃ n, aliveL.used = n := ⟨_, rfl⟩
  rw [hn0, hn1, hlu] at hl4 ⊢
  obtain ⟨W5, hW5⟩ : ∃ W, set6 w4 w1.heap.size (.slice q1 n0 k1) (.slice q2 n1 k2) (.int .i64 0) (.int .i64 1) (.int .i64 lu) (.slice q3 2 k3) = W := ⟨_, rfl⟩
  have HA5 := Lib.hid (show At6 27 W5 w1.heap.size (.slice q1 n0 k1) (.slice q2 n1 k2) (.int .i64 0) (.int .i64 1) (.int .i64 lu) (.slice q3 2 k3) by rw [← hW5]; exact hA4.set _ _ _ _ _ _)
  have hst : StrsAt W5 (.slice q3 2 k3) abL := by
    rw [← hW5]
    exact hl4.parts.2.1.nst ((HI3.out.keep hb4).noStr _ _ _ _ _ _)
  have HB5 := Lib.hid (show Below w.heap.size w W5 by rw [← hW5]; exact set6_below (Below.then HB3.out hb4) HBB.out _ _ _ _ _ _)
  obtain ⟨ob, oo, rfl, hb98⟩ := hst.at 1 (by decide)
  obtain ⟨x, hx⟩ : ∃ x, abL[1]'(by decide) = x := ⟨_, rfl⟩
  rw [hx] at hb98
  have q : (x.toList == [98]) = true := by rw [← hx, ByteArray.toList_eq]; decide
  unfold set6 at hW5
  have HW5 := Lib.hid hW5
  obtain ⟨f0, f1, f2, f3, f4, f5⟩ := hA4.free
  obtain ⟨g0, g1, g2, g3, g4, g5⟩ := hA4.cells
  clear hx hW5 hst hl4 hb4 hA4 hn0 hn1 hlu a0 a1 a2 a3 a4 a5 AD HAD HDR
  simp only
  go_upto_region 3 with fail
  rw [HW5.out]
  obtain ⟨a0, a1, a2, a3, a4, a5⟩ := HA5.out.cells
  clear f0 f1 f2 f3 f4 f5 g0 g1 g2 g3 g4 g5
  go_wp2_with fail
  go_ret
  exact ⟨rfl, HB5.out⟩
end Go.Proofs.YtkplpodljmlanaaGreatDoor
/-! What the laws of ledgers share: texts and Add or Renew in one region, plain facts of both halves. Conditions: none. -/
namespace Go.Proofs.YtkplpodljmlanaaGreatDoor
open Go.RowKit Go.WideShapes

theorem fewB_max (ss : List ByteArray) : ∀ s ∈ fewB ss, s.size ≤ maxLen := fun s hs => Nat.le_trans (fewB_size ss s hs) (by unfold maxLen; decide)
/-- texts, with a letter for how many. -/
theorem texts_at (v : Value) (ss : List ByteArray) (nl : Nat) (hnl : (fewB ss).length = nl) (w : World) (h : StrsAt w v ss) (hsz : ∀ s ∈ ss, s.size ≤ maxLen) :
    Calls Tryz.prog 19 #[v] w fun e w' => ∃ g c, e = .returned (.slice (some ⟨g, 0, none⟩) nl c) ∧ StrRow w' (.slice (some ⟨g, 0, none⟩) nl c) (fewB ss) ∧ Below w.heap.size w w' := by
  subst hnl; exact texts_t v ss w h hsz
/-- A ledger as a call answers it, with letters. -/
def LedOutL (l : Led) (e0 : Int) (n0 n1 ne : Nat) (lh lg lu : Int) (w : World) (e : Ending) (w' : World) : Prop :=
  ∃ a c a' c' b k, e = .returned (.tuple #[.agg #[.slice a n0 c, .slice a' n1 c', .int .i64 lh, .int .i64 lg, .int .i64 lu, .slice b ne k], .int .i64 e0]) ∧ LedAt w' (.agg #[.slice a n0 c, .slice a' n1 c', .int .i64 lh, .int .i64 lg, .int .i64 lu, .slice b ne k]) l ∧ Below w.heap.size w w'
theorem LedOut.letters {l : Led} {e0 : Int} {n0 n1 ne : Nat} {lh lg lu : Int} {w : World} {e : Ending} {w' : World} (h : LedOut (l, e0) w e w') (q0 : l.disk.secs.length = n0) (q1 : l.disk.dirty.length = n1) (q2 : l.ents.length = ne) (q3 : l.half = lh) (q4 : l.gen = lg) (q5 : l.used = lu) : LedOutL l e0 n0 n1 ne lh lg lu w e w' := by
  obtain ⟨v, rfl, h1, h2⟩ := h
  obtain ⟨a, c, a', c', b, k, rfl⟩ := h1.boxed q0 q1 q2 q3 q4 q5
  exact ⟨a, c, a', c', b, k, rfl, h1, h2⟩

/-! ### The other half -/
theorem sec_bytes {d d' : Dsk} {k : Nat} (hk : k < d.secs.length) (hk' : k < d'.secs.length) (h : secAt d' k = secAt d k) : d'.secs[k] = d.secs[k] := by
  unfold secAt at h
  rw [List.getD_eq_getElem?_getD, List.getD_eq_getElem?_getD, List.getElem?_eq_getElem hk, List.getElem?_eq_getElem hk'] at h
  apply ByteArray.ext
  apply Array.ext'
  exact h
theorem nextD_len (d : Dsk) (n g u : Nat) (renew : Bool) (ss : List ByteArray) : (nextD d n g u renew ss).secs.length = d.secs.length := by
  show (clean _ _).secs.length = _
  rw [clean_length, fillOf_len]
theorem Goes.others {d : Dsk} {n g u : Nat} {es : List ByteArray} {renew : Bool} {ss : List ByteArray} (h : Goes d n g u es renew ss) (k : Nat) (hk : k < d.secs.length) (ho : ¬ (mOf renew n * hOf d ≤ k ∧ k < mOf renew n * hOf d + hOf d)) : secAt (nextD d n g u renew ss) k = secAt d k := by
  have h2 := hOf_two h.opens.right
  have hf : hOf (fillOf d n u renew ss) = hOf d := fillOf_half ..
  have e1 := h.headed.rest k (by rw [fillOf_len]; exact hk) (by rw [hf]; omega)
  rw [e1]
  exact h.kept.out k hk (by omega)

theorem addL_dirty (l : Led) (renew : Bool) (ss : List ByteArray) : (addL l renew ss).1.disk.dirty = [] := by
  unfold addL
  split
  · exact writtenL_dirty _ _
  · rfl
theorem addL_st {d : Dsk} {n g u : Nat} {es ss : List ByteArray} {renew : Bool} {l' : Led} {e' : Int} (h : Opens d n g u es) (hadd : addL ⟨d, n, g, u, es⟩ renew ss = (l', e')) :
    (l' = nilLed ∧ (e' = 2 ∨ e' = 13)) ∨ (e' = 0 ∧ Goes d n g u es renew ss ∧ l' = ⟨nextD d n g u renew ss, (mOf renew n : Nat), (gOf renew g : Nat), (usedOf d n u renew ss : Nat), esOf renew es ss⟩) := by
  by_cases h0 : (stepsL ⟨d, n, g, u, es⟩ renew ss).2 = 0
  · obtain ⟨hg, e⟩ := addL_ok h h0
    rw [hadd] at e
    simp only [Prod.mk.injEq] at e
    exact Or.inr ⟨e.2, hg, e.1⟩
  · left
    rcases addL_no h h0 with ⟨e, -⟩ | ⟨e, -⟩
    · rw [hadd] at e
      simp only [Prod.mk.injEq] at e
      exact ⟨e.1, Or.inl e.2⟩
    · rw [hadd] at e
      simp only [Prod.mk.injEq] at e
      exact ⟨e.1, Or.inr e.2⟩
/-- What a variable that a call's ledger was put into knows. -/
theorem newLed_alloc {w0 wD : World} {n0 n1 ne : Nat} {lh lg lu e1 : Int} {l : Led} {p1 p2 p3 : Option Addr} {k1 k2 k3 : Nat}
    (hlD : LedAt wD (.agg #[.slice p1 n0 k1, .slice p2 n1 k2, .int .i64 lh, .int .i64 lg, .int .i64 lu, .slice p3 ne k3]) l) (hbA : Below w0.heap.size w0 wD) :
    ∃ B p1' k1' p2' k2' p3' k3', (Value.pointer (some ⟨wD.heap.size, 0, none⟩)) = .pointer (some ⟨B, 0, none⟩) ∧ (Value.int .i64 e1) = .int .i64 e1 ∧ At6 27 (wD.alloc (.cells #[.slice p1 n0 k1, .slice p2 n1 k2, .int .i64 lh, .int .i64 lg, .int .i64 lu, .slice p3 ne k3] 27)) B (.slice p1' n0 k1') (.slice p2' n1 k2') (.int .i64 lh) (.int .i64 lg) (.int .i64 lu) (.slice p3' ne k3') ∧ LedAt (wD.alloc (.cells #[.slice p1 n0 k1, .slice p2 n1 k2, .int .i64 lh, .int .i64 lg, .int .i64 lu, .slice p3 ne k3] 27)) (.agg #[.slice p1' n0 k1', .slice p2' n1 k2', .int .i64 lh, .int .i64 lg, .int .i64 lu, .slice p3' ne k3']) l ∧ Below w0.heap.size w0 (wD.alloc (.cells #[.slice p1 n0 k1, .slice p2 n1 k2, .int .i64 lh, .int .i64 lg, .int .i64 lu, .slice p3 ne k3] 27)) ∧ w0.heap.size ≤ B :=
  ⟨_, p1, k1, p2, k2, p3, k3, rfl, rfl, At6.new _ _ _ _ _ _ _ _, hlD.keep (below_new _ _), Below.then hbA (below_new _ _), hbA.size⟩
theorem newLed_set {w0 wD : World} {B n0 n1 ne : Nat} {lh lg lu e1 : Int} {l : Led} {p1 p2 p3 : Option Addr} {k1 k2 k3 : Nat} (hz : At6 27 wD B nilV nilV zeroV zeroV zeroV nilV) (hd : l.disk.dirty = [])
    (hlD : LedAt wD (.agg #[.slice p1 n0 k1, .slice p2 n1 k2, .int .i64 lh, .int .i64 lg, .int .i64 lu, .slice p3 ne k3]) l) (hbA : Below w0.heap.size w0 wD) (hB : w0.heap.size ≤ B) :
    ∃ B' p1' k1' p2' k2' p3' k3', (Value.pointer (some ⟨B, 0, none⟩)) = .pointer (some ⟨B', 0, none⟩) ∧ (Value.int .i64 e1) = .int .i64 e1 ∧ At6 27 ((((((wD.setCell ⟨B, 0, none⟩ (.slice p1 n0 k1)).setCell ⟨B, 1, none⟩ (.slice p2 n1 k2)).setCell ⟨B, 2, none⟩ (.int .i64 lh)).setCell ⟨B, 3, none⟩ (.int .i64 lg)).setCell ⟨B, 4, none⟩ (.int .i64 lu)).setCell ⟨B, 5, none⟩ (.slice p3 ne k3)) B' (.slice p1' n0 k1') (.slice p2' n1 k2') (.int .i64 lh) (.int .i64 lg) (.int .i64 lu) (.slice p3' ne k3') ∧ LedAt ((((((wD.setCell ⟨B, 0, none⟩ (.slice p1 n0 k1)).setCell ⟨B, 1, none⟩ (.slice p2 n1 k2)).setCell ⟨B, 2, none⟩ (.int .i64 lh)).setCell ⟨B, 3, none⟩ (.int .i64 lg)).setCell ⟨B, 4, none⟩ (.int .i64 lu)).setCell ⟨B, 5, none⟩ (.slice p3 ne k3)) (.agg #[.slice p1' n0 k1', .slice p2' n1 k2', .int .i64 lh, .int .i64 lg, .int .i64 lu, .slice p3' ne k3']) l ∧ Below w0.heap.size w0 ((((((wD.setCell ⟨B, 0, none⟩ (.slice p1 n0 k1)).setCell ⟨B, 1, none⟩ (.slice p2 n1 k2)).setCell ⟨B, 2, none⟩ (.int .i64 lh)).setCell ⟨B, 3, none⟩ (.int .i64 lg)).setCell ⟨B, 4, none⟩ (.int .i64 lu)).setCell ⟨B, 5, none⟩ (.slice p3 ne k3)) ∧ w0.heap.size ≤ B' :=
  ⟨B, p1, k1, p2, k2, p3, k3, rfl, rfl, hz.set _ _ _ _ _ _, hlD.nst hd (set6_nst hz (noStr_slice _ _ _) (noStr_slice _ _ _) (noStr_int _ _) (noStr_int _ _) (noStr_int _ _) (noStr_slice _ _ _) _ _ _ _ _ _), set6_below hbA hB _ _ _ _ _ _, hB⟩

/-- The number of sectors that the laws take. -/
theorem clamp64 (s : Int) : ∃ (mx : Int) (n : Nat), max s 4 = mx ∧ min mx 64 = (n : Int) ∧ 4 ≤ n ∧ n ≤ 64 := ⟨_, (min (max s 4) 64).toNat, rfl, by omega, by omega, by omega⟩
end Go.Proofs.YtkplpodljmlanaaGreatDoor
