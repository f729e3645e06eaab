/-
  The document's own field of a schedule, by a contract. Conditions: texts of at most 300 bytes, bounds of at most 60.
-/
import Derived.Test.YtccobaohmbilpaaDoorRefCronP
import Derived.Test.YtccobaohmbilpaaDoorCronLaws
import Derived.Deep.AppendLies
namespace Go.Proofs.YtccobaohmbilpaaDoor
open Go.RowKit

theorem infoP : (Tryd.prog.info? 65).map (fun i => (i.zero, i.size, i.bytes)) = some (some (.agg #[.int .i64 0, .int .i64 0, .int .i64 0]), 3, 24) := by kernel_rfl
/-- Parts as cells. -/
def flatP (r : List (Nat × Nat × Nat)) : List Value := r.flatMap fun p => [.int .i64 (p.1 : Nat), .int .i64 (p.2.1 : Nat), .int .i64 (p.2.2 : Nat)]
theorem flatP_snoc (r : List (Nat × Nat × Nat)) (a b c : Nat) : flatP (r ++ [(a, b, c)]) = flatP r ++ [.int .i64 (a : Nat), .int .i64 (b : Nat), .int .i64 (c : Nat)] := by unfold flatP; simp
theorem flatP_at : ∀ (r : List (Nat × Nat × Nat)) (j : Nat) (h : j < r.length), (flatP r)[j * 3]? = some (.int .i64 (r[j].1 : Nat)) ∧ (flatP r)[j * 3 + 1]? = some (.int .i64 (r[j].2.1 : Nat)) ∧ (flatP r)[j * 3 + 2]? = some (.int .i64 (r[j].2.2 : Nat))
  | p :: r, 0, _ => ⟨rfl, rfl, rfl⟩
  | p :: r, j + 1, h => by
    have := flatP_at r j (by simpa using h)
    rw [show (j + 1) * 3 = j * 3 + 3 by omega]
    exact this
theorem own_keep {w w' : World} {B n sz : Nat} {e : TypeId} {v : Value} {xs : List Value} (h : w.ownsRow B e sz v n xs) (hb : Below w.heap.size w w') : w'.ownsRow B e sz v n xs := by
  refine ⟨h.1, ?_⟩
  rcases h.2 with h2 | ⟨g, cap, cur, h2, h3, h4, h5⟩
  · exact Or.inl h2
  · exact Or.inr ⟨g, cap, cur, h2, h3, (hb.block g (Array.getElem?_eq_some_iff.1 h4).1).trans h4, h5⟩
/-- Rows of parts: what is read at one of them. -/
theorem own_at {w : World} {B n : Nat} {v : Value} {r : List (Nat × Nat × Nat)} (h : w.ownsRow B 65 3 v n (flatP r)) (hr : r.length = n) (hn : 0 < n) :
    ∃ g c, v = .slice (some ⟨g, 0, none⟩) n c ∧ n ≤ c ∧ ∀ j (hj : j < n), w.cell? ⟨g, j * 3, none⟩ = some (.int .i64 ((r[j]'(by omega)).1 : Nat)) ∧ w.cell? ⟨g, j * 3 + 1, none⟩ = some (.int .i64 ((r[j]'(by omega)).2.1 : Nat)) ∧ w.cell? ⟨g, j * 3 + 2, none⟩ = some (.int .i64 ((r[j]'(by omega)).2.2 : Nat)) := by
  rcases h.2 with ⟨-, h0⟩ | ⟨g, cap, cur, hv, -, hg, h1, h2, h3, h4⟩
  · omega
  · refine ⟨g, cap, hv, h1, fun j hj => ?_⟩
    have hc : ∀ i, i < n * 3 → w.cell? ⟨g, i, none⟩ = (flatP r)[i]? := fun i hi => by
      unfold World.cell?
      rw [hg, ← h4, List.getElem?_take, if_pos hi]
      simp
    obtain ⟨f0, f1, f2⟩ := flatP_at r j (by omega)
    exact ⟨by rw [hc _ (by omega), f0], by rw [hc _ (by omega), f1], by rw [hc _ (by omega), f2]⟩

/-- What Field answers. -/
def fieldOut : Option Nat → Value
  | some n => .tuple #[.int .u64 (n : Nat), .bool true]
  | none => .tuple #[.int .u64 0, .bool false]

set_option maxRecDepth 100000 in
set_option maxHeartbeats 4000000 in
theorem refField_t (s : ByteArray) (low high : Nat) (w : World) (hs : s.size ≤ 300) (hlh : low ≤ high) (hh : high ≤ 60) :
    Calls Tryd.prog 21 #[.string s, .int .i64 low, .int .i64 high] w fun e w' => e = .returned (fieldOut (fieldL s.data.toList low high)) ∧ Below w.heap.size w w' := by
  obtain ⟨i0, hi, hz0, hz1, hz2⟩ := info_parts infoP
  have S1 := Lib.hid (fun w1 => refSplit_any s 44 w1 hs)
  have P1 := Lib.hid (fun (x : ByteArray) w1 (h : x.size ≤ 300) => refPart_t x low high w1 h)
  have HF := Lib.hid (show fieldL s.data.toList low high = match allSome ((goC 44 [] s.data.toList).map fun x => partL x low high) with | some ps => some (bitsOf (fun v => decide (low ≤ v) && ps.any fun p => hitP p v) (high + 1)) | none => none from rfl)
  have hpw : ∀ i, i ≤ 61 → 2 ^ i ≤ 2305843009213693952 := fun i h => by
    have : (2 : Nat) ^ i ≤ 2 ^ 61 := Nat.pow_le_pow_right (by decide) h
    have e : (2 : Nat) ^ 61 = 2305843009213693952 := by decide
    omega
  have HPW := Lib.hid hpw
  have HPS := Lib.hid (fun i => Nat.pow_succ (n := 2) (m := i))
  clear hpw
  go_enter Tryd.func21, Tryd.ntmps21
  go_wp2_with fail
  go_loop [9, 10] (fun bv iv => ∃ i b : Nat, i ≤ low ∧ bv = .int .u64 b ∧ iv = .int .i64 i ∧ 2 ^ i = b) (fun _ iv => low - (intOf iv).toNat)
  case atStart => exact ⟨0, 1, Nat.zero_le _, rfl, rfl, rfl⟩
  case round =>
    obtain ⟨i, b, hil, rfl, rfl, hb⟩ := hrel
    have HBI := Lib.hid hb
    have hbl : b ≤ 2305843009213693952 := by rw [← hb]; exact HPW.out i (by omega)
    clear hb
    by_cases hlt : i < low
    · go_wp2_with fail
      go_round
      case rel => exact ⟨i + 1, 2 * b, by omega, by go_num, by go_num, by rw [HPS.out, HBI.out]; omega⟩
      case measure => simp [intOf]; omega
    · obtain rfl : low = i := by omega
      go_wp2_with fail
      refine (S1.out _).mono ?_
      rintro e w1 ⟨ps, v1, rfl, hr1, hp1, hz1', hlen1, hb1⟩
      have hne1 : ps ≠ [] := by
        intro e; rw [e] at hp1
        exact goC_ne 44 s.data.toList [] hp1.symm
      rcases hr1 with ⟨-, h⟩ | ⟨pb, po, cap, rfl, hc1, hc2, hcell⟩
      · exact absurd h hne1
      obtain ⟨n, hn⟩ : ∃ n, ps.length = n := ⟨_, rfl⟩
      have HN := Lib.hid hn
      have HC := Lib.hid hcell
      have HZ := Lib.hid (show ∀ x ∈ ps, x.size ≤ 300 from fun x hx => by have := hz1' x hx; omega)
      have HB1 := Lib.hid hb1
      have hmap : (goC 44 [] s.data.toList).map (fun x => partL x low high) = ps.map fun x => partL x.data.toList low high := by rw [← hp1, List.map_map]; rfl
      rw [hmap] at HF
      have hnb : n ≤ 301 := by omega
      have hn0 : 0 < n := by rw [← hn]; exact List.length_pos_iff.2 hne1
      rw [hn] at hc1 ⊢
      clear hp1 hz1' hlen1 hb1 hcell hn hne1 hmap
      have HLIT := Lib.hid (World.ownsRow_lit w #[] 0 (Nat.le_refl _) (Nat.zero_le _) rfl : (w.alloc (.cells #[] 65)).ownsRow w.heap.size 65 3 (.slice (some ⟨w.heap.size, 0, none⟩) 0 0) 0 [])
      have HB0 := Lib.hid (below_new w (.cells #[] 65))
      have hwb := HB1.out.size
      have hpb : w.heap.size ≠ pb := by
        intro e
        have h1 := HC.out 0 (by rw [HN.out]; omega)
        have h2 := HB1.out.block w.heap.size (by simp)
        rw [← e] at h1
        unfold World.cell? at h1
        rw [h2, heap_alloc_new] at h1
        simp at h1
      have hpl : pb < w1.heap.size := World.block_lt_of_cell? _ _ (HC.out 0 (by rw [HN.out]; omega))
      go_wp2_with fail
      go_loopw [11, 30] (fun ov iv wr => ∃ (k g c : Nat) (r : List (Nat × Nat × Nat)), k ≤ n ∧ ov = .slice (some ⟨g, 0, none⟩) k c ∧ w.heap.size ≤ g ∧ g ≠ pb ∧ iv = .int .i64 k ∧ r.length = k ∧ allSome ((ps.take k).map fun x => partL x.data.toList low high) = some r ∧ wr.ownsRow w.heap.size 65 3 ov k (flatP r) ∧ (∀ i (h : i < ps.length), wr.cell? ⟨pb, po + i, none⟩ = some (.string ps[i])) ∧ pb < wr.heap.size ∧ Below w.heap.size w wr) (fun _ iv _ => n - (intOf iv).toNat)
      case atStart => exact ⟨0, w.heap.size, 0, [], Nat.zero_le _, rfl, Nat.le_refl _, hpb, rfl, rfl, rfl, own_keep HLIT.out HB1.out, HC.out, hpl, Below.then HB0.out HB1.out⟩
      case round =>
        obtain ⟨k, g, c, r, hk, rfl, hgw, hgp, rfl, hrl, hall, hown, hwc, hpr, hbr⟩ := hrel
        have HALL := Lib.hid hall
        have HOWN := Lib.hid hown
        have HWC := Lib.hid hwc
        have HBR := Lib.hid hbr
        have HRL := Lib.hid hrl
        have hbrs := hbr.size
        have hglt : g < wr.heap.size := (hown.lt g rfl).2
        clear hall hown hwc hbr hrl
        by_cases hlt2 : k < n
        · have hkl : k < ps.length := by rw [HN.out]; exact hlt2
          have hck := HWC.out k hkl
          have HTS := Lib.hid (show (ps.take (k + 1)).map (fun x => partL x.data.toList low high) = (ps.take k).map (fun x => partL x.data.toList low high) ++ [partL ps[k].data.toList low high] from by
            rw [List.take_succ_eq_append_getElem hkl, List.map_append]; rfl)
          have hmem : ps[k] ∈ ps := List.getElem_mem hkl
          obtain ⟨x, hx⟩ : ∃ x, ps[k] = x := ⟨_, rfl⟩
          rw [hx] at hck HTS hmem
          have PX := Lib.hid (P1.out x wr (HZ.out x hmem))
          have HMEM := Lib.hid (show partL x.data.toList low high ∈ ps.map fun x => partL x.data.toList low high from List.mem_map.2 ⟨x, hmem, rfl⟩)
          have HIN := Lib.hid (fun a b st (h : partL x.data.toList low high = some (a, b, st)) => partL_in h hlh)
          obtain ⟨p, hp⟩ : ∃ p, partL x.data.toList low high = p := ⟨_, rfl⟩
          rw [hp] at PX HMEM HTS
          simp only [hp] at HIN
          clear hmem hx hp hkl
          go_wp2_with fail
          refine PX.out.mono ?_
          rintro e w2 ⟨rfl, hb2⟩
          have HB2 := Lib.hid (HBR.out.trans (hb2.mono hbrs))
          have HOWN2 := Lib.hid (own_keep HOWN.out hb2)
          have HWC2 := Lib.hid (fun i h => (hb2.cell (World.block_lt_of_cell? _ _ (HWC.out i h))).trans (HWC.out i h))
          have hs2 := hb2.size
          clear hb2 hck
          cases p with
          | none =>
            have HO := Lib.hid (show fieldL s.data.toList low high = none from by rw [HF.out, allSome_none HMEM.out])
            unfold partV
            go_wp2_with fail
            go_ret2
            exact ⟨by rw [HO.out]; rfl, HB2.out.alloc (by omega) _⟩
          | some q =>
            obtain ⟨qa, qb, qs⟩ := q
            obtain ⟨i1, i2, i3, i4⟩ := HIN.out qa qb qs rfl
            have hq0 : ((qs : Int) == 0) = false := beq_eq_false_iff_ne.2 (by omega)
            unfold partV
            go_wp2_with (at_builtin; go_loud (refine wpList_append_lies _ rfl _ _ 63 rfl w.heap.size 65 i0 (.agg #[.int .i64 0, .int .i64 0, .int .i64 0]) 3 24 Tryd.underlying63 hi hz0 hz1 hz2 rfl (by decide) _ k (flatP r) rfl ((HOWN2.out.alloc _).alloc _) ⟨w2.heap.size + 1, 0, none⟩ 1 1 [.int .i64 qa, .int .i64 qb, .int .i64 qs] rfl rfl ?c1 ?c2 ?c3 ?c4 ?c5 ?c6 (w2.heap.size + 2) ?c7 ?_))
            case c1 =>
              intro i u hi'
              match i, hi' with
              | 0, hi' => simp at hi'; subst hi'; rw [addr0_addG, World.cell?_alloc_at _ _ _ _ (by simp)]; rfl
              | 1, hi' => simp at hi'; subst hi'; rw [addr0_addG, World.cell?_alloc_at _ _ _ _ (by simp)]; rfl
              | 2, hi' => simp at hi'; subst hi'; rw [addr0_addG, World.cell?_alloc_at _ _ _ _ (by simp)]; rfl
              | i + 3, hi' => simp at hi'
            case c2 => intro u hu; simp at hu; rcases hu with rfl | rfl | rfl <;> rfl
            case c3 => omega
            case c4 => unfold maxLen; omega
            case c5 => omega
            case c6 => simp; omega
            case c7 => simp
            intro g3 c3 w3 hown3 hgrow3 hat3 hlt3
            have hbb3 : Below w.heap.size w w3 := ((HB2.out.alloc (by omega) _).alloc (by simp; omega) _).grown hgrow3 (by simp; omega) (fun k hk => by cases hk; exact hgw)
            have hg3 : w.heap.size ≤ g3 ∧ g3 ≠ pb := by
              rcases hat3 with h | h
              · cases h; exact ⟨hgw, hgp⟩
              · subst h; exact ⟨by omega, by omega⟩
            have hwc3 : ∀ i (h : i < ps.length), w3.cell? ⟨pb, po + i, none⟩ = some (.string ps[i]) := fun i h => by
              rw [hgrow3.cell_far _ (by simp; omega) (by intro e; cases e; exact hgp rfl), World.cell?_alloc_lt _ _ _ (by simp; omega), World.cell?_alloc_lt _ _ _ (by simp; omega)]
              exact HWC2.out i h
            have HR := Lib.hid (show allSome ((ps.take (k + 1)).map fun x => partL x.data.toList low high) = some (r ++ [(qa, qb, qs)]) from by
              rw [HTS.out, allSome_snoc, HALL.out])
            have HOWN3 := Lib.hid (show w3.ownsRow w.heap.size 65 3 (.slice (some ⟨g3, 0, none⟩) (k + 1) c3) (k + 1) (flatP (r ++ [(qa, qb, qs)])) from by rw [flatP_snoc]; exact hown3)
            have HWC3 := Lib.hid hwc3
            have HB3 := Lib.hid hbb3
            have hp3 : pb < w3.heap.size := by have := hgrow3.size; simp at this; omega
            clear hown3 hgrow3 hat3 hwc3 hbb3
            go_wp2_with fail
            go_roundw
            case rel => exact ⟨k + 1, g3, c3, r ++ [(qa, qb, qs)], by omega, rfl, hg3.1, hg3.2, by go_num, by simp [HRL.out], HR.out, HOWN3.out, HWC3.out, hp3, HB3.out⟩
            case measure => simp [intOf]; omega
        · obtain rfl : k = n := by omega
          have HFS := Lib.hid (show fieldL s.data.toList low high = some (bitsOf (fun v => decide (low ≤ v) && r.any fun p => hitP p v) (high + 1)) from by
            have h := HALL.out
            rw [← HN.out, List.take_length] at h
            rw [HF.out, h])
          have HINS := Lib.hid (show ∀ q ∈ r, q.1 ≤ q.2.1 ∧ q.2.1 ≤ high ∧ 1 ≤ q.2.2 from fun q hq => by
            have h := HALL.out
            rw [← HN.out, List.take_length] at h
            have hm := allSome_mem h q hq
            obtain ⟨x, -, hx⟩ := List.mem_map.1 hm
            obtain ⟨qa, qb, qs⟩ := q
            obtain ⟨-, i2, i3, i4⟩ := partL_in hx hlh
            exact ⟨i2, i3, i4⟩)
          obtain ⟨g', c', hv', hnc, hcs⟩ := own_at HOWN.out HRL.out (by omega)
          have hgg : g' = g ∧ c' = c := by
            injection hv' with e1 e2 e3
            injection e1 with e1
            injection e1 with e1
            exact ⟨e1.symm, e3.symm⟩
          obtain ⟨rfl, rfl⟩ := hgg
          have HCS := Lib.hid hcs
          have HSK := Lib.hid (show ∀ v, bitsOf (fun v => decide (low ≤ v) && r.any fun p => hitP p v) (v + 1) = bitsOf (fun v => decide (low ≤ v) && r.any fun p => hitP p v) v + if (decide (low ≤ v) && r.any fun p => hitP p v) then 2 ^ v else 0 from fun v => rfl)
          have HLT := Lib.hid (fun v => bitsOf_lt (fun v => decide (low ≤ v) && r.any fun p => hitP p v) v)
          have HST := Lib.hid (show bitsOf (fun v => decide (low ≤ v) && r.any fun p => hitP p v) low = 0 from by
            have := bitsOf_skip (fun v => decide (low ≤ v) && r.any fun p => hitP p v) 0 low fun i _ h2 => by rw [decide_eq_false (show ¬ low ≤ i by omega)]; rfl
            rw [Nat.zero_add] at this
            rw [this]; rfl)
          obtain ⟨F, hF⟩ : ∃ F : Nat → Bool, (fun v => decide (low ≤ v) && r.any fun p => hitP p v) = F := ⟨_, rfl⟩
          have HFV := Lib.hid (show ∀ v, low ≤ v → F v = r.any fun p => hitP p v from fun v hv => by
            rw [← hF]
            show (decide (low ≤ v) && r.any fun p => hitP p v) = _
            rw [decide_eq_true hv, Bool.true_and])
          have HSK := Lib.hid (show ∀ v, bitsOf F (v + 1) = bitsOf F v + if F v then 2 ^ v else 0 from fun v => rfl)
          have HLT := Lib.hid (fun v => bitsOf_lt F v)
          rw [hF] at HFS HST
          clear hv' hnc hcs hF
          obtain ⟨wp, rfl⟩ : ∃ x : World, x = wr := ⟨_, rfl⟩
          go_wp2_with fail
          go_loopw [8, 9, 15] (fun nv bv vv wo => ∃ v N B : Nat, nv = .int .u64 N ∧ bv = .int .u64 B ∧ vv = .int .i64 v ∧ low ≤ v ∧ v ≤ high + 1 ∧ 2 ^ v = B ∧ bitsOf F v = N ∧ Below wp.heap.size wp wo) (fun _ _ vv _ => high + 1 - (intOf vv).toNat)
          case atStart => exact ⟨low, 0, b, rfl, rfl, rfl, Nat.le_refl _, by omega, HBI.out, HST.out, Below.refl _ _⟩
          case round =>
            obtain ⟨v, N, B, rfl, rfl, rfl, hv1, hv2, hB2, hN2, hbo⟩ := hrel
            have hNB : N < B := by rw [← hN2, ← hB2]; exact HLT.out v
            have hBl : B ≤ 2305843009213693952 := by rw [← hB2]; exact HPW.out v (by omega)
            have HBB := Lib.hid hB2
            have HNN := Lib.hid hN2
            have HBO := Lib.hid hbo
            have hbos := hbo.size
            clear hB2 hN2 hbo
            obtain ⟨wo, rfl⟩ : ∃ x : World, x = wr := ⟨_, rfl⟩
            by_cases hle : v ≤ high
            · go_wp2_with fail
              go_loopw [16, 54] (fun sv iv wi => ∃ (j : Nat) (t : Bool), j ≤ k ∧ sv = .bool t ∧ iv = .int .i64 j ∧ ((r.take j).any fun p => hitP p v) = t ∧ Below wp.heap.size wp wi) (fun _ iv _ => k - (intOf iv).toNat)
              case atStart => exact ⟨0, false, Nat.zero_le _, rfl, rfl, rfl, HBO.out⟩
              case round =>
                obtain ⟨j, t, hj, rfl, rfl, hany, hbi⟩ := hrel
                have HANY := Lib.hid hany
                have HBI2 := Lib.hid hbi
                have hbis := hbi.size
                by_cases hjk : j < k
                · obtain ⟨c0, c1, c2⟩ := HCS.out j hjk
                  have x0 := (hbi.cell (World.block_lt_of_cell? _ _ c0)).trans c0
                  have x1 := (hbi.cell (World.block_lt_of_cell? _ _ c1)).trans c1
                  have x2 := (hbi.cell (World.block_lt_of_cell? _ _ c2)).trans c2
                  have hjr : j < r.length := by rw [HRL.out]; exact hjk
                  have hin := HINS.out _ (List.getElem_mem hjr)
                  have HTK := Lib.hid (show ((r.take (j + 1)).any fun p => hitP p v) = (t || hitP r[j] v) from by
                    rw [List.take_succ_eq_append_getElem hjr, List.any_append, HANY.out]; simp)
                  obtain ⟨q, hq⟩ : ∃ q, r[j] = q := ⟨_, rfl⟩
                  rw [hq] at x0 x1 x2 hin HTK
                  obtain ⟨qa, qb, qs⟩ := q
                  simp only at x0 x1 x2 hin HTK
                  obtain ⟨i1, i2, i3⟩ := hin
                  have hq0 : ((qs : Int) == 0) = false := beq_eq_false_iff_ne.2 (by omega)
                  have hqz : ¬ (qs : Int) = 0 := by omega
                  clear hany hbi c0 c1 c2 hq hjr
                  by_cases h1 : qa ≤ v
                  · by_cases h2 : v ≤ qb
                    · obtain ⟨dv, hdv⟩ : ∃ x, v - qa = x := ⟨_, rfl⟩
                      obtain ⟨rm, hrm⟩ : ∃ x, dv % qs = x := ⟨_, rfl⟩
                      have ed : (v : Int) - qa = (dv : Int) := by omega
                      have em : (dv : Int) % qs = (rm : Int) := by rw [← hrm]; rfl
                      have emt : (dv : Int).tmod qs = (rm : Int) := by rw [Int.tmod_eq_emod_of_nonneg (by omega)]; exact em
                      have HH := Lib.hid (show hitP (qa, qb, qs) v = (rm == 0) from by
                        unfold hitP
                        rw [decide_eq_true h1, decide_eq_true h2]
                        show (true && true && (v - qa) % qs == 0) = _
                        rw [hdv, hrm]; rfl)
                      clear hdv hrm
                      by_cases h3 : rm = 0
                      · subst h3
                        go_wp2_with fail
                        go_roundw
                        case rel => exact ⟨j + 1, true, by omega, rfl, by go_num, by rw [HTK.out, HH.out]; simp, HBI2.out.alloc (by omega) _⟩
                        case measure => simp [intOf]; omega
                      · have h3i : ((rm : Int) == 0) = false := beq_eq_false_iff_ne.2 (by omega)
                        have h3n : (rm == 0) = false := beq_eq_false_iff_ne.2 h3
                        have HF3 := Lib.hid (show ((r.take (j + 1)).any fun p => hitP p v) = t from by rw [HTK.out, HH.out, h3n, Bool.or_false])
                        clear h3n
                        go_wp2_with fail
                        go_roundw
                        case rel => exact ⟨j + 1, t, by omega, rfl, by go_num, HF3.out, HBI2.out.alloc (by omega) _⟩
                        case measure => simp [intOf]; omega
                    · have HF3 := Lib.hid (show ((r.take (j + 1)).any fun p => hitP p v) = t from by
                        rw [HTK.out]
                        unfold hitP
                        rw [decide_eq_false h2]; simp)
                      go_wp2_with fail
                      go_roundw
                      case rel => exact ⟨j + 1, t, by omega, rfl, by go_num, HF3.out, HBI2.out.alloc (by omega) _⟩
                      case measure => simp [intOf]; omega
                  · have HF3 := Lib.hid (show ((r.take (j + 1)).any fun p => hitP p v) = t from by
                      rw [HTK.out]
                      unfold hitP
                      rw [decide_eq_false h1]; simp)
                    go_wp2_with fail
                    go_roundw
                    case rel => exact ⟨j + 1, t, by omega, rfl, by go_num, HF3.out, HBI2.out.alloc (by omega) _⟩
                    case measure => simp [intOf]; omega
                · obtain rfl : j = k := by omega
                  have HFT := Lib.hid (show F v = t from by
                    rw [HFV.out v hv1, ← HANY.out]
                    conv => rhs; rw [← HRL.out, List.take_length])
                  have H2V := Lib.hid (show 2 ^ (v + 1) = 2 * B from by rw [Nat.pow_succ, HBB.out]; omega)
                  clear hany hbi
                  cases t with
                  | true =>
                    have HN3 := Lib.hid (show bitsOf F (v + 1) = N + B from by rw [HSK.out, HNN.out, HFT.out, HBB.out]; rfl)
                    go_wp2_with fail
                    go_roundw
                    case rel => exact ⟨v + 1, N + B, 2 * B, by go_num, by go_num, by go_num, by omega, by omega, H2V.out, HN3.out, HBI2.out⟩
                    case measure => simp [intOf]; omega
                  | false =>
                    have HN3 := Lib.hid (show bitsOf F (v + 1) = N from by rw [HSK.out, HNN.out, HFT.out]; rfl)
                    go_wp2_with fail
                    go_roundw
                    case rel => exact ⟨v + 1, N, 2 * B, rfl, by go_num, by go_num, by omega, by omega, H2V.out, HN3.out, HBI2.out⟩
                    case measure => simp [intOf]; omega
            · obtain rfl : v = high + 1 := by omega
              have HO := Lib.hid (show fieldL s.data.toList low high = some N from by rw [HFS.out, HNN.out])
              go_wp2_with fail
              go_ret2
              exact ⟨by rw [HO.out]; rfl, HBR.out.trans (HBO.out.mono hbrs)⟩
end Go.Proofs.YtccobaohmbilpaaDoor
