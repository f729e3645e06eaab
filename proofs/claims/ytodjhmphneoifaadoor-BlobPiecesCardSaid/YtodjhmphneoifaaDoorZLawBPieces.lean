/-
  BlobPieces of the laws, by a contract: it answers true. Conditions: the digest's tables and octet's errors lie where they were laid.
-/
import Derived.Test.YtodjhmphneoifaaDoorZLaw1
import Derived.Lib.MinMax
import Derived.Deep.CutRange
import Derived.Deep.RegionHeld3
namespace Go.Proofs.YtodjhmphneoifaaDoor
open Go.RowKit Go.WideShapes

theorem empty_app (s : ByteArray) : (⟨#[]⟩ : ByteArray) ++ s = s := by
  apply ByteArray.ext
  rw [ByteArray.data_append]
  simp
abbrev bP0 : Blb := ⟨[], 1048576, [], 0⟩
def bP (all : ByteArray) : Blb := ⟨[], 1048576, [(1, all)], 1⟩
theorem pNew : newB 1048576 = (bP0, 0) := new_ok ⟨by decide, by decide⟩
theorem pRight0 : RightP bP0 := new_right ⟨by decide, by decide⟩
theorem pBegin : beginB bP0 = (bP ⟨#[]⟩, 1, 0) := (one_begin pRight0 (by decide)).1
theorem pRightE : RightP (bP ⟨#[]⟩) := (one_begin pRight0 (by decide)).2
theorem pRight (all : ByteArray) (h : all.size ≤ 4096) : RightP (bP all) := by
  have := (one_push (off := 0) (s := all) pRightE rfl (by show 0 + all.size ≤ 4096; omega)).2
  rwa [empty_app] at this
theorem chunk_of (c : Int) (h : -9223372036854775808 ≤ c ∧ c ≤ 9223372036854775807) : ∃ k : Nat, 1 + (c.tmod 20 + 20).tmod 20 = (k : Int) ∧ 1 ≤ k ∧ k ≤ 20 ∧ -19 ≤ c.tmod 20 ∧ c.tmod 20 ≤ 19 ∧ 0 ≤ (c.tmod 20 + 20).tmod 20 ∧ (c.tmod 20 + 20).tmod 20 ≤ 19 := by
  have h1 : -19 ≤ c.tmod 20 ∧ c.tmod 20 ≤ 19 := by
    rcases Int.le_total 0 c with hc | hc
    · have := Int.tmod_nonneg 20 hc
      have h3 := Int.tmod_lt_of_pos c (show (0 : Int) < 20 by decide)
      omega
    · have h2 : c = -(-c) := by omega
      rw [h2, Int.neg_tmod]
      have := Int.tmod_nonneg 20 (show 0 ≤ -c by omega)
      have h3 := Int.tmod_lt_of_pos (-c) (show (0 : Int) < 20 by decide)
      omega
  have h2 := Int.tmod_nonneg 20 (show 0 ≤ c.tmod 20 + 20 by omega)
  have h3 := Int.tmod_lt_of_pos (c.tmod 20 + 20) (show (0 : Int) < 20 by decide)
  exact ⟨(1 + (c.tmod 20 + 20).tmod 20).toNat, by omega, by omega, by omega, h1.1, h1.2, h2, by omega⟩

def bE (all : ByteArray) : Blb := ⟨[(ofB all, all)], 1048576, [], 1⟩
theorem pPush {all s : ByteArray} (h : all.size + s.size ≤ 4096) : pushB (bP all) 1 (all.size : Nat) s = (bP (all ++ s), 0) := (one_push (pRight all (by omega)) rfl h).1
theorem pOff {all : ByteArray} (h : all.size ≤ 4096) : offB (bP all) 1 = (((all.size : Nat) : Int), 0) := one_off (pRight all h)
theorem pEnd {all : ByteArray} (h : all.size ≤ 4096) : endB (bP all) 1 (ofB all) = (bE all, 0) := (one_done (pRight all h) (by omega)).1
theorem eRight {all : ByteArray} (h : all.size ≤ 4096) : RightP (bE all) := (one_done (pRight all h) (by omega)).2
theorem pSize {all : ByteArray} (h : all.size ≤ 4096) (d : ByteArray) : sizeB (bP all) d = (0, 9) := by
  unfold sizeB bP
  rw [no_data (pRight all h)]; rfl
def gotL (all : ByteArray) (ch k : Nat) : ByteArray := all.extract 0 (min (k * ch) all.size)
def partL (all : ByteArray) (ch k : Nat) : ByteArray := (all.extract (min (k * ch) all.size) all.size).extract 0 (min ch (all.size - min (k * ch) all.size))
theorem gotL_size (all : ByteArray) (ch k : Nat) : (gotL all ch k).size = min (k * ch) all.size := by unfold gotL; rw [ByteArray.size_extract]; omega
theorem partL_size (all : ByteArray) (ch k : Nat) : (partL all ch k).size ≤ ch := by unfold partL; rw [ByteArray.size_extract]; omega
theorem eRead {all : ByteArray} (h : all.size ≤ 4096) (ch k : Nat) : readB (bE all) (ofB all) ((min (k * ch) all.size : Nat) : Int) (ch : Int) = (partL all ch k, 0) := by
  unfold readB bE
  rw [one_data (eRight h), if_neg (by simp), if_neg (by simp only; omega), Int.toNat_natCast, Int.toNat_natCast]
  rfl
theorem gotL_zero (all : ByteArray) (ch : Nat) : gotL all ch 0 = ⟨#[]⟩ := by
  unfold gotL
  rw [Nat.zero_mul, Nat.zero_min]
  apply ByteArray.ext
  rw [ByteArray.data_extract]
  simp
theorem gotL_next (all : ByteArray) (ch k : Nat) : gotL all ch k ++ partL all ch k = gotL all ch (k + 1) := by
  unfold gotL partL
  obtain ⟨p, hp⟩ : ∃ p, k * ch = p := ⟨_, rfl⟩
  rw [Nat.succ_mul, hp]
  obtain ⟨x, hx⟩ : ∃ x, min p all.size = x := ⟨_, rfl⟩
  have hxs : x ≤ all.size := by omega
  have he : min (p + ch) all.size = x + min ch (all.size - x) := by omega
  rw [hx, he]
  apply ByteArray.ext
  rw [ByteArray.data_append, ByteArray.data_extract, ByteArray.data_extract, ByteArray.data_extract, ByteArray.data_extract]
  have hs : all.size = all.data.size := rfl
  rw [hs] at hxs ⊢
  apply Array.ext'
  simp
  omega
theorem gotL_all (all : ByteArray) (ch : Nat) (hc : 1 ≤ ch) : gotL all ch (all.size / ch + 1) = all := by
  unfold gotL
  have h1 := Nat.div_add_mod all.size ch
  have h2 := Nat.mod_lt all.size (show 0 < ch by omega)
  have h3 : (all.size / ch + 1) * ch = ch * (all.size / ch) + ch := by rw [Nat.succ_mul, Nat.mul_comm]
  rw [h3, show min (ch * (all.size / ch) + ch) all.size = all.size by omega]
  exact ByteArray.extract_zero_size

set_option maxRecDepth 100000 in
set_option maxHeartbeats 8000000 in
theorem pieces_any (aD aS aZ : Addr) (vl vw : Value) (l : List ByteArray) (ws : List Int) (chunk : Int) (w : World) (he : DEnv w aD aS aZ) (hl : StrRow w vl l) (hz : ∀ s ∈ l, s.size ≤ maxLen) (hw : IntsAt w vw ws) (hc : -9223372036854775808 ≤ chunk ∧ chunk ≤ 9223372036854775807) :
    Calls Tryd.prog 3 #[vl, vw, .int .i64 chunk] w fun e w' => e = .returned (.bool true) ∧ Below w.heap.size w w' := by
  have HE := Lib.hid he
  have HB := Lib.hid (Below.refl w.heap.size w)
  have HZ := Lib.hid hz
  obtain ⟨a, c, rfl, hnc, hcm⟩ := hl.shape3
  obtain ⟨wa, wc, rfl, -, hwl⟩ := hw.shape
  have HL := Lib.hid hl
  have HWS := Lib.hid hw
  obtain ⟨n, hn⟩ : ∃ n, l.length = n := ⟨_, rfl⟩
  obtain ⟨wn, hwn⟩ : ∃ n, ws.length = n := ⟨_, rfl⟩
  rw [hn] at hnc HL ⊢
  rw [hwn] at hwl HWS ⊢
  have HN := Lib.hid (And.intro hn hwn)
  unfold maxLen at hcm hwl
  obtain ⟨K, hK⟩ : ∃ K, min n 10 = K := ⟨_, rfl⟩
  have hKn : K ≤ n ∧ K ≤ 10 := by omega
  have q1 : min (n : Int) 10 = (K : Int) := by omega
  have q2 : (K : Int) ≤ (c : Int) := by omega
  obtain ⟨ch, hch, hch1, hch20, k1, k2, k3, k4⟩ := chunk_of chunk hc
  have p1 : IntKind.i64.wrap (chunk.tmod 20 + 20) = chunk.tmod 20 + 20 := by rw [IntKind.wrap_i64]; omega
  have p2 : IntKind.i64.wrap (1 + (chunk.tmod 20 + 20).tmod 20) = (ch : Int) := by rw [hch, IntKind.wrap_i64]; omega
  clear he hl hz hw hn hwn hK hc hch k1 k2 k3 k4
  go_enter Tryd.func3, Tryd.ntmps3
  have C0 := New_t 1048576 w
  rw [pNew] at C0
  have C := Lib.hid C0
  clear C0
  go_wp2_with fail
  refine C.out.mono ?_
  rintro e w1 ⟨v1, rfl, hv1, hb1⟩
  obtain ⟨ya, yn, yc, yq, ya', yn', yc', yl, rfl⟩ := hv1.four
  have HV1 := Lib.hid hv1
  replace HB := Lib.hid (Below.then HB.out hb1)
  clear C hb1 hv1
  obtain ⟨w2, hw2⟩ : ∃ x, w1.alloc (.cells #[.slice ya yn yc, .int .i64 yq, .slice ya' yn' yc', .int .i64 yl] 27) = x := ⟨_, rfl⟩
  obtain ⟨Bb, hBb⟩ : ∃ x, w1.heap.size = x := ⟨_, rfl⟩
  have Hb := Lib.hid (show VarB w2 Bb bP0 by rw [← hw2, ← hBb]; exact VarB.new HV1.out)
  have hb2 : Below w1.heap.size w1 w2 := by rw [← hw2]; exact below_new _ _
  have HLb := Lib.hid (show w.heap.size ≤ Bb by rw [← hBb]; exact HB.out.size)
  replace HB := Lib.hid (Below.then HB.out hb2)
  have HW2 := Lib.hid hw2
  clear hw2 hb2 HV1
  go_upto_region 4 with fail
  rw [HW2.out]
  clear hBb HW2
  obtain ⟨xa, xn, xc, xq, xa', xn', xc', xl, hA, hV⟩ := Hb.out.is
  have C0 := Begin_t _ bP0  w2 aD aS aZ hV (HE.out.keep HB.out)
  rw [pBegin] at C0
  have C := Lib.hid C0
  clear C0
  obtain ⟨a0, a1, a2, a3⟩ := hA.cells
  clear hA hV
  go_wp2_with fail
  refine C.out.mono ?_
  rintro e w3 ⟨v1, rfl, hv1, hb1⟩
  obtain ⟨ya, yn, yc, yq, ya', yn', yc', yl, rfl⟩ := hv1.four
  have HV1 := Lib.hid hv1
  replace HB := Lib.hid (Below.then HB.out hb1)
  replace Hb := Lib.hid (Hb.out.keep hb1)
  clear C hb1 a0 a1 a2 a3 hv1
  obtain ⟨za, zn, zc, zq, za', zn', zc', zl, hA, hV⟩ := Hb.out.is
  obtain ⟨a0, a1, a2, a3⟩ := hA.cells
  obtain ⟨f0, f1, f2, f3⟩ := hA.free
  clear hA hV
  go_upto_region 5 with fail
  obtain ⟨w4, hw2⟩ : ∃ x, (((w3.setCell ⟨Bb, 0, none⟩ (.slice ya yn yc)).setCell ⟨Bb, 1, none⟩ (.int .i64 yq)).setCell ⟨Bb, 2, none⟩ (.slice ya' yn' yc')).setCell ⟨Bb, 3, none⟩ (.int .i64 yl) = x := ⟨_, rfl⟩
  rw [hw2]
  replace Hb := Lib.hid (show VarB w4 Bb (bP ⟨#[]⟩) by rw [← hw2]; exact Hb.out.set HV1.out)
  replace HB := Lib.hid (show Below w.heap.size w w4 by rw [← hw2]; exact set4_below HB.out HLb.out (.slice ya yn yc) (.int .i64 yq) (.slice ya' yn' yc') (.int .i64 yl))
  clear hw2 a0 a1 a2 a3 f0 f1 f2 f3 HV1
  replace Hb := Lib.hid Hb.out
  go_wp2_with fail
  have HB0 := Lib.hid HB.out
  go_loopw [11, 49] (fun av iv wr => ∃ (k : Nat) (all : ByteArray), k ≤ K ∧ iv = .int .i64 k ∧ av = .string all ∧ all.size ≤ 100 * k ∧ VarB wr Bb (bP all) ∧ Below w.heap.size w wr) (fun _ i _ => K - (intOf i).toNat)
  case atStart => exact ⟨0, ⟨#[]⟩, Nat.zero_le _, rfl, rfl, Nat.le_refl _, Hb.out, HB0.out⟩
  case round =>
    obtain ⟨k, all, hk, rfl, rfl, hsz, hvb, hbr⟩ := hrel
    have Hb := Lib.hid hvb
    have HB := Lib.hid hbr
    have HSZ := Lib.hid hsz
    clear hvb hbr
    by_cases hlt : k < K
    · have hkl : k < l.length := by rw [HN.out.1]; omega
      obtain ⟨lb, lo, rfl, e0⟩ := (HL.out.keep HB.out).at k hkl
      have hs63 : l[k].size ≤ 9223372036854775807 := by have := HZ.out _ (List.getElem_mem hkl); unfold maxLen at this; exact this
      obtain ⟨s0, hs0⟩ : ∃ s, l[k] = s := ⟨_, rfl⟩
      rw [hs0] at e0 hs63
      obtain ⟨m, hm⟩ : ∃ m, min s0.size 100 = m := ⟨_, rfl⟩
      have q3 : min (s0.size : Int) 100 = (m : Int) := by omega
      have hms : m ≤ s0.size ∧ m ≤ 100 := by omega
      obtain ⟨s, hss⟩ : ∃ s, s0.extract 0 m = s := ⟨_, rfl⟩
      have hsm : s.size ≤ 100 := by rw [← hss, ByteArray.size_extract]; omega
      have HSS := Lib.hid hss
      clear hs0 hm
      have HPW := Lib.hid (fun (x : Int) (hx : x ≠ (all.size : Nat)) w' (hb : Below wr.heap.size wr w') v (hv : BlbAt w' v (bP all)) => show Calls Tryd.prog 8 #[v, .int .i64 1, .int .i64 x, .string s] w' (BlbOut (nilBlb, 11) w') by
        have h := Push_t v (bP all) 1 x s w' aD aS aZ hv (HE.out.keep (Below.then HB.out hb)) (by omega)
        rwa [show pushB (bP all) 1 x s = (nilBlb, 11) from one_wrong (pRight all (by have := HSZ.out; omega)) hx] at h)
      obtain ⟨bb, hbb⟩ : ∃ bb : Bool, (if h : k < ws.length then ws[k] != (all.size : Int) else false) = bb := ⟨_, rfl⟩
      have HBB := Lib.hid hbb
      clear hbb
      go_upto_region 10 with fail
      go_cut [71] from 59 to 71 (fun v wx => v = .bool bb ∧ wr = wx)
      case first =>
        by_cases hkw : k < wn
        rotate_left
        · have hb0 := Lib.hid (show bb = false by rw [← HBB.out, dif_neg (by rw [HN.out.2]; exact hkw)])
          go_wp2_with fail
          go_meet
          exact ⟨by rw [hb0.out], rfl⟩
        have hkws : k < ws.length := by rw [HN.out.2]; exact hkw
        obtain ⟨wb, wo, rfl, g0⟩ := (HWS.out.keep HB.out).at k hkws
        have hb0 := Lib.hid (show (ws[k] != (all.size : Int)) = bb by rw [← HBB.out, dif_pos hkws])
        obtain ⟨x, hx⟩ : ∃ x, ws[k] = x := ⟨_, rfl⟩
        rw [hx] at g0 hb0
        have q5 := hb0.out
        clear hx
        go_wp2_with fail
        go_meet
        exact ⟨rfl, rfl⟩
      case rest =>
      obtain ⟨rfl, rfl⟩ := hcut
      go_upto_if 71 with fail
      go_cut [14, 15] from 72 to 84 (fun _ _ wx => Below wr.heap.size wr wx)
      case first =>
        cases bb with
        | false =>
          go_wp2_with fail
          go_meet
          exact Below.refl _ _
        | true =>
        obtain ⟨hkws, hxa⟩ : ∃ h : k < ws.length, ws[k] ≠ (all.size : Int) := by
          have h := HBB.out
          by_cases hk : k < ws.length
          · rw [dif_pos hk] at h
            exact ⟨hk, by simpa using h⟩
          · rw [dif_neg hk] at h; cases h
        have hkw : k < wn := by rw [← HN.out.2]; exact hkws
        obtain ⟨wb, wo, rfl, g0⟩ := (HWS.out.keep HB.out).at k hkws
        obtain ⟨x, hx⟩ : ∃ x, ws[k] = x := ⟨_, rfl⟩
        rw [hx] at g0 hxa
        have PW := Lib.hid (HPW.out x hxa)
        clear hxa hx
        obtain ⟨xa, xn, xc, xq, xa', xn', xc', xl, hA, hV⟩ := Hb.out.is
        have HA := Lib.hid hA
        have HV := Lib.hid hV
        obtain ⟨a0, a1, a2, a3⟩ := hA.cells
        have HG := Lib.hid g0
        have hbA := Below.refl wr.heap.size wr
        have hn1 : Bb < wr.heap.size := hA.lt
        have hn2 : wb < wr.heap.size := World.block_lt_of_cell? _ _ g0
        clear hA hV
        go_upto_region 11 with fail
        refine wp_region_held_drew (S := fun w' => w'.cell? ⟨Bb, 0, none⟩ = some (.slice xa xn xc) ∧ w'.cell? ⟨Bb, 1, none⟩ = some (.int .i64 xq) ∧ w'.cell? ⟨Bb, 2, none⟩ = some (.slice xa' xn' xc') ∧ w'.cell? ⟨Bb, 3, none⟩ = some (.int .i64 xl) ∧ w'.cell? ⟨wb, wo + k, none⟩ = some (.int .i64 x)) (by kernel_rfl) ?hSp (fun hHeld => ?hRp)
        case hSp => exact ⟨a0, a1, a2, a3, g0⟩
        refine wpAnyH_take (i := 0) (oi := { dst := some 73, op := Op.load 27 (Operand.tmp 7), type := 27, pos := "law.go:128", after := #[], guard := none }) (v := ?gvp0) rfl (by kernel_rfl) (by kernel_rfl) (by kernel_rfl) (fun _ _ _ h => h) (Or.inl ⟨by rfl, ?gyp0⟩) (by assumption) ?grp0
        case gyp0 => (intro w hSw; (try dsimp only at hSw); go_simp; try with_reducible rfl)
        try simp only [Act.put, List.setIfInBounds_toArray, List.set_cons_zero, List.set_cons_succ]
        refine wpAnyH_take (i := 1) (oi := { dst := some 74, op := Op.move (Operand.tmp 9), type := 3, pos := "law.go:128", after := #[], guard := none }) (v := ?gvp1) rfl (by kernel_rfl) (by kernel_rfl) (by kernel_rfl) (fun _ _ _ h => h) (Or.inl ⟨by rfl, ?gyp1⟩) (by assumption) ?grp1
        case gyp1 => (intro w hSw; (try dsimp only at hSw); go_simp; try with_reducible rfl)
        try simp only [Act.put, List.setIfInBounds_toArray, List.set_cons_zero, List.set_cons_succ]
        refine wpAnyH_take (i := 2) (oi := { dst := some 75, op := Op.move (Operand.tmp 1), type := 23, pos := "law.go:128", after := #[], guard := none }) (v := ?gvp2) rfl (by kernel_rfl) (by kernel_rfl) (by kernel_rfl) (fun _ _ _ h => h) (Or.inl ⟨by rfl, ?gyp2⟩) (by assumption) ?grp2
        case gyp2 => (intro w hSw; (try dsimp only at hSw); go_simp; try with_reducible rfl)
        try simp only [Act.put, List.setIfInBounds_toArray, List.set_cons_zero, List.set_cons_succ]
        refine wpAnyH_take (i := 3) (oi := { dst := some 76, op := Op.move (Operand.tmp 12), type := 3, pos := "law.go:128", after := #[], guard := none }) (v := ?gvp3) rfl (by kernel_rfl) (by kernel_rfl) (by kernel_rfl) (fun _ _ _ h => h) (Or.inl ⟨by rfl, ?gyp3⟩) (by assumption) ?grp3
        case gyp3 => (intro w hSw; (try dsimp only at hSw); go_simp; try with_reducible rfl)
        try simp only [Act.put, List.setIfInBounds_toArray, List.set_cons_zero, List.set_cons_succ]
        refine wpAnyH_take (i := 4) (oi := { dst := some 77, op := Op.indexAddr 23 (Operand.tmp 75) (Operand.tmp 76), type := 0, pos := "law.go:128", after := #[{ on := 2, ground := Ground.data }, { on := 3, ground := Ground.data }], guard := none }) (v := ?gvp4) rfl (by kernel_rfl) (by kernel_rfl) (by kernel_rfl) (fun _ _ _ h => h) (Or.inl ⟨by rfl, ?gyp4⟩) (by assumption) ?grp4
        case gyp4 => (intro w hSw; (try dsimp only at hSw); go_simp; try with_reducible rfl)
        try simp only [Act.put, List.setIfInBounds_toArray, List.set_cons_zero, List.set_cons_succ]
        refine wpAnyH_take (i := 5) (oi := { dst := some 78, op := Op.load 3 (Operand.tmp 77), type := 3, pos := "law.go:128", after := #[{ on := 4, ground := Ground.data }], guard := none }) (v := ?gvp5) rfl (by kernel_rfl) (by kernel_rfl) (by kernel_rfl) (fun _ _ _ h => h) (Or.inl ⟨by rfl, ?gyp5⟩) (by assumption) ?grp5
        case gyp5 => (intro w hSw; (try dsimp only at hSw); go_simp; try with_reducible rfl)
        try simp only [Act.put, List.setIfInBounds_toArray, List.set_cons_zero, List.set_cons_succ]
        refine wpAnyH_take (i := 6) (oi := { dst := some 79, op := Op.move (Operand.tmp 13), type := 9, pos := "law.go:128", after := #[], guard := none }) (v := ?gvp6) rfl (by kernel_rfl) (by kernel_rfl) (by kernel_rfl) (fun _ _ _ h => h) (Or.inl ⟨by rfl, ?gyp6⟩) (by assumption) ?grp6
        case gyp6 => (intro w hSw; (try dsimp only at hSw); go_simp; try with_reducible rfl)
        try simp only [Act.put, List.setIfInBounds_toArray, List.set_cons_zero, List.set_cons_succ]
        refine wpAnyH_ready (rs := [7, 11]) (by kernel_rfl) (by simp) ?_
        refine AllReadyH.cons (o := { dst := some 80, op := Op.call { callee := Callee.value (Operand.func 8), args := #[Operand.tmp 73, Operand.tmp 74, Operand.tmp 78, Operand.tmp 79], argTypes := #[27, 3, 3, 9] }, type := 29, pos := "law.go:128", after := #[{ on := 0, ground := Ground.data }, { on := 1, ground := Ground.data }, { on := 5, ground := Ground.data }, { on := 6, ground := Ground.data }], guard := none }) rfl (fun K hK => ?cap) (AllReadyH.cons (o := { dst := some 14, op := Op.alloc 27, type := 0, pos := "law.go:128", after := #[], guard := none }) rfl (fun K hK => ?cbp) AllReadyH.nil)
        case cap =>
          rw [if_pos (by kernel_rfl)]
          go_simp
          go_wp2_with (go_at_call 8; refine (PW.out wr.drew hbA.drew _ (HV.out.keep hbA.drew)).mono ?_; rintro e wS ⟨v1, rfl, hv1, hbS⟩)
          obtain ⟨ya, yn, yc, yq, ya', yn', yc', yl, rfl⟩ := hv1.four
          have hbB : Below wr.heap.size wr wS := Below.then hbA.drew hbS
          obtain ⟨a0, a1, a2, a3⟩ := (HA.out.keep hbB).cells
          have g0 := Below.keepc hbB HG.out
          refine hK.out _ _ ?hSpc1 (fun hHeldpc1 => ?hRpc1)
          case hSpc1 => exact ⟨a0, a1, a2, a3, g0⟩
          clear hK K
          try simp only [Act.put, List.setIfInBounds_toArray, List.set_cons_zero, List.set_cons_succ]
          refine wpAnyH_take (i := 8) (oi := { dst := some 72, op := Op.move (Operand.tmp 80), type := 29, pos := "law.go:128", after := #[{ on := 7, ground := Ground.data }], guard := none }) (v := ?gvpm8) rfl (by kernel_rfl) (by kernel_rfl) (by kernel_rfl) (fun _ _ _ h => h) (Or.inl ⟨by rfl, ?gypm8⟩) (by assumption) ?grpm8
          case gypm8 => (intro w hSw; (try dsimp only at hSw); go_simp; try with_reducible rfl)
          try simp only [Act.put, List.setIfInBounds_toArray, List.set_cons_zero, List.set_cons_succ]
          refine wpAnyH_take (i := 9) (oi := { dst := some 81, op := Op.extract (Operand.tmp 72) 0, type := 27, pos := "law.go:128", after := #[{ on := 8, ground := Ground.data }], guard := none }) (v := ?gvpm9) rfl (by kernel_rfl) (by kernel_rfl) (by kernel_rfl) (fun _ _ _ h => h) (Or.inl ⟨by rfl, ?gypm9⟩) (by assumption) ?grpm9
          case gypm9 => (intro w hSw; (try dsimp only at hSw); go_simp; try with_reducible rfl)
          try simp only [Act.put, List.setIfInBounds_toArray, List.set_cons_zero, List.set_cons_succ]
          refine wpAnyH_take (i := 10) (oi := { dst := some 82, op := Op.extract (Operand.tmp 72) 1, type := 28, pos := "law.go:128", after := #[{ on := 8, ground := Ground.data }, { on := 12, ground := Ground.gcOnly Departure.lateStores }], guard := none }) (v := ?gvpm10) rfl (by kernel_rfl) (by kernel_rfl) (by kernel_rfl) (fun _ _ _ h => h) (Or.inl ⟨by rfl, ?gypm10⟩) (by assumption) ?grpm10
          case gypm10 => (intro w hSw; (try dsimp only at hSw); go_simp; try with_reducible rfl)
          try simp only [Act.put, List.setIfInBounds_toArray, List.set_cons_zero, List.set_cons_succ]
          obtain ⟨wA, hwA⟩ : ∃ x, wS.alloc (.cells #[nilV, zeroV, nilV, zeroV] 27) = x := ⟨_, rfl⟩
          obtain ⟨BA, hBA⟩ : ∃ x, wS.heap.size = x := ⟨_, rfl⟩
          have hAz : At4 27 wA BA nilV zeroV nilV zeroV := by rw [← hwA, ← hBA]; exact At4.new _ _ _ _ _ _
          have hbz : Below wS.heap.size wS wA := by rw [← hwA]; exact below_new _ _
          have a0 := Below.keepc hbz a0
          have a1 := Below.keepc hbz a1
          have a2 := Below.keepc hbz a2
          have a3 := Below.keepc hbz a3
          have g0 := Below.keepc hbz g0
          refine wpAnyH_ready (rs := [11]) (by kernel_rfl) (by simp) ?_
          refine AllReadyH.cons (o := { dst := some 14, op := Op.alloc 27, type := 0, pos := "law.go:128", after := #[], guard := none }) rfl (fun K hK => ?_) AllReadyH.nil
          rw [if_pos (by kernel_rfl)]
          go_simp
          try rw [hwA]
          refine hK.out _ _ ?hSpa1 (fun hHeldpa1 => ?hRpa1)
          case hSpa1 => exact ⟨a0, a1, a2, a3, g0⟩
          clear hK K
          try simp only [Act.put, List.setIfInBounds_toArray, List.set_cons_zero, List.set_cons_succ]
          obtain ⟨z0, z1, z2, z3⟩ := hAz.cells
          obtain ⟨f0, f1, f2, f3⟩ := hAz.free
          have hn0ps1 : Bb ≠ BA := by rw [← hBA]; have := hbB.size; omega
          have hn1ps1 : wb ≠ BA := by rw [← hBA]; have := hbB.size; omega
          refine wpAnyH_ready (rs := [12]) (by kernel_rfl) (by simp) ?_
          refine AllReadyH.cons (o := { dst := none, op := Op.store 27 (Operand.tmp 14) (Operand.tmp 81), type := 0, pos := "law.go:128", after := #[{ on := 11, ground := Ground.data }, { on := 9, ground := Ground.data }, { on := 7, ground := Ground.chain }, { on := 0, ground := Ground.phase }, { on := 1, ground := Ground.phase }, { on := 2, ground := Ground.phase }, { on := 3, ground := Ground.phase }, { on := 4, ground := Ground.phase }, { on := 5, ground := Ground.phase }, { on := 6, ground := Ground.phase }, { on := 7, ground := Ground.phase }, { on := 8, ground := Ground.phase }, { on := 9, ground := Ground.phase }, { on := 10, ground := Ground.textOnly Departure.lateStores }, { on := 11, ground := Ground.phase }], guard := none }) rfl (fun K hK => ?_) AllReadyH.nil
          rw [if_pos (by kernel_rfl)]
          go_simp
          refine hK.out _ _ ?hSps1 (fun hHeldps1 => ?hRps1)
          case hSps1 => exact ⟨(cell_four hn0ps1).trans a0, (cell_four hn0ps1).trans a1, (cell_four hn0ps1).trans a2, (cell_four hn0ps1).trans a3, (cell_four hn1ps1).trans g0⟩
          clear hK K
          try simp only [Act.put, List.setIfInBounds_toArray, List.set_cons_zero, List.set_cons_succ]
          refine wpAnyH_take (i := 13) (oi := { dst := some 15, op := Op.assign (Operand.tmp 82), type := 28, pos := "law.go:128", after := #[{ on := 10, ground := Ground.data }, { on := 12, ground := Ground.chain }, { on := 0, ground := Ground.phase }, { on := 1, ground := Ground.phase }, { on := 2, ground := Ground.phase }, { on := 3, ground := Ground.phase }, { on := 4, ground := Ground.phase }, { on := 5, ground := Ground.phase }, { on := 6, ground := Ground.phase }, { on := 7, ground := Ground.phase }, { on := 8, ground := Ground.phase }, { on := 9, ground := Ground.phase }, { on := 10, ground := Ground.phase }, { on := 11, ground := Ground.phase }, { on := 12, ground := Ground.phase }], guard := none }) (v := ?gvpm13) rfl (by kernel_rfl) (by kernel_rfl) (by kernel_rfl) (fun _ _ _ h => h) (Or.inl ⟨by rfl, ?gypm13⟩) (by assumption) ?grpm13
          case gypm13 => (intro w hSw; (try dsimp only at hSw); go_simp; try with_reducible rfl)
          try simp only [Act.put, List.setIfInBounds_toArray, List.set_cons_zero, List.set_cons_succ]
          refine wpAnyH_done (by kernel_rfl) ?_ _
          go_wp2_with fail
          go_meet
          exact set4_below (Below.then hbB hbz) (by rw [← hBA]; exact hbB.size) _ _ _ _
        case cbp =>
          obtain ⟨wA, hwA⟩ : ∃ x, wr.drew.alloc (.cells #[nilV, zeroV, nilV, zeroV] 27) = x := ⟨_, rfl⟩
          obtain ⟨BA, hBA⟩ : ∃ x, wr.heap.size = x := ⟨_, rfl⟩
          have hAz : At4 27 wA BA nilV zeroV nilV zeroV := by rw [← hwA, ← hBA]; exact At4.new _ _ _ _ _ _
          have hbz : Below wr.drew.heap.size wr.drew wA := by rw [← hwA]; exact below_new _ _
          have a0 := Below.keepc hbz a0
          have a1 := Below.keepc hbz a1
          have a2 := Below.keepc hbz a2
          have a3 := Below.keepc hbz a3
          have g0 := Below.keepc hbz g0
          rw [if_pos (by kernel_rfl)]
          go_simp
          try rw [hwA]
          refine hK.out _ _ ?hSpa2 (fun hHeldpa2 => ?hRpa2)
          case hSpa2 => exact ⟨a0, a1, a2, a3, g0⟩
          clear hK K
          try simp only [Act.put, List.setIfInBounds_toArray, List.set_cons_zero, List.set_cons_succ]
          refine wpAnyH_ready (rs := [7]) (by kernel_rfl) (by simp) ?_
          refine AllReadyH.cons (o := { dst := some 80, op := Op.call { callee := Callee.value (Operand.func 8), args := #[Operand.tmp 73, Operand.tmp 74, Operand.tmp 78, Operand.tmp 79], argTypes := #[27, 3, 3, 9] }, type := 29, pos := "law.go:128", after := #[{ on := 0, ground := Ground.data }, { on := 1, ground := Ground.data }, { on := 5, ground := Ground.data }, { on := 6, ground := Ground.data }], guard := none }) rfl (fun K hK => ?_) AllReadyH.nil
          rw [if_pos (by kernel_rfl)]
          go_simp
          go_wp2_with (go_at_call 8; refine (PW.out wA (Below.then hbA.drew hbz) _ (HV.out.keep (Below.then hbA.drew hbz))).mono ?_; rintro e wS ⟨v1, rfl, hv1, hbS⟩)
          obtain ⟨ya, yn, yc, yq, ya', yn', yc', yl, rfl⟩ := hv1.four
          have hbB : Below wr.heap.size wr wS := Below.then (Below.then hbA.drew hbz) hbS
          obtain ⟨a0, a1, a2, a3⟩ := (HA.out.keep hbB).cells
          have g0 := Below.keepc hbB HG.out
          refine hK.out _ _ ?hSpc2 (fun hHeldpc2 => ?hRpc2)
          case hSpc2 => exact ⟨a0, a1, a2, a3, g0⟩
          clear hK K
          try simp only [Act.put, List.setIfInBounds_toArray, List.set_cons_zero, List.set_cons_succ]
          replace hAz := hAz.keep hbS
          refine wpAnyH_take (i := 8) (oi := { dst := some 72, op := Op.move (Operand.tmp 80), type := 29, pos := "law.go:128", after := #[{ on := 7, ground := Ground.data }], guard := none }) (v := ?gvpn8) rfl (by kernel_rfl) (by kernel_rfl) (by kernel_rfl) (fun _ _ _ h => h) (Or.inl ⟨by rfl, ?gypn8⟩) (by assumption) ?grpn8
          case gypn8 => (intro w hSw; (try dsimp only at hSw); go_simp; try with_reducible rfl)
          try simp only [Act.put, List.setIfInBounds_toArray, List.set_cons_zero, List.set_cons_succ]
          refine wpAnyH_take (i := 9) (oi := { dst := some 81, op := Op.extract (Operand.tmp 72) 0, type := 27, pos := "law.go:128", after := #[{ on := 8, ground := Ground.data }], guard := none }) (v := ?gvpn9) rfl (by kernel_rfl) (by kernel_rfl) (by kernel_rfl) (fun _ _ _ h => h) (Or.inl ⟨by rfl, ?gypn9⟩) (by assumption) ?grpn9
          case gypn9 => (intro w hSw; (try dsimp only at hSw); go_simp; try with_reducible rfl)
          try simp only [Act.put, List.setIfInBounds_toArray, List.set_cons_zero, List.set_cons_succ]
          refine wpAnyH_take (i := 10) (oi := { dst := some 82, op := Op.extract (Operand.tmp 72) 1, type := 28, pos := "law.go:128", after := #[{ on := 8, ground := Ground.data }, { on := 12, ground := Ground.gcOnly Departure.lateStores }], guard := none }) (v := ?gvpn10) rfl (by kernel_rfl) (by kernel_rfl) (by kernel_rfl) (fun _ _ _ h => h) (Or.inl ⟨by rfl, ?gypn10⟩) (by assumption) ?grpn10
          case gypn10 => (intro w hSw; (try dsimp only at hSw); go_simp; try with_reducible rfl)
          try simp only [Act.put, List.setIfInBounds_toArray, List.set_cons_zero, List.set_cons_succ]
          obtain ⟨z0, z1, z2, z3⟩ := hAz.cells
          obtain ⟨f0, f1, f2, f3⟩ := hAz.free
          have hn0ps2 : Bb ≠ BA := by rw [← hBA]; omega
          have hn1ps2 : wb ≠ BA := by rw [← hBA]; omega
          refine wpAnyH_ready (rs := [12]) (by kernel_rfl) (by simp) ?_
          refine AllReadyH.cons (o := { dst := none, op := Op.store 27 (Operand.tmp 14) (Operand.tmp 81), type := 0, pos := "law.go:128", after := #[{ on := 11, ground := Ground.data }, { on := 9, ground := Ground.data }, { on := 7, ground := Ground.chain }, { on := 0, ground := Ground.phase }, { on := 1, ground := Ground.phase }, { on := 2, ground := Ground.phase }, { on := 3, ground := Ground.phase }, { on := 4, ground := Ground.phase }, { on := 5, ground := Ground.phase }, { on := 6, ground := Ground.phase }, { on := 7, ground := Ground.phase }, { on := 8, ground := Ground.phase }, { on := 9, ground := Ground.phase }, { on := 10, ground := Ground.textOnly Departure.lateStores }, { on := 11, ground := Ground.phase }], guard := none }) rfl (fun K hK => ?_) AllReadyH.nil
          rw [if_pos (by kernel_rfl)]
          go_simp
          refine hK.out _ _ ?hSps2 (fun hHeldps2 => ?hRps2)
          case hSps2 => exact ⟨(cell_four hn0ps2).trans a0, (cell_four hn0ps2).trans a1, (cell_four hn0ps2).trans a2, (cell_four hn0ps2).trans a3, (cell_four hn1ps2).trans g0⟩
          clear hK K
          try simp only [Act.put, List.setIfInBounds_toArray, List.set_cons_zero, List.set_cons_succ]
          refine wpAnyH_take (i := 13) (oi := { dst := some 15, op := Op.assign (Operand.tmp 82), type := 28, pos := "law.go:128", after := #[{ on := 10, ground := Ground.data }, { on := 12, ground := Ground.chain }, { on := 0, ground := Ground.phase }, { on := 1, ground := Ground.phase }, { on := 2, ground := Ground.phase }, { on := 3, ground := Ground.phase }, { on := 4, ground := Ground.phase }, { on := 5, ground := Ground.phase }, { on := 6, ground := Ground.phase }, { on := 7, ground := Ground.phase }, { on := 8, ground := Ground.phase }, { on := 9, ground := Ground.phase }, { on := 10, ground := Ground.phase }, { on := 11, ground := Ground.phase }, { on := 12, ground := Ground.phase }], guard := none }) (v := ?gvpn13) rfl (by kernel_rfl) (by kernel_rfl) (by kernel_rfl) (fun _ _ _ h => h) (Or.inl ⟨by rfl, ?gypn13⟩) (by assumption) ?grpn13
          case gypn13 => (intro w hSw; (try dsimp only at hSw); go_simp; try with_reducible rfl)
          try simp only [Act.put, List.setIfInBounds_toArray, List.set_cons_zero, List.set_cons_succ]
          refine wpAnyH_done (by kernel_rfl) ?_ _
          go_wp2_with fail
          go_meet
          exact set4_below hbB (by rw [← hBA]; exact Nat.le_refl _) _ _ _ _
      case rest =>
        have hcb : Below wr.heap.size wr wc := hcut
        have Hb := Lib.hid (Hb.out.keep hcb)
        have HB := Lib.hid (Below.then HB.out hcb)
        clear hcut hcb HPW
        obtain ⟨al2, hal2⟩ : ∃ x, all ++ s = x := ⟨_, rfl⟩
        have HSZ2 := Lib.hid (show al2.size ≤ 100 * (k + 1) by rw [← hal2, ByteArray.size_append]; have := HSZ.out; omega)
        have HPE := Lib.hid (show pushB (bP all) 1 (all.size : Nat) s = (bP al2, 0) by rw [← hal2]; exact pPush (by have := HSZ.out; omega))
        have HOE := Lib.hid (pOff (all := al2) (by have := HSZ2.out; omega))
        obtain ⟨xa, xn, xc, xq, xa', xn', xc', xl, hA, hV⟩ := Hb.out.is
        have C0 := Push_t _ (bP all) 1 ((all.size : Nat) : Int) s wc aD aS aZ hV (HE.out.keep HB.out) (by omega)
        rw [HPE.out] at C0
        have C := Lib.hid C0
        clear C0
        obtain ⟨a0, a1, a2, a3⟩ := hA.cells
        clear hA hV
        go_wp2_with fail
        refine C.out.mono ?_
        rintro e w31 ⟨v1, rfl, hv1, hb1⟩
        obtain ⟨ya, yn, yc, yq, ya', yn', yc', yl, rfl⟩ := hv1.four
        have HV1 := Lib.hid hv1
        replace HB := Lib.hid (Below.then HB.out hb1)
        replace Hb := Lib.hid (Hb.out.keep hb1)
        clear C hb1 a0 a1 a2 a3 hv1
        obtain ⟨w32, hw2⟩ : ∃ x, w31.alloc (.cells #[.slice ya yn yc, .int .i64 yq, .slice ya' yn' yc', .int .i64 yl] 27) = x := ⟨_, rfl⟩
        obtain ⟨Bx, hBx⟩ : ∃ x, w31.heap.size = x := ⟨_, rfl⟩
        have Hx := Lib.hid (show VarB w32 Bx (bP al2) by rw [← hw2, ← hBx]; exact VarB.new HV1.out)
        have hb2 : Below w31.heap.size w31 w32 := by rw [← hw2]; exact below_new _ _
        have HNbx := Lib.hid (show Bb ≠ Bx by have := Hb.out.lt; omega)
        have HNxb := Lib.hid (HNbx.out.symm)
        replace Hb := Lib.hid (Hb.out.keep hb2)
        have HLx := Lib.hid (show w.heap.size ≤ Bx by rw [← hBx]; exact HB.out.size)
        replace HB := Lib.hid (Below.then HB.out hb2)
        have HW2 := Lib.hid hw2
        clear hw2 hb2 HV1
        go_upto_region 15 with fail
        rw [HW2.out]
        clear hBx HW2
        obtain ⟨ya, yn, yc, yq, ya', yn', yc', yl, hA, hV⟩ := Hx.out.is
        have HV1 := Lib.hid hV
        obtain ⟨x0, x1, x2, x3⟩ := hA.cells
        clear hA hV
        have HLb := HLb
        obtain ⟨za, zn, zc, zq, za', zn', zc', zl, hA, hV⟩ := Hb.out.is
        obtain ⟨a0, a1, a2, a3⟩ := hA.cells
        obtain ⟨f0, f1, f2, f3⟩ := hA.free
        clear hA hV
        go_upto_region 18 with fail
        obtain ⟨w33, hw2⟩ : ∃ x, (((w32.setCell ⟨Bb, 0, none⟩ (.slice ya yn yc)).setCell ⟨Bb, 1, none⟩ (.int .i64 yq)).setCell ⟨Bb, 2, none⟩ (.slice ya' yn' yc')).setCell ⟨Bb, 3, none⟩ (.int .i64 yl) = x := ⟨_, rfl⟩
        rw [hw2]
        replace Hx := Lib.hid (show VarB w33 Bx (bP al2) by rw [← hw2]; exact Hx.out.other Hb.out HNxb.out)
        replace Hb := Lib.hid (show VarB w33 Bb (bP al2) by rw [← hw2]; exact Hb.out.set HV1.out)
        replace HB := Lib.hid (show Below w.heap.size w w33 by rw [← hw2]; exact set4_below HB.out HLb.out (.slice ya yn yc) (.int .i64 yq) (.slice ya' yn' yc') (.int .i64 yl))
        clear hw2 a0 a1 a2 a3 f0 f1 f2 f3 HV1
        clear x0 x1 x2 x3
        obtain ⟨xa, xn, xc, xq, xa', xn', xc', xl, hA, hV⟩ := Hb.out.is
        have C0 := Offset_t _ (bP al2) 1 w33 aD aS aZ hV (HE.out.keep HB.out)
        rw [HOE.out] at C0
        have C := Lib.hid C0
        clear C0
        obtain ⟨a0, a1, a2, a3⟩ := hA.cells
        clear hA hV
        go_wp2_with fail
        refine C.out.mono ?_
        rintro e w34 ⟨rfl, hb1⟩
        replace HB := Lib.hid (Below.then HB.out hb1)
        replace Hb := Lib.hid (Hb.out.keep hb1)
        replace Hx := Lib.hid (Hx.out.keep hb1)
        clear C hb1 a0 a1 a2 a3
        have q6 : ((al2.size : Int) != (al2.size : Int)) = false := bne_self_eq_false _
        go_wp2_with fail
        go_roundw
        case rel => first | exact ⟨k + 1, al2, by omega, by go_num, rfl, HSZ2.out, Hb.out, HB.out⟩ | exact ⟨_, _, ⟨k + 1, al2, by omega, by go_num, rfl, HSZ2.out, Hb.out, HB.out⟩, rfl⟩ | exact ⟨_, _, _, ⟨k + 1, al2, by omega, by go_num, rfl, HSZ2.out, Hb.out, HB.out⟩, rfl⟩ | exact ⟨_, _, _, _, ⟨k + 1, al2, by omega, by go_num, rfl, HSZ2.out, Hb.out, HB.out⟩, rfl⟩
        case measure => simp [intOf]; omega
    ·
      have h96 : all.size ≤ 4096 := by have := HSZ.out; omega
      have OFW := Lib.hid (of_any all wr (HE.out.keep HB.out).tabs (by omega))
      have HSE := Lib.hid (pSize h96 (ofB all))
      have HEE := Lib.hid (pEnd h96)
      have HRE := Lib.hid (eRight h96)
      have HRD := Lib.hid (fun k => eRead h96 ch k)
      have hofs : (ofB all).size = 71 := ofB_size _
      obtain ⟨dg, hdg⟩ : ∃ d, ofB all = d := ⟨_, rfl⟩
      rw [hdg] at OFW HSE HEE HRD hofs
      clear hdg
      go_wp2_with fail
      refine OFW.out.mono ?_
      rintro e wq ⟨rfl, hbq⟩
      replace HB := Lib.hid (Below.then HB.out hbq)
      replace Hb := Lib.hid (Hb.out.keep hbq)
      clear hbq OFW
      obtain ⟨xa, xn, xc, xq, xa', xn', xc', xl, hA, hV⟩ := Hb.out.is
      have C0 := Size_t _ (bP all) dg wq aD aS aZ hV (HE.out.keep HB.out)
      rw [HSE.out] at C0
      have C := Lib.hid C0
      clear C0
      obtain ⟨a0, a1, a2, a3⟩ := hA.cells
      clear hA hV
      go_wp2_with fail
      refine C.out.mono ?_
      rintro e w61 ⟨rfl, hb1⟩
      replace HB := Lib.hid (Below.then HB.out hb1)
      replace Hb := Lib.hid (Hb.out.keep hb1)
      clear C hb1 a0 a1 a2 a3
      obtain ⟨xa, xn, xc, xq, xa', xn', xc', xl, hA, hV⟩ := Hb.out.is
      have C0 := End_t _ (bP all) 1 dg w61 aD aS aZ hV (HE.out.keep HB.out) (by omega)
      rw [HEE.out] at C0
      have C := Lib.hid C0
      clear C0
      obtain ⟨a0, a1, a2, a3⟩ := hA.cells
      clear hA hV
      go_wp2_with fail
      refine C.out.mono ?_
      rintro e w62 ⟨v1, rfl, hv1, hb1⟩
      obtain ⟨ya, yn, yc, yq, ya', yn', yc', yl, rfl⟩ := hv1.four
      have HV1 := Lib.hid hv1
      replace HB := Lib.hid (Below.then HB.out hb1)
      replace Hb := Lib.hid (Hb.out.keep hb1)
      clear C hb1 a0 a1 a2 a3 hv1
      obtain ⟨za, zn, zc, zq, za', zn', zc', zl, hA, hV⟩ := Hb.out.is
      obtain ⟨a0, a1, a2, a3⟩ := hA.cells
      obtain ⟨f0, f1, f2, f3⟩ := hA.free
      clear hA hV
      go_upto_region 25 with fail
      obtain ⟨w63, hw2⟩ : ∃ x, (((w62.setCell ⟨Bb, 0, none⟩ (.slice ya yn yc)).setCell ⟨Bb, 1, none⟩ (.int .i64 yq)).setCell ⟨Bb, 2, none⟩ (.slice ya' yn' yc')).setCell ⟨Bb, 3, none⟩ (.int .i64 yl) = x := ⟨_, rfl⟩
      rw [hw2]
      replace Hb := Lib.hid (show VarB w63 Bb (bE all) by rw [← hw2]; exact Hb.out.set HV1.out)
      replace HB := Lib.hid (show Below w.heap.size w w63 by rw [← hw2]; exact set4_below HB.out HLb.out (.slice ya yn yc) (.int .i64 yq) (.slice ya' yn' yc') (.int .i64 yl))
      clear hw2 a0 a1 a2 a3 f0 f1 f2 f3 HV1
      have AL := Lib.hid (alive_b w63 aD aS aZ (HE.out.keep HB.out))
      go_wp2_with fail
      refine AL.out.mono ?_
      rintro e wt ⟨rfl, hbt⟩
      replace HB := Lib.hid (Below.then HB.out hbt)
      replace Hb := Lib.hid (Hb.out.keep hbt)
      clear hbt AL
      obtain ⟨R, hR⟩ : ∃ R, all.size / ch = R := ⟨_, rfl⟩
      have hR4 : R ≤ 4096 := by rw [← hR]; exact Nat.le_trans (Nat.div_le_self _ _) h96
      have q7 : (all.size : Int).tdiv (ch : Int) = (R : Int) := by rw [← hR]; rfl
      have q8 : (all.size : Int) / (ch : Int) = (R : Int) := by rw [← hR]; rfl
      have q9 : ¬ (ch : Int) = 0 := by omega
      have q10 : ¬ ch = 0 := by omega
      have HGA := Lib.hid (show gotL all ch (R + 1) = all by rw [← hR]; exact gotL_all all ch hch1)
      have HGN := Lib.hid (fun k => gotL_next all ch k)
      have HGS := Lib.hid (fun k => gotL_size all ch k)
      have HPS := Lib.hid (fun k => partL_size all ch k)
      clear hR
      go_wp2_with fail
      have HB0 := Lib.hid HB.out
      go_loopw [24, 153] (fun gv iv wr => ∃ k : Nat, k ≤ R + 1 ∧ iv = .int .i64 k ∧ gv = .string (gotL all ch k) ∧ VarB wr Bb (bE all) ∧ Below w.heap.size w wr) (fun _ i _ => R + 1 - (intOf i).toNat)
      case atStart => exact ⟨0, Nat.zero_le _, rfl, by rw [show gotL all ch 0 = ⟨#[]⟩ from gotL_zero all ch], Hb.out, HB0.out⟩
      case round =>
        obtain ⟨k, hk, rfl, rfl, hvb, hbr⟩ := hrel
        have Hb := Lib.hid hvb
        have HB := Lib.hid hbr
        clear hvb hbr
        by_cases hlt : k < R + 1
        · obtain ⟨g, hg⟩ : ∃ g, gotL all ch k = g := ⟨_, rfl⟩
          obtain ⟨pt, hpt⟩ : ∃ g, partL all ch k = g := ⟨_, rfl⟩
          have hgs : g.size = min (k * ch) all.size := by rw [← hg]; exact HGS.out k
          have HRK := Lib.hid (show readB (bE all) dg ((g.size : Nat) : Int) (ch : Int) = (pt, 0) by rw [hgs, ← hpt]; exact HRD.out k)
          have hps : pt.size ≤ ch := by rw [← hpt]; exact HPS.out k
          have HNX := Lib.hid (show g ++ pt = gotL all ch (k + 1) by rw [← hg, ← hpt]; exact HGN.out k)
          have hg4 : g.size ≤ 4096 := by rw [hgs]; omega
          clear hgs hpt
          rw [hg]
          clear hg
          obtain ⟨xa, xn, xc, xq, xa', xn', xc', xl, hA, hV⟩ := Hb.out.is
          have C0 := Read_t _ (bE all) dg ((g.size : Nat) : Int) (ch : Int) wr aD aS aZ hV (HE.out.keep HB.out) (by omega)
          rw [HRK.out] at C0
          have C := Lib.hid C0
          clear C0
          obtain ⟨a0, a1, a2, a3⟩ := hA.cells
          clear hA hV
          go_wp2_with fail
          refine C.out.mono ?_
          rintro e w91 ⟨rfl, hb1⟩
          replace HB := Lib.hid (Below.then HB.out hb1)
          replace Hb := Lib.hid (Hb.out.keep hb1)
          clear C hb1 a0 a1 a2 a3
          have q11 : ¬ (ch : Int) < (pt.size : Int) := by omega
          go_wp2_with fail
          rw [HNX.out]
          go_roundw
          case rel => exact ⟨k + 1, by omega, by go_num, rfl, Hb.out, HB.out⟩
          case measure => simp [intOf]; omega
        · have HGK := Lib.hid (show gotL all ch k = all by rw [show k = R + 1 by omega]; exact HGA.out)
          rw [HGK.out]
          have hri : rightBlb (bE all) = true := (right_iff _).2 HRE.out
          have q12 : (all.toList == all.toList) = true := by rw [beqB]; exact decide_eq_true rfl
          obtain ⟨xa, xn, xc, xq, xa', xn', xc', xl, hA, hV⟩ := Hb.out.is
          have C0 := BRight_t _ (bE all) wr aD aS aZ hV (HE.out.keep HB.out)
          rw [hri] at C0
          have C := Lib.hid C0
          obtain ⟨a0, a1, a2, a3⟩ := hA.cells
          clear C0 hA hV hri
          go_wp2_with fail
          refine C.out.mono ?_
          rintro e wz ⟨rfl, hbz⟩
          replace HB := Lib.hid (Below.then HB.out hbz)
          go_wp2_with fail
          go_ret
          exact ⟨rfl, HB.out⟩
end Go.Proofs.YtodjhmphneoifaaDoor
