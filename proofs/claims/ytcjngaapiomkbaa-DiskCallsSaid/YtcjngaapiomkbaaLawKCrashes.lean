/-
  The law DiskCrashes, walked: it returns true at every disk, writes and fates. Conditions: none.
-/
import Derived.Test.YtcjngaapiomkbaaLawKRow
import Derived.Test.YtcjngaapiomkbaaRefDskK
import Derived.Deep.RegionHeld3
import Derived.Deep.RegionHeldLaw
import Derived.Deep.AppendLies
namespace Go.Proofs.Ytcjngaapiomkbaa
open Go.RowKit Go.WideShapes

/-- What stands when k writes were saved, one by one. -/
structure CInv (w0 : World) (B bN n : Nat) (xa : Option Addr) (xc : Nat) (ss : List ByteArray) (ws : List (Int × ByteArray)) (wv : Value) (fs : List Int) (fv : Value) (k : Nat) (w : World) : Prop where
  now : DskIn w bN (crD ss n ws k)
  box : At2 25 w B (.slice xa n xc) nilV
  dsk : DskAt w (.agg #[.slice xa n xc, nilV]) ⟨ss, []⟩
  wrs : PairsAt w wv (ws.map writeCell)
  fts : IntsAt w fv fs
  below : Below w0.heap.size w0 w
theorem CInv.keep {w0 : World} {B bN n : Nat} {xa : Option Addr} {xc : Nat} {ss : List ByteArray} {ws : List (Int × ByteArray)} {wv : Value} {fs : List Int} {fv : Value} {k : Nat} {w w' : World} (h : CInv w0 B bN n xa xc ss ws wv fs fv k w) (hb : Below w.heap.size w w') : CInv w0 B bN n xa xc ss ws wv fs fv k w' :=
  ⟨h.now.keep hb, h.box.keep hb, h.dsk.keep hb, h.wrs.keep hb, h.fts.keep hb, Below.then h.below hb⟩
theorem At2.beside {w w' : World} {R g cap k B : Nat} {a b : Value} (h1 : At2 25 w B a b) (hg : w.grownBy w' (some g)) (hr : RowI w R g cap k) : At2 25 w' B a b := by
  have hne := hr.ne h1
  unfold At2 at h1 ⊢
  rw [hg.block B (Array.getElem?_eq_some_iff.1 h1).1 (fun e => hne (Option.some.inj e).symm)]
  exact h1
theorem cell_new1 (w : World) (v : Value) (t : TypeId) : (w.alloc (.cells #[v] t)).cell? ⟨w.heap.size, 0, none⟩ = some v := by
  rw [cell_of_row _ _ 0 _ _ _ (heap_alloc_new w _)]; rfl
theorem below_then {R : Nat} {a w w' : World} (h : Below R a w) (hb : Below w.heap.size w w') (hR : R ≤ w.heap.size) : Below R a w' :=
  ⟨hb.os.trans h.os, hb.tape.trans h.tape, hb.output.trans h.output, Nat.le_trans h.size hb.size, fun k hk => (hb.block k (Nat.lt_of_lt_of_le hk hR)).trans (h.block k hk)⟩
theorem all_a {w2 wc P w' : World} {R g cap k B b11 : Nat} {p q x y : Value} {d : Dsk} (hP : Below wc.heap.size wc P) (hg : P.grownBy w' (some g)) (hr : RowI wc R g cap k) (hN : At2 25 wc B p q) (hX : At2 25 wc b11 x y) (hD : DskAt wc (.agg #[x, y]) d) (hb : Below R w2 wc) (hR : R ≤ wc.heap.size) :
    At2 25 w' B p q ∧ At2 25 w' b11 x y ∧ DskAt w' (.agg #[x, y]) d ∧ Below R w2 w' := by
  have hr' := hr.keep hP
  exact ⟨(hN.keep hP).beside hg hr', (hX.keep hP).beside hg hr', (hD.keep hP).beside hg hr'.ints, grown_below (below_then hb hP hR) hg hr.ge (Nat.le_trans hR hP.size)⟩
theorem all_b {w2 P w' : World} {R g cap k B : Nat} {d : Dsk} (hg : P.grownBy w' (some g)) (hr : RowI P R g cap k) (hN : DskIn P B d) (hb : Below R w2 P) (hR : R ≤ P.heap.size) : DskIn w' B d ∧ Below R w2 w' :=
  ⟨hN.beside hg hr, grown_below hb hg hr.ge hR⟩
def OutN (d : Dsk) (n : Nat) (w : World) (e : Ending) (w' : World) : Prop := ∃ a c a' c', e = .returned (.tuple #[.agg #[.slice a n c, .slice a' 0 c'], .int .i64 0]) ∧ DskAt w' (.agg #[.slice a n c, .slice a' 0 c']) d ∧ Below w.heap.size w w'
theorem out_n {d : Dsk} {n : Nat} (hl : d.secs.length = n ∧ d.dirty.length = 0) {w : World} {e : Ending} {w' : World} (h : DskOut (d, 0) w e w') : OutN d n w e w' := by
  obtain ⟨v, rfl, hv, hb⟩ := h
  obtain ⟨a, c, a', c', rfl, -, -⟩ := hv.shape
  rw [hl.1, hl.2] at hv ⊢
  exact ⟨a, c, a', c', rfl, hv, hb⟩
theorem all_kept (ss : List ByteArray) (n : Nat) (ws : List (Int × ByteArray)) (k : Nat) : clean n (fun i => (crD ss n ws k).left i (List.replicate k 1)) = clean n (crD ss n ws k).stands := by
  congr 1
  funext i
  exact left_kept i (cwL n ws k) (ss.getD i ⟨#[]⟩) k (by rw [cwL_length]; exact Nat.le_refl _)
theorem all_lost (ss : List ByteArray) (n : Nat) (hn : ss.length = n) (ws : List (Int × ByteArray)) (k : Nat) : clean n (fun i => (crD ss n ws k).left i []) = ⟨ss, []⟩ := by
  rw [show (fun i => (crD ss n ws k).left i []) = fun i => ss.getD i ⟨#[]⟩ from funext fun i => left_none i _ _]
  exact clean_back ss n hn
theorem rows_some {w : World} {x : Option Addr} {n c : Nat} {v1 : Value} {d : Dsk} (h : DskAt w (.agg #[.slice x n c, v1]) d) (h0 : 0 < d.secs.length) : ∃ b o, x = some ⟨b, o, none⟩ := by
  obtain ⟨⟨sv, dv, e, g1, -⟩, -, -⟩ := h
  simp only [Value.agg.injEq, Array.mk.injEq, List.cons.injEq, and_true] at e
  obtain ⟨rfl, rfl⟩ := e
  obtain ⟨b, o, cap, e, -⟩ := g1.rows h0
  simp only [Value.slice.injEq] at e
  exact ⟨b, o, e.1⟩
theorem rows_at {w : World} {b o n c : Nat} {v1 : Value} {d : Dsk} (h : DskAt w (.agg #[.slice (some ⟨b, o, none⟩) n c, v1]) d) (i : Nat) (hi : i < d.secs.length) : w.cell? ⟨b, o + i, none⟩ = some (.string d.secs[i]) := by
  obtain ⟨⟨sv, dv, e, g1, -⟩, -, -⟩ := h
  simp only [Value.agg.injEq, Array.mk.injEq, List.cons.injEq, and_true] at e
  obtain ⟨rfl, rfl⟩ := e
  obtain ⟨b', o', cap, e, -, -, -, h4⟩ := g1.rows (by omega)
  simp only [Value.slice.injEq, Option.some.injEq, Addr.mk.injEq, and_true] at e
  obtain ⟨⟨rfl, rfl⟩, -, -⟩ := e
  exact h4 i hi
theorem dirty_at {w : World} {x : Option Addr} {m c : Nat} {v0 : Value} {d : Dsk} (h : DskAt w (.agg #[v0, .slice x m c]) d) (j : Nat) (hj : j < d.dirty.length) : ∃ b o, x = some ⟨b, o, none⟩ ∧ w.cell? ⟨b, o + j * 2, none⟩ = some (.int .i64 d.dirty[j].1) ∧ w.cell? ⟨b, o + j * 2 + 1, none⟩ = some (.string d.dirty[j].2) := by
  obtain ⟨⟨sv, dv, e, -, g1⟩, -, -⟩ := h
  simp only [Value.agg.injEq, Array.mk.injEq, List.cons.injEq, and_true] at e
  obtain ⟨rfl, rfl⟩ := e
  obtain ⟨b, o, rfl, h1, h2⟩ := g1.at j (by rw [List.length_map]; exact hj)
  rw [write_getElem d.dirty j hj] at h1 h2
  exact ⟨b, o, rfl, h1, h2⟩
theorem sectorK_t (k : Nat) (hk : k < 256) (w : World) : Calls Try.prog 14 #[.int .u8 (k : Int)] w fun e w' => e = .returned (.string (secB (UInt8.ofNat k))) ∧ Below w.heap.size w w' := by
  have := sector_t (UInt8.ofNat k) w
  rw [UInt8.toNat_ofNat_of_lt' hk] at this
  exact this

theorem cell_set2 {w : World} {g b j : Nat} (h : b ≠ g) (u v : Value) : ((w.setCell ⟨g, 0, none⟩ u).setCell ⟨g, 1, none⟩ v).cell? ⟨b, j, none⟩ = w.cell? ⟨b, j, none⟩ := by
  rw [World.cell?_of_block (Below.heap_setCell _ _ _ _ h), World.cell?_of_block (Below.heap_setCell _ _ _ _ h)]

set_option maxRecDepth 100000 in
set_option maxHeartbeats 8000000 in
theorem crashes_any (v wv fv : Value) (d0 : Dsk) (ws : List (Int × ByteArray)) (fs : List Int) (w : World) (h : DskAt w v d0) (hl : PairsAt w wv (ws.map writeCell)) (hf : IntsAt w fv fs) :
    Calls Try.prog 4 #[v, wv, fv] w fun e w' => e = .returned (.bool true) ∧ Below w.heap.size w w' := by
  have AL := Lib.hid alive_t
  have SA := Lib.hid sectorK_t
  have HL0 := Lib.hid hl
  have HF0 := Lib.hid hf
  obtain ⟨fa, fc, rfl, -, hfm⟩ := hf.shape
  obtain ⟨la, lc, rfl, -, hlm⟩ := hl.shape
  unfold maxLen at hfm hlm
  rw [List.length_map] at HL0 hlm ⊢
  obtain ⟨nf, hnf⟩ : ∃ k, fs.length = k := ⟨_, rfl⟩
  obtain ⟨nl, hnl⟩ : ∃ k, ws.length = k := ⟨_, rfl⟩
  rw [hnf] at HF0 hfm ⊢
  rw [hnl] at HL0 hlm ⊢
  have HNL := Lib.hid (And.intro hnl hnf)
  clear hl hf hnl hnf
  obtain ⟨va, vc, va', vc', rfl, -, -⟩ := h.shape
  obtain ⟨n0, hn0⟩ : ∃ k, d0.secs.length = k := ⟨_, rfl⟩
  obtain ⟨m0, hm0⟩ : ∃ k, d0.dirty.length = k := ⟨_, rfl⟩
  rw [hn0, hm0] at h ⊢
  obtain ⟨W, hW⟩ : ∃ W, w.alloc (.cells #[.slice va n0 vc, .slice va' m0 vc'] 25) = W := ⟨_, rfl⟩
  have hB0 : Below w.heap.size w W := by rw [← hW]; exact below_new _ _
  have FW := Lib.hid (few_t _ d0 W (h.keep hB0))
  have HA0 := Lib.hid (show At2 25 W w.heap.size (.slice va n0 vc) (.slice va' m0 vc') by rw [← hW]; exact At2.new _ _ _ _)
  have HNS0 := Lib.hid (show NS w W from Below.ns hB0)
  have HB0 := Lib.hid hB0
  have HW := Lib.hid hW
  obtain ⟨d, hd⟩ : ∃ d, fewD d0 = d := ⟨_, rfl⟩
  rw [hd] at FW
  obtain ⟨ss, hss⟩ : ∃ k, d.secs = k := ⟨_, rfl⟩
  obtain ⟨n, hn⟩ : ∃ k, ss.length = k := ⟨_, rfl⟩
  obtain ⟨m, hm⟩ : ∃ k, d.dirty.length = k := ⟨_, rfl⟩
  have HN := Lib.hid (And.intro hn (And.intro (show d.secs.length = n by rw [hss]; exact hn) (And.intro hm hss)))
  obtain ⟨B, hBe⟩ : ∃ B, w.heap.size = B := ⟨_, rfl⟩
  have HBe := Lib.hid hBe
  clear hW hB0 h hd hn0 hm0 hn hm hBe hss
  go_enter Try.func4, Try.ntmps4
  go_upto_region 1 with fail
  rw [HW.out]
  rw [HBe.out] at HA0 ⊢
  obtain ⟨a0, a1⟩ := HA0.out.cells
  go_wp2_with fail
  refine FW.out.mono ?_
  rintro e w1 ⟨v1, rfl, hd1, hb1⟩
  obtain ⟨xa, xc, xa', xc', rfl, -, -⟩ := hd1.shape
  rw [HN.out.2.1, HN.out.2.2.1] at hd1 ⊢
  have hA1 := HA0.out.keep hb1
  obtain ⟨W2, hW2⟩ : ∃ W2, (w1.setCell ⟨B, 0, none⟩ (.slice xa n xc)).setCell ⟨B, 1, none⟩ (.slice xa' m xc') = W2 := ⟨_, rfl⟩
  have hns := set2_ns hA1 (isSl_mk _ _ _) (isSl_mk _ _ _) (.slice xa n xc) (.slice xa' m xc')
  have HA2 := Lib.hid (show At2 25 W2 B (.slice xa n xc) (.slice xa' m xc') by rw [← hW2]; exact hA1.set _ _)
  have HNS2 := Lib.hid (show NS w W2 by rw [← hW2]; exact (HNS0.out.then (Below.ns hb1)).then hns)
  have HD2 := Lib.hid (show DskAt W2 (.agg #[.slice xa n xc, .slice xa' m xc']) d by rw [← hW2]; exact hd1.ns hns)
  have HB2 := Lib.hid (show Below w.heap.size w W2 by rw [← hW2]; exact set2_below (Below.then HB0.out hb1) (by rw [HBe.out]; exact Nat.le_refl _) _ _)
  have HW2 := Lib.hid hW2
  obtain ⟨b0, b1⟩ := hA1.cells
  obtain ⟨f0, f1⟩ := hA1.free
  clear hW2 hns hA1 hd1 hb1 a0 a1 FW HA0 HNS0 HW
  go_upto_region 2 with fail
  rw [HW2.out]
  clear b0 b1 f0 f1
  obtain ⟨a0, a1⟩ := HA2.out.cells
  obtain ⟨f0, f1⟩ := HA2.out.free
  obtain ⟨W3, hW3⟩ : ∃ W3, W2.setCell ⟨B, 1, none⟩ (.slice none 0 0) = W3 := ⟨_, rfl⟩
  have hns := At2.set1_ns HA2.out (isSl_mk _ _ _) (isSl_mk _ _ _) nilV
  rw [hW3] at hns
  have HA := Lib.hid (show At2 25 W3 B (.slice xa n xc) nilV by rw [← hW3]; exact HA2.out.set1 _)
  have HNS := Lib.hid (HNS2.out.then hns)
  have HD := Lib.hid (show DskAt W3 (.agg #[.slice xa n xc, nilV]) ⟨ss, []⟩ by
    obtain ⟨⟨sv, dv, e, g1, -⟩, g2, -⟩ := HD2.out
    simp only [Value.agg.injEq, Array.mk.injEq, List.cons.injEq, and_true] at e
    obtain ⟨rfl, rfl⟩ := e
    exact ⟨⟨_, _, rfl, by rw [← HN.out.2.2.2]; exact g1.ns hns, Or.inl ⟨rfl, Or.inl rfl⟩⟩, by rw [← HN.out.2.2.2]; exact g2, fun l hl => by cases hl⟩)
  have HB := Lib.hid (show Below w.heap.size w W3 by rw [← hW3]; exact HB2.out.setCell (p := ⟨B, 1, none⟩) (by show w.heap.size ≤ B; rw [HBe.out]; exact Nat.le_refl _) _)
  have HW3 := Lib.hid hW3
  clear hW3 hns HD2 HNS2 HB2
  go_upto_region 3 with fail
  rw [HW3.out]
  clear a0 a1 f0 f1
  have RR := Lib.hid (refRight_t _ ⟨ss, []⟩ W3 HD.out)
  obtain ⟨r, hr⟩ : ∃ r, Dsk.right ⟨ss, []⟩ = r := ⟨_, rfl⟩
  rw [hr] at RR
  have HR := Lib.hid hr
  clear hr HA2 HW2 HW3
  obtain ⟨a0, a1⟩ := HA.out.cells
  go_wp2_with fail
  refine RR.out.mono ?_
  rintro e w2 ⟨rfl, hb2⟩
  have HB2 := Lib.hid (Below.then HB.out hb2)
  have HA2 := Lib.hid (HA.out.keep hb2)
  have HD2 := Lib.hid (HD.out.keep hb2)
  have HNS2 := Lib.hid (HNS.out.then (Below.ns hb2))
  have AL2 := Lib.hid (AL.out w2)
  clear hb2 a0 a1 RR HB HA HD HNS
  cases r with
  | false =>
    go_wp2_with fail
    refine AL2.out.mono ?_
    rintro e w3 ⟨rfl, hb3⟩
    have HB3 := Lib.hid (Below.then HB2.out hb3)
    clear hb3
    go_wp2_with fail
    go_ret
    exact ⟨rfl, HB3.out⟩
  | true =>
  have HRI := Lib.hid ((right_iff ⟨ss, []⟩).1 HR.out)
  have hnn : 4 ≤ n ∧ n ≤ 64 := by rw [← HN.out.1]; exact ⟨HRI.out.least, HRI.out.most⟩
  obtain ⟨a0, a1⟩ := HA2.out.cells
  obtain ⟨W5, hW5⟩ : ∃ W5, w2.alloc (.cells #[] 3) = W5 := ⟨_, rfl⟩
  have hb5 : Below w2.heap.size w2 W5 := by rw [← hW5]; exact below_new _ _
  have HB5 := Lib.hid (Below.then HB2.out hb5)
  have HA5 := Lib.hid (HA2.out.keep hb5)
  have HD5 := Lib.hid (HD2.out.keep hb5)
  have HNS5 := Lib.hid (HNS2.out.then (Below.ns hb5))
  obtain ⟨bN, hbN2⟩ : ∃ b, w2.heap.size + 1 = b := ⟨_, rfl⟩
  have hbN : W5.heap.size = bN := by rw [← hbN2, ← hW5, World.size_alloc]
  obtain ⟨W6, hW6⟩ : ∃ W, W5.alloc (.cells #[.slice xa n xc, .slice none 0 0] 25) = W := ⟨_, rfl⟩
  have hb6 : Below W5.heap.size W5 W6 := by rw [← hW6]; exact below_new _ _
  have hBb : B ≠ bN := by have := HA5.out.lt; omega
  have hWb : w.heap.size ≤ bN := by have := HB5.out.size; omega
  have HBN := Lib.hid hbN2
  have hrow0 : RowI W6 w2.heap.size w2.heap.size 0 0 := by
    have h0 : RowI W5 w2.heap.size w2.heap.size 0 0 := by rw [← hW5]; exact RowI.made w2
    exact h0.keep hb6
  have HBL := Lib.hid (show Below w2.heap.size w2 W6 from below_then hb5 hb6 hb5.size)
  have HI0 := Lib.hid (show CInv w B bN n xa xc ss ws (.slice la nl lc) fs (.slice fa nf fc) 0 W6 from
    ⟨by rw [← hW6, ← hbN]; exact DskIn.new HD5.out, HA5.out.keep hb6, HD5.out.keep hb6, (WritesAt.ns HL0.out HNS5.out).keep hb6, (HF0.out.ns HNS5.out).keep hb6, Below.then HB5.out hb6⟩)
  have HROW0 := Lib.hid hrow0
  have HW5 := Lib.hid hW5
  have HW6 := Lib.hid hW6
  have hw2b : w2.heap.size ≤ bN := by have := hb5.size; omega
  obtain ⟨R0, hR0⟩ : ∃ r, w2.heap.size = r := ⟨_, rfl⟩
  have hRw : w.heap.size ≤ R0 := by have := HB2.out.size; omega
  have HBB6 := Lib.hid (show R0 ≤ W6.heap.size by have := hb5.size; have := hb6.size; omega)
  rw [hR0] at HROW0 HBL
  have HR0 := Lib.hid hR0
  have CK := Lib.hid (show ∀ k w', DskIn w' bN (crD ss n ws k) → Below R0 w2 w' → CInv w B bN n xa xc ss ws (.slice la nl lc) fs (.slice fa nf fc) k w' from fun k w' h1 h2 => by
    rw [← hR0] at h2
    exact ⟨h1, HA2.out.keep h2, HD2.out.keep h2, (WritesAt.ns HL0.out HNS2.out).keep h2, (HF0.out.ns HNS2.out).keep h2, Below.then HB2.out h2⟩)
  clear hW5 hW6 hb5 hb6 hrow0 HA2 HD2 HNS2 HB2 hbN hbN2 hw2b hR0
  go_upto_region 6 with fail
  rw [HW5.out, HW6.out, HBN.out, HR0.out]
  clear a0 a1
  go_wp2_with fail
  go_loopw [8, 38] (fun av iv wr => ∃ k g cap : Nat, k ≤ nl ∧ k ≤ 30 ∧ iv = .int .i64 k ∧ av = .slice (some ⟨g, 0, none⟩) k cap ∧ RowI wr R0 g cap k ∧ CInv w B bN n xa xc ss ws (.slice la nl lc) fs (.slice fa nf fc) k wr ∧ Below R0 w2 wr ∧ R0 ≤ wr.heap.size) (fun _ i _ => nl - (intOf i).toNat)
  case atStart => exact ⟨0, R0, 0, Nat.zero_le _, Nat.zero_le _, rfl, rfl, HROW0.out, HI0.out, HBL.out, HBB6.out⟩
  case round =>
    obtain ⟨k, g, cap, hk, hk30, rfl, rfl, hown, hinv, hbl, hR⟩ := hrel
    have HO := Lib.hid hown
    have HI := Lib.hid hinv
    have HBR := Lib.hid hbl
    clear hown hinv hbl
    by_cases hlt : k < nl
    rotate_left
    · obtain ⟨na, nc, na', nc', hNow, hDNow⟩ := DskIn.at HI.out.now (show (crD ss n ws k).secs.length = n from HN.out.1) (crD_dirty ss n ws k)
      have HRK := Lib.hid (crD_right (ws := ws) HRI.out HN.out.1 k (by omega))
      have hxc : ¬ ((k : Int) < (nl : Int)) := by omega
      obtain ⟨dB, hdB⟩ : ∃ d, clean n (crD ss n ws k).stands = d := ⟨_, rfl⟩
      obtain ⟨dK, hdK⟩ : ∃ d, clean n (fun i => (crD ss n ws k).left i fs) = d := ⟨_, rfl⟩
      have hlB : dB.secs.length = n ∧ dB.dirty.length = 0 := by rw [← hdB]; exact ⟨clean_length _ _, rfl⟩
      have hlK : dK.secs.length = n ∧ dK.dirty.length = 0 := by rw [← hdK]; exact ⟨clean_length _ _, rfl⟩
      have CA := Lib.hid (show ∀ w', Below wr.heap.size wr w' → Calls Try.prog 12 #[.agg #[.slice na n nc, .slice na' k nc'], .slice (some ⟨g, 0, none⟩) k cap] w' (OutN dB n w') from fun w' hb => by
        have := Crash_t _ _ (crD ss n ws k) (List.replicate k 1) w' (hDNow.keep hb) (HO.out.keep hb).intsAt
        rw [crashD_ok HRK.out, show (crD ss n ws k).secs.length = n from HN.out.1, all_kept, hdB] at this
        exact this.mono fun e w'' h => out_n hlB h)
      have CB := Lib.hid (show ∀ w', Below wr.heap.size wr w' → Calls Try.prog 11 #[.agg #[.slice na n nc, .slice na' k nc']] w' (OutN dB n w') from fun w' hb => by
        have := Flush_t _ (crD ss n ws k) w' (hDNow.keep hb)
        rw [flushD_ok HRK.out, show (crD ss n ws k).secs.length = n from HN.out.1, hdB] at this
        exact this.mono fun e w'' h => out_n hlB h)
      have CC := Lib.hid (show ∀ w', Below wr.heap.size wr w' → Calls Try.prog 12 #[.agg #[.slice na n nc, .slice na' k nc'], .slice none 0 0] w' (OutN ⟨ss, []⟩ n w') from fun w' hb => by
        have := Crash_t _ _ (crD ss n ws k) [] w' (hDNow.keep hb) (Or.inl ⟨rfl, Or.inl rfl⟩)
        rw [crashD_ok HRK.out, show (crD ss n ws k).secs.length = n from HN.out.1, all_lost ss n HN.out.1] at this
        exact this.mono fun e w'' h => out_n ⟨HN.out.1, rfl⟩ h)
      have CD := Lib.hid (show ∀ w', Below wr.heap.size wr w' → Calls Try.prog 12 #[.agg #[.slice na n nc, .slice na' k nc'], .slice fa nf fc] w' (OutN dK n w') from fun w' hb => by
        have := Crash_t _ _ (crD ss n ws k) fs w' (hDNow.keep hb) (HI.out.fts.keep hb)
        rw [crashD_ok HRK.out, show (crD ss n ws k).secs.length = n from HN.out.1, hdK] at this
        exact this.mono fun e w'' h => out_n hlK h)
      have HNow := Lib.hid hNow
      have HDNow := Lib.hid hDNow
      have HbQ0 := Lib.hid (Below.refl wr.heap.size wr)
      have HDK := Lib.hid hdK
      obtain ⟨a0, a1⟩ := hNow.cells
      clear hNow hDNow hlB hdB hlK hdK
      go_upto_region 15 with fail
      
      go_wp2_with fail
      refine (CA.out _ HbQ0.out).mono ?_
      rintro e q1 ⟨x1, c1, y1, z1, rfl, hd1, hb1⟩
      obtain ⟨X1, hx1⟩ : ∃ b, q1.heap.size = b := ⟨_, rfl⟩
      obtain ⟨Q1, hQ1⟩ : ∃ W, q1.alloc (.cells #[.slice x1 n c1, .slice y1 0 z1] 25) = W := ⟨_, rfl⟩
      have hq1 : Below q1.heap.size q1 Q1 := by rw [← hQ1]; exact below_new _ _
      have HS1 := Lib.hid (Below.then hb1 hq1)
      have HbQ1 := Lib.hid (show Below wr.heap.size wr Q1 from Below.then HbQ0.out HS1.out)
      have HX1 := Lib.hid (show At2 25 Q1 X1 (.slice x1 n c1) (.slice y1 0 z1) by rw [← hQ1, ← hx1]; exact At2.new _ _ _ _)
      have HDX1 := Lib.hid (hd1.keep hq1)
      have HQ1 := Lib.hid hQ1
      clear a0 a1
      obtain ⟨a0, a1⟩ := (HNow.out.keep HbQ1.out).cells
      clear hQ1 hq1 hb1 hd1 CA
      go_upto_region 16 with fail
      rw [HQ1.out]
      clear hx1
      go_wp2_with fail
      refine (CB.out _ HbQ1.out).mono ?_
      rintro e q2 ⟨x2, c2, y2, z2, rfl, hd2, hb2⟩
      obtain ⟨X2, hx2⟩ : ∃ b, q2.heap.size = b := ⟨_, rfl⟩
      obtain ⟨Q2, hQ2⟩ : ∃ W, q2.alloc (.cells #[.slice x2 n c2, .slice y2 0 z2] 25) = W := ⟨_, rfl⟩
      have hq2 : Below q2.heap.size q2 Q2 := by rw [← hQ2]; exact below_new _ _
      have HS2 := Lib.hid (Below.then hb2 hq2)
      have HbQ2 := Lib.hid (show Below wr.heap.size wr Q2 from Below.then HbQ1.out HS2.out)
      have HX2 := Lib.hid (show At2 25 Q2 X2 (.slice x2 n c2) (.slice y2 0 z2) by rw [← hQ2, ← hx2]; exact At2.new _ _ _ _)
      have HDX2 := Lib.hid (hd2.keep hq2)
      have HQ2 := Lib.hid hQ2
      clear a0 a1
      obtain ⟨a0, a1⟩ := (HNow.out.keep HbQ2.out).cells
      clear hQ2 hq2 hb2 hd2 CB
      go_upto_region 17 with fail
      rw [HQ2.out]
      clear hx2
      go_wp2_with fail
      refine (CC.out _ HbQ2.out).mono ?_
      rintro e q3 ⟨x3, c3, y3, z3, rfl, hd3, hb3⟩
      obtain ⟨X3, hx3⟩ : ∃ b, q3.heap.size = b := ⟨_, rfl⟩
      obtain ⟨Q3, hQ3⟩ : ∃ W, q3.alloc (.cells #[.slice x3 n c3, .slice y3 0 z3] 25) = W := ⟨_, rfl⟩
      have hq3 : Below q3.heap.size q3 Q3 := by rw [← hQ3]; exact below_new _ _
      have HS3 := Lib.hid (Below.then hb3 hq3)
      have HbQ3 := Lib.hid (show Below wr.heap.size wr Q3 from Below.then HbQ2.out HS3.out)
      have HX3 := Lib.hid (show At2 25 Q3 X3 (.slice x3 n c3) (.slice y3 0 z3) by rw [← hQ3, ← hx3]; exact At2.new _ _ _ _)
      have HDX3 := Lib.hid (hd3.keep hq3)
      have HQ3 := Lib.hid hQ3
      clear a0 a1
      obtain ⟨a0, a1⟩ := (HNow.out.keep HbQ3.out).cells
      clear hQ3 hq3 hb3 hd3 CC
      go_upto_region 18 with fail
      rw [HQ3.out]
      clear hx3
      go_wp2_with fail
      refine (CD.out _ HbQ3.out).mono ?_
      rintro e q4 ⟨x4, c4, y4, z4, rfl, hd4, hb4⟩
      obtain ⟨X4, hx4⟩ : ∃ b, q4.heap.size = b := ⟨_, rfl⟩
      obtain ⟨Q4, hQ4⟩ : ∃ W, q4.alloc (.cells #[.slice x4 n c4, .slice y4 0 z4] 25) = W := ⟨_, rfl⟩
      have hq4 : Below q4.heap.size q4 Q4 := by rw [← hQ4]; exact below_new _ _
      have HS4 := Lib.hid (Below.then hb4 hq4)
      have HbQ4 := Lib.hid (show Below wr.heap.size wr Q4 from Below.then HbQ3.out HS4.out)
      have HX4 := Lib.hid (show At2 25 Q4 X4 (.slice x4 n c4) (.slice y4 0 z4) by rw [← hQ4, ← hx4]; exact At2.new _ _ _ _)
      have HDX4 := Lib.hid (hd4.keep hq4)
      have HQ4 := Lib.hid hQ4
      clear a0 a1
      obtain ⟨a0, a1⟩ := (HNow.out.keep HbQ4.out).cells
      clear hQ4 hq4 hb4 hd4 CD
      have HUQ := Lib.hid (show ∀ w', Below Q4.heap.size Q4 w' → Below w.heap.size w w' ∧ At2 25 w' B (.slice xa n xc) nilV ∧ DskAt w' (.agg #[.slice xa n xc, nilV]) ⟨ss, []⟩ ∧ At2 25 w' bN (.slice na n nc) (.slice na' k nc') ∧ DskAt w' (.agg #[.slice na n nc, .slice na' k nc']) (crD ss n ws k) ∧ At2 25 w' X1 (.slice x1 n c1) (.slice y1 0 z1) ∧ DskAt w' (.agg #[.slice x1 n c1, .slice y1 0 z1]) dB ∧ At2 25 w' X2 (.slice x2 n c2) (.slice y2 0 z2) ∧ DskAt w' (.agg #[.slice x2 n c2, .slice y2 0 z2]) dB ∧ At2 25 w' X3 (.slice x3 n c3) (.slice y3 0 z3) ∧ DskAt w' (.agg #[.slice x3 n c3, .slice y3 0 z3]) ⟨ss, []⟩ ∧ At2 25 w' X4 (.slice x4 n c4) (.slice y4 0 z4) ∧ DskAt w' (.agg #[.slice x4 n c4, .slice y4 0 z4]) dK from fun w' hb =>
        have h0 := Below.then HbQ4.out hb
        ⟨Below.then HI.out.below h0, HI.out.box.keep h0, HI.out.dsk.keep h0, HNow.out.keep h0, HDNow.out.keep h0, HX1.out.keep (Below.then (Below.then HS2.out HS3.out) (Below.then HS4.out hb)), HDX1.out.keep (Below.then (Below.then HS2.out HS3.out) (Below.then HS4.out hb)), HX2.out.keep (Below.then HS3.out (Below.then HS4.out hb)), HDX2.out.keep (Below.then HS3.out (Below.then HS4.out hb)), HX3.out.keep (Below.then HS4.out hb), HDX3.out.keep (Below.then HS4.out hb), HX4.out.keep hb, HDX4.out.keep hb⟩)
      have AQ := Lib.hid AL.out
      clear a0 a1 HNow HDNow HX1 HX2 HX3 HX4 HDX1 HDX2 HDX3 HDX4
      go_upto_region 19 with fail
      rw [HQ4.out]
      clear hx4
      obtain ⟨-, -, -, -, -, h1, d1, h2, d2, -, -, -, -⟩ := HUQ.out Q4 (Below.refl _ _)
      obtain ⟨a0, a1⟩ := h1.cells
      obtain ⟨b0, b1⟩ := h2.cells
      have LK := Lib.hid (refLike_t dB dB _ _ Q4 d1 d2)
      clear h1 h2 d1 d2
      go_wp2_with fail
      refine LK.out.mono ?_
      rintro e v1 ⟨r, rfl, hr, hv1⟩
      obtain rfl : r = true := hr.2 rfl
      have HV1 := Lib.hid hv1
      clear a0 a1 b0 b1 hr hv1 LK
      obtain ⟨-, h2, d2, -, -, -, -, -, -, h1, d1, -, -⟩ := HUQ.out v1 HV1.out
      obtain ⟨a0, a1⟩ := h1.cells
      obtain ⟨b0, b1⟩ := h2.cells
      have LK := Lib.hid (refLike_t ⟨ss, []⟩ ⟨ss, []⟩ _ _ v1 d1 d2)
      clear h1 h2 d1 d2
      go_wp2_with fail
      refine LK.out.mono ?_
      rintro e v2 ⟨r, rfl, hr, hv2⟩
      obtain rfl : r = true := hr.2 rfl
      have HV2 := Lib.hid (Below.then HV1.out hv2)
      clear a0 a1 b0 b1 hr hv2 LK
      obtain ⟨-, h2, -, -, -, -, -, -, -, -, -, h1, -⟩ := HUQ.out v2 HV2.out
      obtain ⟨a0, a1⟩ := h1.cells
      obtain ⟨b0, b1⟩ := h2.cells
      clear h1 h2
      go_wp2_with fail
      refine (AQ.out _).mono ?_
      rintro e v3 ⟨rfl, hv3⟩
      have HV3 := Lib.hid (Below.then HV2.out hv3)
      clear a0 a1 b0 b1 hv3 AQ
      obtain ⟨-, -, hdb, -, -, -, -, -, -, -, -, h1, hdk⟩ := HUQ.out v3 HV3.out
      obtain ⟨gb, go, rfl⟩ := rows_some hdk (by rw [← HDK.out, clean_length]; omega)
      obtain ⟨sb, so, rfl⟩ := rows_some hdb (by show 0 < ss.length; rw [HN.out.1]; omega)
      obtain ⟨a0, a1⟩ := h1.cells
      clear h1 hdk hdb
      go_upto_region 21 with fail
      go_wp2_with fail
      go_loopw [140] (fun iv wr => ∃ i : Nat, i ≤ n ∧ iv = .int .i64 i ∧ Below Q4.heap.size Q4 wr) (fun i _ => n - (intOf i).toNat)
      case atStart => exact ⟨0, Nat.zero_le _, rfl, HV3.out⟩
      case round =>
        obtain ⟨i, hi, rfl, hbi⟩ := hrel
        have HBI := Lib.hid hbi
        clear hbi a0 a1
        by_cases hin : i < n
        rotate_left
        · have hin' : ¬ ((i : Int) < (n : Int)) := by omega
          have HFIN := Lib.hid (HUQ.out _ HBI.out).1
          go_wp2_with fail
          go_ret
          exact ⟨rfl, HFIN.out⟩
        have hin' : (i : Int) < (n : Int) := by omega
        obtain ⟨-, hB, hDB, -, -, -, -, -, -, -, -, -, hDX⟩ := HUQ.out wr HBI.out
        have hiS : i < ss.length := by rw [HN.out.1]; exact hin
        have hiK : i < dK.secs.length := by rw [← HDK.out, clean_length]; exact hin
        have cK := rows_at hDX i hiK
        have cS : wr.cell? ⟨sb, so + i, none⟩ = some (.string ss[i]) := rows_at hDB i hiS
        obtain ⟨L, hL⟩ : ∃ L, (crD ss n ws k).left i fs = L := ⟨_, rfl⟩
        have eK : dK.secs[i] = L := by rw [← hL]; simp [← HDK.out, clean]
        rw [eK] at cK
        obtain ⟨S, hS⟩ : ∃ s, ss[i] = s := ⟨_, rfl⟩
        rw [hS] at cS
        have qL : L.size = 128 := by rw [← hL]; exact dleft_size HRK.out fs (by show i < ss.length; exact hiS)
        have qS : S.size = 128 := by rw [← hS]; exact HRI.out.secs _ (List.getElem_mem hiS)
        have HL := Lib.hid hL
        have HSi := Lib.hid hS
        have HQL := Lib.hid qL
        have hg : ss.getD i ⟨#[]⟩ = S := by rw [List.getD_eq_getElem?_getD, List.getElem?_eq_getElem hiS, ← hS]; rfl
        have hw8 : ∀ w ∈ cwL n ws k, w.2.size = 128 := fun w hw => (HRK.out.well w hw).2.2
        have hLL : leftL i S (cwL n ws k) fs = L := by rw [← hL, ← hg]; rfl
        have hP1 := left_first i (cwL n ws k) S fs qS hw8
        have hP2 := left_last i (cwL n ws k) S fs qS hw8
        rw [hLL] at hP1 hP2
        have HP1 := Lib.hid hP1
        have HP2 := Lib.hid hP2
        obtain ⟨b0, b1⟩ := hB.cells
        clear hB hDB hDX eK hL hS hP1 hP2 hLL hw8 hg
        go_upto_region 24 with fail
        go_quiet (fail)
        generalize nq = nq0
        obtain ⟨bF, hbF⟩ : ∃ b, ((L.extract 0 64).toList == (S.extract 0 64).toList) = b := ⟨_, rfl⟩
        obtain ⟨bG, hbG⟩ : ∃ b, ((L.extract 64 128).toList == (S.extract 64 128).toList) = b := ⟨_, rfl⟩
        rw [hbF, hbG]
        rw [hbF] at HP1
        rw [hbG] at HP2
        obtain ⟨W9, hW9⟩ : ∃ W, wr.drewN nq0 = W := ⟨_, rfl⟩
        have HB9 := Lib.hid (show Below Q4.heap.size Q4 W9 by rw [← hW9]; exact below_drewN HBI.out _)
        rw [hW9]
        obtain ⟨-, -, -, hNw, -, -, -, -, -, -, -, -, -⟩ := HUQ.out W9 HB9.out
        obtain ⟨a0, a1⟩ := hNw.cells
        clear hW9 hNw b0 b1 cK cS qS hbF hbG
        go_upto_region 25 with fail
        go_wp2_with fail
        go_loopw [23, 24, 176] (fun fv gv iv wr => ∃ (j : Nat) (p q : Bool), j ≤ k ∧ iv = .int .i64 j ∧ fv = .bool p ∧ gv = .bool q ∧ p = (bF || ((cwL n ws k).take j).any (fstB i L)) ∧ q = (bG || ((cwL n ws k).take j).any (lstB i L)) ∧ Below Q4.heap.size Q4 wr) (fun _ _ iv _ => k - (intOf iv).toNat)
        case atStart => exact ⟨0, bF, bG, Nat.zero_le _, rfl, rfl, rfl, by simp, by simp, HB9.out⟩
        case round =>
          obtain ⟨j, p, q, hj, rfl, rfl, rfl, hp, hq, hbj⟩ := hrel
          have HBJ := Lib.hid hbj
          have HPJ := Lib.hid hp
          have HQJ := Lib.hid hq
          clear hbj a0 a1 hp hq
          by_cases hjk : j < k
          rotate_left
          · have hjk' : ¬ ((j : Int) < (k : Int)) := by omega
            have hp1 : p = true := by rw [HPJ.out, List.take_of_length_le (by rw [cwL_length]; omega)]; exact HP1.out
            have hq1 : q = true := by rw [HQJ.out, List.take_of_length_le (by rw [cwL_length]; omega)]; exact HP2.out
            subst hp1 hq1
            go_wp2_with fail
            go_roundw
            case rel => exact ⟨i + 1, by omega, by go_num, HBJ.out⟩
            case measure => simp [intOf]; omega
          have hjk' : (j : Int) < (k : Int) := by omega
          obtain ⟨-, -, -, -, hDN, -, -, -, -, -, -, -, -⟩ := HUQ.out wr HBJ.out
          have hjd : j < (crD ss n ws k).dirty.length := by rw [crD_dirty]; exact hjk
          obtain ⟨db, dO, rfl, e0, e1⟩ := dirty_at hDN j hjd
          have hmem : (crD ss n ws k).dirty[j] ∈ (crD ss n ws k).dirty := List.getElem_mem hjd
          have hstep : ∀ f : Int × ByteArray → Bool, ((cwL n ws k).take (j + 1)).any f = (((cwL n ws k).take j).any f || f (crD ss n ws k).dirty[j]) := fun f => by
            have hjc : j < (cwL n ws k).length := hjd
            rw [List.take_add_one, List.getElem?_eq_getElem hjc, List.any_append]
            simp [crD]
          obtain ⟨⟨wa, x⟩, hx⟩ : ∃ x, (crD ss n ws k).dirty[j] = x := ⟨_, rfl⟩
          have qx := (HRK.out.well _ hmem).2.2
          rw [hx] at e0 e1 hstep qx
          have HST := Lib.hid hstep
          obtain ⟨bw, hbw⟩ : ∃ b, wr.heap.size = b := ⟨_, rfl⟩
          obtain ⟨W10, hW10⟩ : ∃ W, wr.alloc (.cells #[.int .i64 wa, .string x] 45) = W := ⟨_, rfl⟩
          have hb10 : Below wr.heap.size wr W10 := by rw [← hW10]; exact below_new _ _
          have h10 : At2 45 W10 bw (.int .i64 wa) (.string x) := by rw [← hW10, ← hbw]; exact At2.new _ _ _ _
          have HB10 := Lib.hid (Below.then HBJ.out hb10)
          have HW10 := Lib.hid hW10
          have qL := HQL.out
          clear hDN hmem hx hstep hW10 hb10 hjd
          go_upto_region 28 with fail
          rw [HW10.out]
          clear hbw e0 e1
          obtain ⟨x0, x1⟩ := h10.cells
          go_cut [23] from 180 to 199 (fun v wx => v = .bool (p || fstB i L (wa, x)) ∧ ∃ nq, wx = W10.drewN nq)
          case first =>
            cases p with
            | true =>
              go_quiet (fail)
              generalize nq = nq1
              go_wp2_with fail
              go_meet
              exact ⟨rfl, nq1, rfl⟩
            | false =>
              by_cases hwi : wa = (i : Int)
              · have qi : (wa == (i : Int)) = true := beq_iff_eq.2 hwi
                clear hwi
                go_quiet (fail)
                generalize nq = nq1
                go_wp2_with fail
                go_meet
                exact ⟨by simp [fstB, qi], nq1, rfl⟩
              · have qi : (wa == (i : Int)) = false := beq_eq_false_iff_ne.2 hwi
                clear hwi
                go_quiet (fail)
                generalize nq = nq1
                go_wp2_with fail
                go_meet
                exact ⟨by simp [fstB, qi], nq1, rfl⟩
          case rest =>
            obtain ⟨rfl, nq1, rfl⟩ := hcut
            obtain ⟨p1, hp1⟩ : ∃ b, (p || fstB i L (wa, x)) = b := ⟨_, rfl⟩
            rw [hp1]
            have HP3 := Lib.hid (show p1 = (bF || ((cwL n ws k).take (j + 1)).any (fstB i L)) by rw [HST.out, ← Bool.or_assoc, ← HPJ.out, hp1])
            obtain ⟨W11, hW11⟩ : ∃ W, W10.drewN nq1 = W := ⟨_, rfl⟩
            have hb11 : Below W10.heap.size W10 W11 := by rw [← hW11]; exact below_drewN (Below.refl _ _) _
            have h11 := h10.keep hb11
            have HB11 := Lib.hid (Below.then HB10.out hb11)
            rw [hW11]
            clear x0 x1 hp1 hW11 hb11 h10
            obtain ⟨x0, x1⟩ := h11.cells
            clear h11
            go_upto_region 29 with fail
            cases q with
            | true =>
              have HQ3 := Lib.hid (show true = (bG || ((cwL n ws k).take (j + 1)).any (lstB i L)) by rw [HST.out, ← Bool.or_assoc, ← HQJ.out]; rfl)
              go_quiet (fail)
              generalize nq = nq2
              have HB12 := Lib.hid (show Below Q4.heap.size Q4 (W11.drewN nq2) from below_drewN HB11.out _)
              go_wp2_with fail
              go_roundw
              case rel => exact ⟨j + 1, p1, _, by omega, by go_num, rfl, rfl, HP3.out, HQ3.out, HB12.out⟩
              case measure => simp [intOf]; omega
            | false =>
              by_cases hwi : wa = (i : Int)
              · have qi : (wa == (i : Int)) = true := beq_iff_eq.2 hwi
                clear hwi
                have HQ3 := Lib.hid (show ((x.extract 64 128).toList == (L.extract 64 128).toList) = (bG || ((cwL n ws k).take (j + 1)).any (lstB i L)) by rw [HST.out, ← Bool.or_assoc, ← HQJ.out]; simp [lstB, qi])
                go_quiet (fail)
                generalize nq = nq2
                have HB12 := Lib.hid (show Below Q4.heap.size Q4 (W11.drewN nq2) from below_drewN HB11.out _)
                go_wp2_with fail
                go_roundw
                case rel => exact ⟨j + 1, p1, _, by omega, by go_num, rfl, rfl, HP3.out, HQ3.out, HB12.out⟩
                case measure => simp [intOf]; omega
              · have qi : (wa == (i : Int)) = false := beq_eq_false_iff_ne.2 hwi
                clear hwi
                have HQ3 := Lib.hid (show false = (bG || ((cwL n ws k).take (j + 1)).any (lstB i L)) by rw [HST.out, ← Bool.or_assoc, ← HQJ.out]; simp [lstB, qi])
                go_quiet (fail)
                generalize nq = nq2
                have HB12 := Lib.hid (show Below Q4.heap.size Q4 (W11.drewN nq2) from below_drewN HB11.out _)
                go_wp2_with fail
                go_roundw
                case rel => exact ⟨j + 1, p1, _, by omega, by go_num, rfl, rfl, HP3.out, HQ3.out, HB12.out⟩
                case measure => simp [intOf]; omega
    have hkl : k < ws.length := by rw [HNL.out.1]; exact hlt
    obtain ⟨bb, bo, rfl, e0, e1⟩ := HI.out.wrs.at k (by rw [List.length_map]; exact hkl)
    rw [write_getElem ws k hkl] at e0 e1
    have hat0 : atOf ws k = ws[k].1 := by simp [atOf, List.getD, hkl]
    obtain ⟨⟨ax, x⟩, hx⟩ : ∃ x, ws[k] = x := ⟨_, rfl⟩
    rw [hx] at e0 e1 hat0
    obtain ⟨bx, hbx⟩ : ∃ b, wr.heap.size = b := ⟨_, rfl⟩
    obtain ⟨W8, hW8⟩ : ∃ W, wr.alloc (.cells #[.int .i64 ax, .string x] 45) = W := ⟨_, rfl⟩
    have hb8 : Below wr.heap.size wr W8 := by rw [← hW8]; exact below_new _ _
    have HX := Lib.hid (show At2 45 W8 bx (.int .i64 ax) (.string x) by rw [← hW8, ← hbx]; exact At2.new _ _ _ _)
    have HI8 := Lib.hid (HI.out.keep hb8)
    have HO8 := Lib.hid (HO.out.keep hb8)
    have HBR8 := Lib.hid (below_then HBR.out hb8 hR)
    have HW8 := Lib.hid hW8
    have HBX := Lib.hid hbx
    have hR8 : R0 ≤ W8.heap.size := Nat.le_trans hR hb8.size
    by_cases hlt30 : k < 30
    rotate_left
    · obtain ⟨na, nc, na', nc', hNow, hDNow⟩ := DskIn.at HI8.out.now (show (crD ss n ws k).secs.length = n from HN.out.1) (crD_dirty ss n ws k)
      have HRK := Lib.hid (crD_right (ws := ws) HRI.out HN.out.1 k (by omega))
      have hxc : (30 : Int) ≤ (k : Int) := by omega
      obtain ⟨dB, hdB⟩ : ∃ d, clean n (crD ss n ws k).stands = d := ⟨_, rfl⟩
      obtain ⟨dK, hdK⟩ : ∃ d, clean n (fun i => (crD ss n ws k).left i fs) = d := ⟨_, rfl⟩
      have hlB : dB.secs.length = n ∧ dB.dirty.length = 0 := by rw [← hdB]; exact ⟨clean_length _ _, rfl⟩
      have hlK : dK.secs.length = n ∧ dK.dirty.length = 0 := by rw [← hdK]; exact ⟨clean_length _ _, rfl⟩
      have CA := Lib.hid (show ∀ w', Below W8.heap.size W8 w' → Calls Try.prog 12 #[.agg #[.slice na n nc, .slice na' k nc'], .slice (some ⟨g, 0, none⟩) k cap] w' (OutN dB n w') from fun w' hb => by
        have := Crash_t _ _ (crD ss n ws k) (List.replicate k 1) w' (hDNow.keep hb) (HO8.out.keep hb).intsAt
        rw [crashD_ok HRK.out, show (crD ss n ws k).secs.length = n from HN.out.1, all_kept, hdB] at this
        exact this.mono fun e w'' h => out_n hlB h)
      have CB := Lib.hid (show ∀ w', Below W8.heap.size W8 w' → Calls Try.prog 11 #[.agg #[.slice na n nc, .slice na' k nc']] w' (OutN dB n w') from fun w' hb => by
        have := Flush_t _ (crD ss n ws k) w' (hDNow.keep hb)
        rw [flushD_ok HRK.out, show (crD ss n ws k).secs.length = n from HN.out.1, hdB] at this
        exact this.mono fun e w'' h => out_n hlB h)
      have CC := Lib.hid (show ∀ w', Below W8.heap.size W8 w' → Calls Try.prog 12 #[.agg #[.slice na n nc, .slice na' k nc'], .slice none 0 0] w' (OutN ⟨ss, []⟩ n w') from fun w' hb => by
        have := Crash_t _ _ (crD ss n ws k) [] w' (hDNow.keep hb) (Or.inl ⟨rfl, Or.inl rfl⟩)
        rw [crashD_ok HRK.out, show (crD ss n ws k).secs.length = n from HN.out.1, all_lost ss n HN.out.1] at this
        exact this.mono fun e w'' h => out_n ⟨HN.out.1, rfl⟩ h)
      have CD := Lib.hid (show ∀ w', Below W8.heap.size W8 w' → Calls Try.prog 12 #[.agg #[.slice na n nc, .slice na' k nc'], .slice fa nf fc] w' (OutN dK n w') from fun w' hb => by
        have := Crash_t _ _ (crD ss n ws k) fs w' (hDNow.keep hb) (HI8.out.fts.keep hb)
        rw [crashD_ok HRK.out, show (crD ss n ws k).secs.length = n from HN.out.1, hdK] at this
        exact this.mono fun e w'' h => out_n hlK h)
      have HNow := Lib.hid hNow
      have HDNow := Lib.hid hDNow
      have HbQ0 := Lib.hid (Below.refl W8.heap.size W8)
      have HDK := Lib.hid hdK
      obtain ⟨a0, a1⟩ := hNow.cells
      clear hNow hDNow hlB hdB hlK hdK
      go_upto_region 15 with fail
      clear hbx hW8 hb8
      go_wp2_with fail
      refine (CA.out _ HbQ0.out).mono ?_
      rintro e q1 ⟨x1, c1, y1, z1, rfl, hd1, hb1⟩
      obtain ⟨X1, hx1⟩ : ∃ b, q1.heap.size = b := ⟨_, rfl⟩
      obtain ⟨Q1, hQ1⟩ : ∃ W, q1.alloc (.cells #[.slice x1 n c1, .slice y1 0 z1] 25) = W := ⟨_, rfl⟩
      have hq1 : Below q1.heap.size q1 Q1 := by rw [← hQ1]; exact below_new _ _
      have HS1 := Lib.hid (Below.then hb1 hq1)
      have HbQ1 := Lib.hid (show Below W8.heap.size W8 Q1 from Below.then HbQ0.out HS1.out)
      have HX1 := Lib.hid (show At2 25 Q1 X1 (.slice x1 n c1) (.slice y1 0 z1) by rw [← hQ1, ← hx1]; exact At2.new _ _ _ _)
      have HDX1 := Lib.hid (hd1.keep hq1)
      have HQ1 := Lib.hid hQ1
      clear a0 a1
      obtain ⟨a0, a1⟩ := (HNow.out.keep HbQ1.out).cells
      clear hQ1 hq1 hb1 hd1 CA
      go_upto_region 16 with fail
      rw [HQ1.out]
      clear hx1
      go_wp2_with fail
      refine (CB.out _ HbQ1.out).mono ?_
      rintro e q2 ⟨x2, c2, y2, z2, rfl, hd2, hb2⟩
      obtain ⟨X2, hx2⟩ : ∃ b, q2.heap.size = b := ⟨_, rfl⟩
      obtain ⟨Q2, hQ2⟩ : ∃ W, q2.alloc (.cells #[.slice x2 n c2, .slice y2 0 z2] 25) = W := ⟨_, rfl⟩
      have hq2 : Below q2.heap.size q2 Q2 := by rw [← hQ2]; exact below_new _ _
      have HS2 := Lib.hid (Below.then hb2 hq2)
      have HbQ2 := Lib.hid (show Below W8.heap.size W8 Q2 from Below.then HbQ1.out HS2.out)
      have HX2 := Lib.hid (show At2 25 Q2 X2 (.slice x2 n c2) (.slice y2 0 z2) by rw [← hQ2, ← hx2]; exact At2.new _ _ _ _)
      have HDX2 := Lib.hid (hd2.keep hq2)
      have HQ2 := Lib.hid hQ2
      clear a0 a1
      obtain ⟨a0, a1⟩ := (HNow.out.keep HbQ2.out).cells
      clear hQ2 hq2 hb2 hd2 CB
      go_upto_region 17 with fail
      rw [HQ2.out]
      clear hx2
      go_wp2_with fail
      refine (CC.out _ HbQ2.out).mono ?_
      rintro e q3 ⟨x3, c3, y3, z3, rfl, hd3, hb3⟩
      obtain ⟨X3, hx3⟩ : ∃ b, q3.heap.size = b := ⟨_, rfl⟩
      obtain ⟨Q3, hQ3⟩ : ∃ W, q3.alloc (.cells #[.slice x3 n c3, .slice y3 0 z3] 25) = W := ⟨_, rfl⟩
      have hq3 : Below q3.heap.size q3 Q3 := by rw [← hQ3]; exact below_new _ _
      have HS3 := Lib.hid (Below.then hb3 hq3)
      have HbQ3 := Lib.hid (show Below W8.heap.size W8 Q3 from Below.then HbQ2.out HS3.out)
      have HX3 := Lib.hid (show At2 25 Q3 X3 (.slice x3 n c3) (.slice y3 0 z3) by rw [← hQ3, ← hx3]; exact At2.new _ _ _ _)
      have HDX3 := Lib.hid (hd3.keep hq3)
      have HQ3 := Lib.hid hQ3
      clear a0 a1
      obtain ⟨a0, a1⟩ := (HNow.out.keep HbQ3.out).cells
      clear hQ3 hq3 hb3 hd3 CC
      go_upto_region 18 with fail
      rw [HQ3.out]
      clear hx3
      go_wp2_with fail
      refine (CD.out _ HbQ3.out).mono ?_
      rintro e q4 ⟨x4, c4, y4, z4, rfl, hd4, hb4⟩
      obtain ⟨X4, hx4⟩ : ∃ b, q4.heap.size = b := ⟨_, rfl⟩
      obtain ⟨Q4, hQ4⟩ : ∃ W, q4.alloc (.cells #[.slice x4 n c4, .slice y4 0 z4] 25) = W := ⟨_, rfl⟩
      have hq4 : Below q4.heap.size q4 Q4 := by rw [← hQ4]; exact below_new _ _
      have HS4 := Lib.hid (Below.then hb4 hq4)
      have HbQ4 := Lib.hid (show Below W8.heap.size W8 Q4 from Below.then HbQ3.out HS4.out)
      have HX4 := Lib.hid (show At2 25 Q4 X4 (.slice x4 n c4) (.slice y4 0 z4) by rw [← hQ4, ← hx4]; exact At2.new _ _ _ _)
      have HDX4 := Lib.hid (hd4.keep hq4)
      have HQ4 := Lib.hid hQ4
      clear a0 a1
      obtain ⟨a0, a1⟩ := (HNow.out.keep HbQ4.out).cells
      clear hQ4 hq4 hb4 hd4 CD
      have HUQ := Lib.hid (show ∀ w', Below Q4.heap.size Q4 w' → Below w.heap.size w w' ∧ At2 25 w' B (.slice xa n xc) nilV ∧ DskAt w' (.agg #[.slice xa n xc, nilV]) ⟨ss, []⟩ ∧ At2 25 w' bN (.slice na n nc) (.slice na' k nc') ∧ DskAt w' (.agg #[.slice na n nc, .slice na' k nc']) (crD ss n ws k) ∧ At2 25 w' X1 (.slice x1 n c1) (.slice y1 0 z1) ∧ DskAt w' (.agg #[.slice x1 n c1, .slice y1 0 z1]) dB ∧ At2 25 w' X2 (.slice x2 n c2) (.slice y2 0 z2) ∧ DskAt w' (.agg #[.slice x2 n c2, .slice y2 0 z2]) dB ∧ At2 25 w' X3 (.slice x3 n c3) (.slice y3 0 z3) ∧ DskAt w' (.agg #[.slice x3 n c3, .slice y3 0 z3]) ⟨ss, []⟩ ∧ At2 25 w' X4 (.slice x4 n c4) (.slice y4 0 z4) ∧ DskAt w' (.agg #[.slice x4 n c4, .slice y4 0 z4]) dK from fun w' hb =>
        have h0 := Below.then HbQ4.out hb
        ⟨Below.then HI8.out.below h0, HI8.out.box.keep h0, HI8.out.dsk.keep h0, HNow.out.keep h0, HDNow.out.keep h0, HX1.out.keep (Below.then (Below.then HS2.out HS3.out) (Below.then HS4.out hb)), HDX1.out.keep (Below.then (Below.then HS2.out HS3.out) (Below.then HS4.out hb)), HX2.out.keep (Below.then HS3.out (Below.then HS4.out hb)), HDX2.out.keep (Below.then HS3.out (Below.then HS4.out hb)), HX3.out.keep (Below.then HS4.out hb), HDX3.out.keep (Below.then HS4.out hb), HX4.out.keep hb, HDX4.out.keep hb⟩)
      have AQ := Lib.hid AL.out
      clear a0 a1 HNow HDNow HX1 HX2 HX3 HX4 HDX1 HDX2 HDX3 HDX4
      go_upto_region 19 with fail
      rw [HQ4.out]
      clear hx4
      obtain ⟨-, -, -, -, -, h1, d1, h2, d2, -, -, -, -⟩ := HUQ.out Q4 (Below.refl _ _)
      obtain ⟨a0, a1⟩ := h1.cells
      obtain ⟨b0, b1⟩ := h2.cells
      have LK := Lib.hid (refLike_t dB dB _ _ Q4 d1 d2)
      clear h1 h2 d1 d2
      go_wp2_with fail
      refine LK.out.mono ?_
      rintro e v1 ⟨r, rfl, hr, hv1⟩
      obtain rfl : r = true := hr.2 rfl
      have HV1 := Lib.hid hv1
      clear a0 a1 b0 b1 hr hv1 LK
      obtain ⟨-, h2, d2, -, -, -, -, -, -, h1, d1, -, -⟩ := HUQ.out v1 HV1.out
      obtain ⟨a0, a1⟩ := h1.cells
      obtain ⟨b0, b1⟩ := h2.cells
      have LK := Lib.hid (refLike_t ⟨ss, []⟩ ⟨ss, []⟩ _ _ v1 d1 d2)
      clear h1 h2 d1 d2
      go_wp2_with fail
      refine LK.out.mono ?_
      rintro e v2 ⟨r, rfl, hr, hv2⟩
      obtain rfl : r = true := hr.2 rfl
      have HV2 := Lib.hid (Below.then HV1.out hv2)
      clear a0 a1 b0 b1 hr hv2 LK
      obtain ⟨-, h2, -, -, -, -, -, -, -, -, -, h1, -⟩ := HUQ.out v2 HV2.out
      obtain ⟨a0, a1⟩ := h1.cells
      obtain ⟨b0, b1⟩ := h2.cells
      clear h1 h2
      go_wp2_with fail
      refine (AQ.out _).mono ?_
      rintro e v3 ⟨rfl, hv3⟩
      have HV3 := Lib.hid (Below.then HV2.out hv3)
      clear a0 a1 b0 b1 hv3 AQ
      obtain ⟨-, -, hdb, -, -, -, -, -, -, -, -, h1, hdk⟩ := HUQ.out v3 HV3.out
      obtain ⟨gb, go, rfl⟩ := rows_some hdk (by rw [← HDK.out, clean_length]; omega)
      obtain ⟨sb, so, rfl⟩ := rows_some hdb (by show 0 < ss.length; rw [HN.out.1]; omega)
      obtain ⟨a0, a1⟩ := h1.cells
      clear h1 hdk hdb
      go_upto_region 21 with fail
      go_wp2_with fail
      go_loopw [140] (fun iv wr => ∃ i : Nat, i ≤ n ∧ iv = .int .i64 i ∧ Below Q4.heap.size Q4 wr) (fun i _ => n - (intOf i).toNat)
      case atStart => exact ⟨0, Nat.zero_le _, rfl, HV3.out⟩
      case round =>
        obtain ⟨i, hi, rfl, hbi⟩ := hrel
        have HBI := Lib.hid hbi
        clear hbi a0 a1
        by_cases hin : i < n
        rotate_left
        · have hin' : ¬ ((i : Int) < (n : Int)) := by omega
          have HFIN := Lib.hid (HUQ.out _ HBI.out).1
          go_wp2_with fail
          go_ret
          exact ⟨rfl, HFIN.out⟩
        have hin' : (i : Int) < (n : Int) := by omega
        obtain ⟨-, hB, hDB, -, -, -, -, -, -, -, -, -, hDX⟩ := HUQ.out wr HBI.out
        have hiS : i < ss.length := by rw [HN.out.1]; exact hin
        have hiK : i < dK.secs.length := by rw [← HDK.out, clean_length]; exact hin
        have cK := rows_at hDX i hiK
        have cS : wr.cell? ⟨sb, so + i, none⟩ = some (.string ss[i]) := rows_at hDB i hiS
        obtain ⟨L, hL⟩ : ∃ L, (crD ss n ws k).left i fs = L := ⟨_, rfl⟩
        have eK : dK.secs[i] = L := by rw [← hL]; simp [← HDK.out, clean]
        rw [eK] at cK
        obtain ⟨S, hS⟩ : ∃ s, ss[i] = s := ⟨_, rfl⟩
        rw [hS] at cS
        have qL : L.size = 128 := by rw [← hL]; exact dleft_size HRK.out fs (by show i < ss.length; exact hiS)
        have qS : S.size = 128 := by rw [← hS]; exact HRI.out.secs _ (List.getElem_mem hiS)
        have HL := Lib.hid hL
        have HSi := Lib.hid hS
        have HQL := Lib.hid qL
        have hg : ss.getD i ⟨#[]⟩ = S := by rw [List.getD_eq_getElem?_getD, List.getElem?_eq_getElem hiS, ← hS]; rfl
        have hw8 : ∀ w ∈ cwL n ws k, w.2.size = 128 := fun w hw => (HRK.out.well w hw).2.2
        have hLL : leftL i S (cwL n ws k) fs = L := by rw [← hL, ← hg]; rfl
        have hP1 := left_first i (cwL n ws k) S fs qS hw8
        have hP2 := left_last i (cwL n ws k) S fs qS hw8
        rw [hLL] at hP1 hP2
        have HP1 := Lib.hid hP1
        have HP2 := Lib.hid hP2
        obtain ⟨b0, b1⟩ := hB.cells
        clear hB hDB hDX eK hL hS hP1 hP2 hLL hw8 hg
        go_upto_region 24 with fail
        go_quiet (fail)
        generalize nq = nq0
        obtain ⟨bF, hbF⟩ : ∃ b, ((L.extract 0 64).toList == (S.extract 0 64).toList) = b := ⟨_, rfl⟩
        obtain ⟨bG, hbG⟩ : ∃ b, ((L.extract 64 128).toList == (S.extract 64 128).toList) = b := ⟨_, rfl⟩
        rw [hbF, hbG]
        rw [hbF] at HP1
        rw [hbG] at HP2
        obtain ⟨W9, hW9⟩ : ∃ W, wr.drewN nq0 = W := ⟨_, rfl⟩
        have HB9 := Lib.hid (show Below Q4.heap.size Q4 W9 by rw [← hW9]; exact below_drewN HBI.out _)
        rw [hW9]
        obtain ⟨-, -, -, hNw, -, -, -, -, -, -, -, -, -⟩ := HUQ.out W9 HB9.out
        obtain ⟨a0, a1⟩ := hNw.cells
        clear hW9 hNw b0 b1 cK cS qS hbF hbG
        go_upto_region 25 with fail
        go_wp2_with fail
        go_loopw [23, 24, 176] (fun fv gv iv wr => ∃ (j : Nat) (p q : Bool), j ≤ k ∧ iv = .int .i64 j ∧ fv = .bool p ∧ gv = .bool q ∧ p = (bF || ((cwL n ws k).take j).any (fstB i L)) ∧ q = (bG || ((cwL n ws k).take j).any (lstB i L)) ∧ Below Q4.heap.size Q4 wr) (fun _ _ iv _ => k - (intOf iv).toNat)
        case atStart => exact ⟨0, bF, bG, Nat.zero_le _, rfl, rfl, rfl, by simp, by simp, HB9.out⟩
        case round =>
          obtain ⟨j, p, q, hj, rfl, rfl, rfl, hp, hq, hbj⟩ := hrel
          have HBJ := Lib.hid hbj
          have HPJ := Lib.hid hp
          have HQJ := Lib.hid hq
          clear hbj a0 a1 hp hq
          by_cases hjk : j < k
          rotate_left
          · have hjk' : ¬ ((j : Int) < (k : Int)) := by omega
            have hp1 : p = true := by rw [HPJ.out, List.take_of_length_le (by rw [cwL_length]; omega)]; exact HP1.out
            have hq1 : q = true := by rw [HQJ.out, List.take_of_length_le (by rw [cwL_length]; omega)]; exact HP2.out
            subst hp1 hq1
            go_wp2_with fail
            go_roundw
            case rel => exact ⟨i + 1, by omega, by go_num, HBJ.out⟩
            case measure => simp [intOf]; omega
          have hjk' : (j : Int) < (k : Int) := by omega
          obtain ⟨-, -, -, -, hDN, -, -, -, -, -, -, -, -⟩ := HUQ.out wr HBJ.out
          have hjd : j < (crD ss n ws k).dirty.length := by rw [crD_dirty]; exact hjk
          obtain ⟨db, dO, rfl, e0, e1⟩ := dirty_at hDN j hjd
          have hmem : (crD ss n ws k).dirty[j] ∈ (crD ss n ws k).dirty := List.getElem_mem hjd
          have hstep : ∀ f : Int × ByteArray → Bool, ((cwL n ws k).take (j + 1)).any f = (((cwL n ws k).take j).any f || f (crD ss n ws k).dirty[j]) := fun f => by
            have hjc : j < (cwL n ws k).length := hjd
            rw [List.take_add_one, List.getElem?_eq_getElem hjc, List.any_append]
            simp [crD]
          obtain ⟨⟨wa, x⟩, hx⟩ : ∃ x, (crD ss n ws k).dirty[j] = x := ⟨_, rfl⟩
          have qx := (HRK.out.well _ hmem).2.2
          rw [hx] at e0 e1 hstep qx
          have HST := Lib.hid hstep
          obtain ⟨bw, hbw⟩ : ∃ b, wr.heap.size = b := ⟨_, rfl⟩
          obtain ⟨W10, hW10⟩ : ∃ W, wr.alloc (.cells #[.int .i64 wa, .string x] 45) = W := ⟨_, rfl⟩
          have hb10 : Below wr.heap.size wr W10 := by rw [← hW10]; exact below_new _ _
          have h10 : At2 45 W10 bw (.int .i64 wa) (.string x) := by rw [← hW10, ← hbw]; exact At2.new _ _ _ _
          have HB10 := Lib.hid (Below.then HBJ.out hb10)
          have HW10 := Lib.hid hW10
          have qL := HQL.out
          clear hDN hmem hx hstep hW10 hb10 hjd
          go_upto_region 28 with fail
          rw [HW10.out]
          clear hbw e0 e1
          obtain ⟨x0, x1⟩ := h10.cells
          go_cut [23] from 180 to 199 (fun v wx => v = .bool (p || fstB i L (wa, x)) ∧ ∃ nq, wx = W10.drewN nq)
          case first =>
            cases p with
            | true =>
              go_quiet (fail)
              generalize nq = nq1
              go_wp2_with fail
              go_meet
              exact ⟨rfl, nq1, rfl⟩
            | false =>
              by_cases hwi : wa = (i : Int)
              · have qi : (wa == (i : Int)) = true := beq_iff_eq.2 hwi
                clear hwi
                go_quiet (fail)
                generalize nq = nq1
                go_wp2_with fail
                go_meet
                exact ⟨by simp [fstB, qi], nq1, rfl⟩
              · have qi : (wa == (i : Int)) = false := beq_eq_false_iff_ne.2 hwi
                clear hwi
                go_quiet (fail)
                generalize nq = nq1
                go_wp2_with fail
                go_meet
                exact ⟨by simp [fstB, qi], nq1, rfl⟩
          case rest =>
            obtain ⟨rfl, nq1, rfl⟩ := hcut
            obtain ⟨p1, hp1⟩ : ∃ b, (p || fstB i L (wa, x)) = b := ⟨_, rfl⟩
            rw [hp1]
            have HP3 := Lib.hid (show p1 = (bF || ((cwL n ws k).take (j + 1)).any (fstB i L)) by rw [HST.out, ← Bool.or_assoc, ← HPJ.out, hp1])
            obtain ⟨W11, hW11⟩ : ∃ W, W10.drewN nq1 = W := ⟨_, rfl⟩
            have hb11 : Below W10.heap.size W10 W11 := by rw [← hW11]; exact below_drewN (Below.refl _ _) _
            have h11 := h10.keep hb11
            have HB11 := Lib.hid (Below.then HB10.out hb11)
            rw [hW11]
            clear x0 x1 hp1 hW11 hb11 h10
            obtain ⟨x0, x1⟩ := h11.cells
            clear h11
            go_upto_region 29 with fail
            cases q with
            | true =>
              have HQ3 := Lib.hid (show true = (bG || ((cwL n ws k).take (j + 1)).any (lstB i L)) by rw [HST.out, ← Bool.or_assoc, ← HQJ.out]; rfl)
              go_quiet (fail)
              generalize nq = nq2
              have HB12 := Lib.hid (show Below Q4.heap.size Q4 (W11.drewN nq2) from below_drewN HB11.out _)
              go_wp2_with fail
              go_roundw
              case rel => exact ⟨j + 1, p1, _, by omega, by go_num, rfl, rfl, HP3.out, HQ3.out, HB12.out⟩
              case measure => simp [intOf]; omega
            | false =>
              by_cases hwi : wa = (i : Int)
              · have qi : (wa == (i : Int)) = true := beq_iff_eq.2 hwi
                clear hwi
                have HQ3 := Lib.hid (show ((x.extract 64 128).toList == (L.extract 64 128).toList) = (bG || ((cwL n ws k).take (j + 1)).any (lstB i L)) by rw [HST.out, ← Bool.or_assoc, ← HQJ.out]; simp [lstB, qi])
                go_quiet (fail)
                generalize nq = nq2
                have HB12 := Lib.hid (show Below Q4.heap.size Q4 (W11.drewN nq2) from below_drewN HB11.out _)
                go_wp2_with fail
                go_roundw
                case rel => exact ⟨j + 1, p1, _, by omega, by go_num, rfl, rfl, HP3.out, HQ3.out, HB12.out⟩
                case measure => simp [intOf]; omega
              · have qi : (wa == (i : Int)) = false := beq_eq_false_iff_ne.2 hwi
                clear hwi
                have HQ3 := Lib.hid (show false = (bG || ((cwL n ws k).take (j + 1)).any (lstB i L)) by rw [HST.out, ← Bool.or_assoc, ← HQJ.out]; simp [lstB, qi])
                go_quiet (fail)
                generalize nq = nq2
                have HB12 := Lib.hid (show Below Q4.heap.size Q4 (W11.drewN nq2) from below_drewN HB11.out _)
                go_wp2_with fail
                go_roundw
                case rel => exact ⟨j + 1, p1, _, by omega, by go_num, rfl, rfl, HP3.out, HQ3.out, HB12.out⟩
                case measure => simp [intOf]; omega
    have q30 : (k : Int) < 30 := by omega
    obtain ⟨r1, ka, p1, k1, k2, p2, k3⟩ := place_of ax n hnn.1
    have hpl : plc n ax = (ka : Int) := by unfold plc; rw [p1, p2]
    have HST := Lib.hid (show crD ss n ws (k + 1) = addW (crD ss n ws k) ((ka : Int), secB (UInt8.ofNat k)) by rw [crD_step, hat0, hpl])
    have HRK := Lib.hid (crD_right (ws := ws) HRI.out HN.out.1 k (by omega))
    obtain ⟨na, nc, na', nc', hNow, hDNow⟩ := DskIn.at HI8.out.now (show (crD ss n ws k).secs.length = n from HN.out.1) (crD_dirty ss n ws k)
    have HNow := Lib.hid hNow
    have HDNow := Lib.hid hDNow
    obtain ⟨sk, hsk⟩ : ∃ s, secB (UInt8.ofNat k) = s := ⟨_, rfl⟩
    have HSK := Lib.hid (show sk.size = 128 by rw [← hsk]; exact secB_size _)
    rw [hsk] at HST
    have SAk := SA.out k (by omega)
    rw [hsk] at SAk
    have SAk := Lib.hid SAk
    have SV := Lib.hid (show ∀ (w3 : World) (b : Nat), Below W8.heap.size W8 w3 → w3.cell? ⟨b, 0, none⟩ = some (.int .i64 ka) → w3.cell? ⟨b, 0 + 1, none⟩ = some (.string sk) → Calls Try.prog 10 #[.agg #[.slice na n nc, .slice na' k nc'], .slice (some ⟨b, 0, none⟩) 1 1] w3 fun e w4 => ∃ a c a' c', e = .returned (.tuple #[.agg #[.slice a n c, .slice a' (k + 1) c'], .int .i64 0]) ∧ DskAt w4 (.agg #[.slice a n c, .slice a' (k + 1) c']) (crD ss n ws (k + 1)) ∧ Below W8.heap.size W8 w4 ∧ Below w3.heap.size w3 w4 from fun w3 b h3 e0 e1 => by
      have hl : PairsAt w3 (.slice (some ⟨b, 0, none⟩) 1 1) ([((ka : Int), sk)].map writeCell) := Or.inr ⟨b, 0, 1, rfl, by simp, by simp, by decide, fun i hi => by
        obtain rfl : i = 0 := by simpa using hi
        exact ⟨e0, e1⟩⟩
      have := Save_t _ _ (crD ss n ws k) _ w3 (HDNow.out.keep h3) hl (fun x hx => by rw [List.mem_singleton.1 hx]; refine ⟨?_, by show -9223372036854775808 ≤ (ka : Int); omega, by show (ka : Int) ≤ 9223372036854775807; omega⟩; show sk.size ≤ maxLen; rw [HSK.out]; decide) (by simp)
      rw [saveD_one HRK.out ((ka : Int), sk) (by rw [crD_dirty]; omega) (by show (0 : Int) ≤ (ka : Int); omega) (by show (ka : Int) < ((ss.length : Nat) : Int); rw [HN.out.1]; omega) HSK.out, ← HST.out] at this
      refine this.mono ?_
      rintro e w4 ⟨v, rfl, hv, hb4⟩
      obtain ⟨a, c, a', c', rfl, -, -⟩ := hv.shape
      rw [show (crD ss n ws (k + 1)).secs.length = n from HN.out.1, crD_dirty] at hv ⊢
      exact ⟨a, c, a', c', rfl, hv, Below.then h3 hb4, hb4⟩)
    have hbr := Below.refl W8.heap.size W8
    obtain ⟨a0, a1⟩ := hNow.cells
    obtain ⟨x0, x1⟩ := HX.out.cells
    obtain ⟨b0, b1⟩ := HI8.out.box.cells
    have hn0 : ¬ ((n : Int) = 0) := by omega
    have hn3 : ¬ (n = 0) := by omega
    have hw1 : IntKind.i64.wrap (r1 + (n : Int)) = r1 + (n : Int) := by rw [IntKind.wrap_i64]; omega
    have hw2 : IntKind.u8.wrap (k : Int) = (k : Int) := by show (k : Int) % 256 = k; omega
    have l1 : bN < W8.heap.size := HNow.out.lt
    have l2 : bx < W8.heap.size := HX.out.lt
    have l3 : B < W8.heap.size := HI8.out.box.lt
    clear hNow hDNow hsk hpl hat0 hx hb8 hW8 hbx
    go_upto_region 10 with fail
    rw [HBX.out, HW8.out]
    go_cut [11, 12] from 45 to 68 (fun x y wx => y = .int .i64 0 ∧ ∃ b11 : Nat, x = .pointer (some ⟨b11, 0, none⟩) ∧ Below W8.heap.size W8 wx ∧ DskIn wx b11 (crD ss n ws (k + 1)))
    case first =>
      go_region_held3 (fun w' => w'.cell? ⟨bN, 0, none⟩ = some (.slice na n nc) ∧ w'.cell? ⟨bN, 1, none⟩ = some (.slice na' k nc') ∧ w'.cell? ⟨bx, 0, none⟩ = some (.int .i64 ax) ∧ w'.cell? ⟨B, 0, none⟩ = some (.slice xa n xc))
        (first
          | exact ⟨a0, a1, x0, b0⟩
          | exact ⟨Below.keepc (below_new _ _) a0, Below.keepc (below_new _ _) a1, Below.keepc (below_new _ _) x0, Below.keepc (below_new _ _) b0⟩
          | exact ⟨Below.keepc (Below.then (below_new _ _) (below_new _ _)) a0, Below.keepc (Below.then (below_new _ _) (below_new _ _)) a1, Below.keepc (Below.then (below_new _ _) (below_new _ _)) x0, Below.keepc (Below.then (below_new _ _) (below_new _ _)) b0⟩
          | exact ⟨Below.keepc (below_new _ _).drew a0, Below.keepc (below_new _ _).drew a1, Below.keepc (below_new _ _).drew x0, Below.keepc (below_new _ _).drew b0⟩
          | exact ⟨Below.keepc (Below.then (Below.refl _ _).drew (below_new _ _)) a0, Below.keepc (Below.then (Below.refl _ _).drew (below_new _ _)) a1, Below.keepc (Below.then (Below.refl _ _).drew (below_new _ _)) x0, Below.keepc (Below.then (Below.refl _ _).drew (below_new _ _)) b0⟩
          | exact ⟨Below.keepc (Below.refl _ _).drew a0, Below.keepc (Below.refl _ _).drew a1, Below.keepc (Below.refl _ _).drew x0, Below.keepc (Below.refl _ _).drew b0⟩
          | exact ⟨Below.keepc (Below.then (Below.then (below_new _ _) (below_new _ _)) (below_new _ _)) a0, Below.keepc (Below.then (Below.then (below_new _ _) (below_new _ _)) (below_new _ _)) a1, Below.keepc (Below.then (Below.then (below_new _ _) (below_new _ _)) (below_new _ _)) x0, Below.keepc (Below.then (Below.then (below_new _ _) (below_new _ _)) (below_new _ _)) b0⟩
          | exact ⟨(cell_set2 (by omega) _ _).trans a0, (cell_set2 (by omega) _ _).trans a1, (cell_set2 (by omega) _ _).trans x0, (cell_set2 (by omega) _ _).trans b0⟩)
        (first
        | (go_simp; go_at_call 14; refine (SAk.out _).mono ?_; rintro e wS ⟨rfl, hbS0⟩
           have hbS : Below W8.heap.size W8 wS := (by first | exact Below.then hbr.drew hbS0 | exact Below.then (Below.then hbr (below_new _ _)).drew hbS0 | exact Below.then (Below.then hbr.drew (below_new _ _)) hbS0)
           have hsz := hbS.size
           obtain ⟨a0, a1⟩ := (HNow.out.keep hbS).cells
           obtain ⟨x0, x1⟩ := (HX.out.keep hbS).cells
           obtain ⟨b0, b1⟩ := (HI8.out.box.keep hbS).cells
           first
             | (have hzS : At2 25 wS W8.heap.size nilV nilV := At2.keep (w := (W8.alloc (.cells #[nilV, nilV] 25)).drew) (At2.new _ W8 _ _) hbS0
                skip)
             | (have hzS : At2 25 wS W8.heap.size nilV nilV := At2.keep (w := W8.drew.alloc (.cells #[nilV, nilV] 25)) (At2.new _ W8.drew _ _) hbS0
                skip)
             | skip)
        | (go_simp; go_at_call 10
           refine (SV.out _ _ (by first | exact (Below.then hbS (below_new _ _)) | exact Below.then hbS (Below.then (below_new _ _) (below_new _ _))) (by first | exact (At2.new1 _ _ _ _ (by simp)).cells.1 | exact ((At2.new _ _ _ _).keep (below_new _ _)).cells.1) (by first | exact (At2.new1 _ _ _ _ (by simp)).cells.2 | exact ((At2.new _ _ _ _).keep (below_new _ _)).cells.2)).mono ?_
           rintro e w4 ⟨a4, c4, a4', c4', rfl, hd4, hb4, hk4⟩
           have hsz4 := hb4.size
           obtain ⟨a0, a1⟩ := (HNow.out.keep hb4).cells
           obtain ⟨x0, x1⟩ := (HX.out.keep hb4).cells
           obtain ⟨b0, b1⟩ := (HI8.out.box.keep hb4).cells
           first
             | (have hz : At2 25 w4 (wS.heap.size + 1) nilV nilV := At2.keep (At2.new1 _ _ _ _ (by simp)) hk4
                obtain ⟨z0, z1⟩ := hz.cells
                obtain ⟨y0, y1⟩ := hz.free)
             | (have hz : At2 25 w4 wS.heap.size nilV nilV := At2.keep ((At2.new _ _ _ _).keep (below_new _ _)) hk4
                obtain ⟨z0, z1⟩ := hz.cells
                obtain ⟨y0, y1⟩ := hz.free)
             | (have hz : At2 25 w4 W8.heap.size nilV nilV := At2.keep (hzS.keep (below_new _ _)) hk4
                obtain ⟨z0, z1⟩ := hz.cells
                obtain ⟨y0, y1⟩ := hz.free)
             | skip))
      all_goals
        go_wp2_with fail
        go_meet
        first
          | exact ⟨rfl, _, rfl, Below.then hb4 (below_new _ _), DskIn.new hd4⟩
          | exact ⟨rfl, _, rfl, set2_below hb4 (by omega) _ _, DskIn.mk2 (hz.set _ _) (hd4.ns (set2_ns hz isSl_nil isSl_nil _ _))⟩
    case rest =>
      obtain ⟨rfl, b11, rfl, hbc, hin⟩ := hcut
      obtain ⟨ya, yc, ya', yc', hX, hDX⟩ := hin.at (show (crD ss n ws (k + 1)).secs.length = n from HN.out.1) (crD_dirty ss n ws (k + 1))
      have HXc := Lib.hid hX
      have HDX := Lib.hid hDX
      have HNc := Lib.hid (HNow.out.keep hbc)
      have HIN := Lib.hid (show DskIn wc bN (crD ss n ws k) from ((HI8.out.now)).keep hbc)
      have HOc := Lib.hid (HO8.out.keep hbc)
      have HBc := Lib.hid (below_then HBR8.out hbc hR8)
      have hRc : R0 ≤ wc.heap.size := Nat.le_trans hR8 hbc.size
      obtain ⟨x0, x1⟩ := hX.cells
      obtain ⟨z0, z1⟩ := HNc.out.cells
      obtain ⟨f0, f1⟩ := HNc.out.free
      clear hX hDX hin hbc SV SAk HDNow HNow HI8 HO8 HBR8 a0 a1 hbr b0 b1 hw1 hw2 l1 l2 l3
      go_upto_region 13 with fail
      obtain ⟨x0m, x1m⟩ := (HXc.out.keep (below_new wc (.cells #[.int .i64 1] 3))).cells
      obtain ⟨z0m, z1m⟩ := (HNc.out.keep (below_new wc (.cells #[.int .i64 1] 3))).cells
      obtain ⟨f0m, f1m⟩ := (HNc.out.keep (below_new wc (.cells #[.int .i64 1] 3))).free
      go_region_law (first
        | (refine step_append_ints (R := R0) (g := g) (cap := cap) (k := k) (by rfl) (.tmp 72) (.tmp 73) (by rfl) (by rfl) (by rfl) (HOc.out.keep (below_new _ _).drew) (Below.keepc (Below.refl _ _).drew (cell_new1 wc _ _)) (by omega) (by simp; omega) ?_; intro g' cap' w' hrow' hgrow'
           obtain ⟨hN', hX', hD', hb'⟩ := all_a (below_new _ _).drew hgrow' HOc.out HNc.out HXc.out HDX.out HBc.out hRc
           obtain ⟨x0, x1⟩ := hX'.cells
           obtain ⟨z0, z1⟩ := hN'.cells
           obtain ⟨f0, f1⟩ := hN'.free))
      all_goals
        have HF := Lib.hid (show DskIn (set2 w' bN (.slice ya n yc) (.slice ya' (k + 1) yc')) bN (crD ss n ws (k + 1)) from DskIn.mk2 (hN'.set _ _) (hD'.ns (set2_ns hN' (isSl_mk _ _ _) (isSl_mk _ _ _) _ _)))
        have HFR := Lib.hid (hrow'.set2 hN' (.slice ya n yc) (.slice ya' (k + 1) yc'))
        have HFB := Lib.hid (set2_below hb' (show R0 ≤ bN by rw [← HBN.out, HR0.out]; omega) (.slice ya n yc) (.slice ya' (k + 1) yc'))
        have hsz : R0 ≤ (set2 w' bN (.slice ya n yc) (.slice ya' (k + 1) yc')).heap.size := by have := HFB.out.size; have := HR0.out; omega
        clear hN' hX' hD' hb' hrow' hgrow' x0 x1 z0 z1 f0 f1
        go_wp2_with fail
        go_roundw
        case rel => exact ⟨k + 1, g', cap', by omega, by omega, by go_num, rfl, HFR.out, CK.out _ _ HF.out HFB.out, HFB.out, hsz⟩
        case measure => simp [intOf]; omega
end Go.Proofs.Ytcjngaapiomkbaa
