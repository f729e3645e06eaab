/-
  The digest's mixed by its contract. Conditions: words are of 32 bits; the table of the 64 constants lies where it lies.
  The digest's adder takes bytes: add by its contract. Conditions: fewer than 2^60 bytes in all; the tables lie where they lie.
-/
import Derived.Test.YtepcaglekgeamaaGreatDoorYSha1
import Derived.Lib.BufferWrite
import Derived.Deep.RegionLaw
import Derived.Deep.MidRow
import Derived.Lib.LazyBuf
import Derived.Lib.IndexBytes
namespace Go.Proofs.YtepcaglekgeamaaGreatDoor
open Go.RowKit

structure Tabs (w : World) : Prop where
  many : 2 ≤ w.heap.size
  cubes : ∀ i, i < 64 → w.cell? ⟨1, i, none⟩ = some (wordAt keysL i)
  squares : ∃ t fr, w.heap[0]? = some (.cells ((begins.toL.map (Value.int .u32)).toArray) t fr)

theorem Tabs.keep {w w' : World} {B : Nat} (h : Tabs w) (hB : 2 ≤ B) (hb : Below B w w') : Tabs w' :=
  ⟨Nat.le_trans h.many hb.size, fun i hi => (hb.cell (p := ⟨1, i, none⟩) (show 1 < B from Nat.lt_of_lt_of_le (by decide) hB)).trans (h.cubes i hi), by obtain ⟨t, fr, e⟩ := h.squares; exact ⟨t, fr, (hb.block _ (Nat.lt_of_lt_of_le (by decide) hB)).trans e⟩⟩

def MixedRows (w : World) (s : St) (W : List Int) (wr : World) : Prop :=
  wr.heap.size = w.heap.size + 1 + 1 + 1 ∧ wr.rowIs w.heap.size 113 8 (wordAt s.toL) ∧ wr.rowIs (w.heap.size + 1) 131 64 (wordAt W) ∧ wr.rowIs (w.heap.size + 1 + 1) 113 8 (wordAt []) ∧ Below w.heap.size w wr

def zeros8 : Array Value := #[.int .u32 0, .int .u32 0, .int .u32 0, .int .u32 0, .int .u32 0, .int .u32 0, .int .u32 0, .int .u32 0]

theorem rowIs_alloc_words (w : World) (ws : List Int) (t : TypeId) (n : Nat) (h : ws.length = n) : (w.alloc (.cells ((ws.map (Value.int .u32)).toArray) t)).rowIs w.heap.size t n (wordAt ws) := by
  have h1 := World.rowIs_alloc w ((ws.map (Value.int .u32)).toArray) t (wordAt ws) (fun i hi => by
    simp only [List.size_toArray, List.length_map] at hi
    simp [wordAt, hi])
  have e : ((ws.map (Value.int .u32)).toArray).size = n := by simp [h]
  rwa [e] at h1

theorem MixedRows.start (w : World) (s : St) (W : List Int) (hW : W.length = 64) :
    MixedRows w s W (((w.alloc (.cells ((s.toL.map (Value.int .u32)).toArray) 113)).alloc (.cells ((W.map (Value.int .u32)).toArray) 131)).alloc (.cells zeros8 113)) := by
  have h1 := rowIs_alloc_words w s.toL 113 8 rfl
  have h2 := rowIs_alloc_words (w.alloc (.cells ((s.toL.map (Value.int .u32)).toArray) 113)) W 131 64 hW
  have h3 := World.rowIs_alloc ((w.alloc (.cells ((s.toL.map (Value.int .u32)).toArray) 113)).alloc (.cells ((W.map (Value.int .u32)).toArray) 131)) zeros8 113 (wordAt []) (fun i hi => by
    match i, hi with
    | 0, _ => rfl
    | 1, _ => rfl
    | 2, _ => rfl
    | 3, _ => rfl
    | 4, _ => rfl
    | 5, _ => rfl
    | 6, _ => rfl
    | 7, _ => rfl
    | i + 8, hi => exact absurd hi (by show ¬ i + 8 < 8; omega))
  simp only [World.size_alloc] at h2 h3
  exact ⟨by simp, (h1.alloc _).alloc _, h2.alloc _, h3, (((Below.refl _ _).alloc (Nat.le_refl _) _).alloc (by simp) _).alloc (by simp; omega) _⟩

theorem MixedRows.drewN {w wr : World} {s : St} {W : List Int} (h : MixedRows w s W wr) (n : Nat) : MixedRows w s W (wr.drewN n) := ⟨h.1, h.2.1, h.2.2.1, h.2.2.2.1, h.2.2.2.2.trans ⟨rfl, rfl, rfl, Nat.le_refl _, fun _ _ => rfl⟩⟩

theorem info8 {C : Array Value} (h : C.size = 8) : (Tryz.prog.info? 113).map (·.size) = some C.size := by rw [h]; kernel_rfl

def addAt (s r : St) (k i : Nat) : Value := if i < k then .int .u32 ((r.toL.getD i 0 + s.toL.getD i 0) % 4294967296) else .int .u32 (r.toL.getD i 0)

theorem addAt_all {s r : St} : ∀ i, i < 8 → addAt s r 8 i = wordAt (r.add s).toL i := by
  intro i hi
  unfold addAt wordAt
  rw [if_pos hi]
  match i, hi with
  | 0, _ => rfl
  | 1, _ => rfl
  | 2, _ => rfl
  | 3, _ => rfl
  | 4, _ => rfl
  | 5, _ => rfl
  | 6, _ => rfl
  | 7, _ => rfl
  | i + 8, hi => exact absurd hi (by omega)

def MixedRows2 (w : World) (s r : St) (k : Nat) (wr : World) : Prop :=
  wr.rowIs w.heap.size 113 8 (wordAt s.toL) ∧ wr.rowIs (w.heap.size + 1 + 1) 113 8 (wordAt []) ∧ wr.rowIs (w.heap.size + 1 + 1 + 1) 113 8 (addAt s r k) ∧ Below w.heap.size w wr

theorem MixedRows2.drewN {w wr : World} {s r : St} {k : Nat} (h : MixedRows2 w s r k wr) (n : Nat) : MixedRows2 w s r k (wr.drewN n) := ⟨h.1, h.2.1, h.2.2.1, h.2.2.2.trans ⟨rfl, rfl, rfl, Nat.le_refl _, fun _ _ => rfl⟩⟩

theorem MixedRows2.start {w wr : World} {s : St} {W : List Int} (h : MixedRows w s W wr) (r : St) : MixedRows2 w s r 0 (wr.alloc (.cells ((r.toL.map (Value.int .u32)).toArray) 113)) := by
  obtain ⟨hz, h1, h2, h3, hb⟩ := h
  have h4 := rowIs_alloc_words wr r.toL 113 8 rfl
  rw [hz] at h4
  exact ⟨h1.alloc _, h3.alloc _, h4.congr (fun i _ => by unfold addAt wordAt; rw [if_neg (Nat.not_lt_zero i)]), hb.alloc (by omega) _⟩

theorem MixedRows2.set {w wr : World} {s r : St} (k : Nat) (h : MixedRows2 w s r k wr) : MixedRows2 w s r (k + 1) (wr.setCell ⟨w.heap.size + 1 + 1 + 1, k, none⟩ (.int .u32 ((r.toL.getD k 0 + s.toL.getD k 0) % 4294967296))) := by
  obtain ⟨h1, h2, h3, hb⟩ := h
  refine ⟨h1.setOther (show w.heap.size ≠ w.heap.size + 1 + 1 + 1 by omega) _, h2.setOther (show w.heap.size + 1 + 1 ≠ w.heap.size + 1 + 1 + 1 by omega) _, (h3.set k _).congr fun i _ => ?_, hb.setCell (show w.heap.size ≤ w.heap.size + 1 + 1 + 1 by omega) _⟩
  unfold addAt
  by_cases e : i = k
  · subst e; rw [if_pos rfl, if_pos (by omega)]
  · rw [if_neg e]
    by_cases e2 : i < k
    · rw [if_pos e2, if_pos (by omega)]
    · rw [if_neg e2, if_neg (by omega)]

set_option maxRecDepth 100000 in
set_option maxHeartbeats 4000000 in
theorem mixed_any (s : St) (W : List Int) (w : World) (hs : s.Ok) (hW : W.length = 64) (hWu : ∀ x ∈ W, U32 x) (ht : Tabs w) :
    Calls Tryz.prog 92 #[.agg ((s.toL.map (Value.int .u32)).toArray), .agg ((W.map (Value.int .u32)).toArray)] w fun e w' => e = .returned (.agg (((s.add (rounds s W 64)).toL.map (Value.int .u32)).toArray)) ∧ Below w.heap.size w w' := by
  have HS := Lib.hid (MixedRows.start w s W hW)
  obtain ⟨cs, hcs⟩ : ∃ cs : Array Value, ((s.toL.map (Value.int .u32)).toArray) = cs := ⟨_, rfl⟩
  obtain ⟨ct, hct⟩ : ∃ ct : Array Value, ((W.map (Value.int .u32)).toArray) = ct := ⟨_, rfl⟩
  obtain ⟨C, hC⟩ : ∃ C : Array Value, (((s.add (rounds s W 64)).toL.map (Value.int .u32)).toArray) = C := ⟨_, rfl⟩
  rw [hcs, hct] at HS ⊢
  rw [hC]
  have HC := Lib.hid hC
  have HU := Lib.hid hWu
  have HW := Lib.hid hW
  have HT := Lib.hid ht
  have ok0 := Lib.hid hs
  clear hcs hct hC hWu hW ht
  go_enter Tryz.func92, Tryz.ntmps92
  go_wp2_with fail
  obtain ⟨w0, hw0⟩ : ∃ w0 : World, ((w.alloc (.cells cs 113)).alloc (.cells ct 131)).alloc (.cells zeros8 113) = w0 := ⟨_, rfl⟩
  rw [hw0] at HS
  unfold zeros8 at hw0
  rw [hw0]
  have HW0 := Lib.hid hw0
  clear hw0
  obtain ⟨hz, hr1, hr2, hr3, hb⟩ := HS.out
  have c0 := hr1.cell (i := 0) (by omega)
  have c1 := hr1.cell (i := 1) (by omega)
  have c2 := hr1.cell (i := 2) (by omega)
  have c3 := hr1.cell (i := 3) (by omega)
  have c4 := hr1.cell (i := 4) (by omega)
  have c5 := hr1.cell (i := 5) (by omega)
  have c6 := hr1.cell (i := 6) (by omega)
  have c7 := hr1.cell (i := 7) (by omega)
  unfold wordAt St.toL at c0 c1 c2 c3 c4 c5 c6 c7
  simp only [List.getD_cons_zero, List.getD_cons_succ] at c0 c1 c2 c3 c4 c5 c6 c7
  clear hz hr1 hr2 hr3 hb hs
  go_quiet (fail)
  generalize nq = n1
  go_wp2_with fail
  go_quiet (fail)
  generalize nq = n2
  go_wp2_with fail
  have HR := Lib.hid ((HS.out.drewN n1).drewN n2)
  clear c0 c1 c2 c3 c4 c5 c6 c7
  go_loopw [5, 6, 7, 8, 9, 10, 11, 12, 34] (fun a b c d e f g h i wr => ∃ t : Nat, t ≤ 64 ∧ i = .int .i64 t ∧ a = .int .u32 (rounds s W t).a ∧ b = .int .u32 (rounds s W t).b ∧ c = .int .u32 (rounds s W t).c ∧ d = .int .u32 (rounds s W t).d ∧ e = .int .u32 (rounds s W t).e ∧ f = .int .u32 (rounds s W t).f ∧ g = .int .u32 (rounds s W t).g ∧ h = .int .u32 (rounds s W t).h ∧ MixedRows w s W wr) (fun _ _ _ _ _ _ _ _ i _ => 64 - (intOf i).toNat)
  case atStart => exact ⟨0, Nat.zero_le _, rfl, rfl, rfl, rfl, rfl, rfl, rfl, rfl, rfl, HR.out⟩
  case round =>
    clear HR
    obtain ⟨t, ht, rfl, rfl, rfl, rfl, rfl, rfl, rfl, rfl, rfl, hr⟩ := hrel
    have HM := Lib.hid hr
    have okr := rounds_ok ok0.out W t
    by_cases hlt : t < 64
    · have kk := (HT.out.keep HT.out.many hr.2.2.2.2).cubes t hlt
      have kw := hr.2.2.1.cell (i := t) (by omega)
      have uk := Lib.hid (keysL_u32 t)
      have uw := Lib.hid (getD_u32 HU.out t)
      have HN := Lib.hid (rounds_succ' s W t)
      unfold wordAt at kk kw
      clear hr
      generalize keysL.getD t 0 = k at kk uk HN
      generalize W.getD t 0 = x at kw uw HN
      generalize rounds s W t = r at okr HN
      obtain ⟨a, b, c, d, e, f, g, h⟩ := r
      obtain ⟨ua, ub, uc, ud, ue, uf, ug, uh⟩ := okr
      simp only [] at ua ub uc ud ue uf ug uh
      have va := Lib.hid ua
      have ve := Lib.hid ue
      obtain ⟨a0, a1⟩ := ua
      obtain ⟨b0, b1⟩ := ub
      obtain ⟨c0, c1⟩ := uc
      obtain ⟨d0, d1⟩ := ud
      obtain ⟨e0, e1⟩ := ue
      obtain ⟨f0, f1⟩ := uf
      obtain ⟨g0, g1⟩ := ug
      obtain ⟨h0, h1⟩ := uh
      obtain ⟨k0, k1⟩ := uk.out
      obtain ⟨x0, x1⟩ := uw.out
      have T1 := Lib.hid (fun w => turns_any e 6 11 25 w ve.out (by decide) (by decide) (by decide))
      have T2 := Lib.hid (fun w => turns_any a 2 13 22 w va.out (by decide) (by decide) (by decide))
      go_wp2_with fail
      go_quiet ((go_at_call 115; exact Calls.quiet_of_same ((T1.out _).mono fun _ _ ⟨h1, h2⟩ => ⟨h1, h2.symm⟩)))
      go_wp2_with fail
      refine (T2.out _).mono ?_
      rintro e w2 ⟨rfl, rfl⟩
      go_wp2_with fail
      go_roundw
      case rel =>
        refine ⟨t + 1, by omega, by go_num, ?_, ?_, ?_, ?_, ?_, ?_, ?_, ?_, HM.out.drewN nq⟩ <;> rw [HN.out] <;> rfl
      case measure => simp [intOf]; omega
    · have t64 := Lib.hid (show t = 64 by omega)
      have HC' := Lib.hid (show (((rounds s W t).add s).toL.map (Value.int .u32)).toArray = C by rw [t64.out, St.add_comm]; exact HC.out)
      clear hr
      generalize rounds s W t = r at okr HC'
      have hz := HM.out.1
      have HM0 := Lib.hid (MixedRows2.start HM.out r)
      obtain ⟨a, b, c, d, e, f, g, h⟩ := r
      go_wp2_with fail
      go_loopw [94] (fun i wr => ∃ k : Nat, k ≤ 8 ∧ i = .int .i64 k ∧ MixedRows2 w s ⟨a, b, c, d, e, f, g, h⟩ k wr) (fun i _ => 8 - (intOf i).toNat)
      case atStart => exact ⟨0, Nat.zero_le _, rfl, HM0.out⟩
      case round =>
        clear HM0 hz HM
        obtain ⟨k, hk, rfl, hr1, hr2, hr3, hb⟩ := hrel
        by_cases hlt : k < 8
        · have c0 := hr1.cell (i := k) (by omega)
          have c1 := hr3.cell (i := k) (by omega)
          have f0 := hr3.frozen k
          have HM := Lib.hid (show MixedRows2 w s ⟨a, b, c, d, e, f, g, h⟩ k wr from ⟨hr1, hr2, hr3, hb⟩)
          clear hr1 hr2 hr3 hb
          unfold wordAt at c0
          unfold addAt at c1
          rw [if_neg (Nat.lt_irrefl k)] at c1
          go_wp2_with fail
          go_region
          go_wp2_with fail
          go_roundw
          case rel =>
            refine ⟨k + 1, by omega, by go_num, ?_⟩
            exact (MixedRows2.set k HM.out).drewN 1
          case measure => simp [intOf]; omega
        · have k8 := Lib.hid (show k = 8 by omega)
          rw [k8.out] at hr3
          have hc3 := rowIs_words hr3 (St.add ⟨a, b, c, d, e, f, g, h⟩ s).toL rfl addAt_all
          rw [HC'.out] at hc3
          have hsz : C.size = 8 := by rw [← HC'.out]; rfl
          have h1 : C.all (·.oneCell') = true := by rw [← HC'.out]; simp [St.toL, Value.oneCell']
          obtain ⟨D, hD, hDs, -⟩ := hr2
          have HC3 := Lib.hid hc3
          have HC2 := Lib.hid hD
          have HSZ := Lib.hid hsz
          have HDS := Lib.hid (hDs.trans hsz.symm)
          have HB := Lib.hid hb
          have H1 := Lib.hid h1
          clear hr1 hr3 hb hc3 hsz h1 hD hDs
          go_wp2_with (first | (refine wpList_load_row rfl 113 (.tmp 16) rfl (w.heap.size + 1 + 1 + 1) rfl 113 C (0, 0) _ HC3.out Tryz.underlying113 rfl (info8 HSZ.out) ?_) | (refine wpList_store_row rfl 113 (.tmp 4) (.tmp 106) rfl (w.heap.size + 1 + 1) C rfl rfl 113 D HC2.out (info8 HSZ.out) HDS.out H1.out ?_))
          have hfin : (wr.setRow (w.heap.size + 1 + 1) C).heap[w.heap.size + 1 + 1]? = some (.cells C 113 (0, 0)) := setRow_heap _ _ _ _ _ _ HC2.out
          exact bodyPost_ret (results_cell_row (p := 4) rfl _ _ (w.heap.size + 1 + 1) 113 C (0, 0) _ rfl hfin Tryz.underlying113 rfl (info8 HSZ.out)) rfl ⟨rfl, HB.out.trans (below_setRow (Below.refl _ _) (show w.heap.size ≤ w.heap.size + 1 + 1 by omega) _)⟩
end Go.Proofs.YtepcaglekgeamaaGreatDoor
namespace Go.Proofs.YtepcaglekgeamaaGreatDoor
open Go.RowKit

theorem run_copy_row_pre {P : Program} (w : World) (dT sT ty elem : TypeId) (g o dLen dCap : Nat) (s : ByteArray) (cur : Array Value) (t : TypeId)
    (hu : P.underlying dT = some (.slice elem)) (hs : (P.info? elem).map (·.size) = some 1) (hg : w.heap[g]? = some (.cells cur t (0, 0))) (m : Nat) (hm : Nat.min s.size dLen = m) (hfit : o + m ≤ cur.size) :
    (Builtin.copy_ #[dT, sT] ty #[.slice (some ⟨g, o, none⟩) dLen dCap, .string s]).run P w =
      .ok (goInt m) (w.setRow g (cur.toList.take o ++ Lib.byteCells (s.data.toList.take m) ++ cur.toList.drop (o + m)).toArray) := by
  have hlen : (Lib.byteCells (s.data.toList.take m)).length = m := by rw [Lib.byteCells_length, List.length_take, show s.data.toList.length = s.size by simp, ← hm]; exact Nat.min_eq_left (Nat.min_le_left _ _)
  have hst := run_storeCells_at P g o t (Lib.byteCells (s.data.toList.take m)) 0 cur w hg (by rw [hlen]; simpa using hfit) (Lib.byteCells_one _)
  have htk : List.take m (List.map (fun b : UInt8 => Value.int IntKind.u8 (b.toNat : Int)) s.data.toList) = Lib.byteCells (s.data.toList.take m) := by
    rw [← List.map_take]
    rfl
  rw [hlen] at hst
  simp only [Nat.add_zero] at hst
  cases hq : P.info? elem with
  | none => simp [hq] at hs
  | some i =>
    simp [Builtin.copy_, run_underlying hu, Builtin.lenOf, Builtin.firstCells, sizeOf, typeInfo, hq, hm]
    rw [htk, hst]
    simp [Result.andThen]

theorem sliceAt_block (b r : Nat) (v : Int) (hv : v = (r : Int)) (hr : r < 64) (w : World) :
    (Instr.sliceAt 114 (.pointer (some ⟨b, 8, none⟩)) (some (.int .u64 v)) none none).run Tryz.prog w = .ok (.slice (some ⟨b, 8 + r, none⟩) (64 - r) (64 - r)) w := by
  subst hv
  have hl : Tryz.prog.arrayLen 114 = 64 := by kernel_rfl
  have he : Tryz.prog.elem 114 = 5 := by kernel_rfl
  rw [run_sliceAt_array_l w 114 ⟨b, 8, none⟩ (by kernel_rfl) .u64 (r : Int) (Int.natCast_nonneg _) (by rw [hl]; omega), hl, he, Tryz.sizeOf5]
  simp only [Result.andThen_ok, Int.toNat_natCast, slicedAt, Nat.mul_one]
  rw [if_neg (by omega)]
  have : (⟨b, 8, none⟩ : Addr).add r = ⟨b, 8 + r, none⟩ := by unfold Addr.add; split <;> simp_all
  rw [this]

def adAt (s : St) (blk : List UInt8) (n i : Nat) : Value := if i < 8 then wordAt s.toL i else if i < 72 then byteAt blk (i - 8) else .int .u64 n

def Adder (b : Nat) (bs : List UInt8) (w : World) : Prop :=
  ∃ blk : List UInt8, blk.length = 64 ∧ blk.take (bs.length % 64) = bs.drop (64 * (bs.length / 64)) ∧ w.rowIs b 116 73 (adAt (chain bs (bs.length / 64)) blk bs.length)

def strLen : Value → Nat | .string x => x.size | _ => 0

theorem byteAt_getElem (l : List UInt8) (i : Nat) (h : i < l.length) : (Lib.byteCells l)[i]? = some (byteAt l i) := by
  unfold Lib.byteCells byteAt
  simp [h]

theorem adAt_copy (st : St) (blk : List UInt8) (n r m : Nat) (x : List UInt8) (cur : Array Value) (hbl : blk.length = 64) (hx : m ≤ x.length) (hrm : r + m ≤ 64) (hcs : cur.size = 73) (hca : ∀ i, i < 73 → cur[i]? = some (adAt st blk n i)) :
    ∀ i, i < 73 → (cur.toList.take (8 + r) ++ Lib.byteCells (x.take m) ++ cur.toList.drop (8 + r + m)).toArray[i]? = some (adAt st (blk.take r ++ x.take m ++ blk.drop (r + m)) n i) := by
  intro i hi
  have hcl : cur.toList.length = 73 := by simpa using hcs
  have hml : (Lib.byteCells (x.take m)).length = m := by rw [Lib.byteCells_length, List.length_take]; omega
  have hca' : ∀ i, i < 73 → cur.toList[i]? = some (adAt st blk n i) := fun i hi => by rw [Array.getElem?_toList]; exact hca i hi
  rw [List.getElem?_toArray]
  by_cases h1 : i < 8 + r
  · rw [List.append_assoc, List.getElem?_append_left (by simp; omega), List.getElem?_take_of_lt h1, hca' i hi]
    congr 1
    unfold adAt
    by_cases h8 : i < 8
    · rw [if_pos h8, if_pos h8]
    · rw [if_neg h8, if_neg h8, if_pos (by omega), if_pos (by omega)]
      unfold byteAt
      rw [List.getD_eq_getElem?_getD, List.getD_eq_getElem?_getD, List.append_assoc, List.getElem?_append_left (by simp; omega), List.getElem?_take_of_lt (by omega)]
  · by_cases h2 : i < 8 + r + m
    · rw [List.getElem?_append_left (by simp [hml, hcl]; omega), List.getElem?_append_right (by simp; omega)]
      have e : (cur.toList.take (8 + r)).length = 8 + r := by rw [List.length_take]; omega
      rw [e, byteAt_getElem _ _ (by rw [List.length_take]; omega)]
      congr 1
      unfold adAt
      rw [if_neg (by omega), if_pos (by omega)]
      unfold byteAt
      rw [List.getD_eq_getElem?_getD, List.getD_eq_getElem?_getD, List.append_assoc, List.getElem?_append_right (l₁ := blk.take r) (by simp; omega), List.getElem?_append_left (by simp; omega)]
      have e2 : (blk.take r).length = r := by rw [List.length_take]; omega
      rw [e2, show i - 8 - r = i - (8 + r) by omega]
    · have e : (cur.toList.take (8 + r) ++ Lib.byteCells (x.take m)).length = 8 + r + m := by rw [List.length_append, hml, List.length_take]; omega
      rw [List.getElem?_append_right (by rw [e]; omega)]
      rw [e, List.getElem?_drop, show 8 + r + m + (i - (8 + r + m)) = i by omega, hca' i hi]
      congr 1
      unfold adAt
      rw [if_neg (show ¬ i < 8 by omega), if_neg (show ¬ i < 8 by omega)]
      by_cases h72 : i < 72
      · rw [if_pos h72, if_pos h72]
        unfold byteAt
        rw [List.getD_eq_getElem?_getD, List.getD_eq_getElem?_getD, List.getElem?_append_right (by simp; omega)]
        have e2 : (blk.take r ++ x.take m).length = r + m := by rw [List.length_append, List.length_take, List.length_take]; omega
        rw [e2, List.getElem?_drop, show r + m + (i - 8 - (r + m)) = i - 8 by omega]
      · rw [if_neg h72, if_neg h72]

theorem rowIs_setRow {w : World} {b n : Nat} {t : TypeId} {f g : Nat → Value} (h : w.rowIs b t n f) (cs : Array Value) (hs : cs.size = n) (hc : ∀ i, i < n → cs[i]? = some (g i)) : (w.setRow b cs).rowIs b t n g := by
  obtain ⟨c, hb, _, _⟩ := h
  exact ⟨cs, setRow_heap w b c cs t (0, 0) hb, hs, hc⟩

theorem adder_came {w : World} {b n : Nat} {st : St} {blk : List UInt8} (h : w.rowIs b 116 73 (adAt st blk n)) (k : Nat) : (w.setCell ⟨b, 72, none⟩ (.int .u64 (k : Int))).rowIs b 116 73 (adAt st blk k) :=
  (h.set 72 _).congr fun i hi => by
    unfold adAt
    by_cases e : i = 72
    · subst e; rfl
    · rw [if_neg e]
      by_cases h8 : i < 8
      · rw [if_pos h8, if_pos h8]
      · rw [if_neg h8, if_neg h8, if_pos (by omega), if_pos (by omega)]

theorem adder_words {w : World} {b n : Nat} {st : St} {blk : List UInt8} (h : w.rowIs b 116 73 (adAt st blk n)) (st' : St) : (w.setCells b 0 (st'.toL.map (Value.int .u32))).rowIs b 116 73 (adAt st' blk n) :=
  (rowIs_setCells (st'.toL.map (Value.int .u32)) 0 w _ h).congr fun i hi => by
    have hl : (st'.toL.map (Value.int .u32)).length = 8 := rfl
    rw [hl]
    unfold adAt
    by_cases h8 : i < 8
    · rw [if_pos (by omega), if_pos h8]
      have hl2 : st'.toL.length = 8 := rfl
      unfold wordAt
      simp [List.getD_eq_getElem?_getD, hl2, h8]
    · rw [if_neg (by omega), if_neg h8, if_neg h8]

theorem adder_range0 {w : World} {b n : Nat} {st : St} {blk : List UInt8} (h : w.rowIs b 116 73 (adAt st blk n)) : w.rangeAt b 0 (st.toL.map (Value.int .u32)) := fun j v hv => by
  have hj : j < (st.toL.map (Value.int .u32)).length := (List.getElem?_eq_some_iff.1 hv).1
  have hj8 : j < 8 := hj
  rw [Nat.zero_add, h.cell (by omega), ← hv]
  unfold adAt wordAt
  rw [if_pos hj8]
  have hl2 : st.toL.length = 8 := rfl
  simp [List.getD_eq_getElem?_getD, hl2, hj8]

theorem adder_range8 {w : World} {b n : Nat} {st : St} {blk : List UInt8} (h : w.rowIs b 116 73 (adAt st blk n)) (hbl : blk.length = 64) : w.rangeAt b 8 (blk.map fun b => Value.int .u8 b.toNat) := fun j v hv => by
  have hj : j < (blk.map fun b => Value.int .u8 b.toNat).length := (List.getElem?_eq_some_iff.1 hv).1
  have hj64 : j < 64 := by simpa [hbl] using hj
  rw [h.cell (by omega), ← hv]
  unfold adAt byteAt
  rw [if_neg (by omega), if_pos (by omega), show 8 + j - 8 = j by omega]
  simp [List.getD_eq_getElem?_getD, hbl, hj64]

theorem adder_there {w : World} {b n : Nat} {st : St} {blk : List UInt8} (h : w.rowIs b 116 73 (adAt st blk n)) : w.there b 0 8 := fun j hj => ⟨by rw [h.cell (by omega)]; rfl, h.frozen _⟩

theorem block_more (q x : List UInt8) (blk : List UInt8) (n r m : Nat) (hn : q.length = n) (hr : n % 64 = r) (hbt : blk.take (n % 64) = q.drop (64 * (n / 64))) (hbl : blk.length = 64) (hx : m ≤ x.length) (hrm : r + m ≤ 64) :
    (blk.take r ++ x.take m ++ blk.drop (r + m)).length = 64 ∧ (blk.take r ++ x.take m ++ blk.drop (r + m)).take (r + m) = (q ++ x.take m).drop (64 * (n / 64)) := by
  have e : (blk.take r ++ x.take m).length = r + m := by rw [List.length_append, List.length_take, List.length_take]; omega
  refine ⟨by rw [List.length_append, e, List.length_drop]; omega, ?_⟩
  rw [List.take_left' e, List.drop_append_of_le_length (by omega), ← hbt, hr]

theorem chain_full (q y blk2 : List UInt8) (n : Nat) (hn : q.length = n) (h : blk2 = (q ++ y).drop (64 * (n / 64))) (hl : blk2.length = 64) : chain (q ++ y) (n / 64 + 1) = blockS (chain q (n / 64)) blk2 := by
  rw [chain_succ, chain_append _ _ _ (by omega), ← h, List.take_of_length_le (by omega)]

theorem below_range {b o : Nat} {w w' : World} {cs : List Value} (h : Below (b + 1) w w') (hr : w.rangeAt b o cs) : w'.rangeAt b o cs := fun j v hv => by
  rw [h.cell (p := ⟨b, o + j, none⟩) (Nat.lt_succ_self b)]; exact hr j v hv

theorem below_there {b o n : Nat} {w w' : World} (h : Below (b + 1) w w') (hr : w.there b o n) : w'.there b o n := fun j hj => by
  rw [h.cell (p := ⟨b, o + j, none⟩) (Nat.lt_succ_self b), h.frozen (p := ⟨b, o + j, none⟩) (Nat.lt_succ_self b)]; exact hr j hj

theorem step_load_mid {P : Program} {ops : Array Oper} {o : Oper} {a : Act} {w : World} {K : Act → World → Prop} {Q : Exit → Act → World → Prop} {E : Prop} (hg : o.guard = none) (ty : TypeId) (x : Operand) (ho : o.op = .load ty x)
    (b off : Nat) (hx : a.eval x = .pointer (some ⟨b, off, none⟩)) (cs : List Value) (d : TypeDesc) (hc : w.rangeAt b off cs) (hu : P.underlying ty = some d) (hd : d.isRow = true) (hi : (P.info? ty).map (·.size) = some cs.length)
    (h : K (a.put o.dst (.agg cs.toArray)) w) : if Region.wanted o (yielded ops a.tmps) = true then Oper.wp P o a w K Q else E := by
  rw [if_pos (by simp [Region.wanted, hg])]
  exact wp_load_mid ty x ho b off hx cs d hc hu hd hi h

theorem step_store_mid {P : Program} {ops : Array Oper} {o : Oper} {a : Act} {w : World} {K : Act → World → Prop} {Q : Exit → Act → World → Prop} {E : Prop} (hg : o.guard = none) (ty : TypeId) (x y : Operand) (ho : o.op = .store ty x y)
    (b off : Nat) (cells : Array Value) (hx : a.eval x = .pointer (some ⟨b, off, none⟩)) (hy : a.eval y = .agg cells) (ht : w.there b off cells.size) (hi : (P.info? ty).map (·.size) = some cells.size) (h1 : cells.all (·.oneCell') = true)
    (h : K (a.put o.dst undef) (w.setCells b off cells.toList)) : if Region.wanted o (yielded ops a.tmps) = true then Oper.wp P o a w K Q else E := by
  rw [if_pos (by simp [Region.wanted, hg])]
  exact wp_store_mid ty x y ho b off cells hx hy ht hi h1 h

set_option maxRecDepth 100000 in
set_option maxHeartbeats 4000000 in
theorem add_any (b : Nat) (bs : List UInt8) (s : ByteArray) (w : World) (hb : 2 ≤ b) (ha : Adder b bs w) (ht : Tabs w) (hn : bs.length + s.size < 1152921504606846976) :
    Calls Tryz.prog 72 #[.pointer (some ⟨b, 0, none⟩), .string s] w fun e w' => e = .returned (.tuple #[]) ∧ Adder b (bs ++ s.data.toList) w' ∧ Below b w w' := by
  have HA := Lib.hid ha
  have HT := Lib.hid ht
  clear ha ht
  go_enter Tryz.func72, Tryz.ntmps72
  go_wp2_with fail
  go_loopw [1] (fun v wr => ∃ (p : List UInt8) (x : ByteArray), s.data.toList = p ++ x.data.toList ∧ v = .string x ∧ Adder b (bs ++ p) wr ∧ Below b w wr) (fun v _ => strLen v)
  case atStart => exact ⟨[], s, rfl, rfl, by rw [List.append_nil]; exact HA.out, Below.refl _ _⟩
  case round =>
    obtain ⟨p, x, hp, rfl, ⟨blk, hbl, hbt, hrow⟩, hbb⟩ := hrel
    generalize hbs : bs ++ p = q at hbl hbt hrow
    by_cases hlt : 0 < x.size
    · have x1 : (x.toList == []) = false := by
        rw [Lib.toList_data]
        cases hx : x.data.toList with
        | nil => have h6 : x.data.toList.length = x.size := by simp
                 rw [hx] at h6; simp at h6; omega
        | cons _ _ => rfl
      have x2 : x.toList.isEmpty = false := by
        rw [Lib.toList_data]
        cases hx : x.data.toList with
        | nil => have h6 : x.data.toList.length = x.size := by simp
                 rw [hx] at h6; simp at h6; omega
        | cons _ _ => rfl
      obtain ⟨n, hn⟩ : ∃ n, q.length = n := ⟨_, rfl⟩
      rw [hn] at hrow hbt
      obtain ⟨r, hr⟩ : ∃ r, n % 64 = r := ⟨_, rfl⟩
      have hr1 : ((n : Int) % 64) = (r : Int) := by omega
      have hr2 : r < 64 := by omega
      have c72 := hrow.cell (i := 72) (by omega)
      rw [show adAt (chain q (n / 64)) blk n 72 = .int .u64 n from rfl] at c72
      have HR := Lib.hid hrow
      have HB := Lib.hid hbb
      have HBS := Lib.hid hbs
      have HN := Lib.hid hn
      have HBT := Lib.hid hbt
      have HBL := Lib.hid hbl
      have HRN := Lib.hid hr
      clear hrow hbb hbs hn hbt hbl hr
      obtain ⟨m, hm⟩ : ∃ m, Nat.min x.size (64 - r) = m := ⟨_, rfl⟩
      obtain ⟨cur, hcur, hcs, hca⟩ := HR.out
      have hsl := fun w => sliceAt_block b r ((n : Int) % 64) hr1 hr2 w
      have hslt := fun w => sliceAt_block b r ((n : Int).tmod 64) (by rw [Int.tmod_eq_emod_of_nonneg (Int.natCast_nonneg _)]; exact hr1) hr2 w
      clear hr1
      obtain ⟨CC, hCC⟩ : ∃ CC : Array Value, (cur.toList.take (8 + r) ++ Lib.byteCells (x.data.toList.take m) ++ cur.toList.drop (8 + r + m)).toArray = CC := ⟨_, rfl⟩
      have hcp := fun ty => run_copy_row_pre (P := Tryz.prog) wr.drew 63 9 ty 5 b (8 + r) (64 - r) (64 - r) x cur 116 Tryz.underlying63 (by kernel_rfl) hcur m hm (by have h2 : m ≤ 64 - r := hm ▸ Nat.min_le_right x.size (64 - r); omega)
      rw [hCC] at hcp
      have hm64 : m ≤ 64 - r := hm ▸ Nat.min_le_right x.size (64 - r)
      have hmx : m ≤ x.size := hm ▸ Nat.min_le_left x.size (64 - r)
      have hm0 : 0 < m := by rw [← hm]; exact Nat.lt_min.2 ⟨hlt, by omega⟩
      have hov : n + m < 1152921504606846976 := by
        have h1 : s.data.toList.length = p.length + x.data.toList.length := by rw [hp, List.length_append]
        have h2 : n = bs.length + p.length := by rw [← HN.out, ← HBS.out, List.length_append]
        simp only [Array.length_toList] at h1
        have h3 : s.data.size = s.size := rfl
        have h4 : x.data.size = x.size := rfl
        omega
      have hrow2 := Lib.hid (rowIs_setRow (w := wr.drew) HR.out CC (by rw [← hCC]; simp [Lib.byteCells_length]; omega) (by rw [← hCC]; exact adAt_copy (chain q (n / 64)) blk n r m x.data.toList cur HBL.out (by simpa using hmx) (by omega) hcs hca))
      have hbel2 := Lib.hid (below_setRow (B := b) (w0 := w) HB.out.drew (Nat.le_refl b) CC)
      have HP := Lib.hid hp
      clear hCC hm hcur hcs hca hp
      go_wp2_with fail
      go_region
      obtain ⟨hl2, ht2⟩ := block_more q x.data.toList blk n r m HN.out HRN.out HBT.out HBL.out (by simpa using hmx) (by omega)
      have HL2 := Lib.hid hl2
      have HT2 := Lib.hid ht2
      clear hl2 ht2
      generalize blk.take r ++ x.data.toList.take m ++ blk.drop (r + m) = blk2 at hrow2 HL2 HT2
      generalize wr.drew.setRow b CC = w3 at hrow2 hbel2 ⊢
      have c72' := hrow2.out.cell (i := 72) (by omega)
      rw [show adAt (chain q (n / 64)) blk2 n 72 = .int .u64 n from rfl] at c72'
      have f72 := hrow2.out.frozen 72
      have hrow3 := Lib.hid (show (w3.setCell ⟨b, 72, none⟩ (.int .u64 ((n : Int) + (m : Int)))).rowIs b 116 73 (adAt (chain q (n / 64)) blk2 (n + m)) from adder_came hrow2.out (n + m))
      have hbel3 := Lib.hid (hbel2.out.setCell (p := ⟨b, 72, none⟩) (Nat.le_refl b) (.int .u64 ((n : Int) + (m : Int))))
      have hrest : x.data.toList = x.data.toList.take m ++ (x.extract m x.size).data.toList := by
        rw [Lib.extract_to_end, List.take_append_drop]
      have hless : (x.extract m x.size).size < x.size := by rw [ByteArray.size_extract]; omega
      have hq2 := Lib.hid (show (q ++ x.data.toList.take m).length = n + m by
        have h5 : x.data.toList.length = x.size := by simp
        rw [List.length_append, List.length_take, HN.out, h5]
        omega)
      have HRE := Lib.hid hrest
      clear hrest c72 hsl hslt hcp HR HB
      by_cases hz : r + m = 64
      · have t1 : ((((n : Int) + (m : Int)) % 64) == 0) = true := by rw [beq_iff_eq]; have := HRN.out; omega
        have okst := Lib.hid (chain_ok q (n / 64))
        have hfull := Lib.hid (chain_full q (x.data.toList.take m) blk2 n HN.out (by have := HT2.out; rw [hz, List.take_of_length_le (by rw [HL2.out]; exact Nat.le_refl _)] at this; exact this) HL2.out)
        generalize chain q (n / 64) = st at hrow3 okst hfull
        have hws := Lib.hid (adder_range0 hrow3.out)
        have hbts := Lib.hid (adder_range8 hrow3.out HL2.out)
        have hth := Lib.hid (adder_there hrow3.out)
        have hb4 : b < (w3.setCell ⟨b, 72, none⟩ (.int .u64 ((n : Int) + (m : Int)))).heap.size := hrow3.out.lt
        have htab := Lib.hid (HT.out.keep hb hbel3.out)
        clear hbel2 hrow2
        go_wp2_with fail
        generalize w3.setCell ⟨b, 72, none⟩ (.int .u64 ((n : Int) + (m : Int))) = w4 at hrow3 hbel3 hws hbts hth hb4 htab ⊢
        have SP := Lib.hid (fun w => spread_any blk2 w HL2.out)
        obtain ⟨R, hR⟩ : ∃ R : Array Value, (((st.add (rounds st (sched blk2 48) 64)).toL.map (Value.int .u32)).toArray) = R := ⟨_, rfl⟩
        obtain ⟨SB, hSB⟩ : ∃ SB : Array Value, (((sched blk2 48).map (Value.int .u32)).toArray) = SB := ⟨_, rfl⟩
        obtain ⟨SW, hSW⟩ : ∃ SW : List Value, (st.toL.map (Value.int .u32)) = SW := ⟨_, rfl⟩
        obtain ⟨BW, hBW⟩ : ∃ BW : List Value, (blk2.map fun b => Value.int .u8 b.toNat) = BW := ⟨_, rfl⟩
        have MX := Lib.hid (fun w ht => mixed_any st (sched blk2 48) w okst.out (by rw [sched_length]) (sched_u32 _ _) ht)
        have hRs : R.size = 8 := by rw [← hR]; rfl
        have hR1 : R.all (·.oneCell') = true := by rw [← hR]; simp [St.toL, Value.oneCell']
        have hSWl : SW.length = 8 := by rw [← hSW]; rfl
        have hBWl : BW.length = 64 := by rw [← hBW, List.length_map, HL2.out]
        have hRI : (Tryz.prog.info? 113).map (·.size) = some R.size := by rw [hRs]; kernel_rfl
        have hSI : (Tryz.prog.info? 113).map (·.size) = some SW.length := by rw [hSWl]; kernel_rfl
        have hBI : (Tryz.prog.info? 114).map (·.size) = some BW.length := by rw [hBWl]; kernel_rfl
        rw [hR, hSB, hSW] at MX
        rw [hSB, hBW] at SP
        rw [hSW] at hws
        rw [hBW] at hbts
        have HR1 := Lib.hid hR1
        have HRI := Lib.hid hRI
        have HSI := Lib.hid hSI
        have HBI := Lib.hid hBI
        have HRE2 := Lib.hid hR
        have HRS := Lib.hid hRs
        have TB := Lib.hid (fun w' (h : Below (b + 1) w4 w') => htab.out.keep (B := b + 1) (by omega) h)
        have RW := Lib.hid (fun w' (h : Below (b + 1) w4 w') => below_range h hws.out)
        have RB := Lib.hid (fun w' (h : Below (b + 1) w4 w') => below_range h hbts.out)
        have RT := Lib.hid (fun w' (h : Below (b + 1) w4 w') => (show w'.there b 0 R.size from HRS.out ▸ below_there h hth.out))
        have B0 := Lib.hid ((Below.refl (b + 1) w4).drew)
        have hb5 : b < w4.drew.heap.size := hb4
        clear hR hSB hSW hBW hRs hR1 hSWl hBWl hRI hSI hBI
        refine wp_region_any (by kernel_rfl) ?_
        change wpAny _ _ _ _ _ _ _ (World.drew _)
        generalize w4.drew = w5 at B0 hb5 ⊢
        refine wpAny_take (i := 0) (v := .pointer (some ⟨b, 0, none⟩)) rfl (by kernel_rfl) (by kernel_rfl) (by kernel_rfl) (fun _ _ _ h => h) (Or.inl ⟨by rfl, ?_⟩) ?_
        · intro w; go_simp
        refine wpAny_take (i := 1) (v := .pointer (some ⟨b, 0, none⟩)) rfl (by kernel_rfl) (by kernel_rfl) (by kernel_rfl) (fun _ _ _ h => h) (Or.inl ⟨by rfl, ?_⟩) ?_
        · intro w; go_simp
        refine wpAny_take (i := 2) (v := .pointer (some ⟨b, 0, none⟩)) rfl (by kernel_rfl) (by kernel_rfl) (by kernel_rfl) (fun _ _ _ h => h) (Or.inl ⟨by rfl, ?_⟩) ?_
        · intro w; go_simp
        refine wpAny_take (i := 3) (v := .pointer (some ⟨b, 0, none⟩)) rfl (by kernel_rfl) (by kernel_rfl) (by kernel_rfl) (fun _ _ _ h => h) (Or.inl ⟨by rfl, ?_⟩) ?_
        · intro w; go_simp
        refine wpAny_take (i := 5) (v := .pointer (some ⟨b, 0, none⟩)) rfl (by kernel_rfl) (by kernel_rfl) (by kernel_rfl) (fun _ _ _ h => h) (Or.inl ⟨by rfl, ?_⟩) ?_
        · intro w; go_simp
        refine wpAny_take (i := 6) (v := .pointer (some ⟨b, 0, none⟩)) rfl (by kernel_rfl) (by kernel_rfl) (by kernel_rfl) (fun _ _ _ h => h) (Or.inl ⟨by rfl, ?_⟩) ?_
        · intro w; go_simp
        refine wpAny_take (i := 7) (v := .pointer (some ⟨b, 8, none⟩)) rfl (by kernel_rfl) (by kernel_rfl) (by kernel_rfl) (fun _ _ _ h => h) (Or.inl ⟨by rfl, ?_⟩) ?_
        · intro w; go_simp
        go_simp
        refine wpAny_ready (rs := [4, 8]) (by kernel_rfl) (by simp) ?_
        refine AllReady.cons (o := { dst := some 37, op := .load 113 (.tmp 36), type := 113, pos := _, after := _, guard := none }) rfl (fun K hK => ?_) (AllReady.cons (o := { dst := some 41, op := .load 114 (.tmp 40), type := 114, pos := _, after := _, guard := none }) rfl (fun K hK => ?_) AllReady.nil)
        · refine step_load_mid (by rfl) 113 (.tmp 36) (by rfl) b 0 (by rfl) SW _ (RW.out _ B0.out) Tryz.underlying113 rfl HSI.out ?_
          refine hK _ _ ?_
          clear hK K
          go_simp
          refine wpAny_ready (rs := [8]) (by kernel_rfl) (by simp) ?_
          refine AllReady.cons (o := { dst := some 41, op := .load 114 (.tmp 40), type := 114, pos := _, after := _, guard := none }) rfl (fun K hK => ?_) AllReady.nil
          refine step_load_mid (by rfl) 114 (.tmp 40) (by rfl) b 8 (by rfl) BW _ (RB.out _ B0.out) Tryz.underlying114 rfl HBI.out ?_
          refine hK _ _ ?_
          clear hK K
          go_simp
          refine wpAny_ready (rs := [9]) (by kernel_rfl) (by simp) ?_
          refine AllReady.cons (o := { dst := some 42, op := .call { callee := .value (.func 93), args := #[.tmp 41], argTypes := #[114] }, type := 131, pos := _, after := _, guard := none }) rfl (fun K hK => ?_) AllReady.nil
          go_simp
          go_at_call 93
          refine (SP.out _).mono ?_
          rintro e w6 ⟨rfl, hb6⟩
          have B6 := Lib.hid (B0.out.trans (hb6.mono hb5))
          clear hb6
          refine hK _ _ ?_
          clear hK K
          go_simp
          refine wpAny_ready (rs := [10]) (by kernel_rfl) (by simp) ?_
          refine AllReady.cons (o := { dst := some 43, op := .call { callee := .value (.func 92), args := #[.tmp 37, .tmp 42], argTypes := #[113, 131] }, type := 113, pos := _, after := _, guard := none }) rfl (fun K hK => ?_) AllReady.nil
          go_simp
          go_at_call 92
          refine (MX.out _ (TB.out _ B6.out)).mono ?_
          rintro e w7 ⟨rfl, hb7⟩
          have B7 := Lib.hid (B6.out.trans (hb7.mono (Nat.lt_of_lt_of_le hb4 B6.out.size)))
          clear hb7
          refine hK _ _ ?_
          clear hK K
          go_simp
          refine wpAny_take (i := 11) (v := .pointer (some ⟨b, 0, none⟩)) rfl (by kernel_rfl) (by kernel_rfl) (by kernel_rfl) (fun _ _ _ h => h) (Or.inl ⟨by rfl, ?_⟩) ?_
          · intro w; go_simp
          refine wpAny_take (i := 12) (v := .pointer (some ⟨b, 0, none⟩)) rfl (by kernel_rfl) (by kernel_rfl) (by kernel_rfl) (fun _ _ _ h => h) (Or.inl ⟨by rfl, ?_⟩) ?_
          · intro w; go_simp
          go_simp
          refine wpAny_ready (rs := [13]) (by kernel_rfl) (by simp) ?_
          refine AllReady.cons (o := { dst := none, op := .store 113 (.tmp 45) (.tmp 43), type := 0, pos := _, after := _, guard := none }) rfl (fun K hK => ?_) AllReady.nil
          refine step_store_mid (by rfl) 113 (.tmp 45) (.tmp 43) (by rfl) b 0 R (by rfl) (by rfl) (RT.out _ B7.out) HRI.out HR1.out ?_
          refine hK _ _ ?_
          clear hK K
          refine wpAny_done (by kernel_rfl) ?_ _
          go_wp2_with fail
          go_roundw
          case rel =>
            refine ⟨p ++ x.data.toList.take m, x.extract m x.size, ?_, rfl, ⟨blk2, HL2.out, ?_, ?_⟩, ?_⟩
            · rw [List.append_assoc, ← HRE.out]; exact HP.out
            · rw [← List.append_assoc, HBS.out, hq2.out, show (n + m) % 64 = 0 by have := HRN.out; omega]
              rw [List.take_zero, List.drop_eq_nil_of_le (by rw [hq2.out]; have := HRN.out; omega)]
            · rw [← List.append_assoc, HBS.out, hq2.out, show (n + m) / 64 = n / 64 + 1 by have := HRN.out; omega, hfull.out]
              have := adder_words (hrow3.out.of_block (B7.out.block b (Nat.lt_succ_self b))) (blockS st blk2)
              rw [← HRE2.out]
              exact this
            · exact below_setCells (Nat.le_refl b) _ _ _ (hbel3.out.trans (B7.out.mono (Nat.le_succ b)))
          case measure => exact hless
        · refine step_load_mid (by rfl) 114 (.tmp 40) (by rfl) b 8 (by rfl) BW _ (RB.out _ B0.out) Tryz.underlying114 rfl HBI.out ?_
          refine hK _ _ ?_
          clear hK K
          go_simp
          refine wpAny_ready (rs := [4, 9]) (by kernel_rfl) (by simp) ?_
          refine AllReady.cons (o := { dst := some 37, op := .load 113 (.tmp 36), type := 113, pos := _, after := _, guard := none }) rfl (fun K hK => ?_) (AllReady.cons (o := { dst := some 42, op := .call { callee := .value (.func 93), args := #[.tmp 41], argTypes := #[114] }, type := 131, pos := _, after := _, guard := none }) rfl (fun K hK => ?_) AllReady.nil)
          · refine step_load_mid (by rfl) 113 (.tmp 36) (by rfl) b 0 (by rfl) SW _ (RW.out _ B0.out) Tryz.underlying113 rfl HSI.out ?_
            refine hK _ _ ?_
            clear hK K
            go_simp
            refine wpAny_ready (rs := [9]) (by kernel_rfl) (by simp) ?_
            refine AllReady.cons (o := { dst := some 42, op := .call { callee := .value (.func 93), args := #[.tmp 41], argTypes := #[114] }, type := 131, pos := _, after := _, guard := none }) rfl (fun K hK => ?_) AllReady.nil
            go_simp
            go_at_call 93
            refine (SP.out _).mono ?_
            rintro e w6 ⟨rfl, hb6⟩
            have B6 := Lib.hid (B0.out.trans (hb6.mono hb5))
            clear hb6
            refine hK _ _ ?_
            clear hK K
            go_simp
            refine wpAny_ready (rs := [10]) (by kernel_rfl) (by simp) ?_
            refine AllReady.cons (o := { dst := some 43, op := .call { callee := .value (.func 92), args := #[.tmp 37, .tmp 42], argTypes := #[113, 131] }, type := 113, pos := _, after := _, guard := none }) rfl (fun K hK => ?_) AllReady.nil
            go_simp
            go_at_call 92
            refine (MX.out _ (TB.out _ B6.out)).mono ?_
            rintro e w7 ⟨rfl, hb7⟩
            have B7 := Lib.hid (B6.out.trans (hb7.mono (Nat.lt_of_lt_of_le hb4 B6.out.size)))
            clear hb7
            refine hK _ _ ?_
            clear hK K
            go_simp
            refine wpAny_take (i := 11) (v := .pointer (some ⟨b, 0, none⟩)) rfl (by kernel_rfl) (by kernel_rfl) (by kernel_rfl) (fun _ _ _ h => h) (Or.inl ⟨by rfl, ?_⟩) ?_
            · intro w; go_simp
            refine wpAny_take (i := 12) (v := .pointer (some ⟨b, 0, none⟩)) rfl (by kernel_rfl) (by kernel_rfl) (by kernel_rfl) (fun _ _ _ h => h) (Or.inl ⟨by rfl, ?_⟩) ?_
            · intro w; go_simp
            go_simp
            refine wpAny_ready (rs := [13]) (by kernel_rfl) (by simp) ?_
            refine AllReady.cons (o := { dst := none, op := .store 113 (.tmp 45) (.tmp 43), type := 0, pos := _, after := _, guard := none }) rfl (fun K hK => ?_) AllReady.nil
            refine step_store_mid (by rfl) 113 (.tmp 45) (.tmp 43) (by rfl) b 0 R (by rfl) (by rfl) (RT.out _ B7.out) HRI.out HR1.out ?_
            refine hK _ _ ?_
            clear hK K
            refine wpAny_done (by kernel_rfl) ?_ _
            go_wp2_with fail
            go_roundw
            case rel =>
              refine ⟨p ++ x.data.toList.take m, x.extract m x.size, ?_, rfl, ⟨blk2, HL2.out, ?_, ?_⟩, ?_⟩
              · rw [List.append_assoc, ← HRE.out]; exact HP.out
              · rw [← List.append_assoc, HBS.out, hq2.out, show (n + m) % 64 = 0 by have := HRN.out; omega]
                rw [List.take_zero, List.drop_eq_nil_of_le (by rw [hq2.out]; have := HRN.out; omega)]
              · rw [← List.append_assoc, HBS.out, hq2.out, show (n + m) / 64 = n / 64 + 1 by have := HRN.out; omega, hfull.out]
                have := adder_words (hrow3.out.of_block (B7.out.block b (Nat.lt_succ_self b))) (blockS st blk2)
                rw [← HRE2.out]
                exact this
              · exact below_setCells (Nat.le_refl b) _ _ _ (hbel3.out.trans (B7.out.mono (Nat.le_succ b)))
            case measure => exact hless
          · go_simp
            go_at_call 93
            refine (SP.out _).mono ?_
            rintro e w6 ⟨rfl, hb6⟩
            have B6 := Lib.hid (B0.out.trans (hb6.mono hb5))
            clear hb6
            refine hK _ _ ?_
            clear hK K
            go_simp
            refine wpAny_ready (rs := [4]) (by kernel_rfl) (by simp) ?_
            refine AllReady.cons (o := { dst := some 37, op := .load 113 (.tmp 36), type := 113, pos := _, after := _, guard := none }) rfl (fun K hK => ?_) AllReady.nil
            refine step_load_mid (by rfl) 113 (.tmp 36) (by rfl) b 0 (by rfl) SW _ (RW.out _ B6.out) Tryz.underlying113 rfl HSI.out ?_
            refine hK _ _ ?_
            clear hK K
            go_simp
            refine wpAny_ready (rs := [10]) (by kernel_rfl) (by simp) ?_
            refine AllReady.cons (o := { dst := some 43, op := .call { callee := .value (.func 92), args := #[.tmp 37, .tmp 42], argTypes := #[113, 131] }, type := 113, pos := _, after := _, guard := none }) rfl (fun K hK => ?_) AllReady.nil
            go_simp
            go_at_call 92
            refine (MX.out _ (TB.out _ B6.out)).mono ?_
            rintro e w7 ⟨rfl, hb7⟩
            have B7 := Lib.hid (B6.out.trans (hb7.mono (Nat.lt_of_lt_of_le hb4 B6.out.size)))
            clear hb7
            refine hK _ _ ?_
            clear hK K
            go_simp
            refine wpAny_take (i := 11) (v := .pointer (some ⟨b, 0, none⟩)) rfl (by kernel_rfl) (by kernel_rfl) (by kernel_rfl) (fun _ _ _ h => h) (Or.inl ⟨by rfl, ?_⟩) ?_
            · intro w; go_simp
            refine wpAny_take (i := 12) (v := .pointer (some ⟨b, 0, none⟩)) rfl (by kernel_rfl) (by kernel_rfl) (by kernel_rfl) (fun _ _ _ h => h) (Or.inl ⟨by rfl, ?_⟩) ?_
            · intro w; go_simp
            go_simp
            refine wpAny_ready (rs := [13]) (by kernel_rfl) (by simp) ?_
            refine AllReady.cons (o := { dst := none, op := .store 113 (.tmp 45) (.tmp 43), type := 0, pos := _, after := _, guard := none }) rfl (fun K hK => ?_) AllReady.nil
            refine step_store_mid (by rfl) 113 (.tmp 45) (.tmp 43) (by rfl) b 0 R (by rfl) (by rfl) (RT.out _ B7.out) HRI.out HR1.out ?_
            refine hK _ _ ?_
            clear hK K
            refine wpAny_done (by kernel_rfl) ?_ _
            go_wp2_with fail
            go_roundw
            case rel =>
              refine ⟨p ++ x.data.toList.take m, x.extract m x.size, ?_, rfl, ⟨blk2, HL2.out, ?_, ?_⟩, ?_⟩
              · rw [List.append_assoc, ← HRE.out]; exact HP.out
              · rw [← List.append_assoc, HBS.out, hq2.out, show (n + m) % 64 = 0 by have := HRN.out; omega]
                rw [List.take_zero, List.drop_eq_nil_of_le (by rw [hq2.out]; have := HRN.out; omega)]
              · rw [← List.append_assoc, HBS.out, hq2.out, show (n + m) / 64 = n / 64 + 1 by have := HRN.out; omega, hfull.out]
                have := adder_words (hrow3.out.of_block (B7.out.block b (Nat.lt_succ_self b))) (blockS st blk2)
                rw [← HRE2.out]
                exact this
              · exact below_setCells (Nat.le_refl b) _ _ _ (hbel3.out.trans (B7.out.mono (Nat.le_succ b)))
            case measure => exact hless
      · have t1 : ((((n : Int) + (m : Int)) % 64) == 0) = false := by rw [beq_eq_false_iff_ne]; have := HRN.out; omega
        go_wp2_with fail
        go_roundw
        case rel =>
          refine ⟨p ++ x.data.toList.take m, x.extract m x.size, ?_, rfl, ⟨blk2, HL2.out, ?_, ?_⟩, hbel3.out⟩
          · rw [List.append_assoc, ← HRE.out]; exact HP.out
          · rw [← List.append_assoc, HBS.out, hq2.out, show (n + m) % 64 = r + m by have := HRN.out; omega, show (n + m) / 64 = n / 64 by have := HRN.out; omega]
            exact HT2.out
          · rw [← List.append_assoc, HBS.out, hq2.out, show (n + m) / 64 = n / 64 by have := HRN.out; omega, chain_append q (x.data.toList.take m) (n / 64) (by have := HN.out; omega)]
            exact hrow3.out
        case measure => exact hless
    · have x0 : x.data.toList = [] := by
        have h6 : x.data.toList.length = x.size := by simp
        exact List.eq_nil_of_length_eq_zero (by omega)
      have x1 : (x.toList == []) = true := by rw [Lib.toList_data, x0]; rfl
      have x2 : x.toList.isEmpty = true := by rw [Lib.toList_data, x0]; rfl
      have hfin := Lib.hid (show Adder b (bs ++ s.data.toList) wr from ⟨blk, hbl, by rw [hp, x0, List.append_nil, hbs]; exact hbt, by rw [hp, x0, List.append_nil, hbs]; exact hrow⟩)
      have HB := Lib.hid hbb
      clear hp hbb hbl hbs hbt hrow x0
      go_wp2_with fail
      go_end0
      exact ⟨rfl, hfin.out, HB.out⟩
end Go.Proofs.YtepcaglekgeamaaGreatDoor
