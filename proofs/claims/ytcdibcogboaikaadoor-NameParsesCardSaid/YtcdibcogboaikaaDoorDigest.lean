/-
  digest.Sum by its contract: the sum of the texts, one behind the other. Conditions: fewer than 2^59 bytes; the tables lie where they lie.
-/
import Derived.Test.YtcdibcogboaikaaDoorSum
import Derived.Test.YtcdibcogboaikaaDoorRow
namespace Go.Proofs.YtcdibcogboaikaaDoor
open Go.RowKit

def catL (ss : List ByteArray) : List UInt8 := ss.flatMap fun s => s.data.toList
theorem catL_snoc (ss : List ByteArray) (s : ByteArray) : catL (ss ++ [s]) = catL ss ++ s.data.toList := by simp [catL]

/-- A new adder's cells. -/
def initAd : Array Value := (begins.toL.map (Value.int .u32) ++ (List.replicate 64 (Value.int .u8 0) ++ [Value.int .u64 0])).toArray
theorem initAd_size : initAd.size = 73 := by kernel_rfl
theorem initAd_one : initAd.all (·.oneCell') = true := by kernel_rfl
theorem initAd_at (i : Nat) (hi : i < 73) : initAd[i]? = some (adAt begins (List.replicate 64 0) 0 i) := by
  unfold initAd adAt
  rw [List.getElem?_toArray]
  by_cases h8 : i < 8
  · rw [if_pos h8, List.getElem?_append_left (by simp [St.toL]; omega)]
    unfold wordAt
    have hl2 : begins.toL.length = 8 := rfl
    simp [List.getD_eq_getElem?_getD, hl2, h8]
  · rw [if_neg h8, List.getElem?_append_right (by simp [St.toL]; omega)]
    have e : (begins.toL.map (Value.int .u32)).length = 8 := rfl
    rw [e]
    by_cases h72 : i < 72
    · rw [if_pos h72, List.getElem?_append_left (by simp; omega)]
      unfold byteAt
      rw [List.getElem?_replicate_of_lt (by omega), List.getD_eq_getElem?_getD, List.getElem?_replicate_of_lt (by omega)]
      rfl
    · have : i = 72 := by omega
      subst this
      rfl
theorem wpList_build_eq {P : Program} {ops : Array Oper} {rest : List Oper} {o : Oper} {a : Act} {w : World} {Q : Exit → Act → World → Prop} (hg : o.guard = none) (t : TypeId) (parts : Array (Nat × Operand)) (ho : o.op = .build t parts) (c : Array Value)
    (hf : P.built t (parts.map fun (i, x) => (i, a.eval x)).toList = some c) (h : wpList P ops Q rest (a.put o.dst (.agg c)) w) : wpList P ops Q (o :: rest) a w :=
  wpList_build hg t parts ho (by rw [hf]; rfl) (by rw [hf]; exact h)

/-- The new adder. -/
theorem init_adder (w : World) : Adder w.heap.size [] ((w.alloc (.cells Tryd.zeroCells69 69)).setRow w.heap.size initAd) :=
  ⟨List.replicate 64 0, by simp, by simp, initAd, setRow_heap _ _ _ _ _ _ (heap_alloc_new w _), initAd_size, fun i hi => initAd_at i hi⟩
theorem init_below (w : World) : Below w.heap.size w ((w.alloc (.cells Tryd.zeroCells69 69)).setRow w.heap.size initAd) :=
  below_setRow ((Below.refl _ _).alloc (Nat.le_refl _) _) (Nat.le_refl _) _

set_option maxRecDepth 100000 in
set_option maxHeartbeats 4000000 in
theorem digestSum_any (v : Value) (ss : List ByteArray) (w : World) (h : StrRow w v ss) (ht : Tabs w) (hn : (catL ss).length < 576460752303423488) :
    Calls Tryd.prog 32 #[v] w fun e w' => e = .returned (.string ⟨(shaL (catL ss)).toArray⟩) ∧ Below w.heap.size w w' := by
  have HT := Lib.hid ht
  obtain ⟨tq, fq, hsq⟩ := ht.squares
  have HSQ := Lib.hid hsq
  have HNEW := Lib.hid (heap_alloc_new w (.cells Tryd.zeroCells69 69))
  have hmany := ht.many
  have HI := Lib.hid (init_adder w)
  have HB := Lib.hid (init_below w)
  have HHN := Lib.hid hn
  clear ht hn hsq
  rcases h with ⟨rfl, rfl⟩ | ⟨bk, o, cap, rfl, h2, h3, h4⟩
  · have S := Lib.hid (fun b w h1 h2 h3 => sum_any b [] w h1 h2 h3 (by decide))
    go_enter Tryd.func32, Tryd.ntmps32
    go_wp2_with (first
      | (refine wpList_load_row rfl 65 (.global 0) rfl 0 rfl tq _ fq _ HSQ.out Tryd.underlying65 rfl (by kernel_rfl) ?_)
      | (refine wpList_build_eq rfl 69 #[(0, .tmp 6)] rfl initAd (by kernel_rfl) ?_)
      | (refine wpList_store_row rfl 69 (.tmp 3) (.tmp 7) rfl w.heap.size initAd rfl rfl 69 _ HNEW.out (by rw [initAd_size]; kernel_rfl) (by rw [initAd_size]; kernel_rfl) initAd_one ?_))
    refine wp_loop_rounds 1 ?_
    rw [rounds_succ]
    go_wp2_with fail
    refine (S.out _ _ hmany HI.out (HT.out.keep hmany HB.out)).mono ?_
    rintro e w2 ⟨rfl, hb2⟩
    have HB2 := Lib.hid (HB.out.trans hb2)
    clear hb2
    go_wp2_with fail
    go_ret
    exact ⟨rfl, HB2.out⟩
  · have H4 := Lib.hid h4
    have S := Lib.hid (fun b w h1 h2 h3 => sum_any b (catL ss) w h1 h2 h3 HHN.out)
    clear h4
    unfold maxLen at h3
    go_enter Tryd.func32, Tryd.ntmps32
    go_wp2_with (first
      | (refine wpList_load_row rfl 65 (.global 0) rfl 0 rfl tq _ fq _ HSQ.out Tryd.underlying65 rfl (by kernel_rfl) ?_)
      | (refine wpList_build_eq rfl 69 #[(0, .tmp 6)] rfl initAd (by kernel_rfl) ?_)
      | (refine wpList_store_row rfl 69 (.tmp 3) (.tmp 7) rfl w.heap.size initAd rfl rfl 69 _ HNEW.out (by rw [initAd_size]; kernel_rfl) (by rw [initAd_size]; kernel_rfl) initAd_one ?_))
    go_loopw [10] (fun i wr => ∃ k : Nat, k ≤ ss.length ∧ i = .int .i64 k ∧ Adder w.heap.size (catL (ss.take k)) wr ∧ Tabs wr ∧ Below w.heap.size w wr) (fun i _ => ss.length - (intOf i).toNat)
    case atStart => exact ⟨0, Nat.zero_le _, rfl, HI.out, HT.out.keep hmany HB.out, HB.out⟩
    case round =>
      clear HI HB HNEW HSQ HT
      obtain ⟨k, hk, rfl, ha, ht, hbb⟩ := hrel
      by_cases hlt : k < ss.length
      · have hc0 := H4.out k hlt
        have hc := (hbb.cell (p := ⟨bk, o + k, none⟩) (World.block_lt_of_cell? _ _ hc0)).trans hc0
        have A := Lib.hid (add_any w.heap.size (catL (ss.take k)) ss[k] wr hmany ha ht (by
          have e : catL ss = catL (ss.take k) ++ (ss[k].data.toList ++ catL (ss.drop (k + 1))) := by
            have h1 : ss = ss.take k ++ ss[k] :: ss.drop (k + 1) := by rw [List.getElem_cons_drop, List.take_append_drop]
            have h2 := congrArg catL h1
            exact h2.trans (by unfold catL; rw [List.flatMap_append, List.flatMap_cons])
          have := HHN.out
          rw [e, List.length_append, List.length_append] at this
          have h6 : ss[k].data.toList.length = ss[k].size := by simp
          omega))
        have HTK := Lib.hid (show catL (ss.take (k + 1)) = catL (ss.take k) ++ ss[k].data.toList by rw [List.take_succ_eq_append_getElem hlt, catL_snoc])
        have HT := Lib.hid ht
        have HB := Lib.hid hbb
        clear ha ht hbb hc0
        generalize ss[k] = x at hc A HTK
        go_wp2_with fail
        refine A.out.mono ?_
        rintro e w2 ⟨rfl, ha2, hb2⟩
        have HA2 := Lib.hid (show Adder w.heap.size (catL (ss.take (k + 1))) w2 by rw [HTK.out]; exact ha2)
        have HT2 := Lib.hid (HT.out.keep hmany hb2)
        have HB2 := Lib.hid (HB.out.trans hb2)
        clear ha2 hb2 HT HB A
        go_wp2_with fail
        go_roundw
        case rel => exact ⟨k + 1, by omega, by go_num, HA2.out, HT2.out, HB2.out⟩
        case measure => simp [intOf]; omega
      · rw [List.take_of_length_le (by omega)] at ha
        have SS := Lib.hid (S.out _ _ hmany ha ht)
        have HB := Lib.hid hbb
        clear ha ht hbb S
        go_wp2_with fail
        refine SS.out.mono ?_
        rintro e w2 ⟨rfl, hb2⟩
        have HB2 := Lib.hid (HB.out.trans hb2)
        clear hb2
        go_wp2_with fail
        go_ret
        exact ⟨rfl, HB2.out⟩
end Go.Proofs.YtcdibcogboaikaaDoor
