/-
  octet.Bind by its contract: the texts bound, or the refusal. Conditions: the package-level errors lie where they lie.
-/
import Derived.Test.YtibfpffoddhooaaDoorStrs
import Derived.Test.YtibfpffoddhooaaDoorBytes
import Derived.Test.YtibfpffoddhooaaDoorPlain2
namespace Go.Proofs.YtibfpffoddhooaaDoor
open Go.RowKit

theorem grownBy_of_below {w w' : World} (h : Below w.heap.size w w') : w.grownBy w' none := ⟨h.os, h.tape, h.output, h.size, fun k hk _ => h.block k hk⟩
/-- A builder stays one where nothing that was there turns. -/
theorem builder_keep {T e : TypeId} {B b : Nat} {bs : List Value} {w w' : World} (h : Lib.IsBuilderF T e B b bs w) (hb : Below w.heap.size w w') : Lib.IsBuilderF T e B b bs w' := by
  have go : ∀ p, Lib.BuilderAtF T e B b p bs w → Lib.BuilderAtF T e B b p bs w' := fun p hp => by
    have hlt := hp.lt
    obtain ⟨hB, v, hv, hown, hne⟩ := hp
    refine ⟨hB, v, (hb.block b hlt).trans hv, hown.kept (grownBy_of_below hb) ?_, hne⟩
    cases v.ownBlock <;> simp
  exact h.elim (fun x => Or.inl (go _ x)) (fun x => Or.inr (go _ x))
theorem wideL_size (n k : Nat) : (⟨(wideL n k).toArray⟩ : ByteArray).size = k := by
  show (wideL n k).toArray.size = k
  rw [List.size_toArray, wideL_length]

/-- What bind answers. -/
def BindEnd (aD aS aZ : Addr) (ss : List ByteArray) (w : World) (e : Ending) (w' : World) : Prop :=
  (mayB ss = true ∧ e = .returned (.tuple #[.string ⟨(bindL ss).toArray⟩, .nilIface]) ∧ Below w.heap.size w w') ∨
  (∃ T v, mayB ss = false ∧ Refuses aD aS aZ (.iface T v) 2 ∧ e = .returned (.tuple #[.string ⟨#[]⟩, .iface T v]) ∧ Below w.heap.size w w')

theorem mayB_true {ss : List ByteArray} (h1 : ∀ s ∈ ss, s.size ≤ 4096) (h2 : ss.length ≤ 64) : mayB ss = true := by
  unfold mayB
  rw [Bool.and_eq_true]
  exact ⟨List.all_eq_true.2 fun s hs => by simpa using h1 s hs, by simpa using h2⟩
theorem mayB_long {ss : List ByteArray} (h : 64 < ss.length) : mayB ss = false := by
  unfold mayB
  rw [Bool.and_eq_false_iff]
  exact Or.inr (by simpa using h)
theorem mayB_big {ss : List ByteArray} {s : ByteArray} (hs : s ∈ ss) (h : 4096 < s.size) : mayB ss = false := by
  unfold mayB
  rw [Bool.and_eq_false_iff]
  exact Or.inl (List.all_eq_false.2 ⟨s, hs, by simp; omega⟩)
theorem mayB_iff {ss : List ByteArray} (h : mayB ss = true) : (∀ s ∈ ss, s.size ≤ 4096) ∧ ss.length ≤ 64 := by
  unfold mayB at h
  rw [Bool.and_eq_true] at h
  exact ⟨fun s hs => by simpa using List.all_eq_true.1 h.1 s hs, by simpa using h.2⟩

set_option maxRecDepth 100000 in
set_option maxHeartbeats 2000000 in
theorem bind_any (aD aS aZ : Addr) (v : Value) (ss : List ByteArray) (w : World) (h : StrRow w v ss) (hsz : ∀ s ∈ ss, s.size ≤ maxLen) :
    Calls Tryd.prog 33 #[v] w (BindEnd aD aS aZ ss w) := by
  have hl := h.len
  unfold maxLen at hl hsz
  by_cases hlong : 64 < ss.length
  · have hM := Lib.hid (mayB_long hlong)
    have hv : ∃ a c, v = .slice a ss.length c := by
      rcases h with ⟨rfl, rfl⟩ | ⟨b, o, cap, rfl, _⟩
      · exact ⟨_, _, rfl⟩
      · exact ⟨_, _, rfl⟩
    obtain ⟨a, c, rfl⟩ := hv
    have W := Lib.hid (within_no ss.length 64 w (by omega))
    clear h hsz
    go_enter Tryd.func33, Tryd.ntmps33
    go_wp2_with fail
    refine W.out.mono ?_
    rintro e w' ⟨rfl, rfl⟩
    go_wp2_with fail
    go_ret2
    exact Or.inr ⟨_, _, hM.out, Or.inl ⟨_, _, rfl, rfl⟩, rfl, Below.refl _ _⟩
  · have b0 : Below w.heap.size w (w.alloc (.cells #[.pointer none, .slice none 0 0] 61)) := (Below.refl _ _).alloc (Nat.le_refl _) _
    have I0 : Lib.IsBuilderF 61 5 w.heap.size w.heap.size [] (w.alloc (.cells #[.pointer none, .slice none 0 0] 61)) := Lib.IsBuilderF.of (Lib.fresh_isBuilder 61 5 w)
    have W := Lib.hid (within_ok ss.length 64 w (by omega))
    rcases h with ⟨rfl, rfl⟩ | ⟨b, o, cap, rfl, h2, h3, h4⟩
    · go_enter Tryd.func33, Tryd.ntmps33
      go_wp2_with fail
      refine W.out.mono ?_
      rintro e w' ⟨rfl, rfl⟩
      go_wp2_with fail
      refine wp_loop_rounds 1 ?_
      rw [rounds_succ]
      go_wp2_with fail
      refine (Tryd.Builder_String_any_k w.heap.size w.heap.size [] _ I0 b0.size).mono ?_
      rintro e w2 ⟨rfl, -, hb2, -⟩
      go_wp2_with fail
      go_ret2
      exact Or.inl ⟨rfl, rfl, b0.trans hb2⟩
    · have H4 := Lib.hid h4
      have HZ := Lib.hid hsz
      clear h4 hsz
      unfold maxLen at h3
      go_enter Tryd.func33, Tryd.ntmps33
      go_wp2_with fail
      refine W.out.mono ?_
      rintro e w' ⟨rfl, rfl⟩
      go_wp2_with fail
      go_loopw [19] (fun i wr => ∃ k : Nat, k ≤ ss.length ∧ i = .int .i64 k ∧ (∀ s ∈ ss.take k, s.size ≤ 4096) ∧ Lib.IsBuilderF 61 5 w.heap.size w.heap.size (Lib.byteCells (bindL (ss.take k))) wr ∧ Below w.heap.size w wr) (fun i _ => ss.length - (intOf i).toNat)
      case atStart => exact ⟨0, Nat.zero_le _, rfl, by simp, I0, b0⟩
      case round =>
        obtain ⟨k, hk, rfl, hall, hI, hb⟩ := hrel
        have HA := Lib.hid hall
        have hbl := Lib.hid (bindL_length_le (ss.take k) hall)
        clear hall
        have hbs := hb.size
        by_cases hlt : k < ss.length
        · have hc0 := H4.out k hlt
          have hc := (hb.cell (World.block_lt_of_cell? _ _ hc0)).trans hc0
          have hmem := Lib.hid (List.getElem_mem hlt)
          have hts := Lib.hid (List.take_succ_eq_append_getElem hlt)
          obtain ⟨x, hx⟩ : ∃ x, ss[k] = x := ⟨_, rfl⟩
          rw [hx] at hc hmem hts
          clear hx hc0
          have hxz := HZ.out x hmem.out
          by_cases hbig : x.size ≤ 4096
          · have W2 := Lib.hid (within_ok x.size 4096 wr (by omega))
            have D := Lib.hid (wide_ok x.size 2 wr (by omega) (by omega) (needs_le x.size 2 (by omega) (by show _ < 65536; omega)))
            have hu : IntKind.u64.wrap (x.size : Int) = (x.size : Int) := by rw [IntKind.wrap_u64]; omega
            have hlen : (Lib.byteCells (bindL (ss.take k))).length ≤ 4098 * 64 := by
              rw [Lib.byteCells_length]; have := hbl.out; rw [List.length_take] at this; have : min k ss.length ≤ 64 := by omega
              exact Nat.le_trans hbl.out (Nat.mul_le_mul_left _ (by rw [List.length_take]; omega))
            go_wp2_with fail
            refine W2.out.mono ?_
            rintro e w' ⟨rfl, rfl⟩
            go_wp2_with fail
            refine D.out.mono ?_
            rintro e w2 ⟨rfl, hb2⟩
            have hbb2 := hb.trans (hb2.mono hbs)
            have hI2 : Lib.IsBuilderF 61 5 w.heap.size w.heap.size (Lib.byteCells (bindL (ss.take k))) w2 := builder_keep hI hb2
            go_wp2_with fail
            refine (Tryd.Builder_WriteString_k w.heap.size w.heap.size _ _ w2 hI2 (by rw [wideL_size]; omega) hbb2.size).mono ?_
            rintro e w3 ⟨rfl, h3', hb3, -⟩
            have hbb3 := hbb2.trans hb3
            go_wp2_with fail
            refine (Tryd.Builder_WriteString_k w.heap.size w.heap.size _ _ w3 (Or.inr h3') (by rw [List.length_append, Lib.strCells_length, wideL_size]; omega) hbb3.size).mono ?_
            rintro e w4 ⟨rfl, h4', hb4, -⟩
            have hbb4 := hbb3.trans hb4
            go_wp2_with fail
            go_roundw
            case rel =>
              refine ⟨k + 1, by omega, by go_num, ?_, ?_, hbb4⟩
              · rw [hts.out]; intro s hs
                rcases List.mem_append.1 hs with hs | hs
                · exact HA.out s hs
                · rw [List.mem_singleton.1 hs]; exact hbig
              · rw [hts.out, bindL_snoc]
                refine Or.inr ?_
                rw [Lib.byteCells_append, Lib.byteCells_append, ← List.append_assoc]
                exact h4'
            case measure => simp [intOf]; omega
          · have W2 := Lib.hid (within_no x.size 4096 wr (by omega))
            have hM := Lib.hid (mayB_big hmem.out (by omega))
            go_wp2_with fail
            refine W2.out.mono ?_
            rintro e w' ⟨rfl, rfl⟩
            go_wp2_with fail
            refine (at_any _ _ ⟨_, _, rfl⟩ wr).mono ?_
            rintro e w' ⟨rfl, rfl⟩
            go_wp2_with fail
            go_ret2
            exact Or.inr ⟨_, _, hM.out, Or.inr (Or.inr (Or.inl ⟨_, _, _, rfl, rfl⟩)), rfl, hb⟩
        · have hM := Lib.hid (show mayB ss = true ∧ ss.take k = ss by
            have e : ss.take k = ss := List.take_of_length_le (by omega)
            have := HA.out
            rw [e] at this
            exact ⟨mayB_true this (by omega), e⟩)
          go_wp2_with fail
          refine (Tryd.Builder_String_any_k w.heap.size w.heap.size _ wr hI hb.size).mono ?_
          rintro e w2 ⟨rfl, -, hb2, -⟩
          go_wp2_with fail
          go_ret2
          exact Or.inl ⟨hM.out.1, by rw [hM.out.2]; rfl, hb.trans hb2⟩

/-- What Bind answers. -/
def bindOut (ss : List ByteArray) : ByteArray × Int := if mayB ss = true then (⟨(bindL ss).toArray⟩, 0) else (⟨#[]⟩, 2)

theorem Bind_any (aD aS aZ : Addr) (v : Value) (ss : List ByteArray) (w : World) (he : Env w aD aS aZ) (h : StrRow w v ss) (hsz : ∀ s ∈ ss, s.size ≤ maxLen) :
    Calls Tryd.prog 19 #[v] w fun e w' => e = .returned (.tuple #[.string (bindOut ss).1, .int .i64 (bindOut ss).2]) ∧ Below w.heap.size w w' := by
  have H1 := Lib.hid (bind_any aD aS aZ v ss w h hsz)
  have HE := Lib.hid he
  have hv : ∃ a n c, v = .slice a n c := by
    rcases h with ⟨rfl, rfl⟩ | ⟨b, o, cap, rfl, _⟩
    · exact ⟨_, _, _, rfl⟩
    · exact ⟨_, _, _, rfl⟩
  obtain ⟨a, n, c, rfl⟩ := hv
  clear he h hsz
  go_enter Tryd.func19, Tryd.ntmps19
  go_wp2_with fail
  refine H1.out.mono ?_
  rintro e w1 (⟨hm, rfl, hb⟩ | ⟨T, x, hm, hr, rfl, hb⟩)
  · have HO := Lib.hid (show bindOut ss = (⟨(bindL ss).toArray⟩, 0) by simp [bindOut, hm])
    have hbs := hb.size
    clear hm
    go_wp2_with fail
    refine (errno_nil w1).mono ?_
    rintro e w2 ⟨rfl, hb2⟩
    go_wp2_with fail
    go_ret2
    exact ⟨by rw [HO.out]; rfl, hb.trans (hb2.mono hbs)⟩
  · have HO := Lib.hid (show bindOut ss = (⟨#[]⟩, 2) by simp [bindOut, hm])
    have hbs := hb.size
    have HR := Lib.hid (errno_any aD aS aZ _ 2 w1 (HE.out.keep hb) hr)
    clear hm hr
    go_wp2_with fail
    refine HR.out.mono ?_
    rintro e w2 ⟨rfl, hb2⟩
    go_wp2_with fail
    go_ret2
    exact ⟨by rw [HO.out]; rfl, hb.trans (hb2.mono hbs)⟩
end Go.Proofs.YtibfpffoddhooaaDoor
