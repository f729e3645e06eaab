/-
  Rows of strings; the document's own Split at any byte, by contracts. Conditions: none but sizes.
-/
import Derived.Test.YtccobaohmbilpaaDoorRefCronD
import Derived.Lib.SplitLaws
import Derived.Deep.Strs
import Derived.BigQuiet
import Derived.Deep.QuietTactic
namespace Go.Proofs.YtccobaohmbilpaaDoor
open Go.RowKit

theorem addr0_addG (g j : Nat) : (⟨g, 0, none⟩ : Addr).add j = ⟨g, j, none⟩ := by unfold Addr.add; split <;> simp_all
theorem append_list (a b : ByteArray) : (a ++ b).data.toList = a.data.toList ++ b.data.toList := by simp
theorem size_list (s : ByteArray) : s.size = s.data.toList.length := Lib.size_eq s
theorem getElem_list (s : ByteArray) (k : Nat) (h : k < s.size) : s.data.toList[k]'(by rw [← Lib.size_eq]; exact h) = s[k] := by
  have h6 : k < s.data.toList.length := by rw [← Lib.size_eq]; exact h
  have := Lib.data_getElem? s k h
  rw [List.getElem?_eq_getElem h6] at this
  exact Option.some.inj this
theorem take_one (s : ByteArray) (k : Nat) (h : k < s.size) : s.data.toList.drop k = s[k] :: s.data.toList.drop (k + 1) := by
  rw [List.drop_eq_getElem_cons (by rw [← Lib.size_eq]; exact h), getElem_list s k h]
theorem extract_one (s : ByteArray) (k : Nat) (h : k < s.size) : (s.extract k (k + 1)).data.toList = [s[k]] := by
  have e : (s.extract k (k + 1)).data.toList = (s.data.toList.drop k).take 1 := by simp
  rw [e, take_one s k h]; rfl
/-- The value v is a slice that reads as the strings ss. -/
def StrRow (w : World) (v : Value) (ss : List ByteArray) : Prop :=
  v = .slice none 0 0 ∧ ss = [] ∨ ∃ b o cap, v = .slice (some ⟨b, o, none⟩) ss.length cap ∧ ss.length ≤ cap ∧ cap ≤ maxLen ∧ ∀ i (h : i < ss.length), w.cell? ⟨b, o + i, none⟩ = some (.string ss[i])
theorem StrRow.keep {w w' : World} {v : Value} {ss : List ByteArray} (h : StrRow w v ss) (hb : Below w.heap.size w w') : StrRow w' v ss := by
  rcases h with h | ⟨b, o, cap, h1, h2, h3, h4⟩
  · exact Or.inl h
  · exact Or.inr ⟨b, o, cap, h1, h2, h3, fun i hi => (hb.cell (World.block_lt_of_cell? _ _ (h4 i hi))).trans (h4 i hi)⟩
theorem StrRow.len {w : World} {v : Value} {ss : List ByteArray} (h : StrRow w v ss) : ss.length ≤ maxLen := by
  rcases h with ⟨_, rfl⟩ | ⟨b, o, cap, h1, h2, h3, h4⟩
  · exact Nat.zero_le _
  · omega

theorem infoStr : (Tryd.prog.info? 9).map (fun i => (i.zero, i.size, i.bytes)) = some (some (.string ⟨#[]⟩), 1, 16) := by kernel_rfl

/-- Strings as cells. -/
def strC (ss : List ByteArray) : List Value := ss.map Value.string
theorem strC_length (ss : List ByteArray) : (strC ss).length = ss.length := by simp [strC]

theorem StrRow.of_own {w : World} {B n : Nat} {v : Value} {ss : List ByteArray} (h : w.ownsRow B 9 1 v n (strC ss)) (hn : ss.length = n) : StrRow w v ss := by
  subst hn
  rcases h.2 with ⟨rfl, h0⟩ | ⟨g, cap, cur, rfl, hb, hg, h1, h2, h3, h4⟩
  · exact Or.inl ⟨rfl, List.length_eq_zero_iff.1 h0⟩
  · refine Or.inr ⟨g, 0, cap, rfl, h1, h2, fun i hi => ?_⟩
    have := h.cells (g := g) rfl i (.string ss[i]) (by simp [strC, hi])
    rw [addr0_addG] at this
    rw [Nat.zero_add]; exact this

/-- What Split answers: the pieces between slashes. -/
def RefSplitEnd (s : ByteArray) (b : UInt8) (w : World) (e : Ending) (w' : World) : Prop :=
  ∃ (ps : List ByteArray) (v : Value), e = .returned v ∧ StrRow w' v ps ∧ ps.map (·.data.toList) = goC b [] s.data.toList ∧ (∀ x ∈ ps, x.size ≤ s.size) ∧ ps.length ≤ s.size + 1 ∧ Below w.heap.size w w'

set_option maxRecDepth 100000 in
set_option maxHeartbeats 4000000 in
theorem refSplit_any (s : ByteArray) (b : UInt8) (w : World) (hs : s.size ≤ 300) :
    Calls Tryd.prog 20 #[.string s, .int .u8 b.toNat] w (RefSplitEnd s b w) := by
  obtain ⟨i0, hi, hz0, hz1, hz2⟩ := info_parts infoStr
  go_enter Tryd.func20, Tryd.ntmps20
  go_wp2_with fail
  go_loopw [5, 6, 7] (fun ov nv iv wr => ∃ (k n : Nat) (acc : List ByteArray) (now : ByteArray), k ≤ s.size ∧ (∃ a c, ov = .slice a n c) ∧ nv = .string now ∧ iv = .int .i64 k ∧ acc.length = n ∧ n ≤ k ∧ now.size ≤ k ∧ (∀ x ∈ acc, x.size ≤ s.size) ∧ acc.map (·.data.toList) ++ goC b now.data.toList (s.data.toList.drop k) = goC b [] s.data.toList ∧ wr.ownsRow w.heap.size 9 1 ov n (strC acc) ∧ Below w.heap.size w wr) (fun _ _ i _ => s.size - (intOf i).toNat)
  case atStart => exact ⟨0, 0, [], ⟨#[]⟩, Nat.zero_le _, ⟨_, _, rfl⟩, rfl, rfl, rfl, Nat.le_refl _, Nat.le_refl _, by simp, rfl, World.ownsRow_lit w #[] 0 (Nat.le_refl _) (Nat.zero_le _) rfl, (Below.refl _ _).alloc (by omega) _⟩
  case round =>
    obtain ⟨k, n, acc, now, hk, ⟨a, c, rfl⟩, rfl, rfl, hal, hnk, hnow, hall, hg, ho, hb⟩ := hrel
    have hbs := hb.size
    have HA := Lib.hid hall
    have HL := Lib.hid hal
    by_cases hlt : k < s.size
    · have hsep : ((s[k].toNat : Int) == (b.toNat : Int)) = (s[k] == b) := by
        rw [Bool.eq_iff_iff, beq_iff_eq, beq_iff_eq, ← UInt8.toNat_inj]
        exact Int.ofNat_inj
      have hx1 := extract_one s k hlt
      rw [take_one s k hlt, goC] at hg
      obtain ⟨x1, hxd⟩ : ∃ x1, s.extract k (k + 1) = x1 := ⟨_, rfl⟩
      have hxs : x1.size = 1 := by rw [size_list, ← hxd, hx1]; rfl
      rw [hxd] at hx1
      by_cases h : s[k] = b
      · have hq : (s[k] == b) = true := by rw [h]; exact beq_self_eq_true b
        rw [hq] at hsep
        rw [if_pos h] at hg
        have HG := Lib.hid (show (acc ++ [now]).map (·.data.toList) ++ goC b (⟨#[]⟩ : ByteArray).data.toList (s.data.toList.drop (k + 1)) = goC b [] s.data.toList by
          rw [← hg, List.map_append, List.append_assoc]; rfl)
        clear hg hx1 hall hal hq h
        go_wp2_with (at_builtin; refine wpList_append_own _ rfl _ _ 46 rfl w.heap.size 9 i0 (.string ⟨#[]⟩) 1 16 Tryd.underlying46 hi hz0 hz1 hz2 rfl (by decide) _ n (strC acc) rfl (ho.alloc _) ⟨wr.heap.size, 0, none⟩ 1 1 [.string now] rfl rfl ?c1 ?c2 ?c3 ?c4 ?c5 ?_)
        case c2 => rfl
        case c3 => unfold maxLen; omega
        case c4 => omega
        case c5 => omega
        intro v' w3 hown3 hgrow3 _
        have hbb3 : Below w.heap.size w w3 := (hb.alloc hbs _).grown hgrow3 (by simp; omega) (fun k hk => (ho.lt k hk).1)
        have hv' : ∃ a c, v' = .slice a (n + 1) c := by
          rcases hown3.2 with ⟨_, h0⟩ | ⟨g, c', cur, hv, _⟩
          · omega
          · exact ⟨_, _, hv⟩
        obtain ⟨a', c', rfl⟩ := hv'
        go_wp2
        go_roundw
        case rel =>
          refine ⟨k + 1, n + 1, acc ++ [now], ⟨#[]⟩, by omega, ⟨_, _, rfl⟩, rfl, by go_num, by simp [HL.out], by omega, Nat.zero_le _, ?_, HG.out, by simpa [strC] using hown3, hbb3⟩
          intro y hy
          rcases List.mem_append.1 hy with hy | hy
          · exact HA.out y hy
          · rw [List.mem_singleton.1 hy]; omega
        case measure => simp [intOf]; omega
      · have hq : (s[k] == b) = false := by rw [beq_eq_false_iff_ne]; exact h
        rw [hq] at hsep
        rw [if_neg h] at hg
        have HG := Lib.hid (show acc.map (·.data.toList) ++ goC b (now ++ x1).data.toList (s.data.toList.drop (k + 1)) = goC b [] s.data.toList by
          rw [append_list, hx1]; exact hg)
        have HO := Lib.hid ho
        have HB := Lib.hid hb
        clear hg hx1 hall hal hq h ho hb
        go_wp2_with fail
        go_roundw
        case rel => exact ⟨k + 1, n, acc, now ++ x1, by omega, ⟨_, _, rfl⟩, by first | rfl | simp, by go_num, HL.out, by omega, by rw [ByteArray.size_append]; omega, HA.out, HG.out, HO.out, HB.out⟩
        case measure => simp [intOf]; omega
    · have HG := Lib.hid (show (acc ++ [now]).map (·.data.toList) = goC b [] s.data.toList by
        rw [← hg, List.drop_eq_nil_of_le (by rw [← Lib.size_eq]; omega), List.map_append]; rfl)
      clear hg hall hal
      go_wp2_with (at_builtin; go_loud (refine wpList_append_own _ rfl _ _ 46 rfl w.heap.size 9 i0 (.string ⟨#[]⟩) 1 16 Tryd.underlying46 hi hz0 hz1 hz2 rfl (by decide) _ n (strC acc) rfl (ho.alloc _) ⟨wr.heap.size, 0, none⟩ 1 1 [.string now] rfl rfl ?c1 ?c2 ?c3 ?c4 ?c5 ?_))
      case c2 => intro u hu; simp at hu; subst hu; rfl
      case c3 => unfold maxLen; omega
      case c4 => omega
      case c5 => simp; omega
      intro v' w3 hown3 hgrow3 _
      have hbb3 : Below w.heap.size w w3 := (hb.alloc hbs _).grown hgrow3 (by simp; omega) (fun k hk => (ho.lt k hk).1)
      have HR := Lib.hid (StrRow.of_own (B := w.heap.size) (n := n + 1) (ss := acc ++ [now]) (by simpa [strC] using hown3) (by simp [HL.out]))
      clear hown3 hgrow3 ho
      go_wp2
      go_ret
      refine ⟨acc ++ [now], v', rfl, HR.out, HG.out, ?_, by simp [HL.out]; omega, hbb3⟩
      intro y hy
      rcases List.mem_append.1 hy with hy | hy
      · exact HA.out y hy
      · rw [List.mem_singleton.1 hy]; omega
end Go.Proofs.YtccobaohmbilpaaDoor
