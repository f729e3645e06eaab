/-
  The value of a manifest, made by the program: word, whole, object, each, row, by contracts. Conditions: rows of at most 2^20.
  The value of a manifest, made by the program: of a layer, each and row of layers, write, by contracts. Conditions: rows of at most 2^20.
  The value of a manifest, made by the program: each and row of layers, write, by contracts. Conditions: rows of at most 2^20.
  The value of a manifest, made by the program: write, by a contract. Conditions: rows of at most 2^20.
  The value of a manifest, made by the program: write of an image, by a contract. Conditions: rows of at most 2^20.
-/
import Derived.Test.YtepcaglekgeamaaGreatDoorYMan1
import Derived.Test.YtepcaglekgeamaaGreatDoorYRefT2
import Derived.Deep.OwnRows
import Derived.Deep.RegionHeld3
namespace Go.Proofs.YtepcaglekgeamaaGreatDoor
open Go.RowKit

def fiveC (v : Value) (r : Nat) : Value := match v with
  | .agg cs => cs.getD r undef
  | _ => undef

def zeroC (r : Nat) : Value := (#[.int .i64 0, .int .i64 0, .string ⟨#[]⟩, .slice none 0 0, .slice none 0 0] : Array Value).getD r undef

def fiveF (vs : List Value) (t : Nat) : Value := match vs[t / 5]? with
  | some v => fiveC v (t % 5)
  | none => zeroC (t % 5)

theorem fiveF_at (vs : List Value) (i r : Nat) (hi : i < vs.length) (hr : r < 5) (c0 c1 c2 c3 c4 : Value) (h : vs[i] = .agg #[c0, c1, c2, c3, c4]) : fiveF vs (i * 5 + r) = (#[c0, c1, c2, c3, c4] : Array Value).getD r undef := by
  unfold fiveF
  rw [show (i * 5 + r) / 5 = i by omega, show (i * 5 + r) % 5 = r by omega, List.getElem?_eq_getElem hi, h]
  rfl

theorem fiveF_push (vs : List Value) (k : Nat) (hk : vs.length = k) (c0 c1 c2 c3 c4 : Value) (t : Nat) :
    (if t = k * 5 + 4 then c4 else if t = k * 5 + 3 then c3 else if t = k * 5 + 2 then c2 else if t = k * 5 + 1 then c1 else if t = k * 5 then c0 else fiveF vs t) = fiveF (vs ++ [.agg #[c0, c1, c2, c3, c4]]) t := by
  rcases Nat.lt_trichotomy (t / 5) k with h | h | h
  · rw [if_neg (by omega), if_neg (by omega), if_neg (by omega), if_neg (by omega), if_neg (by omega)]
    unfold fiveF
    rw [List.getElem?_append_left (by omega)]
  · have e : fiveF (vs ++ [.agg #[c0, c1, c2, c3, c4]]) t = (#[c0, c1, c2, c3, c4] : Array Value).getD (t % 5) undef := by
      unfold fiveF
      rw [List.getElem?_append_right (by omega), show t / 5 - vs.length = 0 by omega]
      rfl
    rw [e]
    have h5 : t % 5 = 0 ∨ t % 5 = 1 ∨ t % 5 = 2 ∨ t % 5 = 3 ∨ t % 5 = 4 := by omega
    rcases h5 with h5 | h5 | h5 | h5 | h5
    · rw [if_neg (by omega), if_neg (by omega), if_neg (by omega), if_neg (by omega), if_pos (by omega), h5]; rfl
    · rw [if_neg (by omega), if_neg (by omega), if_neg (by omega), if_pos (by omega), h5]; rfl
    · rw [if_neg (by omega), if_neg (by omega), if_pos (by omega), h5]; rfl
    · rw [if_neg (by omega), if_pos (by omega), h5]; rfl
    · rw [if_pos (by omega), h5]; rfl
  · rw [if_neg (by omega), if_neg (by omega), if_neg (by omega), if_neg (by omega), if_neg (by omega)]
    unfold fiveF
    rw [List.getElem?_eq_none (by omega), List.getElem?_eq_none (by rw [List.length_append, List.length_singleton]; omega)]

theorem five_made {w : World} {B g n : Nat} {t : TypeId} (h : w.ownsRow B t 5 (.slice (some ⟨g, 0, none⟩) n n) n (madeCells #[.int .i64 0, .int .i64 0, .string ⟨#[]⟩, .slice none 0 0, .slice none 0 0] (n * 5)).toList) : w.rowIs g t (n * 5) (fiveF []) := by
  rcases h.2 with ⟨h0, _⟩ | ⟨g', cap, cur, hv, _, hg, _, _, hs, ht⟩
  · cases h0
  · cases hv
    refine ⟨cur, hg, hs, fun i hi => ?_⟩
    have h1 : (madeCells #[.int .i64 0, .int .i64 0, .string ⟨#[]⟩, .slice none 0 0, .slice none 0 0] (n * 5)).toList[i]? = some (zeroC (i % 5)) := by
      have h5 : i % 5 = 0 ∨ i % 5 = 1 ∨ i % 5 = 2 ∨ i % 5 = 3 ∨ i % 5 = 4 := by omega
      rcases h5 with h5 | h5 | h5 | h5 | h5 <;> simp [madeCells, hi, h5, zeroC]
    rw [← ht, List.getElem?_take, if_pos hi] at h1
    simpa [fiveF] using h1

theorem five_set {w : World} {g n k : Nat} {t : TypeId} {vs : List Value} (h : w.rowIs g t (n * 5) (fiveF vs)) (hk : vs.length = k) (c0 c1 c2 c3 c4 : Value) :
    (set5 w g (k * 5) c0 c1 c2 c3 c4).rowIs g t (n * 5) (fiveF (vs ++ [.agg #[c0, c1, c2, c3, c4]])) :=
  (((((h.set (k * 5) c0).set (k * 5 + 1) c1).set (k * 5 + 2) c2).set (k * 5 + 3) c3).set (k * 5 + 4) c4).congr fun i _ => fiveF_push vs k hk c0 c1 c2 c3 c4 i

theorem five_fives {w : World} {g n : Nat} {vs : List Value} (h : w.rowIs g 71 (n * 5) (fiveF vs)) (hn : vs.length = n) (hm : n ≤ maxLen) (hv : ∀ (i : Nat) (h : i < vs.length), ∃ c0 c1 c2 c3 c4, vs[i] = .agg #[c0, c1, c2, c3, c4]) :
    Fives w (.slice (some ⟨g, 0, none⟩) n n) n (fun i => vs.getD i undef) := by
  by_cases h0 : n = 0
  · subst h0
    exact Or.inl ⟨rfl, Or.inr ⟨_, _, rfl, hm⟩⟩
  · refine Or.inr ⟨g, 0, n, rfl, by omega, Nat.le_refl _, hm, fun i hi => ?_⟩
    obtain ⟨c0, c1, c2, c3, c4, e⟩ := hv i (by omega)
    have hc : ∀ r, r < 5 → w.cell? ⟨g, i * 5 + r, none⟩ = some ((#[c0, c1, c2, c3, c4] : Array Value).getD r undef) := fun r hr => by
      rw [h.cell (by omega), fiveF_at vs i r (by omega) hr c0 c1 c2 c3 c4 e]
    refine ⟨c0, c1, c2, c3, c4, by show vs.getD i undef = _; rw [List.getD_eq_getElem?_getD, List.getElem?_eq_getElem (by omega), e]; rfl, ?_, ?_, ?_, ?_, ?_⟩
    · rw [Nat.zero_add]; exact hc 0 (by decide)
    · rw [Nat.zero_add]; exact hc 1 (by decide)
    · rw [Nat.zero_add]; exact hc 2 (by decide)
    · rw [Nat.zero_add]; exact hc 3 (by decide)
    · rw [Nat.zero_add]; exact hc 4 (by decide)

theorem below_five {w w2 : World} {B : Nat} (h : Below w.heap.size w w2) (hB : w.heap.size ≤ B) (c0 c1 c2 c3 c4 : Value) : Below w.heap.size w (set5 w2 B 0 c0 c1 c2 c3 c4) := by
  obtain ⟨s1, s2, s3⟩ := set5_rest w2 B 0 c0 c1 c2 c3 c4
  exact ⟨s1.trans h.os, s2.trans h.tape, s3.trans h.output, by rw [set5_size]; exact h.size, fun k hk => (set5_block _ _ _ _ _ _ _ _ k (by omega)).trans (h.block k hk)⟩

def wordC' (s : ByteArray) : Value := .agg #[.int .i64 2, .int .i64 0, .string s, .slice none 0 0, .slice none 0 0]

def wholeC (n : Int) : Value := .agg #[.int .i64 1, .int .i64 n, .string ⟨#[]⟩, .slice none 0 0, .slice none 0 0]

theorem word_c (s : ByteArray) (w : World) : Calls Tryz.prog 66 #[.string s] w fun e w' => e = .returned (wordC' s) ∧ Below w.heap.size w w' := by
  have HB := Lib.hid (fun (c0 c1 c2 c3 c4 : Value) => below_new w (.cells #[c0, c1, c2, c3, c4] 71))
  have HN := Lib.hid (fun (c0 c1 c2 c3 c4 : Value) => At5.new w c0 c1 c2 c3 c4)
  go_enter Tryz.func66, Tryz.ntmps66
  go_wp2_with fail
  exact bodyPost_ret (results_cell_row (p := 2) rfl _ _ w.heap.size 71 _ (0, 0) _ rfl (HN.out _ _ _ _ _) Tryz.underlying71 rfl valSize) rfl ⟨rfl, HB.out _ _ _ _ _⟩

theorem whole_c (n : Int) (w : World) : Calls Tryz.prog 69 #[.int .i64 n] w fun e w' => e = .returned (wholeC n) ∧ Below w.heap.size w w' := by
  have HB := Lib.hid (fun (c0 c1 c2 c3 c4 : Value) => below_new w (.cells #[c0, c1, c2, c3, c4] 71))
  have HN := Lib.hid (fun (c0 c1 c2 c3 c4 : Value) => At5.new w c0 c1 c2 c3 c4)
  go_enter Tryz.func69, Tryz.ntmps69
  go_wp2_with fail
  exact bodyPost_ret (results_cell_row (p := 2) rfl _ _ w.heap.size 71 _ (0, 0) _ rfl (HN.out _ _ _ _ _) Tryz.underlying71 rfl valSize) rfl ⟨rfl, HB.out _ _ _ _ _⟩

theorem object_c (a b : Option Addr) (l m c d : Nat) (w : World) : Calls Tryz.prog 64 #[.slice a l c, .slice b m d] w fun e w' => e = .returned (.agg #[.int .i64 4, .int .i64 0, .string ⟨#[]⟩, .slice b m d, .slice a l c]) ∧ Below w.heap.size w w' := by
  have HB := Lib.hid (fun (c0 c1 c2 c3 c4 : Value) => below_new w (.cells #[c0, c1, c2, c3, c4] 71))
  have HN := Lib.hid (fun (c0 c1 c2 c3 c4 : Value) => At5.new w c0 c1 c2 c3 c4)
  go_enter Tryz.func64, Tryz.ntmps64
  go_wp2_with fail
  exact bodyPost_ret (results_cell_row (p := 4) rfl _ _ w.heap.size 71 _ (0, 0) _ rfl (HN.out _ _ _ _ _) Tryz.underlying71 rfl valSize) rfl ⟨rfl, HB.out _ _ _ _ _⟩

structure MadeRow (w : World) (vs : List Value) (v : Value) (w' : World) : Prop where
  below : Below w.heap.size w w'
  is : ∃ g, v = .slice (some ⟨g, 0, none⟩) vs.length vs.length ∧ w.heap.size ≤ g ∧ w'.rowIs g 71 (vs.length * 5) (fiveF vs)

theorem valZero : ∃ i, Tryz.prog.info? 71 = some i ∧ i.zero = some (.agg #[.int .i64 0, .int .i64 0, .string ⟨#[]⟩, .slice none 0 0, .slice none 0 0]) ∧ i.size = 5 ∧ i.bytes = 80 := info_parts valInfo

set_option maxRecDepth 100000 in
set_option maxHeartbeats 2000000 in
theorem eachWord_c (v : Value) (ks : List ByteArray) (w : World) (h : StrsAt w v ks) (hn : ks.length ≤ 1048576) :
    Calls Tryz.prog 88 #[v, .func (.func 66) #[] #[]] w fun e w' => ∃ r, e = .returned r ∧ MadeRow w (ks.map wordC') r w' := by
  obtain ⟨i0, hi, hz0, hz1, hz2⟩ := valZero
  obtain ⟨n, hnl⟩ : ∃ n, ks.length = n := ⟨_, rfl⟩
  have HNL := Lib.hid hnl
  have HT := Lib.hid h
  obtain ⟨a, cap, rfl, -⟩ := h.shape
  rw [hnl] at h hn ⊢
  have hln : (ks.map wordC').length = n := by rw [List.length_map, hnl]
  clear hnl
  have HW := Lib.hid (fun s w => word_c s w)
  have made : ∀ w2 : World, w2.ownsRow w.heap.size 71 5 (.slice (some ⟨w.heap.size, 0, none⟩) n n) n (madeCells (Value.cells (.agg #[.int .i64 0, .int .i64 0, .string ⟨#[]⟩, .slice none 0 0, .slice none 0 0])) (n * 5)).toList → w.grownBy w2 none → w2.rowIs w.heap.size 71 (n * 5) (fiveF []) ∧ Below w.heap.size w w2 := fun w2 hown hgrow =>
    ⟨five_made hown, ⟨hgrow.os, hgrow.tape, hgrow.output, hgrow.size, fun k hk => hgrow.block k hk (by simp)⟩⟩
  have HMADE := Lib.hid made
  clear made
  have HLN := Lib.hid hln
  have HS := Lib.hid h
  clear hln h
  go_enter Tryz.func88, Tryz.ntmps88
  go_wp2_with (at_make; refine wpList_make_full w rfl _ _ 69 rfl w.heap.size 71 i0 _ 5 Tryz.underlying69 hi hz0 hz1 .i64 .i64 (n : Int) (n : Int) n rfl rfl rfl rfl ?c1 ?c2 ?c3 ?_)
  case c1 => rw [hz2]; omega
  case c2 => unfold maxLen; omega
  case c3 => exact Nat.le_refl _
  intro w2 hown hgrow
  have HM := Lib.hid (HMADE.out w2 hown hgrow)
  clear hown hgrow
  rcases HS.out with ⟨h0, -⟩ | ⟨b, o, cap', e, h2, h3, -, h5⟩
  · have hn0 : n = 0 := by rw [← HNL.out, h0]; rfl
    subst hn0
    have HF := Lib.hid (show w2.rowIs w.heap.size 71 ((ks.map wordC').length * 5) (fiveF (ks.map wordC')) by
      rw [h0]; exact HM.out.1)
    clear h0
    go_wp2_with fail
    refine wp_loop_rounds 1 ?_
    rw [rounds_succ]
    go_wp2_with fail
    go_ret
    exact ⟨_, rfl, HM.out.2, _, by rw [HLN.out]; rfl, Nat.le_refl _, HF.out⟩
  · rw [HNL.out] at e h2 h3
    simp only [Value.slice.injEq] at e
    obtain ⟨rfl, -, rfl⟩ := e
    have H5 := Lib.hid h5
    clear h5
    obtain ⟨G, hG⟩ : ∃ G, w.heap.size = G := ⟨_, rfl⟩
    rw [hG] at HM ⊢
    have HG := Lib.hid hG
    clear hG
    go_wp2_with fail
    go_loopw [13] (fun iv wr => ∃ k : Nat, k ≤ n ∧ iv = .int .i64 k ∧ wr.rowIs G 71 (n * 5) (fiveF ((ks.take k).map wordC')) ∧ Below G w wr) (fun i _ => n - (intOf i).toNat)
    case atStart => exact ⟨0, Nat.zero_le _, rfl, HM.out.1, HM.out.2⟩
    case round =>
      obtain ⟨k, hk, rfl, hrow, hb⟩ := hrel
      have HR := Lib.hid hrow
      have HB := Lib.hid hb
      clear hrow hb
      by_cases hlt : k < n
      · have hkl : k < ks.length := by rw [HNL.out]; exact hlt
        have e0 := H5.out k hkl
        have hts := Lib.hid (List.take_succ_eq_append_getElem hkl)
        obtain ⟨x, hx⟩ : ∃ x, ks[k] = x := ⟨_, rfl⟩
        rw [hx] at e0 hts
        have v0 : wr.cell? ⟨b, o + k, none⟩ = some (.string x) := (HB.out.cell (by rw [← HG.out]; exact World.block_lt_of_cell? _ _ e0)).trans e0
        clear e0 hx
        go_wp2_with fail
        refine (HW.out x wr).mono ?_
        rintro e w3 ⟨rfl, hb3⟩
        have hrow3 := HR.out.of_block (hb3.block G HR.out.lt)
        have HB3 := Lib.hid (HB.out.trans (hb3.mono (by rw [← HG.out]; exact HB.out.size)))
        have c0 := hrow3.cell (i := k * 5) (by omega)
        have c1 := hrow3.cell (i := k * 5 + 1) (by omega)
        have c2 := hrow3.cell (i := k * 5 + 2) (by omega)
        have c3 := hrow3.cell (i := k * 5 + 3) (by omega)
        have c4 := hrow3.cell (i := k * 5 + 4) (by omega)
        have f0 := hrow3.frozen (k * 5)
        have f1 := hrow3.frozen (k * 5 + 1)
        have f2 := hrow3.frozen (k * 5 + 2)
        have f3 := hrow3.frozen (k * 5 + 3)
        have f4 := hrow3.frozen (k * 5 + 4)
        have HN := Lib.hid (show (set5 w3 G (k * 5) (.int .i64 2) (.int .i64 0) (.string x) (.slice none 0 0) (.slice none 0 0)).rowIs G 71 (n * 5) (fiveF ((ks.take (k + 1)).map wordC')) by
          rw [hts.out, List.map_append]
          exact five_set hrow3 (by rw [List.length_map, List.length_take]; omega) _ _ _ _ _)
        have HBN := Lib.hid (show Below G w (set5 w3 G (k * 5) (.int .i64 2) (.int .i64 0) (.string x) (.slice none 0 0) (.slice none 0 0)) by
          obtain ⟨s1, s2, s3⟩ := set5_rest w3 G (k * 5) (.int .i64 2) (.int .i64 0) (.string x) (.slice none 0 0) (.slice none 0 0)
          exact ⟨s1.trans HB3.out.os, s2.trans HB3.out.tape, s3.trans HB3.out.output, by rw [set5_size]; exact HB3.out.size, fun j hj => (set5_block _ _ _ _ _ _ _ _ j (by omega)).trans (HB3.out.block j hj)⟩)
        clear hb3 hrow3
        unfold wordC'
        go_wp2_with fail
        go_roundw
        case rel => exact ⟨k + 1, by omega, by go_num, HN.out, HBN.out⟩
        case measure => simp [intOf]; omega
      · have HF := Lib.hid (show wr.rowIs G 71 (n * 5) (fiveF (ks.map wordC')) by
          have := HR.out
          rwa [List.take_of_length_le (by rw [HNL.out]; omega)] at this)
        go_wp2_with fail
        go_ret
        refine ⟨_, rfl, ?_, G, ?_, ?_, ?_⟩
        · rw [HG.out]; exact HB.out
        · rw [HLN.out]; rfl
        · rw [HG.out]; exact Nat.le_refl _
        · rw [HLN.out]; exact HF.out

theorem rowWord_c (v : Value) (ks : List ByteArray) (w : World) (h : StrsAt w v ks) (hn : ks.length ≤ 1048576) :
    Calls Tryz.prog 65 #[v, .func (.func 66) #[] #[]] w fun e w' => ∃ r, e = .returned (.agg #[.int .i64 3, .int .i64 0, .string ⟨#[]⟩, r, .slice none 0 0]) ∧ MadeRow w (ks.map wordC') r w' := by
  obtain ⟨W0, hW0⟩ : ∃ W0, w.alloc (.cells #[.int .i64 0, .int .i64 0, .string ⟨#[]⟩, .slice none 0 0, .slice none 0 0] 71) = W0 := ⟨_, rfl⟩
  have hb0 : Below w.heap.size w W0 := by rw [← hW0]; exact below_new _ _
  have hA : At5 W0 w.heap.size (.int .i64 0) (.int .i64 0) (.string ⟨#[]⟩) (.slice none 0 0) (.slice none 0 0) := by rw [← hW0]; exact At5.new _ _ _ _ _ _
  have E := Lib.hid (eachWord_c v ks W0 (h.keep hb0) hn)
  obtain ⟨a, cap, rfl, -⟩ := h.shape
  have HB0 := Lib.hid hb0
  have HA := Lib.hid hA
  have HW0 := Lib.hid hW0
  clear hb0 hA hW0 h hn
  go_enter Tryz.func65, Tryz.ntmps65
  go_upto_region 1 with fail
  rw [HW0.out]
  go_wp2_with fail
  refine E.out.mono ?_
  rintro e w2 ⟨r, rfl, hm⟩
  obtain ⟨g, rfl, hg, hrow⟩ := hm.is
  have hA2 := HA.out.keep hm.below
  have HA2 := Lib.hid hA2
  obtain ⟨z0, z1, z2, z3, z4⟩ := hA2.cells
  have f0 := hA2.frozen 0
  have f1 := hA2.frozen 1
  have f2 := hA2.frozen 2
  have f3 := hA2.frozen 3
  have f4 := hA2.frozen 4
  have HRW := Lib.hid hrow
  have hg' : w.heap.size + 1 ≤ g := by
    have : W0.heap.size = w.heap.size + 1 := by rw [← HW0.out]; simp
    omega
  have HBL := Lib.hid (Below.then HB0.out hm.below)
  obtain ⟨n, hn⟩ : ∃ n, (ks.map wordC').length = n := ⟨_, rfl⟩
  rw [hn] at HRW ⊢
  have HN := Lib.hid hn
  clear hA2 hm hrow hg hn
  go_wp2_with fail
  refine bodyPost_ret (results_cell_row (p := 4) rfl _ _ w.heap.size 71 _ (0, 0) _ rfl (set5_five0 HA2.out _ _ _ _ _) Tryz.underlying71 rfl valSize) rfl ?_
  refine ⟨_, rfl, ?_, g, by rw [HN.out], by omega, ?_⟩
  · exact below_five HBL.out (Nat.le_refl _) _ _ _ _ _
  · rw [HN.out]
    exact HRW.out.of_block (set5_block _ _ _ _ _ _ _ _ g (by omega))
end Go.Proofs.YtepcaglekgeamaaGreatDoor
namespace Go.Proofs.YtepcaglekgeamaaGreatDoor
open Go.RowKit

theorem strs_new (l : List ByteArray) (hl : 0 < l.length) (hm : l.length ≤ maxLen) (cs : Array Value) (hcs : cs.toList = l.map Value.string) (w' : World) (B : Nat) (h : w'.heap[B]? = some (.cells cs 9 (0, 0))) : StrsAt w' (.slice (some ⟨B, 0, none⟩) l.length l.length) l := by
  refine Or.inr ⟨B, 0, l.length, rfl, hl, Nat.le_refl _, hm, fun i hi => ?_⟩
  have : cs[i]? = some (.string l[i]) := by
    rw [← Array.getElem?_toList, hcs, List.getElem?_map, List.getElem?_eq_getElem hi]; rfl
  simp [World.cell?, h, this]

structure TwoAt (w : World) (gn : Nat) (oN : Obj) (gi : Nat) (oI : Obj) : Prop where
  names : w.heap[gn]? = some oN
  items : w.heap[gi]? = some oI

structure TwoNew (W w : World) (gn : Nat) (oN : Obj) (gi : Nat) (oI : Obj) : Prop where
  two : TwoAt w gn oN gi oI
  below : Below W.heap.size W w
  gn : W.heap.size ≤ gn
  gi : W.heap.size ≤ gi

theorem two_A {W wW wH wO : World} {oN oI : Obj} (h1 : Below (W.alloc oN).heap.size (W.alloc oN) wW) (h2 : Below wW.heap.size wW wH) (h3 : Below (wH.alloc oI).heap.size (wH.alloc oI) wO) :
    TwoNew W wO W.heap.size oN wH.heap.size oI := by
  have e1 := Below.then h1 h2
  have e2 := Below.then (Below.then e1 (below_new wH oI)) h3
  exact ⟨⟨(e2.block _ (by simp)).trans (heap_alloc_new W _), (h3.block _ (by simp)).trans (heap_alloc_new wH _)⟩, Below.then (below_new W oN) e2, Nat.le_refl _, (Below.then (below_new W oN) e1).size⟩

theorem two_B {W wW wH wO : World} {oN oI : Obj} (h1 : Below W.heap.size W wW) (h2 : Below (wW.alloc oN).heap.size (wW.alloc oN) wH) (h3 : Below (wH.alloc oI).heap.size (wH.alloc oI) wO) :
    TwoNew W wO wW.heap.size oN wH.heap.size oI := by
  have e2 := Below.then (Below.then h2 (below_new wH oI)) h3
  exact ⟨⟨(e2.block _ (by simp)).trans (heap_alloc_new wW _), (h3.block _ (by simp)).trans (heap_alloc_new wH _)⟩, Below.then (Below.then h1 (below_new wW oN)) e2, h1.size, (Below.then (Below.then h1 (below_new wW oN)) h2).size⟩

theorem two_C {W wW wH wO : World} {oN oI : Obj} (h1 : Below W.heap.size W wW) (h2 : Below wW.heap.size wW wH) (h3 : Below ((wH.alloc oN).alloc oI).heap.size ((wH.alloc oN).alloc oI) wO) :
    TwoNew W wO wH.heap.size oN (wH.heap.size + 1) oI := by
  have hs : (wH.alloc oN).heap.size = wH.heap.size + 1 := by simp
  have e := (Below.then h1 h2).size
  refine ⟨⟨(h3.block _ (by simp; omega)).trans ((Below.heap_alloc _ _ _ (by simp)).trans (heap_alloc_new wH _)), ?_⟩, Below.then (Below.then (Below.then h1 h2) (below_new wH oN)) (Below.then (below_new _ _) h3), e, by omega⟩
  rw [← hs]
  exact (h3.block _ (by simp)).trans (heap_alloc_new _ _)

theorem two_D {W wW wH wO : World} {oN oI : Obj} (h1 : Below W.heap.size W wW) (h2 : Below wW.heap.size wW wH) (h3 : Below ((wH.alloc oI).alloc oN).heap.size ((wH.alloc oI).alloc oN) wO) :
    TwoNew W wO (wH.heap.size + 1) oN wH.heap.size oI := by
  have hs : (wH.alloc oI).heap.size = wH.heap.size + 1 := by simp
  have e := (Below.then h1 h2).size
  refine ⟨⟨?_, (h3.block _ (by simp; omega)).trans ((Below.heap_alloc _ _ _ (by simp)).trans (heap_alloc_new wH _))⟩, Below.then (Below.then (Below.then h1 h2) (below_new wH oI)) (Below.then (below_new _ _) h3), by omega, e⟩
  rw [← hs]
  exact (h3.block _ (by simp)).trans (heap_alloc_new _ _)

theorem TwoNew.undrew {W w : World} {gn gi : Nat} {oN oI : Obj} (h : TwoNew W.drew w gn oN gi oI) : TwoNew W w gn oN gi oI :=
  ⟨h.two, Below.then (Below.refl W.heap.size W).drew h.below, h.gn, h.gi⟩

def namesO : Obj := .cells #[.string nDigest, .string nSize] 9 (0, 0)

def itemsO (x : ByteArray) (n : Int) : Obj := .cells #[.int .i64 2, .int .i64 0, .string x, .slice none 0 0, .slice none 0 0, .int .i64 1, .int .i64 n, .string ⟨#[]⟩, .slice none 0 0, .slice none 0 0] 71 (0, 0)

theorem layer_val {S : Nat → Prop} {w : World} {gn gi : Nat} {x : ByteArray} {n : Int} (h : TwoAt w gn namesO gi (itemsO x n)) (hn : S gn) (hi : S gi) (hx : x.size ≤ maxLen) (hb : -9223372036854775808 ≤ n ∧ n ≤ 9223372036854775807) :
    ValIn S w (.agg #[.int .i64 4, .int .i64 0, .string ⟨#[]⟩, .slice (some ⟨gi, 0, none⟩) 2 2, .slice (some ⟨gn, 0, none⟩) 2 2]) (layerVal (x, n)) := by
  refine .mk 4 0 ⟨#[]⟩ _ _ [wordVal x, wholeVal n] [nDigest, nSize] (fun i => if i = 0 then wordC' x else wholeC n) (by decide) (by decide) (by decide)
    (strs_new [nDigest, nSize] (by simp) (by decide) _ rfl w gn h.names) (fun _ => ⟨gn, 0, 2, 2, rfl, hn⟩) (fun y hy => ?_) ?_ (fun _ => ⟨gi, 0, 2, 2, rfl, hi⟩) fun i hi2 => ?_
  · simp only [List.mem_cons, List.not_mem_nil, or_false] at hy
    rcases hy with rfl | rfl <;> decide
  · refine Or.inr ⟨gi, 0, 2, rfl, by simp, Nat.le_refl _, by decide, fun i hi2 => ?_⟩
    have h2 : i = 0 ∨ i = 1 := by simp at hi2; omega
    rcases h2 with rfl | rfl
    · exact ⟨_, _, _, _, _, rfl, by simp [World.cell?, show w.heap[gi]? = some (itemsO x n) from h.items, itemsO], by simp [World.cell?, show w.heap[gi]? = some (itemsO x n) from h.items, itemsO], by simp [World.cell?, show w.heap[gi]? = some (itemsO x n) from h.items, itemsO], by simp [World.cell?, show w.heap[gi]? = some (itemsO x n) from h.items, itemsO], by simp [World.cell?, show w.heap[gi]? = some (itemsO x n) from h.items, itemsO]⟩
    · exact ⟨_, _, _, _, _, rfl, by simp [World.cell?, show w.heap[gi]? = some (itemsO x n) from h.items, itemsO], by simp [World.cell?, show w.heap[gi]? = some (itemsO x n) from h.items, itemsO], by simp [World.cell?, show w.heap[gi]? = some (itemsO x n) from h.items, itemsO], by simp [World.cell?, show w.heap[gi]? = some (itemsO x n) from h.items, itemsO], by simp [World.cell?, show w.heap[gi]? = some (itemsO x n) from h.items, itemsO]⟩
  · have h2 : i = 0 ∨ i = 1 := by simp at hi2; omega
    rcases h2 with rfl | rfl
    · exact ValIn.plain _ _ 2 0 x (by decide) (by decide) hx
    · exact ValIn.plain _ _ 1 n ⟨#[]⟩ (by decide) hb (by decide)

structure MadeVal (w : World) (T : Val) (v : Value) (w' : World) : Prop where
  below : Below w.heap.size w w'
  is : ValIn (fun b => w.heap.size ≤ b) w' v T

set_option maxRecDepth 100000 in
set_option maxHeartbeats 8000000 in
theorem layer_c (x : ByteArray) (n : Int) (w : World) (hx : x.size ≤ maxLen) (hb : -9223372036854775808 ≤ n ∧ n ≤ 9223372036854775807) :
    Calls Tryz.prog 68 #[.agg #[.string x, .int .i64 n]] w fun e w' => ∃ v, e = .returned v ∧ MadeVal w (layerVal (x, n)) v w' := by
  obtain ⟨W, hW⟩ : ∃ W, (w.alloc (.cells #[.string x, .int .i64 n] 76)).alloc (.cells #[.int .i64 0, .int .i64 0, .string ⟨#[]⟩, .slice none 0 0, .slice none 0 0] 71) = W := ⟨_, rfl⟩
  have hs1 : ∀ o, (w.alloc o).heap.size = w.heap.size + 1 := fun o => by simp
  have hbW0 : Below w.heap.size w W := by rw [← hW]; exact Below.then (below_new _ _) (below_new _ _)
  have hB0 : At2 76 W w.heap.size (.string x) (.int .i64 n) := by rw [← hW]; exact (At2.new _ _ _ _).keep (below_new _ _)
  have hZ0 : At5 W (w.heap.size + 1) (.int .i64 0) (.int .i64 0) (.string ⟨#[]⟩) (.slice none 0 0) (.slice none 0 0) := by
    rw [← hW]
    have e := At5.new (w.alloc (.cells #[.string x, .int .i64 n] 76)) (.int .i64 0) (.int .i64 0) (.string ⟨#[]⟩) (.slice none 0 0) (.slice none 0 0)
    rwa [hs1] at e
  have hsz : W.heap.size = w.heap.size + 2 := by rw [← hW]; simp
  have HS := Lib.hid (show ∀ w4, Below W.heap.size W w4 → (w4.cell? ⟨w.heap.size, 0, none⟩ = some (.string x) ∧ w4.cell? ⟨w.heap.size, 1, none⟩ = some (.int .i64 n) ∧ (∀ o, (w4.alloc o).cell? ⟨w.heap.size, 0, none⟩ = some (.string x)) ∧ ∀ o, (w4.alloc o).cell? ⟨w.heap.size, 1, none⟩ = some (.int .i64 n)) from fun w4 h => ⟨(hB0.keep h).cells.1, (hB0.keep h).cells.2, fun o => (hB0.keep (Below.then h (below_new w4 o))).cells.1, fun o => (hB0.keep (Below.then h (below_new w4 o))).cells.2⟩)
  have CW := Lib.hid (show ∀ s w3, Below W.heap.size W w3 → Calls Tryz.prog 66 #[.string s] w3 fun e w4 => e = .returned (.agg #[.int .i64 2, .int .i64 0, .string s, .slice none 0 0, .slice none 0 0]) ∧ Below w3.heap.size w3 w4 ∧ Below W.heap.size W w4 ∧ (w4.cell? ⟨w.heap.size, 0, none⟩ = some (.string x) ∧ w4.cell? ⟨w.heap.size, 1, none⟩ = some (.int .i64 n) ∧ (∀ o, (w4.alloc o).cell? ⟨w.heap.size, 0, none⟩ = some (.string x)) ∧ ∀ o, (w4.alloc o).cell? ⟨w.heap.size, 1, none⟩ = some (.int .i64 n)) from
    fun s w3 h => (word_c s w3).mono fun e w4 h4 => ⟨h4.1, h4.2, Below.then h h4.2, HS.out w4 (Below.then h h4.2)⟩)
  have CH := Lib.hid (show ∀ w3, Below W.heap.size W w3 → Calls Tryz.prog 69 #[.int .i64 n] w3 fun e w4 => e = .returned (.agg #[.int .i64 1, .int .i64 n, .string ⟨#[]⟩, .slice none 0 0, .slice none 0 0]) ∧ Below w3.heap.size w3 w4 ∧ Below W.heap.size W w4 ∧ (w4.cell? ⟨w.heap.size, 0, none⟩ = some (.string x) ∧ w4.cell? ⟨w.heap.size, 1, none⟩ = some (.int .i64 n) ∧ (∀ o, (w4.alloc o).cell? ⟨w.heap.size, 0, none⟩ = some (.string x)) ∧ ∀ o, (w4.alloc o).cell? ⟨w.heap.size, 1, none⟩ = some (.int .i64 n)) from
    fun w3 h => (whole_c n w3).mono fun e w4 h4 => ⟨h4.1, h4.2, Below.then h h4.2, HS.out w4 (Below.then h h4.2)⟩)
  have HZ := Lib.hid hZ0
  have CO := Lib.hid (show ∀ gn gi w3, Below W.heap.size W w3 → Calls Tryz.prog 64 #[.slice (some ⟨gn, 0, none⟩) 2 2, .slice (some ⟨gi, 0, none⟩) 2 2] w3 fun e w4 => e = .returned (.agg #[.int .i64 4, .int .i64 0, .string ⟨#[]⟩, .slice (some ⟨gi, 0, none⟩) 2 2, .slice (some ⟨gn, 0, none⟩) 2 2]) ∧ Below w3.heap.size w3 w4 ∧ Below W.heap.size W w4 ∧ (w4.cell? ⟨w.heap.size, 0, none⟩ = some (.string x) ∧ w4.cell? ⟨w.heap.size, 1, none⟩ = some (.int .i64 n) ∧ (∀ o, (w4.alloc o).cell? ⟨w.heap.size, 0, none⟩ = some (.string x)) ∧ ∀ o, (w4.alloc o).cell? ⟨w.heap.size, 1, none⟩ = some (.int .i64 n)) ∧
      (w4.cell? ⟨w.heap.size + 1, 0, none⟩ = some (.int .i64 0) ∧ w4.cell? ⟨w.heap.size + 1, 1, none⟩ = some (.int .i64 0) ∧ w4.cell? ⟨w.heap.size + 1, 2, none⟩ = some (.string ⟨#[]⟩) ∧ w4.cell? ⟨w.heap.size + 1, 3, none⟩ = some (.slice none 0 0) ∧ w4.cell? ⟨w.heap.size + 1, 4, none⟩ = some (.slice none 0 0)) ∧
      (w4.frozen? ⟨w.heap.size + 1, 0, none⟩ = false ∧ w4.frozen? ⟨w.heap.size + 1, 1, none⟩ = false ∧ w4.frozen? ⟨w.heap.size + 1, 2, none⟩ = false ∧ w4.frozen? ⟨w.heap.size + 1, 3, none⟩ = false ∧ w4.frozen? ⟨w.heap.size + 1, 4, none⟩ = false) from
    fun gn gi w3 h => (object_c _ _ 2 2 2 2 w3).mono fun e w4 h4 => by
      have hb := Below.then h h4.2
      have hz := HZ.out.keep hb
      exact ⟨h4.1, h4.2, hb, HS.out w4 hb, hz.cells, hz.frozen 0, hz.frozen 1, hz.frozen 2, hz.frozen 3, hz.frozen 4⟩)
  have HFIN := Lib.hid (show ∀ gn gi wO, TwoNew W wO gn namesO gi (itemsO x n) → MadeVal w (layerVal (x, n)) (.agg #[.int .i64 4, .int .i64 0, .string ⟨#[]⟩, .slice (some ⟨gi, 0, none⟩) 2 2, .slice (some ⟨gn, 0, none⟩) 2 2]) (set5 wO (w.heap.size + 1) 0 (.int .i64 4) (.int .i64 0) (.string ⟨#[]⟩) (.slice (some ⟨gi, 0, none⟩) 2 2) (.slice (some ⟨gn, 0, none⟩) 2 2)) from fun gn gi wO hL => by
    have h1 := hL.gn
    have h2 := hL.gi
    refine ⟨below_five (Below.then hbW0 hL.below) (Nat.le_succ _) _ _ _ _ _, ?_⟩
    exact layer_val (S := fun b => w.heap.size ≤ b) ⟨(set5_block _ _ _ _ _ _ _ _ gn (by omega)).trans hL.two.names, (set5_block _ _ _ _ _ _ _ _ gi (by omega)).trans hL.two.items⟩ (show w.heap.size ≤ gn by omega) (show w.heap.size ≤ gi by omega) hx hb)
  obtain ⟨p0, p1, P0, P1⟩ := HS.out W (Below.refl _ _)
  have HW := Lib.hid hW
  have HSZ := Lib.hid hsz
  have hbr := Below.refl W.heap.size W
  clear hW hsz hbW0 hB0 hZ0 hs1 hx hb
  go_enter Tryz.func68, Tryz.ntmps68
  go_upto_region 1 with fail
  rw [HW.out]
  go_region_law
    (first
      | (go_simp; go_at_call 66; refine (CW.out _ _ (by first | exact hbr | exact hbr.drew | exact Below.then hbr (below_new _ _) | exact Below.then hbr.drew (below_new _ _))).mono ?_; rintro e wW ⟨rfl, hbW, hbr, ⟨p0, p1, P0, P1⟩⟩)
      | (go_simp; go_at_call 69; refine (CH.out _ (by first | exact hbr | exact hbr.drew | exact Below.then hbr (below_new _ _) | exact Below.then hbr.drew (below_new _ _))).mono ?_; rintro e wH ⟨rfl, hbH, hbr, ⟨p0, p1, P0, P1⟩⟩)
      | (go_simp; go_at_call 64; refine (CO.out _ _ _ (by first | exact Below.then hbr (below_new _ _) | exact Below.then (Below.then hbr (below_new _ _)) (below_new _ _))).mono ?_; rintro e wO ⟨rfl, hbO, hbr, ⟨p0, p1, P0, P1⟩, ⟨z0, z1, z2, z3, z4⟩, ⟨f0, f1, f2, f3, f4⟩⟩))
  all_goals
    have HKZ := Lib.hid (HZ.out.keep hbr)
    go_wp2_with fail
    refine bodyPost_ret (results_cell_row (p := 2) rfl _ _ (w.heap.size + 1) 71 _ (0, 0) _ rfl (set5_five0 HKZ.out _ _ _ _ _) Tryz.underlying71 rfl valSize) rfl ?_
    refine ⟨_, rfl, ?_⟩
    first
      | exact HFIN.out _ _ _ (two_A (W := W.drew) (oN := namesO) (oI := itemsO x n) hbW hbH hbO).undrew
      | exact HFIN.out _ _ _ (two_B (W := W.drew) (oN := namesO) (oI := itemsO x n) hbW hbH hbO).undrew
      | exact HFIN.out _ _ _ (two_C (W := W.drew) (oN := namesO) (oI := itemsO x n) hbW hbH hbO).undrew
      | exact HFIN.out _ _ _ (two_D (W := W.drew) (oN := namesO) (oI := itemsO x n) hbW hbH hbO).undrew
end Go.Proofs.YtepcaglekgeamaaGreatDoor
namespace Go.Proofs.YtepcaglekgeamaaGreatDoor
open Go.RowKit

structure MadeVals (w : World) (ts : List Val) (v : Value) (w' : World) : Prop where
  below : Below w.heap.size w w'
  is : ∃ g vs, v = .slice (some ⟨g, 0, none⟩) ts.length ts.length ∧ w.heap.size ≤ g ∧ w'.rowIs g 71 (ts.length * 5) (fiveF vs) ∧ vs.length = ts.length ∧ ∀ (i : Nat) (h : i < vs.length) (h' : i < ts.length), ValIn (fun b => w.heap.size ≤ b) w' vs[i] ts[i]

theorem MadeRow.vals {w w' : World} {ks : List ByteArray} {v : Value} (h : MadeRow w (ks.map wordC') v w') (hz : ∀ k ∈ ks, k.size ≤ maxLen) : MadeVals w (ks.map wordVal) v w' := by
  obtain ⟨g, rfl, hg, hr⟩ := h.is
  rw [List.length_map] at hr ⊢
  refine ⟨h.below, g, ks.map wordC', by rw [List.length_map], hg, by rw [List.length_map]; exact hr, by rw [List.length_map, List.length_map], fun i h1 h2 => ?_⟩
  rw [List.length_map] at h1
  rw [List.getElem_map, List.getElem_map]
  exact ValIn.plain _ _ 2 0 _ (by decide) (by decide) (hz _ (List.getElem_mem h1))

theorem MadeVals.row {w w' : World} {ts : List Val} {v : Value} (h : MadeVals w ts v w') (hm : ts.length ≤ maxLen) : ValIn (fun b => w.heap.size ≤ b) w' (.agg #[.int .i64 3, .int .i64 0, .string ⟨#[]⟩, v, .slice none 0 0]) (rowVal ts) := by
  obtain ⟨g, vs, rfl, hg, hr, hl, hv⟩ := h.is
  have hsh : ∀ (i : Nat) (h : i < vs.length), ∃ c0 c1 c2 c3 c4, vs[i] = .agg #[c0, c1, c2, c3, c4] := fun i hi => by
    obtain ⟨xk, xn, xs, xia, xna, xli, xic, xnn, xnc, e⟩ := (hv i hi (by omega)).isVal.shape
    exact ⟨_, _, _, _, _, e⟩
  refine .mk 3 0 ⟨#[]⟩ _ _ ts [] (fun i => vs.getD i undef) (by decide) (by decide) (by decide) (Or.inl ⟨rfl, Or.inl rfl⟩) (fun h => absurd h (by simp)) (by simp) (five_fives hr hl hm hsh) (fun _ => ⟨g, 0, _, _, rfl, hg⟩) fun i hi => ?_
  have hi2 : i < vs.length := by omega
  show ValIn _ _ (vs.getD i undef) _
  rw [List.getD_eq_getElem?_getD, List.getElem?_eq_getElem hi2]
  exact hv i hi2 hi

set_option maxRecDepth 100000 in
set_option maxHeartbeats 4000000 in
theorem eachLayer_c (v : Value) (ls : List (ByteArray × Int)) (w : World) (h : PairsAt w v (ls.map layerCell)) (hn : ls.length ≤ 1048576) (hz : ∀ l ∈ ls, l.1.size ≤ maxLen ∧ -9223372036854775808 ≤ l.2 ∧ l.2 ≤ 9223372036854775807) :
    Calls Tryz.prog 89 #[v, .func (.func 68) #[] #[]] w fun e w' => ∃ r, e = .returned r ∧ MadeVals w (ls.map layerVal) r w' := by
  obtain ⟨i0, hi, hz0, hz1, hz2⟩ := valZero
  obtain ⟨n, hnl⟩ : ∃ n, ls.length = n := ⟨_, rfl⟩
  have HNL := Lib.hid hnl
  obtain ⟨a, cap, rfl, -, -⟩ := h.shape
  rw [List.length_map, hnl] at h ⊢
  rw [hnl] at hn
  have hln : (ls.map layerVal).length = n := by rw [List.length_map, hnl]
  clear hnl
  have HW := Lib.hid (fun x n w hx hb => layer_c x n w hx hb)
  have HMADE := Lib.hid (show ∀ w2 : World, w2.ownsRow w.heap.size 71 5 (.slice (some ⟨w.heap.size, 0, none⟩) n n) n (madeCells (Value.cells (.agg #[.int .i64 0, .int .i64 0, .string ⟨#[]⟩, .slice none 0 0, .slice none 0 0])) (n * 5)).toList → w.grownBy w2 none → w2.rowIs w.heap.size 71 (n * 5) (fiveF []) ∧ Below w.heap.size w w2 from fun w2 hown hgrow =>
    ⟨five_made hown, ⟨hgrow.os, hgrow.tape, hgrow.output, hgrow.size, fun k hk => hgrow.block k hk (by simp)⟩⟩)
  have HLN := Lib.hid hln
  have HS := Lib.hid h
  have HZ := Lib.hid hz
  clear hln h hz
  go_enter Tryz.func89, Tryz.ntmps89
  go_wp2_with (at_make; refine wpList_make_full w rfl _ _ 69 rfl w.heap.size 71 i0 _ 5 Tryz.underlying69 hi hz0 hz1 .i64 .i64 (n : Int) (n : Int) n rfl rfl rfl rfl ?c1 ?c2 ?c3 ?_)
  case c1 => rw [hz2]; omega
  case c2 => unfold maxLen; omega
  case c3 => exact Nat.le_refl _
  intro w2 hown hgrow
  have HM := Lib.hid (HMADE.out w2 hown hgrow)
  clear hown hgrow
  rcases HS.out with ⟨h0, -⟩ | ⟨b, o, cap', e, h2, h3, -, h5⟩
  · have h0' : ls = [] := List.map_eq_nil_iff.1 h0
    have hn0 : n = 0 := by rw [← HNL.out, h0']; rfl
    subst hn0
    have HF := Lib.hid (show MadeVals w (ls.map layerVal) (.slice (some ⟨w.heap.size, 0, none⟩) 0 0) w2 from
      ⟨HM.out.2, w.heap.size, [], by rw [HLN.out], Nat.le_refl _, by rw [HLN.out]; exact HM.out.1, by rw [HLN.out]; rfl, fun i h => absurd h (by simp)⟩)
    clear h0 h0'
    go_wp2_with fail
    refine wp_loop_rounds 1 ?_
    rw [rounds_succ]
    go_wp2_with fail
    go_ret
    exact ⟨_, rfl, HF.out⟩
  · rw [List.length_map, HNL.out] at e h2 h3
    simp only [Value.slice.injEq] at e
    obtain ⟨rfl, -, rfl⟩ := e
    have H5 := Lib.hid (fun (i : Nat) (h : i < ls.length) => h5 i (by rw [List.length_map]; exact h))
    clear h5
    obtain ⟨G, hG⟩ : ∃ G, w.heap.size = G := ⟨_, rfl⟩
    rw [hG] at HM ⊢
    have HG := Lib.hid hG
    clear hG
    go_wp2_with fail
    go_loopw [13] (fun iv wr => ∃ (k : Nat) (vs : List Value), k ≤ n ∧ iv = .int .i64 k ∧ vs.length = k ∧ wr.rowIs G 71 (n * 5) (fiveF vs) ∧ Below G w wr ∧ ∀ (i : Nat) (h : i < vs.length) (h' : i < ls.length), ValIn (fun b => G < b) wr vs[i] (layerVal ls[i])) (fun i _ => n - (intOf i).toNat)
    case atStart => exact ⟨0, [], Nat.zero_le _, rfl, rfl, HM.out.1, HM.out.2, fun i h => absurd h (by simp)⟩
    case round =>
      obtain ⟨k, vs, hk, rfl, hvl, hrow, hb, hvs⟩ := hrel
      have HR := Lib.hid hrow
      have HB := Lib.hid hb
      have HVS := Lib.hid hvs
      have HVL := Lib.hid hvl
      clear hrow hb hvs hvl
      by_cases hlt : k < n
      · have hkl : k < ls.length := by rw [HNL.out]; exact hlt
        obtain ⟨e0, e1⟩ := H5.out k hkl
        rw [layer_getElem ls k hkl] at e0 e1
        obtain ⟨hzx, hzn⟩ := HZ.out _ (List.getElem_mem hkl)
        obtain ⟨⟨x, m⟩, hx⟩ : ∃ x, ls[k] = x := ⟨_, rfl⟩
        have HX := Lib.hid hx
        rw [hx] at e0 e1 hzx hzn
        have kc : ∀ {p : Addr} {v : Value}, w.cell? p = some v → wr.cell? p = some v := fun h => (HB.out.cell (by rw [← HG.out]; exact World.block_lt_of_cell? _ _ h)).trans h
        have v0 := kc e0
        have v1 := kc e1
        obtain ⟨W1, hW1⟩ : ∃ W1, wr.alloc (.cells #[.string x, .int .i64 m] 76) = W1 := ⟨_, rfl⟩
        have hb1 : Below wr.heap.size wr W1 := by rw [← hW1]; exact below_new _ _
        have hA : At2 76 W1 wr.heap.size (.string x) (.int .i64 m) := by rw [← hW1]; exact At2.new _ _ _ _
        obtain ⟨a0, a1⟩ := hA.cells
        have C := Lib.hid (HW.out x m W1 hzx hzn)
        have HB1 := Lib.hid hb1
        have HW1 := Lib.hid hW1
        have hGw : G < wr.heap.size := HR.out.lt
        clear e0 e1 kc hx hzx hzn hb1 hA hW1
        go_upto_region 5 with fail
        rw [HW1.out]
        go_wp2_with fail
        refine C.out.mono ?_
        rintro e w3 ⟨v, rfl, hm⟩
        have hv3 := hm.is
        obtain ⟨c0, c1, c2, c3, c4, rfl⟩ : ∃ c0 c1 c2 c3 c4, v = .agg #[c0, c1, c2, c3, c4] := by
          obtain ⟨xk, xn, xs, xia, xna, xli, xic, xnn, xnc, e⟩ := hv3.isVal.shape
          exact ⟨_, _, _, _, _, e⟩
        obtain ⟨xk, xn, xs, xia, xna, xli, xic, xnn, xnc, hsh⟩ := hv3.isVal.shape
        simp only [Value.agg.injEq, Array.mk.injEq, List.cons.injEq, and_true] at hsh
        obtain ⟨rfl, rfl, rfl, rfl, rfl⟩ := hsh
        have hb3 : Below wr.heap.size wr w3 := Below.then HB1.out hm.below
        have hw1 := HB1.out.size
        have hrow3 := HR.out.of_block (hb3.block G HR.out.lt)
        have HB3 := Lib.hid (HB.out.trans (hb3.mono (by omega)))
        have y0 := hrow3.cell (i := k * 5) (by omega)
        have y1 := hrow3.cell (i := k * 5 + 1) (by omega)
        have y2 := hrow3.cell (i := k * 5 + 2) (by omega)
        have y3 := hrow3.cell (i := k * 5 + 3) (by omega)
        have y4 := hrow3.cell (i := k * 5 + 4) (by omega)
        have f0 := hrow3.frozen (k * 5)
        have f1 := hrow3.frozen (k * 5 + 1)
        have f2 := hrow3.frozen (k * 5 + 2)
        have f3 := hrow3.frozen (k * 5 + 3)
        have f4 := hrow3.frozen (k * 5 + 4)
        have HN := Lib.hid (five_set hrow3 HVL.out (.int .i64 xk) (.int .i64 xn) (.string xs) (.slice xia xli xic) (.slice xna xnn xnc))
        have HBN := Lib.hid (show Below G w (set5 w3 G (k * 5) (.int .i64 xk) (.int .i64 xn) (.string xs) (.slice xia xli xic) (.slice xna xnn xnc)) by
          obtain ⟨s1, s2, s3⟩ := set5_rest w3 G (k * 5) (.int .i64 xk) (.int .i64 xn) (.string xs) (.slice xia xli xic) (.slice xna xnn xnc)
          exact ⟨s1.trans HB3.out.os, s2.trans HB3.out.tape, s3.trans HB3.out.output, by rw [set5_size]; exact HB3.out.size, fun j hj => (set5_block _ _ _ _ _ _ _ _ j (by omega)).trans (HB3.out.block j hj)⟩)
        have HVN := Lib.hid (show ∀ (i : Nat) (h : i < (vs ++ [Value.agg #[.int .i64 xk, .int .i64 xn, .string xs, .slice xia xli xic, .slice xna xnn xnc]]).length) (h' : i < ls.length), ValIn (fun b => G < b) (set5 w3 G (k * 5) (.int .i64 xk) (.int .i64 xn) (.string xs) (.slice xia xli xic) (.slice xna xnn xnc)) (vs ++ [Value.agg #[.int .i64 xk, .int .i64 xn, .string xs, .slice xia xli xic, .slice xna xnn xnc]])[i] (layerVal ls[i]) from fun i h h' => by
          by_cases hik : i < vs.length
          · rw [List.getElem_append_left hik]
            exact (HVS.out i hik h').keep fun b hS hl => ⟨(set5_block _ _ _ _ _ _ _ _ b (by omega)).trans (hb3.block b hl), hS⟩
          · have hik2 : i = k := by rw [List.length_append, HVL.out] at h; simp at h; rw [HVL.out] at hik; omega
            subst hik2
            rw [List.getElem_append_right (by omega), HX.out]
            simp only [HVL.out, Nat.sub_self, List.getElem_cons_zero]
            exact hv3.keep fun b hS _ => ⟨set5_block _ _ _ _ _ _ _ _ b (by omega), by omega⟩)
        have HL1 := Lib.hid (show (vs ++ [Value.agg #[.int .i64 xk, .int .i64 xn, .string xs, .slice xia xli xic, .slice xna xnn xnc]]).length = k + 1 by rw [List.length_append, HVL.out]; rfl)
        clear hb3 hrow3 hm hv3
        go_wp2_with fail
        go_roundw
        case rel => exact ⟨k + 1, _, by omega, by go_num, HL1.out, HN.out, HBN.out, HVN.out⟩
        case measure => simp [intOf]; omega
      · have hkn : k = n := by omega
        subst hkn
        have HF := Lib.hid (show MadeVals w (ls.map layerVal) (.slice (some ⟨G, 0, none⟩) k k) wr from
          ⟨by rw [HG.out]; exact HB.out, G, vs, by rw [HLN.out], by rw [HG.out]; exact Nat.le_refl _, by rw [HLN.out]; exact HR.out, by rw [HLN.out]; exact HVL.out, fun i h1 h2 => by
            rw [List.getElem_map]
            exact (HVS.out i h1 (by rw [List.length_map] at h2; exact h2)).keep fun b hS _ => ⟨rfl, by rw [HG.out]; omega⟩⟩)
        go_wp2_with fail
        go_ret
        exact ⟨_, rfl, HF.out⟩

set_option maxRecDepth 100000 in
set_option maxHeartbeats 4000000 in
theorem rowLayer_c (v : Value) (ls : List (ByteArray × Int)) (w : World) (h : PairsAt w v (ls.map layerCell)) (hn : ls.length ≤ 1048576) (hz : ∀ l ∈ ls, l.1.size ≤ maxLen ∧ -9223372036854775808 ≤ l.2 ∧ l.2 ≤ 9223372036854775807) :
    Calls Tryz.prog 67 #[v, .func (.func 68) #[] #[]] w fun e w' => ∃ r l, e = .returned (.agg #[.int .i64 3, .int .i64 0, .string ⟨#[]⟩, .slice r l l, .slice none 0 0]) ∧ Below w.heap.size w w' ∧ ValIn (fun b => w.heap.size ≤ b) w' (.agg #[.int .i64 3, .int .i64 0, .string ⟨#[]⟩, .slice r l l, .slice none 0 0]) (rowVal (ls.map layerVal)) := by
  obtain ⟨W0, hW0⟩ : ∃ W0, w.alloc (.cells #[.int .i64 0, .int .i64 0, .string ⟨#[]⟩, .slice none 0 0, .slice none 0 0] 71) = W0 := ⟨_, rfl⟩
  have hb0 : Below w.heap.size w W0 := by rw [← hW0]; exact below_new _ _
  have hA : At5 W0 w.heap.size (.int .i64 0) (.int .i64 0) (.string ⟨#[]⟩) (.slice none 0 0) (.slice none 0 0) := by rw [← hW0]; exact At5.new _ _ _ _ _ _
  have E := Lib.hid (eachLayer_c v ls W0 (h.keep hb0) hn hz)
  obtain ⟨a, cap, rfl, -, -⟩ := h.shape
  rw [List.length_map] at E ⊢
  have HB0 := Lib.hid hb0
  have HA := Lib.hid hA
  have HW0 := Lib.hid hW0
  have hs0 : W0.heap.size = w.heap.size + 1 := by rw [← hW0]; simp
  have HS0 := Lib.hid hs0
  have hml : (ls.map layerVal).length ≤ maxLen := by rw [List.length_map]; unfold maxLen; omega
  have HML := Lib.hid hml
  clear hb0 hA hW0 h hn hz hs0 hml
  go_enter Tryz.func67, Tryz.ntmps67
  go_upto_region 1 with fail
  rw [HW0.out]
  go_wp2_with fail
  refine E.out.mono ?_
  rintro e w2 ⟨r, rfl, hm⟩
  obtain ⟨g, vs, rfl, -⟩ := hm.is
  have hA2 := HA.out.keep hm.below
  have HA2 := Lib.hid hA2
  obtain ⟨z0, z1, z2, z3, z4⟩ := hA2.cells
  have f0 := hA2.frozen 0
  have f1 := hA2.frozen 1
  have f2 := hA2.frozen 2
  have f3 := hA2.frozen 3
  have f4 := hA2.frozen 4
  have HR := Lib.hid (hm.row HML.out)
  have HBL := Lib.hid (Below.then HB0.out hm.below)
  obtain ⟨n, hn⟩ : ∃ n, (ls.map layerVal).length = n := ⟨_, rfl⟩
  rw [hn] at HR ⊢
  have HVF := Lib.hid (HR.out.keep (S' := fun b => w.heap.size ≤ b) (w' := set5 w2 w.heap.size 0 (.int .i64 3) (.int .i64 0) (.string ⟨#[]⟩) (.slice (some ⟨g, 0, none⟩) n n) (.slice none 0 0)) fun b hS _ => by
    have := HS0.out
    exact ⟨set5_block _ _ _ _ _ _ _ _ b (by omega), by omega⟩)
  clear hA2 hm hn HR
  go_wp2_with fail
  refine bodyPost_ret (results_cell_row (p := 4) rfl _ _ w.heap.size 71 _ (0, 0) _ rfl (set5_five0 HA2.out _ _ _ _ _) Tryz.underlying71 rfl valSize) rfl ?_
  exact ⟨_, _, rfl, below_five HBL.out (Nat.le_refl _) _ _ _ _ _, HVF.out⟩
end Go.Proofs.YtepcaglekgeamaaGreatDoor
namespace Go.Proofs.YtepcaglekgeamaaGreatDoor
open Go.RowKit

def namesIdx : Obj := .cells #[.string nKids, .string nKind] 9 (0, 0)

def itemsIdx (r : Option Addr) (l c : Nat) : Obj := .cells #[.int .i64 3, .int .i64 0, .string ⟨#[]⟩, .slice r l c, .slice none 0 0, .int .i64 2, .int .i64 0, .string kIndex, .slice none 0 0, .slice none 0 0] 71 (0, 0)

def namesImg : Obj := .cells #[.string nConfig, .string nKind, .string nLayers] 9 (0, 0)

def itemsImg (x : ByteArray) (r : Option Addr) (l c : Nat) : Obj := .cells #[.int .i64 2, .int .i64 0, .string x, .slice none 0 0, .slice none 0 0, .int .i64 2, .int .i64 0, .string kImage, .slice none 0 0, .slice none 0 0, .int .i64 3, .int .i64 0, .string ⟨#[]⟩, .slice r l c, .slice none 0 0] 71 (0, 0)

theorem idx_val {S : Nat → Prop} {w : World} {gn gi : Nat} {r : Option Addr} {l c : Nat} {ts : List Val} (h : TwoAt w gn namesIdx gi (itemsIdx r l c)) (hn : S gn) (hi : S gi)
    (hr : ValIn S w (.agg #[.int .i64 3, .int .i64 0, .string ⟨#[]⟩, .slice r l c, .slice none 0 0]) (rowVal ts)) :
    ValIn S w (.agg #[.int .i64 4, .int .i64 0, .string ⟨#[]⟩, .slice (some ⟨gi, 0, none⟩) 2 2, .slice (some ⟨gn, 0, none⟩) 2 2]) (.mk 4 0 ⟨#[]⟩ [rowVal ts, wordVal kIndex] [nKids, nKind]) := by
  have hI : w.heap[gi]? = some (itemsIdx r l c) := h.items
  unfold itemsIdx at hI
  refine .mk 4 0 ⟨#[]⟩ _ _ [rowVal ts, wordVal kIndex] [nKids, nKind] (fun i => if i = 0 then .agg #[.int .i64 3, .int .i64 0, .string ⟨#[]⟩, .slice r l c, .slice none 0 0] else wordC' kIndex) (by decide) (by decide) (by decide)
    (strs_new [nKids, nKind] (by simp) (by decide) _ rfl w gn h.names) (fun _ => ⟨gn, 0, 2, 2, rfl, hn⟩) (fun y hy => ?_) ?_ (fun _ => ⟨gi, 0, 2, 2, rfl, hi⟩) fun i hi2 => ?_
  · simp only [List.mem_cons, List.not_mem_nil, or_false] at hy
    rcases hy with rfl | rfl <;> decide
  · refine Or.inr ⟨gi, 0, 2, rfl, by simp, Nat.le_refl _, by decide, fun i hi2 => ?_⟩
    have h2 : i = 0 ∨ i = 1 := by simp at hi2; omega
    rcases h2 with rfl | rfl
    · exact ⟨_, _, _, _, _, rfl, by simp [World.cell?, hI], by simp [World.cell?, hI], by simp [World.cell?, hI], by simp [World.cell?, hI], by simp [World.cell?, hI]⟩
    · exact ⟨_, _, _, _, _, rfl, by simp [World.cell?, hI], by simp [World.cell?, hI], by simp [World.cell?, hI], by simp [World.cell?, hI], by simp [World.cell?, hI]⟩
  · have h2 : i = 0 ∨ i = 1 := by simp at hi2; omega
    rcases h2 with rfl | rfl
    · exact hr
    · exact ValIn.plain _ _ 2 0 kIndex (by decide) (by decide) (by decide)

theorem img_val {S : Nat → Prop} {w : World} {gn gi : Nat} {x : ByteArray} {r : Option Addr} {l c : Nat} {ts : List Val} (h : TwoAt w gn namesImg gi (itemsImg x r l c)) (hn : S gn) (hi : S gi) (hx : x.size ≤ maxLen)
    (hr : ValIn S w (.agg #[.int .i64 3, .int .i64 0, .string ⟨#[]⟩, .slice r l c, .slice none 0 0]) (rowVal ts)) :
    ValIn S w (.agg #[.int .i64 4, .int .i64 0, .string ⟨#[]⟩, .slice (some ⟨gi, 0, none⟩) 3 3, .slice (some ⟨gn, 0, none⟩) 3 3]) (.mk 4 0 ⟨#[]⟩ [wordVal x, wordVal kImage, rowVal ts] [nConfig, nKind, nLayers]) := by
  have hI : w.heap[gi]? = some (itemsImg x r l c) := h.items
  unfold itemsImg at hI
  refine .mk 4 0 ⟨#[]⟩ _ _ [wordVal x, wordVal kImage, rowVal ts] [nConfig, nKind, nLayers] (fun i => if i = 0 then wordC' x else if i = 1 then wordC' kImage else .agg #[.int .i64 3, .int .i64 0, .string ⟨#[]⟩, .slice r l c, .slice none 0 0]) (by decide) (by decide) (by decide)
    (strs_new [nConfig, nKind, nLayers] (by simp) (by decide) _ rfl w gn h.names) (fun _ => ⟨gn, 0, 3, 3, rfl, hn⟩) (fun y hy => ?_) ?_ (fun _ => ⟨gi, 0, 3, 3, rfl, hi⟩) fun i hi2 => ?_
  · simp only [List.mem_cons, List.not_mem_nil, or_false] at hy
    rcases hy with rfl | rfl | rfl <;> decide
  · refine Or.inr ⟨gi, 0, 3, rfl, by simp, Nat.le_refl _, by decide, fun i hi2 => ?_⟩
    have h2 : i = 0 ∨ i = 1 ∨ i = 2 := by simp at hi2; omega
    rcases h2 with rfl | rfl | rfl
    · exact ⟨_, _, _, _, _, rfl, by simp [World.cell?, hI], by simp [World.cell?, hI], by simp [World.cell?, hI], by simp [World.cell?, hI], by simp [World.cell?, hI]⟩
    · exact ⟨_, _, _, _, _, rfl, by simp [World.cell?, hI], by simp [World.cell?, hI], by simp [World.cell?, hI], by simp [World.cell?, hI], by simp [World.cell?, hI]⟩
    · exact ⟨_, _, _, _, _, rfl, by simp [World.cell?, hI], by simp [World.cell?, hI], by simp [World.cell?, hI], by simp [World.cell?, hI], by simp [World.cell?, hI]⟩
  · have h2 : i = 0 ∨ i = 1 ∨ i = 2 := by simp at hi2; omega
    rcases h2 with rfl | rfl | rfl
    · exact ValIn.plain _ _ 2 0 x (by decide) (by decide) hx
    · exact ValIn.plain _ _ 2 0 kImage (by decide) (by decide) (by decide)
    · exact hr

set_option maxRecDepth 100000 in
set_option maxHeartbeats 8000000 in
theorem write_idx (c : ByteArray) (ls : List (ByteArray × Int)) (ks : List ByteArray) (lv kv : Value) (w : World) (hl : PairsAt w lv (ls.map layerCell)) (hk : StrsAt w kv ks) (hn : ks.length ≤ 1048576) (hz : ∀ k ∈ ks, k.size ≤ maxLen) :
    Calls Tryz.prog 43 #[.agg #[.bool true, .string c, lv, kv]] w fun e w' => ∃ v, e = .returned v ∧ MadeVal w (.mk 4 0 ⟨#[]⟩ [rowVal (ks.map wordVal), wordVal kIndex] [nKids, nKind]) v w' := by
  obtain ⟨la, lc, rfl, -, -⟩ := hl.shape
  obtain ⟨ka, kc, rfl, -⟩ := hk.shape
  rw [List.length_map]
  obtain ⟨W, hW⟩ : ∃ W, (w.alloc (.cells #[.bool true, .string c, .slice la ls.length lc, .slice ka ks.length kc] 53)).alloc (.cells #[.int .i64 0, .int .i64 0, .string ⟨#[]⟩, .slice none 0 0, .slice none 0 0] 71) = W := ⟨_, rfl⟩
  have hs1 : ∀ o, (w.alloc o).heap.size = w.heap.size + 1 := fun o => by simp
  have hb0 : Below w.heap.size w W := by rw [← hW]; exact Below.then (below_new _ _) (below_new _ _)
  have hM : At4 W w.heap.size (.bool true) (.string c) (.slice la ls.length lc) (.slice ka ks.length kc) := by rw [← hW]; exact (At4.new _ _ _ _ _).keep (below_new _ _)
  have hZ : At5 W (w.heap.size + 1) (.int .i64 0) (.int .i64 0) (.string ⟨#[]⟩) (.slice none 0 0) (.slice none 0 0) := by
    rw [← hW]
    have e := At5.new (w.alloc (.cells #[.bool true, .string c, .slice la ls.length lc, .slice ka ks.length kc] 53)) (.int .i64 0) (.int .i64 0) (.string ⟨#[]⟩) (.slice none 0 0) (.slice none 0 0)
    rwa [hs1] at e
  have hsz : W.heap.size = w.heap.size + 2 := by rw [← hW]; simp
  obtain ⟨W1, hW1⟩ : ∃ W1, W.alloc namesIdx = W1 := ⟨_, rfl⟩
  have hb1 : Below W.heap.size W W1 := by rw [← hW1]; exact below_new _ _
  have hN : W1.heap[W.heap.size]? = some namesIdx := by rw [← hW1]; exact heap_alloc_new _ _
  have R := Lib.hid (rowWord_c _ ks W1 (hk.keep (Below.then hb0 hb1)) hn)
  obtain ⟨m0, m1, m2, m3⟩ := (hM.keep hb1).cells
  obtain ⟨p0, p1, p2, p3⟩ := hM.cells
  have P3 : ∀ o, (W.alloc o).cell? ⟨w.heap.size, 3, none⟩ = some (.slice ka ks.length kc) := fun o => (hM.keep (below_new W o)).cells.2.2.2
  have HZ := Lib.hid hZ
  have HN := Lib.hid hN
  have HB0 := Lib.hid hb0
  have HB1 := Lib.hid hb1
  have HSZ := Lib.hid hsz
  have HW := Lib.hid hW
  have HW1 := Lib.hid hW1
  have HK := Lib.hid hz
  have HKL := Lib.hid hn
  have CW := Lib.hid (fun s w => word_c s w)
  have CO := Lib.hid (fun a b l m c d w => object_c a b l m c d w)
  clear hM hZ hN hb0 hb1 hsz hW hW1 hl hk hs1 hz hn
  unfold namesIdx nKids nKind at HW1
  go_enter Tryz.func43, Tryz.ntmps43
  go_upto_region 1 with fail
  rw [HW.out]
  go_wp2_with fail
  rw [HW1.out]
  refine R.out.mono ?_
  rintro e w2 ⟨r, rfl, hm⟩
  have hmv := MadeVals.row (MadeRow.vals hm HK.out) (by rw [List.length_map]; have := HKL.out; unfold maxLen; omega)
  obtain ⟨g, rfl, hg, -⟩ := hm.is
  have HR := Lib.hid hmv
  have HB2 := Lib.hid (Below.then HB1.out hm.below)
  have HN2 := Lib.hid ((hm.below.block _ (by rw [← HW1.out]; simp)).trans HN.out)
  obtain ⟨n, hn⟩ : ∃ n, (ks.map wordC').length = n := ⟨_, rfl⟩
  have hn2 : (ks.map wordVal).length = n := by rw [← hn, List.length_map, List.length_map]
  rw [hn] at HR ⊢
  clear hm hmv hg hn hn2 m0 m1 m2 m3
  go_wp2_with fail
  refine (CW.out _ _).mono ?_
  rintro e w3 ⟨rfl, hb3⟩
  have HR3 := Lib.hid (HR.out.keep (S' := fun b => W1.heap.size ≤ b) fun b hS hl => ⟨hb3.block b hl, hS⟩)
  have HB3 := Lib.hid (Below.then HB2.out hb3)
  have hnl : W.heap.size < w2.heap.size := (Array.getElem?_eq_some_iff.1 HN2.out).1
  have HN3 := Lib.hid ((hb3.block _ hnl).trans HN2.out)
  clear hb3 hnl
  unfold wordC'
  go_wp2_with fail
  refine (CO.out _ _ _ _ _ _ _).mono ?_
  rintro e w4 ⟨rfl, hb4⟩
  have hbb : Below w3.heap.size w3 w4 := Below.then (below_new _ _) hb4
  have hI : w4.heap[w3.heap.size]? = some (itemsIdx (some ⟨g, 0, none⟩) n n) := (hb4.block _ (by simp)).trans (heap_alloc_new w3 _)
  have HB4 := Lib.hid (Below.then HB3.out hbb)
  have hnl : W.heap.size < w3.heap.size := (Array.getElem?_eq_some_iff.1 HN3.out).1
  have hN4 : w4.heap[W.heap.size]? = some namesIdx := (hbb.block _ hnl).trans HN3.out
  have hR4 := HR3.out.keep (S' := fun b => W1.heap.size ≤ b) fun b hS hl => ⟨hbb.block b hl, hS⟩
  have hZ4 := HZ.out.keep HB4.out
  have hw1 : W1.heap.size = w.heap.size + 3 := by rw [← HW1.out]; have := HSZ.out; simp; omega
  have HV := Lib.hid (show ValIn (fun b => w.heap.size ≤ b) (set5 w4 (w.heap.size + 1) 0 (.int .i64 4) (.int .i64 0) (.string ⟨#[]⟩) (.slice (some ⟨w3.heap.size, 0, none⟩) 2 2) (.slice (some ⟨W.heap.size, 0, none⟩) 2 2)) (.agg #[.int .i64 4, .int .i64 0, .string ⟨#[]⟩, .slice (some ⟨w3.heap.size, 0, none⟩) 2 2, .slice (some ⟨W.heap.size, 0, none⟩) 2 2]) (.mk 4 0 ⟨#[]⟩ [rowVal (ks.map wordVal), wordVal kIndex] [nKids, nKind]) from by
    have h1 := HSZ.out
    refine idx_val (S := fun b => w.heap.size ≤ b) ⟨(set5_block _ _ _ _ _ _ _ _ _ (by omega)).trans hN4, (set5_block _ _ _ _ _ _ _ _ _ (by omega)).trans hI⟩ (show w.heap.size ≤ W.heap.size by omega) (show w.heap.size ≤ w3.heap.size by omega) ?_
    exact hR4.keep fun b hS _ => ⟨set5_block _ _ _ _ _ _ _ _ b (by omega), by omega⟩)
  have HZ4 := Lib.hid hZ4
  obtain ⟨z0, z1, z2, z3, z4⟩ := hZ4.cells
  have f0 := hZ4.frozen 0
  have f1 := hZ4.frozen 1
  have f2 := hZ4.frozen 2
  have f3 := hZ4.frozen 3
  have f4 := hZ4.frozen 4
  clear hb4 hbb hI hnl hN4 hR4 hZ4 hw1
  go_wp2_with fail
  refine bodyPost_ret (results_cell_row (p := 2) rfl _ _ (w.heap.size + 1) 71 _ (0, 0) _ rfl (set5_five0 HZ4.out _ _ _ _ _) Tryz.underlying71 rfl valSize) rfl ?_
  exact ⟨_, rfl, below_five (Below.then HB0.out HB4.out) (Nat.le_succ _) _ _ _ _ _, HV.out⟩
end Go.Proofs.YtepcaglekgeamaaGreatDoor
namespace Go.Proofs.YtepcaglekgeamaaGreatDoor
open Go.RowKit

set_option maxRecDepth 100000 in
set_option maxHeartbeats 8000000 in
theorem write_img (c : ByteArray) (ls : List (ByteArray × Int)) (ks : List ByteArray) (lv kv : Value) (w : World) (hl : PairsAt w lv (ls.map layerCell)) (hk : StrsAt w kv ks) (hn : ls.length ≤ 1048576) (hz : ∀ l ∈ ls, l.1.size ≤ maxLen ∧ -9223372036854775808 ≤ l.2 ∧ l.2 ≤ 9223372036854775807) (hc : c.size ≤ maxLen) :
    Calls Tryz.prog 43 #[.agg #[.bool false, .string c, lv, kv]] w fun e w' => ∃ v, e = .returned v ∧ MadeVal w (.mk 4 0 ⟨#[]⟩ [wordVal c, wordVal kImage, rowVal (ls.map layerVal)] [nConfig, nKind, nLayers]) v w' := by
  have hl0 := hl
  obtain ⟨la, lc, rfl, -, -⟩ := hl.shape
  obtain ⟨ka, kc, rfl, -⟩ := hk.shape
  rw [List.length_map] at hl0 ⊢
  obtain ⟨W, hW⟩ : ∃ W, (w.alloc (.cells #[.bool false, .string c, .slice la ls.length lc, .slice ka ks.length kc] 53)).alloc (.cells #[.int .i64 0, .int .i64 0, .string ⟨#[]⟩, .slice none 0 0, .slice none 0 0] 71) = W := ⟨_, rfl⟩
  have hs1 : ∀ o, (w.alloc o).heap.size = w.heap.size + 1 := fun o => by simp
  have hb0 : Below w.heap.size w W := by rw [← hW]; exact Below.then (below_new _ _) (below_new _ _)
  have hM : At4 W w.heap.size (.bool false) (.string c) (.slice la ls.length lc) (.slice ka ks.length kc) := by rw [← hW]; exact (At4.new _ _ _ _ _).keep (below_new _ _)
  have hZ : At5 W (w.heap.size + 1) (.int .i64 0) (.int .i64 0) (.string ⟨#[]⟩) (.slice none 0 0) (.slice none 0 0) := by
    rw [← hW]
    have e := At5.new (w.alloc (.cells #[.bool false, .string c, .slice la ls.length lc, .slice ka ks.length kc] 53)) (.int .i64 0) (.int .i64 0) (.string ⟨#[]⟩) (.slice none 0 0) (.slice none 0 0)
    rwa [hs1] at e
  have hsz : W.heap.size = w.heap.size + 2 := by rw [← hW]; simp
  have R := Lib.hid (rowLayer_c _ ls W (hl0.keep hb0) hn hz)
  obtain ⟨p0, p1, p2, p3⟩ := hM.cells
  have HM := Lib.hid hM
  have HZ := Lib.hid hZ
  have HB0 := Lib.hid hb0
  have HSZ := Lib.hid hsz
  have HW := Lib.hid hW
  have HC := Lib.hid hc
  clear hM hZ hb0 hsz hW hl hl0 hk hs1 hz hn hc
  go_enter Tryz.func43, Tryz.ntmps43
  go_upto_region 1 with fail
  rw [HW.out]
  go_wp2_with fail
  refine R.out.mono ?_
  rintro e w2 ⟨r, l, rfl, hb2, hv2⟩
  obtain ⟨V, hV⟩ : ∃ V, w2.alloc (.cells #[.int .i64 3, .int .i64 0, .string ⟨#[]⟩, .slice r l l, .slice none 0 0] 71) = V := ⟨_, rfl⟩
  obtain ⟨B, hB⟩ : ∃ B, w2.heap.size = B := ⟨_, rfl⟩
  have hbV : Below w2.heap.size w2 V := by rw [← hV]; exact below_new _ _
  have hT : At5 V B (.int .i64 3) (.int .i64 0) (.string ⟨#[]⟩) (.slice r l l) (.slice none 0 0) := by rw [← hV, ← hB]; exact At5.new _ _ _ _ _ _
  have hbb : Below W.heap.size W V := Below.then hb2 hbV
  have HB := Lib.hid hbb
  have HRV := Lib.hid (hv2.keep (S' := fun b => W.heap.size ≤ b) fun b hS hl => ⟨hbV.block b hl, hS⟩)
  have HMV := Lib.hid (HM.out.keep hbb)
  have HZV := Lib.hid (HZ.out.keep hbb)
  have HK := Lib.hid (show ∀ w4, Below V.heap.size V w4 → ((w4.cell? ⟨B, 0, none⟩ = some (.int .i64 3) ∧ w4.cell? ⟨B, 1, none⟩ = some (.int .i64 0) ∧ w4.cell? ⟨B, 2, none⟩ = some (.string ⟨#[]⟩) ∧ w4.cell? ⟨B, 3, none⟩ = some (.slice r l l) ∧ w4.cell? ⟨B, 4, none⟩ = some (.slice none 0 0)) ∧ ∀ o, (w4.alloc o).cell? ⟨B, 0, none⟩ = some (.int .i64 3) ∧ (w4.alloc o).cell? ⟨B, 1, none⟩ = some (.int .i64 0) ∧ (w4.alloc o).cell? ⟨B, 2, none⟩ = some (.string ⟨#[]⟩) ∧ (w4.alloc o).cell? ⟨B, 3, none⟩ = some (.slice r l l) ∧ (w4.alloc o).cell? ⟨B, 4, none⟩ = some (.slice none 0 0)) from fun w4 h => ⟨(hT.keep h).cells, fun o => (hT.keep (Below.then h (below_new w4 o))).cells⟩)
  have CW := Lib.hid (show ∀ s w3, Below V.heap.size V w3 → Calls Tryz.prog 66 #[.string s] w3 fun e w4 => e = .returned (.agg #[.int .i64 2, .int .i64 0, .string s, .slice none 0 0, .slice none 0 0]) ∧ Below w3.heap.size w3 w4 ∧ Below V.heap.size V w4 ∧ ((w4.cell? ⟨B, 0, none⟩ = some (.int .i64 3) ∧ w4.cell? ⟨B, 1, none⟩ = some (.int .i64 0) ∧ w4.cell? ⟨B, 2, none⟩ = some (.string ⟨#[]⟩) ∧ w4.cell? ⟨B, 3, none⟩ = some (.slice r l l) ∧ w4.cell? ⟨B, 4, none⟩ = some (.slice none 0 0)) ∧ ∀ o, (w4.alloc o).cell? ⟨B, 0, none⟩ = some (.int .i64 3) ∧ (w4.alloc o).cell? ⟨B, 1, none⟩ = some (.int .i64 0) ∧ (w4.alloc o).cell? ⟨B, 2, none⟩ = some (.string ⟨#[]⟩) ∧ (w4.alloc o).cell? ⟨B, 3, none⟩ = some (.slice r l l) ∧ (w4.alloc o).cell? ⟨B, 4, none⟩ = some (.slice none 0 0)) from
    fun s w3 h => (word_c s w3).mono fun e w4 h4 => ⟨h4.1, h4.2, Below.then h h4.2, HK.out w4 (Below.then h h4.2)⟩)
  have CO := Lib.hid (show ∀ gn gi w3, Below V.heap.size V w3 → Calls Tryz.prog 64 #[.slice (some ⟨gn, 0, none⟩) 3 3, .slice (some ⟨gi, 0, none⟩) 3 3] w3 fun e w4 => e = .returned (.agg #[.int .i64 4, .int .i64 0, .string ⟨#[]⟩, .slice (some ⟨gi, 0, none⟩) 3 3, .slice (some ⟨gn, 0, none⟩) 3 3]) ∧ Below w3.heap.size w3 w4 ∧ Below V.heap.size V w4 ∧ ((w4.cell? ⟨B, 0, none⟩ = some (.int .i64 3) ∧ w4.cell? ⟨B, 1, none⟩ = some (.int .i64 0) ∧ w4.cell? ⟨B, 2, none⟩ = some (.string ⟨#[]⟩) ∧ w4.cell? ⟨B, 3, none⟩ = some (.slice r l l) ∧ w4.cell? ⟨B, 4, none⟩ = some (.slice none 0 0)) ∧ ∀ o, (w4.alloc o).cell? ⟨B, 0, none⟩ = some (.int .i64 3) ∧ (w4.alloc o).cell? ⟨B, 1, none⟩ = some (.int .i64 0) ∧ (w4.alloc o).cell? ⟨B, 2, none⟩ = some (.string ⟨#[]⟩) ∧ (w4.alloc o).cell? ⟨B, 3, none⟩ = some (.slice r l l) ∧ (w4.alloc o).cell? ⟨B, 4, none⟩ = some (.slice none 0 0)) ∧
      (w4.cell? ⟨w.heap.size + 1, 0, none⟩ = some (.int .i64 0) ∧ w4.cell? ⟨w.heap.size + 1, 1, none⟩ = some (.int .i64 0) ∧ w4.cell? ⟨w.heap.size + 1, 2, none⟩ = some (.string ⟨#[]⟩) ∧ w4.cell? ⟨w.heap.size + 1, 3, none⟩ = some (.slice none 0 0) ∧ w4.cell? ⟨w.heap.size + 1, 4, none⟩ = some (.slice none 0 0)) ∧
      (w4.frozen? ⟨w.heap.size + 1, 0, none⟩ = false ∧ w4.frozen? ⟨w.heap.size + 1, 1, none⟩ = false ∧ w4.frozen? ⟨w.heap.size + 1, 2, none⟩ = false ∧ w4.frozen? ⟨w.heap.size + 1, 3, none⟩ = false ∧ w4.frozen? ⟨w.heap.size + 1, 4, none⟩ = false) from
    fun gn gi w3 h => (object_c _ _ 3 3 3 3 w3).mono fun e w4 h4 => by
      have hb := Below.then h h4.2
      have hz := HZV.out.keep hb
      exact ⟨h4.1, h4.2, hb, HK.out w4 hb, hz.cells, hz.frozen 0, hz.frozen 1, hz.frozen 2, hz.frozen 3, hz.frozen 4⟩)
  have HFIN := Lib.hid (show ∀ gn gi wO, TwoNew V wO gn namesImg gi (itemsImg c r l l) → MadeVal w (.mk 4 0 ⟨#[]⟩ [wordVal c, wordVal kImage, rowVal (ls.map layerVal)] [nConfig, nKind, nLayers]) (.agg #[.int .i64 4, .int .i64 0, .string ⟨#[]⟩, .slice (some ⟨gi, 0, none⟩) 3 3, .slice (some ⟨gn, 0, none⟩) 3 3]) (set5 wO (w.heap.size + 1) 0 (.int .i64 4) (.int .i64 0) (.string ⟨#[]⟩) (.slice (some ⟨gi, 0, none⟩) 3 3) (.slice (some ⟨gn, 0, none⟩) 3 3)) from fun gn gi wO hL => by
    have h1 := hL.gn
    have h2 := hL.gi
    have h3 := HSZ.out
    have h4 := HB.out.size
    refine ⟨below_five (Below.then HB0.out (Below.then HB.out hL.below)) (Nat.le_succ _) _ _ _ _ _, ?_⟩
    refine img_val (S := fun b => w.heap.size ≤ b) ⟨(set5_block _ _ _ _ _ _ _ _ gn (by omega)).trans hL.two.names, (set5_block _ _ _ _ _ _ _ _ gi (by omega)).trans hL.two.items⟩ (show w.heap.size ≤ gn by omega) (show w.heap.size ≤ gi by omega) HC.out ?_
    exact HRV.out.keep fun b hS hl => ⟨(set5_block _ _ _ _ _ _ _ _ b (by omega)).trans (hL.below.block b hl), by omega⟩)
  obtain ⟨⟨q0, q1, q2, q3, q4⟩, Q⟩ := HK.out V (Below.refl _ _)
  obtain ⟨m0, m1, m2, m3⟩ := HMV.out.cells
  have M1 : ∀ o, (V.alloc o).cell? ⟨w.heap.size, 1, none⟩ = some (.string c) := fun o => (HMV.out.keep (below_new V o)).cells.2.1
  have hbr := Below.refl V.heap.size V
  have HV := Lib.hid hV
  have HBE := Lib.hid hB
  clear hV hB hbV hT hbb hb2 hv2 p0 p1 p2 p3
  go_upto_region 4 with fail
  rw [HBE.out, HV.out]
  go_region_law
    (first
      | (go_simp; go_at_call 66; refine (CW.out kImage _ (by first | exact hbr | exact hbr.drew | exact Below.then hbr (below_new _ _) | exact Below.then hbr.drew (below_new _ _))).mono ?_; rintro e wI ⟨rfl, hbI, hbr, ⟨⟨q0, q1, q2, q3, q4⟩, Q⟩⟩)
      | (go_simp; go_at_call 66; refine (CW.out c _ (by first | exact hbr | exact hbr.drew | exact Below.then hbr (below_new _ _) | exact Below.then hbr.drew (below_new _ _))).mono ?_; rintro e wC ⟨rfl, hbC, hbr, ⟨⟨q0, q1, q2, q3, q4⟩, Q⟩⟩)
      | (go_simp; go_at_call 64; refine (CO.out _ _ _ (by first | exact Below.then hbr (below_new _ _) | exact Below.then (Below.then hbr (below_new _ _)) (below_new _ _))).mono ?_; rintro e wO ⟨rfl, hbO, hbr, -, ⟨z0, z1, z2, z3, z4⟩, ⟨f0, f1, f2, f3, f4⟩⟩))
  all_goals
    have HKZ := Lib.hid (HZV.out.keep hbr)
    go_wp2_with fail
    refine bodyPost_ret (results_cell_row (p := 2) rfl _ _ (w.heap.size + 1) 71 _ (0, 0) _ rfl (set5_five0 HKZ.out _ _ _ _ _) Tryz.underlying71 rfl valSize) rfl ?_
    refine ⟨_, rfl, ?_⟩
    first
      | exact HFIN.out _ _ _ (two_A (W := V.drew) (oN := namesImg) (oI := itemsImg c r l l) hbC hbI hbO).undrew
      | exact HFIN.out _ _ _ (two_B (W := V.drew) (oN := namesImg) (oI := itemsImg c r l l) hbC hbI hbO).undrew
      | exact HFIN.out _ _ _ (two_C (W := V.drew) (oN := namesImg) (oI := itemsImg c r l l) hbC hbI hbO).undrew
      | exact HFIN.out _ _ _ (two_D (W := V.drew) (oN := namesImg) (oI := itemsImg c r l l) hbC hbI hbO).undrew

theorem valM_true (c : ByteArray) (ls : List (ByteArray × Int)) (ks : List ByteArray) : valM ⟨true, c, ls, ks⟩ = .mk 4 0 ⟨#[]⟩ [rowVal (ks.map wordVal), wordVal kIndex] [nKids, nKind] := rfl

theorem valM_false (c : ByteArray) (ls : List (ByteArray × Int)) (ks : List ByteArray) : valM ⟨false, c, ls, ks⟩ = .mk 4 0 ⟨#[]⟩ [wordVal c, wordVal kImage, rowVal (ls.map layerVal)] [nConfig, nKind, nLayers] := rfl

theorem write_c (m : Man) (v : Value) (w : World) (hv : ManAt w v m) (h1 : m.layers.length ≤ 1048576) (h2 : m.kids.length ≤ 1048576) :
    Calls Tryz.prog 43 #[v] w fun e w' => ∃ v, e = .returned v ∧ MadeVal w (valM m) v w' := by
  obtain ⟨i, c, ls, ks⟩ := m
  obtain ⟨⟨lv, kv, rfl, hl, hk⟩, hc, hzl, hzk⟩ := hv
  cases i with
  | true => rw [valM_true]; exact write_idx c ls ks lv kv w hl hk h2 hzk
  | false => rw [valM_false]; exact write_img c ls ks lv kv w hl hk h1 hzl hc
end Go.Proofs.YtepcaglekgeamaaGreatDoor
