/-
  The document's own Like, by a contract. Conditions: what comes in reads as trees.
-/
import Derived.Test.YtgkapipiegfmhaaDoorRefVal
import Derived.StillTailTactics
namespace Go.Proofs.YtgkapipiegfmhaaDoor
open Go.RowKit

theorem beqB (a b : ByteArray) : (a.toList == b.toList) = decide (a = b) := by
  rw [Bool.eq_iff_iff, beq_iff_eq, decide_eq_true_eq, Lib.toList_data, Lib.toList_data]
  exact ⟨fun h => ByteArray.ext (Array.ext' h), fun h => by rw [h]⟩
theorem StrsAt.shape {w : World} {v : Value} {ss : List ByteArray} (h : StrsAt w v ss) : ∃ a cap, v = .slice a ss.length cap ∧ cap ≤ maxLen := by
  rcases h with ⟨rfl, rfl | ⟨a, cap, rfl, hc⟩⟩ | ⟨b, o, cap, rfl, _, _, hc, _⟩
  · exact ⟨_, _, rfl, by unfold maxLen; omega⟩
  · exact ⟨_, _, rfl, hc⟩
  · exact ⟨_, _, rfl, hc⟩
theorem Fives.shape {w : World} {v : Value} {n : Nat} {ev : Nat → Value} (h : Fives w v n ev) : ∃ a cap, v = .slice a n cap ∧ cap ≤ maxLen ∧ n ≤ maxLen := by
  rcases h with ⟨rfl, rfl | ⟨a, cap, rfl, hc⟩⟩ | ⟨b, o, cap, rfl, _, h2, hc, _⟩
  · exact ⟨_, _, rfl, by unfold maxLen; omega, by unfold maxLen; omega⟩
  · exact ⟨_, _, rfl, hc, by unfold maxLen; omega⟩
  · exact ⟨_, _, rfl, hc, by omega⟩
theorem StrsAt.len {w : World} {v : Value} {ss : List ByteArray} (h : StrsAt w v ss) : ss.length ≤ maxLen := by
  rcases h with ⟨rfl, _⟩ | ⟨b, o, c, e, _, h1, h2, hc⟩
  · exact Nat.zero_le _
  · omega
theorem StrsAt.at {w : World} {a : Option Addr} {n cap : Nat} {ss : List ByteArray} (h : StrsAt w (.slice a n cap) ss) (i : Nat) (hi : i < ss.length) : ∃ b o, a = some ⟨b, o, none⟩ ∧ w.cell? ⟨b, o + i, none⟩ = some (.string ss[i]) := by
  rcases h with ⟨rfl, _⟩ | ⟨b, o, c, e, _, _, _, hc⟩
  · simp at hi
  · simp only [Value.slice.injEq] at e
    exact ⟨b, o, e.1, hc i hi⟩
theorem Fives.at {w : World} {a : Option Addr} {cap n : Nat} {ev : Nat → Value} (h : Fives w (.slice a n cap) n ev) (i : Nat) (hi : i < n) : ∃ b o c0 c1 c2 c3 c4, a = some ⟨b, o, none⟩ ∧ ev i = .agg #[c0, c1, c2, c3, c4] ∧
    w.cell? ⟨b, o + i * 5, none⟩ = some c0 ∧ w.cell? ⟨b, o + i * 5 + 1, none⟩ = some c1 ∧ w.cell? ⟨b, o + i * 5 + 2, none⟩ = some c2 ∧ w.cell? ⟨b, o + i * 5 + 3, none⟩ = some c3 ∧ w.cell? ⟨b, o + i * 5 + 4, none⟩ = some c4 := by
  rcases h with ⟨h0, _⟩ | ⟨b, o, c, e, _, _, _, hc⟩
  · omega
  · simp only [Value.slice.injEq] at e
    obtain ⟨c0, c1, c2, c3, c4, h1, h2⟩ := hc i hi
    exact ⟨b, o, c0, c1, c2, c3, c4, e.1, h1, h2⟩

/-- A row of five cells lies at B. -/
def At5 (w : World) (B : Nat) (a b c d e : Value) : Prop := w.heap[B]? = some (.cells #[a, b, c, d, e] 25 (0, 0))
theorem At5.lt {w : World} {B : Nat} {a b c d e : Value} (h : At5 w B a b c d e) : B < w.heap.size := (Array.getElem?_eq_some_iff.1 h).1
theorem At5.keep {w w' : World} {B : Nat} {a b c d e : Value} (h : At5 w B a b c d e) (hb : Below w.heap.size w w') : At5 w' B a b c d e := (hb.block B h.lt).trans h
theorem At5.cells {w : World} {B : Nat} {a b c d e : Value} (h : At5 w B a b c d e) :
    w.cell? ⟨B, 0, none⟩ = some a ∧ w.cell? ⟨B, 1, none⟩ = some b ∧ w.cell? ⟨B, 2, none⟩ = some c ∧ w.cell? ⟨B, 3, none⟩ = some d ∧ w.cell? ⟨B, 4, none⟩ = some e := by
  unfold At5 at h
  refine ⟨?_, ?_, ?_, ?_, ?_⟩ <;> simp [World.cell?, h]
theorem At5.new (w : World) (a b c d e : Value) : At5 (w.alloc (.cells #[a, b, c, d, e] 25)) w.heap.size a b c d e := by
  show (w.heap.push (Obj.cells #[a, b, c, d, e] 25 (0, 0)))[w.heap.size]? = _; simp
theorem below_new (w : World) (o : Obj) : Below w.heap.size w (w.alloc o) := (Below.refl _ _).alloc (Nat.le_refl _) _
/-- One world behind another. -/
theorem Below.then {a b c : World} (h : Below a.heap.size a b) (k : Below b.heap.size b c) : Below a.heap.size a c := h.trans (k.mono h.size)

set_option maxRecDepth 100000 in
set_option maxHeartbeats 4000000 in
theorem like_go : ∀ (m : Nat) (T U : Val), SizeOf.sizeOf T ≤ m → ∀ (a b : Value) (w : World), IsVal w a T → IsVal w b U →
    Calls Tryd.prog 7 #[a, b] w fun e w' => e = .returned (.bool (likeV T U)) ∧ Below w.heap.size w w' := by
  intro m
  induction m with
  | zero =>
    intro T U h
    cases T
    simp at h
  | succ m ih =>
    intro T U hT a b w ha hb
    cases ha with
    | mk k n s iv nv items names ev hk hn hs hN hz hI hsub =>
    cases hb with
    | mk k' n' s' iv' nv' items' names' ev' hk' hn' hs' hN' hz' hI' hsub' =>
    have hsz : ∀ (i : Nat) (h : i < items.length), SizeOf.sizeOf items[i] ≤ m := fun i h => by
      have h1 := List.sizeOf_lt_of_mem (List.getElem_mem h)
      simp at hT
      omega
    obtain ⟨na, nc, rfl, hnc⟩ := hN.shape
    obtain ⟨na', nc', rfl, hnc'⟩ := hN'.shape
    obtain ⟨ia, ic, rfl, hic, hil⟩ := hI.shape
    obtain ⟨ia', ic', rfl, hic', hil'⟩ := hI'.shape
    have hNl := hN.len
    have hIl' : items.length = items.length := rfl
    obtain ⟨nn, hnn⟩ : ∃ x, names.length = x := ⟨_, rfl⟩
    obtain ⟨nn', hnn'⟩ : ∃ x, names'.length = x := ⟨_, rfl⟩
    obtain ⟨li, hli⟩ : ∃ x, items.length = x := ⟨_, rfl⟩
    obtain ⟨li', hli'⟩ : ∃ x, items'.length = x := ⟨_, rfl⟩
    rw [hnn] at hN hNl ⊢
    rw [hnn'] at hN' ⊢
    rw [hli] at hI hil ⊢
    rw [hli'] at hI' hil' ⊢
    clear hIl'
    have hL : likeV (.mk k n s items names) (.mk k' n' s' items' names') = (k == k' && n == n' && decide (s = s') && decide (names = names') && likeL items items') := by rw [likeV]
    have HLK := Lib.hid hL
    clear hL hk hn hs hk' hn' hs' hT
    have q3 : (s.toList == s'.toList) = decide (s = s') := beqB s s'
    have B2 := Lib.hid ((below_new w (.cells #[.int .i64 k, .int .i64 n, .string s, .slice ia li ic, .slice na nn nc] 25)).trans ((below_new _ (.cells #[.int .i64 k', .int .i64 n', .string s', .slice ia' li' ic', .slice na' nn' nc'] 25)).mono (by simp)))
    by_cases hK : k = k'
    rotate_left
    · have HO := Lib.hid (show likeV (.mk k n s items names) (.mk k' n' s' items' names') = false by rw [HLK.out]; rw [beq_eq_false_iff_ne.2 hK]; rfl)
      have q1 : (k != k') = true := bne_iff_ne.2 hK
      clear hN hN' hI hI' hz hz' hsub hsub' hsz ih
      go_enter Tryd.func7, Tryd.ntmps7
      go_wp2_with fail
      go_ret
      exact ⟨by rw [HO.out]; rfl, B2.out⟩
    by_cases hNn : n = n'
    rotate_left
    · have HO := Lib.hid (show likeV (.mk k n s items names) (.mk k' n' s' items' names') = false by rw [HLK.out]; rw [beq_eq_false_iff_ne.2 hNn]; simp)
      subst hK
      have q2 : (n != n') = true := bne_iff_ne.2 hNn
      clear hN hN' hI hI' hz hz' hsub hsub' hsz ih
      go_enter Tryd.func7, Tryd.ntmps7
      go_wp2_with fail
      go_ret
      exact ⟨by rw [HO.out]; rfl, B2.out⟩
    by_cases hS : s = s'
    rotate_left
    · have HO := Lib.hid (show likeV (.mk k n s items names) (.mk k' n' s' items' names') = false by rw [HLK.out]; rw [decide_eq_false hS]; simp)
      subst hK hNn
      rw [decide_eq_false hS] at q3
      clear hN hN' hI hI' hz hz' hsub hsub' hsz ih
      go_enter Tryd.func7, Tryd.ntmps7
      go_wp2_with fail
      go_ret
      exact ⟨by rw [HO.out]; rfl, B2.out⟩
    by_cases hLn : nn = nn'
    rotate_left
    · have HO := Lib.hid (show likeV (.mk k n s items names) (.mk k' n' s' items' names') = false by rw [HLK.out]; rw [decide_eq_false (show ¬ names = names' from fun e => hLn (by rw [← hnn, ← hnn', e]))]; simp)
      subst hK hNn hS
      have q4 : ((nn : Int) != (nn' : Int)) = true := bne_iff_ne.2 (by omega)
      rw [decide_eq_true rfl] at q3
      clear hN hN' hI hI' hz hz' hsub hsub' hsz ih
      go_enter Tryd.func7, Tryd.ntmps7
      go_wp2_with fail
      go_ret
      exact ⟨by rw [HO.out]; rfl, B2.out⟩
    by_cases hLi : li = li'
    rotate_left
    · have HO := Lib.hid (show likeV (.mk k n s items names) (.mk k' n' s' items' names') = false by rw [HLK.out]; cases h : likeL items items' with
      | true => exact absurd ((hli.symm.trans (likeL_length _ _ h)).trans hli') hLi
      | false => simp)
      subst hK hNn hS
      subst hLn
      have q5 : ((li : Int) != (li' : Int)) = true := bne_iff_ne.2 (by omega)
      rw [decide_eq_true rfl] at q3
      clear hN hN' hI hI' hz hz' hsub hsub' hsz ih
      go_enter Tryd.func7, Tryd.ntmps7
      go_wp2_with fail
      go_ret
      exact ⟨by rw [HO.out]; rfl, B2.out⟩
    subst hK hNn hS
    rw [decide_eq_true rfl] at q3
    subst hLn hLi
    have hA := (At5.new w (.int .i64 k) (.int .i64 n) (.string s) (.slice ia li ic) (.slice na nn nc)).keep (below_new _ (.cells #[.int .i64 k, .int .i64 n, .string s, .slice ia' li ic', .slice na' nn nc'] 25))
    have hB := At5.new (w.alloc (.cells #[.int .i64 k, .int .i64 n, .string s, .slice ia li ic, .slice na nn nc] 25)) (.int .i64 k) (.int .i64 n) (.string s) (.slice ia' li ic') (.slice na' nn nc')
    have hs1 : (w.alloc (.cells #[.int .i64 k, .int .i64 n, .string s, .slice ia li ic, .slice na nn nc] 25)).heap.size = w.heap.size + 1 := by simp
    rw [hs1] at hB
    have hbW := B2.out
    unfold maxLen at hNl hil
    go_enter Tryd.func7, Tryd.ntmps7
    go_wp2_with fail
    generalize (w.alloc (.cells #[.int .i64 k, .int .i64 n, .string s, .slice ia li ic, .slice na nn nc] 25)).alloc (.cells #[.int .i64 k, .int .i64 n, .string s, .slice ia' li ic', .slice na' nn nc'] 25) = W at hA hB hbW ⊢
    have HA := Lib.hid hA
    have HB := Lib.hid hB
    have HW := Lib.hid hbW
    have HN := Lib.hid hN
    have HN' := Lib.hid hN'
    have HI := Lib.hid hI
    have HI' := Lib.hid hI'
    have HS := Lib.hid hsub
    have HS' := Lib.hid hsub'
    have IH := Lib.hid ih
    have HZ := Lib.hid hsz
    clear hA hB hbW hN hN' hI hI' hsub hsub' ih hsz hz hz' B2 hs1 q3 hnc hnc' hic hic' hil'
    go_loopw [47] (fun iv wr => ∃ j : Nat, j ≤ nn ∧ iv = .int .i64 j ∧ names.take j = names'.take j ∧ Below W.heap.size W wr) (fun i _ => nn - (intOf i).toNat)
    case atStart => exact ⟨0, Nat.zero_le _, rfl, rfl, Below.refl _ _⟩
    case round =>
      obtain ⟨j, hj, rfl, htk, hb⟩ := hrel
      have HT := Lib.hid htk
      have HR := Lib.hid hb
      have h5 := (HA.out.keep hb).cells
      obtain ⟨a0, a1, a2, a3, a4⟩ := h5
      have h6 := (HB.out.keep hb).cells
      obtain ⟨b0, b1, b2, b3, b4⟩ := h6
      clear htk hb
      by_cases hlt : j < nn
      · obtain ⟨p, o, hna, hc⟩ := HN.out.at j (by omega)
        obtain ⟨p', o', hna', hc'⟩ := HN'.out.at j (by omega)
        rw [hna] at a4
        rw [hna'] at b4
        clear hna hna'
        have kc : ∀ {p : Addr} {v : Value}, w.cell? p = some v → wr.cell? p = some v := fun h => (Below.then HW.out HR.out).cell (World.block_lt_of_cell? _ _ h) |>.trans h
        have hc1 := kc hc
        have hc2 := kc hc'
        clear hc hc' kc
        have ht1 : names.take (j + 1) = names.take j ++ [names[j]'(by omega)] := List.take_succ_eq_append_getElem (by omega)
        have ht2 : names'.take (j + 1) = names'.take j ++ [names'[j]'(by omega)] := List.take_succ_eq_append_getElem (by omega)
        obtain ⟨x, hx⟩ : ∃ x, names[j]'(by omega) = x := ⟨_, rfl⟩
        obtain ⟨y, hy⟩ : ∃ y, names'[j]'(by omega) = y := ⟨_, rfl⟩
        rw [hx] at hc1 ht1
        rw [hy] at hc2 ht2
        by_cases hxy : x = y
        · have hcm : (x.toList == y.toList) = true := by rw [beqB, decide_eq_true hxy]
          have HN1 := Lib.hid (show names.take (j + 1) = names'.take (j + 1) by rw [ht1, ht2, HT.out, hxy])
          clear ht1 ht2 hx hy hxy
          go_wp2_with fail
          go_quiet (fail)
          go_wp2_with fail
          go_roundw
          case rel => exact ⟨j + 1, by omega, by go_num, HN1.out, below_drewN HR.out _⟩
          case measure => simp [intOf]; omega
        · have hcm : (x.toList == y.toList) = false := by rw [beqB, decide_eq_false hxy]
          have HO := Lib.hid (show likeV (.mk k n s items names) (.mk k n s items' names') = false by
            rw [HLK.out, decide_eq_false (show ¬ names = names' from fun e => hxy (by subst e; rw [← hx, ← hy]))]; simp)
          clear ht1 ht2 hx hy hxy
          go_wp2_with fail
          go_quiet (fail)
          go_wp2_with fail
          go_ret
          exact ⟨by rw [HO.out]; rfl, Below.then HW.out (below_drewN HR.out _)⟩
      · have hnm : names = names' := by
          have := HT.out
          rw [List.take_of_length_le (by omega), List.take_of_length_le (by omega)] at this
          exact this
        have HL2 := Lib.hid (show likeV (.mk k n s items names) (.mk k n s items' names') = likeL items items' by
          rw [HLK.out, decide_eq_true hnm]; simp)
        obtain ⟨V, rfl⟩ : ∃ V : World, V = wr := ⟨_, rfl⟩
        clear hnm HT
        go_wp2_with fail
        clear a0 a1 a2 a3 a4 b0 b1 b2 b3 b4 hlt hj
        go_loopw [65] (fun iv wr => ∃ j : Nat, j ≤ li ∧ iv = .int .i64 j ∧ likeL (items.drop j) (items'.drop j) = likeL items items' ∧ Below W.heap.size W wr) (fun i _ => li - (intOf i).toNat)
        case atStart => exact ⟨0, Nat.zero_le _, rfl, rfl, HR.out⟩
        case round =>
          obtain ⟨j, hj, rfl, hlk, hb⟩ := hrel
          have HK := Lib.hid hlk
          have HR2 := Lib.hid hb
          have h5 := (HA.out.keep hb).cells
          obtain ⟨a0, a1, a2, a3, a4⟩ := h5
          have h6 := (HB.out.keep hb).cells
          obtain ⟨b0, b1, b2, b3, b4⟩ := h6
          clear hlk hb
          by_cases hlt : j < li
          · obtain ⟨p, o, c0, c1, c2, c3, c4, hia, hev, e0, e1, e2, e3, e4⟩ := HI.out.at j hlt
            obtain ⟨p', o', c0', c1', c2', c3', c4', hia', hev', e0', e1', e2', e3', e4'⟩ := HI'.out.at j hlt
            have kc : ∀ {p : Addr} {v : Value}, w.cell? p = some v → wr.cell? p = some v := fun h => (Below.then HW.out HR2.out).cell (World.block_lt_of_cell? _ _ h) |>.trans h
            have v0 := kc e0
            have v1 := kc e1
            have v2 := kc e2
            have v3 := kc e3
            have v4 := kc e4
            have v0' := kc e0'
            have v1' := kc e1'
            have v2' := kc e2'
            have v3' := kc e3'
            have v4' := kc e4'
            rw [hia] at a3
            rw [hia'] at b3
            have hs1 := HS.out j (by omega)
            have hs2 := HS'.out j (by omega)
            rw [hev] at hs1
            rw [hev'] at hs2
            have C := Lib.hid (IH.out (items[j]'(by omega)) (items'[j]'(by omega)) (HZ.out j (by omega)) _ _ wr.drew ((hs1.keep (Below.then HW.out HR2.out)).keep (Below.refl _ _).drew) ((hs2.keep (Below.then HW.out HR2.out)).keep (Below.refl _ _).drew))
            have hd := likeL_drop j items items' (by omega) (by omega)
            rw [HK.out] at hd
            obtain ⟨r, hr⟩ : ∃ r, likeV (items[j]'(by omega)) (items'[j]'(by omega)) = r := ⟨_, rfl⟩
            rw [hr] at C hd
            have HD := Lib.hid hd
            clear kc e0 e1 e2 e3 e4 e0' e1' e2' e3' e4' hia hia' hev hev' hs1 hs2 hd hr
            go_wp2_with fail
            go_still_tail 10, (by kernel_rfl)
            change wpList _ _ _ _ _ wr.drew
            go_wp2_with fail
            refine C.out.mono ?_
            rintro e w2 ⟨rfl, hbc⟩
            have HR3 := Lib.hid (Below.then HR2.out ((Below.refl _ _).drew.trans hbc))
            clear hbc
            cases r with
            | true =>
              have HN1 := Lib.hid (show likeL (items.drop (j + 1)) (items'.drop (j + 1)) = likeL items items' by rw [HD.out]; simp)
              go_wp2_with fail
              go_roundw
              case rel => exact ⟨j + 1, by omega, by go_num, HN1.out, HR3.out⟩
              case measure => simp [intOf]; omega
            | false =>
              have HO := Lib.hid (show likeV (.mk k n s items names) (.mk k n s items' names') = false by rw [HL2.out, HD.out]; rfl)
              go_wp2_with fail
              go_ret
              exact ⟨by rw [HO.out]; rfl, Below.then HW.out HR3.out⟩
          · have HO := Lib.hid (show likeV (.mk k n s items names) (.mk k n s items' names') = true by
              rw [HL2.out, ← HK.out, List.drop_eq_nil_of_le (by omega), List.drop_eq_nil_of_le (by omega)]; rfl)
            go_wp2_with fail
            go_ret
            exact ⟨by rw [HO.out]; rfl, Below.then HW.out HR2.out⟩
theorem like_any (T U : Val) (a b : Value) (w : World) (ha : IsVal w a T) (hb : IsVal w b U) :
    Calls Tryd.prog 7 #[a, b] w fun e w' => e = .returned (.bool (likeV T U)) ∧ Below w.heap.size w w' := like_go _ T U (Nat.le_refl _) a b w ha hb
end Go.Proofs.YtgkapipiegfmhaaDoor
