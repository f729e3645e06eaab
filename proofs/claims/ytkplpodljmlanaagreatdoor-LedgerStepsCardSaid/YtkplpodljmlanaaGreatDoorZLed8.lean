/-
  Plain facts for the document's own With: a half's room, sector by sector. Conditions: none.
  A row of bytes that '[]byte(s)' laid and appends go on with (as in RefRow of the digest's seats): its word and the law of one more byte. Conditions: none.
  The document's own With, by a contract: a disk on which bytes stand behind so many of a half's room, and its head tells so. Conditions: the disk may be; there is room.
  Plain facts for LedgerSteps: what a call lays, write by write, and what a flush makes of all. Conditions: none.
-/
import Derived.Test.YtkplpodljmlanaaGreatDoorZLed7
import Derived.Test.YtkplpodljmlanaaGreatDoorZOct2
import Derived.ArgAppend
import Derived.Laws.IdiomStrings
import Derived.Lib.Strings
import Derived.Test.YtkplpodljmlanaaGreatDoorZDsk3
import Derived.Deep.RegionHeld3
import Derived.Test.YtkplpodljmlanaaGreatDoorZLed2
/-! Plain facts for the document's own With: a half's room, sector by sector. Conditions: none. -/
namespace Go.Proofs.YtkplpodljmlanaaGreatDoor

/-- The sectors when so many of a half's room have been looked at. -/
def fillTo (d : Dsk) (m : Nat) (th sl : List UInt8) (k i : Nat) : ByteArray := if m * hOf d + 1 ≤ i ∧ i < m * hOf d + 1 + k then fillAt (m * hOf d) th sl (fillN th sl) i (d.secs.getD i ⟨#[]⟩) else d.secs.getD i ⟨#[]⟩
theorem fillTo_zero (d : Dsk) (m : Nat) (th sl : List UInt8) (i : Nat) : fillTo d m th sl 0 i = d.secs.getD i ⟨#[]⟩ := by
  unfold fillTo
  rw [if_neg (by omega)]
theorem fillTo_all {d : Dsk} {m : Nat} {th sl : List UInt8} (hfit : th.length + sl.length ≤ roomN d) (i : Nat) : fillTo d m th sl (hOf d - 1) i = fillAt (m * hOf d) th sl (fillN th sl) i (d.secs.getD i ⟨#[]⟩) := by
  unfold fillTo
  by_cases h : m * hOf d + 1 ≤ i ∧ i < m * hOf d + 1 + (hOf d - 1)
  · rw [if_pos h]
  · rw [if_neg h]
    unfold fillAt
    rw [if_neg]
    rintro ⟨c1, c2⟩
    have c3 := fillN_lt (there := th) (fresh := sl) (i := i - (m * hOf d + 1)) (by omega) (by omega)
    rw [List.length_append] at c3
    unfold roomN at hfit
    omega
theorem fillTo_no {d : Dsk} {m k : Nat} {th sl : List UInt8} (h : ¬ (sl ≠ [] ∧ th.length < 128 * k + 128 ∧ 128 * k < th.length + sl.length)) (i : Nat) : fillTo d m th sl (k + 1) i = fillTo d m th sl k i := by
  unfold fillTo
  by_cases e : i = m * hOf d + 1 + k
  · rw [if_pos (by omega), if_neg (by omega)]
    unfold fillAt
    rw [if_neg]
    rintro ⟨c1, c2⟩
    have c3 := fillN_lt (there := th) (fresh := sl) (i := k) (by omega) (by omega)
    rw [List.length_append] at c3
    exact h ⟨c3.1, by omega, by omega⟩
  · by_cases c : m * hOf d + 1 ≤ i ∧ i < m * hOf d + 1 + k
    · rw [if_pos c, if_pos (by omega)]
    · rw [if_neg c, if_neg (by omega)]
theorem fillTo_yes {d : Dsk} {m k : Nat} {th sl : List UInt8} (h : sl ≠ [] ∧ th.length < 128 * k + 128 ∧ 128 * k < th.length + sl.length) (i : Nat) : fillTo d m th sl (k + 1) i = if i = m * hOf d + 1 + k then secB' ((th ++ sl).drop (k * 128)) else fillTo d m th sl k i := by
  unfold fillTo
  by_cases e : i = m * hOf d + 1 + k
  · rw [if_pos (by omega), if_pos e]
    unfold fillAt
    have c3 := fillN_ge (there := th) (fresh := sl) (i := k) h.1 (by rw [List.length_append]; omega)
    rw [if_pos (by omega), show i - (m * hOf d + 1) = k by omega]
  · rw [if_neg e]
    by_cases c : m * hOf d + 1 ≤ i ∧ i < m * hOf d + 1 + k
    · rw [if_pos c, if_pos (by omega)]
    · rw [if_neg c, if_neg (by omega)]
theorem fillTo_size {d : Dsk} (hr : RightIs d) (m : Nat) (th sl : List UInt8) (k : Nat) {i : Nat} (hi : i < d.secs.length) : (fillTo d m th sl k i).size = 128 := by
  unfold fillTo
  split
  · exact fillAt_size _ _ _ _ _ _ (sec_size hr hi)
  · exact sec_size hr hi
theorem cut_pad (Y : List UInt8) (k rm : Nat) (hk : 128 * k + 128 ≤ rm) (hl : Y.length ≤ rm) : ((Y ++ List.replicate (rm - Y.length) 0).drop (128 * k)).take 128 = secL (Y.drop (k * 128)) := by
  unfold secL
  apply List.ext_getElem?
  intro j
  rw [List.getElem?_take]
  by_cases hj : j < 128
  · rw [if_pos hj, List.getElem?_drop]
    by_cases hn : 128 * k + j < Y.length
    · rw [List.getElem?_append_left hn, List.getElem?_append_left (by rw [List.length_take, List.length_drop]; omega), List.getElem?_take, if_pos hj, List.getElem?_drop, Nat.mul_comm k 128]
    · rw [List.getElem?_append_right (by omega), List.getElem?_append_right (by rw [List.length_take, List.length_drop]; omega), List.getElem?_replicate, List.getElem?_replicate, if_pos (by omega), if_pos (by rw [List.length_take, List.length_drop]; omega)]
  · rw [if_neg hj, List.getElem?_eq_none]
    rw [List.length_append, List.length_take, List.length_drop, List.length_replicate]
    omega
/-- The disk at the end. -/
def lastF (d : Dsk) (m g u : Nat) (sl : List UInt8) (i : Nat) : ByteArray := if i = m * hOf d then headB g (u + sl.length) else fillTo d m ((roomL d m).take u) sl (hOf d - 1) i
theorem withD_clean {d : Dsk} (hr : RightIs d) {m g u : Nat} {sl : List UInt8} (hm : m ≤ 1) (hfit : u + sl.length ≤ roomN d) : withD d m g u sl = clean d.secs.length (lastF d m g u sl) := by
  unfold withD headD
  rw [fillD_len, show hOf (fillD d m ((roomL d m).take u) sl) = hOf d by unfold hOf; rw [fillD_len]]
  apply clean_congr
  intro k hk
  unfold lastF
  by_cases e : k = m * hOf d
  · rw [if_pos (by omega), if_pos e]
  · rw [if_neg (by omega), if_neg e]
    unfold fillD
    rw [clean_sec hk, fillTo_all]
    rw [List.length_take, room_length hr hm]
    omega
theorem lastF_size {d : Dsk} (hr : RightIs d) (m g u : Nat) (sl : List UInt8) {i : Nat} (hi : i < d.secs.length) : (lastF d m g u sl i).size = 128 := by
  unfold lastF
  split
  · exact headB_size _ _
  · exact fillTo_size hr _ _ _ _ hi
end Go.Proofs.YtkplpodljmlanaaGreatDoor
/-! A row of bytes that '[]byte(s)' laid and appends go on with (as in RefRow of the digest's seats): its word and the law of one more byte. Conditions: none. -/
namespace Go.Proofs.YtkplpodljmlanaaGreatDoor
open Go.RowKit

/-- A row of bytes of one's own; a mark, if any, lies behind its last cell. -/
structure OwnB (w : World) (B g cap : Nat) (bs : List UInt8) : Prop where
  base : B ≤ g
  room : bs.length ≤ cap
  small : cap ≤ maxLen
  row : ∃ cur fz, w.heap[g]? = some (.cells cur 5 fz) ∧ (fz = (0, 0) ∨ fz.1 = cur.size) ∧ cur.size = cap ∧ cur.toList.take bs.length = Lib.byteCells bs
theorem OwnB.lt {w : World} {B g cap : Nat} {bs : List UInt8} (h : OwnB w B g cap bs) : g < w.heap.size := by
  obtain ⟨cur, fz, h, _⟩ := h.row
  exact (Array.getElem?_eq_some_iff.1 h).1
theorem OwnB.kept {w w' : World} {B g cap n : Nat} {bs : List UInt8} (h : OwnB w B g cap bs) (hb : Below n w w') (hn : g < n) : OwnB w' B g cap bs := by
  obtain ⟨cur, fz, h1, h2⟩ := h.row
  exact ⟨h.base, h.room, h.small, cur, fz, by rw [hb.block g hn]; exact h1, h2⟩
theorem OwnB.alloc {w : World} {B g cap : Nat} {bs : List UInt8} (h : OwnB w B g cap bs) (o : Obj) : OwnB (w.alloc o) B g cap bs :=
  h.kept ((Below.refl w.heap.size w).alloc (Nat.le_refl _) o) h.lt
theorem OwnB.cell {w : World} {B g cap : Nat} {bs : List UInt8} (h : OwnB w B g cap bs) (i : Nat) (hi : i < bs.length) : w.cell? ⟨g, i, none⟩ = some (.int .u8 (bs[i].toNat : Int)) := by
  obtain ⟨cur, fz, h1, _, _, h4⟩ := h.row
  have h5 : (Lib.byteCells bs)[i]? = some (.int .u8 (bs[i].toNat : Int)) := by simp [Lib.byteCells, hi]
  rw [cell_of_row w g i cur 5 fz h1]
  rw [← h4, List.getElem?_take, if_pos hi] at h5
  simpa using h5
theorem OwnB.frozen {w : World} {B g cap : Nat} {bs : List UInt8} (h : OwnB w B g cap bs) (i : Nat) (hi : i < cap) : w.frozen? ⟨g, i, none⟩ = false := by
  obtain ⟨cur, fz, h1, h2, h3, _⟩ := h.row
  unfold World.frozen?
  simp only [h1]
  rcases h2 with rfl | h2
  · simp
  · have : ¬ fz.1 ≤ i := by omega
    simp [this]
theorem OwnB.there {w : World} {B g cap : Nat} {bs : List UInt8} (h : OwnB w B g cap bs) (i : Nat) (hi : i < cap) : (w.cell? ⟨g, i, none⟩).isSome = true := by
  obtain ⟨cur, fz, h1, _, h3, _⟩ := h.row
  rw [cell_of_row w g i cur 5 fz h1, Array.getElem?_eq_getElem (by omega)]
  rfl
theorem OwnB.of_own {w : World} {B : Nat} {v : Value} {n : Nat} {bs : List UInt8} (h : w.ownsRow B 5 1 v n (Lib.byteCells bs)) (hn : 0 < n) : ∃ g cap, v = .slice (some ⟨g, 0, none⟩) n cap ∧ n = bs.length ∧ OwnB w B g cap bs := by
  have h1 := h.1
  rw [Lib.byteCells_length, Nat.mul_one] at h1
  rcases h.2 with ⟨_, h0⟩ | ⟨g, cap, cur, hv, hb, hg, hc, hm, hs, ht⟩
  · omega
  · rw [Nat.mul_one] at hs ht
    exact ⟨g, cap, hv, h1.symm, hb, by omega, hm, cur, (0, 0), hg, Or.inl rfl, hs, by rw [h1]; exact ht⟩
theorem OwnB.push {w : World} {B g cap : Nat} {bs : List UInt8} (h : OwnB w B g cap bs) (u : UInt8) (hr : bs.length + 1 ≤ cap) : OwnB (w.setCell ⟨g, bs.length, none⟩ (.int .u8 (u.toNat : Int))) B g cap (bs ++ [u]) := by
  obtain ⟨cur, fz, h1, h2, h3, h4⟩ := h.row
  refine ⟨h.base, by simpa using hr, h.small, cur.setIfInBounds bs.length (.int .u8 (u.toNat : Int)), fz, ?_, ?_, by simpa using h3, ?_⟩
  · simp [World.setCell, Array.getElem?_modify, h1]
  · simpa using h2
  · rw [List.length_append, List.length_singleton, Array.toList_setIfInBounds, List.take_succ_eq_append_getElem (by simp; omega), Lib.byteCells_append]
    congr 1
    · rw [List.take_set_of_le (Nat.le_refl _)]; exact h4
    · simp [Lib.byteCells]
/-- One more byte. -/
theorem wpList_append_B (w : World) {ops : Array Oper} {rest : List Oper} {o : Oper} {a : Act} {Q : Exit → Act → World → Prop}
    (hg : o.guard = none) (s x : Operand) (hop : o.op = Op.call { callee := Callee.builtin Builtin.append, args := #[s, x], argTypes := #[63, 63] })
    (B g cap : Nat) (bs : List UInt8) (n : Nat) (hs : a.eval s = .slice (some ⟨g, 0, none⟩) n cap) (hn : bs.length = n) (h : OwnB w B g cap bs) (ad : Addr) (c : Nat) (u : UInt8) (hx : a.eval x = .slice (some ad) 1 c) (hc : w.cell? (ad.add 0) = some (.int .u8 (u.toNat : Int)))
    (hb : n + 1 ≤ 140737488355328) (hB : B ≤ w.heap.size)
    (hK : ∀ g' cap' w', OwnB w' B g' cap' (bs ++ [u]) → Below B w w' → wpList Tryz.prog ops Q rest (a.put o.dst (.slice (some ⟨g', 0, none⟩) (n + 1) cap')) w') :
    wpList Tryz.prog ops Q (o :: rest) a w := by
  subst hn
  obtain ⟨i0, hi, hz0, hz1, hz2⟩ := info_parts infoByte
  refine wpList_append_arg w hg s x 63 hop 5 i0 (.int .u8 0) 1 1 Tryz.underlying63 hi hz0 hz1 hz2 rfl (by decide) g 0 bs.length cap (Lib.byteCells bs) hs (by rw [Lib.byteCells_length, Nat.mul_one]) ?c1 ad 1 c [.int .u8 (u.toNat : Int)] hx rfl ?c2 ?c3 ?c4 ?c5 ?c6 ?c7 ?c8
  case c1 =>
    intro j v hj
    have hjl : j < bs.length := by
      have := (List.getElem?_eq_some_iff.1 hj).1
      rwa [Lib.byteCells_length] at this
    rw [Nat.zero_add, h.cell j hjl, ← hj]
    simp [Lib.byteCells, hjl]
  case c2 =>
    intro j v hj
    match j, hj with
    | 0, hj => simp at hj; subst hj; exact hc
    | j + 1, hj => simp at hj
  case c3 => intro v hv; simp at hv; subst hv; rfl
  case c4 =>
    intro hr j hj
    have hj0 : j = 0 := by simp at hj; exact hj
    subst hj0
    rw [Nat.zero_add, Nat.mul_one, Nat.add_zero]
    exact ⟨h.there _ (by omega), h.frozen _ (by omega)⟩
  case c5 => unfold maxLen; omega
  case c6 => omega
  case c7 =>
    intro hr
    rw [Nat.zero_add, Nat.mul_one]
    exact hK g cap _ (h.push u hr) ((Below.refl B w).setCell (p := ⟨g, bs.length, none⟩) h.base _)
  case c8 =>
    intro _ v' w' hown hgrow
    have e : Lib.byteCells bs ++ [Value.int .u8 (u.toNat : Int)] = Lib.byteCells (bs ++ [u]) := by rw [Lib.byteCells_append]; rfl
    rw [e] at hown
    obtain ⟨g', cap', rfl, _, ho⟩ := OwnB.of_own hown (by omega)
    exact hK g' cap' w' ⟨Nat.le_trans hB ho.base, ho.room, ho.small, ho.row⟩ ((Below.refl B w).grown hgrow hB (fun _ e => by cases e))
/-- What '[]byte(s)' lays. -/
theorem OwnB.conv (w : World) (B : Nat) (s : ByteArray) (hB : B ≤ w.heap.size) (hs : s.size ≤ maxLen) :
    OwnB (w.drew.alloc (.cells (bytesRow s (grownCap w s.size 0 5)) 5 ((bytesRow s (grownCap w s.size 0 5)).size, (bytesRow s (grownCap w s.size 0 5)).size + 1))) B w.heap.size (grownCap w s.size 0 5) s.data.toList := by
  have h1 := grownCap_ge w s.size 0 5
  refine ⟨hB, by simpa using h1, grownCap_le_maxLen w s.size 0 5 hs, _, _, heap_alloc_new w.drew _, Or.inr rfl, ?_, ?_⟩
  · simp [bytesRow]; omega
  · simp [bytesRow, Lib.byteCells]
end Go.Proofs.YtkplpodljmlanaaGreatDoor
/-! The document's own With, by a contract: a disk on which bytes stand behind so many of a half's room, and its head tells so. Conditions: the disk may be; there is room. -/
namespace Go.Proofs.YtkplpodljmlanaaGreatDoor
open Go.RowKit Go.WideShapes

theorem RowF.other {w : World} {B g n k : Nat} {f : Nat → ByteArray} (h : RowF w g n f) (hne : g ≠ B) (v : Value) : RowF (w.setCell ⟨B, k, none⟩ v) g n f := by
  obtain ⟨cur, h1, h2, h3⟩ := h
  exact ⟨cur, by rw [Below.heap_setCell _ _ _ _ hne]; exact h1, h2, h3⟩
theorem OwnB.other {w : World} {B g cap b k : Nat} {bs : List UInt8} (h : OwnB w B g cap bs) (hne : g ≠ b) (v : Value) : OwnB (w.setCell ⟨b, k, none⟩ v) B g cap bs := by
  obtain ⟨cur, fz, h1, h2⟩ := h.row
  exact ⟨h.base, h.room, h.small, cur, fz, by rw [Below.heap_setCell _ _ _ _ hne]; exact h1, h2⟩
theorem At2.apart {t : TypeId} {w : World} {B b k : Nat} {x y : Value} (h : At2 t w B x y) (hne : B ≠ b) (v : Value) : At2 t (w.setCell ⟨b, k, none⟩ v) B x y := by
  unfold At2; rw [Below.heap_setCell _ _ _ _ hne]; exact h
theorem At2.first {t : TypeId} {w : World} {B : Nat} {x y : Value} (h : At2 t w B x y) (v : Value) : At2 t (w.setCell ⟨B, 0, none⟩ v) B v y := by
  unfold At2; rw [heap_setCell_same _ _ _ _ _ _ h]; rfl
theorem strC_map (l : List ByteArray) : strC l = l.map Value.string := rfl
set_option maxRecDepth 100000 in
set_option maxHeartbeats 8000000 in
theorem refWith_t (v : Value) (d : Dsk) (m g u : Nat) (s : ByteArray) (w : World) (h : DskAt w v d) (hm : m ≤ 1) (hr : RightIs d) (hu : u + s.size ≤ roomN d) (hg : g ≤ 1099511627776) :
    Calls Tryz.prog 26 #[v, .int .i64 m, .int .i64 g, .int .i64 u, .string s] w fun e w' => ∃ v', e = .returned v' ∧ DskAt w' v' (withD d m g u s.data.toList) ∧ Below w.heap.size w w' := by
  obtain ⟨i0, hi, hz0, hz1, hz2⟩ := info_parts infoStr
  have h2 := hOf_two hr
  have hrn := roomN_le hr
  have h64 := hr.most
  have h4 := hr.least
  have CA := fun w' (hb : Below w.heap.size w w') => refAt_t v d m w' (h.keep hb) hm hr.most
  have CR := fun w' (hb : Below w.heap.size w w') => refRoom_t v d m w' (h.keep hb) hm hr
  have CH := fun w' => refHead_t g (u + s.size) w' (by omega) (by omega)
  have hRz := room_size d m hr hm
  have hRe : (⟨(roomL d m).toArray⟩ : ByteArray).data.toList = roomL d m := rfl
  have hWC := withD_clean hr (g := g) (sl := s.data.toList) hm (by rw [toList_size]; exact hu)
  have hLZ := fun {i : Nat} (hi : i < d.secs.length) => lastF_size hr m g u s.data.toList hi
  have hhl := fun (i : Nat) (hi : i < hOf d - 1) => half_lt (d := d) hm hi
  have hp0 := head_lt hr hm
  obtain ⟨⟨sv, dv, rfl, hs, hd⟩, -, -⟩ := h
  obtain ⟨sb, so, sc, rfl, s1, s2, s3, s4⟩ := hs.rows (by omega)
  obtain ⟨da, dc, rfl, -, -⟩ := hd.shape
  obtain ⟨th, hth⟩ : ∃ t, (roomL d m).take u = t := ⟨_, rfl⟩
  obtain ⟨sl, hsl⟩ : ∃ t, s.data.toList = t := ⟨_, rfl⟩
  have hthl : th.length = u := by rw [← hth, List.length_take, room_length hr hm]; omega
  have hsll : sl.length = s.size := by rw [← hsl, toList_size]
  have FY := fun {k : Nat} => @fillTo_yes d m k th sl
  have FN := fun {k : Nat} => @fillTo_no d m k th sl
  have FZ := fillTo_zero d m th sl
  have hLF : ∀ i, lastF d m g u sl i = if i = m * hOf d then headB g (u + sl.length) else fillTo d m th sl (hOf d - 1) i := fun i => by unfold lastF; rw [hth]
  rw [hsl] at hWC hLZ ⊢
  obtain ⟨N, hN⟩ : ∃ N, d.secs.length = N := ⟨_, rfl⟩
  obtain ⟨nd, hnd⟩ : ∃ N, d.dirty.length = N := ⟨_, rfl⟩
  obtain ⟨hh, hhe⟩ : ∃ x, hOf d = x := ⟨_, rfl⟩
  obtain ⟨rm, hrm⟩ : ∃ x, roomN d = x := ⟨_, rfl⟩
  have hrmh : rm = (hh - 1) * 128 := by rw [← hrm, ← hhe]; rfl
  have hrm1 : rm ≤ (hh - 1) * 128 := by omega
  have hrm2 : (hh - 1) * 128 ≤ rm := by omega
  clear hrmh
  obtain ⟨p, hp⟩ : ∃ p, m * hOf d = p := ⟨_, rfl⟩
  obtain ⟨R, hRR⟩ : ∃ R : ByteArray, ⟨(roomL d m).toArray⟩ = R := ⟨_, rfl⟩
  rw [hRR] at CR hRz hRe
  rw [List.length_map, hN, hnd] at CA CR ⊢
  rw [hp] at CA FY hLF hhl hp0
  rw [hN] at s2 hWC hLZ h64 h4 hhl hp0
  rw [hrm] at hu hRz hrn
  rw [hhe] at hLF h2 hhl
  have hpc : p = 0 ∨ p = hh := by rw [← hp, hhe]; rcases (show m = 0 ∨ m = 1 by omega) with rfl | rfl <;> omega
  have hp64 : p ≤ 32 := by omega
  obtain ⟨hx, hhx⟩ : ∃ x, headB g (u + s.size) = x := ⟨_, rfl⟩
  rw [hhx] at CH
  rw [hsll, hhx] at hLF
  -- what is laid: room[:u] + s
  have hye : (R.extract 0 u ++ s).data.toList = th ++ sl := by
    rw [ByteArray.data_append, Array.toList_append, Lib.extract_data, hRe, hsl, ← hth]; simp
  have hyz : (R.extract 0 u ++ s).size = u + s.size := by rw [ByteArray.size_append]; simp; omega
  have huR : u ≤ R.size := by omega
  have hez : (R.extract 0 u).size = u := by simp; omega
  obtain ⟨ex, hex⟩ : ∃ y, R.extract 0 u = y := ⟨_, rfl⟩
  rw [hex] at hye hyz hez
  obtain ⟨y, hy⟩ : ∃ y, ex ++ s = y := ⟨_, rfl⟩
  rw [hy] at hye hyz
  have FS := cut_pad (th ++ sl)
  obtain ⟨Y, hY⟩ : ∃ Y, th ++ sl = Y := ⟨_, rfl⟩
  rw [hY] at hye FY FS
  have hYl : Y.length = u + s.size := by rw [← hY, List.length_append, hthl, hsll]
  rw [hthl, hsll] at FY FN
  rw [hYl] at FS
  obtain ⟨W, hW⟩ : ∃ W, ((w.alloc (.cells #[.slice (some ⟨sb, so, none⟩) N sc, .slice da nd dc] 25)).alloc (.cells #[nilV, nilV] 25)).alloc (.cells #[nilV, nilV] 25) = W := ⟨_, rfl⟩
  have HB := Lib.hid (show Below w.heap.size w W by rw [← hW]; exact Below.then (Below.then (below_new _ _) (below_new _ _)) (below_new _ _))
  have HA := Lib.hid (show At2 25 W w.heap.size (.slice (some ⟨sb, so, none⟩) N sc) (.slice da nd dc) by rw [← hW]; exact ((At2.new _ _ _ _).keep (below_new _ _)).keep (below_new _ _))
  have HR := Lib.hid (show At2 25 W (w.heap.size + 1) nilV nilV by
    rw [← hW]
    have e := (At2.new 25 (w.alloc (.cells #[.slice (some ⟨sb, so, none⟩) N sc, .slice da nd dc] 25)) nilV nilV).keep (below_new _ (.cells #[nilV, nilV] 25))
    rwa [World.size_alloc] at e)
  obtain ⟨Bo, hBo⟩ : ∃ B, w.heap.size + 1 + 1 = B := ⟨_, rfl⟩
  have HO := Lib.hid (show At2 25 W Bo nilV nilV by
    rw [← hW, ← hBo]
    have e := At2.new 25 ((w.alloc (.cells #[.slice (some ⟨sb, so, none⟩) N sc, .slice da nd dc] 25)).alloc (.cells #[nilV, nilV] 25)) nilV nilV
    rwa [World.size_alloc, World.size_alloc] at e)
  have hWs : W.heap.size = Bo + 1 := by rw [← hW, ← hBo]; simp
  have HBO := Lib.hid (show Bo ≠ w.heap.size ∧ Bo ≠ w.heap.size + 1 ∧ w.heap.size ≤ Bo ∧ W.heap.size = Bo + 1 by omega)
  have HSC := Lib.hid (show ∀ (j : Nat) (x : Value), (strC d.secs)[j]? = some x → W.cell? ((⟨sb, so, none⟩ : Addr).add j) = some x from fun j x hx => by
    have hj : j < d.secs.length := by
      have := (List.getElem?_eq_some_iff.1 hx).1; rwa [strC_length] at this
    have e : x = .string d.secs[j] := by
      simp only [strC, List.getElem?_map] at hx
      rw [List.getElem?_eq_getElem hj] at hx
      simpa using hx.symm
    rw [e, add_plain]
    exact Below.keepc HB.out (s4 j hj))
  have HSL := Lib.hid (show (strC d.secs).length = N by rw [strC_length, hN])
  have HN := Lib.hid hN
  have HW := Lib.hid hW
  have HWC := Lib.hid hWC
  have HLZ := Lib.hid (fun (i : Nat) (hi : i < N) => hLZ hi)
  have HLF := Lib.hid hLF
  have FY := Lib.hid (fun k => @FY k)
  have FN := Lib.hid (fun k => @FN k)
  have FS := Lib.hid FS
  have FZ := Lib.hid FZ
  have CA := Lib.hid CA
  have CR := Lib.hid CR
  have CH := Lib.hid CH
  have HYE := Lib.hid hye
  have HYL := Lib.hid hYl
  have HRZ := Lib.hid hRz
  have hhl2 := Lib.hid hhl
  unfold maxLen at s3
  clear hW hs hd s4 hN hnd hp hhe hrm hRR hRe hWC hLZ hLF hye hYl hY hth hsl hhx hhl hWs hr hRz
  go_enter Tryz.func26, Tryz.ntmps26
  go_upto_region 2 with fail
  rw [HW.out]
  clear hBo
  obtain ⟨a0, a1⟩ := HA.out.cells
  obtain ⟨o0, o1⟩ := HO.out.cells
  go_wp2_with (at_builtin; refine wpList_append_own _ rfl _ _ 22 rfl W.heap.size 9 i0 (.string ⟨#[]⟩) 1 16 Tryz.underlying22 hi hz0 hz1 hz2 rfl (by decide) _ 0 [] rfl (World.ownsRow_nil _ _ _ _) ⟨sb, so, none⟩ N sc (strC d.secs) rfl ?c1 ?c2 ?c3 ?c4 ?c5 ?c6 ?_)
  case c1 => rw [HSL.out, Nat.mul_one]
  case c2 => exact HSC.out
  case c3 => intro u hu; obtain ⟨t, _, rfl⟩ := List.mem_map.1 hu; rfl
  case c4 => unfold maxLen; omega
  case c5 => omega
  case c6 => exact Nat.le_refl _
  intro v' w1 hown hgrow _
  have hb1 : Below W.heap.size W w1 := (Below.refl _ _).grown hgrow (Nat.le_refl _) (fun _ e => by cases e)
  have hown2 : w1.ownsRow W.heap.size 9 1 v' N (d.secs.map Value.string) := by simpa [strC] using hown
  obtain ⟨gr, cr, rfl, hrow, hgW, hcN, hcM⟩ : ∃ gr cr, v' = .slice (some ⟨gr, 0, none⟩) N cr ∧ RowF w1 gr N (fun i => d.secs.getD i ⟨#[]⟩) ∧ W.heap.size ≤ gr ∧ N ≤ cr ∧ cr ≤ maxLen := by
    rcases hown2.2 with ⟨_, h0⟩ | ⟨g, c', cur, hv, _⟩
    · omega
    · subst hv
      obtain ⟨r1, r2, r3, r4⟩ := RowF.of_own hown2 HN.out
      exact ⟨g, c', rfl, r1, r2, r3, r4⟩
  have hA1 := HA.out.keep hb1
  have hO1 := HO.out.keep hb1
  have hR1 := HR.out.keep hb1
  obtain ⟨W3, hW3⟩ : ∃ W, w1.setCell ⟨Bo, 0, none⟩ (.slice (some ⟨gr, 0, none⟩) N cr) = W := ⟨_, rfl⟩
  have hgBo : gr ≠ Bo := by have := HBO.out.2.2.2; omega
  have HROW3 := Lib.hid (show RowF W3 gr N (fun i => d.secs.getD i ⟨#[]⟩) by rw [← hW3]; exact hrow.other hgBo _)
  have HO3 := Lib.hid (show At2 25 W3 Bo (.slice (some ⟨gr, 0, none⟩) N cr) nilV by rw [← hW3]; exact hO1.first _)
  have HA3 := Lib.hid (show At2 25 W3 w.heap.size (.slice (some ⟨sb, so, none⟩) N sc) (.slice da nd dc) by rw [← hW3]; exact hA1.apart (Ne.symm HBO.out.1) _)
  have HR3 := Lib.hid (show At2 25 W3 (w.heap.size + 1) nilV nilV by rw [← hW3]; exact hR1.apart (Ne.symm HBO.out.2.1) _)
  have HB3 := Lib.hid (show Below w.heap.size w W3 by rw [← hW3]; exact (Below.then HB.out hb1).setCell (p := ⟨Bo, 0, none⟩) HBO.out.2.2.1 _)
  have HGW := Lib.hid (And.intro hgW (And.intro hcN hcM))
  clear o0 o1
  obtain ⟨o0, o1⟩ := hO1.cells
  obtain ⟨f0, f1⟩ := hO1.free
  clear hA1 hO1 hR1 hrow hown hown2 hgrow hb1 hgW hcN hcM hgBo
  go_upto_region 3 with fail
  clear hW3 o0 o1 f0 f1 a0 a1 HA HO HR HW
  obtain ⟨a0, a1⟩ := HA3.out.cells
  go_wp2_with fail
  refine (CR.out W3 HB3.out).mono ?_
  rintro e w4 ⟨rfl, hb4⟩
  have HROW4 := Lib.hid (HROW3.out.keep hb4)
  have HO4 := Lib.hid (HO3.out.keep hb4)
  have HA4 := Lib.hid (HA3.out.keep hb4)
  have HR4 := Lib.hid (HR3.out.keep hb4)
  have HB4 := Lib.hid (Below.then HB3.out hb4)
  have hw4 : gr < w4.heap.size := HROW4.out.lt
  have hw4o : Bo < w4.heap.size := HO4.out.lt
  have hW4 : W.heap.size ≤ w4.heap.size := by have := HBO.out.2.2.2; omega
  clear hb4 a0 a1 HROW3 HO3 HA3 HR3
  have hcv := run_bytes_of_string (P := Tryz.prog) w4 9 63 5 y Tryz.underlying9 Tryz.underlying63 Tryz.underlying5
  have HOB := Lib.hid (OwnB.conv w4 w4.heap.size y (Nat.le_refl _) (by unfold maxLen; omega))
  have HB5 := Lib.hid (show Below w4.heap.size w4 (w4.drew.alloc (.cells (bytesRow y (grownCap w4 y.size 0 5)) 5 ((bytesRow y (grownCap w4 y.size 0 5)).size, (bytesRow y (grownCap w4 y.size 0 5)).size + 1))) from ((Below.refl w4.heap.size w4).drew).alloc (Nat.le_refl _) _)
  generalize w4.drew.alloc (.cells (bytesRow y (grownCap w4 y.size 0 5)) 5 ((bytesRow y (grownCap w4 y.size 0 5)).size, (bytesRow y (grownCap w4 y.size 0 5)).size + 1)) = w5 at hcv HOB HB5
  generalize grownCap w4 y.size 0 5 = cp at hcv HOB
  rw [HYE.out] at HOB
  obtain ⟨B4, hB4⟩ : ∃ B, w4.heap.size = B := ⟨_, rfl⟩
  have hB4e := Lib.hid hB4
  rw [hB4] at hcv HOB HB5 hw4 hw4o hW4
  obtain ⟨ny, hny⟩ : ∃ x, u + s.size = x := ⟨_, rfl⟩
  rw [hyz, hny] at hcv
  have HNY := Lib.hid hny
  have hnyi : ((ex.size : Nat) : Int) + (s.size : Nat) = (ny : Int) := by omega
  have hex2 : R.extract 0 (u : Int).toNat = ex := by rw [Int.toNat_natCast]; exact hex
  have hnr : ny ≤ rm := by omega
  have hnr0 : u + s.size ≤ rm := by omega
  have hRm : R.size = rm := HRZ.out
  clear hB4
  go_wp2_with fail
  have hw5 : B4 ≤ w5.heap.size := by have h1 := HOB.out.lt; have h2 := HOB.out.base; omega
  have hcpm : cp ≤ 9223372036854775807 := by have := HOB.out.small; unfold maxLen at this; omega
  have hnyc : ny ≤ cp := by have := HOB.out.room; rw [HYL.out, HNY.out] at this; exact this
  obtain ⟨wo, rfl⟩ : ∃ x : World, x = w5 := ⟨_, rfl⟩
  go_loopw [13] (fun tv wr => ∃ (z tg tc k : Nat), ny + z = k ∧ k ≤ rm ∧ tv = .slice (some ⟨tg, 0, none⟩) k tc ∧ k ≤ tc ∧ tc ≤ 9223372036854775807 ∧ OwnB wr B4 tg tc (Y ++ List.replicate z 0) ∧ Below B4 w4 wr) (fun tv _ => match tv with | .slice _ n _ => rm - n | _ => 0)
  case atStart => exact ⟨0, B4, cp, ny, rfl, hnr, rfl, hnyc, hcpm, by rw [List.replicate_zero, List.append_nil]; exact HOB.out, HB5.out⟩
  case round =>
    obtain ⟨z, tg, tc, k, hk, hkr, rfl, hktc, htc, hob, hb⟩ := hrel
    have HOB2 := Lib.hid hob
    have HBR := Lib.hid hb
    have hbs : B4 ≤ wr.heap.size := by have h1 := hob.lt; have h2 := hob.base; omega
    have HK := Lib.hid hk
    clear hob hb hk
    by_cases hlt : k < rm
    · go_wp2_with (at_builtin; refine wpList_append_B _ rfl _ _ rfl B4 tg tc (Y ++ List.replicate z 0) k rfl ?c0 (HOB2.out.alloc _) ⟨wr.heap.size, 0, none⟩ 1 0 rfl ?c1 ?c2 ?c3 ?_)
      case c0 => rw [List.length_append, List.length_replicate, HYL.out, HNY.out, HK.out]
      case c1 => rw [addr0_add, World.cell?_alloc_at _ _ _ _ rfl]; rfl
      case c2 => omega
      case c3 => simp; omega
      intro g3 c3 w3 ho3 hb3
      rw [show (Y ++ (List.replicate z (0 : UInt8) ++ [0])) = Y ++ List.replicate (z + 1) 0 by rw [List.replicate_succ']] at ho3
      have HO3 := Lib.hid ho3
      have HB3 := Lib.hid ((HBR.out.alloc hbs _).trans hb3)
      have hc3m : c3 ≤ 9223372036854775807 := by have := ho3.small; unfold maxLen at this; omega
      have hc3k : k + 1 ≤ c3 := by
        have := ho3.room
        rw [List.length_append, List.length_replicate, HYL.out, HNY.out] at this
        have := HK.out
        omega
      clear ho3 hb3
      go_wp2_with fail
      go_roundw
      case rel => exact ⟨z + 1, g3, c3, k + 1, by have := HK.out; omega, by omega, rfl, hc3k, hc3m, HO3.out, HB3.out⟩
      case measure => simp; omega
    · obtain rfl : k = rm := by omega
      have HBT := Lib.hid (show OwnB wr B4 tg tc (Y ++ List.replicate (k - (u + s.size)) 0) by
        have := HOB2.out
        rwa [show z = k - (u + s.size) by have h1 := HK.out; have h2 := HNY.out; omega] at this)
      have hb4 : Below w4.heap.size w4 wr := by rw [hB4e.out]; exact HBR.out
      have HROW5 := Lib.hid (HROW4.out.keep hb4)
      have HO5 := Lib.hid (HO4.out.keep hb4)
      have HA5 := Lib.hid (HA4.out.keep hb4)
      have HR5 := Lib.hid (HR4.out.keep hb4)
      have HB5' := Lib.hid (Below.then HB4.out hb4)
      clear hb4
      obtain ⟨wp, rfl⟩ : ∃ x : World, x = wr := ⟨_, rfl⟩
      have hTL : (Y ++ List.replicate (k - (u + s.size)) (0 : UInt8)).length = k := by
        rw [List.length_append, List.length_replicate, HYL.out]
        have h2 := HNY.out
        omega
      obtain ⟨T, hT⟩ : ∃ T, Y ++ List.replicate (k - (u + s.size)) (0 : UInt8) = T := ⟨_, rfl⟩
      rw [hT] at HBT hTL
      have HT := Lib.hid hT
      have HTL := Lib.hid hTL
      clear hT hTL
      have hnr' : u + s.size ≤ k := hnr0
      go_wp2_with fail
      go_loopw [14] (fun iv wr => ∃ j : Nat, j ≤ hh - 1 ∧ iv = .int .i64 j ∧ RowF wr gr N (fillTo d m th sl j) ∧ OwnB wr B4 tg tc T ∧ At2 25 wr Bo (.slice (some ⟨gr, 0, none⟩) N cr) nilV ∧ At2 25 wr w.heap.size (.slice (some ⟨sb, so, none⟩) N sc) (.slice da nd dc) ∧ At2 25 wr (w.heap.size + 1) nilV nilV ∧ Below w.heap.size w wr) (fun i _ => hh - (intOf i).toNat)
      case atStart => exact ⟨0, Nat.zero_le _, rfl, HROW5.out.congr (fun i _ => (FZ.out i).symm), HBT.out, HO5.out, HA5.out, HR5.out, HB5'.out⟩
      case round =>
        obtain ⟨j, hj, rfl, hrow, hob, ho, ha, hr, hb⟩ := hrel
        have HRW := Lib.hid hrow
        have HOW := Lib.hid hob
        have HOO := Lib.hid ho
        have HAA := Lib.hid ha
        have HRR := Lib.hid hr
        have HBB := Lib.hid hb
        clear hrow hob ho ha hr hb
        by_cases hlt : j < hh - 1
        · have hj1 : 128 * j + 128 ≤ k := by omega
          by_cases hc : 0 < s.size ∧ u < 128 * j + 128 ∧ 128 * j < u + s.size
          · obtain ⟨hc1, hc2, hc3⟩ := hc
            have hjh := hhl2.out j hlt
            obtain ⟨ix, hix⟩ : ∃ x, p + 1 + j = x := ⟨_, rfl⟩
            have hixi : (p : Int) + 1 + (j : Int) = (ix : Int) := by omega
            rw [hix] at hjh
            have hjh' := hjh
            have HIX := Lib.hid hix
            obtain ⟨b0, hb0⟩ : ∃ x, 128 * j = x := ⟨_, rfl⟩
            have hb0i : (128 : Int) * (j : Int) = (b0 : Int) := by omega
            obtain ⟨b1, hb1⟩ : ∃ x, b0 + 128 = x := ⟨_, rfl⟩
            have hb1i : (b0 : Int) + 128 = (b1 : Int) := by omega
            have hb1k : b1 ≤ k := by omega
            have hb01 : b0 ≤ b1 := by omega
            have hc2' : (u : Int) < (b1 : Int) := by omega
            have hc3' : (b0 : Int) < (u : Int) + (s.size : Int) := by omega
            have hc1' : (0 : Int) < (s.size : Int) := by omega
            have hb0k : (b0 : Int) < (k : Int) := by omega
            have hbt : ¬ tc = b0 := by omega
            have hb1t : b1 ≤ tc := by omega
            have hb01i : (b0 : Int) ≤ (b1 : Int) := by omega
            have hb1ti : (b1 : Int) ≤ (tc : Int) := by omega
            have hb0n : (0 : Int) ≤ (b0 : Int) := by omega
            have hixN : ix < N := hjh'
            have hixNi : (ix : Int) < (N : Int) := by omega
            have hw0 : IntKind.i64.wrap (b0 : Int) = (b0 : Int) := by rw [IntKind.wrap_i64]; omega
            have hw1 : IntKind.i64.wrap (b1 : Int) = (b1 : Int) := by rw [IntKind.wrap_i64]; omega
            have hw2 : IntKind.i64.wrap ((p : Int) + 1) = (p : Int) + 1 := by rw [IntKind.wrap_i64]; omega
            have hw3 : IntKind.i64.wrap (ix : Int) = (ix : Int) := by rw [IntKind.wrap_i64]; omega
            obtain ⟨XB, hXB⟩ : ∃ x, secB' (Y.drop (j * 128)) = x := ⟨_, rfl⟩
            have HXB := Lib.hid hXB
            have CVT := Lib.hid (show ∀ w', OwnB w' B4 tg tc T → (convert 63 9 (.slice (some ⟨tg, b0, none⟩) (b1 - b0) (tc - b0))).run Tryz.prog w' = .ok (.string XB) w' from fun w' ho => by
              have e := FS.out j k (by omega) hnr'
              rw [HT.out, hb0] at e
              have hl : ((T.drop b0).take 128).length = b1 - b0 := by rw [List.length_take, List.length_drop, HTL.out]; omega
              have := run_convert_bytes_back (P := Tryz.prog) w' 63 9 5 ⟨tg, b0, none⟩ (tc - b0) ((T.drop b0).take 128) Tryz.underlying63 Tryz.underlying5 Tryz.underlying9 (fun i hi => by
                rw [hl] at hi
                have hc := ho.cell (b0 + i) (by rw [HTL.out]; omega)
                rw [add_plain, hc]
                simp)
              rw [hl] at this
              rw [this, ← hXB, e]
              rfl)
            have hne1 := Lib.hid (show Bo ≠ gr by have h1 := HGW.out.1; have h2 := HBO.out.2.2.2; omega)
            have hne2 := Lib.hid (show w.heap.size ≠ gr by have h1 := HGW.out.1; have h2 := HBO.out; omega)
            have hne3 := Lib.hid (show tg ≠ gr by have := HOW.out.base; omega)
            have hne4 := Lib.hid (show w.heap.size + 1 ≠ gr by have h1 := HGW.out.1; have h2 := HBO.out; omega)
            have hne5 := Lib.hid (show w.heap.size ≤ gr by have h1 := HGW.out.1; have h2 := HBO.out; omega)
            have x0 := HOO.out.cells.1
            obtain ⟨a0, a1⟩ := HAA.out.cells
            have hcv1 := CVT.out wr HOW.out
            have hcv1d := CVT.out wr.drew (HOW.out.kept (Below.refl wr.heap.size wr).drew HOW.out.lt)
            clear hXB hb0 hb1 hix
            go_upto_region 11 with fail
            have hbA := Below.refl wr.heap.size wr
            go_region_held3 (fun w' => w'.cell? ⟨Bo, 0, none⟩ = some (.slice (some ⟨gr, 0, none⟩) N cr) ∧ w'.cell? ⟨w.heap.size, 0, none⟩ = some (.slice (some ⟨sb, so, none⟩) N sc) ∧ w'.cell? ⟨w.heap.size, 1, none⟩ = some (.slice da nd dc) ∧ (convert 63 9 (.slice (some ⟨tg, b0, none⟩) (b1 - b0) (tc - b0))).run Tryz.prog w' = .ok (.string XB) w') (first | exact ⟨x0, a0, a1, hcv1⟩ | exact ⟨x0, a0, a1, hcv1d⟩ | exact ⟨x0s, a0s, a1s, hcv1s⟩)
              ((go_simp; go_at_call 30
                refine (CA.out _ (by first | exact Below.then HBB.out hbA | exact Below.then HBB.out hbA.drew)).mono ?_
                rintro e wS ⟨rfl, hbS⟩
                have hbA : Below wr.heap.size wr wS := by first | exact Below.then hbA hbS | exact Below.then hbA.drew hbS
                obtain ⟨a0, a1⟩ := (HAA.out.keep hbA).cells
                have x0 := (HOO.out.keep hbA).cells.1
                have hcv1 := CVT.out wS (HOW.out.kept hbA HOW.out.lt)
                have hcv1d := CVT.out wS.drew ((HOW.out.kept hbA HOW.out.lt).kept (Below.refl wS.heap.size wS).drew (HOW.out.kept hbA HOW.out.lt).lt)
                have s0 := (HRW.out.keep hbA).cell hixN
                have s1 := (HRW.out.keep hbA).frozen ix
                have x0s := ((HOO.out.keep hbA).apart hne1.out (k := ix) (.string XB)).cells.1
                obtain ⟨a0s, a1s⟩ := ((HAA.out.keep hbA).apart hne2.out (k := ix) (.string XB)).cells
                have hcv1s := CVT.out (wS.setCell ⟨gr, ix, none⟩ (.string XB)) ((HOW.out.kept hbA HOW.out.lt).other hne3.out _)))
            all_goals
              have HRW6 := Lib.hid (show RowF (wS.setCell ⟨gr, ix, none⟩ (.string XB)) gr N (fillTo d m th sl (j + 1)) from ((HRW.out.keep hbA).set ix XB).congr fun i _ => by
                have hne : sl ≠ [] := by intro e; rw [e] at hsll; simp at hsll; omega
                rw [FY.out j ⟨hne, by omega, by omega⟩ i, HIX.out, HXB.out])
              have HOW6 := Lib.hid ((HOW.out.kept hbA HOW.out.lt).other hne3.out (k := ix) (.string XB))
              have HOO6 := Lib.hid ((HOO.out.keep hbA).apart hne1.out (k := ix) (.string XB))
              have HAA6 := Lib.hid ((HAA.out.keep hbA).apart hne2.out (k := ix) (.string XB))
              have HRR6 := Lib.hid ((HRR.out.keep hbA).apart hne4.out (k := ix) (.string XB))
              have HBB6 := Lib.hid ((Below.then HBB.out hbA).setCell (p := ⟨gr, ix, none⟩) hne5.out (.string XB))
              clear x0s a0s a1s hcv1s s0 s1 x0 a0 a1 hcv1 hcv1d hbA hbS
              obtain ⟨W6, hW6⟩ : ∃ W, wS.setCell ⟨gr, ix, none⟩ (.string XB) = W := ⟨_, rfl⟩
              rw [hW6] at HRW6 HOW6 HOO6 HAA6 HRR6 HBB6 ⊢
              clear hW6
              go_wp2_with fail
              go_roundw
              case rel => exact ⟨j + 1, by omega, by go_num, HRW6.out, HOW6.out, HOO6.out, HAA6.out, HRR6.out, HBB6.out⟩
              case measure => simp [intOf]; omega
          · have HNO := Lib.hid (show RowF wr gr N (fillTo d m th sl (j + 1)) from HRW.out.congr fun i _ => by
              rw [FN.out j (fun e => hc ⟨by have := e.1; rcases Nat.eq_zero_or_pos s.size with h | h; exact absurd (List.length_eq_zero_iff.1 (by omega)) this; exact h, e.2.1, e.2.2⟩) i])
            have hcs : ¬ 0 < s.size ∨ (0 < s.size ∧ ¬ u < 128 * j + 128) ∨ (0 < s.size ∧ u < 128 * j + 128 ∧ ¬ 128 * j < u + s.size) := by omega
            clear hc
            rcases hcs with hc | ⟨hc, hc2⟩ | ⟨hc, hc2, hc3⟩
            · have hci : ¬ (0 : Int) < (s.size : Int) := by omega
              go_wp2_with fail
              go_roundw
              case rel => exact ⟨j + 1, by omega, by go_num, HNO.out, HOW.out, HOO.out, HAA.out, HRR.out, HBB.out⟩
              case measure => simp [intOf]; omega
            · have hci : (0 : Int) < (s.size : Int) := by omega
              have hci2 : ¬ (u : Int) < 128 * (j : Int) + 128 := by omega
              go_wp2_with fail
              go_roundw
              case rel => exact ⟨j + 1, by omega, by go_num, HNO.out, HOW.out, HOO.out, HAA.out, HRR.out, HBB.out⟩
              case measure => simp [intOf]; omega
            · have hci : (0 : Int) < (s.size : Int) := by omega
              have hci2 : (u : Int) < 128 * (j : Int) + 128 := by omega
              have hci3 : ¬ 128 * (j : Int) < (u : Int) + (s.size : Int) := by omega
              go_wp2_with fail
              go_roundw
              case rel => exact ⟨j + 1, by omega, by go_num, HNO.out, HOW.out, HOO.out, HAA.out, HRR.out, HBB.out⟩
              case measure => simp [intOf]; omega
        · obtain rfl : j = hh - 1 := by omega
          have hne1 := Lib.hid (show Bo ≠ gr by have h1 := HGW.out.1; have h2 := HBO.out.2.2.2; omega)
          have hne2 := Lib.hid (show w.heap.size ≠ gr by have h1 := HGW.out.1; have h2 := HBO.out; omega)
          have hne4 := Lib.hid (show w.heap.size + 1 ≠ gr by have h1 := HGW.out.1; have h2 := HBO.out; omega)
          have hne5 := Lib.hid (show w.heap.size ≤ gr by have h1 := HGW.out.1; have h2 := HBO.out; omega)
          have hnyS := HNY.out
          have hsz1 : ((u : Int) + (s.size : Int)) = (ny : Int) := by omega
          have hsz2 : IntKind.i64.wrap (ny : Int) = (ny : Int) := by rw [IntKind.wrap_i64]; omega
          have CH2 := CH.out
          rw [hnyS] at CH2
          have CH2 := Lib.hid CH2
          clear hnyS
          have hp0i : (p : Int) < (N : Int) := by omega
          have x0 := HOO.out.cells.1
          obtain ⟨a0, a1⟩ := HAA.out.cells
          have hjx : ¬ (128 : Int) * ((hh - 1 : Nat) : Int) < (k : Int) := by omega
          go_upto_region 12 with fail
          have hbA := Below.refl wr.heap.size wr
          go_region_held3 (fun w' => w'.cell? ⟨Bo, 0, none⟩ = some (.slice (some ⟨gr, 0, none⟩) N cr) ∧ w'.cell? ⟨w.heap.size, 0, none⟩ = some (.slice (some ⟨sb, so, none⟩) N sc) ∧ w'.cell? ⟨w.heap.size, 1, none⟩ = some (.slice da nd dc)) (first | exact ⟨x0, a0, a1⟩ | exact ⟨x0s, a0s, a1s⟩)
            (first
            | (go_simp; go_at_call 30
               refine (CA.out _ (by first | exact Below.then HBB.out hbA | exact Below.then HBB.out hbA.drew)).mono ?_
               rintro e wS ⟨rfl, hbS⟩
               have hbA : Below wr.heap.size wr wS := by first | exact Below.then hbA hbS | exact Below.then hbA.drew hbS
               obtain ⟨a0, a1⟩ := (HAA.out.keep hbA).cells
               have x0 := (HOO.out.keep hbA).cells.1
               have s0 := (HRW.out.keep hbA).cell hp0
               have s1 := (HRW.out.keep hbA).frozen p
               have x0s := ((HOO.out.keep hbA).apart hne1.out (k := p) (.string hx)).cells.1
               obtain ⟨a0s, a1s⟩ := ((HAA.out.keep hbA).apart hne2.out (k := p) (.string hx)).cells)
            | (go_simp; go_at_call 17
               refine (CH2.out _).mono ?_
               rintro e wS ⟨rfl, hbS⟩
               have hbA : Below wr.heap.size wr wS := by first | exact Below.then hbA hbS | exact Below.then hbA.drew hbS
               obtain ⟨a0, a1⟩ := (HAA.out.keep hbA).cells
               have x0 := (HOO.out.keep hbA).cells.1
               have s0 := (HRW.out.keep hbA).cell hp0
               have s1 := (HRW.out.keep hbA).frozen p
               have x0s := ((HOO.out.keep hbA).apart hne1.out (k := p) (.string hx)).cells.1
               obtain ⟨a0s, a1s⟩ := ((HAA.out.keep hbA).apart hne2.out (k := p) (.string hx)).cells))
          all_goals
            have HRW6 := Lib.hid (show RowF (wS.setCell ⟨gr, p, none⟩ (.string hx)) gr N (lastF d m g u sl) from ((HRW.out.keep hbA).set p hx).congr fun i _ => (HLF.out i).symm)
            have HOO6 := Lib.hid ((HOO.out.keep hbA).apart hne1.out (k := p) (.string hx))
            have HRR6 := Lib.hid ((HRR.out.keep hbA).apart hne4.out (k := p) (.string hx))
            have HBB6 := Lib.hid ((Below.then HBB.out hbA).setCell (p := ⟨gr, p, none⟩) hne5.out (.string hx))
            clear x0s a0s a1s s0 s1 x0 a0 a1 hbA hbS
            obtain ⟨W6, hW6⟩ : ∃ W, wS.setCell ⟨gr, p, none⟩ (.string hx) = W := ⟨_, rfl⟩
            rw [hW6] at HRW6 HOO6 HRR6 HBB6 ⊢
            clear hW6
            obtain ⟨x0, x1⟩ := HOO6.out.cells
            obtain ⟨b0, b1⟩ := HRR6.out.cells
            obtain ⟨f0, f1⟩ := HRR6.out.free
            go_wp2_with fail
            exact bodyPost_ret (results_cell_row (p := 10) rfl _ _ (w.heap.size + 1) 25 _ (0, 0) _ rfl (HRR6.out.set _ _) Tryz.underlying25 rfl infoDsk) rfl ⟨_, rfl, by
              rw [HWC.out]
              have hrf : RowF (set2 W6 (w.heap.size + 1) (.slice (some ⟨gr, 0, none⟩) N cr) nilV) gr N (lastF d m g u sl) := (HRW6.out.other (Ne.symm hne4.out) _).other (Ne.symm hne4.out) _
              exact clean_at (fun i hi => hrf.cell hi) (by omega) cr HGW.out.2.1 HGW.out.2.2 (fun i hi => HLZ.out i hi), set2_below HBB6.out (by omega) _ _⟩
end Go.Proofs.YtkplpodljmlanaaGreatDoor
/-! Plain facts for LedgerSteps: what a call lays, write by write, and what a flush makes of all. Conditions: none. -/
namespace Go.Proofs.YtkplpodljmlanaaGreatDoor
open Go.RowKit Go.WideShapes

theorem steps_nil (renew : Bool) (ss : List ByteArray) : stepsL nilLed renew ss = ([], 1) := by
  unfold stepsL; rw [nilLed_right]; rfl
theorem steps_add (d : Dsk) (renew : Bool) (ss : List ByteArray) : (addL (openL d).1 renew ss).2 = (stepsL (openL d).1 renew ss).2 := by
  rcases openL_cases d with ⟨n, g, u, es, h⟩ | h | h
  · rw [h.out]
    simp only
    by_cases h0 : (stepsL ⟨d, n, g, u, es⟩ renew ss).2 = 0
    · rw [(addL_ok h h0).2, h0]
    · unfold addL; rw [if_neg h0]
  · rw [h]; unfold addL; rw [steps_nil]; rfl
  · rw [h]; unfold addL; rw [steps_nil]; rfl
section
variable {d : Dsk} {n g u : Nat} {es : List ByteArray} {renew : Bool} {ss : List ByteArray}
/-- A call's writes into a room, and to a head. -/
def fwOf (d : Dsk) (n u : Nat) (renew : Bool) (ss : List ByteArray) : List (Int × ByteArray) := fillW d (mOf renew n) (thereOf renew d n u) (bindL ss)
def hwOf (d : Dsk) (n g u : Nat) (renew : Bool) (ss : List ByteArray) : Int × ByteArray := headW d (mOf renew n) (gOf renew g) (usedOf d n u renew ss)
theorem Goes.steps (h : Goes d n g u es renew ss) : stepsL ⟨d, n, g, u, es⟩ renew ss = ([fwOf d n u renew ss, [hwOf d n g u renew ss]], 0) := by
  rw [stepsL_of h.opens, h.may, if_pos rfl]
  unfold layL
  rw [if_neg (by have := h.fits; have := h.most; omega)]
  rfl
theorem goes_not (h : Opens d n g u es) (hm : mayB ss = true) (hf : roomN d - (if renew then 0 else u) < (bindL ss).length ∨ 1099511627776 < gOf renew g) : stepsL ⟨d, n, g, u, es⟩ renew ss = ([], 13) := by
  rw [stepsL_of h, hm, if_pos rfl]
  unfold layL
  have := h.used
  rw [if_pos (by rw [thereOf_len h]; cases renew <;> simp at hf ⊢ <;> omega)]
theorem goes_yes (h : Opens d n g u es) (hm : mayB ss = true) (hf : ¬ (roomN d - (if renew then 0 else u) < (bindL ss).length)) (hg : ¬ 1099511627776 < gOf renew g) : Goes d n g u es renew ss := by
  refine ⟨h, hm, ?_, by omega⟩
  rw [thereOf_len h]
  have := h.used
  cases renew <;> simp at hf ⊢ <;> omega
theorem steps_long (h : Opens d n g u es) (hm : mayB ss = false) : stepsL ⟨d, n, g, u, es⟩ renew ss = ([], 2) := by
  rw [stepsL_of h, hm]; rfl
theorem fw_length (h : Goes d n g u es renew ss) : (fwOf d n u renew ss).length ≤ 32 := (fillW_right h.opens.right h.le h.fits).2
theorem fw_well (h : Goes d n g u es renew ss) : wellB d.secs.length (fwOf d n u renew ss) = true := (fillW_right h.opens.right h.le h.fits).1
theorem hw_well (h : Goes d n g u es renew ss) : wellB d.secs.length [hwOf d n g u renew ss] = true := headW_right h.opens.right h.le _ _
/-- The places of a room's writes rise. -/
theorem fw_at (k : Nat) (hk : k < (fwOf d n u renew ss).length) : ((fwOf d n u renew ss)[k]).1 = ((mOf renew n * hOf d + 1 + ((thereOf renew d n u).length / 128 + k) : Nat) : Int) := by
  simp [fwOf, fillW, fillL]
/-- Some writes lie on the disk. -/
theorem some_right (h : Goes d n g u es renew ss) {l : List (Int × ByteArray)} (hl : l.length ≤ 33) (hw : wellB d.secs.length l = true) : RightIs ⟨d.secs, l⟩ := saved_right h.opens.right hw (by omega)
theorem save_some (h : Goes d n g u es renew ss) {l : List (Int × ByteArray)} (hl : l.length ≤ 33) (hw : wellB d.secs.length l = true) {x : Int × ByteArray} (hx : wellB d.secs.length [x] = true) : saveD ⟨d.secs, l⟩ [x] = (⟨d.secs, l ++ [x]⟩, 0) := by
  obtain ⟨h0, h1, h2⟩ := (well_iff _ _).1 hx x (by simp)
  have := saveD_one (some_right h hl hw) x (by show l.length < 200; omega) h0 h1 h2
  rw [this]; rfl
theorem well_take {N : Nat} {l : List (Int × ByteArray)} (h : wellB N l = true) (k : Nat) : wellB N (l.take k) = true := (well_iff _ _).2 fun w hw => (well_iff _ _).1 h w (List.mem_of_mem_take hw)
theorem well_at {N : Nat} {l : List (Int × ByteArray)} (h : wellB N l = true) (k : Nat) (hk : k < l.length) : wellB N [l[k]] = true := (well_iff _ _).2 fun w hw => (well_iff _ _).1 h w (by rw [List.mem_singleton.1 hw]; exact List.getElem_mem hk)
theorem well_app {N : Nat} {l m : List (Int × ByteArray)} (h : wellB N l = true) (h2 : wellB N m = true) : wellB N (l ++ m) = true := (well_iff _ _).2 fun w hw => by
  rcases List.mem_append.1 hw with hw | hw
  · exact (well_iff _ _).1 h w hw
  · exact (well_iff _ _).1 h2 w hw
theorem flush_all (h : Goes d n g u es renew ss) : flushD ⟨d.secs, fwOf d n u renew ss ++ [hwOf d n g u renew ss]⟩ = (nextD d n g u renew ss, 0) := by
  have hl := fw_length h
  rw [flushD_ok (some_right h (by rw [List.length_append]; simp; omega) (well_app (fw_well h) (hw_well h)))]
  unfold nextD headD
  rw [fillOf_len, fillOf_half]
  congr 1
  apply clean_congr
  intro k hk
  show standsL k (d.secs.getD k ⟨#[]⟩) (fwOf d n u renew ss ++ [hwOf d n g u renew ss]) = _
  rw [standsL_snoc]
  show (if ((mOf renew n * hOf d : Nat) : Int) = (k : Int) then headB (gOf renew g) (usedOf d n u renew ss) else _) = _
  by_cases e : ((mOf renew n * hOf d : Nat) : Int) = (k : Int)
  · rw [if_pos e, if_pos e]
  · rw [if_neg e, if_neg e]
    unfold fillOf fillD
    rw [clean_sec hk]
    exact stands_fill _ _ _ _ _ _
theorem fw_some (d : Dsk) (n u : Nat) (renew : Bool) (ss : List ByteArray) : (0 < (bindL ss).length ↔ 0 < (fwOf d n u renew ss).length) := by
  unfold fwOf fillW
  rw [fillL_length]
  unfold fillN
  by_cases e : bindL ss = []
  · rw [if_pos e, e]; simp
  · rw [if_neg e, List.length_append]
    have := List.length_pos_iff.2 e
    omega
end
end Go.Proofs.YtkplpodljmlanaaGreatDoor
