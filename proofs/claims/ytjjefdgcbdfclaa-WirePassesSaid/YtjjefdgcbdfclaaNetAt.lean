/-
  Nets as plain data, and in memory: a row of messages, the last number, the time; what comes in reads as one. Conditions: none.
-/
import Derived.Test.YtjjefdgcbdfclaaRwAt
namespace Go.Proofs.Ytjjefdgcbdfclaa
open Go.ChangeShapes Go.WideShapes Go.RowKit Go.Deep

/-- A message. -/
structure Ms where
  id : Int
  to : Int
  body : ByteArray
  tm : Int
/-- Messages on their way, the last one's number, the time. -/
structure Nt where
  fl : List Ms
  last : Int
  now : Int
def msCell (m : Ms) : List Value := [.int .i64 m.id, .int .i64 m.to, .string m.body, .int .i64 m.tm]
theorem msWide (l : List Ms) : Wide 4 (l.map msCell) := by
  intro x hx
  obtain ⟨m, -, rfl⟩ := List.mem_map.1 hx
  rfl
abbrev i64 (n : Int) : Prop := -9223372036854775808 ≤ n ∧ n ≤ 9223372036854775807
/-- What the machine has room for. -/
def Ms.fits (m : Ms) : Prop := i64 m.id ∧ i64 m.to ∧ m.body.size ≤ maxLen ∧ i64 m.tm
/-- The value v reads as the net n. -/
structure NtAt (w : World) (v : Value) (n : Nt) : Prop where
  is : ∃ fv, v = .agg #[fv, .int .i64 n.last, .int .i64 n.now] ∧ RwAt 4 w fv (n.fl.map msCell)
  fits : ∀ m ∈ n.fl, m.fits
  last : i64 n.last
  now : i64 n.now
theorem NtAt.keep {w w' : World} {v : Value} {n : Nt} (h : NtAt w v n) (hb : Below w.heap.size w w') : NtAt w' v n := by
  obtain ⟨⟨fv, e, h1⟩, h2, h3, h4⟩ := h
  exact ⟨⟨fv, e, h1.keep hb⟩, h2, h3, h4⟩
theorem NtAt.shape {w : World} {v : Value} {n : Nt} (h : NtAt w v n) : ∃ a c, v = .agg #[.slice a n.fl.length c, .int .i64 n.last, .int .i64 n.now] ∧ n.fl.length ≤ c ∧ c ≤ maxLen ∧ RwAt 4 w (.slice a n.fl.length c) (n.fl.map msCell) := by
  obtain ⟨⟨fv, rfl, h1⟩, -⟩ := h
  obtain ⟨a, c, rfl, h2, h3⟩ := h1.shape
  rw [List.length_map] at h1 h2 ⊢
  exact ⟨a, c, rfl, h2, h3, h1⟩
theorem ms_at {w : World} {a : Option Addr} {n c : Nat} {l : List Ms} (h : RwAt 4 w (.slice a n c) (l.map msCell)) (k : Nat) (hk : k < l.length) :
    ∃ b o, a = some ⟨b, o, none⟩ ∧ w.cell? ⟨b, o + k * 4, none⟩ = some (.int .i64 l[k].id) ∧ w.cell? ⟨b, o + k * 4 + 1, none⟩ = some (.int .i64 l[k].to) ∧ w.cell? ⟨b, o + k * 4 + 2, none⟩ = some (.string l[k].body) ∧ w.cell? ⟨b, o + k * 4 + 3, none⟩ = some (.int .i64 l[k].tm) := by
  obtain ⟨b, o, e, hc⟩ := h.at k (by rw [List.length_map]; exact hk)
  have g : ∀ j u, (msCell l[k])[j]? = some u → w.cell? ⟨b, o + k * 4 + j, none⟩ = some u := fun j u hu => hc j u (by rw [List.getElem_map]; exact hu)
  exact ⟨b, o, e, g 0 _ rfl, g 1 _ rfl, g 2 _ rfl, g 3 _ rfl⟩
theorem ms_one (l : List Ms) : ∀ u ∈ (l.map msCell).flatten, u.oneCell' = true := by
  intro u hu
  obtain ⟨x, hx, hu⟩ := List.mem_flatten.1 hu
  obtain ⟨m, -, rfl⟩ := List.mem_map.1 hx
  simp only [msCell, List.mem_cons, List.not_mem_nil, or_false] at hu
  rcases hu with rfl | rfl | rfl | rfl <;> rfl

/-! ### What comes in -/
theorem msFields : ∃ f0 f1 f2 f3 : Field, Try.prog.underlying 30 = some (.struct #[f0, f1, f2, f3]) ∧ f0.type = 3 ∧ f1.type = 3 ∧ f2.type = 9 ∧ f3.type = 3 ∧ oneCellFields Try.prog #[f0, f1, f2, f3] = true :=
  ⟨_, _, _, _, Try.underlying30, rfl, rfl, rfl, rfl, by kernel_rfl⟩
theorem msCells : Try.prog.cellsOf 30 = 4 := by kernel_rfl
theorem ntCells : Try.prog.cellsOf 24 = 3 := by kernel_rfl
theorem infoNet : (Try.prog.info? 24).map (·.size) = some 3 := by kernel_rfl
theorem infoMsg : (Try.prog.info? 30).map (fun i => (i.zero, i.size, i.bytes)) = some (some (.agg #[.int .i64 0, .int .i64 0, .string ⟨#[]⟩, .int .i64 0]), 4, 40) := by kernel_rfl
/-- A slice of messages that was read. -/
theorem ms_read {H : Type} {enc : TypeId × Value → H} {W : World} {fuel : Nat} {v : Value} {x : DataW H × List MemPlace}
    (h : DataW.trod enc Try.prog W 0 (fun _ => true) true fuel 22 [v] = some x) : ∃ ls : List Ms, RwAt 4 W v (ls.map msCell) ∧ ∀ l ∈ ls, l.fits := by
  obtain ⟨f0, f1, f2, f3, hu, t0, t1, t2, t3, hone⟩ := msFields
  obtain ⟨o0, k0⟩ := hone_of hone 0 f0 rfl
  obtain ⟨o1, k1⟩ := hone_of hone 1 f1 rfl
  obtain ⟨o2, k2⟩ := hone_of hone 2 f2 rfl
  obtain ⟨o3, k3⟩ := hone_of hone 3 f3 rfl
  rcases slice_cells Try.underlying22 msCells (by decide) h with h | ⟨b, o, len, cap, rfl, h1, h2, h3, h4⟩
  · exact ⟨[], Or.inl ⟨rfl, h⟩, by simp⟩
  · obtain ⟨l, hl, hp⟩ := exists_list (P := fun i (x : Ms) => (∀ j u, (msCell x)[j]? = some u → W.cell? ⟨b, o + i * 4 + j, none⟩ = some u) ∧ x.fits) len fun i hi => by
      obtain ⟨cs, n', y, -, hcl, hca, hr⟩ := h4 i hi
      obtain ⟨c0, c1, c2, c3, rfl⟩ : ∃ c0 c1 c2 c3, cs = [c0, c1, c2, c3] := by
        match cs, hcl with
        | [a, b, c, d], _ => exact ⟨a, b, c, d, rfl⟩
      obtain ⟨xs, n, -, -, -, hxl, hg⟩ := DataW.trod_struct hu hr
      have g0 := hg 0 f0 rfl
      have g1 := hg 1 f1 rfl
      have g2 := hg 2 f2 rfl
      have g3 := hg 3 f3 rfl
      obtain ⟨y0, y1, y2, y3, rfl⟩ : ∃ y0 y1 y2 y3, xs = [y0, y1, y2, y3] := by
        match xs, (show xs.length = 4 from hxl) with
        | [a, b, c, d], _ => exact ⟨a, b, c, d, rfl⟩
      rw [o0, k0, t0] at g0
      rw [o1, k1, t1] at g1
      rw [o2, k2, t2] at g2
      rw [o3, k3, t3] at g3
      have g0 : DataW.trod enc Try.prog W 0 (fun _ => true) true n 3 [c0] = some y0 := g0
      have g1 : DataW.trod enc Try.prog W 0 (fun _ => true) true n 3 [c1] = some y1 := g1
      have g2 : DataW.trod enc Try.prog W 0 (fun _ => true) true n 9 [c2] = some y2 := g2
      have g3 : DataW.trod enc Try.prog W 0 (fun _ => true) true n 3 [c3] = some y3 := g3
      obtain ⟨n0, e0, -, b0⟩ := DataW.trod_int Try.underlying3 g0
      obtain ⟨n1, e1, -, b1⟩ := DataW.trod_int Try.underlying3 g1
      obtain ⟨s, e2, -, hs⟩ := DataW.trod_string Try.underlying9 g2
      obtain ⟨n3, e3, -, b3⟩ := DataW.trod_int Try.underlying3 g3
      obtain rfl : c0 = .int .i64 n0 := by simpa using e0
      obtain rfl : c1 = .int .i64 n1 := by simpa using e1
      obtain rfl : c2 = .string s := by simpa using e2
      obtain rfl : c3 = .int .i64 n3 := by simpa using e3
      refine ⟨⟨n0, n1, s, n3⟩, fun j u hj => ?_, bounds_i64 b0, bounds_i64 b1, hs, bounds_i64 b3⟩
      have hlt : j < 4 := (List.getElem?_eq_some_iff.1 hj).1
      rw [Nat.add_assoc, hca j hlt]
      exact hj
    refine ⟨l, Or.inr ⟨b, o, cap, by rw [List.length_map, hl], by rw [List.length_map]; omega, by rw [List.length_map]; omega, h3, fun i hi j u hj => ?_⟩, fun x hx => ?_⟩
    · rw [List.length_map] at hi
      rw [List.getElem_map] at hj
      exact (hp i hi).1 j u hj
    · obtain ⟨i, hi, rfl⟩ := List.getElem_of_mem hx
      exact (hp i hi).2
set_option maxRecDepth 100000 in
/-- A net that came in. -/
theorem open_net {H : Type} {enc : TypeId × Value → H} {W : World} {b0 : Nat} {v : Value} {d : DataW H} {p : List MemPlace}
    (hval : Value.okWide Try.prog W .any b0 24 v) (hj : DataW.Trod enc Try.prog W 0 (fun _ => true) true 24 v d p) : ∃ n, NtAt W v n := by
  obtain ⟨v0, v1, v2, y0, y1, y2, n, rfl, -, -, h0, h1, h2⟩ := Joins.open_agg3 Try.underlying24 (by kernel_rfl) ntCells hval hj
  obtain ⟨ms, hms, zm⟩ := ms_read h0
  obtain ⟨q, e1, -, w1⟩ := DataW.trod_int Try.underlying3 h1
  obtain ⟨l, e2, -, w2⟩ := DataW.trod_int Try.underlying3 h2
  obtain rfl : v1 = .int .i64 q := by simpa using e1
  obtain rfl : v2 = .int .i64 l := by simpa using e2
  exact ⟨⟨ms, q, l⟩, ⟨v0, rfl, hms⟩, zm, bounds_i64 w1, bounds_i64 w2⟩
end Go.Proofs.Ytjjefdgcbdfclaa
