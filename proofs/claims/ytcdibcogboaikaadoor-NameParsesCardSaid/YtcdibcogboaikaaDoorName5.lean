/-
  name.Parse by its contract. Conditions: fewer than 2^32 - 15 bytes; octet's errors lie where they lie; an int where the library keeps one.
-/
import Derived.Test.YtcdibcogboaikaaDoorName4
import Derived.Deep.RegionWith
namespace Go.Proofs.YtcdibcogboaikaaDoor
open Go.RowKit

def emptyR : RefB := ⟨⟨#[]⟩, ⟨#[]⟩, ⟨#[]⟩⟩
/-- The reference that a text is of. -/
def parseN (s : ByteArray) : RefB × Int := if (cutR s).may then (cutR s, 0) else (emptyR, 5)
theorem cutR_short (s : ByteArray) (h : s.size < 4294967281) : (cutR s).Short := by
  unfold cutR
  have h0 : (⟨#[]⟩ : ByteArray).size = 0 := rfl
  split
  · exact ⟨h, by simp only [h0]; omega, by simp only [h0]; omega⟩
  · split <;> exact ⟨by simp only [ByteArray.size_extract]; omega, by simp only [ByteArray.size_extract, h0]; omega, by simp only [ByteArray.size_extract, h0]; omega⟩

/-- A row of three cells lies at B. -/
def At3 (w : World) (B : Nat) (a b c : Value) (t : TypeId) : Prop := w.heap[B]? = some (.cells #[a, b, c] t (0, 0))
theorem At3.lt {w : World} {B : Nat} {a b c : Value} {t : TypeId} (h : At3 w B a b c t) : B < w.heap.size := (Array.getElem?_eq_some_iff.1 h).1
theorem At3.keep {w w' : World} {B : Nat} {a b c : Value} {t : TypeId} (h : At3 w B a b c t) (hb : Below w.heap.size w w') : At3 w' B a b c t := (hb.block B h.lt).trans h
theorem At3.cells {w : World} {B : Nat} {a b c : Value} {t : TypeId} (h : At3 w B a b c t) :
    (w.cell? ⟨B, 0, none⟩ = some a ∧ w.cell? ⟨B, 1, none⟩ = some b ∧ w.cell? ⟨B, 2, none⟩ = some c) ∧ (w.frozen? ⟨B, 0, none⟩ = false ∧ w.frozen? ⟨B, 1, none⟩ = false ∧ w.frozen? ⟨B, 2, none⟩ = false) := by
  unfold At3 at h
  refine ⟨⟨?_, ?_, ?_⟩, ?_, ?_, ?_⟩ <;> simp [World.cell?, World.frozen?, h]
theorem At3.new (w : World) (a b c : Value) (t : TypeId) : At3 (w.alloc (.cells #[a, b, c] t)) w.heap.size a b c t := by
  show (w.heap.push (Obj.cells #[a, b, c] t (0, 0)))[w.heap.size]? = _; simp
theorem below_new (w : World) (o : Obj) : Below w.heap.size w (w.alloc o) := (Below.refl _ _).alloc (Nat.le_refl _) _
/-- One world behind another. -/
theorem Below.then {a b c : World} (h : Below a.heap.size a b) (k : Below b.heap.size b c) : Below a.heap.size a c := h.trans (k.mono h.size)

/-- What is held while texts are cloned: two rows of three cells, and what lies below. -/
structure Held (w0 : World) (B1 B0 : Nat) (a b c : Value) (x y z : Value) (t : TypeId) (w : World) : Prop where
  one : At3 w B1 a b c t
  two : At3 w B0 x y z t
  below : Below w0.heap.size w0 w
theorem Held.drew {w0 : World} {B1 B0 : Nat} {a b c x y z : Value} {t : TypeId} {w : World} (h : Held w0 B1 B0 a b c x y z t w) : Held w0 B1 B0 a b c x y z t w.drew := ⟨h.one, h.two, h.below.drew⟩
theorem Held.clone {w0 : World} {B1 B0 : Nat} {a b c x y z : Value} {t : TypeId} (s : ByteArray) (w : World) (hs : s.size < 4294967281) (h : Held w0 B1 B0 a b c x y z t w) :
    Calls Tryd.prog 30 #[.string s] w fun e w' => e = .returned (.string s) ∧ Held w0 B1 B0 a b c x y z t w' ∧
      (w'.cell? ⟨B1, 0, none⟩ = some a ∧ w'.cell? ⟨B1, 1, none⟩ = some b ∧ w'.cell? ⟨B1, 2, none⟩ = some c) ∧
      (w'.cell? ⟨B0, 0, none⟩ = some x ∧ w'.cell? ⟨B0, 1, none⟩ = some y ∧ w'.cell? ⟨B0, 2, none⟩ = some z) ∧ (w'.frozen? ⟨B0, 0, none⟩ = false ∧ w'.frozen? ⟨B0, 1, none⟩ = false ∧ w'.frozen? ⟨B0, 2, none⟩ = false) := by
  refine (clone_any s w (by omega)).mono ?_
  rintro e w' ⟨rfl, hb⟩
  have h' : Held w0 B1 B0 a b c x y z t w' := ⟨h.one.keep hb, h.two.keep hb, Below.then h.below hb⟩
  exact ⟨rfl, h', h'.one.cells.1, h'.two.cells.1, h'.two.cells.2⟩

/-- A result that lies in a row, and one that does not. -/
theorem results_ref {P : Program} {fn : Func} {p u : Tmp} {ty : TypeId} (h : fn.results = #[.cell p ty, .tmp u]) (tmps : Array Value) (w : World) (g : Nat) (t : TypeId) (cs : Array Value) (fr : Nat × Nat) (d : TypeDesc)
    (hp : tmps.getD p undef = .pointer (some ⟨g, 0, none⟩)) (hg : w.heap[g]? = some (.cells cs t fr))
    (hu : P.underlying ty = some d) (hd : (match d with | .struct _ | .array _ _ => true | _ => false) = true) (hi : (P.info? ty).map (·.size) = some cs.size) :
    (results fn tmps).run P w = .ok (.tuple #[.agg cs, tmps.getD u undef]) w := by
  rw [results_cell_tmp h, hp]
  simp [asAddr, run_loadVar_row w g t ty cs fr d hg hu hd hi]

set_option maxRecDepth 100000 in
theorem Parse_no (aD aS aZ : Addr) (s repo tag dig : ByteArray) (w : World) (he : NEnv w aD aS aZ) (hs : s.size < 4294967281)
    (hc : cutR s = ⟨repo, tag, dig⟩) (hm : (cutR s).may = false) :
    Calls Tryd.prog 18 #[.string s] w fun e w' => e = .returned (.tuple #[(parseN s).1.val, .int .i64 (parseN s).2]) ∧ Below w.heap.size w w' := by
  have C := Lib.hid (fun w => cut_any s w hs)
  have M := Lib.hid (fun w (he : NEnv w aD aS aZ) => mayBe_any aD aS aZ (cutR s) w he (cutR_short s hs))
  have HE := Lib.hid he
  have HO := Lib.hid (show parseN s = (emptyR, 5) by unfold parseN; rw [hm]; rfl)
  rw [hm] at M
  rw [hc] at C M
  clear hc hm he hs
  unfold RefB.val at C M
  simp only [] at C M
  go_enter Tryd.func18, Tryd.ntmps18
  go_wp2_with fail
  refine (C.out _).mono ?_
  rintro e w1 ⟨rfl, hb⟩
  have HB := Lib.hid (Below.then (below_new _ _) hb)
  have HR := Lib.hid ((At3.new w (.string ⟨#[]⟩) (.string ⟨#[]⟩) (.string ⟨#[]⟩) 23).keep hb)
  clear hb
  go_wp2_with fail
  refine (M.out _ (HE.out.keep (Below.then HB.out (below_new _ _)))).mono ?_
  rintro e w2 ⟨rfl, hb⟩
  have HB2 := Lib.hid (Below.then HB.out (Below.then (below_new _ _) hb))
  have HR2 := Lib.hid (HR.out.keep (Below.then (below_new _ _) hb))
  have hl := (HR2.out).cells
  obtain ⟨⟨d0, d1, d2⟩, z0, z1, z2⟩ := hl
  clear hb HR HB
  go_wp2_with fail
  exact bodyPost_ret (results_ref (p := 2) (u := 3) rfl _ _ w.heap.size 23 _ (0, 0) _ rfl (set3 HR2.out) Tryd.underlying23 rfl infoRef) rfl ⟨by rw [HO.out]; rfl, below3 HB2.out _ _ _⟩
end Go.Proofs.YtcdibcogboaikaaDoor
