/-
  Names that rise stand once each: the place of the first one is its only place. Conditions: none.
-/
import Derived.Test.YtgkapipiegfmhaaDoorGet
namespace Go.Proofs.YtgkapipiegfmhaaDoor

theorem lessL_irrefl : ∀ l : List UInt8, lessL l l = false
  | [] => by rw [lessL]
  | a :: l => by rw [lessL, if_pos rfl]; exact lessL_irrefl l
theorem lessL_trans : ∀ a b c : List UInt8, lessL a b = true → lessL b c = true → lessL a c = true
  | [], [], _, h, _ => by rw [lessL] at h; cases h
  | [], _ :: _, [], _, h => by rw [lessL] at h; cases h
  | [], _ :: _, _ :: _, _, _ => by rw [lessL]
  | _ :: _, [], _, h, _ => by rw [lessL] at h; cases h
  | _ :: _, _ :: _, [], _, h => by rw [lessL] at h; cases h
  | x :: a, y :: b, z :: c, h1, h2 => by
    rw [lessL] at h1 h2 ⊢
    by_cases e1 : x = y
    · subst e1
      rw [if_pos rfl] at h1
      by_cases e2 : x = z
      · rw [if_pos e2] at h2 ⊢
        exact lessL_trans a b c h1 h2
      · rw [if_neg e2] at h2 ⊢
        exact h2
    · rw [if_neg e1, decide_eq_true_eq] at h1
      by_cases e2 : y = z
      · subst e2
        rw [if_neg e1, decide_eq_true_eq]
        exact h1
      · rw [if_neg e2, decide_eq_true_eq] at h2
        rw [if_neg (fun e => by rw [e] at h1; omega), decide_eq_true_eq]
        omega
theorem rises_less : ∀ (p : ByteArray) (l : List ByteArray), risesL (some p) l = true → ∀ x ∈ l, lessB p x = true
  | _, [], _, x, hx => by cases hx
  | p, a :: l, h, x, hx => by
    rw [risesL, Bool.and_eq_true, Bool.and_eq_true] at h
    rcases List.mem_cons.1 hx with rfl | hx
    · exact h.1.2
    · exact lessL_trans _ _ _ h.1.2 (rises_less a l h.2 x hx)
theorem rises_nodup : ∀ (o : Option ByteArray) (l : List ByteArray), risesL o l = true → l.Nodup
  | _, [], _ => List.nodup_nil
  | none, a :: l, h => by
    rw [risesL, Bool.and_eq_true] at h
    refine List.nodup_cons.2 ⟨fun hm => ?_, rises_nodup _ l h.2⟩
    have := rises_less a l h.2 a hm
    unfold lessB at this
    rw [lessL_irrefl] at this
    cases this
  | some p, a :: l, h => by
    rw [risesL, Bool.and_eq_true] at h
    refine List.nodup_cons.2 ⟨fun hm => ?_, rises_nodup _ l h.2⟩
    have := rises_less a l h.2 a hm
    unfold lessB at this
    rw [lessL_irrefl] at this
    cases this
theorem firstIdx_at : ∀ (l : List ByteArray) (x : ByteArray) (k : Nat) (h : k < l.length), l.Nodup → l[k] = x → firstIdx l x = some k
  | a :: l, x, 0, _, _, e => by
    have e' : a = x := e
    rw [firstIdx, if_pos e']
  | a :: l, x, k + 1, h, hn, e => by
    obtain ⟨h1, h2⟩ := List.nodup_cons.1 hn
    have hk : k < l.length := by simpa using h
    have e' : l[k] = x := by simpa using e
    rw [firstIdx, if_neg (fun e2 => h1 (by rw [e2, ← e']; exact List.getElem_mem hk)), firstIdx_at l x k hk h2 e']
    rfl
/-- A member of a value that may be: where the name stands, if it is of the kind. -/
theorem getV_hit {d : Nat} {T : Val} {name : ByteArray} {kind : Int} (hm : mayV d T = true) (h4 : T.kind = 4) (j : Nat) (hj : j < T.names.length) (hn : T.names[j] = name) (hi : j < T.items.length) : getV T name kind = if (T.items[j]).kind = kind then some T.items[j] else none := by
  obtain ⟨k, n, s, l, ns⟩ := T
  cases d with
  | zero => rw [mayV] at hm; cases hm
  | succ d =>
    rw [mayV, Bool.and_eq_true, oneV_iff] at hm
    have ho := hm.1
    have h4' : k = 4 := h4
    have hj' : j < ns.length := hj
    have hi' : j < l.length := hi
    have hn' : ns[j] = name := hn
    show getV (.mk k n s l ns) name kind = if (l[j]).kind = kind then some l[j] else none
    unfold getV
    rw [if_pos ⟨h4', ho.same h4'⟩, show Val.names (.mk k n s l ns) = ns from rfl, firstIdx_at ns name j hj' (rises_nodup none ns ho.rises) hn']
    simp only
    rw [show Val.items (.mk k n s l ns) = l from rfl, List.getElem?_eq_getElem hi']
theorem getV_miss {T : Val} {name : ByteArray} {kind : Int} (h : ∀ (j : Nat) (hj : j < T.names.length) (hi : j < T.items.length), T.names[j] = name → (T.items[j]).kind ≠ kind) : getV T name kind = none := by
  obtain ⟨k, n, s, l, ns⟩ := T
  have h' : ∀ (j : Nat) (hj : j < ns.length) (hi : j < l.length), ns[j] = name → (l[j]).kind ≠ kind := h
  unfold getV
  split
  · rw [show Val.names (.mk k n s l ns) = ns from rfl, show Val.items (.mk k n s l ns) = l from rfl]
    cases hf : firstIdx ns name with
    | none => rfl
    | some i =>
      obtain ⟨hi, h1, -⟩ := firstIdx_some ns name i hf
      simp only
      cases hx : l[i]? with
      | none => rfl
      | some X =>
        obtain ⟨hi2, rfl⟩ := List.getElem?_eq_some_iff.1 hx
        exact if_neg (h' i hi hi2 h1)
  · rfl
end Go.Proofs.YtgkapipiegfmhaaDoor
