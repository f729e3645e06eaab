/-
  Manifests as plain functions: which may be, the value and the text of one, what a value tells, which blobs one needs. Conditions: none.
  Manifests in memory: a row of pairs, a row of words; what comes in reads as one. Conditions: none.
  What the manifests' walks want of package-level variables; is a text a digest: the program's and the document's, by contracts; is a word among words. Conditions: the package-level variables as MEnv says; words of fewer than 2^40 bytes.
-/
import Derived.Test.YtepcaglekgeamaaGreatDoorYTxt0
import Derived.Test.YtepcaglekgeamaaGreatDoorYDig1
import Derived.Test.YtepcaglekgeamaaGreatDoorYGet
import Derived.Test.YtepcaglekgeamaaGreatDoorYTxt1
import Derived.Lib.SmallJoins
import Derived.Test.YtepcaglekgeamaaGreatDoorYRefD
import Derived.BigQuiet
import Derived.Deep.QuietTactic
namespace Go.Proofs.YtepcaglekgeamaaGreatDoor

structure Man where
  index : Bool
  config : ByteArray
  layers : List (ByteArray × Int)
  kids : List ByteArray
@[ext] structure Man.Same (a b : Man) : Prop where
  index : a.index = b.index
  config : a.config = b.config
  layers : a.layers = b.layers
  kids : a.kids = b.kids

theorem Man.ext' {a b : Man} (h : Man.Same a b) : a = b := by
  obtain ⟨i, c, l, k⟩ := a
  obtain ⟨i', c', l', k'⟩ := b
  obtain ⟨rfl, rfl, rfl, rfl⟩ := h
  rfl

def noMan : Man := ⟨false, ⟨#[]⟩, [], []⟩

def isD (s : ByteArray) : Bool := decide ((parseD s).2 = 0)

def okLayer (l : ByteArray × Int) : Bool := isD l.1 && decide (0 ≤ l.2 ∧ l.2 ≤ 4096)
instance memDec (k : ByteArray) (p : List ByteArray) : Decidable (k ∈ p) := @List.instDecidableMemOfLawfulBEq ByteArray instBEqOfDecidableEq inferInstance k p

def apartL : List ByteArray → List ByteArray → Bool
  | _, [] => true
  | p, k :: l => isD k && decide (k ∉ p) && apartL (p ++ [k]) l

def rightM (m : Man) : Bool :=
  if m.index then decide (m.config.size = 0) && decide (m.layers.length = 0) && decide (1 ≤ m.kids.length ∧ m.kids.length ≤ 8) && apartL [] m.kids
  else isD m.config && decide (m.layers.length ≤ 8) && m.layers.all okLayer && decide (m.kids.length = 0)

def nConfig : ByteArray := { data := #[99, 111, 110, 102, 105, 103] }

def nDigest : ByteArray := { data := #[100, 105, 103, 101, 115, 116] }

def nKids : ByteArray := { data := #[107, 105, 100, 115] }

def nKind : ByteArray := { data := #[107, 105, 110, 100] }

def nLayers : ByteArray := { data := #[108, 97, 121, 101, 114, 115] }

def nSize : ByteArray := { data := #[115, 105, 122, 101] }

def kImage : ByteArray := { data := #[105, 109, 97, 103, 101] }

def kIndex : ByteArray := { data := #[105, 110, 100, 101, 120] }

def wordVal (s : ByteArray) : Val := .mk 2 0 s [] []

def wholeVal (n : Int) : Val := .mk 1 n ⟨#[]⟩ [] []

def layerVal (l : ByteArray × Int) : Val := .mk 4 0 ⟨#[]⟩ [wordVal l.1, wholeVal l.2] [nDigest, nSize]

def rowVal (l : List Val) : Val := .mk 3 0 ⟨#[]⟩ l []

def valM (m : Man) : Val :=
  if m.index then .mk 4 0 ⟨#[]⟩ [rowVal (m.kids.map wordVal), wordVal kIndex] [nKids, nKind]
  else .mk 4 0 ⟨#[]⟩ [wordVal m.config, wordVal kImage, rowVal (m.layers.map layerVal)] [nConfig, nKind, nLayers]

theorem hexDig_word (n : Nat) (h : n < 16) : wordC (hexDig n) = true := by
  have : ∀ k : Fin 16, wordC (hexDig k.1) = true := by decide
  exact this ⟨n, h⟩

theorem hexL_word : ∀ l : List UInt8, (hexL l).all wordC = true
  | [] => rfl
  | a :: l => by
    have h1 : a.toNat / 16 < 16 := by have := a.toNat_lt; omega
    have h2 : a.toNat % 16 < 16 := by omega
    show (hexDig (a.toNat / 16) :: hexDig (a.toNat % 16) :: hexL l).all wordC = true
    rw [List.all_cons, List.all_cons, hexDig_word _ h1, hexDig_word _ h2, hexL_word l]
    rfl

theorem isD_size {s : ByteArray} (h : isD s = true) : s.size = 71 := by
  unfold isD at h
  rw [decide_eq_true_eq] at h
  by_cases e : s.size = 71
  · exact e
  · rw [parseD_no (Or.inr e)] at h
    exact absurd h (by decide)

theorem isD_word {s : ByteArray} (h : isD s = true) : wordB s = true := by
  have hz := isD_size h
  unfold isD at h
  rw [decide_eq_true_eq] at h
  unfold wordB
  rw [Bool.and_eq_true, decide_eq_true_eq]
  refine ⟨?_, by omega⟩
  unfold parseD at h
  split at h
  · rename_i hp
    cases hu : unhexL (s.data.toList.drop 7) with
    | none => rw [hu] at h; exact absurd h (by decide)
    | some r =>
      have h1 := hexL_unhexL _ _ hu
      have h2 : s.data.toList = prefB.data.toList ++ s.data.toList.drop 7 := by
        obtain ⟨t, ht⟩ := List.isPrefixOf_iff_prefix.1 hp.1
        rw [← ht, drop_pref]
      rw [h2, List.all_append, ← h1, hexL_word]
      decide
  · exact absurd h (by decide)

theorem isD_of (x : ByteArray) : isD (ofB x) = true := by unfold isD; rw [parseD_of]; rfl

theorem apartL_isD : ∀ (p l : List ByteArray), apartL p l = true → ∀ k ∈ l, isD k = true
  | _, [], _, k, hk => by cases hk
  | p, a :: l, h, k, hk => by
    rw [apartL, Bool.and_eq_true, Bool.and_eq_true] at h
    rcases List.mem_cons.1 hk with rfl | hk
    · exact h.1.1
    · exact apartL_isD _ l h.2 k hk

theorem mayV_wordVal (d : Nat) (s : ByteArray) (h : wordB s = true) : mayV (d + 1) (wordVal s) = true := by
  rw [mayV, wordVal, (oneV_iff 2 0 s [] []).2 ⟨by decide, Or.inr rfl, Or.inl rfl, Or.inr rfl, Or.inr rfl, by decide, h, by simp, fun h => absurd h (by decide), rfl⟩]
  rfl

theorem mayV_wholeVal (d : Nat) (n : Int) (h0 : 0 ≤ n) (h1 : n ≤ 1099511627776) : mayV (d + 1) (wholeVal n) = true := by
  rw [mayV, wholeVal, (oneV_iff 1 n ⟨#[]⟩ [] []).2 ⟨by decide, Or.inl rfl, Or.inr rfl, Or.inr rfl, Or.inr rfl, ⟨h0, h1⟩, by decide, by simp, fun h => absurd h (by decide), rfl⟩]
  rfl

theorem mayV_obj (d : Nat) (l : List Val) (ns : List ByteArray) (hl : l.length ≤ 16) (hn : ns.length = l.length) (hr : risesL none ns = true) (h : ∀ x ∈ l, mayV d x = true) : mayV (d + 1) (.mk 4 0 ⟨#[]⟩ l ns) = true := by
  rw [mayV, (oneV_iff 4 0 ⟨#[]⟩ l ns).2 ⟨by decide, Or.inr rfl, Or.inr rfl, Or.inl (by decide), Or.inl rfl, by decide, by decide, hl, fun _ => hn, hr⟩]
  exact List.all_eq_true.2 h

theorem mayV_rowVal (d : Nat) (l : List Val) (hl : l.length ≤ 16) (h : ∀ x ∈ l, mayV d x = true) : mayV (d + 1) (rowVal l) = true := by
  rw [mayV, rowVal, (oneV_iff 3 0 ⟨#[]⟩ l []).2 ⟨by decide, Or.inr rfl, Or.inr rfl, Or.inl (by decide), Or.inr rfl, by decide, by decide, hl, fun h => absurd h (by decide), rfl⟩]
  exact List.all_eq_true.2 h

theorem mayV_layerVal (d : Nat) (l : ByteArray × Int) (h : okLayer l = true) : mayV (d + 2) (layerVal l) = true := by
  unfold okLayer at h
  rw [Bool.and_eq_true, decide_eq_true_eq] at h
  refine mayV_obj (d + 1) _ _ (by simp) rfl (by decide) fun x hx => ?_
  simp only [List.mem_cons, List.not_mem_nil, or_false] at hx
  rcases hx with rfl | rfl
  · exact mayV_wordVal d _ (isD_word h.1)
  · exact mayV_wholeVal d _ h.2.1 (by omega)

theorem rightM_index {m : Man} (hi : m.index = true) : rightM m = true ↔ m.config = ⟨#[]⟩ ∧ m.layers = [] ∧ 1 ≤ m.kids.length ∧ m.kids.length ≤ 8 ∧ apartL [] m.kids = true := by
  unfold rightM
  rw [if_pos hi]
  simp only [Bool.and_eq_true, decide_eq_true_eq]
  constructor
  · rintro ⟨⟨⟨h1, h2⟩, h3, h4⟩, h5⟩
    exact ⟨bytes_nil _ h1, List.length_eq_zero_iff.1 h2, h3, h4, h5⟩
  · rintro ⟨h1, h2, h3, h4, h5⟩
    exact ⟨⟨⟨by rw [h1]; rfl, by rw [h2]; rfl⟩, h3, h4⟩, h5⟩

theorem rightM_image {m : Man} (hi : m.index = false) : rightM m = true ↔ isD m.config = true ∧ m.layers.length ≤ 8 ∧ (∀ l ∈ m.layers, okLayer l = true) ∧ m.kids = [] := by
  unfold rightM
  rw [if_neg (by rw [hi]; decide)]
  simp only [Bool.and_eq_true, decide_eq_true_eq, List.all_eq_true]
  constructor
  · rintro ⟨⟨⟨h1, h2⟩, h3⟩, h4⟩
    exact ⟨h1, h2, h3, List.length_eq_zero_iff.1 h4⟩
  · rintro ⟨h1, h2, h3, h4⟩
    exact ⟨⟨⟨h1, h2⟩, h3⟩, by rw [h4]; rfl⟩

theorem mayV_valM (m : Man) (h : rightM m = true) : mayV 6 (valM m) = true := by
  cases hi : m.index with
  | true =>
    obtain ⟨-, -, -, h4, h5⟩ := (rightM_index hi).1 h
    unfold valM
    rw [if_pos hi]
    refine mayV_obj 5 _ _ (by simp) rfl (by decide) fun x hx => ?_
    simp only [List.mem_cons, List.not_mem_nil, or_false] at hx
    rcases hx with rfl | rfl
    · refine mayV_rowVal 4 _ (by rw [List.length_map]; omega) fun x hx => ?_
      obtain ⟨k, hk, rfl⟩ := List.mem_map.1 hx
      exact mayV_wordVal 3 _ (isD_word (apartL_isD _ _ h5 k hk))
    · exact mayV_wordVal 4 _ (by decide)
  | false =>
    obtain ⟨h1, h2, h3, -⟩ := (rightM_image hi).1 h
    unfold valM
    rw [if_neg (by rw [hi]; decide)]
    refine mayV_obj 5 _ _ (by simp) rfl (by decide) fun x hx => ?_
    simp only [List.mem_cons, List.not_mem_nil, or_false] at hx
    rcases hx with rfl | rfl | rfl
    · exact mayV_wordVal 4 _ (isD_word h1)
    · exact mayV_wordVal 4 _ (by decide)
    · refine mayV_rowVal 4 _ (by rw [List.length_map]; omega) fun x hx => ?_
      obtain ⟨l, hl, rfl⟩ := List.mem_map.1 hx
      exact mayV_layerVal 2 l (h3 l hl)

def commaL : List (List UInt8) → List UInt8
  | [] => []
  | [x] => x
  | x :: y :: l => x ++ 44 :: commaL (y :: l)

def quoted (s : ByteArray) : List UInt8 := 34 :: s.data.toList ++ [34]

def layerText (l : ByteArray × Int) : List UInt8 := [123, 34, 100, 105, 103, 101, 115, 116, 34, 58] ++ quoted l.1 ++ [44, 34, 115, 105, 122, 101, 34, 58] ++ Lib.itoa l.2 ++ [125]

def textM (m : Man) : List UInt8 :=
  if m.index then [123, 34, 107, 105, 100, 115, 34, 58, 91] ++ commaL (m.kids.map quoted) ++ [93, 44, 34, 107, 105, 110, 100, 34, 58, 34, 105, 110, 100, 101, 120, 34, 125]
  else [123, 34, 99, 111, 110, 102, 105, 103, 34, 58] ++ quoted m.config ++ [44, 34, 107, 105, 110, 100, 34, 58, 34, 105, 109, 97, 103, 101, 34, 44, 34, 108, 97, 121, 101, 114, 115, 34, 58, 91] ++ commaL (m.layers.map layerText) ++ [93, 125]

theorem textL_word (s : ByteArray) : textL (wordVal s) = quoted s := by rw [wordVal, textL_eq]; rfl

theorem textL_whole (n : Int) : textL (wholeVal n) = Lib.itoa n := by rw [wholeVal, textL_eq]; rfl

theorem bodyL_comma : ∀ (l : List Val), bodyL false true l [] = commaL (l.map textL)
  | [] => by rw [bodyL]; rfl
  | [x] => by rw [bodyL, bodyL]; simp [commaL]
  | x :: y :: l => by
    rw [bodyL_cons, show ([] : List ByteArray).tail = [] from rfl, bodyL_false, bodyL_comma (y :: l)]
    simp [commaL]

theorem textL_row (l : List Val) : textL (rowVal l) = 91 :: commaL (l.map textL) ++ [93] := by
  rw [rowVal, textL_eq, if_neg (by decide), if_neg (by decide), if_neg (by decide), bodyL_comma]

theorem textL_layer (l : ByteArray × Int) : textL (layerVal l) = layerText l := by
  rw [layerVal, textL_eq, if_neg (by decide), if_neg (by decide), if_pos rfl, bodyL_cons, bodyL_cons, bodyL, textL_word, textL_whole]
  simp [layerText, nDigest, nSize]

theorem textL_valM (m : Man) : textL (valM m) = textM m := by
  unfold valM textM
  cases m.index with
  | true =>
    rw [if_pos rfl, if_pos rfl, textL_eq, if_neg (by decide), if_neg (by decide), if_pos rfl, bodyL_cons, bodyL_cons, bodyL, textL_row, textL_word, List.map_map, show (textL ∘ wordVal) = quoted from funext textL_word]
    simp [nKids, nKind, kIndex, quoted]
  | false =>
    rw [if_neg (by decide), if_neg (by decide), textL_eq, if_neg (by decide), if_neg (by decide), if_pos rfl, bodyL_cons, bodyL_cons, bodyL_cons, bodyL, textL_row, textL_word, textL_word, List.map_map, show (textL ∘ layerVal) = layerText from funext textL_layer]
    simp [nConfig, nKind, nLayers, kImage, quoted]

def memberV (T : Val) (name : ByteArray) (kind : Int) : Val := (getV T name kind).getD (.mk 0 0 ⟨#[]⟩ [] [])

def wordOfV (T : Val) (name : ByteArray) : ByteArray := (memberV T name 2).word

def wholeOfV (T : Val) (name : ByteArray) : Int := (memberV T name 1).num

def rowOfV (T : Val) (name : ByteArray) : List Val := (memberV T name 3).items

def layerOfV (T : Val) : ByteArray × Int := (wordOfV T nDigest, wholeOfV T nSize)

def readM (T : Val) : Man :=
  if wordOfV T nKind = kIndex then ⟨true, ⟨#[]⟩, [], (rowOfV T nKids).map Val.word⟩
  else ⟨false, wordOfV T nConfig, (rowOfV T nLayers).map layerOfV, []⟩

def refGet (T : Val) (name : ByteArray) : Val :=
  match firstIdx T.names name with
  | some i => (T.items[i]?).getD (.mk 0 0 ⟨#[]⟩ [] [])
  | none => .mk 0 0 ⟨#[]⟩ [] []

def refLayer (T : Val) : ByteArray × Int := ((refGet T nDigest).word, (refGet T nSize).num)

def refM (T : Val) : Man := ⟨decide ((refGet T nKind).word = kIndex), (refGet T nConfig).word, (refGet T nLayers).items.map refLayer, (refGet T nKids).items.map Val.word⟩

theorem getV_at {T : Val} {name : ByteArray} {kind : Int} {i : Nat} {X : Val} (h4 : T.kind = 4) (hl : T.names.length = T.items.length) (hf : firstIdx T.names name = some i) (hx : T.items[i]? = some X) (hk : X.kind = kind) : getV T name kind = some X := by
  unfold getV
  rw [if_pos ⟨h4, hl⟩, hf]
  simp only
  rw [hx]
  simp only
  rw [if_pos hk]

theorem layerOfV_val (l : ByteArray × Int) : layerOfV (layerVal l) = l := by
  have e1 : getV (layerVal l) nDigest 2 = some (wordVal l.1) := getV_at (i := 0) rfl rfl (by simp [layerVal, Val.names, firstIdx]) rfl rfl
  have e2 : getV (layerVal l) nSize 1 = some (wholeVal l.2) := getV_at (i := 1) rfl rfl (by simp [layerVal, Val.names, firstIdx, nDigest, nSize]) rfl rfl
  unfold layerOfV wordOfV wholeOfV memberV
  rw [e1, e2]
  rfl

theorem refLayer_val (l : ByteArray × Int) : refLayer (layerVal l) = l := by
  have e1 : firstIdx (layerVal l).names nDigest = some 0 := by simp [layerVal, Val.names, firstIdx]
  have e2 : firstIdx (layerVal l).names nSize = some 1 := by simp [layerVal, Val.names, firstIdx, nDigest, nSize]
  unfold refLayer refGet
  rw [e1, e2]
  rfl

theorem word_map (l : List ByteArray) : (l.map wordVal).map Val.word = l := by
  rw [List.map_map, show (Val.word ∘ wordVal) = id from rfl, List.map_id]

theorem readM_valM (m : Man) (h : rightM m = true) : readM (valM m) = m := by
  cases hi : m.index with
  | true =>
    obtain ⟨h1, h2, -, -, -⟩ := (rightM_index hi).1 h
    have hv : valM m = .mk 4 0 ⟨#[]⟩ [rowVal (m.kids.map wordVal), wordVal kIndex] [nKids, nKind] := if_pos hi
    have e1 : getV (valM m) nKind 2 = some (wordVal kIndex) := by rw [hv]; exact getV_at (i := 1) rfl rfl (by simp [Val.names, firstIdx, nKids, nKind]) rfl rfl
    have e2 : getV (valM m) nKids 3 = some (rowVal (m.kids.map wordVal)) := by rw [hv]; exact getV_at (i := 0) rfl rfl (by simp [Val.names, firstIdx]) rfl rfl
    have w1 : wordOfV (valM m) nKind = kIndex := by unfold wordOfV memberV; rw [e1]; rfl
    have w2 : rowOfV (valM m) nKids = m.kids.map wordVal := by unfold rowOfV memberV; rw [e2]; rfl
    unfold readM
    rw [if_pos w1, w2, word_map]
    exact Man.ext' ⟨hi.symm, h1.symm, h2.symm, rfl⟩
  | false =>
    obtain ⟨-, -, -, h4⟩ := (rightM_image hi).1 h
    have hv : valM m = .mk 4 0 ⟨#[]⟩ [wordVal m.config, wordVal kImage, rowVal (m.layers.map layerVal)] [nConfig, nKind, nLayers] := if_neg (by rw [hi]; decide)
    have e1 : getV (valM m) nKind 2 = some (wordVal kImage) := by rw [hv]; exact getV_at (i := 1) rfl rfl (by simp [Val.names, firstIdx, nConfig, nKind]) rfl rfl
    have e2 : getV (valM m) nConfig 2 = some (wordVal m.config) := by rw [hv]; exact getV_at (i := 0) rfl rfl (by simp [Val.names, firstIdx]) rfl rfl
    have e3 : getV (valM m) nLayers 3 = some (rowVal (m.layers.map layerVal)) := by rw [hv]; exact getV_at (i := 2) rfl rfl (by simp [Val.names, firstIdx, nConfig, nKind, nLayers]) rfl rfl
    have w1 : wordOfV (valM m) nKind = kImage := by unfold wordOfV memberV; rw [e1]; rfl
    have w2 : wordOfV (valM m) nConfig = m.config := by unfold wordOfV memberV; rw [e2]; rfl
    have w3 : rowOfV (valM m) nLayers = m.layers.map layerVal := by unfold rowOfV memberV; rw [e3]; rfl
    unfold readM
    rw [w1, if_neg (by decide), w2, w3, List.map_map, show (layerOfV ∘ layerVal) = id from funext layerOfV_val, List.map_id]
    exact Man.ext' ⟨hi.symm, rfl, rfl, h4.symm⟩

theorem refM_valM (m : Man) (h : rightM m = true) : refM (valM m) = m := by
  cases hi : m.index with
  | true =>
    obtain ⟨h1, h2, -, -, -⟩ := (rightM_index hi).1 h
    have hv : valM m = .mk 4 0 ⟨#[]⟩ [rowVal (m.kids.map wordVal), wordVal kIndex] [nKids, nKind] := if_pos hi
    have e1 : refGet (valM m) nKind = wordVal kIndex := by rw [hv]; simp [refGet, Val.names, Val.items, firstIdx, nKids, nKind]
    have e2 : refGet (valM m) nKids = rowVal (m.kids.map wordVal) := by rw [hv]; simp [refGet, Val.names, Val.items, firstIdx]
    have e3 : refGet (valM m) nConfig = .mk 0 0 ⟨#[]⟩ [] [] := by rw [hv]; simp [refGet, Val.names, firstIdx, nConfig, nKids, nKind]
    have e4 : refGet (valM m) nLayers = .mk 0 0 ⟨#[]⟩ [] [] := by rw [hv]; simp [refGet, Val.names, firstIdx, nLayers, nKids, nKind]
    unfold refM
    rw [e1, e2, e3, e4]
    refine Man.ext' ⟨?_, h1.symm, h2.symm, ?_⟩
    · show decide (kIndex = kIndex) = _
      rw [hi]; exact decide_eq_true (by rfl)
    · exact word_map m.kids
  | false =>
    obtain ⟨-, -, -, h4⟩ := (rightM_image hi).1 h
    have hv : valM m = .mk 4 0 ⟨#[]⟩ [wordVal m.config, wordVal kImage, rowVal (m.layers.map layerVal)] [nConfig, nKind, nLayers] := if_neg (by rw [hi]; decide)
    have e1 : refGet (valM m) nKind = wordVal kImage := by rw [hv]; simp [refGet, Val.names, Val.items, firstIdx, nConfig, nKind]
    have e2 : refGet (valM m) nKids = .mk 0 0 ⟨#[]⟩ [] [] := by rw [hv]; simp [refGet, Val.names, firstIdx, nConfig, nKids, nKind, nLayers]
    have e3 : refGet (valM m) nConfig = wordVal m.config := by rw [hv]; simp [refGet, Val.names, Val.items, firstIdx]
    have e4 : refGet (valM m) nLayers = rowVal (m.layers.map layerVal) := by rw [hv]; simp [refGet, Val.names, Val.items, firstIdx, nLayers, nConfig, nKind]
    unfold refM
    rw [e1, e2, e3, e4]
    refine Man.ext' ⟨?_, rfl, ?_, h4.symm⟩
    · show decide (kImage = kIndex) = _
      rw [hi]; exact decide_eq_false (by decide)
    · show (m.layers.map layerVal).map refLayer = m.layers
      rw [List.map_map, show (refLayer ∘ layerVal) = id from funext refLayer_val, List.map_id]

def parseM (s : ByteArray) : Man × Int :=
  if 4096 < s.size then (noMan, 2) else match parseV s with
    | none => (noMan, 6)
    | some T => if rightM (readM T) = true ∧ likeV T (valM (readM T)) = true then (readM T, 0) else (noMan, 8)

theorem parseM_iff (s : ByteArray) (m : Man) : parseM s = (m, 0) ↔ rightM m = true ∧ textM m = s.data.toList ∧ s.size ≤ 4096 := by
  unfold parseM
  by_cases hl : 4096 < s.size
  · rw [if_pos hl]
    exact ⟨fun h => by simp at h, fun h => by omega⟩
  rw [if_neg hl]
  constructor
  · intro h
    cases hp : parseV s with
    | none => rw [hp] at h; simp at h
    | some T =>
      rw [hp] at h
      simp only at h
      split at h
      · rename_i hc
        obtain ⟨h1, h2⟩ := hc
        rw [likeV_iff] at h2
        obtain rfl : readM T = m := (Prod.mk.injEq .. ▸ h).1
        refine ⟨h1, ?_, by omega⟩
        rw [← textL_valM, ← h2]
        exact ((parseV_iff s T).1 hp).2
      · simp at h
  · rintro ⟨h1, h2, -⟩
    have hp : parseV s = some (valM m) := (parseV_iff _ _).2 ⟨mayV_valM m h1, by rw [textL_valM, h2]⟩
    rw [hp]
    simp only
    rw [readM_valM m h1, if_pos ⟨h1, likeV_refl _⟩]

def refParseM (s : ByteArray) : Man × Int :=
  if 4096 < s.size then (noMan, 2) else match parseV s with
    | none => (noMan, 6)
    | some T => if rightM (refM T) = true ∧ textM (refM T) = s.data.toList then (refM T, 0) else (noMan, 8)

theorem refParseM_eq (s : ByteArray) : refParseM s = parseM s := by
  unfold refParseM
  by_cases hl : 4096 < s.size
  · unfold parseM; rw [if_pos hl, if_pos hl]
  rw [if_neg hl]
  cases hp : parseV s with
  | none => unfold parseM; rw [if_neg hl, hp]
  | some T =>
    simp only
    split
    · rename_i hc
      exact ((parseM_iff s _).2 ⟨hc.1, hc.2, by omega⟩).symm
    · rename_i hc
      unfold parseM
      rw [if_neg hl, hp]
      simp only
      rw [if_neg fun h => hc ?_]
      have h2 := (likeV_iff _ _).1 h.2
      have e : refM T = readM T := by
        have := refM_valM (readM T) h.1
        rwa [← h2] at this
      rw [e]
      refine ⟨h.1, ?_⟩
      rw [← textL_valM, ← h2]
      exact ((parseV_iff s T).1 hp).2

theorem commaL_le (B : Nat) : ∀ l : List (List UInt8), (∀ x ∈ l, x.length ≤ B) → (commaL l).length ≤ l.length * (B + 1)
  | [], _ => by rw [commaL]; exact Nat.zero_le _
  | [x], h => by
    have := h x (List.mem_cons_self ..)
    rw [commaL]; simp; omega
  | x :: y :: l, h => by
    have h1 := h x (List.mem_cons_self ..)
    have h2 := commaL_le B (y :: l) fun z hz => h z (List.mem_cons_of_mem _ hz)
    rw [commaL, List.length_append, List.length_cons, List.length_cons, Nat.add_mul]
    omega

theorem quoted_length (s : ByteArray) : (quoted s).length = s.size + 2 := by
  unfold quoted
  rw [List.length_append, List.length_cons, ← Lib.size_eq]
  rfl

theorem textM_le (m : Man) (h : rightM m = true) : (textM m).length ≤ 4096 := by
  cases hi : m.index with
  | true =>
    obtain ⟨-, -, -, h4, h5⟩ := (rightM_index hi).1 h
    have h6 := commaL_le 73 (m.kids.map quoted) fun x hx => by
      obtain ⟨k, hk, rfl⟩ := List.mem_map.1 hx
      rw [quoted_length, isD_size (apartL_isD _ _ h5 k hk)]
      decide
    rw [List.length_map] at h6
    unfold textM
    rw [if_pos hi]
    simp only [List.length_append, List.length_cons, List.length_nil]
    omega
  | false =>
    obtain ⟨h1, h2, h3, -⟩ := (rightM_image hi).1 h
    have h6 := commaL_le 200 (m.layers.map layerText) fun x hx => by
      obtain ⟨l, hl, rfl⟩ := List.mem_map.1 hx
      have hk := h3 l hl
      unfold okLayer at hk
      rw [Bool.and_eq_true, decide_eq_true_eq] at hk
      have hz := Lib.itoa_length_le l.2 (by have := hk.2.1; omega) (by have := hk.2.2; omega)
      unfold layerText
      simp only [List.length_append, List.length_cons, List.length_nil]
      rw [quoted_length, isD_size hk.1]
      omega
    rw [List.length_map] at h6
    unfold textM
    rw [if_neg (by rw [hi]; decide)]
    simp only [List.length_append, List.length_cons, List.length_nil]
    rw [quoted_length, isD_size h1]
    omega

def printM (m : Man) : ByteArray × Int := if rightM m = true then (⟨(textM m).toArray⟩, 0) else (⟨#[]⟩, 1)

def onceL : List ByteArray → List ByteArray → List ByteArray
  | p, [] => p
  | p, x :: l => onceL (if x ∈ p then p else p ++ [x]) l

def blobsM (m : Man) : List ByteArray := if m.index = true ∨ rightM m = false then [] else onceL [m.config] (m.layers.map Prod.fst)

theorem onceL_mem : ∀ (p l : List ByteArray) (x : ByteArray), x ∈ onceL p l ↔ x ∈ p ∨ x ∈ l
  | p, [], x => by rw [onceL]; simp
  | p, a :: l, x => by
    rw [onceL, onceL_mem]
    split
    · rename_i h
      constructor
      · rintro (h1 | h1)
        · exact Or.inl h1
        · exact Or.inr (List.mem_cons_of_mem _ h1)
      · rintro (h1 | h1)
        · exact Or.inl h1
        · rcases List.mem_cons.1 h1 with rfl | h1
          · exact Or.inl h
          · exact Or.inr h1
    · rw [List.mem_append, List.mem_singleton, List.mem_cons, or_assoc]

theorem onceL_nodup : ∀ (p l : List ByteArray), p.Nodup → (onceL p l).Nodup
  | p, [], h => h
  | p, a :: l, h => by
    rw [onceL]
    refine onceL_nodup _ l ?_
    split
    · exact h
    · rename_i hn
      rw [List.nodup_append]
      exact ⟨h, by simp, fun x hx y hy => by rw [List.mem_singleton.1 hy]; exact fun e => hn (e ▸ hx)⟩

theorem onceL_length : ∀ (p l : List ByteArray), (onceL p l).length ≤ p.length + l.length
  | p, [] => by rw [onceL]; simp
  | p, a :: l => by
    rw [onceL]
    have := onceL_length (if a ∈ p then p else p ++ [a]) l
    split at this
    · rw [if_pos (by assumption)]; rw [List.length_cons]; omega
    · rw [if_neg (by assumption)]; rw [List.length_append] at this; simp at this ⊢; omega

theorem onceL_head (x : ByteArray) : ∀ (p l : List ByteArray), ∃ r, onceL (x :: p) l = x :: r
  | p, [] => ⟨p, by rw [onceL]⟩
  | p, a :: l => by
    rw [onceL]
    split
    · exact onceL_head x p l
    · exact onceL_head x (p ++ [a]) l
end Go.Proofs.YtepcaglekgeamaaGreatDoor
namespace Go.Proofs.YtepcaglekgeamaaGreatDoor
open Go.ChangeShapes Go.WideShapes Go.RowKit Go.Deep

def PairsAt (w : World) (v : Value) (l : List (Value × Value)) : Prop :=
  (l = [] ∧ (v = .slice none 0 0 ∨ ∃ a cap, v = .slice (some a) 0 cap ∧ cap ≤ maxLen)) ∨
  ∃ b o cap, v = .slice (some ⟨b, o, none⟩) l.length cap ∧ 0 < l.length ∧ l.length ≤ cap ∧ cap ≤ maxLen ∧ ∀ i (h : i < l.length), w.cell? ⟨b, o + i * 2, none⟩ = some l[i].1 ∧ w.cell? ⟨b, o + i * 2 + 1, none⟩ = some l[i].2

theorem PairsAt.keep {w w' : World} {v : Value} {l : List (Value × Value)} (h : PairsAt w v l) (hb : Below w.heap.size w w') : PairsAt w' v l := by
  rcases h with h | ⟨b, o, cap, h1, h2, h3, h4, h5⟩
  · exact Or.inl h
  · have k : ∀ {p : Addr} {v : Value}, w.cell? p = some v → w'.cell? p = some v := fun hc => (hb.cell (World.block_lt_of_cell? _ _ hc)).trans hc
    exact Or.inr ⟨b, o, cap, h1, h2, h3, h4, fun i hi => ⟨k (h5 i hi).1, k (h5 i hi).2⟩⟩

theorem PairsAt.shape {w : World} {v : Value} {l : List (Value × Value)} (h : PairsAt w v l) : ∃ a cap, v = .slice a l.length cap ∧ cap ≤ maxLen ∧ l.length ≤ maxLen := by
  rcases h with ⟨rfl, rfl | ⟨a, cap, rfl, hc⟩⟩ | ⟨b, o, cap, rfl, h2, h3, h4, -⟩
  · exact ⟨none, 0, rfl, by decide, by decide⟩
  · exact ⟨_, _, rfl, hc, by decide⟩
  · exact ⟨_, _, rfl, h4, by omega⟩

def layerCell (l : ByteArray × Int) : Value × Value := (.string l.1, .int .i64 l.2)

structure ManAt (w : World) (v : Value) (m : Man) : Prop where
  is : ∃ lv kv, v = .agg #[.bool m.index, .string m.config, lv, kv] ∧ PairsAt w lv (m.layers.map layerCell) ∧ StrsAt w kv m.kids
  config : m.config.size ≤ maxLen
  sizes : ∀ l ∈ m.layers, l.1.size ≤ maxLen ∧ -9223372036854775808 ≤ l.2 ∧ l.2 ≤ 9223372036854775807
  kids : ∀ k ∈ m.kids, k.size ≤ maxLen

theorem ManAt.keep {w w' : World} {v : Value} {m : Man} (h : ManAt w v m) (hb : Below w.heap.size w w') : ManAt w' v m := by
  obtain ⟨⟨lv, kv, e, h1, h2⟩, h3, h4, h5⟩ := h
  exact ⟨⟨lv, kv, e, h1.keep hb, h2.keep hb⟩, h3, h4, h5⟩
end Go.Proofs.YtepcaglekgeamaaGreatDoor
namespace Go.Proofs.YtepcaglekgeamaaGreatDoor
open Go.RowKit

structure MLow (w : World) : Prop where
  t : TLow w
  d : ∃ aD aS aZ, Env w aD aS aZ
  tabs : Tabs w

theorem MLow.below {w w' : World} (h : MLow w) (hb : Below w.heap.size w w') : MLow w' := by
  obtain ⟨h1, ⟨aD, aS, aZ, h2⟩, h3⟩ := h
  exact ⟨h1.below hb, ⟨aD, aS, aZ, h2.keep hb⟩, h3.keep h3.many hb⟩

structure MEnv (w : World) : Prop where
  t : TEnv w
  d : ∃ aD aS aZ, Env w aD aS aZ
  tabs : Tabs w

theorem MEnv.lo {w : World} (h : MEnv w) : MLow w := ⟨h.t.toTLow, h.d, h.tabs⟩

theorem MEnv.below {w w' : World} (h : MEnv w) (hb : Below w.heap.size w w') : MEnv w' := by
  obtain ⟨h1, ⟨aD, aS, aZ, h2⟩, h3⟩ := h
  exact ⟨h1.below hb, ⟨aD, aS, aZ, h2.keep hb⟩, h3.keep h3.many hb⟩

set_option maxRecDepth 100000 in
theorem isDigest_t (s : ByteArray) (w : World) (he : MLow w) (hs : s.size < 1099511627776) :
    Calls Tryz.prog 57 #[.string s] w fun e w' => e = .returned (.bool (isD s)) ∧ Below w.heap.size w w' := by
  obtain ⟨aD, aS, aZ, hd⟩ := he.d
  have P := Lib.hid (parse_any aD aS aZ s w hd (by omega))
  obtain ⟨r, k, hp, hk⟩ := parseD_cases s
  rw [hp] at P
  have HO := Lib.hid (show isD s = decide (k = 0) by unfold isD; rw [hp])
  clear he hd hs hp
  rcases hk with ⟨rfl, -⟩ | ⟨rfl, rfl⟩
  all_goals
    go_enter Tryz.func57, Tryz.ntmps57
    go_wp2_with fail
    refine P.out.mono ?_
    rintro e w1 ⟨rfl, hb⟩
    have HB := Lib.hid hb
    clear hb
    go_wp2_with fail
    go_ret
    exact ⟨by rw [HO.out]; rfl, HB.out⟩

set_option maxRecDepth 100000 in
theorem is_t (s : ByteArray) (w : World) :
    Calls Tryz.prog 54 #[.string s] w fun e w' => e = .returned (.bool (isD s)) ∧ Below w.heap.size w w' := by
  have P := Lib.hid (refParse_any s w)
  go_enter Tryz.func54, Tryz.ntmps54
  go_wp2_with fail
  refine P.out.mono ?_
  rintro e w1 ⟨y, b, rfl, hk, hb⟩
  have HB := Lib.hid hb
  have HO := Lib.hid (show isD s = b by
    rcases hk with ⟨rfl, h⟩ | ⟨rfl, h⟩
    · unfold isD; rw [h]; rfl
    · unfold isD; rw [h]; rfl)
  clear hb hk
  go_wp2_with fail
  go_ret
  exact ⟨by rw [HO.out]; rfl, HB.out⟩

theorem mem_take (l : List ByteArray) (s : ByteArray) (k : Nat) (h : k < l.length) (h1 : l[k] = s) : s ∈ l := h1 ▸ List.getElem_mem h

set_option maxRecDepth 100000 in
set_option maxHeartbeats 1000000 in
theorem has_t (v : Value) (l : List ByteArray) (s : ByteArray) (w : World) (h : StrsAt w v l) :
    Calls Tryz.prog 40 #[v, .string s] w fun e w' => e = .returned (.bool (decide (s ∈ l))) ∧ w' = w := by
  have hl := h.len
  unfold maxLen at hl
  rcases h with ⟨rfl, h⟩ | ⟨b, o, cap, rfl, h2, h3, h4, h5⟩
  · obtain ⟨a, c, rfl⟩ : ∃ a c, v = .slice a 0 c := by
      rcases h with rfl | ⟨a, c, rfl, -⟩
      · exact ⟨_, _, rfl⟩
      · exact ⟨_, _, rfl⟩
    go_enter Tryz.func40, Tryz.ntmps40
    go_wp2_with fail
    refine wp_loop_rounds 1 ?_
    rw [rounds_succ]
    go_wp2_with fail
    go_ret
    exact ⟨by simp, rfl⟩
  · have H5 := Lib.hid h5
    clear h5 h4
    go_enter Tryz.func40, Tryz.ntmps40
    go_wp2_with fail
    go_loop [9] (fun i => ∃ k : Nat, k ≤ l.length ∧ i = .int .i64 k ∧ s ∉ l.take k) (fun i => l.length - (intOf i).toNat)
    case atStart => exact ⟨0, Nat.zero_le _, rfl, by simp⟩
    case round =>
      obtain ⟨k, hk, rfl, hall⟩ := hrel
      have HA := Lib.hid hall
      clear hall
      by_cases hlt : k < l.length
      · have hc := H5.out k hlt
        have hts := Lib.hid (List.take_succ_eq_append_getElem hlt)
        have HM := Lib.hid (List.getElem_mem hlt)
        obtain ⟨x, hx⟩ : ∃ x, l[k] = x := ⟨_, rfl⟩
        rw [hx] at hc hts HM
        clear hx
        by_cases hxs : x = s
        · subst hxs
          have q : (x.toList == x.toList) = true := by simp
          have HO := Lib.hid (show decide (x ∈ l) = true from decide_eq_true HM.out)
          go_wp2_with fail
          go_ret
          exact ⟨by rw [HO.out]; rfl, rfl⟩
        · have q : (x.toList == s.toList) = false := by rw [beqB]; exact decide_eq_false hxs
          have HN := Lib.hid (show s ∉ l.take (k + 1) by
            rw [hts.out, List.mem_append, List.mem_singleton]
            rintro (h | h)
            · exact HA.out h
            · exact hxs h.symm)
          clear hxs
          go_wp2_with fail
          go_round
          case rel => exact ⟨k + 1, by omega, by go_num, HN.out⟩
          case measure => simp [intOf]; omega
      · have HO := Lib.hid (show decide (s ∈ l) = false by
          have := HA.out
          rw [List.take_of_length_le (by omega)] at this
          exact decide_eq_false this)
        go_wp2_with fail
        go_ret
        exact ⟨by rw [HO.out]; rfl, rfl⟩

set_option maxRecDepth 100000 in
/-- slices.Contains of words. -/
theorem contains_t (v : Value) (l : List ByteArray) (s : ByteArray) (w : World) (h : StrsAt w v l) :
    Calls Tryz.prog 28 #[v, .string s] w fun e w' => e = .returned (.bool (decide (s ∈ l))) ∧ w' = w := by
  have I := Lib.hid (index_t v l s w h)
  cases hf : firstIdx l s with
  | some k =>
    rw [hf] at I
    obtain ⟨hk, h1, -⟩ := firstIdx_some l s k hf
    have HO := Lib.hid (show decide (s ∈ l) = true from decide_eq_true (mem_take l s k hk h1))
    have hl := h.len
    unfold maxLen at hl
    have q : decide ((0 : Int) ≤ (k : Int)) = true := decide_eq_true (by omega)
    clear h hf h1
    go_enter Tryz.func28, Tryz.ntmps28
    go_wp2_with fail
    refine I.out.mono ?_
    rintro e w1 ⟨rfl, rfl⟩
    go_wp2_with fail
    go_ret
    exact ⟨by rw [HO.out]; simp, rfl⟩
  | none =>
    rw [hf] at I
    have HO := Lib.hid (show decide (s ∈ l) = false from decide_eq_false fun hm => by
      obtain ⟨j, hj, e⟩ := List.getElem_of_mem hm
      exact firstIdx_none l s hf j hj e)
    clear h hf
    go_enter Tryz.func28, Tryz.ntmps28
    go_wp2_with fail
    refine I.out.mono ?_
    rintro e w1 ⟨rfl, rfl⟩
    go_wp2_with fail
    go_ret
    exact ⟨by rw [HO.out]; rfl, rfl⟩
end Go.Proofs.YtepcaglekgeamaaGreatDoor
