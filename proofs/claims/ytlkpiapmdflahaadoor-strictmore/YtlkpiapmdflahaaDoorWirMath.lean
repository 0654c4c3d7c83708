/-
  Messages as bytes, over lists alone: which bytes a message has, that they tell the message, how many they are. (No function of the program is walked here.)
-/
import Derived.Test.YtlkpiapmdflahaaDoorMsgMath
import Derived.Test.YtlkpiapmdflahaaDoorPackCel
import Derived.Test.YtlkpiapmdflahaaDoorPackBmp
namespace Go.Proofs.YtlkpiapmdflahaaDoor

/-- The document's bitmap of a list of fields' numbers. -/
theorem ofL_zero (zs : List Int) : ofL zs = 0 ↔ ∀ n ∈ zs, n ≤ 64 ∨ 128 < n := by
  rw [low_zero (h := ofH zs) (of_lt zs).2]
  constructor
  · intro e n hn
    by_cases h1 : 64 < n ∧ n ≤ 128
    · have := e n h1.1 h1.2
      rw [has_of, decide_eq_false_iff_not] at this
      exact absurd ⟨hn, by omega, by omega⟩ this
    · omega
  · intro e m h1 h2
    rw [has_of, decide_eq_false_iff_not]
    rintro ⟨hm, _⟩
    have := e m hm
    omega
theorem boutL_of (st : Nat) (zs : List Int) : spL st (boutL zs) = bmpL st (ofH zs) (ofL zs) := by
  have e1 := acc_of zs
  have e2 := acc_of (1 :: zs)
  have e4 : ofH (1 :: zs) = ofH zs ||| aH 1 := by
    rw [(of_rev (1 :: zs) (zs ++ [1]) (fun n => by simp [or_comm])).1, (of_snoc zs 1).1]
  have f1 : bytesL (inL zs) 0 8 = halfL (ofH zs) := by rw [bytesL_half]; exact congrArg halfL e1.1
  have f2 : bytesL (inL zs) 64 8 = halfL (ofL zs) := by rw [bytesL_half]; exact congrArg halfL e1.2
  have f3 : bytesL (inL (1 :: zs)) 0 8 = halfL (ofH zs ||| aH 1) := by rw [bytesL_half]; exact congrArg halfL (e2.1.trans e4)
  have ha : anyN (inL zs) 64 = true ↔ ofL zs ≠ 0 := by
    rw [Ne, ofL_zero]
    unfold anyN
    rw [List.any_eq_true]
    constructor
    · rintro ⟨i, hi, h⟩ hz
      rw [List.mem_range] at hi
      have := hz _ (of_decide_eq_true h)
      omega
    · intro hz
      apply Classical.byContradiction
      intro hn
      apply hz
      intro n hm
      apply Classical.byContradiction
      intro h1
      apply hn
      refine ⟨n.toNat - 65, by rw [List.mem_range]; omega, ?_⟩
      unfold inL
      rw [show ((65 + (n.toNat - 65) : Nat) : Int) = n by omega]
      exact decide_eq_true hm
  unfold boutL bmpL
  rw [f1, f2, f3]
  by_cases hl : ofL zs = 0
  · rw [if_pos hl, if_neg (by rw [ha]; exact fun h => h hl)]
  · rw [if_neg hl, if_pos (ha.2 hl), spL_append]
theorem next_64 {h l : Nat} (b : l < M64) : nextN h l 64 = 0 ↔ l = 0 := by
  unfold nextN
  rw [show bH 64 = 0 by decide +kernel, show bL 64 = fullN by decide +kernel, Nat.and_zero, show l &&& fullN = l by rw [show fullN = 2 ^ 64 - 1 from rfl, Nat.and_two_pow_sub_one_eq_mod]; exact Nat.mod_eq_of_lt b]
  rw [if_neg (by simp)]
  by_cases hl : l = 0
  · simp [hl]
  · rw [if_pos hl]
    constructor
    · intro e; omega
    · intro e; exact absurd e hl

/-- Rising numbers are told by which they are. -/
theorem rise_ext : ∀ {l m : List Int} {a : Int}, RiseI a l → RiseI a m → (∀ n, n ∈ l ↔ n ∈ m) → l = m
  | [], [], _, _, _, _ => rfl
  | [], y :: s, _, _, _, h => absurd ((h y).2 (by simp)) (by simp)
  | x :: r, [], _, _, _, h => absurd ((h x).1 (by simp)) (by simp)
  | x :: r, y :: s, a, h1, h2, h => by
    have e : x = y := by
      rcases List.mem_cons.1 ((h x).1 (by simp)) with e | e
      · exact e
      · rcases List.mem_cons.1 ((h y).2 (by simp)) with e' | e'
        · exact e'.symm
        · have := RiseI.above h2.2 x e
          have := RiseI.above h1.2 y e'
          omega
    subst e
    rw [rise_ext h1.2 h2.2 fun n => by
      have := h n
      constructor
      · intro hn
        rcases List.mem_cons.1 (this.1 (by simp [hn])) with e | e
        · have := RiseI.above h1.2 n hn
          omega
        · exact e
      · intro hn
        rcases List.mem_cons.1 (this.2 (by simp [hn])) with e | e
        · have := RiseI.above h2.2 n hn
          omega
        · exact e]
theorem fits_rise {sl : List Sp} : ∀ {l : List Item} {a : Int}, Fits sl a l → RiseI a (tagsOf l)
  | [], _, _ => trivial
  | _ :: _, _, h => ⟨h.1, fits_rise h.2.2⟩
theorem fits_ok {sl : List Sp} : ∀ {l : List Item} {a : Int}, Fits sl a l → ∀ x ∈ l, okV sl x
  | [], _, _, x, hx => by simp at hx
  | y :: r, _, h, x, hx => by
    rcases List.mem_cons.1 hx with rfl | hx
    · exact h.2.1
    · exact fits_ok h.2.2 x hx
theorem fndP_no (no : Int) : ∀ (l : List Sp), (fndP no l).2 = true → (fndP no l).1.1 = no
  | [], h => by cases h
  | x :: r, h => by
    by_cases g : x.1 = no
    · rw [fndP_hit g]; exact g
    · rw [fndP_miss g] at h ⊢
      exact fndP_no no r h
theorem okV_no {sl : List Sp} {x : Item} (h : okV sl x) : 2 ≤ x.1 ∧ x.1 ≤ 128 := by
  have h1 := fndP_no x.1 sl h.1
  have h2 := spk_no (spv_in h.2).1
  omega
theorem okV_size {sl : List Sp} {x : Item} (h : okV sl x) : 1 ≤ x.2.size ∧ x.2.size ≤ 999 := by
  obtain ⟨g1, g2, _⟩ := spv_in h.2
  obtain ⟨_, k1, k2, k3⟩ := spk_in g1
  omega
theorem tags_mem {sl : List Sp} {l : List Item} (h : ∀ x ∈ l, okV sl x) : ∀ n ∈ tagsOf l, 2 ≤ n ∧ n ≤ 128 := by
  intro n hn
  simp only [tagsOf, List.mem_map] at hn
  obtain ⟨x, hx, rfl⟩ := hn
  exact okV_no (h x hx)
theorem tags_one {sl : List Sp} {l : List Item} (h : ∀ x ∈ l, okV sl x) : hasN (ofH (tagsOf l)) (ofL (tagsOf l)) 1 = false ∧ inL (tagsOf l) 1 = false := by
  have h1 : (1 : Int) ∉ tagsOf l := fun hn => by
    have := tags_mem h 1 hn
    omega
  constructor
  · rw [has_of, decide_eq_false_iff_not]
    exact fun e => h1 e.1
  · unfold inL
    rw [decide_eq_false_iff_not]
    exact h1
theorem set_tags {l m : List Int} {a : Int} (hl : RiseI a l) (hm : RiseI a m) (h1 : ∀ n ∈ l, 2 ≤ n ∧ n ≤ 128) (h2 : ∀ n ∈ m, 2 ≤ n ∧ n ≤ 128) (e1 : ofH l = ofH m) (e2 : ofL l = ofL m) : l = m := by
  refine rise_ext hl hm fun n => ?_
  have e := has_of l n
  rw [e1, e2, has_of, decide_eq_decide] at e
  constructor
  · intro hn
    have := h1 n hn
    exact (e.2 ⟨hn, by omega, by omega⟩).1
  · intro hn
    have := h2 n hn
    exact (e.1 ⟨hn, by omega, by omega⟩).1

/-- An MTI's bytes; a field's; all fields'; the bitmap's; a message's. -/
def typL (st : Nat) (m : List UInt8) : List UInt8 := if st = 1 then m else packL m
def cellL (st : Nat) (sl : List Sp) (x : Item) : List UInt8 := cputL st (fndP x.1 sl).1.2.1 (fndP x.1 sl).1.2.2.1 x.2.data.toList
def fldsL (st : Nat) (sl : List Sp) (l : List Item) : List UInt8 := l.flatMap (cellL st sl)
def setL (st : Nat) (l : List Item) : List UInt8 := bmpL st (ofH (tagsOf l)) (ofL (tagsOf l))
def encL (st : Nat) (sl : List Sp) (m : ByteArray) (l : List Item) : List UInt8 := typL st m.data.toList ++ (setL st l ++ fldsL st sl l)
def encS (st v : Int) (sl : List Sp) (m : ByteArray) (l : List Item) : ByteArray := if msgN st v sl m l = (0, 0) then ⟨(encL st.toNat sl m l).toArray⟩ else ⟨#[]⟩
theorem encS_yes {st v : Int} {sl : List Sp} {m : ByteArray} {l : List Item} (h : msgN st v sl m l = (0, 0)) : encS st v sl m l = ⟨(encL st.toNat sl m l).toArray⟩ := if_pos h
theorem encS_no {st v : Int} {sl : List Sp} {m : ByteArray} {l : List Item} (h : msgN st v sl m l ≠ (0, 0)) : encS st v sl m l = ⟨#[]⟩ := if_neg h

theorem valid_style {st v : Int} {sl : List Sp} {m : ByteArray} {l : List Item} (h : msgN st v sl m l = (0, 0)) : ∃ k : Nat, st = (k : Int) ∧ (k = 1 ∨ k = 2) := by
  have h1 := (valid_in h).1
  by_cases g : st ≠ 1 ∧ st ≠ 2
  · rw [schN_style g] at h1; exact absurd h1 (by decide)
  · exact ⟨st.toNat, by omega, by omega⟩
theorem mtiV_mti {m : ByteArray} {v : Int} (h : mtiV m v = true) : mtiB m.data.toList = true := by
  unfold mtiV at h
  simp only [Bool.and_eq_true] at h
  exact h.1
theorem valid_all {st v : Int} {sl : List Sp} {m : ByteArray} {l : List Item} (h : msgN st v sl m l = (0, 0)) : mtiB m.data.toList = true ∧ ∀ x ∈ l, okV sl x :=
  ⟨mtiV_mti (valid_in h).2.1, fits_ok (valid_in h).2.2⟩

theorem typ_len {st : Nat} {m : ByteArray} (h : mtiB m.data.toList = true) : (typL st m.data.toList).length = if st = 1 then 4 else 2 := by
  have hs := mti_size h
  have hl := list_size m
  unfold typL
  split
  · omega
  · rw [packL_length]; omega
theorem typ_inj {st : Nat} {m m' : ByteArray} (h : mtiB m.data.toList = true) (h' : mtiB m'.data.toList = true) (e : typL st m.data.toList = typL st m'.data.toList) : m = m' := by
  have l1 : m.data.toList.length = 4 := by rw [list_size]; exact mti_size h
  have l2 : m'.data.toList.length = 4 := by rw [list_size]; exact mti_size h'
  apply ext_eq
  unfold typL at e
  split at e
  · exact e
  · have a1 := bget_packL (mti_all h) (by omega) []
    have a2 := bget_packL (mti_all h') (by omega) []
    rw [e, l1] at a1
    rw [l2] at a2
    exact congrArg Prod.fst (a1.symm.trans a2)
theorem cell_len {st : Nat} {sl : List Sp} {x : Item} (h : okV sl x) : 0 < (cellL st sl x).length ∧ (cellL st sl x).length ≤ 2001 := by
  have h1 := okV_size h
  have h2 := (spk_more (spv_in h.2).1).1
  have hl := list_size x.2
  have h3 : (cellL st sl x).length ≤ 3 + 2 * x.2.data.toList.length := cputL_length_le h2
  refine ⟨?_, by omega⟩
  unfold cellL cputL
  rw [List.length_append, spellL_length]
  have h4 : 0 < csz (cway st (fndP x.1 sl).1.2.1) x.2.data.toList.length := by
    unfold csz
    split <;> (try split) <;> omega
  omega
theorem flds_step (st : Nat) (sl : List Sp) {l : List Item} {k : Nat} (h : k < l.length) : fldsL st sl (l.take (k + 1)) = fldsL st sl (l.take k) ++ cellL st sl (itemAt l k) := by
  unfold fldsL
  rw [take_succ_item h, List.flatMap_append]
  simp
theorem flds_split (st : Nat) (sl : List Sp) (l : List Item) (k : Nat) : fldsL st sl l = fldsL st sl (l.take k) ++ fldsL st sl (l.drop k) := by
  unfold fldsL
  rw [← List.flatMap_append, List.take_append_drop]
theorem flds_cons (st : Nat) (sl : List Sp) (x : Item) (r : List Item) : fldsL st sl (x :: r) = cellL st sl x ++ fldsL st sl r := by
  unfold fldsL
  rw [List.flatMap_cons]
theorem flds_len {st : Nat} {sl : List Sp} : ∀ {l : List Item}, (∀ x ∈ l, okV sl x) → (fldsL st sl l).length ≤ 2001 * l.length
  | [], _ => by simp [fldsL]
  | x :: r, h => by
    have h1 := (cell_len (st := st) (h x (by simp))).2
    have h2 := flds_len (st := st) (l := r) fun y hy => h y (by simp [hy])
    rw [flds_cons, List.length_append, List.length_cons]
    omega
theorem flds_part (st : Nat) (sl : List Sp) (l : List Item) (k : Nat) : (fldsL st sl (l.take k)).length ≤ (fldsL st sl l).length := by
  rw [flds_split st sl l k, List.length_append]
  omega
theorem wset_len (st : Nat) (l : List Item) : (setL st l).length ≤ 32 := by
  unfold setL
  rw [bmpL_len]
  unfold bwid
  split <;> split <;> omega
theorem enc_len {st : Nat} {sl : List Sp} {m : ByteArray} {l : List Item} (hm : mtiB m.data.toList = true) (h : ∀ x ∈ l, okV sl x) : (encL st sl m l).length ≤ 36 + 2001 * l.length := by
  have h1 := typ_len (st := st) hm
  have h2 := wset_len st l
  have h3 := flds_len (st := st) h
  unfold encL
  rw [List.length_append, List.length_append]
  split at h1 <;> omega

/-- A field's bytes at a place tell its value. -/
theorem cell_at {st : Nat} {sl : List Sp} {x : Item} {s : ByteArray} {a c : List UInt8} (hk : okV sl x) (hs : s.data.toList = a ++ (cellL st sl x ++ c)) :
    cget st (fndP x.1 sl).1.1 (fndP x.1 sl).1.2.1 (fndP x.1 sl).1.2.2.1 (fndP x.1 sl).1.2.2.2.1 (fndP x.1 sl).1.2.2.2.2 s a.length = (x.2, a.length + (cellL st sl x).length, 0) := by
  have e : s = ⟨a.toArray⟩ ++ (⟨(cellL st sl x).toArray⟩ ++ ⟨c.toArray⟩) := ext_eq (by rw [app_list, app_list, mk_list, mk_list, mk_list]; exact hs)
  have b := cget_back (st := st) hk.2
  have b2 := cget_more (st := st) ⟨c.toArray⟩ (by rw [b])
  rw [b] at b2
  have b3 := cget_shift st (fndP x.1 sl).1.1 (fndP x.1 sl).1.2.1 (fndP x.1 sl).1.2.2.1 (fndP x.1 sl).1.2.2.2.1 (fndP x.1 sl).1.2.2.2.2 ⟨a.toArray⟩ (⟨(cellL st sl x).toArray⟩ ++ ⟨c.toArray⟩) 0
  rw [show cellL st sl x = cputL st (fndP x.1 sl).1.2.1 (fndP x.1 sl).1.2.2.1 x.2.data.toList from rfl] at b3 e ⊢
  rw [b2, if_pos rfl, Nat.add_zero] at b3
  rw [e]
  rw [show (⟨a.toArray⟩ : ByteArray).size = a.length from mk_size a] at b3
  exact b3
theorem flds_inj {st : Nat} {sl : List Sp} : ∀ {l l' : List Item} {r : List UInt8}, (∀ x ∈ l, okV sl x) → (∀ x ∈ l', okV sl x) → tagsOf l = tagsOf l' → fldsL st sl l' = fldsL st sl l ++ r → l = l'
  | [], [], _, _, _, _, _ => rfl
  | [], _ :: _, _, _, _, h, _ => by simp [tagsOf] at h
  | _ :: _, [], _, _, _, h, _ => by simp [tagsOf] at h
  | x :: t, x' :: t', r, h1, h2, h, e => by
    simp only [tagsOf, List.map_cons, List.cons.injEq] at h
    rw [flds_cons, flds_cons] at e
    have o1 := h1 x (by simp)
    have o2 := h2 x' (by simp)
    have c1 := cell_at (st := st) (s := ⟨(cellL st sl x' ++ fldsL st sl t').toArray⟩) (a := []) (c := fldsL st sl t ++ r) o1 (by rw [mk_list, e, List.append_assoc]; rfl)
    have c2 := cell_at (st := st) (s := ⟨(cellL st sl x' ++ fldsL st sl t').toArray⟩) (a := []) (c := fldsL st sl t') o2 (by rw [mk_list]; rfl)
    rw [h.1] at c1
    have c3 := congrArg Prod.fst (c1.symm.trans c2)
    obtain ⟨n, s⟩ := x
    obtain ⟨n', s'⟩ := x'
    obtain rfl : n = n' := h.1
    obtain rfl : s = s' := c3
    rw [List.append_assoc] at e
    rw [flds_inj (fun y hy => h1 y (by simp [hy])) (fun y hy => h2 y (by simp [hy])) h.2 (List.append_cancel_left e)]
/-- Of two messages' bytes those of one begin with those of the other only where they are one message. -/
theorem enc_inj {st : Nat} {sl : List Sp} {m m' : ByteArray} {l l' : List Item} {r : List UInt8} (hm : mtiB m.data.toList = true) (hm' : mtiB m'.data.toList = true) (hl : Fits sl 0 l) (hl' : Fits sl 0 l') (h : encL st sl m' l' = encL st sl m l ++ r) : m = m' ∧ l = l' := by
  have o1 := fits_ok hl
  have o2 := fits_ok hl'
  unfold encL at h
  rw [List.append_assoc] at h
  obtain ⟨h1, h2⟩ := List.append_inj h (by rw [typ_len hm, typ_len hm'])
  refine ⟨(typ_inj hm' hm h1).symm, ?_⟩
  rw [List.append_assoc] at h2
  have b1 := of_lt (tagsOf l)
  have b2 := of_lt (tagsOf l')
  have g1 := getN_put (st := st) (s := ⟨(setL st l' ++ fldsL st sl l').toArray⟩) (p := 0) (a := []) (c := fldsL st sl l ++ r) b1.1 b1.2 (tags_one o1).1 (by rw [mk_list, h2]; rfl) rfl
  have g2 := getN_put (st := st) (s := ⟨(setL st l' ++ fldsL st sl l').toArray⟩) (p := 0) (a := []) (c := fldsL st sl l') b2.1 b2.2 (tags_one o2).1 (by rw [mk_list]; rfl) rfl
  obtain ⟨e1, e2, _, _⟩ := Got.mk.inj (g1.symm.trans g2)
  have ht := set_tags (fits_rise hl) (fits_rise hl') (tags_mem o1) (tags_mem o2) e1 e2
  unfold setL at h2
  rw [e1, e2] at h2
  exact flds_inj o1 o2 ht (List.append_cancel_left h2)
theorem enc_part {st : Nat} {sl : List Sp} {m m' : ByteArray} {l l' : List Item} (hm : mtiB m.data.toList = true) (hm' : mtiB m'.data.toList = true) (hl : Fits sl 0 l) (hl' : Fits sl 0 l')
    (h : (encL st sl m l).take (min (encL st sl m l).length (encL st sl m' l').length) = (encL st sl m' l').take (min (encL st sl m l).length (encL st sl m' l').length)) : m = m' ∧ l = l' := by
  rcases Nat.le_total (encL st sl m l).length (encL st sl m' l').length with g | g
  · rw [Nat.min_eq_left g, List.take_length] at h
    exact enc_inj (r := (encL st sl m' l').drop (encL st sl m l).length) hm hm' hl hl' (by
      have e := List.take_append_drop (encL st sl m l).length (encL st sl m' l')
      rw [← h] at e
      exact e.symm)
  · rw [Nat.min_eq_right g, List.take_length] at h
    obtain ⟨e1, e2⟩ := enc_inj (r := (encL st sl m l).drop (encL st sl m' l').length) hm' hm hl' hl (by
      have e := List.take_append_drop (encL st sl m' l').length (encL st sl m l)
      rw [h] at e
      exact e.symm)
    exact ⟨e1.symm, e2.symm⟩

/-- How many bytes a field more makes. -/
def moreN (st : Nat) (no : Int) (r : List Item) : Nat := if 64 < no ∧ ofL (tagsOf r) = 0 then bwid st else 0
theorem ins_tags (x : Item) (r : List Item) (n : Int) : n ∈ tagsOf (insL x r) ↔ n = x.1 ∨ n ∈ tagsOf r := by
  have e : tagsOf r = tagsOf (r.take (plcL x.1 0 r)) ++ tagsOf (r.drop (plcL x.1 0 r)) := by
    unfold tagsOf
    rw [← List.map_append, List.take_append_drop]
  rw [e]
  unfold insL tagsOf
  simp only [List.map_append, List.map_cons, List.mem_append, List.mem_cons]
  constructor
  · rintro (h | h | h)
    · exact .inr (.inl h)
    · exact .inl h
    · exact .inr (.inr h)
  · rintro (h | h | h)
    · exact .inr (.inl h)
    · exact .inl h
    · exact .inr (.inr h)
theorem enc_more {st : Nat} {sl : List Sp} {m : ByteArray} {x : Item} {r : List Item} (hx : okV sl x) : (encL st sl m (insL x r)).length = (encL st sl m r).length + (cellL st sl x).length + moreN st x.1 r := by
  have hn := okV_no hx
  have f1 : (fldsL st sl (insL x r)).length = (fldsL st sl r).length + (cellL st sl x).length := by
    rw [flds_split st sl r (plcL x.1 0 r)]
    unfold insL
    rw [show fldsL st sl (r.take (plcL x.1 0 r) ++ x :: r.drop (plcL x.1 0 r)) = fldsL st sl (r.take (plcL x.1 0 r)) ++ fldsL st sl (x :: r.drop (plcL x.1 0 r)) from by unfold fldsL; rw [List.flatMap_append], flds_cons, List.length_append, List.length_append, List.length_append]
    omega
  have f2 : (setL st (insL x r)).length = (setL st r).length + moreN st x.1 r := by
    unfold setL moreN
    rw [bmpL_len, bmpL_len]
    have hz : ofL (tagsOf (insL x r)) = 0 ↔ x.1 ≤ 64 ∧ ofL (tagsOf r) = 0 := by
      rw [ofL_zero, ofL_zero]
      constructor
      · intro h
        have := h x.1 ((ins_tags x r _).2 (.inl rfl))
        exact ⟨by omega, fun n hn => h n ((ins_tags x r n).2 (.inr hn))⟩
      · rintro ⟨h1, h2⟩ n hm
        rcases (ins_tags x r n).1 hm with rfl | hm
        · exact .inl h1
        · exact h2 n hm
    by_cases h0 : ofL (tagsOf r) = 0
    · by_cases h1 : x.1 ≤ 64
      · rw [if_pos (hz.2 ⟨h1, h0⟩), if_pos h0, if_neg (by omega)]
        omega
      · rw [if_neg (fun e => h1 (hz.1 e).1), if_pos h0, if_pos ⟨by omega, h0⟩]
        omega
    · rw [if_neg (fun e => h0 (hz.1 e).2), if_neg h0, if_neg (fun e => h0 e.2)]
      omega
  unfold encL
  rw [List.length_append, List.length_append, List.length_append, List.length_append, f1, f2]
  omega

end Go.Proofs.YtlkpiapmdflahaaDoor
