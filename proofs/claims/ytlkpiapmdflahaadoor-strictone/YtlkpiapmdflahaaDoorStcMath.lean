/-
  Bytes as messages, over lists alone: which message bytes are, what is wrong, and what was read ahead of it; that what is put is got, and what is got is put; bytes that are cut, and bytes with more behind. (No function of the program is walked here.)
-/
import Derived.Test.YtlkpiapmdflahaaDoorWirMath
namespace Go.Proofs.YtlkpiapmdflahaaDoor

/-- How many bytes an MTI has, by a style; the text that stands there; a field's value at a place. -/
def tsz (st : Nat) : Nat := if st = 2 then 2 else 4
def tgt (st : Nat) (s : ByteArray) : ByteArray := if st = 2 then ⟨(bget (s.data.toList.take 2) 4).1.toArray⟩ else ⟨(s.data.toList.take 4).toArray⟩
def cgetP (st : Nat) (x : Sp) (s : ByteArray) (p : Nat) : ByteArray × Nat × Int := cget st x.1 x.2.1 x.2.2.1 x.2.2.2.1 x.2.2.2.2 s p
/-- The fields from a place on, and what is wrong; all in one. -/
def decF (st : Nat) (sl : List Sp) (s : ByteArray) : List Int → Nat → List Item × (Int × Int)
  | [], p => ([], if p < s.size then (12, 129) else (0, 0))
  | no :: r, p => if (fndP no sl).2 = false then ([], (9, no)) else if (cgetP st (fndP no sl).1 s p).2.2 ≠ 0 then ([], ((cgetP st (fndP no sl).1 s p).2.2, no)) else
    ((no, (cgetP st (fndP no sl).1 s p).1) :: (decF st sl s r (cgetP st (fndP no sl).1 s p).2.1).1, (decF st sl s r (cgetP st (fndP no sl).1 s p).2.1).2)
def decN (st v : Int) (sl : List Sp) (s : ByteArray) : ByteArray × List Item × (Int × Int) :=
  if (schN st v sl).1 ≠ 0 then (⟨#[]⟩, [], (1, -1))
  else if s.size < tsz st.toNat then (⟨#[]⟩, [], (2, 0))
  else if mtiV (tgt st.toNat s) v = false then (⟨#[]⟩, [], (7, 0))
  else if (bmpN st.toNat s (tsz st.toNat)).err ≠ 0 then (tgt st.toNat s, [], (((bmpN st.toNat s (tsz st.toNat)).err : Int), 1))
  else (tgt st.toNat s, decF st.toNat sl s (zi (listN (bmpN st.toNat s (tsz st.toNat)).high (bmpN st.toNat s (tsz st.toNat)).low 128)) (bmpN st.toNat s (tsz st.toNat)).next)

theorem decF_nil (st : Nat) (sl : List Sp) (s : ByteArray) (p : Nat) : decF st sl s [] p = ([], if p < s.size then (12, 129) else (0, 0)) := rfl
theorem decF_none {st : Nat} {sl : List Sp} {s : ByteArray} {no : Int} {r : List Int} {p : Nat} (h : (fndP no sl).2 = false) : decF st sl s (no :: r) p = ([], (9, no)) := by rw [decF, if_pos h]
theorem decF_bad {st : Nat} {sl : List Sp} {s : ByteArray} {no : Int} {r : List Int} {p : Nat} (h : (fndP no sl).2 = true) (h2 : (cgetP st (fndP no sl).1 s p).2.2 ≠ 0) : decF st sl s (no :: r) p = ([], ((cgetP st (fndP no sl).1 s p).2.2, no)) := by rw [decF, if_neg (by simp [h]), if_pos h2]
theorem decF_ok {st : Nat} {sl : List Sp} {s t : ByteArray} {no : Int} {r : List Int} {p q : Nat} (h : (fndP no sl).2 = true) (h2 : cgetP st (fndP no sl).1 s p = (t, q, 0)) : decF st sl s (no :: r) p = ((no, t) :: (decF st sl s r q).1, (decF st sl s r q).2) := by rw [decF, if_neg (by simp [h]), if_neg (by simp [h2]), h2]
theorem decN_arg {st v : Int} {sl : List Sp} {s : ByteArray} (h : (schN st v sl).1 ≠ 0) : decN st v sl s = (⟨#[]⟩, [], (1, -1)) := by rw [decN, if_pos h]
theorem decN_short {k : Nat} {v : Int} {sl : List Sp} {s : ByteArray} (h : (schN (k : Int) v sl).1 = 0) (h2 : s.size < tsz k) : decN (k : Int) v sl s = (⟨#[]⟩, [], (2, 0)) := by rw [decN, if_neg (by simp [h]), Int.toNat_natCast, if_pos h2]
theorem decN_mti {k : Nat} {v : Int} {sl : List Sp} {s : ByteArray} (h : (schN (k : Int) v sl).1 = 0) (h2 : tsz k ≤ s.size) (h3 : mtiV (tgt k s) v = false) : decN (k : Int) v sl s = (⟨#[]⟩, [], (7, 0)) := by rw [decN, if_neg (by simp [h]), Int.toNat_natCast, if_neg (by omega), if_pos h3]
theorem decN_bmp {k : Nat} {v : Int} {sl : List Sp} {s : ByteArray} (h : (schN (k : Int) v sl).1 = 0) (h2 : tsz k ≤ s.size) (h3 : mtiV (tgt k s) v = true) (h4 : (bmpN k s (tsz k)).err ≠ 0) : decN (k : Int) v sl s = (tgt k s, [], (((bmpN k s (tsz k)).err : Int), 1)) := by rw [decN, if_neg (by simp [h]), Int.toNat_natCast, if_neg (by omega), if_neg (by simp [h3]), if_pos h4]
theorem decN_ok {k : Nat} {v : Int} {sl : List Sp} {s : ByteArray} (h : (schN (k : Int) v sl).1 = 0) (h2 : tsz k ≤ s.size) (h3 : mtiV (tgt k s) v = true) (h4 : (bmpN k s (tsz k)).err = 0) :
    decN (k : Int) v sl s = (tgt k s, decF k sl s (zi (listN (bmpN k s (tsz k)).high (bmpN k s (tsz k)).low 128)) (bmpN k s (tsz k)).next) := by rw [decN, if_neg (by simp [h]), Int.toNat_natCast, if_neg (by omega), if_neg (by simp [h3]), if_neg (by simp [h4])]

/-- A set's numbers rise; of rising numbers they are those. -/
theorem rise_range (p : Nat → Bool) : ∀ (n b : Nat) (a : Int), a < (b : Int) → RiseI a (zi ((List.range' b n).filter p))
  | 0, _, _, _ => trivial
  | n + 1, b, a, h => by
    rw [List.range'_succ, List.filter_cons]
    split
    · exact ⟨h, rise_range p n (b + 1) b (by omega)⟩
    · exact rise_range p n (b + 1) a (by omega)
theorem rise_listN (h l m : Nat) : RiseI 0 (zi (listN h l m)) := rise_range _ m 1 0 (by decide)
theorem rise_zero {a : Int} : ∀ {T : List Int}, RiseI a T → (∀ n ∈ T, 2 ≤ n) → RiseI 0 T
  | [], _, _ => trivial
  | x :: r, h, h2 => ⟨by have := h2 x (by simp); omega, h.2⟩
theorem list_tags {T : List Int} {a : Int} (hr : RiseI a T) (h2 : ∀ n ∈ T, 2 ≤ n ∧ n ≤ 128) : zi (listN (ofH T) (ofL T) 128) = T := by
  refine rise_ext (rise_listN _ _ _) (rise_zero hr fun n hn => (h2 n hn).1) fun n => ?_
  rw [mem_list, has_of, decide_eq_true_eq]
  constructor
  · exact fun h => h.1
  · intro h
    have := h2 n h
    exact ⟨h, by omega, by omega⟩

/-- The MTI's bytes tell it. -/
theorem tsz_typ {k : Nat} {m : ByteArray} (hk : k = 1 ∨ k = 2) (hm : mtiB m.data.toList = true) : (typL k m.data.toList).length = tsz k := by
  rw [typ_len hm]
  unfold tsz
  rcases hk with rfl | rfl <;> simp
theorem tgt_back {k : Nat} {m s : ByteArray} {c : List UInt8} (hk : k = 1 ∨ k = 2) (hm : mtiB m.data.toList = true) (hs : s.data.toList = typL k m.data.toList ++ c) : tgt k s = m := by
  have hl := tsz_typ hk hm
  have h4 : m.data.toList.length = 4 := by rw [list_size]; exact mti_size hm
  apply ext_eq
  unfold tgt
  rcases hk with rfl | rfl
  · rw [if_neg (by decide), mk_list, hs, show typL 1 m.data.toList = m.data.toList from rfl, ← h4, List.take_left]
  · rw [if_pos rfl, mk_list, hs]
    have e : (typL 2 m.data.toList ++ c).take 2 = packL m.data.toList ++ [] := by
      have q := List.take_left (l₁ := typL 2 m.data.toList) (l₂ := c)
      rw [show (typL 2 m.data.toList).length = 2 from hl] at q
      rw [q, List.append_nil]
      rfl
    have b := bget_packL (mti_all hm) (by omega) []
    rw [h4] at b
    rw [e]
    exact congrArg Prod.fst b
theorem tgt_one {k : Nat} {s : ByteArray} (hk : k = 1 ∨ k = 2) (hm : mtiB (tgt k s).data.toList = true) (hz : tsz k ≤ s.size) : typL k (tgt k s).data.toList = s.data.toList.take (tsz k) := by
  rcases hk with rfl | rfl
  · unfold tgt typL tsz
    rw [if_pos rfl, if_neg (by decide), if_neg (by decide), mk_list]
  · unfold tgt at hm ⊢
    rw [if_pos rfl] at hm ⊢
    rw [mk_list] at hm ⊢
    have he : (bget (s.data.toList.take 2) 4).2.1 = 0 := by
      apply Classical.byContradiction
      intro hn
      rw [bget_empty hn] at hm
      exact absurd hm (by decide)
    obtain ⟨n, hn, h1, h2, h3, h4⟩ := bget_zero he
    obtain rfl : n = 4 := by omega
    rw [show (4 : Int) = ((4 : Nat) : Int) from rfl, bget_ok h1 h2 h3 h4]
    show packL (bgetL (s.data.toList.take 2) 4) = s.data.toList.take 2
    rw [packL_bgetL h2 h3, List.take_take]
    rfl

/-- What is put is got, with whatever stands behind. -/
theorem decF_back {st : Nat} {sl : List Sp} {s : ByteArray} {c : List UInt8} : ∀ (l : List Item) (a : List UInt8), (∀ x ∈ l, okV sl x) → s.data.toList = a ++ (fldsL st sl l ++ c) → decF st sl s (tagsOf l) a.length = (l, if c = [] then (0, 0) else (12, 129))
  | [], a, _, hs => by
    have hz : s.size = a.length + c.length := by rw [← list_size, hs]; simp [fldsL]
    rw [show tagsOf ([] : List Item) = [] from rfl, decF_nil]
    by_cases hc : c = []
    · subst hc
      rw [if_pos rfl, if_neg (by rw [List.length_nil] at hz; omega)]
    · have := List.length_pos_iff.2 hc
      rw [if_neg hc, if_pos (by omega)]
  | x :: r, a, h, hs => by
    have ho := h x (by simp)
    rw [flds_cons, List.append_assoc] at hs
    have e := cell_at (st := st) ho hs
    have ih := decF_back r (a ++ cellL st sl x) (fun y hy => h y (by simp [hy])) (by rw [hs, List.append_assoc])
    rw [List.length_append] at ih
    rw [show tagsOf (x :: r) = x.1 :: tagsOf r from rfl, decF_ok ho.1 e, ih]
theorem decN_back {k : Nat} {v : Int} {sl : List Sp} {m s : ByteArray} {l : List Item} {c : List UInt8} (hz : msgN (k : Int) v sl m l = (0, 0)) (hk : k = 1 ∨ k = 2) (hs : s.data.toList = encL k sl m l ++ c) :
    decN (k : Int) v sl s = (m, l, if c = [] then (0, 0) else (12, 129)) := by
  obtain ⟨h1, h2, hf⟩ := valid_in hz
  have ho := fits_ok hf
  have hm := mtiV_mti h2
  have hl := tsz_typ hk hm
  unfold encL at hs
  rw [List.append_assoc] at hs
  have ht := tgt_back hk hm hs
  have hsz : tsz k ≤ s.size := by rw [← list_size, hs, List.length_append, hl]; omega
  have b := of_lt (tagsOf l)
  have g := getN_put (st := k) (s := s) (p := tsz k) (a := typL k m.data.toList) (c := fldsL k sl l ++ c) b.1 b.2 (tags_one ho).1 (by rw [hs, List.append_assoc]; rfl) hl.symm
  rw [decN_ok h1 hsz (by rw [ht]; exact h2) (by rw [g]), g, ht]
  show (m, decF k sl s (zi (listN (ofH (tagsOf l)) (ofL (tagsOf l)) 128)) (tsz k + (setL k l).length)) = _
  rw [list_tags (fits_rise hf) (tags_mem ho)]
  have e := decF_back (st := k) (s := s) (c := c) l (typL k m.data.toList ++ setL k l) ho (by rw [hs]; simp only [List.append_assoc])
  rw [List.length_append, hl] at e
  rw [e]

/-- What stands at a place hangs on what stands from there on. -/
theorem rd_shift (st : Nat) (s : ByteArray) (p i : Nat) (hp : p ≤ s.size) : rdE st s (p + i) = rdE st ⟨(s.data.toList.drop p).toArray⟩ i ∧ rdN st s (p + i) = rdN st ⟨(s.data.toList.drop p).toArray⟩ i := by
  have ht : txt st s (p + i) = txt st ⟨(s.data.toList.drop p).toArray⟩ i := by rw [txt_eq, txt_eq, mk_list, List.drop_drop]
  have hz : (⟨(s.data.toList.drop p).toArray⟩ : ByteArray).size = s.size - p := by rw [mk_size, List.length_drop, list_size]
  unfold rdE rdN
  rw [ht]
  refine ⟨?_, rfl⟩
  by_cases h : s.size < p + i + bwid st
  · rw [if_pos h, if_pos (show (⟨(s.data.toList.drop p).toArray⟩ : ByteArray).size < i + bwid st by rw [hz]; omega)]
  · rw [if_neg h, if_neg (show ¬ (⟨(s.data.toList.drop p).toArray⟩ : ByteArray).size < i + bwid st by rw [hz]; omega)]
theorem bmpN_shift (st : Nat) (s : ByteArray) (p : Nat) (hp : p ≤ s.size) :
    (bmpN st s p).err = (bmpN st ⟨(s.data.toList.drop p).toArray⟩ 0).err ∧ (bmpN st s p).high = (bmpN st ⟨(s.data.toList.drop p).toArray⟩ 0).high ∧ (bmpN st s p).low = (bmpN st ⟨(s.data.toList.drop p).toArray⟩ 0).low ∧
      ((bmpN st s p).err = 0 → (bmpN st s p).next = p + (bmpN st ⟨(s.data.toList.drop p).toArray⟩ 0).next) := by
  have e0 := rd_shift st s p 0 hp
  have e1 := rd_shift st s p (bwid st) hp
  rw [Nat.add_zero] at e0
  unfold bmpN
  rw [Nat.zero_add, e0.1, e0.2, e1.1, e1.2]
  generalize rdE st ⟨(s.data.toList.drop p).toArray⟩ 0 = x
  generalize rdN st ⟨(s.data.toList.drop p).toArray⟩ 0 = y
  generalize rdE st ⟨(s.data.toList.drop p).toArray⟩ (bwid st) = z
  generalize rdN st ⟨(s.data.toList.drop p).toArray⟩ (bwid st) = u
  by_cases h1 : x = 0
  · subst h1
    cases h2 : hasN y 0 1
    · simp
    · by_cases h3 : z = 0
      · by_cases h4 : u = 0 <;> simp [h3, h4]
      · simp [h3]
  · simp [h1]
/-- A field's value at a place is put as it stands there. -/
theorem cell_one {st : Nat} {sl : List Sp} {no : Int} {s t : ByteArray} {p q : Nat} (hp : p ≤ s.size) (h1 : (fndP no sl).2 = true) (h : cgetP st (fndP no sl).1 s p = (t, q, 0)) :
    okV sl (no, t) ∧ q ≤ s.size ∧ s.data.toList.drop p = cellL st sl (no, t) ++ s.data.toList.drop q := by
  have hA : (⟨(s.data.toList.take p).toArray⟩ : ByteArray).size = p := by rw [mk_size, List.length_take, list_size]; omega
  have hs : s = ⟨(s.data.toList.take p).toArray⟩ ++ ⟨(s.data.toList.drop p).toArray⟩ := ext_eq (by rw [app_list, mk_list, mk_list, List.take_append_drop])
  have g := cget_shift st (fndP no sl).1.1 (fndP no sl).1.2.1 (fndP no sl).1.2.2.1 (fndP no sl).1.2.2.2.1 (fndP no sl).1.2.2.2.2 ⟨(s.data.toList.take p).toArray⟩ ⟨(s.data.toList.drop p).toArray⟩ 0
  rw [← hs, hA, Nat.add_zero] at g
  unfold cgetP at h
  rw [h] at g
  by_cases e : (cget st (fndP no sl).1.1 (fndP no sl).1.2.1 (fndP no sl).1.2.2.1 (fndP no sl).1.2.2.2.1 (fndP no sl).1.2.2.2.2 ⟨(s.data.toList.drop p).toArray⟩ 0).2.2 = 0
  · rw [if_pos e] at g
    obtain ⟨a, b, t', k1, k2, k3, k4, k5⟩ := cget_zero e
    have hk := (spv_in k4).1
    obtain ⟨g1, g2⟩ := Prod.mk.inj g
    obtain ⟨g3, _⟩ := Prod.mk.inj g2
    rw [k5] at g1 g3
    dsimp only at g1 g3
    subst g1
    obtain ⟨o1, o2, o3⟩ := cget_one hk k5
    rw [mk_size, List.length_drop, list_size] at o2
    rw [mk_list] at o3
    refine ⟨⟨h1, o1⟩, by omega, ?_⟩
    have o4 : cellL st sl (no, t) = (s.data.toList.drop p).take (b + csz (cway st (fndP no sl).1.2.1) a) := o3
    rw [o4, g3, ← List.drop_drop, List.take_append_drop]
  · rw [if_neg e] at g
    rw [← g] at e
    exact absurd rfl e
/-- What was read ahead of a fault; and where there is none, what was read is put as it stood. -/
theorem decF_one {st : Nat} {sl : List Sp} {s : ByteArray} : ∀ (L : List Int) (p : Nat) (last : Int), RiseI last L → (∀ n ∈ L, n ≤ 128) → last ≤ 128 → p ≤ s.size →
    Fits sl last (decF st sl s L p).1 ∧ ((decF st sl s L p).2.1 = 0 → (decF st sl s L p).2 = (0, 0) ∧ tagsOf (decF st sl s L p).1 = L ∧ s.data.toList.drop p = fldsL st sl (decF st sl s L p).1) ∧ ((decF st sl s L p).2.1 ≠ 0 → last < (decF st sl s L p).2.2 ∧ ∀ x ∈ (decF st sl s L p).1, x.1 < (decF st sl s L p).2.2)
  | [], p, last, _, _, hl, hp => by
    rw [decF_nil]
    refine ⟨trivial, ?_, ?_⟩
    · intro h
      by_cases hc : p < s.size
      · rw [if_pos hc] at h; exact absurd h (by decide)
      · rw [if_neg hc]
        refine ⟨rfl, rfl, ?_⟩
        rw [List.drop_eq_nil_of_le (by rw [list_size]; omega)]
        rfl
    · intro h
      by_cases hc : p < s.size
      · rw [if_pos hc]
        exact ⟨by show last < 129; omega, fun x hx => by simp at hx⟩
      · rw [if_neg hc] at h; exact absurd rfl h
  | no :: r, p, last, hr, hb, hl, hp => by
    cases h1 : (fndP no sl).2
    · rw [decF_none h1]
      exact ⟨trivial, fun h => absurd (show (9 : Int) = 0 from h) (by decide), fun _ => ⟨hr.1, fun x hx => by simp at hx⟩⟩
    · by_cases h2 : (cgetP st (fndP no sl).1 s p).2.2 = 0
      · have hc : cgetP st (fndP no sl).1 s p = ((cgetP st (fndP no sl).1 s p).1, (cgetP st (fndP no sl).1 s p).2.1, 0) := by rw [← h2]
        generalize (cgetP st (fndP no sl).1 s p).1 = t at hc
        generalize (cgetP st (fndP no sl).1 s p).2.1 = q at hc
        obtain ⟨c1, c2, c3⟩ := cell_one hp h1 hc
        rw [decF_ok h1 hc]
        obtain ⟨i1, i2, i3⟩ := decF_one r q no hr.2 (fun n hn => hb n (by simp [hn])) (hb no (by simp)) c2
        refine ⟨⟨hr.1, c1, i1⟩, ?_, ?_⟩
        · intro h
          obtain ⟨j1, j2, j3⟩ := i2 h
          refine ⟨j1, ?_, ?_⟩
          · show no :: tagsOf _ = no :: r
            rw [j2]
          · rw [flds_cons, c3, j3]
        · intro h
          obtain ⟨j1, j2⟩ := i3 h
          have := hr.1
          refine ⟨show last < (decF st sl s r q).2.2 by omega, fun x hx => ?_⟩
          rcases List.mem_cons.1 hx with rfl | hx
          · exact j1
          · exact j2 x hx
      · rw [decF_bad h1 h2]
        exact ⟨trivial, fun h => absurd h h2, fun _ => ⟨hr.1, fun x hx => by simp at hx⟩⟩
/-- All in one: no MTI was right, and nothing was read; or what was read is valid. -/
theorem decN_told (st v : Int) (sl : List Sp) (s : ByteArray) :
    ((decN st v sl s).1 = ⟨#[]⟩ ∧ (decN st v sl s).2.1 = [] ∧ (decN st v sl s).2.2.1 ≠ 0 ∧ (decN st v sl s).2.2.2 ≤ 0) ∨
    ((decN st v sl s).1.size = 4 ∧ msgN st v sl (decN st v sl s).1 (decN st v sl s).2.1 = (0, 0) ∧ ((decN st v sl s).2.2.1 = 0 → (decN st v sl s).2.2 = (0, 0) ∧ encS st v sl (decN st v sl s).1 (decN st v sl s).2.1 = s) ∧
      ((decN st v sl s).2.2.1 ≠ 0 → 0 < (decN st v sl s).2.2.2 ∧ ∀ x ∈ (decN st v sl s).2.1, x.1 < (decN st v sl s).2.2.2)) := by
  by_cases h1 : (schN st v sl).1 = 0
  · obtain ⟨k, rfl, hk⟩ : ∃ k : Nat, st = (k : Int) ∧ (k = 1 ∨ k = 2) := by
      by_cases g : st ≠ 1 ∧ st ≠ 2
      · rw [schN_style g] at h1; exact absurd h1 (by decide)
      · exact ⟨st.toNat, by omega, by omega⟩
    by_cases h2 : s.size < tsz k
    · rw [decN_short h1 h2]
      exact .inl ⟨rfl, rfl, by decide, by decide⟩
    · have h2' : tsz k ≤ s.size := by omega
      cases h3 : mtiV (tgt k s) v
      · rw [decN_mti h1 h2' h3]
        exact .inl ⟨rfl, rfl, by decide, by decide⟩
      · have hm := mtiV_mti h3
        by_cases h4 : (bmpN k s (tsz k)).err = 0
        · rw [decN_ok h1 h2' h3 h4]
          obtain ⟨s1, s2, s3, s4⟩ := bmpN_shift k s (tsz k) h2'
          have s5 := s4 h4
          rw [s1] at h4
          obtain ⟨⟨b1, b2, b3⟩, b4, b5⟩ := bmpput_N h4
          rw [← s2] at b1 b3 b5
          rw [← s3] at b2 b3 b5
          rw [mk_size, List.length_drop, list_size] at b4
          rw [mk_list] at b5
          have hn : (bmpN k s (tsz k)).next ≤ s.size := by omega
          generalize (bmpN k s (tsz k)).high = hi at *
          generalize (bmpN k s (tsz k)).low = lo at *
          obtain ⟨i1, i2, i3⟩ := decF_one (st := k) (sl := sl) (s := s) (zi (listN hi lo 128)) (bmpN k s (tsz k)).next 0 (rise_listN _ _ _) (fun n hn => (has_range ((mem_list hi lo n).1 hn)).2) (by decide) hn
          have hv : msgN (k : Int) v sl (tgt k s) (decF k sl s (zi (listN hi lo 128)) (bmpN k s (tsz k)).next).1 = (0, 0) := by rw [msgN_list h1 h3]; exact (msgL_zero sl _ 0).2 i1
          refine .inr ⟨mti_size hm, hv, ?_, i3⟩
          intro h
          obtain ⟨j1, j2, j3⟩ := i2 h
          refine ⟨j1, ?_⟩
          rw [encS_yes hv]
          apply ext_eq
          rw [mk_list, Int.toNat_natCast]
          show encL k sl (tgt k s) (decF k sl s (zi (listN hi lo 128)) (bmpN k s (tsz k)).next).1 = s.data.toList
          unfold encL setL
          have o := of_list b1 b2
          rw [j2, o.1, o.2, ← j3, b5, tgt_one hk hm h2', s5, ← List.drop_drop, List.take_append_drop, List.take_append_drop]
        · rw [decN_bmp h1 h2' h3 h4]
          refine .inr ⟨mti_size hm, by rw [msgN_list h1 h3]; rfl, fun h => ?_, fun _ => ⟨by show (0 : Int) < 1; decide, fun x hx => by simp at hx⟩⟩
          exact absurd (Int.ofNat_eq_zero.1 h) h4
  · rw [decN_arg h1]
    exact .inl ⟨rfl, rfl, by decide, by decide⟩

/-- A field's bytes, cut off. -/
theorem cell_cut {st : Nat} {sl : List Sp} {x : Item} {s : ByteArray} {a : List UInt8} {i : Nat} (hk : okV sl x) (hi : i < (cellL st sl x).length) (hs : s.data.toList = a ++ (cellL st sl x).take i) : (cgetP st (fndP x.1 sl).1 s a.length).2.2 = 2 := by
  obtain ⟨g1, g2, g3, g4⟩ := spv_in hk.2
  obtain ⟨_, k1, k2, k3⟩ := spk_in g1
  have hl := list_size x.2
  have e : s = ⟨a.toArray⟩ ++ ⟨((cellL st sl x).take i).toArray⟩ := ext_eq (by rw [app_list, mk_list, mk_list]; exact hs)
  have b := cget_shift st (fndP x.1 sl).1.1 (fndP x.1 sl).1.2.1 (fndP x.1 sl).1.2.2.1 (fndP x.1 sl).1.2.2.2.1 (fndP x.1 sl).1.2.2.2.2 ⟨a.toArray⟩ ⟨((cellL st sl x).take i).toArray⟩ 0
  rw [← e, mk_size, Nat.add_zero] at b
  have h0 : (cget st (fndP x.1 sl).1.1 (fndP x.1 sl).1.2.1 (fndP x.1 sl).1.2.2.1 (fndP x.1 sl).1.2.2.2.1 (fndP x.1 sl).1.2.2.2.2 ⟨((cellL st sl x).take i).toArray⟩ 0).2.2 = 2 := by
    have hzi : (⟨((cellL st sl x).take i).toArray⟩ : ByteArray).size = i := by rw [mk_size, List.length_take]; omega
    by_cases hf : (fndP x.1 sl).1.2.2.1 = 1
    · have e1 : clen st (fndP x.1 sl).1.2.2.1 (fndP x.1 sl).1.2.2.2.1 (fndP x.1 sl).1.2.2.2.2 (⟨((cellL st sl x).take i).toArray⟩ : ByteArray).data.toList 0 = ((fndP x.1 sl).1.2.2.2.2.toNat, 0, 0) := by rw [hf]; exact clen_fixed _ _ _ _ _
      have e2 : (cellL st sl x).length = csz (cway st (fndP x.1 sl).1.2.1) x.2.size := by unfold cellL cputL; rw [if_pos hf, List.nil_append, spellL_length, hl]
      rw [hf] at g1
      have e3 := spk_fixed g1
      rw [cget_cut e1 (by rw [hzi, show (fndP x.1 sl).1.2.2.2.2.toNat = x.2.size by omega]; omega)]
    · obtain ⟨f1, f2⟩ := spk_most g1 hf x.2.size (by omega)
      have e0 : cellL st sl x = pputL st (fndP x.1 sl).1.2.2.1.toNat x.2.size ++ spellL (cway st (fndP x.1 sl).1.2.1) x.2.data.toList := by unfold cellL cputL; rw [if_neg hf, hl]
      have e1 := pputL_length (st := st) x.2.size f1
      have e2 : (cellL st sl x).length = psz st (fndP x.1 sl).1.2.2.1.toNat + csz (cway st (fndP x.1 sl).1.2.1) x.2.size := by rw [e0, List.length_append, e1, spellL_length, hl]
      by_cases hc : i < psz st (fndP x.1 sl).1.2.2.1.toNat
      · have p1 : pget st (fndP x.1 sl).1.2.2.1.toNat (⟨((cellL st sl x).take i).toArray⟩ : ByteArray).data.toList 0 = (0, 0, 2) := pget_cut (by rw [mk_list, List.length_take]; omega)
        have p2 := clen_err (st := st) (lo := (fndP x.1 sl).1.2.2.2.1) (hi := (fndP x.1 sl).1.2.2.2.2) hf (by rw [p1]; decide)
        rw [p1] at p2
        rw [cget_len p2 (by decide)]
        rfl
      · have p0 : (cellL st sl x).take i = pputL st (fndP x.1 sl).1.2.2.1.toNat x.2.size ++ (spellL (cway st (fndP x.1 sl).1.2.1) x.2.data.toList).take (i - psz st (fndP x.1 sl).1.2.2.1.toNat) := by
          rw [e0, List.take_append, e1, List.take_of_length_le (by omega)]
        have p1 := pget_back (st := st) [] ((spellL (cway st (fndP x.1 sl).1.2.1) x.2.data.toList).take (i - psz st (fndP x.1 sl).1.2.2.1.toNat)) f1 f2
        rw [List.nil_append, List.length_nil, Nat.zero_add, ← p0] at p1
        have p2 : clen st (fndP x.1 sl).1.2.2.1 (fndP x.1 sl).1.2.2.2.1 (fndP x.1 sl).1.2.2.2.2 (⟨((cellL st sl x).take i).toArray⟩ : ByteArray).data.toList 0 = (x.2.size, psz st (fndP x.1 sl).1.2.2.1.toNat, 0) := by
          rw [mk_list, clen_ok hf (by rw [p1]) (by rw [p1]; exact g2), p1]
        rw [cget_cut p2 (by rw [hzi]; omega)]
  rw [if_neg (by rw [h0]; decide)] at b
  unfold cgetP
  rw [b]
  exact h0
theorem decF_cut {st : Nat} {sl : List Sp} {s : ByteArray} {n : Nat} : ∀ (l : List Item) (a : List UInt8), (∀ x ∈ l, okV sl x) → a.length ≤ n → n < a.length + (fldsL st sl l).length → s.data.toList = (a ++ fldsL st sl l).take n → ∃ j, (decF st sl s (tagsOf l) a.length).1 = l.take j ∧ (decF st sl s (tagsOf l) a.length).2.1 = 2
  | [], a, _, h1, h2, _ => by simp [fldsL] at h2; omega
  | x :: r, a, h, h1, h2, hs => by
    have ho := h x (by simp)
    rw [flds_cons, List.length_append] at h2
    rw [flds_cons] at hs
    by_cases hn : n < a.length + (cellL st sl x).length
    · have hs2 : s.data.toList = a ++ (cellL st sl x).take (n - a.length) := by
        rw [hs, List.take_append, List.take_of_length_le h1, List.take_append_of_le_length (by omega)]
      have hc := cell_cut ho (by omega) hs2
      rw [show tagsOf (x :: r) = x.1 :: tagsOf r from rfl, decF_bad ho.1 (by rw [hc]; decide), hc]
      exact ⟨0, rfl, rfl⟩
    · have hs3 : s.data.toList = a ++ (cellL st sl x ++ (fldsL st sl r).take (n - a.length - (cellL st sl x).length)) := by
        rw [hs, List.take_append, List.take_of_length_le h1, List.take_append, List.take_of_length_le (by omega)]
      have e := cell_at (st := st) ho hs3
      obtain ⟨j, i1, i2⟩ := decF_cut (st := st) (n := n) r (a ++ cellL st sl x) (fun y hy => h y (by simp [hy])) (by rw [List.length_append]; omega) (by rw [List.length_append]; omega) (by rw [hs, List.append_assoc])
      rw [List.length_append] at i1 i2
      rw [show tagsOf (x :: r) = x.1 :: tagsOf r from rfl, decF_ok ho.1 e]
      exact ⟨j + 1, by rw [List.take_succ_cons, ← i1], i2⟩
/-- A bitmap, cut off. -/
theorem bmp_cut {st : Nat} {s : ByteArray} {h l i : Nat} {a : List UInt8} (b1 : h < M64) (hi : i < (bmpL st h l).length) (hs : s.data.toList = a ++ (bmpL st h l).take i) : (bmpN st s a.length).err = 2 := by
  have hz : s.size = a.length + i := by rw [← list_size, hs, List.length_append, List.length_take]; omega
  rw [bmpL_len] at hi
  unfold bmpN
  by_cases hc : i < bwid st
  · have e : rdE st s a.length = 2 := by unfold rdE; rw [if_pos (by omega)]
    rw [e, if_pos (by decide)]
  · by_cases hl : l = 0
    · rw [if_pos hl] at hi; omega
    · rw [if_neg hl] at hi
      have bh := or_lt b1 (aH_lt 1)
      have hh := spL_len st (halfL_len (h ||| aH 1))
      have hs1 : s.data.toList = a ++ (spL st (halfL (h ||| aH 1)) ++ (spL st (halfL l)).take (i - bwid st)) := by
        rw [hs]
        unfold bmpL
        rw [if_neg hl, List.take_append, hh, List.take_of_length_le (by omega)]
      obtain ⟨r1, r2⟩ := rd_at bh hs1 rfl
      have e : rdE st s (a.length + bwid st) = 2 := by unfold rdE; rw [if_pos (by omega)]
      rw [r1, if_neg (by decide), r2, if_neg (by rw [high_has]; simp), e, if_pos (by decide)]
/-- A message's bytes, cut off anywhere: what was read is its beginning, and ErrCut is told. -/
theorem decN_cut {k : Nat} {v : Int} {sl : List Sp} {m s : ByteArray} {l : List Item} {n : Nat} (hz : msgN (k : Int) v sl m l = (0, 0)) (hk : k = 1 ∨ k = 2) (hn : n < (encL k sl m l).length) (hs : s.data.toList = (encL k sl m l).take n) :
    ∃ j, (decN (k : Int) v sl s).2.1 = l.take j ∧ (decN (k : Int) v sl s).2.2.1 = 2 := by
  obtain ⟨h1, h2, hf⟩ := valid_in hz
  have ho := fits_ok hf
  have hm := mtiV_mti h2
  have hl := tsz_typ hk hm
  have hsz : s.size = n := by rw [← list_size, hs, List.length_take]; omega
  by_cases c1 : n < tsz k
  · rw [decN_short h1 (by omega)]
    exact ⟨0, rfl, rfl⟩
  · unfold encL at hs hn
    rw [List.length_append, List.length_append, hl] at hn
    have hs1 : s.data.toList = typL k m.data.toList ++ (setL k l ++ fldsL k sl l).take (n - tsz k) := by
      rw [hs, List.take_append, hl, List.take_of_length_le (by omega)]
    have ht := tgt_back hk hm hs1
    have b := of_lt (tagsOf l)
    by_cases c2 : n < tsz k + (setL k l).length
    · have hs2 : s.data.toList = typL k m.data.toList ++ (bmpL k (ofH (tagsOf l)) (ofL (tagsOf l))).take (n - tsz k) := by
        rw [hs1, List.take_append_of_le_length (by omega)]
        rfl
      have e := bmp_cut b.1 (by show n - tsz k < (setL k l).length; omega) hs2
      rw [hl] at e
      rw [decN_bmp h1 (by omega) (by rw [ht]; exact h2) (by rw [e]; decide), e]
      exact ⟨0, rfl, rfl⟩
    · have hs3 : s.data.toList = typL k m.data.toList ++ (bmpL k (ofH (tagsOf l)) (ofL (tagsOf l)) ++ (fldsL k sl l).take (n - tsz k - (setL k l).length)) := by
        rw [hs1, List.take_append, List.take_of_length_le (by omega)]
        rfl
      have g := getN_put (st := k) (s := s) (p := tsz k) b.1 b.2 (tags_one ho).1 hs3 hl.symm
      rw [decN_ok h1 (by omega) (by rw [ht]; exact h2) (by rw [g]), g]
      show ∃ j, (decF k sl s (zi (listN (ofH (tagsOf l)) (ofL (tagsOf l)) 128)) (tsz k + (setL k l).length)).1 = l.take j ∧ (decF k sl s (zi (listN (ofH (tagsOf l)) (ofL (tagsOf l)) 128)) (tsz k + (setL k l).length)).2.1 = 2
      rw [list_tags (fits_rise hf) (tags_mem ho)]
      obtain ⟨j, i1, i2⟩ := decF_cut (st := k) (sl := sl) (s := s) (n := n) l (typL k m.data.toList ++ setL k l) ho (by rw [List.length_append, hl]; omega) (by rw [List.length_append, hl]; omega) (by rw [hs, List.append_assoc])
      rw [List.length_append, hl] at i1 i2
      exact ⟨j, i1, i2⟩

end Go.Proofs.YtlkpiapmdflahaaDoor
