/-
  Rules: what is wrong with one, and what it makes of a text. (Plain functions.)
-/
import Derived.Test.YthheflgfbdcnlaaGreatDoorPackSpc
import Derived.Test.YthheflgfbdcnlaaGreatDoorPackSch
import Derived.Test.YthheflgfbdcnlaaGreatDoorPackCod
import Derived.Test.YthheflgfbdcnlaaGreatDoorPackDig
namespace Go.Proofs.YthheflgfbdcnlaaGreatDoor

def noS : ByteArray := ⟨#[]⟩
/-- What is wrong with a spec's value; whether one spec is wider. -/
def rlV (x : Sp) (s : ByteArray) : Int := spv x.1 x.2.1 x.2.2.1 x.2.2.2.1 x.2.2.2.2 s
def rlW (x y : Sp) : Bool := spw x.1 x.2.1 x.2.2.1 x.2.2.2.1 x.2.2.2.2 y.1 y.2.1 y.2.2.1 y.2.2.2.1 y.2.2.2.2
/-- May it be repadded? -/
def rlR (x : Sp) : Bool := (x.2.1 == 1) && (x.2.2.1 == 1)
/-- Of the first pair of which a text isn't a value what is wrong with it. -/
def rlT (x y : Sp) : List PairT → Int
  | [] => 0
  | p :: r => if rlV x p.1 ≠ 0 then rlV x p.1 else if rlV y p.2 ≠ 0 then rlV y p.2 else rlT x y r
theorem rlT_from {x y : Sp} {p : PairT} {r : List PairT} (h : rlV x p.1 ≠ 0) : rlT x y (p :: r) = rlV x p.1 := by rw [rlT, if_pos h]
theorem rlT_to {x y : Sp} {p : PairT} {r : List PairT} (h : rlV x p.1 = 0) (h2 : rlV y p.2 ≠ 0) : rlT x y (p :: r) = rlV y p.2 := by rw [rlT, if_neg (by simp [h]), if_pos h2]
theorem rlT_next {x y : Sp} {p : PairT} {r : List PairT} (h : rlV x p.1 = 0) (h2 : rlV y p.2 = 0) : rlT x y (p :: r) = rlT x y r := by rw [rlT, if_neg (by simp [h]), if_neg (by simp [h2])]
theorem drop_duo {l : List PairT} {k : Nat} (h : k < l.length) : l.drop k = duoAt l k :: l.drop (k + 1) := by rw [duoAt_get h]; exact List.drop_eq_getElem_cons h
theorem rlT_zero {x y : Sp} : ∀ {l : List PairT}, rlT x y l = 0 → ∀ p ∈ l, rlV x p.1 = 0 ∧ rlV y p.2 = 0
  | [], _, p, hp => by simp at hp
  | q :: r, h, p, hp => by
    by_cases h1 : rlV x q.1 = 0
    · by_cases h2 : rlV y q.2 = 0
      · rw [rlT_next h1 h2] at h
        rcases List.mem_cons.1 hp with rfl | hp
        · exact ⟨h1, h2⟩
        · exact rlT_zero h p hp
      · rw [rlT_to h1 h2] at h; exact absurd h h2
    · rw [rlT_from h1] at h; exact absurd h h1

/-- What the Kind asks of the two specs, the text and the pairs. -/
def rlK (k : Int) (x : Sp) (y : Sp) (s : ByteArray) (P : List PairT) : Int :=
  if k = 1 then (if rlW y x then 0 else 6)
  else if k = 2 then 0
  else if k = 3 then rlV y s
  else if k = 4 then (if rlR x && rlR y then 0 else 6)
  else if (tabN P).1 ≠ 0 ∨ P = [] then 15 else rlT x y P
/-- Is there a From, a To, and nothing where nothing stands? -/
def rlA (k f : Int) (a : List Sp) : Bool := if k = 3 then f == 0 else (fndP f a).2
def rlB (k t : Int) (b : List Sp) : Bool := if k = 2 then t == 0 else (fndP t b).2
def rlC (k : Int) (s : ByteArray) (P : List PairT) : Bool := (decide (s = noS) || k == 3) && (decide (P.length = 0) || k == 5)
/-- What is wrong with a rule. -/
def rulN (k f t : Int) (s : ByteArray) (P : List PairT) (a b : List Sp) : Int :=
  if k < 1 ∨ 5 < k then 1 else if rlA k f a = false then 9 else if rlB k t b = false then 9 else if rlC k s P = false then 3 else rlK k (fndP f a).1 (fndP t b).1 s P
theorem rulN_arg {k f t : Int} {s : ByteArray} {P : List PairT} {a b : List Sp} (h : k < 1 ∨ 5 < k) : rulN k f t s P a b = 1 := by unfold rulN; rw [if_pos h]
theorem rulN_from {k f t : Int} {s : ByteArray} {P : List PairT} {a b : List Sp} (h : ¬ (k < 1 ∨ 5 < k)) (h1 : rlA k f a = false) : rulN k f t s P a b = 9 := by unfold rulN; rw [if_neg h, if_pos h1]
theorem rulN_to {k f t : Int} {s : ByteArray} {P : List PairT} {a b : List Sp} (h : ¬ (k < 1 ∨ 5 < k)) (h1 : rlA k f a = true) (h2 : rlB k t b = false) : rulN k f t s P a b = 9 := by unfold rulN; rw [if_neg h, if_neg (by simp [h1]), if_pos h2]
theorem rulN_form {k f t : Int} {s : ByteArray} {P : List PairT} {a b : List Sp} (h : ¬ (k < 1 ∨ 5 < k)) (h1 : rlA k f a = true) (h2 : rlB k t b = true) (h3 : rlC k s P = false) : rulN k f t s P a b = 3 := by unfold rulN; rw [if_neg h, if_neg (by simp [h1]), if_neg (by simp [h2]), if_pos h3]
theorem rulN_kind {k f t : Int} {s : ByteArray} {P : List PairT} {a b : List Sp} (h : ¬ (k < 1 ∨ 5 < k)) (h1 : rlA k f a = true) (h2 : rlB k t b = true) (h3 : rlC k s P = true) : rulN k f t s P a b = rlK k (fndP f a).1 (fndP t b).1 s P := by
  unfold rulN; rw [if_neg h, if_neg (by simp [h1]), if_neg (by simp [h2]), if_neg (by simp [h3])]
theorem rulN_zero {k f t : Int} {s : ByteArray} {P : List PairT} {a b : List Sp} (h : rulN k f t s P a b = 0) : ¬ (k < 1 ∨ 5 < k) ∧ rlA k f a = true ∧ rlB k t b = true ∧ rlC k s P = true ∧ rlK k (fndP f a).1 (fndP t b).1 s P = 0 := by
  by_cases h0 : k < 1 ∨ 5 < k
  · rw [rulN_arg h0] at h; cases h
  · cases h1 : rlA k f a
    · rw [rulN_from h0 h1] at h; cases h
    · cases h2 : rlB k t b
      · rw [rulN_to h0 h1 h2] at h; cases h
      · cases h3 : rlC k s P
        · rw [rulN_form h0 h1 h2 h3] at h; cases h
        · rw [rulN_kind h0 h1 h2 h3] at h
          exact ⟨h0, rfl, rfl, rfl, h⟩

/-- What a rule makes of a text: the number, the text, the error. -/
def rapN (k t : Int) (s : ByteArray) (P : List PairT) (b : List Sp) (u : ByteArray) : Int × ByteArray × Int :=
  if k = 1 then (t, u, 0)
  else if k = 2 then (0, noS, 0)
  else if k = 3 then (t, s, 0)
  else if k = 4 then (if (fndP t b).2 = false then (0, noS, 9) else if padB u.data.toList (fndP t b).1.2.2.2.1 = false then (0, noS, 5) else (t, padS u.data.toList (fndP t b).1.2.2.2.1, 0))
  else if k = 5 then (if appB P u = false then (0, noS, 15) else (t, appS P u, 0))
  else (0, noS, 1)
theorem rap_1 (t : Int) (s : ByteArray) (P : List PairT) (b : List Sp) (u : ByteArray) : rapN 1 t s P b u = (t, u, 0) := rfl
theorem rap_2 (t : Int) (s : ByteArray) (P : List PairT) (b : List Sp) (u : ByteArray) : rapN 2 t s P b u = (0, noS, 0) := rfl
theorem rap_3 (t : Int) (s : ByteArray) (P : List PairT) (b : List Sp) (u : ByteArray) : rapN 3 t s P b u = (t, s, 0) := rfl
theorem rap_4 (t : Int) (s : ByteArray) (P : List PairT) (b : List Sp) (u : ByteArray) : rapN 4 t s P b u = (if (fndP t b).2 = false then (0, noS, 9) else if padB u.data.toList (fndP t b).1.2.2.2.1 = false then (0, noS, 5) else (t, padS u.data.toList (fndP t b).1.2.2.2.1, 0)) := rfl
theorem rap_5 (t : Int) (s : ByteArray) (P : List PairT) (b : List Sp) (u : ByteArray) : rapN 5 t s P b u = (if appB P u = false then (0, noS, 15) else (t, appS P u, 0)) := rfl
theorem rap_else {k : Int} (h : k < 1 ∨ 5 < k) (t : Int) (s : ByteArray) (P : List PairT) (b : List Sp) (u : ByteArray) : rapN k t s P b u = (0, noS, 1) := by
  unfold rapN; rw [if_neg (by omega), if_neg (by omega), if_neg (by omega), if_neg (by omega), if_neg (by omega)]
theorem kind_cases {k : Int} (h : ¬ (k < 1 ∨ 5 < k)) : k = 1 ∨ k = 2 ∨ k = 3 ∨ k = 4 ∨ k = 5 := by omega

/-- More than is played. -/
def rgreatB (s : ByteArray) (P : List PairT) : Bool := decide (1200 < s.size) || decide (300 < P.length) || P.any fun x => decide (1200 < x.1.size) || decide (1200 < x.2.size)
theorem rgreat_text {s : ByteArray} {P : List PairT} (h : 1200 < s.size) : rgreatB s P = true := by simp [rgreatB, h]
theorem rgreat_far {s : ByteArray} {P : List PairT} (h : 300 < P.length) : rgreatB s P = true := by simp [rgreatB, h]
theorem rgreat_hit {s : ByteArray} {P : List PairT} {k : Nat} (hk : k < P.length) (h : 1200 < (duoAt P k).1.size ∨ 1200 < (duoAt P k).2.size) : rgreatB s P = true := by
  have : P.any (fun x => decide (1200 < x.1.size) || decide (1200 < x.2.size)) = true := by
    rw [List.any_eq_true]
    rw [duoAt_get hk] at h
    exact ⟨_, List.getElem_mem hk, by simpa using h⟩
  simp [rgreatB, this]
theorem rgreat_miss {s : ByteArray} {P : List PairT} (hs : s.size ≤ 1200) (hl : P.length ≤ 300) (h : ∀ j, j < P.length → (duoAt P j).1.size ≤ 1200 ∧ (duoAt P j).2.size ≤ 1200) : rgreatB s P = false := by
  have : P.any (fun x => decide (1200 < x.1.size) || decide (1200 < x.2.size)) = false := by
    rw [List.any_eq_false]
    intro x hx
    obtain ⟨k, hk, rfl⟩ := List.getElem_of_mem hx
    have := h k hk
    rw [duoAt_get hk] at this
    simp; omega
  unfold rgreatB
  rw [this, Bool.or_false]
  simp; omega
theorem rgreat_in {s : ByteArray} {P : List PairT} (h : rgreatB s P = false) : s.size ≤ 1200 ∧ P.length ≤ 300 := by
  refine ⟨?_, ?_⟩
  · by_cases hl : 1200 < s.size
    · rw [rgreat_text hl] at h; cases h
    · omega
  · by_cases hl : 300 < P.length
    · rw [rgreat_far hl] at h; cases h
    · omega

end Go.Proofs.YthheflgfbdcnlaaGreatDoor
