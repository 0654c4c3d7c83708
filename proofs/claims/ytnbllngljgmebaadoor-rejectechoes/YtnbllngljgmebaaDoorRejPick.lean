/-
  What is picked of a list by numbers that are wanted, and that it is what is echoed, once it is sorted. (Plain functions.)
-/
import Derived.Test.YtnbllngljgmebaaDoorRejMore
namespace Go.Proofs.YtnbllngljgmebaaDoor

/-- The first of each number that is wanted. -/
def pickL : (Int → Bool) → List Item → List Item
  | _, [] => []
  | p, x :: r => if p x.1 = true then x :: pickL (fun y => decide (y ≠ x.1) && p y) r else pickL p r
theorem pick_hit {p : Int → Bool} {x : Item} {r : List Item} (h : p x.1 = true) : pickL p (x :: r) = x :: pickL (fun y => decide (y ≠ x.1) && p y) r := by
  rw [pickL, if_pos h]
theorem pick_miss {p : Int → Bool} {x : Item} {r : List Item} (h : p x.1 = false) : pickL p (x :: r) = pickL p r := by
  rw [pickL, if_neg (by simp [h])]
theorem pick_len : ∀ (l : List Item) (p : Int → Bool), (pickL p l).length ≤ l.length
  | [], _ => Nat.le_refl _
  | x :: r, p => by
    cases h : p x.1
    · rw [pick_miss h]; have := pick_len r p; simp; omega
    · rw [pick_hit h, List.length_cons, List.length_cons]; exact Nat.succ_le_succ (pick_len r _)
theorem findB_at (x : Item) (r : List Item) (n : Int) : findB (x :: r) n = ((x.1 == n) || findB r n) := by simp [findB]
theorem findS_same (x : Item) (r : List Item) : findS (x :: r) x.1 = x.2 := by simp [findS]
theorem findS_other {x : Item} {n : Int} (r : List Item) (h : x.1 ≠ n) : findS (x :: r) n = findS r n := by
  simp [findS, h]
theorem pick_mem (y : Item) : ∀ (l : List Item) (p : Int → Bool), y ∈ pickL p l ↔ p y.1 = true ∧ findB l y.1 = true ∧ findS l y.1 = y.2
  | [], p => by simp [pickL, findB]
  | x :: r, p => by
    by_cases e : x.1 = y.1
    · have h1 : findB (x :: r) y.1 = true := by rw [findB_at]; simp [e]
      have h2 : findS (x :: r) y.1 = x.2 := by rw [← e]; exact findS_same x r
      rw [h1, h2]
      cases h : p x.1
      · rw [pick_miss h, pick_mem y r p, ← e, h]; simp
      · rw [pick_hit h, List.mem_cons, pick_mem y r, ← e, h]
        simp
        constructor
        · rintro rfl; rfl
        · intro h3; exact Prod.ext e.symm h3.symm
    · have h1 : findB (x :: r) y.1 = findB r y.1 := by rw [findB_at]; simp [e]
      have h2 : findS (x :: r) y.1 = findS r y.1 := findS_other r e
      rw [h1, h2]
      cases h : p x.1
      · rw [pick_miss h]; exact pick_mem y r p
      · rw [pick_hit h, List.mem_cons, pick_mem y r]
        have e2 : y ≠ x := fun h3 => e (by rw [h3])
        have e3 : y.1 ≠ x.1 := fun h3 => e h3.symm
        simp [e2, e3]
theorem pick_apart : ∀ (l : List Item) (p : Int → Bool), (pickL p l).Pairwise fun x y => x.1 ≠ y.1
  | [], _ => List.Pairwise.nil
  | x :: r, p => by
    cases h : p x.1
    · rw [pick_miss h]; exact pick_apart r p
    · rw [pick_hit h]
      refine List.Pairwise.cons (fun y hy => ?_) (pick_apart r _)
      have := ((pick_mem y r _).1 hy).1
      simp at this
      exact fun e => this.1 e.symm

/-- Two rising lists of the same fields are one. -/
def Up (l : List Item) : Prop := l.Pairwise fun x y => x.1 < y.1
theorem up_one : ∀ {a b : List Item}, Up a → Up b → (∀ x, x ∈ a ↔ x ∈ b) → a = b
  | [], [], _, _, _ => rfl
  | [], y :: b, _, _, h => by have := (h y).2 (by simp); cases this
  | x :: a, [], _, _, h => by have := (h x).1 (by simp); cases this
  | x :: a, y :: b, ha, hb, h => by
    have ha' := List.pairwise_cons.1 ha
    have hb' := List.pairwise_cons.1 hb
    have hx := (h x).1 (by simp)
    have hy := (h y).2 (by simp)
    have e : x = y := by
      rcases List.mem_cons.1 hx with e | hx
      · exact e
      · rcases List.mem_cons.1 hy with e | hy
        · exact e.symm
        · have h1 := hb'.1 x hx
          have h2 := ha'.1 y hy
          omega
    subst e
    have : a = b := up_one ha'.2 hb'.2 fun z => by
      constructor
      · intro hz
        rcases List.mem_cons.1 ((h z).1 (List.mem_cons_of_mem _ hz)) with e | h1
        · subst e; have := ha'.1 z hz; omega
        · exact h1
      · intro hz
        rcases List.mem_cons.1 ((h z).2 (List.mem_cons_of_mem _ hz)) with e | h1
        · subst e; have := hb'.1 z hz; omega
        · exact h1
    rw [this]
theorem ins_hit {x y : Item} {r : List Item} (h : x.1 < y.1) : insL x (y :: r) = x :: y :: r := by
  rw [insL, plc_hit h]; rfl
theorem ins_miss {x y : Item} {r : List Item} (h : ¬ x.1 < y.1) : insL x (y :: r) = y :: insL x r := by
  rw [← refW_ins, refW_miss h, refW_ins]
theorem ins_up {x : Item} : ∀ {r : List Item}, Up r → (∀ y ∈ r, y.1 ≠ x.1) → Up (insL x r)
  | [], _, _ => List.pairwise_singleton _ _
  | y :: r, hr, hne => by
    have hr' := List.pairwise_cons.1 hr
    by_cases h : x.1 < y.1
    · rw [ins_hit h]
      refine List.Pairwise.cons (fun z hz => ?_) hr
      rcases List.mem_cons.1 hz with e | hz
      · subst e; exact h
      · have := hr'.1 z hz; omega
    · rw [ins_miss h]
      have hxy := hne y (by simp)
      refine List.Pairwise.cons (fun z hz => ?_) (ins_up hr'.2 fun z hz => hne z (List.mem_cons_of_mem _ hz))
      rcases ins_mem hz with e | hz
      · subst e; omega
      · exact hr'.1 z hz
theorem with_up {no : Int} {t : ByteArray} {l : List Item} (h : Up l) : Up (withL no t l) := by
  unfold withL
  refine ins_up (List.Pairwise.sublist List.filter_sublist h) fun y hy => (out_mem hy).2
theorem echo_up (E : List Int) (l : List Item) : ∀ k, k ≤ E.length → Up (echoL (E.take k) l)
  | 0, _ => by simp [echoL, Up]
  | k + 1, hk => by
    rw [echo_step (by omega)]
    have ih := echo_up E l k (by omega)
    by_cases h : findB l (E.getD k 0) = true
    · rw [if_pos h]; exact with_up ih
    · rw [if_neg h]; exact ih
theorem up_find {y : Item} : ∀ {l : List Item}, Up l → y ∈ l → findB l y.1 = true ∧ findS l y.1 = y.2
  | x :: r, hl, hy => by
    have hl' := List.pairwise_cons.1 hl
    rcases List.mem_cons.1 hy with e | hy
    · subst e
      exact ⟨by rw [findB_at]; simp, findS_same y r⟩
    · have := hl'.1 y hy
      have ih := up_find hl'.2 hy
      exact ⟨by rw [findB_at, ih.1, Bool.or_true], by rw [findS_other r (by omega), ih.2]⟩
theorem echo_mem (E : List Int) (l : List Item) (y : Item) : y ∈ echoL E l ↔ y.1 ∈ E ∧ findB l y.1 = true ∧ findS l y.1 = y.2 := by
  obtain ⟨i1, i2⟩ := echo_find (E := E) l y.1 E.length (Nat.le_refl _)
  rw [List.take_length] at i1 i2
  constructor
  · intro hy
    have hu := echo_up E l E.length (Nat.le_refl _)
    rw [List.take_length] at hu
    obtain ⟨h1, h2⟩ := up_find hu hy
    have h3 := i2 h1
    rw [h1] at i1
    have i1' := i1.symm
    simp at i1'
    exact ⟨i1'.2, i1'.1, by rw [← h3, h2]⟩
  · rintro ⟨h1, h2, h3⟩
    have hb : findB (echoL E l) y.1 = true := by rw [i1, h2, decide_eq_true h1]; rfl
    have hm := find_mem hb
    rw [i2 hb, h3] at hm
    exact hm
/-- What is picked by the numbers that are echoed is, sorted, what is echoed. -/
theorem pick_echo {E : List Int} {l s : List Item} (hp : s.Perm (pickL (fun z => decide (z ∈ E)) l)) (hs : s.Pairwise fun x y => ¬ y.1 < x.1) : s = echoL E l := by
  have hu := echo_up E l E.length (Nat.le_refl _)
  rw [List.take_length] at hu
  have hd : s.Pairwise fun x y => x.1 ≠ y.1 := hp.symm.pairwise (pick_apart l _) (fun h => fun e => h e.symm)
  have hup : Up s := by
    have := hs.and hd
    exact this.imp fun h => by omega
  refine up_one hup hu fun x => ?_
  rw [hp.mem_iff, pick_mem, echo_mem]
  simp

end Go.Proofs.YtnbllngljgmebaaDoor
