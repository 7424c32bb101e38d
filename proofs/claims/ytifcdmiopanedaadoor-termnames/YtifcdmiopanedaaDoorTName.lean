/-
  Terms and their names, on lists: only terms that are the same have the same name. No statement of the seat is proved here.
-/
import Derived.Lib.ItoaNum
namespace Go.Proofs.YtifcdmiopanedaaDoor

def isDig (c : UInt8) : Bool := decide (48 ≤ c.toNat) && decide (c.toNat ≤ 57)
/-- It does not begin with a digit. -/
def NoDig (r : List UInt8) : Prop := r.takeWhile isDig = []
theorem noDig_nil : NoDig [] := rfl
theorem noDig_cons {c : UInt8} {r : List UInt8} (h : isDig c = false) : NoDig (c :: r) := by unfold NoDig; rw [List.takeWhile_cons, h]; rfl
theorem dig_of {u : Nat} (h : u < 10) : isDig (UInt8.ofNat (48 + u)) = true ∧ (UInt8.ofNat (48 + u)).toNat = 48 + u := by
  have e : (UInt8.ofNat (48 + u)).toNat = 48 + u := by rw [UInt8.toNat_ofNat']; omega
  refine ⟨?_, e⟩
  unfold isDig
  rw [e]
  simp
  omega
theorem decDigits_dig : ∀ (u : Nat), ∀ c ∈ Lib.decDigits u, isDig c = true := by
  intro u
  induction u using Nat.strongRecOn with
  | _ u ih =>
    intro c hc
    by_cases h : u < 10
    · rw [Lib.decDigits, dif_pos h] at hc
      rw [List.mem_singleton.1 hc]
      exact (dig_of h).1
    · rw [Lib.decDigits, dif_neg h] at hc
      rcases List.mem_append.1 hc with hc | hc
      · exact ih (u / 10) (by omega) c hc
      · rw [List.mem_singleton.1 hc]
        exact (dig_of (by omega)).1
def valOf (l : List UInt8) : Nat := l.foldl (fun a c => 10 * a + (c.toNat - 48)) 0
theorem valOf_dec : ∀ (u : Nat), valOf (Lib.decDigits u) = u := by
  intro u
  induction u using Nat.strongRecOn with
  | _ u ih =>
    by_cases h : u < 10
    · rw [Lib.decDigits, dif_pos h]
      show 10 * 0 + ((UInt8.ofNat (48 + u)).toNat - 48) = u
      rw [(dig_of h).2]
      omega
    · rw [Lib.decDigits, dif_neg h]
      unfold valOf
      rw [List.foldl_append]
      show 10 * valOf (Lib.decDigits (u / 10)) + ((UInt8.ofNat (48 + u % 10)).toNat - 48) = u
      rw [ih (u / 10) (by omega), (dig_of (u := u % 10) (by omega)).2]
      omega
theorem dec_cut {a b : Nat} {r s : List UInt8} (hr : NoDig r) (hs : NoDig s) (h : Lib.decDigits a ++ r = Lib.decDigits b ++ s) : a = b ∧ r = s := by
  have h1 := congrArg (List.takeWhile isDig) h
  rw [List.takeWhile_append_of_pos (decDigits_dig a), List.takeWhile_append_of_pos (decDigits_dig b), hr, hs, List.append_nil, List.append_nil] at h1
  have h2 := congrArg valOf h1
  rw [valOf_dec, valOf_dec] at h2
  subst h2
  exact ⟨rfl, List.append_cancel_left h⟩
theorem dec_head (u : Nat) : ∃ c l, Lib.decDigits u = c :: l ∧ isDig c = true := by
  have hl : 0 < (Lib.decDigits u).length := by rw [Lib.decDigits_length]; exact Lib.nDigits_pos u
  match h : Lib.decDigits u with
  | [] => rw [h] at hl; exact absurd hl (by decide)
  | c :: l => exact ⟨c, l, rfl, decDigits_dig u c (by rw [h]; exact List.mem_cons_self)⟩
theorem itoa_cut {n m : Int} {r s : List UInt8} (hr : NoDig r) (hs : NoDig s) (h : Lib.itoa n ++ r = Lib.itoa m ++ s) : n = m ∧ r = s := by
  unfold Lib.itoa at h
  by_cases hn : n < 0
  · by_cases hm : m < 0
    · rw [if_pos hn, if_pos hm, List.cons_append, List.cons_append] at h
      obtain ⟨h1, h2⟩ := dec_cut hr hs (List.cons.inj h).2
      exact ⟨by omega, h2⟩
    · rw [if_pos hn, if_neg hm] at h
      obtain ⟨c, l, e, hc⟩ := dec_head m.toNat
      rw [e, List.cons_append, List.cons_append] at h
      rw [← (List.cons.inj h).1] at hc
      exact absurd hc (by decide)
  · by_cases hm : m < 0
    · rw [if_neg hn, if_pos hm] at h
      obtain ⟨c, l, e, hc⟩ := dec_head n.toNat
      rw [e, List.cons_append, List.cons_append] at h
      rw [(List.cons.inj h).1] at hc
      exact absurd hc (by decide)
    · rw [if_neg hn, if_neg hm] at h
      obtain ⟨h1, h2⟩ := dec_cut hr hs h
      exact ⟨by omega, h2⟩
/-- The names of a chain's key, a digest, a box, of the names of their parts. -/
def shN (a b : Int) : List UInt8 := 115 :: (Lib.itoa a ++ 46 :: Lib.itoa b)
def chN (i : Int) (f w : List UInt8) : List UInt8 := 99 :: (Lib.itoa i ++ 40 :: (f ++ 44 :: (w ++ [41])))
def dgN (f w : List UInt8) : List UInt8 := 104 :: 40 :: (f ++ 44 :: (w ++ [41]))
def bxN (n : Int) (k a t : List UInt8) : List UInt8 := 98 :: (Lib.itoa n ++ 40 :: (k ++ 44 :: (a ++ 44 :: (t ++ [41]))))
/-- A term's name. -/
def IsName (l : List UInt8) : Prop := ∀ P : List UInt8 → Prop, P [63] → P [95] → (∀ n, P (97 :: Lib.itoa n)) → (∀ n, P (112 :: Lib.itoa n)) → (∀ a b, P (shN a b)) →
  (∀ i f w, P f → P w → P (chN i f w)) → (∀ f w, P f → P w → P (dgN f w)) → (∀ n k a t, P k → P a → P t → P (bxN n k a t)) → P l
theorem IsName.none : IsName [63] := fun _ h _ _ _ _ _ _ _ => h
theorem IsName.empty : IsName [95] := fun _ _ h _ _ _ _ _ _ => h
theorem IsName.atom (n : Int) : IsName (97 :: Lib.itoa n) := fun _ _ _ h _ _ _ _ _ => h n
theorem IsName.pub (n : Int) : IsName (112 :: Lib.itoa n) := fun _ _ _ _ h _ _ _ _ => h n
theorem IsName.shared (a b : Int) : IsName (shN a b) := fun _ _ _ _ _ h _ _ _ => h a b
theorem IsName.chain (i : Int) {f w : List UInt8} (hf : IsName f) (hw : IsName w) : IsName (chN i f w) :=
  fun P a b c d e f g h => f i _ _ (hf P a b c d e f g h) (hw P a b c d e f g h)
theorem IsName.digest {f w : List UInt8} (hf : IsName f) (hw : IsName w) : IsName (dgN f w) :=
  fun P a b c d e f g h => g _ _ (hf P a b c d e f g h) (hw P a b c d e f g h)
theorem IsName.box (n : Int) {k x t : List UInt8} (hk : IsName k) (hx : IsName x) (ht : IsName t) : IsName (bxN n k x t) :=
  fun P a b c d e f g h => h n _ _ _ (hk P a b c d e f g h) (hx P a b c d e f g h) (ht P a b c d e f g h)
/-- How a name was made. -/
def Made (l : List UInt8) : Prop := l = [63] ∨ l = [95] ∨ (∃ n, l = 97 :: Lib.itoa n) ∨ (∃ n, l = 112 :: Lib.itoa n) ∨ (∃ a b, l = shN a b) ∨
  (∃ i f w, IsName f ∧ IsName w ∧ l = chN i f w) ∨ (∃ f w, IsName f ∧ IsName w ∧ l = dgN f w) ∨ (∃ n k a t, IsName k ∧ IsName a ∧ IsName t ∧ l = bxN n k a t)
theorem IsName.made {l : List UInt8} (h : IsName l) : Made l := by
  refine (h (fun l => IsName l ∧ Made l) ⟨.none, .inl rfl⟩ ⟨.empty, .inr (.inl rfl)⟩ (fun n => ⟨.atom n, .inr (.inr (.inl ⟨n, rfl⟩))⟩) (fun n => ⟨.pub n, .inr (.inr (.inr (.inl ⟨n, rfl⟩)))⟩)
    (fun a b => ⟨.shared a b, .inr (.inr (.inr (.inr (.inl ⟨a, b, rfl⟩))))⟩) (fun i f w hf hw => ⟨.chain i hf.1 hw.1, .inr (.inr (.inr (.inr (.inr (.inl ⟨i, f, w, hf.1, hw.1, rfl⟩)))))⟩)
    (fun f w hf hw => ⟨.digest hf.1 hw.1, .inr (.inr (.inr (.inr (.inr (.inr (.inl ⟨f, w, hf.1, hw.1, rfl⟩))))))⟩)
    (fun n k a t hk ha ht => ⟨.box n hk.1 ha.1 ht.1, .inr (.inr (.inr (.inr (.inr (.inr (.inr ⟨n, k, a, t, hk.1, ha.1, ht.1, rfl⟩))))))⟩)).2
theorem app_c (a b : List UInt8) (c : UInt8) (r : List UInt8) : (a ++ c :: b) ++ r = a ++ c :: (b ++ r) := by rw [List.append_assoc, List.cons_append]
theorem nd44 {r : List UInt8} : NoDig (44 :: r) := noDig_cons (by decide)
theorem nd41 {r : List UInt8} : NoDig (41 :: r) := noDig_cons (by decide)
theorem nd40 {r : List UInt8} : NoDig (40 :: r) := noDig_cons (by decide)
theorem nd46 {r : List UInt8} : NoDig (46 :: r) := noDig_cons (by decide)
/-- A name is cut off what it stands ahead of in one way alone. -/
def Cut (t : List UInt8) : Prop := ∀ u, IsName u → ∀ r s, NoDig r → NoDig s → t ++ r = u ++ s → t = u ∧ r = s
theorem IsName.cut {t : List UInt8} (h : IsName t) : Cut t := by
  refine h Cut ?_ ?_ ?_ ?_ ?_ ?_ ?_ ?_
  · intro u hu r s hr hs h
    rcases hu.made with rfl | rfl | ⟨m, rfl⟩ | ⟨m, rfl⟩ | ⟨a', b', rfl⟩ | ⟨i', f', w', hf', hw', rfl⟩ | ⟨f', w', hf', hw', rfl⟩ | ⟨n', k', a', t', hk', ha', ht', rfl⟩ <;>
      simp only [shN, chN, dgN, bxN, List.cons_append, List.nil_append, List.cons.injEq, app_c] at h <;> first | exact ⟨rfl, h.2⟩ | exact absurd h.1 (by decide)
  · intro u hu r s hr hs h
    rcases hu.made with rfl | rfl | ⟨m, rfl⟩ | ⟨m, rfl⟩ | ⟨a', b', rfl⟩ | ⟨i', f', w', hf', hw', rfl⟩ | ⟨f', w', hf', hw', rfl⟩ | ⟨n', k', a', t', hk', ha', ht', rfl⟩ <;>
      simp only [shN, chN, dgN, bxN, List.cons_append, List.nil_append, List.cons.injEq, app_c] at h <;> first | exact ⟨rfl, h.2⟩ | exact absurd h.1 (by decide)
  · intro n u hu r s hr hs h
    rcases hu.made with rfl | rfl | ⟨m, rfl⟩ | ⟨m, rfl⟩ | ⟨a', b', rfl⟩ | ⟨i', f', w', hf', hw', rfl⟩ | ⟨f', w', hf', hw', rfl⟩ | ⟨n', k', a', t', hk', ha', ht', rfl⟩ <;>
      simp only [shN, chN, dgN, bxN, List.cons_append, List.nil_append, List.cons.injEq, app_c] at h <;> try exact absurd h.1 (by decide)
    obtain ⟨rfl, h2⟩ := itoa_cut hr hs h.2
    exact ⟨rfl, h2⟩
  · intro n u hu r s hr hs h
    rcases hu.made with rfl | rfl | ⟨m, rfl⟩ | ⟨m, rfl⟩ | ⟨a', b', rfl⟩ | ⟨i', f', w', hf', hw', rfl⟩ | ⟨f', w', hf', hw', rfl⟩ | ⟨n', k', a', t', hk', ha', ht', rfl⟩ <;>
      simp only [shN, chN, dgN, bxN, List.cons_append, List.nil_append, List.cons.injEq, app_c] at h <;> try exact absurd h.1 (by decide)
    obtain ⟨rfl, h2⟩ := itoa_cut hr hs h.2
    exact ⟨rfl, h2⟩
  · intro a b u hu r s hr hs h
    rcases hu.made with rfl | rfl | ⟨m, rfl⟩ | ⟨m, rfl⟩ | ⟨a', b', rfl⟩ | ⟨i', f', w', hf', hw', rfl⟩ | ⟨f', w', hf', hw', rfl⟩ | ⟨n', k', a', t', hk', ha', ht', rfl⟩ <;>
      simp only [shN, chN, dgN, bxN, List.cons_append, List.nil_append, List.cons.injEq, app_c] at h <;> try exact absurd h.1 (by decide)
    obtain ⟨rfl, h2⟩ := itoa_cut nd46 nd46 h.2
    obtain ⟨rfl, h3⟩ := itoa_cut hr hs (List.cons.inj h2).2
    exact ⟨rfl, h3⟩
  · intro i f w ihf ihw u hu r s hr hs h
    rcases hu.made with rfl | rfl | ⟨m, rfl⟩ | ⟨m, rfl⟩ | ⟨a', b', rfl⟩ | ⟨i', f', w', hf', hw', rfl⟩ | ⟨f', w', hf', hw', rfl⟩ | ⟨n', k', a', t', hk', ha', ht', rfl⟩ <;>
      simp only [shN, chN, dgN, bxN, List.cons_append, List.nil_append, List.cons.injEq, app_c] at h <;> try exact absurd h.1 (by decide)
    obtain ⟨rfl, h2⟩ := itoa_cut nd40 nd40 h.2
    obtain ⟨rfl, h3⟩ := ihf _ hf' _ _ nd44 nd44 (List.cons.inj h2).2
    obtain ⟨rfl, h4⟩ := ihw _ hw' _ _ nd41 nd41 (List.cons.inj h3).2
    exact ⟨rfl, (List.cons.inj h4).2⟩
  · intro f w ihf ihw u hu r s hr hs h
    rcases hu.made with rfl | rfl | ⟨m, rfl⟩ | ⟨m, rfl⟩ | ⟨a', b', rfl⟩ | ⟨i', f', w', hf', hw', rfl⟩ | ⟨f', w', hf', hw', rfl⟩ | ⟨n', k', a', t', hk', ha', ht', rfl⟩ <;>
      simp only [shN, chN, dgN, bxN, List.cons_append, List.nil_append, List.cons.injEq, app_c] at h <;> try exact absurd h.1 (by decide)
    obtain ⟨rfl, h3⟩ := ihf _ hf' _ _ nd44 nd44 h.2.2
    obtain ⟨rfl, h4⟩ := ihw _ hw' _ _ nd41 nd41 (List.cons.inj h3).2
    exact ⟨rfl, (List.cons.inj h4).2⟩
  · intro n k a t ihk iha iht u hu r s hr hs h
    rcases hu.made with rfl | rfl | ⟨m, rfl⟩ | ⟨m, rfl⟩ | ⟨a', b', rfl⟩ | ⟨i', f', w', hf', hw', rfl⟩ | ⟨f', w', hf', hw', rfl⟩ | ⟨n', k', a', t', hk', ha', ht', rfl⟩ <;>
      simp only [shN, chN, dgN, bxN, List.cons_append, List.nil_append, List.cons.injEq, app_c] at h <;> try exact absurd h.1 (by decide)
    obtain ⟨rfl, h2⟩ := itoa_cut nd40 nd40 h.2
    obtain ⟨rfl, h3⟩ := ihk _ hk' _ _ nd44 nd44 (List.cons.inj h2).2
    obtain ⟨rfl, h4⟩ := iha _ ha' _ _ nd44 nd44 (List.cons.inj h3).2
    obtain ⟨rfl, h5⟩ := iht _ ht' _ _ nd41 nd41 (List.cons.inj h4).2
    exact ⟨rfl, (List.cons.inj h5).2⟩
/-- What TermApart asks. -/
theorem apart_cd (i : Int) (f w f' w' : List UInt8) : chN i f w ≠ dgN f' w' := fun h => absurd (List.cons.inj h).1 (by decide)
theorem apart_db (n : Int) (f w k a t : List UInt8) : dgN f w ≠ bxN n k a t := fun h => absurd (List.cons.inj h).1 (by decide)
theorem apart_ch (i j : Int) (f w f' w' : List UInt8) (h : i ≠ j) : chN i f w ≠ chN j f' w' := fun e => h (itoa_cut nd40 nd40 (List.cons.inj e).2).1
theorem apart_bx (n m : Int) (k a t k' a' t' : List UInt8) (h : n ≠ m) : bxN n k a t ≠ bxN m k' a' t' := fun e => h (itoa_cut nd40 nd40 (List.cons.inj e).2).1
theorem apart_in_ch (i : Int) (f w : List UInt8) : chN i f w ≠ f := fun h => by
  have := congrArg List.length h
  simp only [chN, List.length_cons, List.length_append, List.length_nil] at this
  omega
theorem apart_in_dg (f w : List UInt8) : dgN f w ≠ w := fun h => by
  have := congrArg List.length h
  simp only [dgN, List.length_cons, List.length_append, List.length_nil] at this
  omega
theorem box_swap (n : Int) {x y : List UInt8} (hx : IsName x) (hy : IsName y) : bxN n x y x = bxN n x x y ↔ x = y := by
  constructor
  · intro h
    have h1 := (itoa_cut nd40 nd40 (List.cons.inj h).2).2
    have h2 := (hx.cut x hx _ _ nd44 nd44 (List.cons.inj h1).2).2
    exact ((hy.cut x hx _ _ nd44 nd44 (List.cons.inj h2).2).1).symm
  · intro h
    rw [h]
theorem digest_swap {x y : List UInt8} (hx : IsName x) (hy : IsName y) : dgN x y = dgN y x ↔ x = y := by
  constructor
  · intro h
    exact (hx.cut y hy _ _ nd44 nd44 (List.cons.inj (List.cons.inj h).2).2).1
  · intro h
    rw [h]
/-- What two secrets make: the lesser number first. -/
def dhN (a b : Int) : List UInt8 := shN (min a b) (max a b)
theorem dhN_comm (a b : Int) : dhN a b = dhN b a := by unfold dhN; rw [Int.min_comm, Int.max_comm]
theorem dhN_same (a b c : Int) : dhN a b = dhN c b ↔ a = c := by
  unfold dhN
  constructor
  · intro h
    obtain ⟨h1, h2⟩ := itoa_cut nd46 nd46 (List.cons.inj h).2
    have h3 := (itoa_cut (n := max a b) (m := max c b) (r := []) (s := []) noDig_nil noDig_nil (by rw [(List.cons.inj h2).2])).1
    omega
  · intro h
    rw [h]
end Go.Proofs.YtifcdmiopanedaaDoor
