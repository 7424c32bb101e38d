/-
  Slices of bytes of one's own, for the laws on Apply. No statement of the seat is proved here.
-/
import Derived.Test.YtiijnghlllapoaaDoorQHand
import Derived.Test.YtiijnghlllapoaaDoorQKn
namespace Go.Proofs.YtiijnghlllapoaaDoor
open Go.RowKit

/-- A slice of one's own that holds these bytes. -/
structure Ow (u : World) (g n : Nat) (l : List Int) : Prop where
  own : ∃ base, u.ownsRow base 5 1 (.slice (some ⟨g, 0, none⟩) n n) n (List.map (Value.int .u8) l)
  byt : Byt l
theorem Ow.len {u : World} {g n : Nat} {l : List Int} (h : Ow u g n l) : l.length = n := by obtain ⟨_, h⟩ := h.own; simpa using h.1
theorem Ow.lt {u : World} {g n : Nat} {l : List Int} (h : Ow u g n l) : g < u.heap.size := by obtain ⟨_, h⟩ := h.own; exact (h.lt g (by simp [Value.ownBlock])).2
theorem Ow.later {u v : World} {g n : Nat} {l : List Int} (h : Ow u g n l) (hb : Below u.heap.size u v) : Ow v g n l := ⟨by obtain ⟨b, h⟩ := h.own; exact ⟨b, owns_later h hb⟩, h.byt⟩
theorem Ow.rd {u : World} {g n : Nat} {l : List Int} (h : Ow u g n l) : Rd u (some ⟨g, 0, none⟩) n n l := by obtain ⟨_, h'⟩ := h.own; exact Rd.owns h.byt h'
theorem Ow.cell {u : World} {g n : Nat} {l : List Int} (h : Ow u g n l) (k : Nat) (hk : k < n) : ∃ v, u.cell? ⟨g, k, none⟩ = some (.int .u8 v) ∧ u.frozen? ⟨g, k, none⟩ = false ∧ l[k]? = some v ∧ 0 ≤ v ∧ v ≤ 255 := by
  obtain ⟨_, h'⟩ := h.own
  obtain ⟨v, h1, h2⟩ := bytes_own h' k hk
  exact ⟨v, h1, World.ownsRow.frozenAt h' k, h2, h.byt v (List.mem_of_getElem? h2)⟩
theorem Ow.set {u : World} {g n : Nat} {l : List Int} (h : Ow u g n l) (k : Nat) {v : Int} (h0 : 0 ≤ v) (h1 : v ≤ 255) : Ow (u.setCell ⟨g, k, none⟩ (.int .u8 v)) g n (l.set k v) := ⟨by
  obtain ⟨b, h'⟩ := h.own
  refine ⟨b, ?_⟩
  rw [List.map_set]
  exact (h'.stored k _).1, byt_set h.byt k h0 h1⟩
theorem Ow.else {u : World} {g n : Nat} {l : List Int} (h : Ow u g n l) (c k : Nat) (hc : g ≠ c) (v : Value) : Ow (u.setCell ⟨c, k, none⟩ v) g n l := ⟨by
  obtain ⟨b, h'⟩ := h.own
  exact ⟨b, h'.kept (w' := u.setCell ⟨c, k, none⟩ v) (row := some c) ⟨rfl, rfl, rfl, by simp, fun i hi hne => Below.heap_setCell _ _ _ _ (fun e => hne (by simp [e]))⟩ (.inr (by simp [Value.ownBlock]; exact fun e => hc e))⟩, h.byt⟩
theorem apply_o (key : List Int) (count : Int) (nonce : List Int) (a : Option Addr) (len cap : Nat) (text : List Int) (hk : Bn 32 key) (hc : W32 count) (hn : Bn 12 nonce) (w : World) (hr : Rd w a len cap text) (hm : len ≤ 140737488351232) :
    Calls Tryd.prog 13 #[(.agg (List.map (Value.int .u8) key).toArray), .int .u32 count, (.agg (List.map (Value.int .u8) nonce).toArray), .slice a len cap] w fun e w' => ∃ g X, e = .returned (.slice (some ⟨g, 0, none⟩) len len) ∧ Hid (X = ap key count nonce text) ∧ Hid (Ow w' g len X) ∧ w.heap.size ≤ g ∧ Below w.heap.size w w' := by
  refine (apply_any key count nonce a len cap text hk hc hn w hr hm).mono ?_
  rintro e w' ⟨g, X, rfl, HX, ho, hb⟩
  exact ⟨g, X, rfl, HX, ⟨⟨_, ho⟩, by rw [HX.out]; exact ap_byt _ _ _ hr.byt⟩, (ho.lt g (by simp [Value.ownBlock])).1, hb⟩
theorem wpAnyH_mono {P : Program} {md : Region.Mode} {ops : Array Oper} {Q : Exit → Act → World → Prop} {S S' : World → Prop} (hS : ∀ u, S' u → S u) :
    ∀ {fuel : Nat} {listed : Array Bool} {a : Act} {w : World}, wpAnyH P md ops Q S' fuel listed a w → wpAnyH P md ops Q S fuel listed a w
  | 0, _, _, _, h => h
  | _ + 1, _, _, _, h => ⟨h.1, fun i hi => wpOp_mono (fun _ _ h' => ⟨hS _ h'.1, wpAnyH_mono hS h'.2⟩) (h.2 i hi)⟩
theorem refxor_g (a : Option Addr) (la ca : Nat) (x : List Int) (b : Option Addr) (lb cb : Nat) (y : List Int) (w : World) (ha : Rd w a la ca x) (hb : Rd w b lb cb y) (ma : la ≤ 140737488351232) (mb : lb ≤ 140737488351232) :
    Calls Tryd.prog 24 #[.slice a la ca, .slice b lb cb] w fun e w' => ∃ a' m c', e = .returned (.slice a' m c') ∧ Rd w' a' m c' (xorL x y) ∧ Below w.heap.size w w' :=
  (refxor_any a la ca x b lb cb y w ha hb ma mb).mono fun _ _ ⟨a', c', h⟩ => ⟨a', _, c', h⟩
theorem str_of {w : World} {a : Option Addr} {len cap : Nat} {l : List Int} (h : Rd w a len cap l) : (convert 31 9 (.slice a len cap)).run Tryd.prog w = .ok (.string (strOfNums l)) w := h.str _ 5 _ Tryd.underlying31 Tryd.underlying5 Tryd.underlying9
/-! ### One byte turned -/
theorem xor8_swap (a b s : Int) (ha : 0 ≤ a ∧ a ≤ 255) (hb : 0 ≤ b ∧ b ≤ 255) (hs : 0 ≤ s ∧ s ≤ 255) : bits .xor .u8 (bits .xor .u8 a b) s = bits .xor .u8 (bits .xor .u8 a s) b := by
  have h1 := xor8 a b ha hb
  have h2 := xor8 a s ha hs
  rw [u8_xor (bits .xor .u8 a b) s (by omega) (by omega) (by omega) (by omega), u8_xor (bits .xor .u8 a s) b (by omega) (by omega) (by omega) (by omega), u8_xor a b (by omega) (by omega) (by omega) (by omega), u8_xor a s (by omega) (by omega) (by omega) (by omega), Int.toNat_natCast, Int.toNat_natCast, Nat.xor_assoc, Nat.xor_assoc, Nat.xor_comm b.toNat]
theorem ap_turn (key : List Int) (c : Int) (nonce : List Int) {t : List Int} (ht : Byt t) (k : Nat) {x y s : Int} (hx : t[k]? = some x) (hs : 0 ≤ s ∧ s ≤ 255) (hy : (ap key c nonce t)[k]? = some y) : ap key c nonce (t.set k (bits .xor .u8 x s)) = (ap key c nonce t).set k (bits .xor .u8 y s) := by
  have hk : k < t.length := (List.getElem?_eq_some_iff.1 hx).1
  have hb := sk_byt key nonce c t.length
  have hsl := sk_len key nonce c t.length
  unfold ap at hy ⊢
  rw [List.length_set]
  generalize sk key nonce c t.length = z at *
  have hkz : k < z.length := by omega
  rw [xorL_at hk hkz] at hy
  apply List.ext_getElem?
  intro i
  by_cases hi : i = k
  · subst hi
    have hx' := ht x (List.mem_of_getElem? hx)
    rw [List.getElem?_set_self (by rw [xorL_length]; omega), xorL_at (by rw [List.length_set]; exact hk) hkz, List.getElem?_set_self hk, Option.getD_some, ← Option.some.inj hy, hx, Option.getD_some]
    rw [xor8_swap x s _ hx' hs (hb.at _)]
  · rw [List.getElem?_set_ne (fun e => hi e.symm)]
    unfold xorL
    rw [List.getElem?_zipWith, List.getElem?_zipWith, List.getElem?_set_ne (fun e => hi e.symm)]
theorem xorL_self : ∀ {a : List Int}, Byt a → xorL a a = List.replicate a.length 0
  | [], _ => rfl
  | x :: a, h => by
    have hx := h x (by simp)
    have e := xorL_self (a := a) (fun y hy => h y (List.mem_cons_of_mem _ hy))
    unfold xorL at e ⊢
    rw [List.zipWith_cons_cons, e, List.length_cons, List.replicate_succ, (xor8 x x hx hx).2.2.2 rfl]
end Go.Proofs.YtiijnghlllapoaaDoor
