/-
  The curve's mathematics: points of a x^2 + y^2 = 1 + d x^2 y^2 over a finite field, a a square, d none: sums are there for all points, and associate; the ladder's two steps, over fractions, are the double and the sum of points. No Go text in it; no statement of the seat is proved here.
-/
namespace Go.Proofs.YtlnbjehimabaiaaGreatDoor.Fc.Ed

/-- A field of p elements, an inverse of each, and the curve's numbers. -/
structure Fld {p : Nat} [NeZero p] (inv : Fin p → Fin p) (a c d : Fin p) : Prop where
  hinv : ∀ x, x ≠ (0 : Fin p) → x * inv x = 1
  inv0 : inv 0 = 0
  two : (2 : Fin p) ≠ 0
  sq : c * c = a
  a0 : a ≠ 0
  non : ∀ s, s * s ≠ d
  ad : a = d + 4

structure Pt (p : Nat) where
  x : Fin p
  y : Fin p
def On {p : Nat} [NeZero p] (a d : Fin p) (P : Pt p) : Prop := a * P.x * P.x + P.y * P.y = 1 + d * P.x * P.x * P.y * P.y
def O (p : Nat) [NeZero p] : Pt p := ⟨0, 1⟩
def neg {p : Nat} [NeZero p] (P : Pt p) : Pt p := ⟨-P.x, P.y⟩
def add {p : Nat} [NeZero p] (inv : Fin p → Fin p) (a d : Fin p) (P Q : Pt p) : Pt p :=
  ⟨(P.x * Q.y + P.y * Q.x) * inv (1 + d * P.x * Q.x * P.y * Q.y), (P.y * Q.y - a * P.x * Q.x) * inv (1 - d * P.x * Q.x * P.y * Q.y)⟩
set_option maxRecDepth 8000 in
theorem pt_ext {p : Nat} {P Q : Pt p} (hx : P.x = Q.x) (hy : P.y = Q.y) : P = Q := by
  cases P
  cases Q
  simp only at hx hy
  rw [hx, hy]

set_option maxRecDepth 8000 in
theorem Fld.mul0 {p : Nat} [NeZero p] {inv : Fin p → Fin p} {a c d : Fin p} (h : Fld inv a c d) {x y : Fin p} (e : x * y = 0) : x = 0 ∨ y = 0 := by
  by_cases hx : x = 0
  · exact .inl hx
  · have := h.hinv x hx
    right
    grobner
set_option maxRecDepth 8000 in
theorem Fld.mul_ne {p : Nat} [NeZero p] {inv : Fin p → Fin p} {a c d : Fin p} (h : Fld inv a c d) {x y : Fin p} (hx : x ≠ 0) (hy : y ≠ 0) : x * y ≠ 0 := fun e => (h.mul0 e).elim hx hy
set_option maxRecDepth 8000 in
theorem Fld.canc {p : Nat} [NeZero p] {inv : Fin p → Fin p} {a c d : Fin p} (h : Fld inv a c d) {k x y : Fin p} (hk : k ≠ 0) (e : x * k = y * k) : x = y := by
  have := h.hinv k hk
  grobner
set_option maxRecDepth 8000 in
theorem Fld.four {p : Nat} [NeZero p] {inv : Fin p → Fin p} {a c d : Fin p} (h : Fld inv a c d) : (4 : Fin p) ≠ 0 := fun e => by
  have h4 : (2 : Fin p) * 2 = 0 := by grobner
  exact (h.mul0 h4).elim h.two h.two
set_option maxRecDepth 8000 in
theorem sqm {p : Nat} [NeZero p] {inv : Fin p → Fin p} {a c d : Fin p} (h : Fld inv a c d) {s t : Fin p} (e : s * s = d * t * t) : t = 0 := by
  by_cases ht : t = 0
  · exact ht
  · have i := h.hinv t ht
    have n := h.non (s * inv t)
    exfalso
    apply n
    grobner
set_option maxRecDepth 8000 in
theorem complete {p : Nat} [NeZero p] {inv : Fin p → Fin p} {a c d : Fin p} (h : Fld inv a c d) {x1 y1 x2 y2 : Fin p} (h1 : a * x1 * x1 + y1 * y1 = 1 + d * x1 * x1 * y1 * y1) (h2 : a * x2 * x2 + y2 * y2 = 1 + d * x2 * x2 * y2 * y2) (e : Fin p) (he : e * e = 1) : d * x1 * x2 * y1 * y2 ≠ e := by
  intro ht
  have hs := h.sq
  have k1 : (c * x1 + e * y1) * (c * x1 + e * y1) = d * (x1 * y1 * (c * x2 + y2)) * (x1 * y1 * (c * x2 + y2)) := by grobner
  have k2 : (c * x1 - e * y1) * (c * x1 - e * y1) = d * (x1 * y1 * (c * x2 - y2)) * (x1 * y1 * (c * x2 - y2)) := by grobner
  have z1 := sqm h k1
  have z2 := sqm h k2
  have z3 : 2 * (x1 * y1 * y2) = 0 := by grobner
  rcases h.mul0 z3 with z | z
  · exact h.two z
  · have h0 : e = 0 := by grobner
    have := h.two
    grobner
set_option maxRecDepth 8000 in
theorem kx {p : Nat} [NeZero p] {inv : Fin p → Fin p} {a c d : Fin p} (h : Fld inv a c d) {P Q : Pt p} (h1 : On a d P) (h2 : On a d Q) : 1 + d * P.x * Q.x * P.y * Q.y ≠ 0 := fun e =>
  complete h h1 h2 (-1) (by grobner) (by grobner)
set_option maxRecDepth 8000 in
theorem ky {p : Nat} [NeZero p] {inv : Fin p → Fin p} {a c d : Fin p} (h : Fld inv a c d) {P Q : Pt p} (h1 : On a d P) (h2 : On a d Q) : 1 - d * P.x * Q.x * P.y * Q.y ≠ 0 := fun e =>
  complete h h1 h2 1 (by grobner) (by grobner)
set_option maxRecDepth 8000 in
theorem add_x {p : Nat} [NeZero p] {inv : Fin p → Fin p} {a c d : Fin p} (h : Fld inv a c d) {P Q : Pt p} (h1 : On a d P) (h2 : On a d Q) : (add inv a d P Q).x * (1 + d * P.x * Q.x * P.y * Q.y) = P.x * Q.y + P.y * Q.x := by
  have := h.hinv _ (kx h h1 h2)
  show (P.x * Q.y + P.y * Q.x) * inv (1 + d * P.x * Q.x * P.y * Q.y) * (1 + d * P.x * Q.x * P.y * Q.y) = _
  generalize inv (1 + d * P.x * Q.x * P.y * Q.y) = i at *
  grobner
set_option maxRecDepth 8000 in
theorem add_y {p : Nat} [NeZero p] {inv : Fin p → Fin p} {a c d : Fin p} (h : Fld inv a c d) {P Q : Pt p} (h1 : On a d P) (h2 : On a d Q) : (add inv a d P Q).y * (1 - d * P.x * Q.x * P.y * Q.y) = P.y * Q.y - a * P.x * Q.x := by
  have := h.hinv _ (ky h h1 h2)
  show (P.y * Q.y - a * P.x * Q.x) * inv (1 - d * P.x * Q.x * P.y * Q.y) * (1 - d * P.x * Q.x * P.y * Q.y) = _
  generalize inv (1 - d * P.x * Q.x * P.y * Q.y) = i at *
  grobner
set_option maxRecDepth 8000 in
theorem on_cert {p : Nat} [NeZero p] {a d x1 y1 x2 y2 : Fin p} (h1 : a * x1 * x1 + y1 * y1 - 1 - d * x1 * x1 * y1 * y1 = 0) (h2 : a * x2 * x2 + y2 * y2 - 1 - d * x2 * x2 * y2 * y2 = 0) :
    a * ((x1 * y2 + y1 * x2) * (x1 * y2 + y1 * x2)) * ((1 - d * x1 * x2 * y1 * y2) * (1 - d * x1 * x2 * y1 * y2)) + (y1 * y2 - a * x1 * x2) * (y1 * y2 - a * x1 * x2) * ((1 + d * x1 * x2 * y1 * y2) * (1 + d * x1 * x2 * y1 * y2))
      - (1 + d * x1 * x2 * y1 * y2) * (1 + d * x1 * x2 * y1 * y2) * ((1 - d * x1 * x2 * y1 * y2) * (1 - d * x1 * x2 * y1 * y2)) - d * ((x1 * y2 + y1 * x2) * (x1 * y2 + y1 * x2)) * ((y1 * y2 - a * x1 * x2) * (y1 * y2 - a * x1 * x2)) = 0 := by
  have key : a * ((x1 * y2 + y1 * x2) * (x1 * y2 + y1 * x2)) * ((1 - d * x1 * x2 * y1 * y2) * (1 - d * x1 * x2 * y1 * y2)) + (y1 * y2 - a * x1 * x2) * (y1 * y2 - a * x1 * x2) * ((1 + d * x1 * x2 * y1 * y2) * (1 + d * x1 * x2 * y1 * y2))
      - (1 + d * x1 * x2 * y1 * y2) * (1 + d * x1 * x2 * y1 * y2) * ((1 - d * x1 * x2 * y1 * y2) * (1 - d * x1 * x2 * y1 * y2)) - d * ((x1 * y2 + y1 * x2) * (x1 * y2 + y1 * x2)) * ((y1 * y2 - a * x1 * x2) * (y1 * y2 - a * x1 * x2))
      = (x1 * x1 * y1 * y1 * x2 * x2 * x2 * x2 * y2 * y2 * y2 * y2 * d * d * d + x1 * x1 * x2 * x2 * x2 * x2 * y2 * y2 * y2 * y2 * a * d * d - x1 * x1 * x2 * x2 * x2 * x2 * y2 * y2 * a * a * d - x1 * x1 * x2 * x2 * y2 * y2 * y2 * y2 * a * d + y1 * y1 * x2 * x2 * x2 * x2 * y2 * y2 * y2 * y2 * d * d - y1 * y1 * x2 * x2 * x2 * x2 * y2 * y2 * a * d - y1 * y1 * x2 * x2 * y2 * y2 * y2 * y2 * d + 2 * x2 * x2 * x2 * x2 * y2 * y2 * y2 * y2 * a * d - x2 * x2 * x2 * x2 * y2 * y2 * y2 * y2 * d * d - 2 * x2 * x2 * x2 * x2 * y2 * y2 * a * a + x2 * x2 * x2 * x2 * a * a - 2 * x2 * x2 * y2 * y2 * y2 * y2 * a + 4 * x2 * x2 * y2 * y2 * a - 2 * x2 * x2 * y2 * y2 * d + y2 * y2 * y2 * y2) * (a * x1 * x1 + y1 * y1 - 1 - d * x1 * x1 * y1 * y1) + (x1 * x1 * x1 * x1 * x2 * x2 * y2 * y2 * a * a * d + 2 * x1 * x1 * x2 * x2 * y2 * y2 * a * a - 2 * x1 * x1 * x2 * x2 * y2 * y2 * a * d - x1 * x1 * x2 * x2 * a * a - x1 * x1 * y2 * y2 * a + y1 * y1 * y1 * y1 * x2 * x2 * y2 * y2 * d + 2 * y1 * y1 * x2 * x2 * y2 * y2 * a - 2 * y1 * y1 * x2 * x2 * y2 * y2 * d - y1 * y1 * x2 * x2 * a - y1 * y1 * y2 * y2 - 2 * x2 * x2 * y2 * y2 * a + x2 * x2 * y2 * y2 * d + x2 * x2 * a + y2 * y2 + 1) * (a * x2 * x2 + y2 * y2 - 1 - d * x2 * x2 * y2 * y2) := by
    clear h1 h2
    grobner
  rw [key, h1, h2, Fin.mul_zero, Fin.mul_zero, Fin.add_zero]
set_option maxRecDepth 8000 in
theorem On.z {p : Nat} [NeZero p] {a d : Fin p} {P : Pt p} (h : On a d P) : a * P.x * P.x + P.y * P.y - 1 - d * P.x * P.x * P.y * P.y = 0 := by
  unfold On at h
  grobner
set_option maxRecDepth 8000 in
theorem add_on {p : Nat} [NeZero p] {inv : Fin p → Fin p} {a c d : Fin p} (h : Fld inv a c d) {P Q : Pt p} (h1 : On a d P) (h2 : On a d Q) : On a d (add inv a d P Q) := by
  have ex := add_x h h1 h2
  have ey := add_y h h1 h2
  have n1 := kx h h1 h2
  have n2 := ky h h1 h2
  have ce := on_cert h1.z h2.z
  unfold On
  generalize (add inv a d P Q).x = x3 at *
  generalize (add inv a d P Q).y = y3 at *
  generalize P.x * Q.y + P.y * Q.x = A at *
  generalize P.y * Q.y - a * P.x * Q.x = B at *
  generalize 1 + d * P.x * Q.x * P.y * Q.y = K at *
  generalize 1 - d * P.x * Q.x * P.y * Q.y = L at *
  refine h.canc (h.mul_ne (h.mul_ne n1 n1) (h.mul_ne n2 n2)) ?_
  clear h1 h2 n1 n2
  subst ex ey
  grobner
set_option maxRecDepth 8000 in
theorem o_on {p : Nat} [NeZero p] (a d : Fin p) : On a d (O p) := by
  unfold On O
  grobner
set_option maxRecDepth 8000 in
theorem neg_on {p : Nat} [NeZero p] {a d : Fin p} {P : Pt p} (h : On a d P) : On a d (neg P) := by
  unfold On neg at *
  grobner
set_option maxRecDepth 8000 in
theorem add_comm {p : Nat} [NeZero p] {inv : Fin p → Fin p} {a c d : Fin p} (h : Fld inv a c d) {P Q : Pt p} (h1 : On a d P) (h2 : On a d Q) : add inv a d P Q = add inv a d Q P := by
  apply pt_ext
  · have e1 := add_x h h1 h2
    have e2 := add_x h h2 h1
    refine h.canc (kx h h1 h2) ?_
    grobner
  · have e1 := add_y h h1 h2
    have e2 := add_y h h2 h1
    refine h.canc (ky h h1 h2) ?_
    grobner
set_option maxRecDepth 8000 in
theorem add_o {p : Nat} [NeZero p] {inv : Fin p → Fin p} {a c d : Fin p} (h : Fld inv a c d) {P : Pt p} (h1 : On a d P) : add inv a d P (O p) = P := by
  have e1 := add_x h h1 (o_on a d)
  have e2 := add_y h h1 (o_on a d)
  apply pt_ext
  · simp only [O] at *
    grobner
  · simp only [O] at *
    grobner
set_option maxRecDepth 8000 in
theorem add_neg {p : Nat} [NeZero p] {inv : Fin p → Fin p} {a c d : Fin p} (h : Fld inv a c d) {P : Pt p} (h1 : On a d P) : add inv a d P (neg P) = O p := by
  have e1 := add_x h h1 (neg_on h1)
  have e2 := add_y h h1 (neg_on h1)
  have n1 := kx h h1 (neg_on h1)
  have n2 := ky h h1 (neg_on h1)
  unfold On at h1
  apply pt_ext
  · refine h.canc n1 ?_
    simp only [O, neg] at *
    grobner
  · refine h.canc n2 ?_
    simp only [O, neg] at *
    grobner

set_option maxRecDepth 8000 in
theorem as_x {p : Nat} [NeZero p] {a d x1 y1 x2 y2 x3 y3 : Fin p} (h1 : a * x1 * x1 + y1 * y1 - 1 - d * x1 * x1 * y1 * y1 = 0) (h2 : a * x2 * x2 + y2 * y2 - 1 - d * x2 * x2 * y2 * y2 = 0) (h3 : a * x3 * x3 + y3 * y3 - 1 - d * x3 * x3 * y3 * y3 = 0) :
    ((x1 * y2 + y1 * x2) * (1 - d * x1 * x2 * y1 * y2) * y3 + (y1 * y2 - a * x1 * x2) * (1 + d * x1 * x2 * y1 * y2) * x3) * ((1 + d * x3 * x2 * y3 * y2) * (1 - d * x3 * x2 * y3 * y2) + d * (x3 * y2 + y3 * x2) * (y3 * y2 - a * x3 * x2) * x1 * y1) = ((x3 * y2 + y3 * x2) * (1 - d * x3 * x2 * y3 * y2) * y1 + (y3 * y2 - a * x3 * x2) * (1 + d * x3 * x2 * y3 * y2) * x1) * ((1 + d * x1 * x2 * y1 * y2) * (1 - d * x1 * x2 * y1 * y2) + d * (x1 * y2 + y1 * x2) * (y1 * y2 - a * x1 * x2) * x3 * y3) := by
  have key : ((x1 * y2 + y1 * x2) * (1 - d * x1 * x2 * y1 * y2) * y3 + (y1 * y2 - a * x1 * x2) * (1 + d * x1 * x2 * y1 * y2) * x3) * ((1 + d * x3 * x2 * y3 * y2) * (1 - d * x3 * x2 * y3 * y2) + d * (x3 * y2 + y3 * x2) * (y3 * y2 - a * x3 * x2) * x1 * y1) - ((x3 * y2 + y3 * x2) * (1 - d * x3 * x2 * y3 * y2) * y1 + (y3 * y2 - a * x3 * x2) * (1 + d * x3 * x2 * y3 * y2) * x1) * ((1 + d * x1 * x2 * y1 * y2) * (1 - d * x1 * x2 * y1 * y2) + d * (x1 * y2 + y1 * x2) * (y1 * y2 - a * x1 * x2) * x3 * y3)
      = (x1 * x2 * x2 * x2 * x2 * y2 * y2 * y2 * x3 * x3 * y3 * a * d * d - x1 * x2 * x2 * x2 * x2 * y2 * x3 * x3 * y3 * a * a * d - x1 * x2 * x2 * x2 * y2 * y2 * y2 * y2 * x3 * y3 * y3 * d * d - x1 * x2 * x2 * x2 * y2 * y2 * x3 * x3 * x3 * a * a * d + x1 * x2 * x2 * x2 * y2 * y2 * x3 * a * d + x1 * x2 * x2 * y2 * y2 * y2 * y3 * y3 * y3 * d - x1 * x2 * x2 * y2 * y2 * y2 * y3 * d + x1 * x2 * y2 * y2 * y2 * y2 * x3 * y3 * y3 * d + y1 * x2 * x2 * x2 * x2 * y2 * y2 * y2 * x3 * y3 * y3 * d * d - y1 * x2 * x2 * x2 * x2 * y2 * x3 * y3 * y3 * a * d + y1 * x2 * x2 * x2 * y2 * y2 * y2 * y2 * x3 * x3 * y3 * d * d + y1 * x2 * x2 * x2 * y2 * y2 * y3 * y3 * y3 * d - y1 * x2 * x2 * x2 * y2 * y2 * y3 * d + y1 * x2 * x2 * y2 * y2 * y2 * x3 * x3 * x3 * a * d - y1 * x2 * x2 * y2 * y2 * y2 * x3 * d - y1 * x2 * y2 * y2 * y2 * y2 * x3 * x3 * y3 * d) * (a * x1 * x1 + y1 * y1 - 1 - d * x1 * x1 * y1 * y1) + (x1 * x1 * x1 * x2 * x2 * y2 * x3 * x3 * y3 * a * a * d - x1 * x1 * x1 * x2 * y2 * y2 * x3 * y3 * y3 * a * d + x1 * x1 * x1 * x2 * x3 * x3 * x3 * y3 * y3 * a * a * d - x1 * x1 * x1 * x2 * x3 * x3 * x3 * a * a * a - x1 * x1 * x1 * x2 * x3 * y3 * y3 * a * a + x1 * x1 * x1 * x2 * x3 * a * a - x1 * x1 * x1 * y2 * x3 * x3 * y3 * y3 * y3 * a * d + x1 * x1 * x1 * y2 * x3 * x3 * y3 * a * a + x1 * x1 * x1 * y2 * y3 * y3 * y3 * a - x1 * x1 * x1 * y2 * y3 * a - x1 * x1 * y1 * x2 * x2 * y2 * x3 * x3 * x3 * y3 * y3 * a * d * d + x1 * x1 * y1 * x2 * x2 * y2 * x3 * y3 * y3 * a * d - x1 * x1 * y1 * x2 * y2 * y2 * x3 * x3 * y3 * y3 * y3 * d * d + x1 * x1 * y1 * x2 * y2 * y2 * x3 * x3 * y3 * a * d - x1 * x1 * y1 * x2 * x3 * x3 * y3 * y3 * y3 * a * d + x1 * x1 * y1 * x2 * x3 * x3 * y3 * a * a + x1 * x1 * y1 * x2 * y3 * y3 * y3 * a - x1 * x1 * y1 * x2 * y3 * a - x1 * x1 * y1 * y2 * x3 * x3 * x3 * y3 * y3 * a * d + x1 * x1 * y1 * y2 * x3 * x3 * x3 * a * a + x1 * x1 * y1 * y2 * x3 * y3 * y3 * a - x1 * x1 * y1 * y2 * x3 * a - x1 * y1 * y1 * x2 * x2 * y2 * x3 * x3 * y3 * y3 * y3 * d * d + x1 * y1 * y1 * x2 * x2 * y2 * x3 * x3 * y3 * a * d + x1 * y1 * y1 * x2 * y2 * y2 * x3 * x3 * x3 * y3 * y3 * d * d - x1 * y1 * y1 * x2 * y2 * y2 * x3 * y3 * y3 * d + x1 * y1 * y1 * x2 * x3 * x3 * x3 * y3 * y3 * a * d - x1 * y1 * y1 * x2 * x3 * x3 * x3 * a * a - x1 * y1 * y1 * x2 * x3 * y3 * y3 * a + x1 * y1 * y1 * x2 * x3 * a - x1 * y1 * y1 * y2 * x3 * x3 * y3 * y3 * y3 * d + x1 * y1 * y1 * y2 * x3 * x3 * y3 * a + x1 * y1 * y1 * y2 * y3 * y3 * y3 - x1 * y1 * y1 * y2 * y3 - x1 * x2 * x2 * y2 * x3 * x3 * y3 * a * d + x1 * x2 * y2 * y2 * x3 * y3 * y3 * d - x1 * x2 * x3 * x3 * x3 * y3 * y3 * a * d + x1 * x2 * x3 * x3 * x3 * a * a + x1 * x2 * x3 * y3 * y3 * a - x1 * x2 * x3 * a + x1 * y2 * x3 * x3 * y3 * y3 * y3 * d - x1 * y2 * x3 * x3 * y3 * a - x1 * y2 * y3 * y3 * y3 + x1 * y2 * y3 + y1 * y1 * y1 * x2 * x2 * y2 * x3 * y3 * y3 * d + y1 * y1 * y1 * x2 * y2 * y2 * x3 * x3 * y3 * d - y1 * y1 * y1 * x2 * x3 * x3 * y3 * y3 * y3 * d + y1 * y1 * y1 * x2 * x3 * x3 * y3 * a + y1 * y1 * y1 * x2 * y3 * y3 * y3 - y1 * y1 * y1 * x2 * y3 - y1 * y1 * y1 * y2 * x3 * x3 * x3 * y3 * y3 * d + y1 * y1 * y1 * y2 * x3 * x3 * x3 * a + y1 * y1 * y1 * y2 * x3 * y3 * y3 - y1 * y1 * y1 * y2 * x3 - y1 * x2 * x2 * y2 * x3 * y3 * y3 * d - y1 * x2 * y2 * y2 * x3 * x3 * y3 * d + y1 * x2 * x3 * x3 * y3 * y3 * y3 * d - y1 * x2 * x3 * x3 * y3 * a - y1 * x2 * y3 * y3 * y3 + y1 * x2 * y3 + y1 * y2 * x3 * x3 * x3 * y3 * y3 * d - y1 * y2 * x3 * x3 * x3 * a - y1 * y2 * x3 * y3 * y3 + y1 * y2 * x3) * (a * x2 * x2 + y2 * y2 - 1 - d * x2 * x2 * y2 * y2) + (x1 * x1 * x1 * x2 * x2 * x2 * x3 * a * a * a - x1 * x1 * x1 * x2 * x2 * y2 * y3 * a * a + x1 * x1 * x1 * x2 * y2 * y2 * x3 * a * a - x1 * x1 * x1 * x2 * x3 * a * a - x1 * x1 * x1 * y2 * y2 * y2 * y3 * a + x1 * x1 * x1 * y2 * y3 * a - x1 * x1 * y1 * x2 * x2 * x2 * y3 * a * a - x1 * x1 * y1 * x2 * x2 * y2 * x3 * a * a + x1 * x1 * y1 * x2 * x2 * y2 * x3 * a * d - x1 * x1 * y1 * x2 * y2 * y2 * y3 * a + x1 * x1 * y1 * x2 * y2 * y2 * y3 * d + x1 * x1 * y1 * x2 * y3 * a - x1 * x1 * y1 * y2 * y2 * y2 * x3 * a + x1 * x1 * y1 * y2 * x3 * a + x1 * y1 * y1 * x2 * x2 * x2 * x3 * a * a - x1 * y1 * y1 * x2 * x2 * y2 * y3 * a + x1 * y1 * y1 * x2 * x2 * y2 * y3 * d + x1 * y1 * y1 * x2 * y2 * y2 * x3 * a - x1 * y1 * y1 * x2 * y2 * y2 * x3 * d - x1 * y1 * y1 * x2 * x3 * a - x1 * y1 * y1 * y2 * y2 * y2 * y3 + x1 * y1 * y1 * y2 * y3 - x1 * x2 * x2 * x2 * x3 * a * a + x1 * x2 * x2 * y2 * y3 * a - x1 * x2 * y2 * y2 * x3 * a + x1 * x2 * x3 * a + x1 * y2 * y2 * y2 * y3 - x1 * y2 * y3 - y1 * y1 * y1 * x2 * x2 * x2 * y3 * a - y1 * y1 * y1 * x2 * x2 * y2 * x3 * a - y1 * y1 * y1 * x2 * y2 * y2 * y3 + y1 * y1 * y1 * x2 * y3 - y1 * y1 * y1 * y2 * y2 * y2 * x3 + y1 * y1 * y1 * y2 * x3 + y1 * x2 * x2 * x2 * y3 * a + y1 * x2 * x2 * y2 * x3 * a + y1 * x2 * y2 * y2 * y3 - y1 * x2 * y3 + y1 * y2 * y2 * y2 * x3 - y1 * y2 * x3) * (a * x3 * x3 + y3 * y3 - 1 - d * x3 * x3 * y3 * y3) := by
    clear h1 h2 h3
    grobner
  rw [h1, h2, h3, Fin.mul_zero, Fin.mul_zero, Fin.mul_zero, Fin.add_zero, Fin.add_zero] at key
  clear h1 h2 h3
  grobner

set_option maxRecDepth 8000 in
theorem as_y {p : Nat} [NeZero p] {a d x1 y1 x2 y2 x3 y3 : Fin p} (h1 : a * x1 * x1 + y1 * y1 - 1 - d * x1 * x1 * y1 * y1 = 0) (h2 : a * x2 * x2 + y2 * y2 - 1 - d * x2 * x2 * y2 * y2 = 0) (h3 : a * x3 * x3 + y3 * y3 - 1 - d * x3 * x3 * y3 * y3 = 0) :
    ((y1 * y2 - a * x1 * x2) * (1 + d * x1 * x2 * y1 * y2) * y3 - a * (x1 * y2 + y1 * x2) * (1 - d * x1 * x2 * y1 * y2) * x3) * ((1 + d * x3 * x2 * y3 * y2) * (1 - d * x3 * x2 * y3 * y2) - d * (x3 * y2 + y3 * x2) * (y3 * y2 - a * x3 * x2) * x1 * y1) = ((y3 * y2 - a * x3 * x2) * (1 + d * x3 * x2 * y3 * y2) * y1 - a * (x3 * y2 + y3 * x2) * (1 - d * x3 * x2 * y3 * y2) * x1) * ((1 + d * x1 * x2 * y1 * y2) * (1 - d * x1 * x2 * y1 * y2) - d * (x1 * y2 + y1 * x2) * (y1 * y2 - a * x1 * x2) * x3 * y3) := by
  have key : ((y1 * y2 - a * x1 * x2) * (1 + d * x1 * x2 * y1 * y2) * y3 - a * (x1 * y2 + y1 * x2) * (1 - d * x1 * x2 * y1 * y2) * x3) * ((1 + d * x3 * x2 * y3 * y2) * (1 - d * x3 * x2 * y3 * y2) - d * (x3 * y2 + y3 * x2) * (y3 * y2 - a * x3 * x2) * x1 * y1) - ((y3 * y2 - a * x3 * x2) * (1 + d * x3 * x2 * y3 * y2) * y1 - a * (x3 * y2 + y3 * x2) * (1 - d * x3 * x2 * y3 * y2) * x1) * ((1 + d * x1 * x2 * y1 * y2) * (1 - d * x1 * x2 * y1 * y2) - d * (x1 * y2 + y1 * x2) * (y1 * y2 - a * x1 * x2) * x3 * y3)
      = (-(x1 * x2 * x2 * x2 * x2 * y2 * y2 * y2 * x3 * y3 * y3 * a * d * d) + x1 * x2 * x2 * x2 * x2 * y2 * x3 * y3 * y3 * a * a * d - x1 * x2 * x2 * x2 * y2 * y2 * y2 * y2 * x3 * x3 * y3 * a * d * d - x1 * x2 * x2 * x2 * y2 * y2 * y3 * y3 * y3 * a * d + x1 * x2 * x2 * x2 * y2 * y2 * y3 * a * d - x1 * x2 * x2 * y2 * y2 * y2 * x3 * x3 * x3 * a * a * d + x1 * x2 * x2 * y2 * y2 * y2 * x3 * a * d + x1 * x2 * y2 * y2 * y2 * y2 * x3 * x3 * y3 * a * d + y1 * x2 * x2 * x2 * x2 * y2 * y2 * y2 * x3 * x3 * y3 * a * d * d - y1 * x2 * x2 * x2 * x2 * y2 * x3 * x3 * y3 * a * a * d - y1 * x2 * x2 * x2 * y2 * y2 * y2 * y2 * x3 * y3 * y3 * d * d - y1 * x2 * x2 * x2 * y2 * y2 * x3 * x3 * x3 * a * a * d + y1 * x2 * x2 * x2 * y2 * y2 * x3 * a * d + y1 * x2 * x2 * y2 * y2 * y2 * y3 * y3 * y3 * d - y1 * x2 * x2 * y2 * y2 * y2 * y3 * d + y1 * x2 * y2 * y2 * y2 * y2 * x3 * y3 * y3 * d) * (a * x1 * x1 + y1 * y1 - 1 - d * x1 * x1 * y1 * y1) + (-(x1 * x1 * x1 * x2 * x2 * y2 * x3 * y3 * y3 * a * a * d) - x1 * x1 * x1 * x2 * y2 * y2 * x3 * x3 * y3 * a * a * d + x1 * x1 * x1 * x2 * x3 * x3 * y3 * y3 * y3 * a * a * d - x1 * x1 * x1 * x2 * x3 * x3 * y3 * a * a * a - x1 * x1 * x1 * x2 * y3 * y3 * y3 * a * a + x1 * x1 * x1 * x2 * y3 * a * a + x1 * x1 * x1 * y2 * x3 * x3 * x3 * y3 * y3 * a * a * d - x1 * x1 * x1 * y2 * x3 * x3 * x3 * a * a * a - x1 * x1 * x1 * y2 * x3 * y3 * y3 * a * a + x1 * x1 * x1 * y2 * x3 * a * a - x1 * x1 * y1 * x2 * x2 * y2 * x3 * x3 * y3 * y3 * y3 * a * d * d + x1 * x1 * y1 * x2 * x2 * y2 * x3 * x3 * y3 * a * a * d + x1 * x1 * y1 * x2 * y2 * y2 * x3 * x3 * x3 * y3 * y3 * a * d * d - x1 * x1 * y1 * x2 * y2 * y2 * x3 * y3 * y3 * a * d + x1 * x1 * y1 * x2 * x3 * x3 * x3 * y3 * y3 * a * a * d - x1 * x1 * y1 * x2 * x3 * x3 * x3 * a * a * a - x1 * x1 * y1 * x2 * x3 * y3 * y3 * a * a + x1 * x1 * y1 * x2 * x3 * a * a - x1 * x1 * y1 * y2 * x3 * x3 * y3 * y3 * y3 * a * d + x1 * x1 * y1 * y2 * x3 * x3 * y3 * a * a + x1 * x1 * y1 * y2 * y3 * y3 * y3 * a - x1 * x1 * y1 * y2 * y3 * a + x1 * y1 * y1 * x2 * x2 * y2 * x3 * x3 * x3 * y3 * y3 * a * d * d - x1 * y1 * y1 * x2 * x2 * y2 * x3 * y3 * y3 * a * d + x1 * y1 * y1 * x2 * y2 * y2 * x3 * x3 * y3 * y3 * y3 * d * d - x1 * y1 * y1 * x2 * y2 * y2 * x3 * x3 * y3 * a * d + x1 * y1 * y1 * x2 * x3 * x3 * y3 * y3 * y3 * a * d - x1 * y1 * y1 * x2 * x3 * x3 * y3 * a * a - x1 * y1 * y1 * x2 * y3 * y3 * y3 * a + x1 * y1 * y1 * x2 * y3 * a + x1 * y1 * y1 * y2 * x3 * x3 * x3 * y3 * y3 * a * d - x1 * y1 * y1 * y2 * x3 * x3 * x3 * a * a - x1 * y1 * y1 * y2 * x3 * y3 * y3 * a + x1 * y1 * y1 * y2 * x3 * a + x1 * x2 * x2 * y2 * x3 * y3 * y3 * a * d + x1 * x2 * y2 * y2 * x3 * x3 * y3 * a * d - x1 * x2 * x3 * x3 * y3 * y3 * y3 * a * d + x1 * x2 * x3 * x3 * y3 * a * a + x1 * x2 * y3 * y3 * y3 * a - x1 * x2 * y3 * a - x1 * y2 * x3 * x3 * x3 * y3 * y3 * a * d + x1 * y2 * x3 * x3 * x3 * a * a + x1 * y2 * x3 * y3 * y3 * a - x1 * y2 * x3 * a + y1 * y1 * y1 * x2 * x2 * y2 * x3 * x3 * y3 * a * d - y1 * y1 * y1 * x2 * y2 * y2 * x3 * y3 * y3 * d + y1 * y1 * y1 * x2 * x3 * x3 * x3 * y3 * y3 * a * d - y1 * y1 * y1 * x2 * x3 * x3 * x3 * a * a - y1 * y1 * y1 * x2 * x3 * y3 * y3 * a + y1 * y1 * y1 * x2 * x3 * a - y1 * y1 * y1 * y2 * x3 * x3 * y3 * y3 * y3 * d + y1 * y1 * y1 * y2 * x3 * x3 * y3 * a + y1 * y1 * y1 * y2 * y3 * y3 * y3 - y1 * y1 * y1 * y2 * y3 - y1 * x2 * x2 * y2 * x3 * x3 * y3 * a * d + y1 * x2 * y2 * y2 * x3 * y3 * y3 * d - y1 * x2 * x3 * x3 * x3 * y3 * y3 * a * d + y1 * x2 * x3 * x3 * x3 * a * a + y1 * x2 * x3 * y3 * y3 * a - y1 * x2 * x3 * a + y1 * y2 * x3 * x3 * y3 * y3 * y3 * d - y1 * y2 * x3 * x3 * y3 * a - y1 * y2 * y3 * y3 * y3 + y1 * y2 * y3) * (a * x2 * x2 + y2 * y2 - 1 - d * x2 * x2 * y2 * y2) + (x1 * x1 * x1 * x2 * x2 * x2 * y3 * a * a * a + x1 * x1 * x1 * x2 * x2 * y2 * x3 * a * a * a + x1 * x1 * x1 * x2 * y2 * y2 * y3 * a * a - x1 * x1 * x1 * x2 * y3 * a * a + x1 * x1 * x1 * y2 * y2 * y2 * x3 * a * a - x1 * x1 * x1 * y2 * x3 * a * a + x1 * x1 * y1 * x2 * x2 * x2 * x3 * a * a * a - x1 * x1 * y1 * x2 * x2 * y2 * y3 * a * a + x1 * x1 * y1 * x2 * x2 * y2 * y3 * a * d + x1 * x1 * y1 * x2 * y2 * y2 * x3 * a * a - x1 * x1 * y1 * x2 * y2 * y2 * x3 * a * d - x1 * x1 * y1 * x2 * x3 * a * a - x1 * x1 * y1 * y2 * y2 * y2 * y3 * a + x1 * x1 * y1 * y2 * y3 * a + x1 * y1 * y1 * x2 * x2 * x2 * y3 * a * a + x1 * y1 * y1 * x2 * x2 * y2 * x3 * a * a - x1 * y1 * y1 * x2 * x2 * y2 * x3 * a * d + x1 * y1 * y1 * x2 * y2 * y2 * y3 * a - x1 * y1 * y1 * x2 * y2 * y2 * y3 * d - x1 * y1 * y1 * x2 * y3 * a + x1 * y1 * y1 * y2 * y2 * y2 * x3 * a - x1 * y1 * y1 * y2 * x3 * a - x1 * x2 * x2 * x2 * y3 * a * a - x1 * x2 * x2 * y2 * x3 * a * a - x1 * x2 * y2 * y2 * y3 * a + x1 * x2 * y3 * a - x1 * y2 * y2 * y2 * x3 * a + x1 * y2 * x3 * a + y1 * y1 * y1 * x2 * x2 * x2 * x3 * a * a - y1 * y1 * y1 * x2 * x2 * y2 * y3 * a + y1 * y1 * y1 * x2 * y2 * y2 * x3 * a - y1 * y1 * y1 * x2 * x3 * a - y1 * y1 * y1 * y2 * y2 * y2 * y3 + y1 * y1 * y1 * y2 * y3 - y1 * x2 * x2 * x2 * x3 * a * a + y1 * x2 * x2 * y2 * y3 * a - y1 * x2 * y2 * y2 * x3 * a + y1 * x2 * x3 * a + y1 * y2 * y2 * y2 * y3 - y1 * y2 * y3) * (a * x3 * x3 + y3 * y3 - 1 - d * x3 * x3 * y3 * y3) := by
    clear h1 h2 h3
    grobner
  rw [h1, h2, h3, Fin.mul_zero, Fin.mul_zero, Fin.mul_zero, Fin.add_zero, Fin.add_zero] at key
  clear h1 h2 h3
  grobner

set_option maxRecDepth 8000 in
/-- A sum of a sum, without fractions. -/
theorem add3 {p : Nat} [NeZero p] {inv : Fin p → Fin p} {a c d : Fin p} (h : Fld inv a c d) {P Q R : Pt p} (h1 : On a d P) (h2 : On a d Q) (h3 : On a d R) :
    (add inv a d (add inv a d P Q) R).x * ((1 + d * P.x * Q.x * P.y * Q.y) * (1 - d * P.x * Q.x * P.y * Q.y) + d * (P.x * Q.y + P.y * Q.x) * (P.y * Q.y - a * P.x * Q.x) * R.x * R.y) = ((P.x * Q.y + P.y * Q.x) * (1 - d * P.x * Q.x * P.y * Q.y) * R.y + (P.y * Q.y - a * P.x * Q.x) * (1 + d * P.x * Q.x * P.y * Q.y) * R.x) ∧ ((1 + d * P.x * Q.x * P.y * Q.y) * (1 - d * P.x * Q.x * P.y * Q.y) + d * (P.x * Q.y + P.y * Q.x) * (P.y * Q.y - a * P.x * Q.x) * R.x * R.y) ≠ 0 ∧ (add inv a d (add inv a d P Q) R).y * ((1 + d * P.x * Q.x * P.y * Q.y) * (1 - d * P.x * Q.x * P.y * Q.y) - d * (P.x * Q.y + P.y * Q.x) * (P.y * Q.y - a * P.x * Q.x) * R.x * R.y) = ((P.y * Q.y - a * P.x * Q.x) * (1 + d * P.x * Q.x * P.y * Q.y) * R.y - a * (P.x * Q.y + P.y * Q.x) * (1 - d * P.x * Q.x * P.y * Q.y) * R.x) ∧ ((1 + d * P.x * Q.x * P.y * Q.y) * (1 - d * P.x * Q.x * P.y * Q.y) - d * (P.x * Q.y + P.y * Q.x) * (P.y * Q.y - a * P.x * Q.x) * R.x * R.y) ≠ 0 := by
  have ex := add_x h h1 h2
  have ey := add_y h h1 h2
  have n1 := kx h h1 h2
  have n2 := ky h h1 h2
  have h12 := add_on h h1 h2
  have gx := add_x h h12 h3
  have gy := add_y h h12 h3
  have m1 := kx h h12 h3
  have m2 := ky h h12 h3
  generalize (add inv a d (add inv a d P Q) R).x = x5 at *
  generalize (add inv a d (add inv a d P Q) R).y = y5 at *
  generalize (add inv a d P Q).x = x4 at *
  generalize (add inv a d P Q).y = y4 at *
  generalize P.x * Q.y + P.y * Q.x = A at *
  generalize P.y * Q.y - a * P.x * Q.x = B at *
  generalize 1 + d * P.x * Q.x * P.y * Q.y = K at *
  generalize 1 - d * P.x * Q.x * P.y * Q.y = L at *
  clear h1 h2 h3 h12
  have e1 : K * L + d * A * B * R.x * R.y = K * L * (1 + d * x4 * R.x * y4 * R.y) := by
    clear gx gy
    subst ex ey
    grobner
  have e2 : K * L - d * A * B * R.x * R.y = K * L * (1 - d * x4 * R.x * y4 * R.y) := by
    clear gx gy e1
    subst ex ey
    grobner
  rw [e1, e2]
  refine ⟨?_, h.mul_ne (h.mul_ne n1 n2) m1, ?_, h.mul_ne (h.mul_ne n1 n2) m2⟩
  · have e3 : x5 * (K * L * (1 + d * x4 * R.x * y4 * R.y)) = K * L * (x5 * (1 + d * x4 * R.x * y4 * R.y)) := by
      generalize 1 + d * x4 * R.x * y4 * R.y = W
      clear gx gy e1 e2 ex ey
      grobner
    rw [e3, gx]
    clear gx gy e1 e2 e3
    subst ex ey
    grobner
  · have e3 : y5 * (K * L * (1 - d * x4 * R.x * y4 * R.y)) = K * L * (y5 * (1 - d * x4 * R.x * y4 * R.y)) := by
      generalize 1 - d * x4 * R.x * y4 * R.y = W
      clear gx gy e1 e2 ex ey
      grobner
    rw [e3, gy]
    clear gx gy e1 e2 e3
    subst ex ey
    grobner
set_option maxRecDepth 8000 in
theorem add_assoc {p : Nat} [NeZero p] {inv : Fin p → Fin p} {a c d : Fin p} (h : Fld inv a c d) {P Q R : Pt p} (h1 : On a d P) (h2 : On a d Q) (h3 : On a d R) : add inv a d (add inv a d P Q) R = add inv a d P (add inv a d Q R) := by
  rw [add_comm h h1 (add_on h h2 h3), add_comm h h2 h3]
  obtain ⟨a1, a2, a3, a4⟩ := add3 h h1 h2 h3
  obtain ⟨b1, b2, b3, b4⟩ := add3 h h3 h2 h1
  have kx := as_x h1.z h2.z h3.z
  have ky := as_y h1.z h2.z h3.z
  rw [← a1, ← b1] at kx
  rw [← a3, ← b3] at ky
  apply pt_ext
  · refine h.canc (h.mul_ne a2 b2) ?_
    rw [← Fin.mul_assoc, kx, Fin.mul_assoc, Fin.mul_assoc, Fin.mul_comm ((1 + d * P.x * Q.x * P.y * Q.y) * (1 - d * P.x * Q.x * P.y * Q.y) + d * (P.x * Q.y + P.y * Q.x) * (P.y * Q.y - a * P.x * Q.x) * R.x * R.y)]
  · refine h.canc (h.mul_ne a4 b4) ?_
    rw [← Fin.mul_assoc, ky, Fin.mul_assoc, Fin.mul_assoc, Fin.mul_comm ((1 + d * P.x * Q.x * P.y * Q.y) * (1 - d * P.x * Q.x * P.y * Q.y) - d * (P.x * Q.y + P.y * Q.x) * (P.y * Q.y - a * P.x * Q.x) * R.x * R.y)]

/-! ### Multiples -/
def mul {p : Nat} [NeZero p] (inv : Fin p → Fin p) (a d : Fin p) : Nat → Pt p → Pt p
  | 0, _ => O p
  | n + 1, P => add inv a d (mul inv a d n P) P
set_option maxRecDepth 8000 in
theorem mul_on {p : Nat} [NeZero p] {inv : Fin p → Fin p} {a c d : Fin p} (h : Fld inv a c d) {P : Pt p} (h1 : On a d P) : ∀ n, On a d (mul inv a d n P)
  | 0 => o_on a d
  | n + 1 => add_on h (mul_on h h1 n) h1
set_option maxRecDepth 8000 in
theorem mul_add {p : Nat} [NeZero p] {inv : Fin p → Fin p} {a c d : Fin p} (h : Fld inv a c d) {P : Pt p} (h1 : On a d P) (m : Nat) : ∀ n, mul inv a d (m + n) P = add inv a d (mul inv a d m P) (mul inv a d n P)
  | 0 => by
    rw [Nat.add_zero]
    exact (add_o h (mul_on h h1 m)).symm
  | n + 1 => by
    show add inv a d (mul inv a d (m + n) P) P = _
    rw [mul_add h h1 m n, add_assoc h (mul_on h h1 m) (mul_on h h1 n) h1]
    rfl
set_option maxRecDepth 8000 in
theorem mul_mul {p : Nat} [NeZero p] {inv : Fin p → Fin p} {a c d : Fin p} (h : Fld inv a c d) {P : Pt p} (h1 : On a d P) (m : Nat) : ∀ n, mul inv a d n (mul inv a d m P) = mul inv a d (m * n) P
  | 0 => rfl
  | n + 1 => by
    show add inv a d (mul inv a d n (mul inv a d m P)) (mul inv a d m P) = _
    rw [mul_mul h h1 m n, Nat.mul_succ, mul_add h h1]

/-! ### Fractions -/
/-- The fraction X / Z stands for a point. -/
structure Rep {p : Nat} [NeZero p] (X Z : Fin p) (P : Pt p) : Prop where
  ne : X + Z ≠ 0
  eq : X - Z = P.y * (X + Z)
/-- A point's number, 0 where there is none. -/
def U {p : Nat} [NeZero p] (inv : Fin p → Fin p) (P : Pt p) : Fin p := (1 + P.y) * inv (1 - P.y)
set_option maxRecDepth 8000 in
theorem rep_out {p : Nat} [NeZero p] {inv : Fin p → Fin p} {a c d : Fin p} (h : Fld inv a c d) {P : Pt p} {X Z : Fin p} (r : Rep X Z P) : X * inv Z = U inv P := by
  obtain ⟨n, e⟩ := r
  have t := h.two
  unfold U
  by_cases h1 : 1 - P.y = 0
  · have hz : Z = 0 := by
      have : 2 * Z = 0 := by grobner
      exact (h.mul0 this).resolve_left t
    rw [h1, hz, h.inv0, Fin.mul_zero, Fin.mul_zero]
  · have hz : Z ≠ 0 := fun hz => by
      have : X * (1 - P.y) = 0 := by grobner
      rcases h.mul0 this with q | q
      · exact n (by grobner)
      · exact h1 q
    have i1 := h.hinv _ h1
    have i2 := h.hinv _ hz
    generalize inv Z = iz at *
    generalize inv (1 - P.y) = iy at *
    grobner
set_option maxRecDepth 8000 in
theorem rep_dbl {p : Nat} [NeZero p] {inv : Fin p → Fin p} {a c d : Fin p} (h : Fld inv a c d) {e : Fin p} (he : 4 * e = d) {P : Pt p} (hP : On a d P) {X Z : Fin p} (r : Rep X Z P) :
    Rep ((X + Z) * (X + Z) * ((X - Z) * (X - Z))) (((X + Z) * (X + Z) - (X - Z) * (X - Z)) * ((X + Z) * (X + Z) + ((X + Z) * (X + Z) - (X - Z) * (X - Z)) * e)) (add inv a d P P) := by
  obtain ⟨n, hr⟩ := r
  have ey := add_y h hP hP
  have n2 := ky h hP hP
  have ad := h.ad
  have n3 : a - d * P.y * P.y ≠ 0 := fun q => by
    have hs := h.sq
    have := sqm h (s := c) (t := P.y) (by grobner)
    exact h.a0 (by grobner)
  rw [hr]
  generalize X + Z = s at *
  unfold On at hP
  generalize hyy : (add inv a d P P).y = yy at *
  generalize P.x = x at *
  generalize P.y = y at *
  have kD : 4 * (s * s * (y * s * (y * s)) + (s * s - y * s * (y * s)) * (s * s + (s * s - y * s * (y * s)) * e)) = s * s * (s * s) * ((a - d * y * y) * (1 - d * x * x * y * y)) := by
    clear ey n2 n3 hr
    grobner
  have kN : 4 * (s * s * (y * s * (y * s)) - (s * s - y * s * (y * s)) * (s * s + (s * s - y * s * (y * s)) * e)) = s * s * (s * s) * ((a - d * y * y) * (y * y - a * x * x)) := by
    clear ey n2 n3 hr kD
    grobner
  constructor
  · intro q
    rw [q, Fin.mul_zero] at kD
    exact h.mul_ne (h.mul_ne (h.mul_ne n n) (h.mul_ne n n)) (h.mul_ne n3 n2) kD.symm
  · refine h.canc h.four ?_
    rw [hyy]
    rw [← ey] at kN
    clear ey n2 n3 hr hP he ad
    generalize s * s * (y * s * (y * s)) = u1 at *
    generalize (s * s - y * s * (y * s)) * (s * s + (s * s - y * s * (y * s)) * e) = u2 at *
    generalize a - d * y * y = u3 at *
    generalize 1 - d * x * x * y * y = u4 at *
    grobner
set_option maxRecDepth 8000 in
theorem dif_cert {p : Nat} [NeZero p] {a d x1 y1 x2 y2 : Fin p} (h1 : a * x1 * x1 + y1 * y1 - 1 - d * x1 * x1 * y1 * y1 = 0) (h2 : a * x2 * x2 + y2 * y2 - 1 - d * x2 * x2 * y2 * y2 = 0) :
    (y2 + y1) * (y2 + y1) * (((1 + d * x1 * x2 * y1 * y2) - (y1 * y2 + a * x1 * x2)) * ((1 - d * x1 * x2 * y1 * y2) - (y1 * y2 - a * x1 * x2))) = (y2 - y1) * (y2 - y1) * (((1 + d * x1 * x2 * y1 * y2) + (y1 * y2 + a * x1 * x2)) * ((1 - d * x1 * x2 * y1 * y2) + (y1 * y2 - a * x1 * x2))) := by
  have key : (y2 + y1) * (y2 + y1) * (((1 + d * x1 * x2 * y1 * y2) - (y1 * y2 + a * x1 * x2)) * ((1 - d * x1 * x2 * y1 * y2) - (y1 * y2 - a * x1 * x2))) - (y2 - y1) * (y2 - y1) * (((1 + d * x1 * x2 * y1 * y2) + (y1 * y2 + a * x1 * x2)) * ((1 - d * x1 * x2 * y1 * y2) + (y1 * y2 - a * x1 * x2)))
      = (4 * d * x2 * x2 * y1 * y2 * y2 * y2 - 4 * a * x2 * x2 * y1 * y2) * (a * x1 * x1 + y1 * y1 - 1 - d * x1 * x1 * y1 * y1) + (4 * y1 * y1 * y1 * y2 - 4 * y1 * y2) * (a * x2 * x2 + y2 * y2 - 1 - d * x2 * x2 * y2 * y2) := by
    clear h1 h2
    grobner
  rw [h1, h2, Fin.mul_zero, Fin.mul_zero, Fin.add_zero] at key
  clear h1 h2
  grobner
set_option maxRecDepth 8000 in
theorem rep_dif {p : Nat} [NeZero p] {inv : Fin p → Fin p} {a c d : Fin p} (h : Fld inv a c d) {Q R : Pt p} (hQ : On a d Q) (hR : On a d R) {yP u1 : Fin p} (hy : yP * (1 + d * Q.x * R.x * Q.y * R.y) = Q.y * R.y + a * Q.x * R.x) (hu : u1 * (1 - yP) = 1 + yP) (p1 : 1 - yP ≠ 0) (p2 : 1 + yP ≠ 0) {X2 Z2 X3 Z3 : Fin p} (r2 : Rep X2 Z2 Q) (r3 : Rep X3 Z3 R) :
    Rep (((X3 - Z3) * (X2 + Z2) + (X3 + Z3) * (X2 - Z2)) * ((X3 - Z3) * (X2 + Z2) + (X3 + Z3) * (X2 - Z2))) (u1 * (((X3 - Z3) * (X2 + Z2) - (X3 + Z3) * (X2 - Z2)) * ((X3 - Z3) * (X2 + Z2) - (X3 + Z3) * (X2 - Z2)))) (add inv a d Q R) := by
  obtain ⟨n2, e2⟩ := r2
  obtain ⟨n3, e3⟩ := r3
  have ey := add_y h hQ hR
  have k1 := kx h hQ hR
  have k2 := ky h hQ hR
  have ce := dif_cert hQ.z hR.z
  unfold On at hQ hR
  rw [e2, e3]
  generalize X2 + Z2 = s2 at *
  generalize X3 + Z3 = s3 at *
  generalize hyS : (add inv a d Q R).y = yS at *
  generalize Q.x = x2 at *
  generalize R.x = x3 at *
  generalize Q.y = y2 at *
  generalize R.y = y3 at *
  rw [← ey, ← hy] at ce
  have main : ((y3 * s3 * s2 + s3 * (y2 * s2)) * (y3 * s3 * s2 + s3 * (y2 * s2))) * (1 - yS) = u1 * ((y3 * s3 * s2 - s3 * (y2 * s2)) * (y3 * s3 * s2 - s3 * (y2 * s2))) * (1 + yS) := by
    refine h.canc (h.mul_ne p1 (h.mul_ne k1 k2)) ?_
    clear ey hy e2 e3 hQ hR k1 k2 p1 p2
    generalize 1 + d * x2 * x3 * y2 * y3 = K at *
    generalize 1 - d * x2 * x3 * y2 * y3 = L at *
    have l1 : (y3 * s3 * s2 + s3 * (y2 * s2)) * (y3 * s3 * s2 + s3 * (y2 * s2)) * (1 - yS) * ((1 - yP) * (K * L)) = s2 * s2 * (s3 * s3) * ((y3 + y2) * (y3 + y2) * ((K - yP * K) * (L - yS * L))) := by
      clear ce hu
      grobner
    have l2 : u1 * ((y3 * s3 * s2 - s3 * (y2 * s2)) * (y3 * s3 * s2 - s3 * (y2 * s2))) * (1 + yS) * ((1 - yP) * (K * L)) = s2 * s2 * (s3 * s3) * ((y3 - y2) * (y3 - y2) * ((K + yP * K) * (L + yS * L))) := by
      clear ce l1
      have : u1 * ((y3 * s3 * s2 - s3 * (y2 * s2)) * (y3 * s3 * s2 - s3 * (y2 * s2))) * (1 + yS) * ((1 - yP) * (K * L)) = (u1 * (1 - yP)) * ((y3 * s3 * s2 - s3 * (y2 * s2)) * (y3 * s3 * s2 - s3 * (y2 * s2)) * (1 + yS) * (K * L)) := by
        clear hu
        grobner
      rw [this, hu]
      clear hu this
      grobner
    rw [l1, l2, ce]
  constructor
  · intro q
    have z1 : 2 * (u1 * ((y3 * s3 * s2 - s3 * (y2 * s2)) * (y3 * s3 * s2 - s3 * (y2 * s2)))) = 0 := by
      clear ey hy e2 e3 hQ hR k1 k2 p1 p2 ce hu
      generalize (y3 * s3 * s2 + s3 * (y2 * s2)) * (y3 * s3 * s2 + s3 * (y2 * s2)) = v1 at *
      generalize u1 * ((y3 * s3 * s2 - s3 * (y2 * s2)) * (y3 * s3 * s2 - s3 * (y2 * s2))) = v2 at *
      grobner
    have z2 := (h.mul0 z1).resolve_left h.two
    have hu0 : u1 ≠ 0 := fun q => by
      rw [q, Fin.zero_mul] at hu
      exact p2 hu.symm
    have z3 := (h.mul0 z2).resolve_left hu0
    rw [z2, Fin.add_zero] at q
    have z4 : (y3 * s3 * s2 - s3 * (y2 * s2)) = 0 := (h.mul0 z3).elim id id
    have z5 : (y3 * s3 * s2 + s3 * (y2 * s2)) = 0 := (h.mul0 q).elim id id
    clear z1 z2 z3 q main ce e2 e3
    have w1 : 2 * y3 * (s3 * s2) = 0 := by
      clear ey hy hQ hR k1 k2 p1 p2 hu hu0
      grobner
    have w2 : 2 * y2 * (s3 * s2) = 0 := by
      clear ey hy hQ hR k1 k2 p1 p2 hu hu0 w1
      grobner
    have w3 := (h.mul0 ((h.mul0 w1).resolve_right (h.mul_ne n3 n2))).resolve_left h.two
    have w4 := (h.mul0 ((h.mul0 w2).resolve_right (h.mul_ne n3 n2))).resolve_left h.two
    clear z4 z5 w1 w2
    subst w3 w4
    have : (1 - yP) * (1 + yP) = 0 := by
      clear ey hu hu0 k1 k2 p1 p2
      grobner
    exact h.mul_ne p1 p2 this
  · rw [hyS]
    clear ey hy e2 e3 hQ hR k1 k2 p1 p2 ce hu
    generalize (y3 * s3 * s2 + s3 * (y2 * s2)) * (y3 * s3 * s2 + s3 * (y2 * s2)) = v1 at *
    generalize u1 * ((y3 * s3 * s2 - s3 * (y2 * s2)) * (y3 * s3 * s2 - s3 * (y2 * s2))) = v2 at *
    grobner
set_option maxRecDepth 8000 in
/-- The difference of a sum. -/
theorem dif_y {p : Nat} [NeZero p] {inv : Fin p → Fin p} {a c d : Fin p} (h : Fld inv a c d) {P Q : Pt p} (hP : On a d P) (hQ : On a d Q) : P.y * (1 + d * Q.x * (add inv a d Q P).x * Q.y * (add inv a d Q P).y) = Q.y * (add inv a d Q P).y + a * Q.x * (add inv a d Q P).x := by
  have hR := add_on h hQ hP
  have e : add inv a d (add inv a d Q P) (neg Q) = P := by
    rw [add_comm h hQ hP, add_assoc h hP hQ (neg_on hQ), add_neg h hQ, add_o h hP]
  have ey := add_y h hR (neg_on hQ)
  rw [e] at ey
  generalize add inv a d Q P = R at *
  simp only [neg] at ey
  clear hP hQ hR h e
  grobner
end Go.Proofs.YtlnbjehimabaiaaGreatDoor.Fc.Ed
