/-
  Several texts of one's own, laid together. No statement of the seat is proved here.
-/
import Derived.Test.YtmibjgkakolhiaaGreatDoorPk1
import Derived.Test.YtmibjgkakolhiaaGreatDoorPk16
import Derived.Test.YtmibjgkakolhiaaGreatDoorPk13
import Derived.Test.YtmibjgkakolhiaaGreatDoorPk15
import Derived.Test.YtmibjgkakolhiaaGreatDoorPk14
/-
 What a State's Init, Has, Nonce, SetNonce, Key, Copy do where it is embedded. No statement of the seat is proved here.
-/
namespace Go.Proofs.YtmibjgkakolhiaaGreatDoor
open Go.RowKit

set_option maxRecDepth 8000 in
theorem has9_o (b o : Nat) (k : List Int) (h : Bool) (n : Int) (w : World) (hs : Sy w b o k h n) :
  Calls Tryz.prog 35 #[.pointer (some ⟨b, o, none⟩)] w fun e w' => e = .returned (.bool h) ∧ w' = w := by
 obtain ⟨ch, -⟩ := hs.has
 go_enter Tryz.func35, Tryz.ntmps35
 go_wp2
 go_ret
 exact ⟨rfl, rfl⟩
set_option maxRecDepth 8000 in
theorem nonce9_o (b o : Nat) (k : List Int) (h : Bool) (n : Int) (w : World) (hs : Sy w b o k h n) :
  Calls Tryz.prog 18 #[.pointer (some ⟨b, o, none⟩)] w fun e w' => e = .returned (.int .u64 n) ∧ w' = w := by
 obtain ⟨cn, -⟩ := hs.nonce
 go_enter Tryz.func18, Tryz.ntmps18
 go_wp2
 go_ret
 exact ⟨rfl, rfl⟩
set_option maxRecDepth 8000 in
theorem key9_o (b o : Nat) (k : List Int) (h : Bool) (n : Int) (w : World) (hs : Sy w b o k h n) :
  Calls Tryz.prog 17 #[.pointer (some ⟨b, o, none⟩)] w fun e w' => e = .returned (.agg (List.map (Value.int .u8) k).toArray) ∧ Below w.heap.size w w' := by
 have HS : Hid (Sy w b o k h n) := hs
 clear hs
 go_enter Tryz.func17, Tryz.ntmps17
 go_upto_region 1 with fail
 have HD : Hid ((w.alloc (.cells zb32 33)).there w.heap.size 0 32) := by unfold Hid; exact there_new _ 32 _ rfl _
 have HB : Hid (Below w.heap.size w (w.alloc (.cells zb32 33))) := bel1 _ _
 obtain ⟨W0, hW0⟩ : ∃ W, W = (w.alloc (.cells zb32 33)) := ⟨_, rfl⟩
 obtain ⟨q2, hq2⟩ : ∃ q, q = w.heap.size := ⟨_, rfl⟩
 rw [← hW0] at HD HB ⊢
 have HQ : Hid (q2 = w.heap.size) := hq2
 rw [← hq2] at HD ⊢
 clear hW0 hq2
 replace HS := hidp (HS.out.later HB.out)
 obtain ⟨hlen', hone, hi⟩ := bn32_cells HS.out.bk
 have hR := HS.out.key
 obtain ⟨cs, hcs⟩ : ∃ cs, cs = (List.map (Value.int .u8) k) := ⟨_, rfl⟩
 have HC : Hid (cs = (List.map (Value.int .u8) k)) := hcs
 rw [← hcs] at hlen' hone hi hR
 clear hcs
 have hth := HD.out
 go_wp2_with (first
  | (refine wpList_load_mid rfl 33 (.tmp 5) rfl b o rfl cs _ hR Tryz.underlying33 rfl hi ?_)
  | (refine wpList_store_mid rfl 33 (.tmp 2) (.tmp 6) rfl q2 0 cs.toArray rfl rfl (by simpa [hlen'] using hth) (by simpa using hi) (all_oneCell_toArray hone) ?_))
 have HR2 : Hid ((W0.setCells q2 0 cs).rangeAt q2 0 cs) := World.rangeAt_setCells_same _ _ _ _ (by rw [hlen']; exact hth)
 have hld := run_loadVar_mid (P := Tryz.prog) _ _ 0 33 _ _ HR2.out Tryz.underlying33 rfl hi
 exact bodyPost_ret (v := .agg cs.toArray) (by simp [results, Tryz.results17]; exact hld) rfl ⟨by rw [HC.out], below_setCells _ (by have := HQ.out; omega) _ _ _ HB.out⟩

set_option maxRecDepth 8000 in
set_option maxHeartbeats 2000000 in
theorem init9_o (b o : Nat) (k : List Int) (h : Bool) (n : Int) (key : List Int) (hk : Bn 32 key) (w : World) (hs : Sy w b o k h n) :
  Calls Tryz.prog 26 #[.pointer (some ⟨b, o, none⟩), (.agg (List.map (Value.int .u8) key).toArray)] w fun e w' => e = .returned (.tuple #[]) ∧ Hid (Sy w' b o key true 0) ∧ ExtR b o 34 w w' := by
 have HS : Hid (Sy w b o k h n) := hs
 have HK : Hid (Bn 32 key) := hk
 clear hs hk
 go_enter Tryz.func26, Tryz.ntmps26
 go_upto_region 1 with fail
 have AK : Hid (Ar (w.alloc (.cells (List.map (Value.int .u8) key).toArray 33)) w.heap.size 32 (List.map (Value.int .u8) key)) := ar_box w _ 32 HK.out.map_len _
 have HB : Hid (Below w.heap.size w (w.alloc (.cells (List.map (Value.int .u8) key).toArray 33))) := bel1 _ _
 have HE : Hid (ExtR b o 34 w (w.alloc (.cells (List.map (Value.int .u8) key).toArray 33))) := ExtR.of (bel1 _ _) HS.out.lt
 obtain ⟨W0, hW0⟩ : ∃ W, W = (w.alloc (.cells (List.map (Value.int .u8) key).toArray 33)) := ⟨_, rfl⟩
 obtain ⟨q3, hq3⟩ : ∃ q, q = w.heap.size := ⟨_, rfl⟩
 rw [← hW0] at AK HB HE ⊢
 rw [← hq3] at AK ⊢
 clear hW0 hq3
 replace HS := hidp (HS.out.later HB.out)
 obtain ⟨_, _, hi⟩ := bn32_cells HK.out
 obtain ⟨hlen', hone, hic⟩ := sc9_cells true 0 HK.out
 have hb9 := build_init HK.out.len W0
 have hth := HS.out.ao.all
 obtain ⟨cs, hcs⟩ : ∃ cs, cs = (sc9 key true 0) := ⟨_, rfl⟩
 have HC : Hid (cs = (sc9 key true 0)) := hcs
 rw [← hcs] at hlen' hone hic hb9
 clear hcs
 go_wp2_with (first
  | (refine wpList_load_mid rfl 33 (.tmp 3) rfl q3 0 rfl (List.map (Value.int .u8) key) _ AK.out.rng Tryz.underlying33 rfl hi ?_)
  | (refine wpList_build9 rfl rfl (.agg (List.map (Value.int .u8) key).toArray) (.agg cs.toArray) rfl hb9 ?_)
  | (refine wpList_store_mid rfl 53 (.tmp 7) (.tmp 6) rfl b o cs.toArray rfl rfl (by simpa [hlen'] using hth) (by simpa using hic) (all_oneCell_toArray hone) ?_))
 go_end0
 exact ⟨rfl, by rw [HC.out]; exact HS.out.setAll HK.out true (by decide), ExtR.cells _ o HE.out (Nat.le_refl _) (by first | omega | (have := hKn.map_len; omega))⟩
end Go.Proofs.YtmibjgkakolhiaaGreatDoor
/-
 What a State's Hash, Chain, HasKey and MixHash do. No statement of the seat is proved here.
-/
namespace Go.Proofs.YtmibjgkakolhiaaGreatDoor
open Go.RowKit

set_option maxRecDepth 8000 in
set_option maxHeartbeats 2000000 in
theorem hash10_c (b : Nat) (k : List Int) (h : Bool) (n : Int) (H C : List Int) (w : World) (hs : My w b k h n H C) :
  Calls Tryz.prog 20 #[.pointer (some ⟨b, 0, none⟩)] w fun e w' => e = .returned (.agg (List.map (Value.int .u8) H).toArray) ∧ Below w.heap.size w w' := by
 have HS : Hid (My w b k h n H C) := hs
 clear hs
 go_enter Tryz.func20, Tryz.ntmps20
 go_upto_region 1 with fail
 have HD : Hid ((w.alloc (.cells zb32 33)).there w.heap.size 0 32) := by unfold Hid; exact there_new _ 32 _ rfl _
 have HB : Hid (Below w.heap.size w (w.alloc (.cells zb32 33))) := bel1 _ _
 obtain ⟨W0, hW0⟩ : ∃ W, W = (w.alloc (.cells zb32 33)) := ⟨_, rfl⟩
 obtain ⟨q2, hq2⟩ : ∃ q, q = w.heap.size := ⟨_, rfl⟩
 rw [← hW0] at HD HB ⊢
 have HQ : Hid (q2 = w.heap.size) := hq2
 rw [← hq2] at HD ⊢
 have k1 : q2 < W0.heap.size := there_lt HD.out (by decide)
 clear hW0 hq2
 replace HS := hidp (HS.out.later HB.out)
 have hR := HS.out.ho.rng
 obtain ⟨hlen', hone, hi⟩ := bn32_cells HS.out.bh
 obtain ⟨cs, hcs⟩ : ∃ cs, cs = (List.map (Value.int .u8) H) := ⟨_, rfl⟩
 have HCS : Hid (cs = (List.map (Value.int .u8) H)) := hcs
 rw [← hcs] at hlen' hone hi hR
 clear hcs
 have hth := HD.out
 go_wp2_with (first
  | (refine wpList_load_mid rfl 33 (.tmp 5) rfl b 34 rfl cs _ hR Tryz.underlying33 rfl hi ?_)
  | (refine wpList_store_mid rfl 33 (.tmp 2) (.tmp 6) rfl q2 0 cs.toArray rfl rfl (by simpa [hlen'] using hth) (by simpa using hi) (all_oneCell_toArray hone) ?_))
 have HR2 : Hid ((W0.setCells q2 0 cs).rangeAt q2 0 cs) := World.rangeAt_setCells_same _ _ _ _ (by rw [hlen']; exact hth)
 have hld := run_loadVar_mid (P := Tryz.prog) _ _ 0 33 _ _ HR2.out Tryz.underlying33 rfl hi
 exact bodyPost_ret (v := .agg cs.toArray) (by simp [results, Tryz.results20]; exact hld) rfl ⟨by rw [HCS.out], below_setCells _ (by have := HQ.out; omega) _ _ _ HB.out⟩
set_option maxRecDepth 8000 in
set_option maxHeartbeats 2000000 in
theorem chain10_c (b : Nat) (k : List Int) (h : Bool) (n : Int) (H C : List Int) (w : World) (hs : My w b k h n H C) :
  Calls Tryz.prog 21 #[.pointer (some ⟨b, 0, none⟩)] w fun e w' => e = .returned (.agg (List.map (Value.int .u8) C).toArray) ∧ Below w.heap.size w w' := by
 have HS : Hid (My w b k h n H C) := hs
 clear hs
 go_enter Tryz.func21, Tryz.ntmps21
 go_upto_region 1 with fail
 have HD : Hid ((w.alloc (.cells zb32 33)).there w.heap.size 0 32) := by unfold Hid; exact there_new _ 32 _ rfl _
 have HB : Hid (Below w.heap.size w (w.alloc (.cells zb32 33))) := bel1 _ _
 obtain ⟨W0, hW0⟩ : ∃ W, W = (w.alloc (.cells zb32 33)) := ⟨_, rfl⟩
 obtain ⟨q2, hq2⟩ : ∃ q, q = w.heap.size := ⟨_, rfl⟩
 rw [← hW0] at HD HB ⊢
 have HQ : Hid (q2 = w.heap.size) := hq2
 rw [← hq2] at HD ⊢
 have k1 : q2 < W0.heap.size := there_lt HD.out (by decide)
 clear hW0 hq2
 replace HS := hidp (HS.out.later HB.out)
 have hR := HS.out.co.rng
 obtain ⟨hlen', hone, hi⟩ := bn32_cells HS.out.bc
 obtain ⟨cs, hcs⟩ : ∃ cs, cs = (List.map (Value.int .u8) C) := ⟨_, rfl⟩
 have HCS : Hid (cs = (List.map (Value.int .u8) C)) := hcs
 rw [← hcs] at hlen' hone hi hR
 clear hcs
 have hth := HD.out
 go_wp2_with (first
  | (refine wpList_load_mid rfl 33 (.tmp 5) rfl b 66 rfl cs _ hR Tryz.underlying33 rfl hi ?_)
  | (refine wpList_store_mid rfl 33 (.tmp 2) (.tmp 6) rfl q2 0 cs.toArray rfl rfl (by simpa [hlen'] using hth) (by simpa using hi) (all_oneCell_toArray hone) ?_))
 have HR2 : Hid ((W0.setCells q2 0 cs).rangeAt q2 0 cs) := World.rangeAt_setCells_same _ _ _ _ (by rw [hlen']; exact hth)
 have hld := run_loadVar_mid (P := Tryz.prog) _ _ 0 33 _ _ HR2.out Tryz.underlying33 rfl hi
 exact bodyPost_ret (v := .agg cs.toArray) (by simp [results, Tryz.results21]; exact hld) rfl ⟨by rw [HCS.out], below_setCells _ (by have := HQ.out; omega) _ _ _ HB.out⟩
set_option maxRecDepth 8000 in
theorem haskey10_c (b : Nat) (k : List Int) (h : Bool) (n : Int) (H C : List Int) (w : World) (hs : My w b k h n H C) :
  Calls Tryz.prog 22 #[.pointer (some ⟨b, 0, none⟩)] w fun e w' => e = .returned (.bool h) ∧ w' = w := by
 go_enter Tryz.func22, Tryz.ntmps22
 go_wp2_with fail
 refine (has9_o b 0 k h n _ hs.sy).mono ?_
 rintro e V ⟨rfl, hw⟩
 rw [hw]
 clear hw V
 go_wp2
 go_ret
 exact ⟨rfl, rfl⟩
set_option maxRecDepth 8000 in
set_option maxHeartbeats 4000000 in
theorem mixhash10_c (b : Nat) (k : List Int) (h : Bool) (n : Int) (H C : List Int) (a : Option Addr) (len cap : Nat) (x : List Int) (w : World) (hs : My w b k h n H C) (hr : Rd w a len cap x) (hg : Gb w) (hm : len ≤ 281474976710656) :
  Calls Tryz.prog 10 #[.pointer (some ⟨b, 0, none⟩), .slice a len cap] w fun e w' => e = .returned (.tuple #[]) ∧ Hid (My w' b k h n (sum7 (H ++ x)) C) ∧ ExtB b w w' := by
 have HS : Hid (My w b k h n H C) := hs
 have HG : Hid (Gb w) := hg
 have HL : Hid (x.length = len) := hr.hlen
 have HHL : Hid (H.length = 32) := hs.bh.len
 have hb1 := bel1 w (.cells #[.slice (some ⟨b, 34, none⟩) 32 32, .slice a len cap] 28)
 have Y1 : Hid (RdL (w.alloc (.cells #[.slice (some ⟨b, 34, none⟩) 32 32, .slice a len cap] 28)) (some ⟨w.heap.size, 0, none⟩) 2 [H, x]) := RdL.two w _ 32 32 H _ len cap x 28 hs.rdH hr
 have hlt := hs.lt
 clear hs hr hg
 go_enter Tryz.func10, Tryz.ntmps10
 go_wp2_with fail
 refine (sum_c (some ⟨w.heap.size, 0, none⟩) 2 2 [H, x] _ Y1.out (HG.out.later hb1) (by decide) (by simp only [List.flatten_cons, List.flatten_nil, List.append_nil, List.length_append]; rw [HL.out, HHL.out]; omega)).mono ?_
 rintro e V ⟨S, rfl, HS1, hb⟩
 replace HS1 : Hid (S = sum7 (H ++ x)) := by have := HS1.out; rwa [List.flatten_cons, List.flatten_cons, List.flatten_nil, List.append_nil] at this
 have hSn : Bn 32 S := by rw [HS1.out]; exact sum7_bn _
 have hb2 : Below w.heap.size w V := hb1.trans (hb.mono hb1.size)
 replace HS := hidp (HS.out.later hb2)
 have HE : Hid (ExtB b w V) := extb_of hb2
 clear hb hb1 hb2 Y1 HG HL HHL
 have hth := HS.out.ho.all
 obtain ⟨hlen', hone, hi⟩ := bn32_cells hSn
 obtain ⟨cs, hcs⟩ : ∃ cs, cs = (List.map (Value.int .u8) S) := ⟨_, rfl⟩
 have HCS : Hid (cs = (List.map (Value.int .u8) S)) := hcs
 rw [← hcs] at hlen' hone hi ⊢
 clear hcs
 go_wp2_with (refine wpList_store_mid rfl 33 (.tmp 13) (.tmp 11) rfl b 34 cs.toArray rfl rfl (by simpa [hlen'] using hth) (by simpa using hi) (all_oneCell_toArray hone) ?_)
 go_end0
 exact ⟨rfl, by unfold Hid; rw [HCS.out, ← HS1.out]; exact HS.out.setH hSn, extB_setCells _ _ _ HE.out⟩
end Go.Proofs.YtmibjgkakolhiaaGreatDoor
/-
 What law 10's own 'known' does: chapter 10's example holds. No statement of the seat is proved here.
-/
namespace Go.Proofs.YtmibjgkakolhiaaGreatDoor
open Go.RowKit

def a10 : List Int := [97, 0, 0, 0, 0, 0, 0, 0, 0, 0, 0, 0, 0, 0, 0, 0, 0, 0, 0, 0, 0, 0, 0, 0, 0, 0, 0, 0, 0, 0, 0, 0]
set_option maxRecDepth 8000 in
theorem nm10_a : nm10 (sd { data := #[97] }) = a10 := by decide +kernel
set_option maxRecDepth 8000 in
theorem a10_bn : Bn 32 a10 := ⟨rfl, byt5 _ (by decide)⟩
set_option maxRecDepth 8000 in
set_option maxHeartbeats 4000000 in
theorem known10_any (w : World) (hg : Gb w) : Calls Tryz.prog 6 #[] w fun e w' => e = .returned (.bool true) ∧ Below w.heap.size w w' := by
 have HG : Hid (Gb w) := hg
 clear hg
 go_enter Tryz.func6, Tryz.ntmps6
 go_wp2_with fail
 refine (new10_c { data := #[97] } _ HG.out (by decide)).mono ?_
 rintro e V1 ⟨ba, N, rfl, kba, HN, Sa, hb⟩
 have HB : Hid (Below w.heap.size w V1) := hb
 clear hb
 have hN : N = a10 := by rw [HN.out]; exact nm10_a
 subst hN
 clear HN
 go_wp2_with fail
 refine (hash10_c ba z9l false 0 a10 a10 _ Sa.out).mono ?_
 rintro e V2 ⟨rfl, hb⟩
 replace Sa := hidp (Sa.out.later hb)
 replace HB := hidp (HB.out.trans (hb.mono HB.out.size))
 clear hb
 have heq : ∀ u, Sem.run Tryz.prog (binOp .eql 33 (.agg (List.map (Value.int .u8) a10).toArray) (.agg #[.int .u8 97, .int .u8 0, .int .u8 0, .int .u8 0, .int .u8 0, .int .u8 0, .int .u8 0, .int .u8 0, .int .u8 0, .int .u8 0, .int .u8 0, .int .u8 0, .int .u8 0, .int .u8 0, .int .u8 0, .int .u8 0, .int .u8 0, .int .u8 0, .int .u8 0, .int .u8 0, .int .u8 0, .int .u8 0, .int .u8 0, .int .u8 0, .int .u8 0, .int .u8 0, .int .u8 0, .int .u8 0, .int .u8 0, .int .u8 0, .int .u8 0, .int .u8 0])) u = .ok (.bool true) u := fun u => eql32 a10 a10 a10_bn rfl u
 go_wp2_with fail
 refine (chain10_c ba z9l false 0 a10 a10 _ Sa.out).mono ?_
 rintro e V3 ⟨rfl, hb⟩
 replace Sa := hidp (Sa.out.later hb)
 replace HB := hidp (HB.out.trans (hb.mono HB.out.size))
 clear hb
 go_wp2_with fail
 refine (haskey10_c ba z9l false 0 a10 a10 _ Sa.out).mono ?_
 rintro e V4 ⟨rfl, hw⟩
 rw [hw]
 clear hw V4
 go_wp2
 go_ret
 exact ⟨rfl, HB.out⟩
end Go.Proofs.YtmibjgkakolhiaaGreatDoor
/-
 What chacha's turned and Quarter do: words turned round and mixed. No statement of the seat is proved here.
-/
namespace Go.Proofs.YtmibjgkakolhiaaGreatDoor
open Go.RowKit

/-- A word of 32 bits. -/
def W32 (x : Int) : Prop := 0 ≤ x ∧ x < 4294967296
def xr (a b : Int) : Int := bits .xor .u32 a b
def rot (n : Nat) (x : Int) : Int := bits .or .u32 (x * 2 ^ n % 4294967296) (x / 2 ^ (32 - n))
set_option maxRecDepth 8000 in
theorem xr_w {a b : Int} (ha : W32 a) (hb : W32 b) : W32 (xr a b) := by
 unfold xr
 rw [u32_xor a b ha.1 ha.2 hb.1 hb.2]
 have h0 := ha.1
 have h1 := ha.2
 have h2 := hb.1
 have h3 := hb.2
 have h : a.toNat ^^^ b.toNat < 2 ^ 32 := Nat.xor_lt_two_pow (by omega) (by omega)
 exact ⟨by omega, by omega⟩
set_option maxRecDepth 8000 in
theorem or_w {a b : Int} (ha : W32 a) (hb : W32 b) : W32 (bits .or .u32 a b) := by
 rw [u32_or a b ha.1 ha.2 hb.1 hb.2]
 have h0 := ha.1
 have h1 := ha.2
 have h2 := hb.1
 have h3 := hb.2
 have h : a.toNat ||| b.toNat < 2 ^ 32 := Nat.or_lt_two_pow (by omega) (by omega)
 exact ⟨by omega, by omega⟩
set_option maxRecDepth 8000 in
theorem rot_w (n : Nat) {x : Int} (hx : W32 x) : W32 (rot n x) := by
 unfold rot
 refine or_w ⟨by omega, by omega⟩ ⟨Int.ediv_nonneg hx.1 (Int.pow_nonneg (by decide)), ?_⟩
 exact Int.lt_of_le_of_lt (Int.ediv_le_self _ hx.1) hx.2
def ad (a b : Int) : Int := (a + b) % 4294967296
set_option maxRecDepth 8000 in
theorem ad_w (a b : Int) : W32 (ad a b) := ⟨by unfold ad; omega, by unfold ad; omega⟩
set_option maxRecDepth 8000 in
theorem wrap_ad (a b : Int) : IntKind.u32.wrap (a + b) = ad a b := by rw [IntKind.wrap_u32']; rfl

set_option maxRecDepth 8000 in
theorem rot16_eq (x : Int) : rot 16 x = bits .or .u32 (x * 65536 % 4294967296) (x / 65536) := rfl
set_option maxRecDepth 8000 in
set_option maxHeartbeats 400000 in
theorem turn16_c (x : Int) (hx : W32 x) (w : World) :
  Calls Tryz.prog 103 #[.int .u32 x, .int .i64 16] w fun e w' => ∃ z, e = .returned (.int .u32 z) ∧ Hid (z = rot 16 x) ∧ W32 z ∧ Below w.heap.size w w' := by
 have HZ : Hid (W32 (rot 16 x)) := rot_w 16 hx
 rw [rot16_eq] at HZ
 obtain ⟨x0, x1⟩ := hx
 go_enter Tryz.func103, Tryz.ntmps103
 go_wp2
 go_quiet (fail)
 go_wp2
 go_ret
 exact ⟨_, rfl, rfl, HZ.out, below_drewN (Below.refl _ _) _⟩

set_option maxRecDepth 8000 in
theorem rot12_eq (x : Int) : rot 12 x = bits .or .u32 (x * 4096 % 4294967296) (x / 1048576) := rfl
set_option maxRecDepth 8000 in
set_option maxHeartbeats 400000 in
theorem turn12_c (x : Int) (hx : W32 x) (w : World) :
  Calls Tryz.prog 103 #[.int .u32 x, .int .i64 12] w fun e w' => ∃ z, e = .returned (.int .u32 z) ∧ Hid (z = rot 12 x) ∧ W32 z ∧ Below w.heap.size w w' := by
 have HZ : Hid (W32 (rot 12 x)) := rot_w 12 hx
 rw [rot12_eq] at HZ
 obtain ⟨x0, x1⟩ := hx
 go_enter Tryz.func103, Tryz.ntmps103
 go_wp2
 go_quiet (fail)
 go_wp2
 go_ret
 exact ⟨_, rfl, rfl, HZ.out, below_drewN (Below.refl _ _) _⟩

set_option maxRecDepth 8000 in
theorem rot8_eq (x : Int) : rot 8 x = bits .or .u32 (x * 256 % 4294967296) (x / 16777216) := rfl
set_option maxRecDepth 8000 in
set_option maxHeartbeats 400000 in
theorem turn8_c (x : Int) (hx : W32 x) (w : World) :
  Calls Tryz.prog 103 #[.int .u32 x, .int .i64 8] w fun e w' => ∃ z, e = .returned (.int .u32 z) ∧ Hid (z = rot 8 x) ∧ W32 z ∧ Below w.heap.size w w' := by
 have HZ : Hid (W32 (rot 8 x)) := rot_w 8 hx
 rw [rot8_eq] at HZ
 obtain ⟨x0, x1⟩ := hx
 go_enter Tryz.func103, Tryz.ntmps103
 go_wp2
 go_quiet (fail)
 go_wp2
 go_ret
 exact ⟨_, rfl, rfl, HZ.out, below_drewN (Below.refl _ _) _⟩

set_option maxRecDepth 8000 in
theorem rot7_eq (x : Int) : rot 7 x = bits .or .u32 (x * 128 % 4294967296) (x / 33554432) := rfl
set_option maxRecDepth 8000 in
set_option maxHeartbeats 400000 in
theorem turn7_c (x : Int) (hx : W32 x) (w : World) :
  Calls Tryz.prog 103 #[.int .u32 x, .int .i64 7] w fun e w' => ∃ z, e = .returned (.int .u32 z) ∧ Hid (z = rot 7 x) ∧ W32 z ∧ Below w.heap.size w w' := by
 have HZ : Hid (W32 (rot 7 x)) := rot_w 7 hx
 rw [rot7_eq] at HZ
 obtain ⟨x0, x1⟩ := hx
 go_enter Tryz.func103, Tryz.ntmps103
 go_wp2
 go_quiet (fail)
 go_wp2
 go_ret
 exact ⟨_, rfl, rfl, HZ.out, below_drewN (Below.refl _ _) _⟩

/-- Four words, mixed. -/
def q4 (a b c d : Int) : Int × Int × Int × Int :=
 let a1 := ad a b
 let d1 := rot 16 (xr d a1)
 let c1 := ad c d1
 let b1 := rot 12 (xr b c1)
 let a2 := ad a1 b1
 let d2 := rot 8 (xr d1 a2)
 let c2 := ad c1 d2
 let b2 := rot 7 (xr b1 c2)
 (a2, b2, c2, d2)
set_option maxRecDepth 8000 in
theorem q4_of {a b c d a1 d1 c1 b1 a2 d2 c2 b2 : Int} (h1 : a1 = ad a b) (h2 : d1 = rot 16 (xr d a1)) (h3 : c1 = ad c d1) (h4 : b1 = rot 12 (xr b c1)) (h5 : a2 = ad a1 b1) (h6 : d2 = rot 8 (xr d1 a2)) (h7 : c2 = ad c1 d2) (h8 : b2 = rot 7 (xr b1 c2)) : (a2, b2, c2, d2) = q4 a b c d := by
 simp only [q4, ← h1, ← h2, ← h3, ← h4, ← h5, ← h6, ← h7, ← h8]

set_option maxRecDepth 8000 in
set_option maxHeartbeats 1000000 in
theorem quarter_c (a b c d : Int) (ha : W32 a) (hb : W32 b) (hc : W32 c) (hd : W32 d) (w : World) :
  Calls Tryz.prog 102 #[.int .u32 a, .int .u32 b, .int .u32 c, .int .u32 d] w fun e w' => ∃ p q r s, e = .returned (.tuple #[.int .u32 p, .int .u32 q, .int .u32 r, .int .u32 s]) ∧ Hid ((p, q, r, s) = q4 a b c d) ∧ W32 p ∧ W32 q ∧ W32 r ∧ W32 s ∧ Below w.heap.size w w' := by
 obtain ⟨a0, a9⟩ := ha
 obtain ⟨b0, b9⟩ := hb
 obtain ⟨c0, c9⟩ := hc
 obtain ⟨d0, d9⟩ := hd
 have HB : Hid (Below w.heap.size w w) := Below.refl _ _
 go_enter Tryz.func102, Tryz.ntmps102
 go_wp2_with fail
 have k1 : 0 ≤ (a + b) % 4294967296 := by omega
 have l1 : (a + b) % 4294967296 < 4294967296 := by omega
 generalize h1 : (a + b) % 4294967296 = a1 at *
 have Ha1 : Hid (a1 = ad a b) := h1.symm
 clear h1
 refine (turn16_c _ (xr_w (a := d) (b := a1) ⟨by omega, by omega⟩ ⟨k1, l1⟩) _).mono ?_
 rintro e w1 ⟨d1, rfl, Hd1, ⟨m1, n1⟩, hb⟩
 replace HB := hidp (HB.out.trans (hb.mono HB.out.size))
 clear hb
 go_wp2_with fail
 have k2 : 0 ≤ (c + d1) % 4294967296 := by omega
 have l2 : (c + d1) % 4294967296 < 4294967296 := by omega
 generalize h2 : (c + d1) % 4294967296 = c1 at *
 have Hc1 : Hid (c1 = ad c d1) := h2.symm
 clear h2
 refine (turn12_c _ (xr_w (a := b) (b := c1) ⟨by omega, by omega⟩ ⟨k2, l2⟩) _).mono ?_
 rintro e w2 ⟨b1, rfl, Hb1, ⟨m2, n2⟩, hb⟩
 replace HB := hidp (HB.out.trans (hb.mono HB.out.size))
 clear hb
 go_wp2_with fail
 have k3 : 0 ≤ (a1 + b1) % 4294967296 := by omega
 have l3 : (a1 + b1) % 4294967296 < 4294967296 := by omega
 generalize h3 : (a1 + b1) % 4294967296 = a2 at *
 have Ha2 : Hid (a2 = ad a1 b1) := h3.symm
 clear h3
 refine (turn8_c _ (xr_w (a := d1) (b := a2) ⟨by omega, by omega⟩ ⟨k3, l3⟩) _).mono ?_
 rintro e w3 ⟨d2, rfl, Hd2, ⟨m3, n3⟩, hb⟩
 replace HB := hidp (HB.out.trans (hb.mono HB.out.size))
 clear hb
 go_wp2_with fail
 have k4 : 0 ≤ (c1 + d2) % 4294967296 := by omega
 have l4 : (c1 + d2) % 4294967296 < 4294967296 := by omega
 generalize h4 : (c1 + d2) % 4294967296 = c2 at *
 have Hc2 : Hid (c2 = ad c1 d2) := h4.symm
 clear h4
 refine (turn7_c _ (xr_w (a := b1) (b := c2) ⟨by omega, by omega⟩ ⟨k4, l4⟩) _).mono ?_
 rintro e w4 ⟨b2, rfl, Hb2, ⟨m4, n4⟩, hb⟩
 replace HB := hidp (HB.out.trans (hb.mono HB.out.size))
 clear hb
 go_wp2
 refine bodyPost_ret (v := .tuple #[.int .u32 a2, .int .u32 b2, .int .u32 c2, .int .u32 d2]) (by simp [results, Tryz.results102, go_sem]) rfl ?_
 exact ⟨_, _, _, _, rfl, q4_of Ha1.out Hd1.out Hc1.out Hb1.out Ha2.out Hd2.out Hc2.out Hb2.out, ⟨k3, l3⟩, ⟨m4, n4⟩, ⟨k4, l4⟩, ⟨m3, n3⟩, HB.out⟩
end Go.Proofs.YtmibjgkakolhiaaGreatDoor
