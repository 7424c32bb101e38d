/-
  Several texts of one's own, laid together. No statement of the seat is proved here.
-/
import Derived.Test.YtlnbjehimabaiaaGreatDoorPk1
import Derived.Test.YtlnbjehimabaiaaGreatDoorPk38
import Derived.Test.YtlnbjehimabaiaaGreatDoorZRt
import Derived.Test.YtlnbjehimabaiaaGreatDoorPk39
import Derived.Test.YtlnbjehimabaiaaGreatDoorPk3
import Derived.Test.YtlnbjehimabaiaaGreatDoorPk43
import Derived.Test.YtlnbjehimabaiaaGreatDoorPk16
/-
 What shake's Read does, where it goes well or may not be. No statement of the seat is proved here.
-/
namespace Go.Proofs.YtlnbjehimabaiaaGreatDoor
open Go.RowKit
set_option maxRecDepth 8000

set_option maxHeartbeats 4000000 in
theorem heard11_c (b : Nat) (f : Bool) (ss sf : List Int) (S : S11) (p : P11) (SF : S11) (PF : P11) (MF : List Int) (st : Nat) (h3 : st < 3) (a : Option Addr) (len cap : Nat) (m : List Int) (w : World) (hs : Zs w b f ss sf S p false st) (hg : Gs w) (hr : Rd w a len cap m) (hq : Nq b a len) (hm : len ≤ 4096) (hk : rks f ss sf (tk11 st) m S p) (hqs : rqs f ss sf (tk11 st) m S p = (SF, PF, MF)) (hoe : oe9 SF.k SF.h SF.n SF.H MF = 0) :
  Calls Tryz.prog 35 #[.pointer (some ⟨b, 0, none⟩), .slice a len cap] w fun e w' => ∃ a n c X, e = .returned (.tuple #[.slice a n c, .int .i64 0]) ∧ Hid (X = ox9 SF.k SF.h SF.n SF.H MF) ∧ Hid (Rd w' a n c X) ∧ Hid (Zs w' b f ss sf ⟨SF.k, SF.h, on9 SF.k SF.h SF.n SF.H MF, h10 0 SF.H MF, SF.C⟩ PF false st) ∧ ExtB b w w' ∧ Fr w.heap.size a n := by
 have HS0 : Hid (Zs w b f ss sf S p false st) := hs
 have HG0 : Hid (Gs w) := hg
 have HRP : Hid (Rd w a len cap m) := hr
 have hlt := hs.lt
 have hg0 := hs.g0
 have hg1 := hs.g1
 have HOE : Hid (oe9 SF.k SF.h SF.n SF.H MF = 0) := hoe
 have HK : Hid (rks f ss sf (tk11 st) m S p) := hk
 have HQ0 : Hid (rqs f ss sf (tk11 st) m S p = (SF, PF, MF)) := hqs
 have c2 := hs.step.1
 have c3 := hg.cell st h3
 have q1 : (st : Int) < 3 := by omega
 have q0 : (0 : Int) ≤ (st : Int) := by omega
 have q4 : ¬ (len : Int) > 4096 := by omega
 clear hs hg hr hk hqs hoe
 go_enter Tryz.func35, Tryz.ntmps35
 go_wp2
 obtain ⟨it, hit0⟩ : ∃ q, q = w.heap.size := ⟨_, rfl⟩
 rw [← hit0]
 have HIT : Hid (it = w.heap.size) := hit0
 clear hit0
 go_loopw [1] (fun mv wr => ∃ (pos : Nat) (Sc : S11) (pc : P11) (a : Option Addr) (n c : Nat) (mm : List Int), mv = .slice a n c ∧ Hid (Rd wr a n c mm) ∧ Nq b a n ∧ Hid (Zs wr b f ss sf Sc pc false st) ∧ Hid (ExtB b w wr) ∧ wr.heap[it]? = some (.stringIter (tB st) pos) ∧ pos ≤ (tB st).size ∧ Hid (rqs f ss sf ((tk11 st).drop pos) mm Sc pc = (SF, PF, MF)) ∧ Hid (rks f ss sf ((tk11 st).drop pos) mm Sc pc) ∧ n ≤ len) (fun _ wr => (tB st).size - wr.iterPos it)
 case atStart =>
  have hb := bel1 w (.stringIter (tB st) 0)
  exact ⟨0, S, p, a, len, cap, m, rfl, HRP.out.below hb, hq, HS0.out.later hb, extb_of hb, by rw [HIT.out]; exact heap_alloc_new w _, Nat.zero_le _, HQ0, HK, Nat.le_refl _⟩
 case round =>
  clear c2 c3 q0 q1 q4
  obtain ⟨pos, Sc, pc, a, n, c, mm, rfl, RX, HNQ, HS, HE, hit, hps, HQ, HKs, hnl⟩ := hrel
  have hsi : it < wr.heap.size := (Array.getElem?_eq_some_iff.1 hit).1
  have hiw : w.heap.size ≤ it := by rw [HIT.out]; exact Nat.le_refl _
  have hbi : b < it := by omega
  by_cases hp : pos < (tB st).size
  ·obtain ⟨hasc, htk⟩ := tB_at st pos h3 hp
   have hnx : ∀ ty, (Instr.next (.pointer (some ⟨it, 0, none⟩)) true ty).run Tryz.prog wr = _ := fun ty => Lib.run_next_ascii_at wr it (tB st) pos ty hit hp hasc
   obtain ⟨t, ht⟩ : ∃ t : Int, t = (((tB st)[pos]'hp).toNat : Int) := ⟨_, rfl⟩
   simp only [← ht] at hnx
   rw [← ht] at htk
   have h5 := tk_mem htk
   rw [tk_drop htk] at HQ HKs
   have hx0 := extb_iterAt wr it (tB st) (pos + 1)
   have hit2 := Lib.iterAt_heap wr it (tB st) pos (pos + 1) hit
   have hsz2 : wr.heap.size = (wr.iterAt it (tB st) (pos + 1)).heap.size := (Lib.iterAt_size _ _ _ _).symm
   replace HS : Hid (Zs (wr.iterAt it (tB st) (pos + 1)) b f ss sf Sc pc false st) := HS.out.extb hx0 (by omega)
   replace RX : Hid (Rd (wr.iterAt it (tB st) (pos + 1)) a n c mm) := RX.out.nq hx0 (nq_iter RX.out hit)
   replace HE : Hid (ExtB b w (wr.iterAt it (tB st) (pos + 1))) := extb_iter HE.out (by omega) _ _
   obtain ⟨W1, hW1⟩ : ∃ W, W = wr.iterAt it (tB st) (pos + 1) := ⟨_, rfl⟩
   rw [← hW1] at HS RX HE hit2 hsz2
   rw [← hW1] at hnx
   have HIT0 : Hid (wr.heap[it]? = some (.stringIter (tB st) pos)) := hit
   clear hx0 hW1 hit hasc htk ht
   go_wp2_with fail
   refine (rtok_c b f ss sf Sc pc st a n c mm _ HS.out (HS0.out.gs HG0.out HE.out) RX.out HNQ t h5 HKs.out.1).mono ?_
   rintro e V ⟨a1, n1, c1, rfl, hn1, R1, HNQ1, HS1, hb⟩
   clear hnx
   have hitV : V.heap[it]? = some (.stringIter (tB st) (pos + 1)) := (hb.block it (by omega) (by omega)).trans hit2
   replace HE : Hid (ExtB b w V) := HE.out.comp hb
   clear hb hit2 HS hsz2 RX
   go_wp2
   go_roundw
   case rel => exact ⟨pos + 1, _, _, a1, n1, c1, _, rfl, R1, HNQ1, HS1, HE, hitV, by omega, HQ, HKs.out.2, by omega⟩
   case measure =>
    simp only [World.iterPos, hitV, HIT0.out]
    omega
  ·have hnx : ∀ ty, (Instr.next (.pointer (some ⟨it, 0, none⟩)) true ty).run Tryz.prog wr = _ := fun ty => Lib.run_next_end_at wr it (tB st) pos ty hit hp
   have hdr : (tk11 st).drop pos = [] := List.drop_eq_nil_of_le (by have := tB_size st; omega)
   rw [hdr] at HQ
   have hQ3 : (Sc, pc, mm) = (SF, PF, MF) := HQ.out
   simp only [Prod.mk.injEq] at hQ3
   obtain ⟨rfl, rfl, rfl⟩ := hQ3
   clear HQ HKs hdr hit HQ0 HK
   have hwr := HE.out.size
   go_wp2_with fail
   refine (open10_c b Sc.k Sc.h Sc.n Sc.H Sc.C a n c mm _ HS.out.my RX.out (HS0.out.gs HG0.out HE.out).gb hg0 hg1 (by omega)).mono ?_
   rintro e V ⟨a1, n1, c1, X1, E, n', rfl, HX1, HEE, HN', R1, HM, hx, hfr⟩
   clear hnx
   have hE0 : E = 0 := by rw [HEE.out]; exact HOE.out
   subst hE0
   have HS1 : Hid (Zs V b f ss sf ⟨Sc.k, Sc.h, on9 Sc.k Sc.h Sc.n Sc.H mm, h10 0 Sc.H mm, Sc.C⟩ pc false st) := by rw [← HN'.out]; exact HS.out.sym HM.out hx
   replace HE : Hid (ExtB b w V) := HE.out.comp hx.ext
   have hfr2 : Fr w.heap.size a1 n1 := hfr.mono hwr
   clear HM hx HS HEE HN' hfr
   go_wp2
   go_ret2
   exact ⟨a1, n1, c1, X1, rfl, HX1, R1, HS1, HE.out, hfr2⟩
set_option maxHeartbeats 4000000 in
theorem read11_c (b : Nat) (f : Bool) (ss sf : List Int) (S : S11) (p : P11) (SF : S11) (PF : P11) (MF : List Int) (st : Nat) (hlt3 : st < 3) (hwr : wr11 f st = false) (a : Option Addr) (len cap : Nat) (m : List Int) (w : World) (hs : Zs w b f ss sf S p false st) (hg : Gs w) (hr : Rd w a len cap m) (hq : Nq b a len) (hm : len ≤ 4096) (hk : rks f ss sf (tk11 st) m S p) (hqs : rqs f ss sf (tk11 st) m S p = (SF, PF, MF)) (hoe : oe9 SF.k SF.h SF.n SF.H MF = 0) :
  Calls Tryz.prog 11 #[.pointer (some ⟨b, 0, none⟩), .slice a len cap] w fun e w' => ∃ a n c X, e = .returned (.tuple #[.slice a n c, .int .i64 0]) ∧ Hid (X = ox9 SF.k SF.h SF.n SF.H MF) ∧ Hid (Rd w' a n c X) ∧ Hid (Zs w' b f ss sf ⟨SF.k, SF.h, on9 SF.k SF.h SF.n SF.H MF, h10 0 SF.H MF, SF.C⟩ PF false (st + 1 : Nat)) ∧ ExtB b w w' ∧ Fr w.heap.size a n := by
 have HS : Hid (Zs w b f ss sf S p false st) := hs
 have HG : Hid (Gs w) := hg
 have HR : Hid (Rd w a len cap m) := hr
 have HOE : Hid (oe9 SF.k SF.h SF.n SF.H MF = 0) := hoe
 have HK : Hid (rks f ss sf (tk11 st) m S p) := hk
 have HQ0 : Hid (rqs f ss sf (tk11 st) m S p = (SF, PF, MF)) := hqs
 have hlt := hs.lt
 have h4 : st = 0 ∨ st = 1 ∨ st = 2 ∨ st = 3 := by omega
 clear hs hg hr hk hqs hoe
 go_enter Tryz.func11, Tryz.ntmps11
 go_wp2_with fail
 refine (open11_c b f ss sf S p st h4 _ HS.out).mono ?_
 rintro e V ⟨rfl, hw0⟩
 rw [hw0, decide_eq_true hlt3]
 clear hw0 V
 go_wp2_with fail
 refine (writes11_c b f ss sf S p st h4 _ HS.out).mono ?_
 rintro e V1 ⟨rfl, hb⟩
 rw [hwr]
 replace HS := hidp (HS.out.later hb)
 have HB : Hid (Below w.heap.size w V1) := hb
 replace HG := hidp (HG.out.later hb)
 replace HR := hidp (HR.out.below hb)
 clear hb
 go_wp2_with fail
 refine (heard11_c b f ss sf S p SF PF MF st hlt3 a len cap m _ HS.out HG.out HR.out hq hm HK.out HQ0.out HOE.out).mono ?_
 rintro e V2 ⟨a1, n1, c1, X, rfl, HX, RX, HS2, hb, hfr⟩
 have hfr2 : Fr w.heap.size a1 n1 := hfr.mono HB.out.size
 have HNQ : Hid (Nq b a1 n1) := hfr2.nq hlt
 have HE : Hid (ExtB b w V2) := (extb_of HB.out).comp hb
 clear hb hfr HS HG HR HK HQ0 HOE HB
 go_wp2_with fail
 refine (went11_c b f ss sf _ PF st h4 _ HS2.out).mono ?_
 rintro e V3 ⟨rfl, HS3, hb⟩
 replace RX : Hid (Rd V3 a1 n1 c1 X) := RX.out.nq hb HNQ.out
 replace HE : Hid (ExtB b w V3) := HE.out.comp hb
 clear hb HS2 HNQ
 go_wp2
 go_ret2
 exact ⟨a1, n1, c1, X, rfl, HX, RX, HS3, HE.out, hfr2⟩
set_option maxHeartbeats 4000000 in
theorem read11_no (b : Nat) (f : Bool) (ss sf : List Int) (S : S11) (p : P11) (st : Nat) (h4 : st = 0 ∨ st = 1 ∨ st = 2 ∨ st = 3) (hno : st = 3 ∨ wr11 f st = true) (a : Option Addr) (len cap : Nat) (w : World) (hs : Zs w b f ss sf S p false st) :
  Calls Tryz.prog 11 #[.pointer (some ⟨b, 0, none⟩), .slice a len cap] w fun e w' => e = .returned (.tuple #[.slice none 0 0, .int .i64 4]) ∧ Below w.heap.size w w' := by
 have HS : Hid (Zs w b f ss sf S p false st) := hs
 clear hs
 by_cases hlt3 : st < 3
 ·have hwr : wr11 f st = true := by
   rcases hno with h | h
   ·omega
   ·exact h
  clear hno
  go_enter Tryz.func11, Tryz.ntmps11
  go_wp2_with fail
  refine (open11_c b f ss sf S p st h4 _ HS.out).mono ?_
  rintro e V ⟨rfl, hw0⟩
  rw [hw0, decide_eq_true hlt3]
  clear hw0 V
  go_wp2_with fail
  refine (writes11_c b f ss sf S p st h4 _ HS.out).mono ?_
  rintro e V1 ⟨rfl, hb⟩
  rw [hwr]
  replace HS := hidp (HS.out.later hb)
  have HB : Hid (Below w.heap.size w V1) := hb
  clear hb
  go_wp2
  go_ret2
  exact ⟨rfl, HB.out⟩
 ·go_enter Tryz.func11, Tryz.ntmps11
  go_wp2_with fail
  refine (open11_c b f ss sf S p st h4 _ HS.out).mono ?_
  rintro e V ⟨rfl, hw0⟩
  rw [hw0, decide_eq_false hlt3]
  clear hw0 V
  go_wp2
  go_ret2
  exact ⟨rfl, Below.refl _ _⟩
end Go.Proofs.YtlnbjehimabaiaaGreatDoor
/-
 What portholehand's Secret does: thirty-two bytes of a number (over KGen: no field). No statement of the seat is proved here.
-/
namespace Go.Proofs.YtlnbjehimabaiaaGreatDoor
open Go.RowKit
set_option maxRecDepth 8000

/-- The next number, and the bytes of those behind it. -/
def lcg (x : Int) : Int := (x * 6364136223846793005 + 1442695040888963407) % 18446744073709551616
def sst (x : Int) : Nat → Int
 | 0 => x
 | k + 1 => lcg (sst x k)
def sby (x : Int) : Nat → List Int
 | 0 => []
 | k + 1 => sby x k ++ [sst x (k + 1) / 1099511627776 % 256]
def sec (n : Int) : List Int := sby (lcg (n % 18446744073709551616)) 32
theorem sby_len (x : Int) : ∀ k, (sby x k).length = k
 | 0 => rfl
 | k + 1 => by rw [sby, List.length_append, sby_len x k]; rfl
theorem sby_byt (x : Int) : ∀ k, Byt (sby x k)
 | 0 => fun _ h => by simp [sby] at h
 | k + 1 => fun y h => by
  rw [sby, List.mem_append] at h
  rcases h with h | h
  ·exact sby_byt x k y h
  ·rw [List.mem_singleton.1 h]
   omega
theorem sec_bn (n : Int) : Bn 32 (sec n) := ⟨sby_len _ _, sby_byt _ _⟩
theorem lcg_wd (x : Int) : 0 ≤ lcg x ∧ lcg x < 18446744073709551616 := ⟨by unfold lcg; omega, by unfold lcg; omega⟩

set_option maxHeartbeats 2000000 in
theorem secret_c (n : Int) (w : World) :
  Calls Tryz.prog 16 #[.int .i64 n] w fun e w' => e = .returned (.agg (List.map (Value.int .u8) (sec n)).toArray) ∧ Below w.heap.size w w' := by
 obtain ⟨x0, hx0⟩ : ∃ x0, x0 = lcg (n % 18446744073709551616) := ⟨_, rfl⟩
 have hw0 : IntKind.u64.wrap (IntKind.u64.wrap (IntKind.u64.wrap n * 6364136223846793005) + 1442695040888963407) = x0 := by
  rw [IntKind.wrap_u64, IntKind.wrap_u64, IntKind.wrap_u64, hx0]
  unfold lcg
  omega
 have hx1 : 0 ≤ x0 ∧ x0 < 18446744073709551616 := by rw [hx0]; exact lcg_wd _
 have HX : Hid (sec n = sby x0 32) := by unfold Hid sec; rw [hx0]
 clear hx0
 go_enter Tryz.func16, Tryz.ntmps16
 go_wp2
 clear hw0
 have HD : Hid (((w.alloc (.cells zb32 30)).alloc (.cells zb32 30)).there (w.heap.size) 0 32) := there_later (bel1 _ _) (there_new w 32 zb32 rfl 30)
 have HK : Hid (((w.alloc (.cells zb32 30)).alloc (.cells zb32 30)).there (w.heap.size + 1) 0 32) := by have := there_new (w.alloc (.cells zb32 30)) 32 zb32 rfl 30; simpa [Hid] using this
 have HB : Hid (Below w.heap.size w ((w.alloc (.cells zb32 30)).alloc (.cells zb32 30))) := bel2 _ _ _
 generalize (w.alloc (.cells zb32 30)).alloc (.cells zb32 30) = W0 at *
 have k1 : w.heap.size < w.heap.size + 1 := by omega
 generalize w.heap.size + 1 = b1 at *
 go_loopw [4, 5] (fun p i wl => ∃ (k : Nat) (v : Int), k ≤ 32 ∧ i = .int .i64 k ∧ p = .int .u64 v ∧ 0 ≤ v ∧ v < 18446744073709551616 ∧ Hid (v = sst x0 k) ∧ Hid (wl.there (w.heap.size) 0 32) ∧ Hid (wl.there b1 0 32) ∧ Hid (wl.rangeAt b1 0 (List.map (Value.int .u8) (sby x0 k))) ∧ Hid (Below w.heap.size w wl)) (fun _ i _ => 32 - (intOf i).toNat)
 case atStart => exact ⟨0, x0, by decide, rfl, rfl, hx1.1, hx1.2, rfl, HD, HK, fun j v hv => by simp [sby] at hv, HB⟩
 case round =>
  clear HD HK HB
  obtain ⟨k, v, hk, rfl, rfl, v0, v1, HV, HD, HK, HR, HB⟩ := hrel
  by_cases hlt : k < 32
  ·obtain ⟨c, hc, hf⟩ := there_cell HK.out k hlt
   have g1 : (k : Int) < 32 := by omega
   obtain ⟨v', hv'⟩ : ∃ v', v' = lcg v := ⟨_, rfl⟩
   have hw1 : IntKind.u64.wrap (IntKind.u64.wrap (v * 6364136223846793005) + 1442695040888963407) = v' := by
    rw [IntKind.wrap_u64, IntKind.wrap_u64, hv']
    unfold lcg
    omega
   have hwd : 0 ≤ v' ∧ v' < 18446744073709551616 := by rw [hv']; exact lcg_wd _
   have HV' : Hid (v' = sst x0 (k + 1)) := by unfold Hid; rw [sst, ← HV.out, hv']
   obtain ⟨bb, hbb⟩ : ∃ bb, bb = v' / 1099511627776 % 256 := ⟨_, rfl⟩
   have hw8 : IntKind.u8.wrap (v' / 1099511627776) = bb := by
    rw [IntKind.wrap_u8, hbb]
   have HBB : Hid (bb = sst x0 (k + 1) / 1099511627776 % 256) := by unfold Hid; rw [hbb, ← HV'.out]
   clear hv' hbb
   obtain ⟨hwd0, hwd1⟩ := hwd
   go_wp2
   clear hw1 hw8
   go_roundw
   case rel => exact ⟨k + 1, v', by omega, by go_num, rfl, hwd0, hwd1, HV', there_set HD.out _ _ _, there_set HK.out _ _ _, by
    unfold Hid
    rw [sby, List.map_append, ← HBB.out]
    exact range_snoc HR.out (k := k) (by rw [List.length_map, sby_len]) HK.out hlt (.int .u8 bb), HB.out.setCell (p := ⟨b1, k, none⟩) (by dsimp only; omega) _⟩
   case measure => simp [intOf]; omega
  ·have e : k = 32 := by omega
   subst e
   have HY : Hid (Bn 32 (sec n)) := sec_bn n
   obtain ⟨hlen, hone, hi⟩ := bn32_cells HY.out
   have HR' : Hid (wr.rangeAt b1 0 (List.map (Value.int .u8) (sec n))) := by unfold Hid; rw [HX.out]; exact HR.out
   clear HR
   generalize hcs : (List.map (Value.int .u8) (sec n)) = cs at *
   have HE : Hid ((List.map (Value.int .u8) (sec n)) = cs) := hcs
   clear hcs
   go_wp2_with (first
    | (refine wpList_load_mid rfl 30 (.tmp 3) rfl b1 0 rfl cs _ HR'.out Tryz.underlying30 rfl hi ?_)
    | (refine wpList_store_mid rfl 30 (.tmp 2) (.tmp 22) rfl (w.heap.size) 0 cs.toArray rfl rfl (by simpa [hlen] using HD.out) (by simpa using hi) (all_oneCell_toArray hone) ?_))
   have HR2 : Hid ((wr.setCells (w.heap.size) 0 cs).rangeAt (w.heap.size) 0 cs) := World.rangeAt_setCells_same _ _ _ _ (by rw [hlen]; exact HD.out)
   have hld := run_loadVar_mid (P := Tryz.prog) _ _ 0 30 _ _ HR2.out Tryz.underlying30 rfl hi
   exact bodyPost_ret (v := .agg cs.toArray) (by simp [results, Tryz.results16]; exact hld) rfl ⟨by rw [HE.out], below_setCells _ (by omega) _ _ _ HB.out⟩
theorem secret_l (n : Int) (w : World) :
  Calls Tryz.prog 16 #[.int .i64 n] w fun e w' => ∃ K, e = .returned (.agg (List.map (Value.int .u8) K).toArray) ∧ Hid (K = sec n) ∧ Hid (Bn 32 K) ∧ Below w.heap.size w w' :=
 (secret_c n w).mono fun _ _ ⟨h, hb⟩ => ⟨sec n, h, rfl, sec_bn n, hb⟩
end Go.Proofs.YtlnbjehimabaiaaGreatDoor
/-
 What law 11's pair and known do. No statement of the seat is proved here.
-/
namespace Go.Proofs.YtlnbjehimabaiaaGreatDoor
open Go.RowKit
set_option maxRecDepth 8000

set_option maxHeartbeats 4000000 in
theorem pair_l (ap : Option Addr) (lp cp : Nat) (pr : List Int) (ao : Option Addr) (lo co : Nat) (ot : List Int) (seed : Int) (h0 : 0 ≤ seed ∧ seed ≤ 1000) (w : World) (hp : Rd w ap lp cp pr) (ho : Rd w ao lo co ot) (hg : Gs w) (hmp : lp ≤ 281474976710656) (hmo : lo ≤ 281474976710656) :
  Calls Tryz.prog 8 #[.slice ap lp cp, .slice ao lo co, .int .i64 seed] w fun e w' => ∃ ba bb sa ea sb eb, e = .returned (.tuple #[.pointer (some ⟨ba, 0, none⟩), .pointer (some ⟨bb, 0, none⟩)]) ∧ w.heap.size ≤ ba ∧ ba < bb ∧ Hid (sb = sec (seed + 2)) ∧ Hid (Zs w' ba true sa ea (s11 pr) ⟨z9l, z9l, false⟩ false (0 : Nat)) ∧ Hid (Zs w' bb false sb eb (s11 ot) ⟨z9l, z9l, false⟩ false (0 : Nat)) ∧ Below w.heap.size w w' := by
 obtain ⟨h0, h1⟩ := h0
 have HP : Hid (Rd w ap lp cp pr) := hp
 have HO : Hid (Rd w ao lo co ot) := ho
 have HG : Hid (Gs w) := hg
 clear hp ho hg
 go_enter Tryz.func8, Tryz.ntmps8
 go_wp2_with fail
 refine (secret_l _ _).mono ?_
 rintro e V1 ⟨sa, rfl, Hsa, Hsan, hb⟩
 replace HG := hidp (HG.out.later hb)
 replace HP := hidp (HP.out.below hb)
 replace HO := hidp (HO.out.below hb)
 have HB : Hid (Below w.heap.size w V1) := hb
 clear hb
 go_wp2_with fail
 refine (secret_l _ _).mono ?_
 rintro e V2 ⟨ea, rfl, Hea, Hean, hb⟩
 replace HG := hidp (HG.out.later hb)
 replace HP := hidp (HP.out.below hb)
 replace HO := hidp (HO.out.below hb)
 replace HB := hidp (HB.out.trans (hb.mono HB.out.size))
 clear hb
 go_wp2_with fail
 refine (new11_c true ap lp cp pr sa ea Hsan.out Hean.out _ HP.out HG.out (by omega)).mono ?_
 rintro e V3 ⟨ba, rfl, kba, ZA, hb⟩
 have kba' : w.heap.size ≤ ba := Nat.le_trans HB.out.size kba
 replace HG := hidp (HG.out.later hb)
 replace HP := hidp (HP.out.below hb)
 replace HO := hidp (HO.out.below hb)
 replace HB := hidp (HB.out.trans (hb.mono HB.out.size))
 clear hb
 have kla := ZA.out.lt
 go_wp2_with fail
 refine (secret_l _ _).mono ?_
 rintro e V4 ⟨sb, rfl, Hsb, Hsbn, hb⟩
 replace kla := Nat.lt_of_lt_of_le kla hb.size
 replace HG := hidp (HG.out.later hb)
 replace HP := hidp (HP.out.below hb)
 replace HO := hidp (HO.out.below hb)
 replace ZA := hidp (ZA.out.later hb)
 replace HB := hidp (HB.out.trans (hb.mono HB.out.size))
 clear hb
 go_wp2_with fail
 refine (secret_l _ _).mono ?_
 rintro e V5 ⟨eb, rfl, Heb, Hebn, hb⟩
 replace kla := Nat.lt_of_lt_of_le kla hb.size
 replace HG := hidp (HG.out.later hb)
 replace HP := hidp (HP.out.below hb)
 replace HO := hidp (HO.out.below hb)
 replace ZA := hidp (ZA.out.later hb)
 replace HB := hidp (HB.out.trans (hb.mono HB.out.size))
 clear hb
 go_wp2_with fail
 refine (new11_c false ao lo co ot sb eb Hsbn.out Hebn.out _ HO.out HG.out (by omega)).mono ?_
 rintro e V6 ⟨bb, rfl, kbb, ZB, hb⟩
 have kbb' : w.heap.size ≤ bb := Nat.le_trans HB.out.size kbb
 have hab : ba < bb := by omega
 replace ZA := hidp (ZA.out.later hb)
 replace HB := hidp (HB.out.trans (hb.mono HB.out.size))
 clear hb
 clear HG HP HO
 go_wp2
 go_ret2
 exact ⟨ba, bb, sa, ea, sb, eb, rfl, kba', hab, Hsb, ZA, ZB, HB.out⟩
end Go.Proofs.YtlnbjehimabaiaaGreatDoor
