/-
  TermNames' walk. No statement of the seat is proved here.
-/
import Derived.Test.YtifcdmiopanedaaDoorW12B
import Derived.Test.YtifcdmiopanedaaDoorTTm
import Derived.Test.YtifcdmiopanedaaDoorTRz
namespace Go.Proofs.YtifcdmiopanedaaDoor
open Go.RowKit
set_option linter.unusedVariables false
set_option linter.unusedSimpArgs false

/-- A term's own Name, through the interface. -/
theorem Tm.own {t : TypeId} {v : Value} {l : List UInt8} {s : Nat} (h : Tm t v l s) : Wrote (.iface t v) l ∧ (l.length + 64 ≤ 140737488355328 → ∃ F, (∀ w, (method 208 t v "Name").run Tryd.prog w = .ok (F, v) w) ∧ (∀ args w, (callFunc F args).run Tryd.prog w = .ok (.enter F args) w) ∧ ∀ w, Gt w → Calls Tryd.prog F #[v] w fun e u => e = .returned (.string ⟨l.toArray⟩) ∧ Below w.heap.size w u) :=
  h (fun t v l s => Wrote (.iface t v) l ∧ (l.length + 64 ≤ 140737488355328 → ∃ F, (∀ w, (method 208 t v "Name").run Tryd.prog w = .ok (F, v) w) ∧ (∀ args w, (callFunc F args).run Tryd.prog w = .ok (.enter F args) w) ∧ ∀ w, Gt w → Calls Tryd.prog F #[v] w fun e u => e = .returned (.string ⟨l.toArray⟩) ∧ Below w.heap.size w u))
    (⟨wrote_Empty, fun hl => ⟨62, fun _ => by kernel_rfl, enters_of Tryd.func62 (by kernel_rfl) rfl, fun w hw => name_Empty hl w hw⟩⟩)
    (fun n n0 n1 => ⟨wrote_Atom n n0 n1, fun hl => ⟨63, fun _ => by kernel_rfl, enters_of Tryd.func63 (by kernel_rfl) rfl, fun w hw => name_Atom n n0 n1 hl w hw⟩⟩)
    (fun n n0 n1 => ⟨wrote_Public n n0 n1, fun hl => ⟨61, fun _ => by kernel_rfl, enters_of Tryd.func61 (by kernel_rfl) rfl, fun w hw => name_Public n n0 n1 hl w hw⟩⟩)
    (fun n m n0 n1 m0 m1 => ⟨wrote_Shared n m n0 n1 m0 m1, fun hl => ⟨64, fun _ => by kernel_rfl, enters_of Tryd.func64 (by kernel_rfl) rfl, fun w hw => name_Shared n m n0 n1 m0 m1 hl w hw⟩⟩)
    (fun n tx vx ty vy nx ny sx sy n0 n1 px py => ⟨wrote_Chain n tx vx nx ty vy ny n0 n1 px.1 py.1, fun hl => ⟨11, fun _ => by kernel_rfl, enters_of Tryd.func11 (by kernel_rfl) rfl, fun w hw => name_Chain n tx vx nx ty vy ny n0 n1 px.1 py.1 hl w hw⟩⟩)
    (fun tx vx ty vy nx ny sx sy px py => ⟨wrote_Digest tx vx nx ty vy ny px.1 py.1, fun hl => ⟨12, fun _ => by kernel_rfl, enters_of Tryd.func12 (by kernel_rfl) rfl, fun w hw => name_Digest tx vx nx ty vy ny px.1 py.1 hl w hw⟩⟩)
    (fun n tx vx ty vy tz vz nx ny nz sx sy sz n0 n1 px py pz => ⟨wrote_Box n tx vx nx ty vy ny tz vz nz n0 n1 px.1 py.1 pz.1, fun hl => ⟨10, fun _ => by kernel_rfl, enters_of Tryd.func10 (by kernel_rfl) rfl, fun w hw => name_Box n tx vx nx ty vy ny tz vz nz n0 n1 px.1 py.1 pz.1 hl w hw⟩⟩)
theorem Tm.some {t : TypeId} {v : Value} {l : List UInt8} {s : Nat} (h : Tm t v l s) : ([63] == l) = false :=
  ne_of_apart (h (fun _ _ l _ => [63] ≠ l) (fun h => absurd (List.cons.inj h).1 (by decide)) (fun _ _ _ => fun h => absurd (List.cons.inj h).1 (by decide)) (fun _ _ _ => fun h => absurd (List.cons.inj h).1 (by decide)) (fun _ _ _ _ _ _ => fun h => absurd (List.cons.inj h).1 (by decide)) (fun _ _ _ _ _ _ _ _ _ _ _ _ _ => fun h => absurd (List.cons.inj h).1 (by decide)) (fun _ _ _ _ _ _ _ _ _ _ => fun h => absurd (List.cons.inj h).1 (by decide)) (fun _ _ _ _ _ _ _ _ _ _ _ _ _ _ _ _ _ _ => fun h => absurd (List.cons.inj h).1 (by decide)))
set_option maxRecDepth 8000 in
set_option maxHeartbeats 4000000 in
theorem termNames_walk (a : Option Addr) (len cap : Nat) (a1 a2 : Int) (ha1 : -9223372036854775808 ≤ a1 ∧ a1 ≤ 9223372036854775807) (ha2 : -9223372036854775808 ≤ a2 ∧ a2 ≤ 9223372036854775807) (w : World) (hr : RdR w a len) (hg : Gt w) : Calls Tryd.prog 4 #[.slice a len cap, .int .i64 a1, .int .i64 a2] w fun e u => e = .returned (.bool true) ∧ Below w.heap.size w u := by
  have HG : Hid (Gt w) := hg
  clear hg
  go_enter Tryd.func4, Tryd.ntmps4
  go_wp2_with fail
  refine (terms_c a len cap w hr).mono ?_
  rintro e U ⟨g, m, c, rfl, HT, hb⟩
  have HB : Hid (Below w.heap.size w U) := hb
  have hm0 : 1 ≤ m := HT.out.1
  have hm1 : m ≤ 41 := HT.out.2.1
  clear hb hr
  go_wp2_with fail
  refine (pick_any a1 m ha1 (by omega) _).mono ?_
  rintro e U2 ⟨kx, rfl, kx0, kx1, hw2⟩
  obtain rfl := hw2.symm
  obtain ⟨jx, rfl⟩ : ∃ j : Nat, kx = j := ⟨kx.toNat, by omega⟩
  have hjx : jx < m := by omega
  obtain ⟨tx, vx, lx, sx, hcx, px, hsx⟩ := HT.out.2.2 jx hjx
  have Px : Hid (Tm tx vx lx sx) := px
  have Sx : Hid (sx ≤ 60) := hsx
  clear px hsx
  go_wp2_with fail
  refine (pick_any a2 m ha2 (by omega) _).mono ?_
  rintro e U2 ⟨ky, rfl, ky0, ky1, hw2⟩
  obtain rfl := hw2.symm
  obtain ⟨jy, rfl⟩ : ∃ j : Nat, ky = j := ⟨ky.toNat, by omega⟩
  have hjy : jy < m := by omega
  obtain ⟨ty, vy, ly, sy, hcy, py, hsy⟩ := HT.out.2.2 jy hjy
  have Py : Hid (Tm ty vy ly sy) := py
  have Sy : Hid (sy ≤ 60) := hsy
  clear py hsy
  have lex := Sx.out
  have ley := Sy.out
  have llx := Px.out.len.2
  have lly := Py.out.len.2
  obtain ⟨F, hm, he, hF⟩ := Px.out.own.2 (by omega)
  obtain ⟨bb, hbb⟩ : ∃ z, (lx == ly) = z := ⟨_, rfl⟩
  have NM : Hid (∀ w, Gt w → Calls Tryd.prog F #[vx] w fun e u => e = .returned (.string ⟨lx.toArray⟩) ∧ Below w.heap.size w u) := fun w hw => hF w hw
  have NX : Hid (∀ w, Calls Tryd.prog 19 #[.iface tx vx] w fun e u => e = .returned (.string ⟨lx.toArray⟩) ∧ Below w.heap.size w u) := fun w => hname_c Px.out.plain (by omega) w
  have NY : Hid (∀ w, Calls Tryd.prog 19 #[.iface ty vy] w fun e u => e = .returned (.string ⟨ly.toArray⟩) ∧ Below w.heap.size w u) := fun w => hname_c Py.out.plain (by omega) w
  have ZX : Hid (∀ w, Calls Tryd.prog 15 #[.iface tx vx] w fun e u => e = .returned (.int .i64 (sx : Nat)) ∧ Below w.heap.size w u) := fun w => size_c Px.out.cs (by omega) w
  have PL : Hid (Plained (.iface tx vx) lx) := Px.out.plain
  have HC : Hid (cnt lx = sx) := Px.out.cnt
  have HL : Hid (sx ≤ 10000) := by unfold Hid; omega
  have SXY := same_t Px.out Py.out (by omega) (by omega) bb hbb
  have SXX := same_t Px.out Px.out (by omega) (by omega) true (by simp)
  have SNN : Hid (∀ w, Gt w → Calls Tryd.prog 13 #[.nilIface, .nilIface] w fun e u => e = .returned (.bool true) ∧ Below w.heap.size w u) := fun w hw => by have h := same_c wrote_nil wrote_nil (by decide) (by decide) (by decide) (by decide) w hw; exact h
  have SNX : Hid (∀ w, Gt w → Calls Tryd.prog 13 #[.nilIface, .iface tx vx] w fun e u => e = .returned (.bool false) ∧ Below w.heap.size w u) := fun w hw => by have h := same_c wrote_nil Px.out.wrote (by decide) Px.out.isName.pos (by decide) (by omega) w hw; rw [Px.out.some] at h; exact h
  have KN : Hid (∀ w, Gt w → Calls Tryd.prog 9 #[] w fun e u => e = .returned (.bool true) ∧ Below w.heap.size w u) := known_c
  clear lex ley llx lly hF HT
  go_wp2_with fail
  refine (KN.out _ (HG.out.later HB.out)).mono ?_
  rintro e u0 ⟨rfl, hb⟩
  replace HB : Hid (Below w.heap.size w u0) := HB.out.trans (hb.mono HB.out.size)
  clear hb hcx hcy
  go_wp2_with fail
  refine (NM.out _ (HG.out.later HB.out)).mono ?_
  rintro e u1 ⟨rfl, hb⟩
  replace HB : Hid (Below w.heap.size w u1) := HB.out.trans (hb.mono HB.out.size)
  clear hb hm he
  go_wp2_with fail
  refine (NX.out _).mono ?_
  rintro e u2 ⟨rfl, hb⟩
  replace HB : Hid (Below w.heap.size w u2) := HB.out.trans (hb.mono HB.out.size)
  clear hb
  go_wp2_with fail
  refine (ZX.out _).mono ?_
  rintro e u3 ⟨rfl, hb⟩
  replace HB : Hid (Below w.heap.size w u3) := HB.out.trans (hb.mono HB.out.size)
  clear hb
  go_wp2_with fail
  refine (PL.out _).mono ?_
  rintro e u4 ⟨cs, rfl, -, hrt, hb⟩
  replace HB : Hid (Below w.heap.size w u4) := HB.out.trans (hb.mono HB.out.size)
  clear hb
  go_wp2_with fail
  refine (rsize_c _ hrt.out (by rw [HC.out]; exact HL.out)).mono ?_
  rintro e u5 ⟨rfl, hb⟩
  rw [HC.out]
  clear hrt
  replace HB : Hid (Below w.heap.size w u5) := HB.out.trans (hb.mono HB.out.size)
  clear hb
  go_wp2_with fail
  refine (SXY.out _ (HG.out.later HB.out)).mono ?_
  rintro e u6 ⟨rfl, hb⟩
  replace HB : Hid (Below w.heap.size w u6) := HB.out.trans (hb.mono HB.out.size)
  clear hb
  go_wp2_with fail
  refine (NX.out _).mono ?_
  rintro e u7 ⟨rfl, hb⟩
  replace HB : Hid (Below w.heap.size w u7) := HB.out.trans (hb.mono HB.out.size)
  clear hb
  go_wp2_with fail
  refine (NY.out _).mono ?_
  rintro e u8 ⟨rfl, hb⟩
  replace HB : Hid (Below w.heap.size w u8) := HB.out.trans (hb.mono HB.out.size)
  clear hb
  go_wp2_with fail
  refine (SXX.out _ (HG.out.later HB.out)).mono ?_
  rintro e u9 ⟨rfl, hb⟩
  replace HB : Hid (Below w.heap.size w u9) := HB.out.trans (hb.mono HB.out.size)
  clear hb
  go_wp2_with fail
  refine (SNN.out _ (HG.out.later HB.out)).mono ?_
  rintro e u10 ⟨rfl, hb⟩
  replace HB : Hid (Below w.heap.size w u10) := HB.out.trans (hb.mono HB.out.size)
  clear hb
  go_wp2_with fail
  refine (SNX.out _ (HG.out.later HB.out)).mono ?_
  rintro e u11 ⟨rfl, hb⟩
  replace HB : Hid (Below w.heap.size w u11) := HB.out.trans (hb.mono HB.out.size)
  clear hb
  have eb : (bb == bb) = true := by simp
  go_wp2
  go_ret
  exact ⟨by simp, HB.out⟩
end Go.Proofs.YtifcdmiopanedaaDoor
