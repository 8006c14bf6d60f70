import Derived.Test.YtifopogkbjhkjaaGreatDoorWq
import Derived.Test.YtifopogkbjhkjaaGreatDoorWp
namespace Go.Proofs.YtifopogkbjhkjaaGreatDoor
open DR
open Go.ChangeShapes Go.WideShapes Go.ChangeAt Go.RowKit Go.WideMaps
set_option linter.unusedVariables false
set_option linter.unusedSimpArgs false
set_option maxRecDepth 100000 in
set_option maxHeartbeats 32000000 in
theorem reg26 {wc : World} {sb rb b9 ca cu : Nat} {k : Nat} {U : TT} {all : List Int} {Al Au : Option Addr} {St R : List TT} {Pr : Nat → Prop} {G : TT × Int} {K' : Act → World → Prop} {Q' : Exit → Act → World → Prop} {t0 t1 t2 t3 t4 t5 t6 t7 t8 t10 t13 t14 t15 t16 t17 t18 t19 t20 t21 t22 t23 t24 t25 t26 t27 t28 t29 t30 t31 t32 t33 t34 t35 t36 t37 t38 t39 t40 t41 t42 t43 t44 t45 t46 t47 t48 t49 t50 t51 t52 t53 t54 t55 t56 t57 t58 t59 t60 t61 t62 t63 t64 t65 t66 t67 t68 t69 t70 t71 t72 t73 t74 t75 t76 t77 t78 t79 t80 t81 t82 t83 t84 t85 t86 t87 t88 t89 t90 t91 t92 t93 t94 t95 t96 t97 t98 t99 t100 t101 t102 t103 t104 t105 t106 t107 t108 t109 t110 t111 t112 t113 t114 t115 t116 t117 t118 t119 t120 t121 t122 t123 t124 t125 t126 t127 t128 t129 t130 t131 t132 t133 t134 t135 t136 t137 t138 t139 t140 t141 t142 t143 t144 t145 t146 t147 t148 t149 t150 t151 t152 t153 t154 t155 t156 t157 t158 t159 t160 t161 t162 t163 t164 t165 t166 t167 t168 t169 t170 t171 t172 t173 t174 t175 t176 t177 t178 t179 t180 t181 t182 t183 t184 t185 t186 t187 t188 t189 t190 t191 t192 t193 t194 t195 t196 t197 t198 t199 t200 t201 t202 t203 t204 t205 t206 t207 : Value}
    (HLC : Hid (sb < wc.heap.size ∧ rb < wc.heap.size ∧ sb < rb)) (HNP : Hid (¬ Pr sb)) (ST0 : Hid (SubS wc Pr sb sb k St)) (RS0 : Hid (RSub k wc (fun b => Pr b ∧ b ≠ rb) rb R))
    (Y9 : Hid (∀ W, Frm wc W (fun q => q = sb ∨ q = rb) → W.heap[b9]? = some (.cells #[.slice Al all.length ca, .int .i64 U.k, .string U.nm, .int .i64 U.vr, .slice Au U.args.length cu] SchT (0, 0))))
    (O1 : Hid (∀ W, SubS W Pr sb sb k St → Frm wc W (fun q => q = sb ∨ q = rb) → Calls Tryz.prog 15 #[.pointer (some ⟨sb, 0, none⟩), .agg #[.slice Al all.length ca, .int .i64 U.k, .string U.nm, .int .i64 U.vr, .slice Au U.args.length cu]] W fun e w' => ∃ A c, e = .returned (tv G.1 A c) ∧ TRow w' (W.heap.size ≤ ·) A G.1.args ∧ SubS w' Pr sb sb G.2 St ∧ Frm W w' (· = sb)))
    (O2 : Hid (∀ W, Frm wc W (fun q => q = sb ∨ q = rb) → Calls Tryz.prog 12 #[.agg #[.slice Al all.length ca, .int .i64 U.k, .string U.nm, .int .i64 U.vr, .slice Au U.args.length cu]] W fun e w' => ∃ A' c', e = .returned (.agg #[.slice Al all.length ca, .int .i64 U.k, .string U.nm, .int .i64 U.vr, .slice A' U.args.length c']) ∧ TRow w' (W.heap.size ≤ ·) A' U.args ∧ Below W.heap.size W w'))
    (O3 : Hid (∀ W (A' : Option Addr) (c' : Nat) (Lb : List Nat), RSub k W (fun b => Pr b ∧ b ≠ rb) rb R → Frm wc W (fun q => q = sb ∨ q = rb) → Rw W (fun q => q = sb ∨ q = rb) Lb A' U.args → Calls Tryz.prog 16 #[.pointer (some ⟨rb, 0, none⟩), .agg #[.slice Al all.length ca, .int .i64 U.k, .string U.nm, .int .i64 U.vr, .slice A' U.args.length c']] W fun e w' => ∃ A c, e = .returned (tv G.1 A c) ∧ TRow w' (fun q => (¬ (q = sb ∨ q = rb) ∧ q ∉ Lb) ∨ W.heap.size ≤ q) A G.1.args ∧ RSub G.2 w' (fun b => Pr b ∧ b ≠ rb) rb R ∧ Frm W w' (· = rb)))
    (hP : ∀ c (a : Act) (d : Nat) v w, Exit.then K' Q' (.panic c) (a.put (some d) v) w → Exit.then K' Q' (.panic c) a w)
    (hK : ∀ (b19 b20 : Nat) (A5 A7 : Option Addr) (c5 c7 : Nat) (u153 u154 u155 u156 u157 u158 u159 : Value) (w' : World), w'.heap[b19]? = some (.cells #[.int .i64 G.1.k, .string G.1.nm, .int .i64 G.1.vr, .slice A5 G.1.args.length c5] 24 (0, 0)) → w'.heap[b20]? = some (.cells #[.int .i64 G.1.k, .string G.1.nm, .int .i64 G.1.vr, .slice A7 G.1.args.length c7] 36 (0, 0)) → TRow w' any0 A5 G.1.args → TRow w' any0 A7 G.1.args → Frm wc w' (fun q => q = sb ∨ q = rb) → K' ⟨#[t0, t1, t2, t3, t4, t5, t6, t7, t8, .pointer (some ⟨b9, 0, none⟩), t10, .pointer (some ⟨sb, 0, none⟩), .pointer (some ⟨rb, 0, none⟩), t13, t14, t15, t16, t17, t18, .pointer (some ⟨b19, 0, none⟩), .pointer (some ⟨b20, 0, none⟩), t21, t22, t23, t24, t25, t26, t27, t28, t29, t30, t31, t32, t33, t34, t35, t36, t37, t38, t39, t40, t41, t42, t43, t44, t45, t46, t47, t48, t49, t50, t51, t52, t53, t54, t55, t56, t57, t58, t59, t60, t61, t62, t63, t64, t65, t66, t67, t68, t69, t70, t71, t72, t73, t74, t75, t76, t77, t78, t79, t80, t81, t82, t83, t84, t85, t86, t87, t88, t89, t90, t91, t92, t93, t94, t95, t96, t97, t98, t99, t100, t101, t102, t103, t104, t105, t106, t107, t108, t109, t110, t111, t112, t113, t114, t115, t116, t117, t118, t119, t120, t121, t122, t123, t124, t125, t126, t127, t128, t129, t130, t131, t132, t133, t134, t135, t136, t137, t138, t139, t140, t141, t142, t143, t144, t145, t146, t147, t148, t149, t150, t151, t152, u153, u154, u155, u156, u157, u158, u159, t160, t161, t162, t163, t164, t165, t166, t167, t168, t169, t170, t171, t172, t173, t174, t175, t176, t177, t178, t179, t180, t181, t182, t183, t184, t185, t186, t187, t188, t189, t190, t191, t192, t193, t194, t195, t196, t197, t198, t199, t200, t201, t202, t203, t204, t205, t206, t207], []⟩ w') :
    (Code.region 26 #[{ dst := some 153, op := .move (.tmp 11), type := 31, pos := "law.go:94", after := #[], guard := none }, { dst := some 154, op := .load 28 (.tmp 9), type := 28, pos := "law.go:94", after := #[], guard := none }, { dst := some 155, op := .call { callee := .value (.func 15), args := #[.tmp 153, .tmp 154], argTypes := #[31, 28] }, type := 24, pos := "law.go:94", after := #[{ on := 0, ground := .data }, { on := 1, ground := .data }], guard := none }, { dst := some 156, op := .move (.tmp 12), type := 33, pos := "law.go:94", after := #[], guard := none }, { dst := some 157, op := .load 28 (.tmp 9), type := 28, pos := "law.go:94", after := #[], guard := none }, { dst := some 158, op := .call { callee := .value (.func 12), args := #[.tmp 157], argTypes := #[28] }, type := 48, pos := "law.go:94", after := #[{ on := 4, ground := .data }, { on := 2, ground := .chain }], guard := none }, { dst := some 159, op := .call { callee := .value (.func 16), args := #[.tmp 156, .tmp 158], argTypes := #[33, 48] }, type := 36, pos := "law.go:94", after := #[{ on := 3, ground := .data }, { on := 5, ground := .data }, { on := 5, ground := .chain }], guard := none }, { dst := some 19, op := .alloc 24, type := 0, pos := "law.go:94", after := #[], guard := none }, { dst := some 20, op := .alloc 36, type := 0, pos := "law.go:94", after := #[], guard := none }, { dst := none, op := .store 24 (.tmp 19) (.tmp 155), type := 0, pos := "law.go:94", after := #[{ on := 7, ground := .data }, { on := 2, ground := .data }, { on := 6, ground := .chain }, { on := 0, ground := .phase }, { on := 1, ground := .phase }, { on := 2, ground := .phase }, { on := 3, ground := .textOnly .lateStores }, { on := 4, ground := .textOnly .lateStores }, { on := 5, ground := .textOnly .lateStoresUnsure }, { on := 6, ground := .textOnly .lateStoresUnsure }, { on := 7, ground := .phase }, { on := 8, ground := .phase }], guard := none }, { dst := none, op := .store 36 (.tmp 20) (.tmp 159), type := 0, pos := "law.go:94", after := #[{ on := 8, ground := .data }, { on := 6, ground := .data }, { on := 9, ground := .chain }, { on := 0, ground := .phase }, { on := 1, ground := .phase }, { on := 2, ground := .phase }, { on := 3, ground := .phase }, { on := 4, ground := .phase }, { on := 5, ground := .phase }, { on := 6, ground := .phase }, { on := 7, ground := .phase }, { on := 8, ground := .phase }, { on := 9, ground := .phase }], guard := none }] true).wp Tryz.prog (Exit.then K' Q') ⟨#[t0, t1, t2, t3, t4, t5, t6, t7, t8, .pointer (some ⟨b9, 0, none⟩), t10, .pointer (some ⟨sb, 0, none⟩), .pointer (some ⟨rb, 0, none⟩), t13, t14, t15, t16, t17, t18, t19, t20, t21, t22, t23, t24, t25, t26, t27, t28, t29, t30, t31, t32, t33, t34, t35, t36, t37, t38, t39, t40, t41, t42, t43, t44, t45, t46, t47, t48, t49, t50, t51, t52, t53, t54, t55, t56, t57, t58, t59, t60, t61, t62, t63, t64, t65, t66, t67, t68, t69, t70, t71, t72, t73, t74, t75, t76, t77, t78, t79, t80, t81, t82, t83, t84, t85, t86, t87, t88, t89, t90, t91, t92, t93, t94, t95, t96, t97, t98, t99, t100, t101, t102, t103, t104, t105, t106, t107, t108, t109, t110, t111, t112, t113, t114, t115, t116, t117, t118, t119, t120, t121, t122, t123, t124, t125, t126, t127, t128, t129, t130, t131, t132, t133, t134, t135, t136, t137, t138, t139, t140, t141, t142, t143, t144, t145, t146, t147, t148, t149, t150, t151, t152, t153, t154, t155, t156, t157, t158, t159, t160, t161, t162, t163, t164, t165, t166, t167, t168, t169, t170, t171, t172, t173, t174, t175, t176, t177, t178, t179, t180, t181, t182, t183, t184, t185, t186, t187, t188, t189, t190, t191, t192, t193, t194, t195, t196, t197, t198, t199, t200, t201, t202, t203, t204, t205, t206, t207], []⟩ wc := by
  refine wp_region_D [9, 10] (fun w' => Frm wc w' (fun q => q = sb ∨ q = rb)) (by kernel_rfl) (frm_drew wc _) (fun hHeld => ?_)
  refine WDs 0 ⟨some 153, .move (.tmp 11), 31, _, #[], none⟩ ?vz26_0 ?hyz26_0 hHeld ?_ (hQ := fun c a w h => hP c a _ _ w h)
  case hyz26_0 => (intro wz hSw; (try dsimp only at hSw); go_simp; try with_reducible rfl)
  (try simp only [putz])
  refine WDs 1 ⟨some 154, .load 28 (.tmp 9), 28, _, #[], none⟩ ?vz26_1 ?hyz26_1 hHeld ?_ (hQ := fun c a w h => hP c a _ _ w h)
  case hyz26_1 => (intro wz hSw; (try dsimp only at hSw); obtain ⟨q0, q1, q2, q3, q4⟩ := five5 (Y9.out _ hSw); go_simp; try with_reducible rfl)
  (try simp only [putz])
  refine WDs 3 ⟨some 156, .move (.tmp 12), 33, _, #[], none⟩ ?vz26_3 ?hyz26_3 hHeld ?_ (hQ := fun c a w h => hP c a _ _ w h)
  case hyz26_3 => (intro wz hSw; (try dsimp only at hSw); go_simp; try with_reducible rfl)
  (try simp only [putz])
  refine WDs 4 ⟨some 157, .load 28 (.tmp 9), 28, _, #[], none⟩ ?vz26_4 ?hyz26_4 hHeld ?_ (hQ := fun c a w h => hP c a _ _ w h)
  case hyz26_4 => (intro wz hSw; (try dsimp only at hSw); obtain ⟨q0, q1, q2, q3, q4⟩ := five5 (Y9.out _ hSw); go_simp; try with_reducible rfl)
  (try simp only [putz])
  have ST := ST0.out.later (bdr wc)
  have RS := RS0.out.later (bdr wc)
  have NQ := Nq.start (R := fun q => q = sb ∨ q = rb) (wA := wc) (fun q hq => by have := HLC.out; rcases hq with e | e <;> omega) (frm_drew wc _)
  obtain ⟨wd, hwd⟩ : ∃ z, z = wc.drew := ⟨_, rfl⟩
  rw [← hwd] at ST RS NQ hHeld ⊢
  clear hwd
  repeat' first
    | (rw [if_pos (by rfl)]
       go_simp
       first
       | (obtain ⟨wz, bz, hwz, hbz, fz, nz, pz, rz, iz, qz, blz⟩ := alloc_step NQ (.cells #[.int .i64 0, .string ⟨#[]⟩, .int .i64 0, .slice none 0 0] 24)
          rw [← hwz]
          (try rw [← hbz])
          clear hwz hbz
          refine hK.out _ _ (hHeld.trans fz) (fun hHeld => ?_)
          clear hK K
          (try simp only [putz])
          (try replace X1 := rz _ _ X1)
          (try replace X2 := rz _ _ X2)
          (try replace X3 := rz _ _ X3)
          (try (have NE := (qz _ _ PA).2; replace PA := (qz _ _ PA).1))
          (try (have NE := (qz _ _ PB).2; replace PB := (qz _ _ PB).1))
          (try replace ST := ST.later blz)
          (try replace RS := RS.later blz)
          have PA := pz _ _ rfl
          replace NQ := nz
          clear fz rz iz qz blz)
       | (obtain ⟨wz, bz, hwz, hbz, fz, nz, pz, rz, iz, qz, blz⟩ := alloc_step NQ (.cells #[.int .i64 0, .string ⟨#[]⟩, .int .i64 0, .slice none 0 0] 36)
          rw [← hwz]
          (try rw [← hbz])
          clear hwz hbz
          refine hK.out _ _ (hHeld.trans fz) (fun hHeld => ?_)
          clear hK K
          (try simp only [putz])
          (try replace X1 := rz _ _ X1)
          (try replace X2 := rz _ _ X2)
          (try replace X3 := rz _ _ X3)
          (try (have NE := (qz _ _ PA).2; replace PA := (qz _ _ PA).1))
          (try (have NE := (qz _ _ PB).2; replace PB := (qz _ _ PB).1))
          (try replace ST := ST.later blz)
          (try replace RS := RS.later blz)
          have PB := pz _ _ rfl
          replace NQ := nz
          clear fz rz iz qz blz)
       | ((fail_if_success (have q := X1))
          refine (O1.out _ ST hHeld).mono ?_; rintro e wz ⟨A5, c5, rfl, t5, s5, f5⟩
          have X1 := Rw.new NQ t5
          have fz := f5.mono (S := fun q => q = sb ∨ q = rb) (fun q _ hq => Or.inl hq)
          replace RS := RS.moveP (f5.block rb RS.lt (show ¬ rb = sb by have := HLC.out; omega)) (fun q hq hp => ⟨f5.block q hq (fun e => HNP.out (by have e : q = sb := e; exact e ▸ hp.1)), hp⟩) f5.size
          clear ST t5 s5 f5
          (try unfold tv)
          refine hK.out _ _ (hHeld.trans fz) (fun hHeld => ?_)
          clear hK K
          (try simp only [putz])
          (try replace X1 := X1.call fz)
          (try replace X2 := X2.call fz)
          (try replace X3 := X3.call fz)
          (try replace PA := PA.call fz)
          (try replace PB := PB.call fz)
          replace NQ := NQ.call fz
          clear fz)
       | (have q := X1
          clear q
          (fail_if_success (have q := X2))
          refine (O2.out _ hHeld).mono ?_; rintro e wz ⟨A6, c6, rfl, t6, bz⟩
          have X2 := Rw.new NQ t6
          have fz := Frm.of_below bz (Nat.le_refl _) (fun q => q = sb ∨ q = rb)
          replace RS := RS.later bz
          clear t6 bz
          (try unfold scv)
          refine hK.out _ _ (hHeld.trans fz) (fun hHeld => ?_)
          clear hK K
          (try simp only [putz])
          (try replace X1 := X1.call fz)
          (try replace X2 := X2.call fz)
          (try replace X3 := X3.call fz)
          (try replace PA := PA.call fz)
          (try replace PB := PB.call fz)
          replace NQ := NQ.call fz
          clear fz)
       | (have q := X2
          clear q
          (fail_if_success (have q := X3))
          refine (O3.out _ _ c6 _ RS hHeld X2).mono ?_; rintro e wz ⟨A7, c7, rfl, t7, s7, f7⟩
          have X3 := Rw.new2 NQ t7
          have fz := f7.mono (S := fun q => q = sb ∨ q = rb) (fun q _ hq => Or.inr hq)
          clear RS t7 s7 f7
          (try unfold tv)
          refine hK.out _ _ (hHeld.trans fz) (fun hHeld => ?_)
          clear hK K
          (try simp only [putz])
          (try replace X1 := X1.call fz)
          (try replace X2 := X2.call fz)
          (try replace X3 := X3.call fz)
          (try replace PA := PA.call fz)
          (try replace PB := PB.call fz)
          replace NQ := NQ.call fz
          clear fz))
    | ((fail_if_success (have q := X1)); (fail_if_success (have q := PA)); (fail_if_success (have q := PB)); refine WD_ready (rs := [2, 7, 8]) (by kernel_rfl) (by simp) (AllD.cons rfl (fun K hK => ?_) (AllD.cons rfl (fun K hK => ?_) (AllD.cons rfl (fun K hK => ?_) AllD.nil))))
    | ((fail_if_success (have q := X1)); (fail_if_success (have q := PA)); have q := PB; clear q; refine WD_ready (rs := [2, 7]) (by kernel_rfl) (by simp) (AllD.cons rfl (fun K hK => ?_) (AllD.cons rfl (fun K hK => ?_) AllD.nil)))
    | ((fail_if_success (have q := X1)); have q := PA; clear q; (fail_if_success (have q := PB)); refine WD_ready (rs := [2, 8]) (by kernel_rfl) (by simp) (AllD.cons rfl (fun K hK => ?_) (AllD.cons rfl (fun K hK => ?_) AllD.nil)))
    | ((fail_if_success (have q := X1)); have q := PA; clear q; have q := PB; clear q; refine WD_ready (rs := [2]) (by kernel_rfl) (by simp) (AllD.cons rfl (fun K hK => ?_) AllD.nil))
    | (have q := X1; clear q; (fail_if_success (have q := X2)); (fail_if_success (have q := PA)); (fail_if_success (have q := PB)); refine WD_ready (rs := [5, 7, 8]) (by kernel_rfl) (by simp) (AllD.cons rfl (fun K hK => ?_) (AllD.cons rfl (fun K hK => ?_) (AllD.cons rfl (fun K hK => ?_) AllD.nil))))
    | (have q := X1; clear q; (fail_if_success (have q := X2)); (fail_if_success (have q := PA)); have q := PB; clear q; refine WD_ready (rs := [5, 7]) (by kernel_rfl) (by simp) (AllD.cons rfl (fun K hK => ?_) (AllD.cons rfl (fun K hK => ?_) AllD.nil)))
    | (have q := X1; clear q; (fail_if_success (have q := X2)); have q := PA; clear q; (fail_if_success (have q := PB)); refine WD_ready (rs := [5, 8]) (by kernel_rfl) (by simp) (AllD.cons rfl (fun K hK => ?_) (AllD.cons rfl (fun K hK => ?_) AllD.nil)))
    | (have q := X1; clear q; (fail_if_success (have q := X2)); have q := PA; clear q; have q := PB; clear q; refine WD_ready (rs := [5]) (by kernel_rfl) (by simp) (AllD.cons rfl (fun K hK => ?_) AllD.nil))
    | (have q := X2; clear q; (fail_if_success (have q := X3)); (fail_if_success (have q := PA)); (fail_if_success (have q := PB)); refine WD_ready (rs := [6, 7, 8]) (by kernel_rfl) (by simp) (AllD.cons rfl (fun K hK => ?_) (AllD.cons rfl (fun K hK => ?_) (AllD.cons rfl (fun K hK => ?_) AllD.nil))))
    | (have q := X2; clear q; (fail_if_success (have q := X3)); (fail_if_success (have q := PA)); have q := PB; clear q; refine WD_ready (rs := [6, 7]) (by kernel_rfl) (by simp) (AllD.cons rfl (fun K hK => ?_) (AllD.cons rfl (fun K hK => ?_) AllD.nil)))
    | (have q := X2; clear q; (fail_if_success (have q := X3)); have q := PA; clear q; (fail_if_success (have q := PB)); refine WD_ready (rs := [6, 8]) (by kernel_rfl) (by simp) (AllD.cons rfl (fun K hK => ?_) (AllD.cons rfl (fun K hK => ?_) AllD.nil)))
    | (have q := X2; clear q; (fail_if_success (have q := X3)); have q := PA; clear q; have q := PB; clear q; refine WD_ready (rs := [6]) (by kernel_rfl) (by simp) (AllD.cons rfl (fun K hK => ?_) AllD.nil))
    | (have q := X3; clear q; (fail_if_success (have q := PA)); (fail_if_success (have q := PB)); refine WD_ready (rs := [7, 8]) (by kernel_rfl) (by simp) (AllD.cons rfl (fun K hK => ?_) (AllD.cons rfl (fun K hK => ?_) AllD.nil)))
    | (have q := X3; clear q; (fail_if_success (have q := PA)); have q := PB; clear q; refine WD_ready (rs := [7]) (by kernel_rfl) (by simp) (AllD.cons rfl (fun K hK => ?_) AllD.nil))
    | (have q := X3; clear q; have q := PA; clear q; (fail_if_success (have q := PB)); refine WD_ready (rs := [8]) (by kernel_rfl) (by simp) (AllD.cons rfl (fun K hK => ?_) AllD.nil))
  all_goals (
    refine WD_ready (rs := [9]) (by decide +kernel) (by simp) (AllD.last rfl (by kernel_rfl) (fun K hK => ?_) AllD.nil)
    rw [if_pos (by rfl)]
    have z0 := (PA).1
    obtain ⟨y0, y1, y2, y3⟩ := cells4 z0
    have k0 := froz5 z0 0
    have k1 := froz5 z0 1
    have k2 := froz5 z0 2
    have k3 := froz5 z0 3
    go_simp
    obtain ⟨wz, hwz, nz, pz, rz, iz, qz, hz⟩ := store4 NQ PA (.int .i64 G.1.k) (.string G.1.nm) (.int .i64 G.1.vr) (.slice A5 G.1.args.length c5)
    rw [← hwz]
    clear hwz y0 y1 y2 y3 k0 k1 k2 k3 z0
    refine hK.out _ _ ?_
    clear hK K
    (try simp only [putz])
    replace X1 := rz _ _ X1
    (try clear X2)
    replace X3 := rz _ _ X3
    replace PB := qz _ _ (by first | exact NE | exact Ne.symm NE) PB
    replace PA := pz
    replace NQ := nz
    (try replace hHeld := hz _ hHeld)
    clear rz iz qz hz
    refine WD_ready (rs := [10]) (by decide +kernel) (by simp) (AllD.last rfl (by kernel_rfl) (fun K hK => ?_) AllD.nil)
    rw [if_pos (by rfl)]
    have z0 := (PB).1
    obtain ⟨y0, y1, y2, y3⟩ := cells4 z0
    have k0 := froz5 z0 0
    have k1 := froz5 z0 1
    have k2 := froz5 z0 2
    have k3 := froz5 z0 3
    go_simp
    obtain ⟨wz, hwz, nz, pz, rz, iz, qz, hz⟩ := store4 NQ PB (.int .i64 G.1.k) (.string G.1.nm) (.int .i64 G.1.vr) (.slice A7 G.1.args.length c7)
    rw [← hwz]
    clear hwz y0 y1 y2 y3 k0 k1 k2 k3 z0
    refine hK.out _ _ ?_
    clear hK K
    (try simp only [putz])
    replace X1 := rz _ _ X1
    (try clear X2)
    replace X3 := rz _ _ X3
    replace PA := qz _ _ (by first | exact NE | exact Ne.symm NE) PA
    replace PB := pz
    replace NQ := nz
    (try replace hHeld := hz _ hHeld)
    clear rz iz qz hz
    refine WD_done (by kernel_rfl) ?_ _
    exact hK _ _ A5 A7 c5 c7 _ _ _ _ _ _ _ _ PA.1 PB.1 X1.row X3.row NQ.1)
end Go.Proofs.YtifopogkbjhkjaaGreatDoor
