import Derived.Test.YtifopogkbjhkjaaGreatDoorWq
import Derived.Test.YtifopogkbjhkjaaGreatDoorWp
namespace Go.Proofs.YtifopogkbjhkjaaGreatDoor
open DR
open Go.ChangeShapes Go.WideShapes Go.ChangeAt Go.RowKit Go.WideMaps
set_option linter.unusedVariables false
set_option linter.unusedSimpArgs false
set_option maxRecDepth 100000 in
set_option maxHeartbeats 32000000 in
theorem reg25 {wA : World} {sb rb b7 k2 ce cq ct : Nat} {V : TT} {At Ae Aq : Option Addr} {Q : TT × List Int} {K' : Act → World → Prop} {Q' : Exit → Act → World → Prop} {t0 t1 t2 t4 t5 t6 t8 t9 t10 t13 t14 t16 t17 t18 t19 t20 t21 t22 t23 t24 t25 t26 t27 t28 t29 t30 t31 t32 t33 t34 t35 t36 t37 t38 t39 t40 t41 t42 t43 t44 t45 t46 t47 t48 t49 t50 t51 t52 t53 t54 t55 t56 t57 t58 t59 t60 t61 t62 t63 t64 t65 t66 t67 t68 t69 t70 t71 t72 t73 t74 t75 t76 t77 t78 t79 t80 t81 t82 t83 t84 t85 t86 t87 t88 t89 t90 t91 t92 t93 t94 t95 t96 t97 t98 t99 t100 t101 t102 t103 t104 t105 t106 t107 t108 t109 t110 t111 t112 t113 t114 t115 t116 t117 t118 t119 t120 t121 t122 t123 t124 t125 t126 t127 t128 t129 t130 t131 t132 t133 t134 t135 t136 t137 t138 t139 t140 t141 t142 t143 t144 t145 t146 t147 t148 t149 t150 t151 t152 t153 t154 t155 t156 t157 t158 t159 t160 t161 t162 t163 t164 t165 t166 t167 t168 t169 t170 t171 t172 t173 t174 t175 t176 t177 t178 t179 t180 t181 t182 t183 t184 t185 t186 t187 t188 t189 t190 t191 t192 t193 t194 t195 t196 t197 t198 t199 t200 t201 t202 t203 t204 t205 t206 t207 : Value}
    (HLR : Hid (sb < rb ∧ rb < wA.heap.size))
    (KVA : Hid (∀ W, Below wA.heap.size wA W → W.cell? ⟨b7, 0, none⟩ = some (.int .i64 V.k) ∧ W.cell? ⟨b7, 1, none⟩ = some (.string V.nm) ∧ W.cell? ⟨b7, 2, none⟩ = some (.int .i64 V.vr) ∧ W.cell? ⟨b7, 3, none⟩ = some (.slice At V.args.length ct)))
    (C1 : Hid (∀ W, Below wA.heap.size wA W → Calls Tryz.prog 13 #[.pointer (some ⟨sb, 0, none⟩), .agg #[.int .i64 V.k, .string V.nm, .int .i64 V.vr, .slice At V.args.length ct], .slice Ae k2 ce] W (ClEnv W Q.1 Q.2)))
    (C2 : Hid (∀ W, Below wA.heap.size wA W → Calls Tryz.prog 11 #[.agg #[.int .i64 V.k, .string V.nm, .int .i64 V.vr, .slice At V.args.length ct]] W (CpPost W V)))
    (C3 : Hid (∀ W, Below wA.heap.size wA W → ∀ (A' : Option Addr) (c' : Nat) (P0 : Nat → Prop), TRow W P0 A' V.args → Calls Tryz.prog 14 #[.pointer (some ⟨rb, 0, none⟩), .agg #[.int .i64 V.k, .string V.nm, .int .i64 V.vr, .slice A' V.args.length c'], .slice Aq k2 cq] W (RClEnv W P0 Q.1 Q.2)))
    (hP : ∀ c (a : Act) (d : Nat) v w, Exit.then K' Q' (.panic c) (a.put (some d) v) w → Exit.then K' Q' (.panic c) a w)
    (hK : ∀ (b17 b18 : Nat) (Al1 A1 Al2 A3 : Option Addr) (ca1 c1 ca2 c3 : Nat) (u144 u145 u146 u147 u148 u149 u150 u151 u152 : Value) (w' : World), w'.heap[b17]? = some (.cells #[.slice Al1 Q.2.length ca1, .int .i64 Q.1.k, .string Q.1.nm, .int .i64 Q.1.vr, .slice A1 Q.1.args.length c1] 28 (0, 0)) → w'.heap[b18]? = some (.cells #[.slice Al2 Q.2.length ca2, .int .i64 Q.1.k, .string Q.1.nm, .int .i64 Q.1.vr, .slice A3 Q.1.args.length c3] 48 (0, 0)) → Iw w' (fun q => q = sb ∨ q = rb) [] Al1 Q.2 → Rw w' (fun q => q = sb ∨ q = rb) [] A1 Q.1.args → Iw w' (fun q => q = sb ∨ q = rb) [] Al2 Q.2 → Rw w' (fun q => q = sb ∨ q = rb) [] A3 Q.1.args → Below wA.heap.size wA w' → ¬ (b17 = sb ∨ b17 = rb) → ¬ (b18 = sb ∨ b18 = rb) → K' ⟨#[t0, t1, t2, .slice Ae k2 ce, t4, t5, t6, .pointer (some ⟨b7, 0, none⟩), t8, t9, t10, .pointer (some ⟨sb, 0, none⟩), .pointer (some ⟨rb, 0, none⟩), t13, t14, .slice Aq k2 cq, t16, .pointer (some ⟨b17, 0, none⟩), .pointer (some ⟨b18, 0, none⟩), t19, t20, t21, t22, t23, t24, t25, t26, t27, t28, t29, t30, t31, t32, t33, t34, t35, t36, t37, t38, t39, t40, t41, t42, t43, t44, t45, t46, t47, t48, t49, t50, t51, t52, t53, t54, t55, t56, t57, t58, t59, t60, t61, t62, t63, t64, t65, t66, t67, t68, t69, t70, t71, t72, t73, t74, t75, t76, t77, t78, t79, t80, t81, t82, t83, t84, t85, t86, t87, t88, t89, t90, t91, t92, t93, t94, t95, t96, t97, t98, t99, t100, t101, t102, t103, t104, t105, t106, t107, t108, t109, t110, t111, t112, t113, t114, t115, t116, t117, t118, t119, t120, t121, t122, t123, t124, t125, t126, t127, t128, t129, t130, t131, t132, t133, t134, t135, t136, t137, t138, t139, t140, t141, t142, t143, u144, u145, u146, u147, u148, u149, u150, u151, u152, t153, t154, t155, t156, t157, t158, t159, t160, t161, t162, t163, t164, t165, t166, t167, t168, t169, t170, t171, t172, t173, t174, t175, t176, t177, t178, t179, t180, t181, t182, t183, t184, t185, t186, t187, t188, t189, t190, t191, t192, t193, t194, t195, t196, t197, t198, t199, t200, t201, t202, t203, t204, t205, t206, t207], []⟩ w') :
    (Code.region 25 #[{ dst := some 144, op := .move (.tmp 11), type := 31, pos := "law.go:93", after := #[], guard := none }, { dst := some 145, op := .load 24 (.tmp 7), type := 24, pos := "law.go:93", after := #[], guard := none }, { dst := some 146, op := .move (.tmp 3), type := 25, pos := "law.go:93", after := #[], guard := none }, { dst := some 147, op := .call { callee := .value (.func 13), args := #[.tmp 144, .tmp 145, .tmp 146], argTypes := #[31, 24, 25] }, type := 28, pos := "law.go:93", after := #[{ on := 0, ground := .data }, { on := 1, ground := .data }, { on := 2, ground := .data }], guard := none }, { dst := some 148, op := .move (.tmp 12), type := 33, pos := "law.go:93", after := #[], guard := none }, { dst := some 149, op := .load 24 (.tmp 7), type := 24, pos := "law.go:93", after := #[], guard := none }, { dst := some 150, op := .call { callee := .value (.func 11), args := #[.tmp 149], argTypes := #[24] }, type := 36, pos := "law.go:93", after := #[{ on := 5, ground := .data }, { on := 3, ground := .chain }], guard := none }, { dst := some 151, op := .move (.tmp 15), type := 46, pos := "law.go:93", after := #[], guard := none }, { dst := some 152, op := .call { callee := .value (.func 14), args := #[.tmp 148, .tmp 150, .tmp 151], argTypes := #[33, 36, 46] }, type := 48, pos := "law.go:93", after := #[{ on := 4, ground := .data }, { on := 6, ground := .data }, { on := 7, ground := .data }, { on := 6, ground := .chain }], guard := none }, { dst := some 17, op := .alloc 28, type := 0, pos := "law.go:93", after := #[], guard := none }, { dst := some 18, op := .alloc 48, type := 0, pos := "law.go:93", after := #[], guard := none }, { dst := none, op := .store 28 (.tmp 17) (.tmp 147), type := 0, pos := "law.go:93", after := #[{ on := 9, ground := .data }, { on := 3, ground := .data }, { on := 8, ground := .chain }, { on := 0, ground := .phase }, { on := 1, ground := .phase }, { on := 2, ground := .phase }, { on := 3, ground := .phase }, { on := 4, ground := .textOnly .lateStores }, { on := 5, ground := .textOnly .lateStores }, { on := 6, ground := .textOnly .lateStoresUnsure }, { on := 7, ground := .textOnly .lateStores }, { on := 8, ground := .textOnly .lateStoresUnsure }, { on := 9, ground := .phase }, { on := 10, ground := .phase }], guard := none }, { dst := none, op := .store 48 (.tmp 18) (.tmp 152), type := 0, pos := "law.go:93", after := #[{ on := 10, ground := .data }, { on := 8, ground := .data }, { on := 11, ground := .chain }, { on := 0, ground := .phase }, { on := 1, ground := .phase }, { on := 2, ground := .phase }, { on := 3, ground := .phase }, { on := 4, ground := .phase }, { on := 5, ground := .phase }, { on := 6, ground := .phase }, { on := 7, ground := .phase }, { on := 8, ground := .phase }, { on := 9, ground := .phase }, { on := 10, ground := .phase }, { on := 11, ground := .phase }], guard := none }] true).wp Tryz.prog (Exit.then K' Q') ⟨#[t0, t1, t2, .slice Ae k2 ce, t4, t5, t6, .pointer (some ⟨b7, 0, none⟩), t8, t9, t10, .pointer (some ⟨sb, 0, none⟩), .pointer (some ⟨rb, 0, none⟩), t13, t14, .slice Aq k2 cq, t16, t17, t18, t19, t20, t21, t22, t23, t24, t25, t26, t27, t28, t29, t30, t31, t32, t33, t34, t35, t36, t37, t38, t39, t40, t41, t42, t43, t44, t45, t46, t47, t48, t49, t50, t51, t52, t53, t54, t55, t56, t57, t58, t59, t60, t61, t62, t63, t64, t65, t66, t67, t68, t69, t70, t71, t72, t73, t74, t75, t76, t77, t78, t79, t80, t81, t82, t83, t84, t85, t86, t87, t88, t89, t90, t91, t92, t93, t94, t95, t96, t97, t98, t99, t100, t101, t102, t103, t104, t105, t106, t107, t108, t109, t110, t111, t112, t113, t114, t115, t116, t117, t118, t119, t120, t121, t122, t123, t124, t125, t126, t127, t128, t129, t130, t131, t132, t133, t134, t135, t136, t137, t138, t139, t140, t141, t142, t143, t144, t145, t146, t147, t148, t149, t150, t151, t152, t153, t154, t155, t156, t157, t158, t159, t160, t161, t162, t163, t164, t165, t166, t167, t168, t169, t170, t171, t172, t173, t174, t175, t176, t177, t178, t179, t180, t181, t182, t183, t184, t185, t186, t187, t188, t189, t190, t191, t192, t193, t194, t195, t196, t197, t198, t199, t200, t201, t202, t203, t204, t205, t206, t207], []⟩ wA := by
  refine wp_region_D [11, 12] (fun w' => Below wA.heap.size wA w') (by kernel_rfl) (bdr wA) (fun hHeld => ?_)
  refine WDs 0 ⟨some 144, .move (.tmp 11), 31, _, #[], none⟩ ?vz25_0 ?hyz25_0 hHeld ?_ (hQ := fun c a w h => hP c a _ _ w h)
  case hyz25_0 => (intro wz hSw; (try dsimp only at hSw); go_simp; try with_reducible rfl)
  (try simp only [putz])
  refine WDs 1 ⟨some 145, .load 24 (.tmp 7), 24, _, #[], none⟩ ?vz25_1 ?hyz25_1 hHeld ?_ (hQ := fun c a w h => hP c a _ _ w h)
  case hyz25_1 => (intro wz hSw; (try dsimp only at hSw); obtain ⟨q0, q1, q2, q3⟩ := KVA.out _ hSw; go_simp; try with_reducible rfl)
  (try simp only [putz])
  refine WDs 2 ⟨some 146, .move (.tmp 3), 25, _, #[], none⟩ ?vz25_2 ?hyz25_2 hHeld ?_ (hQ := fun c a w h => hP c a _ _ w h)
  case hyz25_2 => (intro wz hSw; (try dsimp only at hSw); go_simp; try with_reducible rfl)
  (try simp only [putz])
  refine WDs 4 ⟨some 148, .move (.tmp 12), 33, _, #[], none⟩ ?vz25_4 ?hyz25_4 hHeld ?_ (hQ := fun c a w h => hP c a _ _ w h)
  case hyz25_4 => (intro wz hSw; (try dsimp only at hSw); go_simp; try with_reducible rfl)
  (try simp only [putz])
  refine WDs 5 ⟨some 149, .load 24 (.tmp 7), 24, _, #[], none⟩ ?vz25_5 ?hyz25_5 hHeld ?_ (hQ := fun c a w h => hP c a _ _ w h)
  case hyz25_5 => (intro wz hSw; (try dsimp only at hSw); obtain ⟨q0, q1, q2, q3⟩ := KVA.out _ hSw; go_simp; try with_reducible rfl)
  (try simp only [putz])
  refine WDs 7 ⟨some 151, .move (.tmp 15), 46, _, #[], none⟩ ?vz25_7 ?hyz25_7 hHeld ?_ (hQ := fun c a w h => hP c a _ _ w h)
  case hyz25_7 => (intro wz hSw; (try dsimp only at hSw); go_simp; try with_reducible rfl)
  (try simp only [putz])
  have NQ := Nq.start (R := fun q => q = sb ∨ q = rb) (wA := wA) (fun q hq => by have := HLR.out; rcases hq with e | e <;> omega) (frm_drew wA _)
  obtain ⟨wd, hwd⟩ : ∃ z, z = wA.drew := ⟨_, rfl⟩
  rw [← hwd] at NQ hHeld ⊢
  clear hwd
  repeat' first
    | (rw [if_pos (by rfl)]
       go_simp
       first
       | (obtain ⟨wz, bz, hwz, hbz, fz, nz, pz, rz, iz, qz, blz⟩ := alloc_step NQ (.cells #[.slice none 0 0, .int .i64 0, .string ⟨#[]⟩, .int .i64 0, .slice none 0 0] 28)
          rw [← hwz]
          (try rw [← hbz])
          clear hwz hbz
          refine hK.out _ _ (bt hHeld blz) (fun hHeld => ?_)
          clear hK K
          (try simp only [putz])
          (try replace X1 := rz _ _ X1)
          (try replace X2 := rz _ _ X2)
          (try replace X3 := rz _ _ X3)
          (try replace I1 := iz _ _ I1)
          (try replace I3 := iz _ _ I3)
          (try (have NE := (qz _ _ PA).2; replace PA := (qz _ _ PA).1))
          (try (have NE := (qz _ _ PB).2; replace PB := (qz _ _ PB).1))
          have PA := pz _ _ rfl
          replace NQ := nz
          clear fz rz iz qz blz)
       | (obtain ⟨wz, bz, hwz, hbz, fz, nz, pz, rz, iz, qz, blz⟩ := alloc_step NQ (.cells #[.slice none 0 0, .int .i64 0, .string ⟨#[]⟩, .int .i64 0, .slice none 0 0] 48)
          rw [← hwz]
          (try rw [← hbz])
          clear hwz hbz
          refine hK.out _ _ (bt hHeld blz) (fun hHeld => ?_)
          clear hK K
          (try simp only [putz])
          (try replace X1 := rz _ _ X1)
          (try replace X2 := rz _ _ X2)
          (try replace X3 := rz _ _ X3)
          (try replace I1 := iz _ _ I1)
          (try replace I3 := iz _ _ I3)
          (try (have NE := (qz _ _ PA).2; replace PA := (qz _ _ PA).1))
          (try (have NE := (qz _ _ PB).2; replace PB := (qz _ _ PB).1))
          have PB := pz _ _ rfl
          replace NQ := nz
          clear fz rz iz qz blz)
       | ((fail_if_success (have q := X1))
          refine (C1.out _ hHeld).mono ?_; rintro e wz ⟨Al1, ca1, A1, c1, rfl, i1, n1, t1, bz⟩
          have I1 := Iw.new NQ i1 n1
          have X1 := Rw.new NQ t1
          have fz := Frm.of_below bz (Nat.le_refl _) (fun q => q = sb ∨ q = rb)
          clear i1 n1 t1
          (try unfold scv)
          refine hK.out _ _ (bt hHeld bz) (fun hHeld => ?_)
          clear hK K
          (try simp only [putz])
          (try replace X1 := X1.call fz)
          (try replace X2 := X2.call fz)
          (try replace X3 := X3.call fz)
          (try replace I1 := I1.call fz)
          (try replace I3 := I3.call fz)
          (try replace PA := PA.call fz)
          (try replace PB := PB.call fz)
          replace NQ := NQ.call fz
          clear fz)
       | (have q := X1
          clear q
          (fail_if_success (have q := X2))
          refine (C2.out _ hHeld).mono ?_; rintro e wz ⟨A2, c2, rfl, t2, bz⟩
          have X2 := Rw.new NQ t2
          have fz := Frm.of_below bz (Nat.le_refl _) (fun q => q = sb ∨ q = rb)
          clear t2
          (try unfold tv)
          refine hK.out _ _ (bt hHeld bz) (fun hHeld => ?_)
          clear hK K
          (try simp only [putz])
          (try replace X1 := X1.call fz)
          (try replace X2 := X2.call fz)
          (try replace X3 := X3.call fz)
          (try replace I1 := I1.call fz)
          (try replace I3 := I3.call fz)
          (try replace PA := PA.call fz)
          (try replace PB := PB.call fz)
          replace NQ := NQ.call fz
          clear fz)
       | (have q := X2
          clear q
          (fail_if_success (have q := X3))
          refine (C3.out _ hHeld _ c2 _ X2).mono ?_; rintro e wz ⟨Al2, ca2, A3, c3, rfl, i3, n3, t3, bz⟩
          have I3 := Iw.new NQ i3 n3
          have X3 := Rw.new2 NQ t3
          have fz := Frm.of_below bz (Nat.le_refl _) (fun q => q = sb ∨ q = rb)
          clear i3 n3 t3
          (try unfold scv)
          refine hK.out _ _ (bt hHeld bz) (fun hHeld => ?_)
          clear hK K
          (try simp only [putz])
          (try replace X1 := X1.call fz)
          (try replace X2 := X2.call fz)
          (try replace X3 := X3.call fz)
          (try replace I1 := I1.call fz)
          (try replace I3 := I3.call fz)
          (try replace PA := PA.call fz)
          (try replace PB := PB.call fz)
          replace NQ := NQ.call fz
          clear fz))
    | ((fail_if_success (have q := X1)); (fail_if_success (have q := PA)); (fail_if_success (have q := PB)); refine WD_ready (rs := [3, 9, 10]) (by kernel_rfl) (by simp) (AllD.cons rfl (fun K hK => ?_) (AllD.cons rfl (fun K hK => ?_) (AllD.cons rfl (fun K hK => ?_) AllD.nil))))
    | ((fail_if_success (have q := X1)); (fail_if_success (have q := PA)); have q := PB; clear q; refine WD_ready (rs := [3, 9]) (by kernel_rfl) (by simp) (AllD.cons rfl (fun K hK => ?_) (AllD.cons rfl (fun K hK => ?_) AllD.nil)))
    | ((fail_if_success (have q := X1)); have q := PA; clear q; (fail_if_success (have q := PB)); refine WD_ready (rs := [3, 10]) (by kernel_rfl) (by simp) (AllD.cons rfl (fun K hK => ?_) (AllD.cons rfl (fun K hK => ?_) AllD.nil)))
    | ((fail_if_success (have q := X1)); have q := PA; clear q; have q := PB; clear q; refine WD_ready (rs := [3]) (by kernel_rfl) (by simp) (AllD.cons rfl (fun K hK => ?_) AllD.nil))
    | (have q := X1; clear q; (fail_if_success (have q := X2)); (fail_if_success (have q := PA)); (fail_if_success (have q := PB)); refine WD_ready (rs := [6, 9, 10]) (by kernel_rfl) (by simp) (AllD.cons rfl (fun K hK => ?_) (AllD.cons rfl (fun K hK => ?_) (AllD.cons rfl (fun K hK => ?_) AllD.nil))))
    | (have q := X1; clear q; (fail_if_success (have q := X2)); (fail_if_success (have q := PA)); have q := PB; clear q; refine WD_ready (rs := [6, 9]) (by kernel_rfl) (by simp) (AllD.cons rfl (fun K hK => ?_) (AllD.cons rfl (fun K hK => ?_) AllD.nil)))
    | (have q := X1; clear q; (fail_if_success (have q := X2)); have q := PA; clear q; (fail_if_success (have q := PB)); refine WD_ready (rs := [6, 10]) (by kernel_rfl) (by simp) (AllD.cons rfl (fun K hK => ?_) (AllD.cons rfl (fun K hK => ?_) AllD.nil)))
    | (have q := X1; clear q; (fail_if_success (have q := X2)); have q := PA; clear q; have q := PB; clear q; refine WD_ready (rs := [6]) (by kernel_rfl) (by simp) (AllD.cons rfl (fun K hK => ?_) AllD.nil))
    | (have q := X2; clear q; (fail_if_success (have q := X3)); (fail_if_success (have q := PA)); (fail_if_success (have q := PB)); refine WD_ready (rs := [8, 9, 10]) (by kernel_rfl) (by simp) (AllD.cons rfl (fun K hK => ?_) (AllD.cons rfl (fun K hK => ?_) (AllD.cons rfl (fun K hK => ?_) AllD.nil))))
    | (have q := X2; clear q; (fail_if_success (have q := X3)); (fail_if_success (have q := PA)); have q := PB; clear q; refine WD_ready (rs := [8, 9]) (by kernel_rfl) (by simp) (AllD.cons rfl (fun K hK => ?_) (AllD.cons rfl (fun K hK => ?_) AllD.nil)))
    | (have q := X2; clear q; (fail_if_success (have q := X3)); have q := PA; clear q; (fail_if_success (have q := PB)); refine WD_ready (rs := [8, 10]) (by kernel_rfl) (by simp) (AllD.cons rfl (fun K hK => ?_) (AllD.cons rfl (fun K hK => ?_) AllD.nil)))
    | (have q := X2; clear q; (fail_if_success (have q := X3)); have q := PA; clear q; have q := PB; clear q; refine WD_ready (rs := [8]) (by kernel_rfl) (by simp) (AllD.cons rfl (fun K hK => ?_) AllD.nil))
    | (have q := X3; clear q; (fail_if_success (have q := PA)); (fail_if_success (have q := PB)); refine WD_ready (rs := [9, 10]) (by kernel_rfl) (by simp) (AllD.cons rfl (fun K hK => ?_) (AllD.cons rfl (fun K hK => ?_) AllD.nil)))
    | (have q := X3; clear q; (fail_if_success (have q := PA)); have q := PB; clear q; refine WD_ready (rs := [9]) (by kernel_rfl) (by simp) (AllD.cons rfl (fun K hK => ?_) AllD.nil))
    | (have q := X3; clear q; have q := PA; clear q; (fail_if_success (have q := PB)); refine WD_ready (rs := [10]) (by kernel_rfl) (by simp) (AllD.cons rfl (fun K hK => ?_) AllD.nil))
  all_goals (
    refine WD_ready (rs := [11]) (by decide +kernel) (by simp) (AllD.last rfl (by kernel_rfl) (fun K hK => ?_) AllD.nil)
    rw [if_pos (by rfl)]
    have z0 := (PA).1
    obtain ⟨y0, y1, y2, y3, y4⟩ := five5 z0
    have k0 := froz5 z0 0
    have k1 := froz5 z0 1
    have k2 := froz5 z0 2
    have k3 := froz5 z0 3
    have k4 := froz5 z0 4
    go_simp
    obtain ⟨wz, hwz, nz, pz, rz, iz, qz, hz⟩ := store5 NQ PA (.slice Al1 Q.2.length ca1) (.int .i64 Q.1.k) (.string Q.1.nm) (.int .i64 Q.1.vr) (.slice A1 Q.1.args.length c1)
    rw [← hwz]
    clear hwz y0 y1 y2 y3 y4 k0 k1 k2 k3 k4 z0
    refine hK.out _ _ ?_
    clear hK K
    (try simp only [putz])
    replace X1 := rz _ _ X1
    (try clear X2)
    replace X3 := rz _ _ X3
    replace I1 := iz _ _ I1
    replace I3 := iz _ _ I3
    replace PB := qz _ _ (by first | exact NE | exact Ne.symm NE) PB
    replace PA := pz
    replace NQ := nz
    (try replace hHeld := hz _ hHeld)
    clear rz iz qz hz
    refine WD_ready (rs := [12]) (by decide +kernel) (by simp) (AllD.last rfl (by kernel_rfl) (fun K hK => ?_) AllD.nil)
    rw [if_pos (by rfl)]
    have z0 := (PB).1
    obtain ⟨y0, y1, y2, y3, y4⟩ := five5 z0
    have k0 := froz5 z0 0
    have k1 := froz5 z0 1
    have k2 := froz5 z0 2
    have k3 := froz5 z0 3
    have k4 := froz5 z0 4
    go_simp
    obtain ⟨wz, hwz, nz, pz, rz, iz, qz, hz⟩ := store5 NQ PB (.slice Al2 Q.2.length ca2) (.int .i64 Q.1.k) (.string Q.1.nm) (.int .i64 Q.1.vr) (.slice A3 Q.1.args.length c3)
    rw [← hwz]
    clear hwz y0 y1 y2 y3 y4 k0 k1 k2 k3 k4 z0
    refine hK.out _ _ ?_
    clear hK K
    (try simp only [putz])
    replace X1 := rz _ _ X1
    (try clear X2)
    replace X3 := rz _ _ X3
    replace I1 := iz _ _ I1
    replace I3 := iz _ _ I3
    replace PA := qz _ _ (by first | exact NE | exact Ne.symm NE) PA
    replace PB := pz
    replace NQ := nz
    (try replace hHeld := hz _ hHeld)
    clear rz iz qz hz
    refine WD_done (by kernel_rfl) ?_ _
    exact hK _ _ Al1 A1 Al2 A3 ca1 c1 ca2 c3 _ _ _ _ _ _ _ _ _ _ PA.1 PB.1 I1.nil X1.nil I3.nil X3.nil hHeld PA.2.2 PB.2.2)
end Go.Proofs.YtifopogkbjhkjaaGreatDoor
