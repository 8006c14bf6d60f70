import Derived.Test.YtonnadedbbfapaaBefore
import Derived.Deep.RegionHeld3
namespace Go.Proofs.Ytonnadedbbfapaa
open Go.ChangeShapes Go.WideShapes Go.ChangeAt Go.RowKit
/-- the reference keeper at block g, its list at block h. -/
structure RAt (w : World) (g : Nat) (every most : Int) (h cap : Nat) (xs : List Int) : Prop where
  obj : w.heap[g]? = some (.cells #[.int .i64 every, .int .i64 most, .slice (some ⟨h, 0, none⟩) xs.length cap] 30 (0, 0))
  rd : Rd w h 0 xs
  hlt : h < w.heap.size
  ne : h ≠ g
section
variable {w : World} {g : Nat} {every most : Int} {h cap : Nat} {xs : List Int}
theorem RAt.c0 (k : RAt w g every most h cap xs) : w.cell? ⟨g, 0, none⟩ = some (.int .i64 every) := by simp [World.cell?, k.obj]
theorem RAt.c1 (k : RAt w g every most h cap xs) : w.cell? ⟨g, 1, none⟩ = some (.int .i64 most) := by simp [World.cell?, k.obj]
theorem RAt.c2 (k : RAt w g every most h cap xs) : w.cell? ⟨g, 2, none⟩ = some (.slice (some ⟨h, 0, none⟩) xs.length cap) := by simp [World.cell?, k.obj]
theorem RAt.f (k : RAt w g every most h cap xs) (i : Nat) : w.frozen? ⟨g, i, none⟩ = false := by simp [World.frozen?, k.obj]
theorem RAt.cx (k : RAt w g every most h cap xs) (j : Nat) (hj : j < xs.length) : w.cell? ⟨h, j, none⟩ = some (.int .i64 (xs.getD j 0)) := by
  have := k.rd j hj; rwa [Nat.zero_add] at this
theorem RAt.lt (k : RAt w g every most h cap xs) : g < w.heap.size := by
  have := k.obj
  by_cases hh : g < w.heap.size
  · exact hh
  · rw [Array.getElem?_eq_none (by omega)] at this; cases this
theorem RAt.below {w' : World} (k : RAt w g every most h cap xs) (hb : Below w.heap.size w w') : RAt w' g every most h cap xs :=
  ⟨by rw [hb.block g k.lt]; exact k.obj, k.rd.below hb k.hlt, Nat.lt_of_lt_of_le k.hlt hb.size, k.ne⟩
theorem RAt.drewN (k : RAt w g every most h cap xs) (n : Nat) : RAt (w.drewN n) g every most h cap xs := ⟨k.obj, k.rd, k.hlt, k.ne⟩
theorem RAt.fr {w' : World} {a b : Nat} (k : RAt w g every most h cap xs) (f : Fr a b w w') (h1 : g ≠ a) (h2 : g ≠ b) (h3 : h ≠ a) (h4 : h ≠ b) : RAt w' g every most h cap xs :=
  ⟨by rw [f.block g k.lt h1 h2]; exact k.obj, fun j hj => by
    have := k.rd j hj
    rw [World.cell?_of_block (f.block h k.hlt h3 h4)]; exact this, Nat.lt_of_lt_of_le k.hlt f.size, k.ne⟩
theorem KAt.fr {w' : World} {B a b : Nat} (k : KAt w B g every most h cap xs) (f : Fr a b w w') (h1 : g ≠ a) (h2 : g ≠ b) (h3 : h ≠ a) (h4 : h ≠ b) : KAt w' B g every most h cap xs :=
  ⟨by rw [f.block g k.lt h1 h2]; exact k.obj, by
    have hh := k.hlt
    refine ⟨k.own.1, ?_⟩
    rcases k.own.2 with ⟨e, _⟩ | ⟨g', cap', cur, e, e1, e2, e3, e4, e5, e6⟩
    · cases e
    · injection e with q1 _ q3
      injection q1 with q1; injection q1 with q1
      subst q1; subst q3
      exact .inr ⟨h, cap, cur, rfl, e1, by rw [f.block h hh.2 h3 h4]; exact e2, e3, e4, e5, e6⟩, k.ne, k.ge⟩
end

theorem rwants_any (c : Int) {w : World} {g : Nat} {every most : Int} {h cap : Nat} {xs : List Int} (k : RAt w g every most h cap xs) (h1 : 1 ≤ every) (hx : 0 < xs.length) (hxl : xs.length ≤ 1000) (hc : -9223372036854775808 ≤ c) (hc2 : c ≤ 9223372036854775807) :
    Calls Try.prog 9 #[.pointer (some ⟨g, 0, none⟩), .int .i64 c] w fun e w' => e = .returned (.bool (wantsB every c xs)) ∧ ∃ n, w' = w.drewN n := by
  have c0 := k.c0
  have c2 := k.c2
  have cx := k.cx (xs.length - 1) (by omega)
  clear k
  unfold wantsB
  by_cases hc0 : 0 ≤ c
  · rw [show decide (0 ≤ c) = true from decide_eq_true hc0]
    cases hm : (c % every == 0)
    · have hd : decide (c ≥ 0) = true := decide_eq_true hc0
      clear hd
      go_enter Try.func9, Try.ntmps9
      go_wp2
      go_quiet (fail)
      go_wp2
      go_ret
      exact ⟨rfl, _, rfl⟩
    · unfold lastX
      obtain ⟨l, hl⟩ : ∃ l, l = xs.getD (xs.length - 1) 0 := ⟨_, rfl⟩
      rw [← hl] at cx ⊢
      have HL := Lib.hid hl; clear hl
      by_cases hlt : l < c
      · rw [show decide (l < c) = true from decide_eq_true hlt]
        go_enter Try.func9, Try.ntmps9
        go_wp2
        go_quiet (fail)
        go_wp2
        go_ret
        exact ⟨rfl, _, rfl⟩
      · rw [show decide (l < c) = false from decide_eq_false hlt]
        have hge : c ≤ l := by omega
        have hd : decide (l < c) = false := decide_eq_false hlt
        clear hlt
        go_enter Try.func9, Try.ntmps9
        go_wp2
        go_quiet (fail)
        go_wp2
        go_ret
        exact ⟨rfl, _, rfl⟩
  · rw [show decide (0 ≤ c) = false from decide_eq_false hc0]
    have hd : decide (0 ≤ c) = false := decide_eq_false hc0
    go_enter Try.func9, Try.ntmps9
    go_wp2
    go_quiet (fail)
    go_wp2
    go_ret
    exact ⟨rfl, _, rfl⟩
theorem rbefore_any (c : Int) {w : World} {g : Nat} {every most : Int} {h cap : Nat} {xs : List Int} (k : RAt w g every most h cap xs) (hxl : xs.length ≤ 1000) :
    Calls Try.prog 15 #[.pointer (some ⟨g, 0, none⟩), .int .i64 c] w fun e w' => e = .returned (.int .i64 (beforeGo c xs xs.length)) ∧ w = w' := by
  have c2 := k.c2
  have cx := fun j hj => k.cx j hj
  clear k
  have CX := Lib.hid cx; clear cx
  go_enter Try.func15, Try.ntmps15
  go_wp2
  go_loop [5, 6] (fun b i => ∃ k : Nat, k ≤ xs.length ∧ i = .int .i64 k ∧ ∃ z, Hid (z = beforeGo c xs k) ∧ b = .int .i64 z) (fun _ i => xs.length - (intOf i).toNat)
  case atStart => exact ⟨0, by omega, rfl, 0, Lib.hid rfl, rfl⟩
  case round =>
    obtain ⟨k, hk, rfl, z, hz, rfl⟩ := hrel
    by_cases hlt : k < xs.length
    · have cx := CX.out k hlt
      obtain ⟨x, hx⟩ : ∃ x, x = xs.getD k 0 := ⟨_, rfl⟩
      rw [← hx] at cx
      have HX := Lib.hid hx; clear hx
      by_cases hle : x ≤ c
      · have HN : Hid (x = beforeGo c xs (k + 1)) := Lib.hid (by simp only [beforeGo]; rw [← HX.out, if_pos hle])
        go_wp2
        go_round
        case rel => exact ⟨k + 1, by omega, by go_num, x, HN, rfl⟩
        case measure => simp [intOf]; omega
      · have HN : Hid (z = beforeGo c xs (k + 1)) := Lib.hid (by simp only [beforeGo]; rw [← HX.out, if_neg hle]; exact hz.out)
        have hgt : c < x := by omega
        clear hle
        go_wp2
        go_round
        case rel => exact ⟨k + 1, by omega, by go_num, z, HN, rfl⟩
        case measure => simp [intOf]; omega
    · obtain rfl : k = xs.length := by omega
      clear hlt
      go_wp2
      go_ret
      rw [← hz.out]
      exact ⟨rfl, rfl⟩
theorem rgap_any {w : World} {g : Nat} {every most : Int} {h cap : Nat} {xs : List Int} (k : RAt w g every most h cap xs) (hx0 : 0 < xs.length) (hxl : xs.length ≤ 1000) :
    Calls Try.prog 17 #[.pointer (some ⟨g, 0, none⟩)] w fun e w' => e = .returned (.int .i64 (gapGo xs (xs.length - 1))) ∧ ∃ n, w' = w.drewN n := by
  have c2 := k.c2
  have cx := fun j hj => k.cx j hj
  clear k
  have CX := Lib.hid cx; clear cx
  go_enter Try.func17, Try.ntmps17
  go_wp2
  go_loopw [3, 4] (fun b i w' => ∃ k nd : Nat, k + 1 ≤ xs.length ∧ i = .int .i64 ((k : Int) + 1) ∧ w' = w.drewN nd ∧ ∃ z, Hid (z = gapGo xs k) ∧ b = .int .i64 z) (fun _ i _ => xs.length - (intOf i).toNat)
  case atStart => exact ⟨0, 0, by omega, rfl, rfl, 0, Lib.hid rfl, rfl⟩
  case round =>
    obtain ⟨k, nd, hk, rfl, rfl, z, hz, rfl⟩ := hrel
    by_cases hlt : k + 1 < xs.length
    · have cx := CX.out k (by omega)
      have cy := CX.out (k + 1) hlt
      obtain ⟨x, hx⟩ : ∃ x, x = xs.getD k 0 := ⟨_, rfl⟩
      obtain ⟨y, hy⟩ : ∃ y, y = xs.getD (k + 1) 0 := ⟨_, rfl⟩
      rw [← hx] at cx
      rw [← hy] at cy
      have HX := Lib.hid hx; clear hx
      have HY := Lib.hid hy; clear hy
      by_cases hd : z < wrap64 (y - x)
      · have HN : Hid (wrap64 (y - x) = gapGo xs (k + 1)) := Lib.hid (by simp only [gapGo]; rw [← HX.out, ← HY.out, ← hz.out, if_pos hd])
        have hdd : decide (z < wrap64 (y - x)) = true := decide_eq_true hd
        clear hd
        go_wp2
        go_quiet (fail)
        go_wp2
        go_quiet (fail)
        go_wp2
        go_roundw
        case rel => exact ⟨k + 1, _, by omega, by go_num, rfl, _, HN, rfl⟩
        case measure => simp [intOf]; omega
      · have HN : Hid (z = gapGo xs (k + 1)) := Lib.hid (by simp only [gapGo]; rw [← HX.out, ← HY.out, ← hz.out, if_neg hd])
        have hdd : decide (z < wrap64 (y - x)) = false := decide_eq_false hd
        clear hd
        go_wp2
        go_quiet (fail)
        go_wp2
        go_roundw
        case rel => exact ⟨k + 1, _, by omega, by go_num, rfl, _, HN, rfl⟩
        case measure => simp [intOf]; omega
    · have hke : k = xs.length - 1 := by omega
      have HK := Lib.hid hke; clear hke
      have hge : xs.length ≤ k + 1 := by omega
      clear hlt
      go_wp2
      go_ret
      rw [← HK.out, ← hz.out]
      exact ⟨rfl, _, rfl⟩
theorem rd_news {w : World} {b off : Nat} {xs : List Int} (r : Rd w b off xs) : ∀ j u, (ints xs)[j]? = some u → w.cell? ((⟨b, off, none⟩ : Addr).add j) = some u := by
  intro j u hj
  have hl : j < xs.length := by have := (List.getElem?_eq_some_iff.1 hj).1; simpa [ints] using this
  rw [Go.WideShapes.add_plain, r j hl, ← hj]
  simp [ints, hl]
theorem ints_one (xs : List Int) : ∀ u ∈ ints xs, u.oneCell' = true := fun u hu => by simp [ints] at hu; obtain ⟨x, _, rfl⟩ := hu; rfl
theorem step_append_at {P : Program} {w : World} {ops : Array Oper} {o : Oper} {a : Act} {K : Act → World → Prop} {Q : Exit → Act → World → Prop} {E : Prop} (hgd : o.guard = none) (s x : Operand) (t : TypeId)
    (ho : o.op = .call { callee := .builtin .append, args := #[s, x], argTypes := #[t, t] })
    (base : Nat) (e : TypeId) (i : TypeInfo) (z : Value) (size bytes : Nat) (ht : P.underlying t = some (.slice e)) (hi : P.info? e = some i) (hz : i.zero = some z)
    (hsize : i.size = size) (hby : i.bytes = bytes) (hzs : z.cells.size = size) (hsz : 0 < size)
    (g n cap : Nat) (xs : List Value) (hs : a.eval s = .slice (some ⟨g, 0, none⟩) n cap) (hown : w.ownsRow base e size (.slice (some ⟨g, 0, none⟩) n cap) n xs)
    (ad : Addr) (m c : Nat) (news : List Value) (hx : a.eval x = .slice (some ad) m c) (hl : news.length = m * size) (hnews : ∀ j u, news[j]? = some u → w.cell? (ad.add j) = some u) (h1 : ∀ u ∈ news, u.oneCell' = true)
    (h63 : n + m ≤ maxLen) (hbytes : (n + m) * bytes ≤ 140737488355328) (hbase : base ≤ w.heap.size)
    (h : ∀ g' cap' w', w'.ownsRow base e size (.slice (some ⟨g', 0, none⟩) (n + m) cap') (n + m) (xs ++ news) → w.grownBy w' (some g) → (g' = g ∨ g' = w.heap.size) → K (a.put o.dst (.slice (some ⟨g', 0, none⟩) (n + m) cap')) w') :
    if Region.wanted o (yielded ops a.tmps) = true then Oper.wp P o a w K Q else E := by
  rw [if_pos (show Region.wanted o (yielded ops a.tmps) = true by simp [Region.wanted, hgd])]
  obtain ⟨g', cap', w', hr, h2, h3, h4⟩ := run_append_at (P := P) w base t o.type e i z size bytes ht hi hz hsize hby hzs hsz g n cap xs hown ad m c news hl hnews h1 h63 hbytes hbase
  unfold Oper.wp execOp
  simp only [ho, resolve, invoke, builtin, Sem.run_bind, Sem.run_pure, Result.andThen_ok, List.map_toArray, List.map_cons, List.map_nil, hs, hx, hr]
  exact h g' cap' w' h2 h3 h4
theorem below_grown {B : Nat} {w a b : World} (h : Below B w a) {g : Nat} (gr : a.grownBy b (some g)) (hg : B ≤ g) (hB : B ≤ a.heap.size) : Below B w b :=
  ⟨gr.os.trans h.os, gr.tape.trans h.tape, gr.output.trans h.output, Nat.le_trans h.size gr.size, fun k hk => (gr.block k (by omega) (by intro e; injection e with e; omega)).trans (h.block k hk)⟩
theorem rd_take {w : World} {b off : Nat} {xs : List Int} (r : Rd w b off xs) (m : Nat) : Rd w b off (xs.take m) := fun j hj => by
  rw [List.length_take] at hj
  rw [r j (by omega)]; simp [List.getD, show j < m by omega]
theorem rd_drop {w : World} {b off : Nat} {xs : List Int} (r : Rd w b off xs) (m : Nat) : Rd w b (off + m) (xs.drop m) := fun j hj => by
  rw [List.length_drop] at hj
  have := r (m + j) (by omega)
  rw [show off + (m + j) = off + m + j by omega] at this
  rw [this]; simp [List.getD]
theorem Fr.trans {a b : Nat} {w w1 w2 : World} (f : Fr a b w w1) (g : Fr a b w1 w2) : Fr a b w w2 :=
  ⟨g.os.trans f.os, g.tape.trans f.tape, g.output.trans f.output, Nat.le_trans f.size g.size, fun k hk h1 h2 => (g.block k (Nat.lt_of_lt_of_le hk f.size) h1 h2).trans (f.block k hk h1 h2)⟩
theorem radd_no (c : Int) {w : World} {g : Nat} {every most : Int} {h cap : Nat} {xs : List Int} (k : RAt w g every most h cap xs) (h1 : 1 ≤ every) (hx : 0 < xs.length) (hxl : xs.length ≤ 1000) (hc : -9223372036854775808 ≤ c) (hc2 : c ≤ 9223372036854775807)
    (hw : wantsB every c xs = false) :
    Calls Try.prog 11 #[.pointer (some ⟨g, 0, none⟩), .int .i64 c] w fun e w' => e = .returned (.tuple #[.slice none 0 0, .int .i64 1]) ∧ ∃ n, w' = w.drewN n := by
  have W := Lib.hid (rwants_any c k h1 hx hxl hc hc2)
  have HW := Lib.hid hw; clear hw
  go_enter Try.func11, Try.ntmps11
  go_wp2_with fail
  refine W.out.mono ?_; rintro e w1 ⟨rfl, n, rfl⟩
  rw [HW.out]
  go_wp2
  go_ret2
  exact ⟨rfl, _, rfl⟩
/-- the reference keeper behind its list's exchange. -/
theorem rstore {w w' : World} {g : Nat} {every most : Int} {h cap h' cap' : Nat} {xs ys : List Int} (k : RAt w g every most h cap xs) (hb : Below w.heap.size w w') (r : Rd w' h' 0 ys) (h1 : w.heap.size ≤ h') (h2 : h' < w'.heap.size) :
    RAt (w'.setCell ⟨g, 2, none⟩ (.slice (some ⟨h', 0, none⟩) ys.length cap')) g every most h' cap' ys ∧ Fr g g w (w'.setCell ⟨g, 2, none⟩ (.slice (some ⟨h', 0, none⟩) ys.length cap')) := by
  have hlt := k.lt
  have og : w'.heap[g]? = some (.cells #[.int .i64 every, .int .i64 most, .slice (some ⟨h, 0, none⟩) xs.length cap] 30 (0, 0)) := by rw [hb.block g hlt]; exact k.obj
  refine ⟨⟨?_, ?_, ?_, by omega⟩, ⟨hb.os, hb.tape, hb.output, ?_, ?_⟩⟩
  · simp [World.setCell, Array.getElem?_modify, og]
  · intro j hj
    rw [World.cell?_setCell_other _ _ _ _ (by intro e; injection e with e; omega)]
    exact r j hj
  · simp [World.setCell]; exact h2
  · have := hb.size; simp [World.setCell]; exact this
  · intro i hi h1 h2
    rw [Below.heap_setCell _ _ _ _ h1, hb.block i hi]
set_option maxHeartbeats 2000000 in
theorem radd_room (c : Int) {w : World} {g : Nat} {every most : Int} {h cap : Nat} {xs : List Int} (k : RAt w g every most h cap xs) (h1 : 1 ≤ every) (hx : 0 < xs.length) (hxl : xs.length ≤ 900) (hc : -9223372036854775808 ≤ c) (hc2 : c ≤ 9223372036854775807)
    (hw : wantsB every c xs = true) (hm : (xs.length : Int) + 1 ≤ most) :
    Calls Try.prog 11 #[.pointer (some ⟨g, 0, none⟩), .int .i64 c] w fun e w' => e = .returned (.tuple #[.slice none 0 0, .int .i64 0]) ∧ ∃ h' cap', RAt w' g every most h' cap' (xs ++ [c]) ∧ Fr g g w w' ∧ w.heap.size ≤ h' := by
  have W := Lib.hid (rwants_any c k h1 hx (by omega) hc hc2)
  have HW := Lib.hid hw; clear hw
  have KK := Lib.hid k; clear k
  obtain ⟨i0, hi0, hz0, hz1, hz2⟩ := info_parts info2
  go_enter Try.func11, Try.ntmps11
  go_wp2_with fail
  refine W.out.mono ?_; rintro e w1 ⟨rfl, n, rfl⟩
  rw [HW.out]
  have c2 := ((KK.out.drewN n).below (below_alloc (w.drewN n) (.cells #[] 2))).c2
  have rd0 := ((KK.out.drewN n).rd.below (below_alloc (w.drewN n) (.cells #[] 2)) (KK.out.drewN n).hlt)
  have RD0 := Lib.hid rd0; clear rd0
  go_wp2_with (at_builtin; refine wpList_append_at rfl (.tmp 14) (.tmp 18) 22 rfl w.heap.size 2 i0 (.int .i64 0) 1 8 Try.underlying22 hi0 hz0 hz1 hz2 rfl (by decide) _ _ _ [] rfl (World.ownsRow_lit (w.drewN n) #[] 0 (Nat.le_refl _) (by unfold maxLen; omega) rfl) ⟨h, 0, none⟩ _ _ (ints xs) rfl (by simp [ints]) (rd_news RD0.out) (ints_one xs) (by unfold maxLen; omega) (by omega) (by simp) ?_)
  intro g1 cap1 w2 own2 gr2 hh
  have hb2 : Below w.heap.size w w2 := below_grown ((below_drewN w n).trans (below_alloc (w.drewN n) (.cells #[] 2))) gr2 (Nat.le_refl _) (by simp)
  have HB2 := Lib.hid hb2; clear hb2
  have hh2 : w.heap.size ≤ g1 := by rcases hh with e | e <;> rw [e] <;> simp
  have HH2 := Lib.hid hh2; clear hh2 hh gr2
  have own3 := own2.alloc (.cells #[.int .i64 c] 2)
  have OWN3 := Lib.hid own3; clear own3 own2
  go_wp2_with (at_builtin; refine wpList_append_at rfl (.tmp 19) (.tmp 21) 22 rfl w.heap.size 2 i0 (.int .i64 0) 1 8 Try.underlying22 hi0 hz0 hz1 hz2 rfl (by decide) _ _ _ _ rfl OWN3.out ⟨w2.heap.size, 0, none⟩ 1 1 [.int .i64 c] rfl rfl ?c1 ?c2 (by unfold maxLen; omega) (by omega) (by have := HB2.out.size; simp; omega) ?_)
  case c1 =>
    intro j u hj
    match j, hj with
    | 0, hj => simp at hj; subst hj; exact new_cell w2 _ 2
  case c2 => intro u hu; simp at hu; subst hu; rfl
  intro g2 cap2 w3 own4 gr4 hh4
  have hb3 : Below w.heap.size w w3 := below_grown (HB2.out.trans ((below_alloc w2 (.cells #[.int .i64 c] 2)).mono HB2.out.size)) gr4 HH2.out (by have := HB2.out.size; simp; omega)
  have hh3 : w.heap.size ≤ g2 := by have := HB2.out.size; rcases hh4 with e | e; rw [e]; exact HH2.out; rw [e]; simp; omega
  have hl2 : g2 < w3.heap.size := (own4.lt g2 rfl).2
  have r3 : Rd w3 g2 0 (xs ++ [c]) := rd_own (B := w.heap.size) (cap := cap2) (n := 0 + xs.length + 1) (by simpa [ints] using own4) (by simp)
  have st := rstore (cap' := cap2) KK.out hb3 r3 hh3 hl2
  have HB3 := Lib.hid hb3; have HH3 := Lib.hid hh3; have HL3 := Lib.hid hl2
  clear hb3 hh3 hl2 r3 own4 gr4 hh4
  rw [show (xs ++ [c]).length = xs.length + 1 from by simp] at st
  have ST := Lib.hid st; clear st
  have ca : w3.cell? ⟨g, 2, none⟩ = some (.slice (some ⟨h, 0, none⟩) xs.length cap) := (KK.out.below HB3.out).c2
  have cb : w3.frozen? ⟨g, 2, none⟩ = false := (KK.out.below HB3.out).f 2
  have cc : w3.cell? ⟨g, 1, none⟩ = some (.int .i64 most) := (KK.out.below HB3.out).c1
  go_wp2
  go_ret2
  exact ⟨rfl, g2, cap2, ST.out.1, ST.out.2, HH3.out⟩
set_option maxHeartbeats 4000000 in
theorem radd_drop (c : Int) {w : World} {g : Nat} {every most : Int} {h cap : Nat} {xs ys : List Int} (hys : ys = xs ++ [c]) (k : RAt w g every most h cap xs) (h1 : 1 ≤ every) (hx : 0 < xs.length) (hxl : xs.length ≤ 900) (hc : -9223372036854775808 ≤ c) (hc2 : c ≤ 9223372036854775807)
    (hw : wantsB every c xs = true) (hx1 : 2 ≤ xs.length) (hm : most < (xs.length : Int) + 1) :
    Calls Try.prog 11 #[.pointer (some ⟨g, 0, none⟩), .int .i64 c] w fun e w' => ∃ b, e = .returned (.tuple #[.slice (some ⟨b, 0, none⟩) 1 1, .int .i64 0]) ∧ w'.heap[b]? = some (.cells #[.int .i64 (ys.getD (bestGo ys (xs.length - 2)) 0)] 2 (0, 0)) ∧
      ∃ h' cap', RAt w' g every most h' cap' (ys.eraseIdx (bestGo ys (xs.length - 2))) ∧ Fr g g w w' ∧ w.heap.size ≤ h' := by
  have hyl : ys.length = xs.length + 1 := by rw [hys]; simp
  have HYS := Lib.hid hys; clear hys
  have HYL := Lib.hid hyl; clear hyl
  have W := Lib.hid (rwants_any c k h1 hx (by omega) hc hc2)
  have HW := Lib.hid hw; clear hw
  have KK := Lib.hid k; clear k
  obtain ⟨i0, hi0, hz0, hz1, hz2⟩ := info_parts info2
  go_enter Try.func11, Try.ntmps11
  go_wp2_with fail
  refine W.out.mono ?_; rintro e w1 ⟨rfl, n, rfl⟩
  rw [HW.out]
  have c2 := ((KK.out.drewN n).below (below_alloc (w.drewN n) (.cells #[] 2))).c2
  have rd0 := ((KK.out.drewN n).rd.below (below_alloc (w.drewN n) (.cells #[] 2)) (KK.out.drewN n).hlt)
  have RD0 := Lib.hid rd0; clear rd0
  go_wp2_with (at_builtin; refine wpList_append_at rfl (.tmp 14) (.tmp 18) 22 rfl w.heap.size 2 i0 (.int .i64 0) 1 8 Try.underlying22 hi0 hz0 hz1 hz2 rfl (by decide) _ _ _ [] rfl (World.ownsRow_lit (w.drewN n) #[] 0 (Nat.le_refl _) (by unfold maxLen; omega) rfl) ⟨h, 0, none⟩ _ _ (ints xs) rfl (by simp [ints]) (rd_news RD0.out) (ints_one xs) (by unfold maxLen; omega) (by omega) (by simp) ?_)
  intro g1 cap1 w2 own2 gr2 hh
  have hb2 : Below w.heap.size w w2 := below_grown ((below_drewN w n).trans (below_alloc (w.drewN n) (.cells #[] 2))) gr2 (Nat.le_refl _) (by simp)
  have HB2 := Lib.hid hb2; clear hb2
  have hh2 : w.heap.size ≤ g1 := by rcases hh with e | e <;> rw [e] <;> simp
  have HH2 := Lib.hid hh2; clear hh2 hh gr2
  have own3 := own2.alloc (.cells #[.int .i64 c] 2)
  have OWN3 := Lib.hid own3; clear own3 own2
  go_wp2_with (at_builtin; refine wpList_append_at rfl (.tmp 19) (.tmp 21) 22 rfl w.heap.size 2 i0 (.int .i64 0) 1 8 Try.underlying22 hi0 hz0 hz1 hz2 rfl (by decide) _ _ _ _ rfl OWN3.out ⟨w2.heap.size, 0, none⟩ 1 1 [.int .i64 c] rfl rfl ?c1 ?c2 (by unfold maxLen; omega) (by omega) (by have := HB2.out.size; simp; omega) ?_)
  case c1 =>
    intro j u hj
    match j, hj with
    | 0, hj => simp at hj; subst hj; exact new_cell w2 _ 2
  case c2 => intro u hu; simp at hu; subst hu; rfl
  intro g2 cap2 w3 own4 gr4 hh4
  have hb3 : Below w.heap.size w w3 := below_grown (HB2.out.trans ((below_alloc w2 (.cells #[.int .i64 c] 2)).mono HB2.out.size)) gr4 HH2.out (by have := HB2.out.size; simp; omega)
  have hh3 : w.heap.size ≤ g2 := by have := HB2.out.size; rcases hh4 with e | e; rw [e]; exact HH2.out; rw [e]; simp; omega
  have hl2 : g2 < w3.heap.size := (own4.lt g2 rfl).2
  have r3 : Rd w3 g2 0 (xs ++ [c]) := rd_own (B := w.heap.size) (cap := cap2) (n := 0 + xs.length + 1) (by simpa [ints] using own4) (by simp)
  have st := rstore (cap' := cap2) KK.out hb3 r3 hh3 hl2
  have HCAP : xs.length + 1 ≤ cap2 := by
    rcases own4.2 with ⟨e, _⟩ | ⟨_, _, _, e, _, _, q, _⟩
    · cases e
    · injection e with _ _ e3; subst e3; omega
  have HB3 := Lib.hid hb3; have HH3 := Lib.hid hh3; have HL3 := Lib.hid hl2
  clear hb3 hh3 hl2 r3 own4 gr4 hh4
  rw [show (xs ++ [c]).length = xs.length + 1 from by simp] at st
  have ST := Lib.hid st; clear st
  have ca : w3.cell? ⟨g, 2, none⟩ = some (.slice (some ⟨h, 0, none⟩) xs.length cap) := (KK.out.below HB3.out).c2
  have cb : w3.frozen? ⟨g, 2, none⟩ = false := (KK.out.below HB3.out).f 2
  have cc : w3.cell? ⟨g, 1, none⟩ = some (.int .i64 most) := (KK.out.below HB3.out).c1
  obtain ⟨wA, hwA⟩ : ∃ wA, wA = w3.setCell ⟨g, 2, none⟩ (.slice (some ⟨g2, 0, none⟩) (xs.length + 1) cap2) := ⟨_, rfl⟩
  have HWA := Lib.hid hwA
  clear hwA
  go_wp2
  rw [← HWA.out] at ST ⊢
  have K3 := Lib.hid ST.out.1
  have F3 := Lib.hid ST.out.2
  rw [← HYS.out] at K3
  have CX := Lib.hid (fun j hj => K3.out.cx j hj)
  clear ca cb cc
  go_loopw [7, 8] (fun b i w' => ∃ m j nd : Nat, 2 ≤ j ∧ j ≤ xs.length ∧ i = .int .i64 j ∧ b = .int .i64 m ∧ 1 ≤ m ∧ m < xs.length ∧ w' = wA.drewN nd ∧ Hid (m = bestGo ys (j - 2))) (fun _ i _ => xs.length - (intOf i).toNat)
  case atStart => exact ⟨1, 2, 0, by omega, by omega, rfl, rfl, by omega, by omega, rfl, Lib.hid rfl⟩
  case round =>
    obtain ⟨m, j, nd, hj2, hjn, rfl, rfl, hm1, hmn, rfl, hb⟩ := hrel
    by_cases hlt : j < xs.length
    · have x1 := CX.out (j + 1) (by rw [HYL.out]; omega)
      have x2 := CX.out (j - 1) (by rw [HYL.out]; omega)
      have x3 := CX.out (m + 1) (by rw [HYL.out]; omega)
      have x4 := CX.out (m - 1) (by rw [HYL.out]; omega)
      obtain ⟨y1, e1⟩ : ∃ y, y = ys.getD (j + 1) 0 := ⟨_, rfl⟩
      obtain ⟨y2, e2⟩ : ∃ y, y = ys.getD (j - 1) 0 := ⟨_, rfl⟩
      obtain ⟨y3, e3⟩ : ∃ y, y = ys.getD (m + 1) 0 := ⟨_, rfl⟩
      obtain ⟨y4, e4⟩ : ∃ y, y = ys.getD (m - 1) 0 := ⟨_, rfl⟩
      rw [← e1] at x1; rw [← e2] at x2; rw [← e3] at x3; rw [← e4] at x4
      have D1 : Hid (diffX ys j = wrap64 (y1 - y2)) := Lib.hid (by unfold diffX; rw [← e1, ← e2])
      have D2 : Hid (diffX ys m = wrap64 (y3 - y4)) := Lib.hid (by unfold diffX; rw [← e3, ← e4])
      clear e1 e2 e3 e4
      by_cases hd : wrap64 (y1 - y2) < wrap64 (y3 - y4)
      · have HN : Hid (j = bestGo ys (j + 1 - 2)) := Lib.hid (by
          rw [show j + 1 - 2 = (j - 2) + 1 from by omega]; simp only [bestGo]
          rw [show j - 2 + 2 = j from by omega, ← hb.out, D1.out, D2.out, if_pos hd])
        go_wp2
        go_quiet (fail)
        go_wp2
        go_roundw
        case rel => exact ⟨j, j + 1, _, by omega, by omega, by go_num, rfl, by omega, by omega, rfl, HN⟩
        case measure => simp [intOf]; omega
      · have HN : Hid (m = bestGo ys (j + 1 - 2)) := Lib.hid (by
          rw [show j + 1 - 2 = (j - 2) + 1 from by omega]; simp only [bestGo]
          rw [show j - 2 + 2 = j from by omega, ← hb.out, D1.out, D2.out, if_neg hd])
        have hd2 : decide (wrap64 (y1 - y2) < wrap64 (y3 - y4)) = false := decide_eq_false hd
        clear hd
        go_wp2
        go_quiet (fail)
        go_wp2
        go_roundw
        case rel => exact ⟨m, j + 1, _, by omega, by omega, by go_num, rfl, by omega, by omega, rfl, HN⟩
        case measure => simp [intOf]; omega
    · have x1 := CX.out m (by rw [HYL.out]; omega)
      obtain ⟨y1, e1⟩ : ∃ y, y = ys.getD m 0 := ⟨_, rfl⟩
      rw [← e1] at x1
      have E1 := Lib.hid e1; clear e1
      have hge : xs.length ≤ j := by omega
      clear hlt
      go_wp2
      have rT := Lib.hid (rd_take K3.out.rd m)
      have rD := Lib.hid (rd_drop K3.out.rd (m + 1))
      have hTl : (ys.take m).length = m := by rw [List.length_take, HYL.out]; omega
      have hDl : (ys.drop (m + 1)).length = xs.length - m := by rw [List.length_drop, HYL.out]; omega
      have HTL := Lib.hid hTl; have HDL := Lib.hid hDl; clear hTl hDl
      have ne : ¬ cap2 = m + 1 := by omega
      have ne0 : ¬ cap2 = 0 := by omega
      have q1 : m ≤ cap2 := by omega
      have q2 : m ≤ xs.length := by omega
      have wm : IntKind.i64.wrap ((m : Int) + 1) = m + 1 := by simp only [IntKind.wrap_i64]; omega
      have p1 : (0 : Int) ≤ (m : Int) + 1 := by omega
      have p2 : ((m : Int) + 1).toNat = m + 1 := by omega
      have FS := F3.out.size
      go_region_held3 (fun _ => True) (trivial) (first
        | (refine step_append_at rfl (.tmp 70) (.tmp 73) 22 rfl w.heap.size 2 i0 (.int .i64 0) 1 8 Try.underlying22 hi0 hz0 hz1 hz2 rfl (by decide) _ _ _ [] rfl (World.ownsRow_lit _ #[] 0 FS (by unfold maxLen; omega) rfl) ⟨g2, 0, none⟩ _ _ (ints (ys.take m)) rfl (by have := HTL.out; simp only [ints, List.length_map]; omega) (rd_news (rT.out.below ((below_drewN wA (nd + 1)).trans (below_alloc (wA.drewN (nd + 1)) (.cells #[] 2))) K3.out.hlt)) (ints_one _) (by unfold maxLen; omega) (by omega) (by simp; omega) ?_
           intro g3 cap3 w5 own5 gr5 hh5
           rw [Nat.zero_add] at own5 ⊢
           have hb5 : Below wA.heap.size wA w5 := below_grown ((below_drewN wA (nd + 1)).trans (below_alloc (wA.drewN (nd + 1)) _)) gr5 (Nat.le_refl _) (by simp)
           have r5 : Rd w5 g2 (m + 1) (ys.drop (m + 1)) := by have := rD.out.below hb5 K3.out.hlt; rwa [Nat.zero_add] at this
           have hg5 : wA.heap.size ≤ g3 := by rcases hh5 with e | e <;> rw [e] <;> simp
           have OWN5 := Lib.hid own5
           have R5 := Lib.hid r5
           have HB5 := Lib.hid hb5
           have HS5 : wA.heap.size ≤ w5.heap.size := hb5.size
           clear own5 r5 hb5 gr5 hh5)
        | (refine step_append_at rfl (.tmp 74) (.tmp 78) 22 rfl w.heap.size 2 i0 (.int .i64 0) 1 8 Try.underlying22 hi0 hz0 hz1 hz2 rfl (by decide) _ _ _ _ rfl OWN5.out ⟨g2, m + 1, none⟩ _ _ (ints (ys.drop (m + 1))) rfl (by have := HDL.out; simp only [ints, List.length_map]; omega) (rd_news R5.out) (ints_one _) (by unfold maxLen; omega) (by omega) (by omega) ?_
           intro g4 cap4 w6 own6 gr6 hh6
           rw [show m + (xs.length - m) = xs.length from by omega] at own6 ⊢
           have hb6 : Below wA.heap.size wA w6 := below_grown HB5.out gr6 hg5 HS5
           have hg6 : wA.heap.size ≤ g4 := by rcases hh6 with e | e <;> rw [e] <;> assumption
           have hl6 := (own6.lt g4 rfl).2
           have hel : (ys.eraseIdx m) = ys.take m ++ ys.drop (m + 1) := List.eraseIdx_eq_take_drop_succ ys m
           have r6 : Rd w6 g4 0 (ys.eraseIdx m) := rd_own (B := w.heap.size) (cap := cap4) (n := xs.length) (by simpa [ints, hel] using own6) (by rw [hel, List.length_append, HTL.out, HDL.out]; omega)
           have ca := (K3.out.below hb6).c2
           have cb := (K3.out.below hb6).f 2
           have st := rstore (cap' := cap4) K3.out hb6 r6 hg6 hl6
           rw [show (ys.eraseIdx m).length = xs.length from by rw [hel, List.length_append, HTL.out, HDL.out]; omega] at st
           have ST6 := Lib.hid st
           have HB6 := Lib.hid hb6
           clear own6 gr6 hh6 hel r6 st hb6))
      go_wp2
      go_ret2
      obtain ⟨k6, f6⟩ := ST6.out
      obtain rfl : j = xs.length := by omega
      rw [hb.out] at k6
      obtain ⟨wB, hwB⟩ : ∃ wB, wB = w6.setCell ⟨g, 2, none⟩ (.slice (some ⟨g4, 0, none⟩) xs.length cap4) := ⟨_, rfl⟩
      rw [← hwB] at k6 f6 ⊢
      have hs : wB.heap.size = w6.heap.size := by rw [hwB]; simp [World.setCell]
      refine ⟨w6.heap.size, rfl, ?_, g4, cap4, k6.below (below_alloc wB _), ?_, Nat.le_trans F3.out.size hg6⟩
      · rw [← hb.out, ← E1.out, ← hs]; exact (MapKept.heap_alloc wB _).1
      · exact (F3.out.trans f6).trans (Fr.of_below (below_alloc wB _))
end Go.Proofs.Ytonnadedbbfapaa
