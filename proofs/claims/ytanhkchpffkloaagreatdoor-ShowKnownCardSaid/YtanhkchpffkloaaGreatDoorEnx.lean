import Derived.Test.YtanhkchpffkloaaGreatDoorEny
namespace Go.Proofs.YtanhkchpffkloaaGreatDoor
open Go
set_option linter.unusedVariables false
set_option linter.unusedSimpArgs false
noncomputable section
variable {ds : List Deferred}
/-! ### the clusters that are open -/
structure ZI (ops : Array Oper) (D : Nat → Bool) (m : Nat) (Z : List Clu) : Prop where
  nd : (Z.map fun c => c.z.i).Nodup
  cv : ∀ c ∈ Z, CV ops D m c
  dm : ∀ c ∈ Z, ∀ k, (cmask c).testBit k = true → ¬ m.testBit k = true
  dz : ∀ c ∈ Z, ∀ c' ∈ Z, c.z.i ≠ c'.z.i → ∀ k, (cmask c).testBit k = true → ¬ (cmask c').testBit k = true
  qt : ∀ c ∈ Z, ∀ c' ∈ Z, c.z.i ≠ c'.z.i → ∀ x ∈ c.all, ∀ y ∈ c'.all, Quiet ops x y
theorem ZI.of_perm {ops : Array Oper} {D : Nat → Bool} {m : Nat} {Z Z' : List Clu} (h : ZI ops D m Z) (p : Z.Perm Z') : ZI ops D m Z' :=
  ⟨(p.map _).nodup_iff.1 h.nd, fun c hc => h.cv c (p.mem_iff.2 hc), fun c hc => h.dm c (p.mem_iff.2 hc), fun c hc c' hc' => h.dz c (p.mem_iff.2 hc) c' (p.mem_iff.2 hc'), fun c hc c' hc' => h.qt c (p.mem_iff.2 hc) c' (p.mem_iff.2 hc')⟩
theorem ZI.tail {ops : Array Oper} {D : Nat → Bool} {m : Nat} {c : Clu} {Z : List Clu} (h : ZI ops D m (c :: Z)) : ZI ops D m Z :=
  ⟨(List.nodup_cons.1 h.nd).2, fun c hc => h.cv c (List.mem_cons_of_mem _ hc), fun c hc => h.dm c (List.mem_cons_of_mem _ hc), fun c hc c' hc' => h.dz c (List.mem_cons_of_mem _ hc) c' (List.mem_cons_of_mem _ hc'), fun c hc c' hc' => h.qt c (List.mem_cons_of_mem _ hc) c' (List.mem_cons_of_mem _ hc')⟩
theorem ZI.mono {ops : Array Oper} {D : Nat → Bool} {m m' : Nat} {Z : List Clu} (h : ZI ops D m Z) (hm : ∀ k, m.testBit k = true → m'.testBit k = true) (hd : ∀ c ∈ Z, ∀ k, (cmask c).testBit k = true → ¬ m'.testBit k = true) : ZI ops D m' Z :=
  ⟨h.nd, fun c hc => (h.cv c hc).mono hm, hd, h.dz, h.qt⟩
theorem ZI.ne {ops : Array Oper} {D : Nat → Bool} {m : Nat} {c : Clu} {Z : List Clu} (h : ZI ops D m (c :: Z)) : ∀ c' ∈ Z, c'.z.i ≠ c.z.i := fun c' hc' e =>
  (List.nodup_cons.1 h.nd).1 (List.mem_map.2 ⟨c', hc', e⟩)
theorem findC_spec : ∀ {Z : List Clu} {z : Nat} {r : Clu × List Clu}, findC Z z = some r → Z.Perm (r.1 :: r.2) ∧ r.1.z.i = z
  | [], z, r, h => by cases h
  | c :: Z, z, r, h => by
    change ite' (Nat.beq c.z.i z) (some (c, Z)) (match findC Z z with
      | some r => some (r.1, c :: r.2)
      | none => none) = some r at h
    cases hb : Nat.beq c.z.i z with
    | true => rw [hb] at h; cases h; exact ⟨List.Perm.refl _, Nat.eq_of_beq_eq_true hb⟩
    | false =>
      rw [hb, ite'_false] at h
      split at h
      · rename_i q hq
        cases h
        obtain ⟨p, e⟩ := findC_spec hq
        exact ⟨(p.cons c).trans (List.Perm.swap _ _ _), e⟩
      · cases h
theorem cmask_iff {c : Clu} {k : Nat} : (cmask c).testBit k = true ↔ ∃ x ∈ c.all, x.i = k := maskL_iff
theorem cmask_z (c : Clu) : (cmask c).testBit c.z.i = true := cmask_iff.2 ⟨c.z, List.mem_cons_self .., rfl⟩
/-- what has come up. -/
def UpM (m : Nat) (Z : List Clu) (md : Nat → Mo) (k : Nat) : Prop := m.testBit k = true ∨ ∃ c ∈ Z, (md c.z.i).up = true ∧ (cmask c).testBit k = true
theorem LM.congr {ops : Array Oper} {M M' : Nat → Prop} {listed : Array Bool} (h : LM ops M listed) (e : ∀ k, M k ↔ M' k) : LM ops M' listed := ⟨h.size, fun k => (h.at_ k).trans (e k)⟩
/-- what holds of the memory and the temporaries of those that are open. -/
structure DI (P : Program) (ops : Array Oper) (Z : List Clu) (md : Nat → Mo) (A : AA) (H : Hp) (E : Env) (a : Act) (w w0 : World) : Prop where
  cf : ∀ c ∈ Z, CF P ops c (md c.z.i) a w
  un : ∀ c ∈ Z, ∀ s, md c.z.i = .at s → w0.heap.size ≤ s ∧ ∀ b x, H.b.get b = some x → E.s b ≠ s
  ds : ∀ c ∈ Z, ∀ c' ∈ Z, ∀ s, md c.z.i = .at s → md c'.z.i = .at s → c.z.i = c'.z.i
  fg : ∀ c ∈ Z, ∀ x ∈ c.all, ∀ t, x.o.dst = some t → A.get t = none
theorem DI.of_perm {P : Program} {ops : Array Oper} {Z Z' : List Clu} {md : Nat → Mo} {A : AA} {H : Hp} {E : Env} {a : Act} {w w0 : World} (h : DI P ops Z md A H E a w w0) (p : Z.Perm Z') : DI P ops Z' md A H E a w w0 :=
  ⟨fun c hc => h.cf c (p.mem_iff.2 hc), fun c hc => h.un c (p.mem_iff.2 hc), fun c hc c' hc' => h.ds c (p.mem_iff.2 hc) c' (p.mem_iff.2 hc'), fun c hc => h.fg c (p.mem_iff.2 hc)⟩
theorem DI.tail {P : Program} {ops : Array Oper} {c : Clu} {Z : List Clu} {md : Nat → Mo} {A : AA} {H : Hp} {E : Env} {a : Act} {w w0 : World} (h : DI P ops (c :: Z) md A H E a w w0) : DI P ops Z md A H E a w w0 :=
  ⟨fun c hc => h.cf c (List.mem_cons_of_mem _ hc), fun c hc => h.un c (List.mem_cons_of_mem _ hc), fun c hc c' hc' => h.ds c (List.mem_cons_of_mem _ hc) c' (List.mem_cons_of_mem _ hc'), fun c hc => h.fg c (List.mem_cons_of_mem _ hc)⟩
theorem putA_get {A A1 : AA} {d : Option Tmp} {v : Value} (h : putA A d v = some A1) {t : Tmp} (ht : d ≠ some t) : A1.get t = A.get t := by
  cases d with
  | none => cases h; rfl
  | some t' =>
    obtain ⟨_, _, _, h4⟩ := AA.set_spec (show A.set t' v = some A1 from h)
    rw [h4, if_neg (fun e => ht (by rw [e]))]
/-- another operation has come up. -/
theorem DI.step {P : Program} {ops : Array Oper} (hsel : ∀ y, IsOI ops y → ∀ cs b, y.o.op ≠ .select cs b) {Z : List Clu} {md : Nat → Mo} {A A1 : AA} {H H1 : Hp} {E E1 : Env} {a : Act} {w w1 w0 : World} {x : OI} {v v' : Value} (h : DI P ops Z md A H E a w w0) (hoi : ∀ c ∈ Z, ∀ y ∈ c.all, IsOI ops y) (hq : ∀ c ∈ Z, ∀ y ∈ c.all, Quiet ops x y)
    (hp : putA A x.o.dst v = some A1) (g : Gd E E1 H H1 w w1) : DI P ops Z md A1 H1 E1 (a.put x.o.dst v') w1 w0 := by
  have hrow : ∀ c ∈ Z, ∀ s, md c.z.i = .at s → s < w.heap.size → w1.heap[s]? = w.heap[s]? := fun c hc s hs hlt => g.frame s hlt fun b y hb _ => (h.un c hc s hs).2 b y hb
  refine ⟨fun c hc => ?_, fun c hc s hs => ⟨(h.un c hc s hs).1, fun b y hb => ?_⟩, h.ds, fun c hc y hy t ht => ?_⟩
  · have h1 := (h.cf c hc).put (fun y hy => hsel y (hoi c hc y hy)) (dst := x.o.dst) (fun y hy d hd => hq c hc y hy d hd) v'
    exact ⟨h1.1.world fun s hs hlt => hrow c hc s hs hlt, h1.2⟩
  · rcases g.dom b y hb with ⟨b0, y0, h1, _, h2⟩ | h1
    · rw [h2]; exact (h.un c hc s hs).2 b0 y0 h1
    · have hz := (h.cf c hc).1
      rw [hs] at hz
      obtain ⟨_, d, l', e, sh, _, _, _, h5⟩ := hz
      have := (Array.getElem?_eq_some_iff.1 h5).1
      omega
  · rw [putA_get hp fun e => (hq c hc y hy t e).2 ht]
    exact h.fg c hc y hy t ht
end
end Go.Proofs.YtanhkchpffkloaaGreatDoor
