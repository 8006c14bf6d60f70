import Derived.Test.YtclilpabdcdeoaaDoorNw
namespace Go.Proofs.YtclilpabdcdeoaaDoor
open Go.ChangeShapes Go.WideShapes Go.ChangeAt Go.RowKit Go.WideMaps
set_option linter.unusedVariables false
abbrev Bk := ByteArray × (Int × Int)
def findK : List Bk → ByteArray → Option (Int × Int)
  | [], _ => none
  | (x, k) :: r, a => if eqB x a = true then some k else findK r a
def namesK : List Bk → List ByteArray → List ByteArray
  | [], acc => acc
  | (x, _) :: r, acc => namesK r (addB acc x)
set_option maxRecDepth 100000 in
set_option maxHeartbeats 4000000 in
theorem copied_K (kd k : Int) (lb : Nat) (w : World) : Calls Tryd.prog 30 #[num kd k, .pointer (some ⟨lb, 0, none⟩)] w fun e w' => e = .returned (num kd k) ∧ Below w.heap.size w w' := by
  unfold num
  go_enter Tryd.func30, Tryd.ntmps30
  go_wp2
  go_quiet (fail)
  go_wp2
  go_returns
  refine ⟨rfl, ?_⟩
  have s0 := ((Below.refl w.heap.size w).alloc (Nat.le_refl _) (.cells #[.int .i64 kd, .int .i64 k, .string .empty, .slice none 0 0, .int .i64 0, .pointer none, .int .i64 0] 26)).alloc (by simp) (.cells #[.int .i64 0, .int .i64 0, .string ⟨#[]⟩, .slice none 0 0, .int .i64 0, .pointer none, .int .i64 0] 26)
  have s1 := s0.trans (BN _ _ nq)
  exact (((((((s1.setCell (p := ⟨w.heap.size + 1, 0, none⟩) (by simp) _).setCell (p := ⟨w.heap.size + 1, 1, none⟩) (by simp) _).setCell (p := ⟨w.heap.size + 1, 2, none⟩) (by simp) _).setCell (p := ⟨w.heap.size + 1, 3, none⟩) (by simp) _).setCell (p := ⟨w.heap.size + 1, 4, none⟩) (by simp) _).setCell (p := ⟨w.heap.size + 1, 5, none⟩) (by simp) _).setCell (p := ⟨w.heap.size + 1, 6, none⟩) (by simp) _)
/-- a binding's block. -/
def EnvK (x : ByteArray) (k : Int × Int) (u : Option Addr) : Obj := .cells #[.string x, .int .i64 k.1, .int .i64 k.2, .string .empty, .slice none 0 0, .int .i64 0, .pointer none, .int .i64 0, .pointer u] 30 (0, 0)
/-- an environment that ends. -/
def ChainK (w : World) : List Bk → Option Addr → Prop
  | [], q => q = none
  | (x, k) :: r, q => ∃ b u, q = some ⟨b, 0, none⟩ ∧ w.heap[b]? = some (EnvK x k u) ∧ (∀ b', u = some ⟨b', 0, none⟩ → b' < b) ∧ ChainK w r u
theorem chain_belowK {B : Nat} {w w' : World} (h : Below B w w') : ∀ (c : List Bk) (q : Option Addr), w.heap.size ≤ B → ChainK w c q → ChainK w' c q := by
  intro c
  induction c with
  | nil => intro q _ h; exact h
  | cons x r ih =>
    obtain ⟨x, k⟩ := x
    intro q hB hc
    obtain ⟨b, u, e, hb, hu, hr⟩ := hc
    have hlt : b < w.heap.size := (Array.getElem?_eq_some_iff.1 hb).1
    exact ⟨b, u, e, (h.block b (by omega)).trans hb, hu, ih u hB hr⟩
section
variable {w : World} {b : Nat} {x : ByteArray} {k : Int × Int} {u : Option Addr}
theorem envK0 (h : w.heap[b]? = some (EnvK x k u)) : w.cell? ⟨b, 0, none⟩ = some (.string x) := by unfold EnvK at h; simp [World.cell?, h]
theorem envK1 (h : w.heap[b]? = some (EnvK x k u)) : w.cell? ⟨b, 1, none⟩ = some (.int .i64 k.1) ∧ w.cell? ⟨b, 2, none⟩ = some (.int .i64 k.2) ∧ w.cell? ⟨b, 3, none⟩ = some (.string .empty) ∧ w.cell? ⟨b, 4, none⟩ = some (.slice none 0 0) ∧ w.cell? ⟨b, 5, none⟩ = some (.int .i64 0) ∧ w.cell? ⟨b, 6, none⟩ = some (.pointer none) ∧ w.cell? ⟨b, 7, none⟩ = some (.int .i64 0) := by unfold EnvK at h; simp [World.cell?, h]
theorem envK8 (h : w.heap[b]? = some (EnvK x k u)) : w.cell? ⟨b, 8, none⟩ = some (.pointer u) := by unfold EnvK at h; simp [World.cell?, h]
end
/-- a walk's round: from the binding to the one above it. -/
theorem wk_nextK {w wr : World} {g b : Nat} {x : ByteArray} {k : Int × Int} {u : Option Addr} {r : List Bk} (hB : Below w.heap.size w wr) (hg : w.heap.size ≤ g) (hI : WkI w wr g (some ⟨b, 0, none⟩) (r.length + 1)) (hb : w.heap[b]? = some (EnvK x k u)) (hu : ∀ b', u = some ⟨b', 0, none⟩ → b' < b) (hr : ChainK w r u) :
    Calls Tryd.prog 29 #[.pointer (some ⟨g, 0, none⟩)] wr fun e w' => e = .returned (.tuple #[]) ∧ Hid (Only g wr w') ∧ Hid (WkI w w' g u r.length) := by
  obtain ⟨pm, lf, sp, S, hw, h1, h2, h3, h4, h5, hm⟩ := hI
  obtain ⟨bm, rfl, hle, hlt, cm, tm, hcm⟩ := hm b rfl
  have hbl : b < w.heap.size := (Array.getElem?_eq_some_iff.1 hb).1
  have hp : (1 : Int) ≤ 2 ^ r.length := by
    have : (1 : Int) ≤ 2 ^ r.length := by exact_mod_cast Nat.one_le_two_pow
    exact this
  have e2 : S * 2 ^ (r.length + 1) = (2 * S) * 2 ^ r.length := by rw [Int.pow_succ]; rw [Int.mul_comm (2 ^ r.length) 2, ← Int.mul_assoc, Int.mul_comm S 2]
  have hS : S ≤ 4194304 := by
    have : 2 * S * 1 ≤ 2 * S * 2 ^ r.length := Int.mul_le_mul_of_nonneg_left hp (by omega)
    omega
  have hq : u = none ∨ ∃ b', u = some ⟨b', 0, none⟩ ∧ b' < bm ∧ b' ≠ g ∧ IsCells wr b' := by
    cases r with
    | nil => exact .inl hr
    | cons y r =>
      obtain ⟨y, j⟩ := y
      obtain ⟨b2, u2, rfl, hb2, hu2, hr2⟩ := hr
      have hl2 : b2 < w.heap.size := (Array.getElem?_eq_some_iff.1 hb2).1
      have := hu b2 rfl
      exact .inr ⟨b2, rfl, by omega, by omega, _, _, (hB.block b2 hl2).trans hb2⟩
  refine (next_any hw (envK8 ((hB.block b hbl).trans hb)) hq (by omega) (by omega) ⟨cm, tm, (hB.block bm hlt).trans hcm⟩ h1 h2 h3 h4 hS).mono ?_
  rintro e w' ⟨rfl, ho, hn⟩
  refine ⟨rfl, ho, Lib.hid ?_⟩
  obtain ⟨pm', lf', sp', hw', k1, k2, k3, k4, k5⟩ := hn.out
  refine ⟨pm', lf', sp', 2 * S, hw', k1, k2, k3, k4, by rw [← e2]; exact h5, fun b' hb' => ?_⟩
  obtain ⟨bm', rfl, hle', hor⟩ := k5 b' hb'
  rcases hor with rfl | rfl
  · exact ⟨_, rfl, hle', hlt, cm, tm, hcm⟩
  · refine ⟨_, rfl, Nat.le_refl _, ?_⟩
    cases r with
    | nil => rw [show u = none from hr] at hb'; cases hb'
    | cons y r =>
      obtain ⟨y, j⟩ := y
      obtain ⟨b2, u2, e2, hb2, hu2, hr2⟩ := hr
      rw [e2] at hb'; injection hb' with hb'; injection hb' with hb'; subst hb'
      exact ⟨(Array.getElem?_eq_some_iff.1 hb2).1, _, _, hb2⟩
def optK : Option (Int × Int) → Value
  | none => num 0 0
  | some k => num k.1 k.2
set_option maxRecDepth 100000 in
set_option maxHeartbeats 4000000 in
theorem find_K {w : World} {q : Option Addr} (c : List Bk) (a : ByteArray) (hc : ChainK w c q) (hl : c.length ≤ 20) :
    Calls Tryd.prog 11 #[.pointer q, .string a] w fun e w' => e = .returned (.tuple #[optK (findK c a), .bool (findK c a).isSome]) ∧ Below w.heap.size w w' := by
  have HC : Hid (ChainK w c q) := Lib.hid hc
  have HLn : Hid (c.length ≤ 20) := Lib.hid hl
  have WI0 : Hid (∀ wr : World, WkAt wr (w.heap.size + 1) q q 1 1 → WkI w wr (w.heap.size + 1) q c.length) := Lib.hid (fun wr h => by
    refine ⟨q, 1, 1, 1, h, by omega, by omega, by omega, by omega, ?_, ?_⟩
    · have : 2 ^ c.length ≤ 2 ^ 20 := Nat.pow_le_pow_right (by decide) hl
      have h2 : ((2 ^ c.length : Nat) : Int) ≤ 1048576 := Int.ofNat_le.2 this
      have h3 : ((2 ^ c.length : Nat) : Int) = (2 : Int) ^ c.length := Int.natCast_pow 2 c.length
      rw [h3] at h2; rw [Int.one_mul]; exact Int.le_trans h2 (by decide)
    · intro b' hb'
      cases c with
      | nil => rw [show q = none from hc] at hb'; cases hb'
      | cons y r =>
        obtain ⟨y, j⟩ := y
        obtain ⟨b2, u2, e2, hb2, hu2, hr2⟩ := hc
        rw [e2] at hb'; injection hb' with hb'; injection hb' with hb'; subst hb'
        exact ⟨b2, e2, Nat.le_refl _, (Array.getElem?_eq_some_iff.1 hb2).1, _, _, hb2⟩)
  obtain ⟨F, hF⟩ : ∃ F, F = findK c a := ⟨_, rfl⟩
  rw [← hF]
  have HF : Hid (findK c a = F) := Lib.hid hF.symm
  clear hF hl hc
  have WA := Lib.hid (fun W => walk_any q W)
  go_enter Tryd.func11, Tryd.ntmps11
  go_wp2_with fail
  refine (WA.out _).mono ?_; rintro e w1 ⟨rfl, rfl⟩
  clear WA
  go_wp2
  go_loopg [] c.length (fun gk wr => ∃ (c' : List Bk) (q' : Option Addr), Hid (c'.length = gk) ∧ Hid (ChainK w c' q') ∧ Hid (findK c' a = F) ∧ Hid (WkI w wr (w.heap.size + 1) q' c'.length) ∧ Hid (wr.heap[w.heap.size]? = some (ResO (.int .i64 0) (.int .i64 0))) ∧ Hid (Below w.heap.size w wr))
  case atStart =>
    refine ⟨c, q, Lib.hid rfl, HC, HF, Lib.hid (WI0.out _ ?_), Lib.hid ?_, Lib.hid ?_⟩
    · exact (two_new _ _ _).2
    · exact (two_new _ _ _).1
    · exact ((Below.refl w.heap.size w).alloc (Nat.le_refl _) _).alloc (by simp) _
  case round =>
    clear WI0 HC HF
    obtain ⟨c', q', HG, HC', HF', HI, HR, HB⟩ := hrel
    obtain ⟨r0, r1, r2, r3, r4, r5, r6, rf⟩ := resO_cells HR.out
    have rf0 := rf 0; have rf1 := rf 1; have rf2 := rf 2; have rf3 := rf 3; have rf4 := rf 4; have rf5 := rf 5; have rf6 := rf 6
    clear rf
    cases c' with
    | nil =>
      obtain rfl : q' = none := HC'.out
      obtain rfl : F = none := HF'.out.symm
      obtain ⟨pm, lf, sp, S, hw, _, _, _, _, _, _⟩ := HI.out
      have c0 := hw.c0
      clear hw HI HC' HF'
      go_wp2
      refine bodyPost_ret (res11 rfl rfl (setRes (.int .i64 0) (.int .i64 0) HR.out)) rfl ?_
      exact ⟨rfl, setResB _ _ HB.out (Nat.le_refl _)⟩
    | cons y r =>
      obtain ⟨x, k⟩ := y
      obtain ⟨b, u, rfl, hb, hu, hr⟩ := HC'.out
      have hbl : b < w.heap.size := (Array.getElem?_eq_some_iff.1 hb).1
      have hb2 := (HB.out.block b hbl).trans hb
      have e0 := envK0 hb2
      obtain ⟨pm, lf, sp, S, hw, _, _, _, _, _, _⟩ := HI.out
      have c0 := hw.c0
      have hwl := hw.lt
      clear hw
      by_cases he : eqB x a = true
      · have d : (x.toList == a.toList) = true := he
        obtain rfl : some k = F := by have := HF'.out; unfold findK at this; rwa [if_pos he] at this
        have LW : Hid (w.heap.size ≤ wr.heap.size) := Lib.hid HB.out.size
        have A1 : Hid (∀ o, Below wr.heap.size wr (wr.alloc o)) := Lib.hid (fun o => (Below.refl _ wr).alloc (Nat.le_refl _) o)
        have hba : ∀ o, (wr.alloc o).heap[b]? = some (EnvK x k u) := fun o => ((A1.out o).block b (Nat.lt_of_lt_of_le hbl LW.out)).trans hb2
        obtain ⟨e1, e2, e3, e4, e5, e6, e7⟩ := envK1 (hba (.cells #[.int .i64 262144] 3))
        have CP := Lib.hid (fun W => copied_K k.1 k.2 wr.heap.size W)
        unfold num at CP
        have WKA : ∀ o, (wr.alloc o).cell? ⟨w.heap.size + 1, 0, none⟩ = some (.pointer (some ⟨b, 0, none⟩)) := fun o => ((A1.out o).cell (p := ⟨w.heap.size + 1, 0, none⟩) hwl).trans c0
        have k0 := WKA (.cells #[.int .i64 262144] 3)
        clear WKA hba HI HC' HF' hb hu hr hb2
        have HRl : Hid (w.heap.size < wr.heap.size) := Lib.hid (Array.getElem?_eq_some_iff.1 HR.out).1
        clear r0 r1 r2 r3 r4 r5 r6 rf0 rf1 rf2 rf3 rf4 rf5 rf6
        go_wp2_with fail
        refine (CP.out _).mono ?_; rintro e w2 ⟨rfl, hb⟩
        have HB2 : Hid (Below w.heap.size w w2) := Lib.hid (HB.out.trans (((A1.out _).mono LW.out).trans (hb.mono (Nat.le_trans LW.out (A1.out _).size))))
        have HR2 : Hid (w2.heap[w.heap.size]? = some (ResO (.int .i64 0) (.int .i64 0))) := Lib.hid ((hb.block _ (Nat.lt_of_lt_of_le HRl.out (A1.out _).size)).trans (((A1.out _).block _ HRl.out).trans HR.out))
        obtain ⟨r0, r1, r2, r3, r4, r5, r6, rf⟩ := resO_cells HR2.out
        have rf0 := rf 0; have rf1 := rf 1; have rf2 := rf 2; have rf3 := rf 3; have rf4 := rf 4; have rf5 := rf 5; have rf6 := rf 6
        clear rf hb CP HR HB A1
        go_wp2
        refine bodyPost_ret (res11 rfl rfl (setRes (.int .i64 k.1) (.int .i64 k.2) HR2.out)) rfl ?_
        exact ⟨rfl, setResB _ _ HB2.out (Nat.le_refl _)⟩
      · have d : (x.toList == a.toList) = false := by unfold eqB at he; simpa using he
        have NX := Lib.hid (wk_nextK (g := w.heap.size + 1) HB.out (by omega) HI.out hb hu hr)
        have HF2 : Hid (findK r a = F) := Lib.hid (by have := HF'.out; unfold findK at this; rwa [if_neg he] at this)
        have HC2 := Lib.hid hr
        clear HI HC' HF' hb hu hr hb2
        go_wp2_with fail
        refine NX.out.mono ?_; rintro e w2 ⟨rfl, HO, HI2⟩
        have HR2 : Hid (w2.heap[w.heap.size]? = some (ResO (.int .i64 0) (.int .i64 0))) := Lib.hid ((HO.out.block _ (by omega)).trans HR.out)
        have HB2 : Hid (Below w.heap.size w w2) := Lib.hid (HB.out.trans (HO.out.below (by omega)))
        clear HR HB NX HO
        go_wp2
        go_roundg r.length
        case measure => have := HG.out; simp only [List.length_cons] at this; omega
        case rel => exact ⟨r, u, Lib.hid rfl, HC2, HF2, HI2, HR2, HB2⟩
theorem wk_startK {w : World} {q : Option Addr} {c : List Bk} (hc : ChainK w c q) (hl : c.length ≤ 20) (g : Nat) (wr : World) (h : WkAt wr g q q 1 1) : WkI w wr g q c.length := by
  refine ⟨q, 1, 1, 1, h, by omega, by omega, by omega, by omega, ?_, ?_⟩
  · have : 2 ^ c.length ≤ 2 ^ 20 := Nat.pow_le_pow_right (by decide) hl
    have h2 : ((2 ^ c.length : Nat) : Int) ≤ 1048576 := Int.ofNat_le.2 this
    have h3 : ((2 ^ c.length : Nat) : Int) = (2 : Int) ^ c.length := Int.natCast_pow 2 c.length
    rw [h3] at h2; rw [Int.one_mul]; exact Int.le_trans h2 (by decide)
  · intro b' hb'
    cases c with
    | nil => rw [show q = none from hc] at hb'; cases hb'
    | cons y r =>
      obtain ⟨y, j⟩ := y
      obtain ⟨b2, u2, e2, hb2, hu2, hr2⟩ := hc
      rw [e2] at hb'; injection hb' with hb'; injection hb' with hb'; subst hb'
      exact ⟨b2, e2, Nat.le_refl _, (Array.getElem?_eq_some_iff.1 hb2).1, _, _, hb2⟩
set_option maxRecDepth 100000 in
set_option maxHeartbeats 4000000 in
theorem names_K {w : World} {q : Option Addr} (c : List Bk) (hc : ChainK w c q) (hl : c.length ≤ 20) (hz : ∀ p ∈ c, p.1.size ≤ 60) :
    Calls Tryd.prog 13 #[.pointer q] w fun e w' => ∃ A n cap, e = .returned (.slice A n cap) ∧ Hid (n = (namesK c []).length) ∧ Hid (w'.ownsRow w.heap.size 9 1 (.slice A n cap) n (strs (namesK c []))) ∧ Hid (Below w.heap.size w w') := by
  obtain ⟨i0, hi0, hz0, hz1, hz2⟩ := info_parts info9
  have HC : Hid (ChainK w c q) := Lib.hid hc
  have HLn : Hid (c.length ≤ 20) := Lib.hid hl
  have HZ : Hid (∀ p ∈ c, p.1.size ≤ 60) := Lib.hid hz
  have WI0 : Hid (∀ wr : World, WkAt wr (w.heap.size + 1) q q 1 1 → WkI w wr (w.heap.size + 1) q c.length) := Lib.hid (fun wr h => wk_startK hc hl _ wr h)
  obtain ⟨F, hF⟩ : ∃ F, F = namesK c [] := ⟨_, rfl⟩
  rw [← hF]
  have HF : Hid (namesK c [] = F) := Lib.hid hF.symm
  clear hF hl hc hz
  have WA := Lib.hid (fun W => walk_any q W)
  have hmm := @run_makeMap Tryd.prog
  go_enter Tryd.func13, Tryd.ntmps13
  go_wp2_with fail
  refine (WA.out _).mono ?_; rintro e w1 ⟨rfl, rfl⟩
  clear WA hmm
  go_wp2
  go_loopg [4] c.length (fun gk v wr => ∃ (c' : List Bk) (q' : Option Addr) (acc : List ByteArray) (A : Option Addr) (n cap : Nat), v = .slice A n cap ∧ n + gk ≤ 20 ∧ Hid (c'.length = gk) ∧ Hid (n = acc.length) ∧ Hid (∀ p ∈ c', p.1.size ≤ 60) ∧ Hid (ChainK w c' q') ∧ Hid (namesK c' acc = F) ∧ Hid (WkI w wr (w.heap.size + 1) q' c'.length) ∧ Hid (MapI wr w.heap.size n acc) ∧ Hid (wr.ownsRow (w.heap.size + 2) 9 1 (.slice A n cap) n (strs acc)) ∧ Hid (Below w.heap.size w wr))
  case atStart =>
    refine ⟨c, q, [], none, 0, 0, rfl, by have := HLn.out; omega, Lib.hid rfl, Lib.hid rfl, HZ, HC, HF, Lib.hid (WI0.out _ ?_), Lib.hid ?_, Lib.hid (World.ownsRow_nil _ _ _ _), Lib.hid ?_⟩
    · exact (two_new _ _ _).2
    · exact (map_made w).keep (by rw [(two_new _ _ _).1]; exact ((MapKept.heap_alloc w _).1).symm)
    · exact ((Below.refl w.heap.size w).alloc (Nat.le_refl _) _).alloc (by simp) _
  case round =>
    clear WI0 HC HF HZ
    obtain ⟨c', q', acc, A, n, cap, rfl, hn20, HG, HN, HZ, HC', HF', HI, HM, OWN, HB⟩ := hrel
    have c0 := HI.out.c0
    cases c' with
    | nil =>
      obtain rfl : q' = none := HC'.out
      have OWN2 : Hid (wr.ownsRow w.heap.size 9 1 (.slice A n cap) n (strs F)) := Lib.hid (by
        have e : acc = F := HF'.out
        rw [← e]
        exact own_mono OWN.out (by omega))
      have HN2 : Hid (n = F.length) := Lib.hid (by have e : acc = F := HF'.out; rw [← e]; exact HN.out)
      clear HI HC' HF' HM OWN HN HG HZ
      go_wp2
      go_ret
      exact ⟨_, _, _, rfl, HN2, OWN2, HB⟩
    | cons y r =>
      obtain ⟨x, k⟩ := y
      obtain ⟨b, u, rfl, hb, hu, hr⟩ := HC'.out
      have hx60 : x.size ≤ 60 := HZ.out (x, k) (List.mem_cons_self ..)
      have HZ2 : Hid (∀ p ∈ r, p.1.size ≤ 60) := Lib.hid (fun p hp => HZ.out p (List.mem_cons_of_mem _ hp))
      have hbl : b < w.heap.size := (Array.getElem?_eq_some_iff.1 hb).1
      have hb2 := (HB.out.block b hbl).trans hb
      have e0 := envK0 hb2
      have hkey := WideMaps.keyOf_string_mk (P := Tryd.prog) Tryd.underlying9 (s := x) (by unfold maxLen; omega)
      have NXT : Hid (∀ W, Below w.heap.size w W → WkI w W (w.heap.size + 1) (some ⟨b, 0, none⟩) (r.length + 1) → Calls Tryd.prog 29 #[.pointer (some ⟨w.heap.size + 1, 0, none⟩)] W fun e w' => e = .returned (.tuple #[]) ∧ Hid (Only (w.heap.size + 1) W w') ∧ Hid (WkI w w' (w.heap.size + 1) u r.length)) := Lib.hid (fun W hB hI => wk_nextK hB (by omega) hI hb hu hr)
      have HC2 : Hid (ChainK w r u) := Lib.hid hr
      have HG2 : Hid (r.length + 1 = gk) := HG
      obtain ⟨D, hown, hD, hhas⟩ := HM.out
      have HF2 : Hid (namesK r (addB acc x) = F) := HF'
      have WB : Hid (w.heap.size + 2 ≤ wr.heap.size) := Lib.hid HI.out.lt
      have hhit := hhas x
      have HD := Lib.hid hD
      have HH := Lib.hid hhas
      clear hD hhas hb2 hr hu HG HC' HF' HZ
      by_cases hx : hasB acc x = true
      · rw [hx] at hhit
        have ea : addB acc x = acc := by unfold addB; rw [if_pos hx]
        rw [ea] at HF2
        clear ea
        go_wp2_with (first
          | (at_lookup; refine wpList_lookup_own_ok_int _ rfl _ _ 75 rfl 9 3 .i64 law9 Tryd.underlying75 Tryd.underlying3 (zero3 _) w.heap.size n D rfl hown _ _ rfl hkey ?_; intro cL hat hwc; rw [hhit])
          | fail)
        refine (NXT.out _ HB.out HI.out).mono ?_; rintro e w2 ⟨rfl, HO, HI2⟩
        have HM2 : Hid (MapI w2 w.heap.size n acc) := Lib.hid (HM.out.keep (HO.out.block _ (by omega)))
        have OWN2 : Hid (w2.ownsRow (w.heap.size + 2) 9 1 (.slice A n cap) n (strs acc)) := Lib.hid (own_keep OWN.out (fun g hg _ => HO.out.block g (by omega)))
        have HB2 : Hid (Below w.heap.size w w2) := Lib.hid (HB.out.trans (HO.out.below (by omega)))
        have hgk : n + r.length ≤ 20 := by have := HG2.out; omega
        clear HI HM OWN HB NXT HO hown HD HH
        go_wp2
        go_roundg r.length
        case measure => have := HG2.out; omega
        case rel => exact ⟨r, u, acc, A, n, cap, rfl, hgk, Lib.hid rfl, HN, HZ2, HC2, HF2, HI2, HM2, OWN2, HB2⟩
      · have hxf : hasB acc x = false := by simpa using hx
        rw [hxf] at hhit
        have ea : addB acc x = acc ++ [x] := by unfold addB; rw [if_neg hx]
        rw [ea] at HF2
        clear ea hx
        go_wp2_with (first
          | (at_lookup; refine wpList_lookup_own_ok_int _ rfl _ _ 75 rfl 9 3 .i64 law9 Tryd.underlying75 Tryd.underlying3 (zero3 _) w.heap.size n D rfl hown _ _ rfl hkey ?_; intro cL hat hwc; rw [hhit])
          | (at_mapUpdate; refine wpList_mapUpdate_own _ rfl _ _ _ 75 rfl 9 3 law9 Tryd.underlying75 _ w.heap.size n D rfl hown (by unfold maxLen; omega) _ _ _ rfl rfl hkey _ [] (plainElem_int Tryd.underlying3 (wf_nat n (by omega))) ?_))
        intro w1 hown1 gr1
        obtain ⟨hD1, hh1⟩ := put_acc x (.lit (.int .i64 n)) HD.out HH.out
        have HM1 : Hid (MapI w1 w.heap.size (n + 1) (acc ++ [x])) := Lib.hid ⟨_, hown1, hD1, hh1⟩
        have GB : ∀ j, j < wr.heap.size → j ≠ w.heap.size → w1.heap[j]? = wr.heap[j]? := fun j hj hne => gr1.block j hj (fun e => hne (by injection e))
        have HI1 : Hid (WkI w w1 (w.heap.size + 1) (some ⟨b, 0, none⟩) (r.length + 1)) := Lib.hid (HI.out.keep (GB _ HI.out.lt (by omega)))
        have k0 := HI1.out.c0
        have k1 := envK0 ((GB b (by have := WB.out; omega) (by omega)).trans ((HB.out.block b hbl).trans hb))
        have OWN1 : Hid (w1.ownsRow (w.heap.size + 2) 9 1 (.slice A n cap) n (strs acc)) := Lib.hid (own_keep OWN.out (fun g hg hlt => GB g hlt (by omega)))
        have HB1 : Hid (Below w.heap.size w w1) := Lib.hid (HB.out.grown gr1 HB.out.size (fun q hq => by injection hq with hq; omega))
        have WB1 : Hid (w.heap.size + 2 ≤ w1.heap.size) := Lib.hid (Nat.le_trans WB.out gr1.size)
        clear hown1 gr1 hD1 hh1 GB HI OWN HB WB HM hown HD HH c0 e0 hhit hb
        go_wp2_with (at_builtin; refine wpList_append_lies _ rfl (.tmp 42) (.tmp 50) 35 rfl (w.heap.size + 2) 9 i0 (.string .empty) 1 16 Tryd.underlying35 hi0 hz0 hz1 hz2 rfl (by decide) _ n (strs acc) rfl (OWN1.out.alloc _) ⟨w1.heap.size, 0, none⟩ 1 1 [.string x] rfl rfl ?c1 ?c2 (by omega) (by unfold maxLen; omega) (by omega) (Nat.le_trans WB1.out (by simp)) (w1.heap.size + 1) (by simp) ?_)
        case c1 =>
          intro j u hj
          match j, hj with
          | 0, hj => simp only [List.getElem?_cons_zero, Option.some.injEq] at hj; subst hj; exact new_cell w1 _ 9
        case c2 => intro u hu; simp only [List.mem_singleton] at hu; subst hu; rfl
        intro gf cap5 w5 own5 gr5 at5 lt5
        have NB : ∀ q, Value.ownBlock (.slice A n cap) = some q → w.heap.size + 2 ≤ q := fun q hq => (OWN1.out.lt q hq).1
        have GB : ∀ j, j < w1.heap.size → j < w.heap.size + 2 → w5.heap[j]? = w1.heap[j]? := fun j hj hlt => (gr5.block j (by simp; omega) (fun e => by have := NB j e.symm; omega)).trans (by
          show (w1.heap.push _)[j]? = _
          rw [Array.getElem?_push, if_neg (by omega)])
        have HM5 : Hid (MapI w5 w.heap.size (n + 1) (acc ++ [x])) := Lib.hid (HM1.out.keep (GB _ HM1.out.lt (by omega)))
        have HI5 : Hid (WkI w w5 (w.heap.size + 1) (some ⟨b, 0, none⟩) (r.length + 1)) := Lib.hid (HI1.out.keep (GB _ HI1.out.lt (by omega)))
        have HB5 : Hid (Below w.heap.size w w5) := Lib.hid ((HB1.out.alloc (by have := WB1.out; omega) (.cells #[.string x] 9)).grown gr5 (by have := WB1.out; simp; omega) (fun q hq => by have := NB q hq; omega))
        have OWN5 : Hid (w5.ownsRow (w.heap.size + 2) 9 1 (.slice (some ⟨gf, 0, none⟩) (n + 1) cap5) (n + 1) (strs (acc ++ [x]))) := Lib.hid (by rw [strs_app]; exact own5)
        have HN5 : Hid (n + 1 = (acc ++ [x]).length) := Lib.hid (by have := HN.out; simp; exact this)
        clear own5 gr5 at5 lt5 NB GB HM1 HI1 HB1 OWN1
        go_wp2_with fail
        refine (NXT.out _ HB5.out HI5.out).mono ?_; rintro e w2 ⟨rfl, HO, HI2⟩
        have HM2 : Hid (MapI w2 w.heap.size (n + 1) (acc ++ [x])) := Lib.hid (HM5.out.keep (HO.out.block _ (by omega)))
        have OWN2 : Hid (w2.ownsRow (w.heap.size + 2) 9 1 (.slice (some ⟨gf, 0, none⟩) (n + 1) cap5) (n + 1) (strs (acc ++ [x]))) := Lib.hid (own_keep OWN5.out (fun g hg _ => HO.out.block g (by omega)))
        have HB2 : Hid (Below w.heap.size w w2) := Lib.hid (HB5.out.trans (HO.out.below (by omega)))
        have hgk : n + 1 + r.length ≤ 20 := by have := HG2.out; omega
        clear HI5 HM5 OWN5 HB5 NXT HO
        go_wp2
        go_roundg r.length
        case measure => have := HG2.out; omega
        case rel => exact ⟨r, u, acc ++ [x], some ⟨gf, 0, none⟩, n + 1, cap5, rfl, hgk, Lib.hid rfl, HN5, HZ2, HC2, HF2, HI2, HM2, OWN2, HB2⟩
end Go.Proofs.YtclilpabdcdeoaaDoor
