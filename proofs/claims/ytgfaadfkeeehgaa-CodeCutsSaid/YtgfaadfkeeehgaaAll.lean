import Derived.Test.YtgfaadfkeeehgaaGetC
import Derived.Test.YtgfaadfkeeehgaaPut
namespace Go.Proofs.Ytgfaadfkeeehgaa
open Go.ChangeShapes Go.WideShapes Go.ChangeAt Go.RowKit
set_option linter.unusedVariables false
theorem info24 : (Try.prog.info? 24).map (fun i => (i.zero, i.size, i.bytes)) = some (some (.agg #[.int .i64 0, .int .i64 0, .int .i64 0]), 3, 24) := by kernel_rfl
def ins (l : List (Int × Int × Int)) : List Value := l.flatMap fun x => [.int .i64 x.1, .int .i64 x.2.1, .int .i64 x.2.2]
theorem ins_len (l : List (Int × Int × Int)) : (ins l).length = l.length * 3 := by
  induction l with
  | nil => rfl
  | cons x l ih => rw [show ins (x :: l) = [.int .i64 x.1, .int .i64 x.2.1, .int .i64 x.2.2] ++ ins l from rfl, List.length_append, ih]; simp; omega
theorem ins_app (l m : List (Int × Int × Int)) : ins (l ++ m) = ins l ++ ins m := by simp [ins]
/-- the instructions of which the bytes are the sequence. -/
def allS : Nat → List Nat → Option (List (Int × Int × Int))
  | 0, _ => none
  | _ + 1, [] => some []
  | f + 1, c :: t => if (getS (c :: t)).2 = 0 then none else (allS f ((c :: t).drop (getS (c :: t)).2.toNat)).map ((getS (c :: t)).1 :: ·)
theorem getS_len (bs : List Nat) : 0 ≤ (getS bs).2 ∧ (getS bs).2 ≤ bs.length := by
  cases bs with
  | nil => exact ⟨Int.le_refl 0, Int.le_refl 0⟩
  | cons c t =>
    rw [getS_cons]
    have h1 := opG_len (six c) t
    have h2 := opG_len (sev c) (t.drop (opG (six c) t).2.toNat)
    rw [List.length_drop] at h2
    split
    · exact ⟨by simp, by simp; omega⟩
    · split
      · exact ⟨by simp, by simp; omega⟩
      · simp only [List.length_cons]; omega
theorem allS_fuel (f : Nat) : ∀ (bs : List Nat), bs.length < f → allS f bs = allS (bs.length + 1) bs := by
  induction f using Nat.strongRecOn with
  | _ f ih =>
    intro bs hbs
    cases f with
    | zero => omega
    | succ f =>
      cases bs with
      | nil => rfl
      | cons c t =>
        have hg := getS_len (c :: t)
        simp only [allS, List.length_cons]
        by_cases h0 : (getS (c :: t)).2 = 0
        · rw [if_pos h0, if_pos h0]
        · rw [if_neg h0, if_neg h0]
          have hlen : ((c :: t).drop (getS (c :: t)).2.toNat).length < (c :: t).length := by rw [List.length_drop]; simp only [List.length_cons] at hg ⊢; omega
          simp only [List.length_cons] at hbs hlen
          rw [ih f (by omega) _ (by omega)]
          by_cases hf : t.length + 1 < f + 1
          · rw [ih (t.length + 1) (by omega) _ hlen]
          · rw [show t.length + 1 = f from by omega, ih f (by omega) _ (by omega)]
theorem wk_add (k q : Nat) (h : k + q ≤ 90000) : IntKind.i64.wrap ((k : Int) + q) = k + q ∧ wrap64 ((k : Int) + q) = k + q := by
  refine ⟨?_, ?_⟩
  · simp only [IntKind.wrap_i64]; omega
  · unfold wrap64; omega
theorem new3 (w : World) (x y z : Value) (t : TypeId) : ∀ j u, ([x, y, z] : List Value)[j]? = some u → (w.alloc (.cells #[x, y, z] t)).cell? ((⟨w.heap.size, 0, none⟩ : Addr).add j) = some u := by
  intro j u hj
  have := (MapKept.heap_alloc w (Obj.cells #[x, y, z] t)).1
  rw [Go.WideShapes.add_plain]
  unfold World.cell?
  rw [this]
  simpa using hj
def AllPost (w : World) (bs : List Nat) (e : Ending) (w' : World) : Prop := ∃ v x, e = .returned (.tuple #[v, .int .i64 x]) ∧ Below w.heap.size w w' ∧
      match allS (bs.length + 1) bs with | none => v = .slice none 0 0 ∧ x = 3 | some l => x = 0 ∧ w'.ownsRow w.heap.size 24 3 v l.length (ins l)
theorem AllPost.none_ {w : World} {bs : List Nat} {e : Ending} {w' : World} (h : none = allS (bs.length + 1) bs) (he : e = .returned (.tuple #[.slice none 0 0, .int .i64 3])) (hb : Below w.heap.size w w') : AllPost w bs e w' := by
  unfold AllPost; rw [← h]; exact ⟨_, _, he, hb, rfl, rfl⟩
theorem AllPost.some_ {w : World} {bs : List Nat} {e : Ending} {w' : World} {l : List (Int × Int × Int)} {v : Value} (h : some l = allS (bs.length + 1) bs) (he : e = .returned (.tuple #[v, .int .i64 0])) (hb : Below w.heap.size w w') (own : w'.ownsRow w.heap.size 24 3 v l.length (ins l)) : AllPost w bs e w' := by
  unfold AllPost; rw [← h]; exact ⟨_, _, he, hb, rfl, own⟩
theorem codeget_len {w : World} {h o cap n : Nat} {c : Nat} {t : List Nat} (hn : t.length + 1 = n) (hb : ∀ j, j < (c :: t).length → w.cell? ⟨h, o + j, none⟩ = some (.int .u8 ((c :: t).getD j 0 : Nat))) (hlt : h < w.heap.size) (hc : c < 256) (hl : t.length ≤ 900000) (hcap : t.length + 1 ≤ cap) :
    Calls Try.prog 8 #[.slice (some ⟨h, o, none⟩) n cap] w fun e w' => e = .returned (.tuple #[.agg #[.int .i64 (getS (c :: t)).1.1, .int .i64 (getS (c :: t)).1.2.1, .int .i64 (getS (c :: t)).1.2.2], .int .i64 (getS (c :: t)).2, .int .i64 (errG (getS (c :: t)).2)]) ∧ Below w.heap.size w w' := by
  subst hn; exact codeget hb hlt hc hl hcap
theorem drop_cons (bs : List Nat) (k : Nat) (h : k < bs.length) : bs.drop k = bs.getD k 0 :: bs.drop (k + 1) := by
  rw [List.drop_eq_getElem_cons h]; simp [h]
set_option maxRecDepth 100000 in
set_option maxHeartbeats 4000000 in
theorem all_any {w : World} {h o cap : Nat} {bs : List Nat} (hb : ∀ j, j < bs.length → w.cell? ⟨h, o + j, none⟩ = some (.int .u8 (bs.getD j 0 : Nat))) (hlt : h < w.heap.size) (hc : ∀ j, bs.getD j 0 < 256) (hl : bs.length ≤ 90000) (hcap : bs.length ≤ cap) :
    Calls Try.prog 9 #[.slice (some ⟨h, o, none⟩) bs.length cap] w fun e w' => AllPost w bs e w' := by
  obtain ⟨i0, hi0, hz0, hz1, hz2⟩ := info_parts info24
  have HB := Lib.hid hb; have HC := Lib.hid hc; clear hb hc
  obtain ⟨r, hr⟩ : ∃ r, r = allS (bs.length + 1) bs := ⟨_, rfl⟩
  have HR := Lib.hid hr; clear hr
  go_enter Try.func9, Try.ntmps9
  go_wp2
  go_loopw [4, 5, 6] (fun v m a wr => ∃ (k : Nat) (l : List (Int × Int × Int)), k ≤ bs.length ∧ l.length ≤ k ∧ m = .int .i64 l.length ∧ a = .int .i64 k ∧ Hid (wr.ownsRow w.heap.size 24 3 v l.length (ins l)) ∧ Hid (Below w.heap.size w wr) ∧ Hid (r = (allS (bs.length - k + 1) (bs.drop k)).map (l ++ ·))) (fun _ _ a _ => bs.length - (intOf a).toNat)
  case atStart => exact ⟨0, [], by omega, by simp, rfl, rfl, Lib.hid (World.ownsRow_nil _ _ _ _), Lib.hid (Below.refl _ _), Lib.hid (by rw [HR.out]; simp)⟩
  case round =>
    obtain ⟨k, l, hk, hlk, rfl, rfl, own, hbw, hres⟩ := hrel
    by_cases hlt2 : k < bs.length
    · obtain ⟨c, hcc⟩ : ∃ c, c = bs.getD k 0 := ⟨_, rfl⟩
      obtain ⟨t, ht⟩ : ∃ t, t = bs.drop (k + 1) := ⟨_, rfl⟩
      have hct : bs.drop k = c :: t := by rw [hcc, ht]; exact drop_cons bs k hlt2
      have htl : t.length + 1 = bs.length - k := by rw [ht, List.length_drop]; omega
      have hc256 : c < 256 := by rw [hcc]; exact HC.out k
      have hgl := getS_len (c :: t)
      have hres2 : Hid (r = (if (getS (c :: t)).2 = 0 then none else (allS (bs.length - k) ((c :: t).drop (getS (c :: t)).2.toNat)).map ((getS (c :: t)).1 :: ·)).map (l ++ ·)) := Lib.hid (by rw [hres.out, hct]; rfl)
      have HD : Hid (∀ n : Nat, (c :: t).drop n = bs.drop (k + n)) := Lib.hid (fun n => by rw [← hct, List.drop_drop])
      have HCT : Hid (∀ j, j < (c :: t).length → (c :: t).getD j 0 = bs.getD (k + j) 0) := Lib.hid (fun j hj => by rw [← hct]; simp [List.getD])
      have CG : Hid (∀ W, Below w.heap.size w W → Calls Try.prog 8 #[.slice (some ⟨h, o + k, none⟩) (bs.length - k) (cap - k)] W fun e w' => e = .returned (.tuple #[.agg #[.int .i64 (getS (c :: t)).1.1, .int .i64 (getS (c :: t)).1.2.1, .int .i64 (getS (c :: t)).1.2.2], .int .i64 (getS (c :: t)).2, .int .i64 (errG (getS (c :: t)).2)]) ∧ Below W.heap.size W w') := Lib.hid (fun W hW =>
        codeget_len (c := c) (t := t) htl (fun j hj => by
          have hj' := hj
          simp only [List.length_cons] at hj'
          rw [hW.cell (p := ⟨h, o + k + j, none⟩) hlt, show o + k + j = o + (k + j) by omega, HB.out (k + j) (by omega), HCT.out j hj]) (Nat.lt_of_lt_of_le hlt hW.size) hc256 (by omega) (by omega))
      obtain ⟨g, hg⟩ : ∃ g, g = getS (c :: t) := ⟨_, rfl⟩
      rw [← hg] at hres2 CG hgl
      simp only [List.length_cons] at hgl
      have hgl2 : g.2 ≤ ((bs.length - k : Nat) : Int) := by omega
      have hgl1 := hgl.1
      clear hg hcc ht hct htl hres hgl hc256
      obtain ⟨⟨g1, g2, g3⟩, gn⟩ := g
      simp only at hres2 CG hgl1 hgl2
      have ne : ¬ cap = k := by omega
      have hkc : k ≤ bs.length := hk
      have HBW := Lib.hid hbw.out
      go_wp2_with fail
      refine (CG.out _ HBW.out).mono ?_; rintro e w3 ⟨rfl, hb3⟩
      have hs3 := hb3.size
      have hsw := hbw.out.size
      by_cases hgn : gn = 0
      · subst hgn
        have E : Hid (r = none) := Lib.hid (by rw [hres2.out, if_pos rfl]; rfl)
        have HB3 := Lib.hid (hbw.out.trans (hb3.mono hsw))
        have ee : errG 0 = 3 := rfl
        clear hb3
        go_wp2
        go_ret2
        exact AllPost.none_ (E.out.symm.trans HR.out) rfl (HB3.out.trans ((below_alloc w3 _).mono HB3.out.size))
      · obtain ⟨q, rfl⟩ : ∃ q : Nat, gn = q := ⟨gn.toNat, by omega⟩
        have E : Hid (r = (allS (bs.length - (k + q) + 1) (bs.drop (k + q))).map ((l ++ [(g1, g2, g3)]) ++ ·)) := Lib.hid (by
          rw [hres2.out, if_neg hgn, HD.out, Int.toNat_natCast, allS_fuel (bs.length - k) (bs.drop (k + q)) (by rw [List.length_drop]; omega), List.length_drop]
          cases allS (bs.length - (k + q) + 1) (bs.drop (k + q)) <;> simp)
        have ee : Hid (errG (q : Int) = 0) := Lib.hid (by unfold errG; rw [if_neg hgn])
        have hq0 : 0 < q := by omega
        have hq1 : k + q ≤ bs.length := by omega
        have own3 := own_below own.out hb3
        have OWN3 := Lib.hid own3
        have HB3 := Lib.hid (hbw.out.trans (hb3.mono hsw))
        have BOX : Hid (∀ (u : Nat) (y : Value), ([.int .i64 g1, .int .i64 g2, .int .i64 g3] : List Value)[u]? = some y → ((w3.alloc (.cells #[.int .i64 g1, .int .i64 g2, .int .i64 g3] 24)).alloc (.cells #[.int .i64 g1, .int .i64 g2, .int .i64 g3] 24)).cell? ((⟨w3.heap.size + 1, 0, none⟩ : Addr).add u) = some y) := Lib.hid (by
          have := new3 (w3.alloc (.cells #[.int .i64 g1, .int .i64 g2, .int .i64 g3] 24)) (.int .i64 g1) (.int .i64 g2) (.int .i64 g3) 24
          simpa using this)
        have hlc : l.length ≤ 90000 := by omega
        have hl1 : (l.length : Int) < 100000 := by omega
        have hl2 : l.length < 100000 := by omega
        clear hgn hb3 own3
        rw [ee.out]
        go_wp2_with (at_builtin; refine wpList_append_own_at _ rfl (.tmp 29) (.tmp 31) 29 rfl w.heap.size 24 i0 _ 3 24 Try.underlying29 hi0 hz0 hz1 hz2 rfl (by decide) _ l.length (ins l) rfl ((OWN3.out.alloc _).alloc _) ⟨w3.heap.size + 1, 0, none⟩ 1 1 [.int .i64 g1, .int .i64 g2, .int .i64 g3] rfl rfl BOX.out (by intro u hu; simp at hu; rcases hu with rfl | rfl | rfl <;> rfl) (by unfold maxLen; omega) (by omega) (by have := HB3.out.size; simp; omega) ?_)
        intro v2 w4 own4 gr4 _ at4
        have hb4 : Below w.heap.size w w4 := ((HB3.out.alloc HB3.out.size _).alloc (by have := HB3.out.size; simp; omega) _).grown gr4 (by have := HB3.out.size; simp; omega) (fun z hz => (OWN3.out.lt z hz).1)
        have HB4 := Lib.hid hb4
        have OWN4 : Hid (w4.ownsRow w.heap.size 24 3 v2 (l ++ [(g1, g2, g3)]).length (ins (l ++ [(g1, g2, g3)]))) := Lib.hid (by rw [ins_app, List.length_append]; exact own4)
        have WK := Lib.hid (wk_add k q (by omega))
        have LEN : Hid ((l ++ [(g1, g2, g3)]).length ≤ k + q) := Lib.hid (by rw [List.length_append]; simp only [List.length_singleton]; omega)
        have MEAS : Hid (bs.length - (k + q) < bs.length - k) := Lib.hid (by omega)
        have LL : Hid (((l ++ [(g1, g2, g3)]).length : Int) = (l.length : Int) + 1) := Lib.hid (by rw [List.length_append]; rfl)
        obtain ⟨wk, wk2⟩ := WK.out
        clear own4 gr4 at4 hb4
        go_wp2
        clear wk wk2
        go_roundw
        case rel => exact ⟨k + q, l ++ [(g1, g2, g3)], hq1, LEN.out, by rw [LL.out], by rw [Int.natCast_add], OWN4, HB4, E⟩
        case measure =>
          simp only [intOf]
          have e : ((k : Int) + q).toNat = k + q := by rw [← Int.natCast_add, Int.toNat_natCast]
          rw [e, Int.toNat_natCast]
          exact MEAS.out
    · obtain rfl : k = bs.length := by omega
      have E : Hid (r = some l) := Lib.hid (by rw [hres.out]; simp [allS])
      have d1 : decide ((100000 : Int) < l.length) = false := decide_eq_false (by omega)
      have d2 : decide (100000 < l.length) = false := decide_eq_false (by omega)
      have d3 : l.length ≤ 100000 := by omega
      clear hlt2
      go_wp2
      go_ret2
      exact AllPost.some_ (E.out.symm.trans HR.out) rfl hbw.out own.out
end Go.Proofs.Ytgfaadfkeeehgaa
