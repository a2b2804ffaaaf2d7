import PyProof.Rows.All
import Wide.All
import OpenK.AllK
import Wide.FinOn
import HandS.ForMost
import HandS.IsInst
import HandS.Walk
import HandS.Defaults
import HandS.Codes
import PySem.Sem
import KE.GoesEnumKw
import HandS.Star
import HandS.SortKw
import HandS.Wide
import HandS.ListItems
import HandS.TupAny
import PyProof.AutoSeq1
import HandS.ExcInit
import HandS.ExcOwn
import HandS.ExcField
import HandS.WordsExc
import HandS.ExcIs
import KE.KExcIs
import HandS.Lambda
import HandS.ClsMeth
import KE.SortKeyHeap
import PyProof.Rows.TupSub
import PyProof.TupleOfSeq
import HandS.Iter
import HandS.DictComp
import HandS.MakeKwOnly
import HandS.Replace
import HandS.StrMore
import HandS.FStr
import HandS.ReplaceLit
import PyProof.FitsInt
import PyProof.Rows.StrMeet
import HandS.ReplaceList
import HandS.Flow
import KE.KSlice
import HandS.DeepEq
import HandS.Style
import HandS.TupMul
import HandS.Zip
import HandS.More
import PyProof.EqAt
import HandS.TryMany
import KE.DataEq
import HandS.Finally
import HandS.EndTab
import PySem.Challenge.RW_thingwires_k22_cases_turned
set_option Elab.async false
set_option linter.all false
set_option maxRecDepth 100000
/-! TwKit: what all our proofs share: defs that may be called, the well of numbers, frames. -/
namespace Tw
open PySem PySem.Spec PyProof.Rows L2

/-! ### a def of the text, as the top has left it -/
def DefIn (K : PySem.W.Frag) (x : Str) (st : Stmt) : Prop := ∃ (f : Addr) (oc : Value) (od an : Option Addr) (osl : Array (Option Value)) (kV dc pm cd ct : Value),
  PySem.W.nsIn K mainGlobals x = some (some (.ref f)) ∧ K.lookup f = some ⟨oc, od, .func (PySem.W.fnOf x x (defArgs st) (defBody st) (defScope st) .none kV dc pm an cd ct), osl⟩ ∧ PySem.W.codeIn K cd x = true ∧ PySem.W.keepIn K (.ref f) = true

section
variable {P : Program} {w : World} {K : PySem.W.Frag} {mg : Str → Option Value} {base : Heap}
theorem defIn_mk {x : Str} {st : Stmt} {f : Addr} {oc : Value} {od an : Option Addr} {osl : Array (Option Value)} {kV dc pm cd ct : Value} (a : PySem.W.nsIn K mainGlobals x = some (some (.ref f)))
    (l : K.lookup f = some ⟨oc, od, .func (PySem.W.fnOf x x (defArgs st) (defBody st) (defScope st) .none kV dc pm an cd ct), osl⟩) (c : PySem.W.codeIn K cd x = true) (k : PySem.W.keepIn K (.ref f) = true) : DefIn K x st :=
  ⟨f, oc, od, an, osl, kV, dc, pm, cd, ct, a, l, c, k⟩
/-- a def by its name: a promise that is kept, called by place -/
structure Cal (P : Program) (w : World) (K : PySem.W.Frag) (mg : Str → Option Value) (base : Heap) (k : Nat) (x : Str) (ps : List Str) (sp : Sp) : Prop where
  ex : ∃ (f : Addr) (fd : FuncData), FnOk P w K mg base CX0 k f fd ps sp ∧ mg x = some (.ref f) ∧ PySem.W.keepIn K (.ref f) = true ∧ Binds K fd ps []
/-- .. by keywords alone, in the order ks; gV puts their values into the parameters' order -/
structure CalK (P : Program) (w : World) (K : PySem.W.Frag) (mg : Str → Option Value) (base : Heap) (k : Nat) (x : Str) (n : Nat) (ks : List Str) (gV : List V → List V → List V) (sp : Sp) : Prop where
  ex : ∃ (f : Addr) (fd : FuncData) (ps : List Str) (g : List Value → List Value → List Value), FnOk P w K mg base CX0 k f fd ps sp ∧ mg x = some (.ref f) ∧ PySem.W.keepIn K (.ref f) = true ∧ KBn K fd ps n ks g gV

theorem cal_mk {x : Str} {st : Stmt} {ps : List Str} {k : Nat} {sp : Sp} {h : Heap} (D : DefIn K x st) (X : K.In h) (G : h.Ns mainGlobals mg)
    (b : ∀ (kV doc pm : Value) (an : Option Addr) (cdv ct : Value) (us : List Value), us.length = ps.length → bindArgs (PySem.W.fnOf x x (defArgs st) (defBody st) (defScope st) .none kV doc pm an cdv ct) ⟨us, []⟩ = pure (ps.zip us))
    (ok : ∀ (f : Addr) (fd : FuncData), Fun K x x st f fd → FnOk P w K mg base CX0 k f fd ps sp) : Cal P w K mg base k x ps sp := by
  obtain ⟨f, oc, od, an, osl, kV, dc, pm, cd, ct, a, l, c, kp⟩ := D
  have F := fun_mk (st := st) l c kp
  exact ⟨f, _, ok f _ F, PySem.W.mg_of X G a, kp, F.binds b⟩
theorem calK_mk {x : Str} {st : Stmt} {ps : List Str} {k n : Nat} {ks : List Str} {sp : Sp} {h : Heap} (g : {α : Type} → List α → List α → List α) (D : DefIn K x st) (X : K.In h) (G : h.Ns mainGlobals mg)
    (b : ∀ (kV doc pm : Value) (an : Option Addr) (cdv ct : Value) (us ws : List Value), us.length = n → ws.length = ks.length → bindArgs (PySem.W.fnOf x x (defArgs st) (defBody st) (defScope st) .none kV doc pm an cdv ct) ⟨us, ks.zip ws⟩ = pure (ps.zip (g us ws)))
    (hrel : ∀ {vs : List V} {us : List Value} {zs : List V} {ws : List Value}, Vals vs us → Vals zs ws → Vals (g vs zs) (g us ws))
    (ok : ∀ (f : Addr) (fd : FuncData), Fun K x x st f fd → FnOk P w K mg base CX0 k f fd ps sp) : CalK P w K mg base k x n ks g sp := by
  obtain ⟨f, oc, od, an, osl, kV, dc, pm, cd, ct, a, l, c, kp⟩ := D
  have F := fun_mk (st := st) l c kp
  exact ⟨f, _, ps, g, ok f _ F, PySem.W.mg_of X G a, kp, fun s us ws _ h1 h2 => .of_eq (b _ _ _ _ _ _ us ws h1 h2), hrel⟩
end

section
variable {X : Cx} {k j n : Nat} {x : Str} {ps ks : List Str} {sp : Sp} {gV : List V → List V → List V} {p pos : Pos} {e : Expr} {es : List Expr} {kws : List Keyword} {t tk : TA}
theorem pe_cal (c : Cal X.prog X.w X.K X.mg X.base k x ps sp) (hr : Room j X.A) (hk : k ≤ j) (hg : Gl X x) (ha : PA X (e :: es) t)
    (hdb : (x == ("__debug__" : Str)) = false := by decide) (he : starEach (e :: es) X.env = (false, eval e X.env) :: starEach es X.env := by rfl) (hpl : (backTo pos (starEach es X.env)).any (·.1) = false := by rfl) :
    PE X (.Call (.Name x p) (e :: es) [] pos) (tCall sp [] E0 t) := by
  obtain ⟨f, fd, F, hm, kp, b⟩ := c.ex
  exact pe_call F (hr.mono hk) hg hm kp b .nil pass0 ha hdb he hpl
theorem pe_cal0 (c : Cal X.prog X.w X.K X.mg X.base k x ps sp) (hr : Room j X.A) (hk : k ≤ j) (hg : Gl X x) (hdb : (x == ("__debug__" : Str)) = false := by decide) :
    PE X (.Call (.Name x p) [] [] pos) (tCall sp [] E0 tNil) := by
  obtain ⟨f, fd, F, hm, kp, b⟩ := c.ex
  exact pe_call0 F (hr.mono hk) hg hm kp b .nil pass0 hdb
/-- f(a, .., k = v, ..) -/
theorem pe_calN (c : CalK X.prog X.w X.K X.mg X.base k x n ks gV sp) (hr : Room j X.A) (hk : k ≤ j) (hg : Gl X x) (ha : PA X (e :: es) t) (hkw : PK X kws tk) (hall : (backToKw pos (keywordEach kws X.env)).all (·.1.isSome) = true := by rfl) (hks : (backToKw pos (keywordEach kws X.env)).filterMap (·.1) = ks := by rfl)
    (hdb : (x == ("__debug__" : Str)) = false := by decide) (he : starEach (e :: es) X.env = (false, eval e X.env) :: starEach es X.env := by rfl)
    (hpl : ((backTo pos (starEach (e :: es) X.env)).any (·.1) || (backToKw pos (keywordEach kws X.env)).any (·.1.isNone)) = false := by rfl) :
    PE X (.Call (.Name x p) (e :: es) kws pos) (tCallN n ks.length sp gV E0 t tk) := by
  obtain ⟨f, fd, ps, g, F, hm, kp, b⟩ := c.ex
  exact pe_callN F (hr.mono hk) hg hm kp b pass0 ha hkw hall hks hdb he hpl
/-- f(k = v, ..) -/
theorem pe_calN0 (c : CalK X.prog X.w X.K X.mg X.base k x 0 ks gV sp) (hr : Room j X.A) (hk : k ≤ j) (hg : Gl X x) (hkw : PK X kws tk) (hall : (backToKw pos (keywordEach kws X.env)).all (·.1.isSome) = true := by rfl) (hks : (backToKw pos (keywordEach kws X.env)).filterMap (·.1) = ks := by rfl)
    (hdb : (x == ("__debug__" : Str)) = false := by decide) (hpl : ((backTo pos (starEach [] X.env)).any (·.1) || (backToKw pos (keywordEach kws X.env)).any (·.1.isNone)) = false := by rfl) :
    PE X (.Call (.Name x p) [] kws pos) (tCallN 0 ks.length sp gV E0 tNil tk) := by
  obtain ⟨f, fd, ps, g, F, hm, kp, b⟩ := c.ex
  refine ⟨fun pins s σ H Q I h => ?_⟩
  refine wpAny_Call_Name_kw (ld_glob I hg hm ?_ hdb)
  refine PySem.W.callWith_KW0 (h₀ := X.base) I.ok.mod.kin kp hall ?_ hpl
  refine thn (hkw.run pos pins s σ H _ I h) fun ws s2 ⟨zs, H2, I2, rz, l1, l2, q2⟩ => ⟨I2.kIn, ?_⟩
  rw [hks]
  exact run_fnN (us := []) (vs := []) F (hr.mono hk) b pass0 I2 .nil rz rfl l2 q2
end

/-! ### heaps -/
theorem same_upd {H : Hp} {p : Addr} {o : HO} (h : H p = none) : Same H (upd H p o) := fun b x e => by
  rw [upd_ne (ne_of_none e h)]
  exact e
theorem Same.tupq {K : PySem.W.Frag} {H H' : Hp} {a : Addr} {xs : List V} (e : Same H H') (h : SqT K H a xs) : SqT K H' a xs := by
  rcases h with (h | ⟨o, h⟩) | h
  · exact .inl (.inl (e _ _ h))
  · exact .inl (.inr ⟨o, e _ _ h⟩)
  · exact .inr h

/-- the well at a: a list of three numbers -/
def IsWl (H : Hp) (a : Addr) : Prop := ∃ x y z : Int, H a = some (.lst [.int x, .int y, .int z])
/-- all but the well at a stays; that is a well again -/
def Fw (a : Addr) (H H' : Hp) : Prop := (∀ b o, b ≠ a → H b = some o → H' b = some o) ∧ IsWl H' a
theorem IsWl.same {H H' : Hp} {a : Addr} (h : IsWl H a) (s : Same H H') : IsWl H' a := by
  obtain ⟨x, y, z, e⟩ := h
  exact ⟨x, y, z, s _ _ e⟩
theorem Fw.refl {H : Hp} {a : Addr} (h : IsWl H a) : Fw a H H := ⟨fun _ _ _ e => e, h⟩
theorem Fw.trans {a : Addr} {H H1 H2 : Hp} (f : Fw a H H1) (g : Fw a H1 H2) : Fw a H H2 := ⟨fun b o n e => g.1 b o n (f.1 b o n e), g.2⟩
theorem Fw.same {a : Addr} {H H1 H2 : Hp} (f : Fw a H H1) (g : Same H1 H2) : Fw a H H2 := ⟨fun b o n e => g b o (f.1 b o n e), f.2.same g⟩
theorem Fw.of_same {a : Addr} {H H1 : Hp} (h : IsWl H a) (g : Same H H1) : Fw a H H1 := (Fw.refl h).same g
theorem Fw.free {a : Addr} {H H' : Hp} (f : Fw a H H') (h : IsWl H a) {p : Addr} (e : H' p = none) : H p = none := by
  cases q : H p with
  | none => rfl
  | some o =>
    by_cases hp : p = a
    · subst hp
      obtain ⟨_, _, _, z⟩ := f.2
      rw [z] at e
      cases e
    · rw [f.1 p o hp q] at e
      cases e
theorem IsWl.ne {H : Hp} {a p : Addr} (h : IsWl H a) (e : H p = none) : p ≠ a := fun q => by
  obtain ⟨_, _, _, z⟩ := h
  rw [q, z] at e
  cases e
/-- the draw's promise: any number below many -/
def spDraw : Sp := fun vs H Q _ => ∃ (a : Addr) (m : Int), vs = [.ref a, .int m] ∧ IsWl H a ∧ 0 < m ∧ m < 1073741824 ∧ ∀ (r : Int) (H' : Hp), 0 ≤ r → r < m → Fw a H H' → Q (.int r) H'

theorem iteB {c : Bool} {A B : Prop} (h1 : c = true → A) (h2 : c = false → B) : if c = true then A else B := by
  cases c
  · exact iteF (h2 rfl)
  · exact iteT (h1 rfl)

/-! ### plain texts -/
/-- a text of at most n signs below 128 -/
structure Asc (n : Nat) (z : Str) : Prop where
  le : z.length ≤ n
  lt : ∀ c ∈ z.cps.toList, c < 128
theorem len_toList (z : Str) : z.length = z.cps.toList.length := by
  show z.cps.size = _
  simp
theorem Asc.mono {m n : Nat} {z : Str} (h : Asc m z) (e : m ≤ n) : Asc n z := ⟨Nat.le_trans h.le e, h.lt⟩
theorem Asc.nil {n : Nat} : Asc n ⟨#[]⟩ := ⟨Nat.zero_le _, fun c h => by simp at h⟩
theorem Asc.one {c : Nat} (h : c < 128) : Asc 1 ⟨#[c]⟩ := ⟨Nat.le_refl _, fun d hd => by
  have e : d = c := by simpa using hd
  omega⟩
theorem toList_append (a b : Str) : (a ++ b).cps.toList = a.cps.toList ++ b.cps.toList := TL.tl_append a b
theorem Asc.append {m n : Nat} {a b : Str} (ha : Asc m a) (hb : Asc n b) : Asc (m + n) (a ++ b) := by
  refine ⟨?_, fun c hc => ?_⟩
  · have h1 := ha.le
    have h2 := hb.le
    rw [len_toList] at h1 h2 ⊢
    rw [toList_append, List.length_append]
    omega
  · rw [toList_append] at hc
    rcases List.mem_append.mp hc with h | h
    · exact ha.lt c h
    · exact hb.lt c h
theorem Asc.cut {n : Nat} {a : Str} (ha : Asc n a) (lo hi : Option Int) : Asc n (cutS a lo hi) := by
  refine ⟨Nat.le_trans (cutS_length a lo hi) ha.le, fun c hc => ha.lt c ?_⟩
  have e : c ∈ (a.cps.toList.drop (HT.sIx a.length 0 lo)).take (HT.sIx a.length a.length hi - HT.sIx a.length 0 lo) := hc
  exact List.mem_of_mem_drop (List.mem_of_mem_take e)
theorem Asc.ok {n : Nat} {z : Str} (h : Asc n z) : PyData.strOk z = true := by
  unfold PyData.strOk
  rw [← Array.all_toList, List.all_eq_true]
  intro c hc
  exact decide_eq_true (Nat.lt_trans (h.lt c hc) (by decide))
theorem asc_toList {l : List Nat} {n : Nat} (h : l.length ≤ n) (k : ∀ c ∈ l, c < 128) : Asc n ⟨l.toArray⟩ := ⟨by rw [len_toList]; simpa using h, fun c hc => k c (by simpa using hc)⟩
/-- written texts -/
def ascB (n : Nat) (z : Str) : Bool := decide (z.length ≤ n) && z.cps.toList.all fun c => decide (c < 128)
theorem Asc.of {n : Nat} {z : Str} (h : ascB n z = true) : Asc n z := by
  unfold ascB at h
  simp only [Bool.and_eq_true, decide_eq_true_eq, List.all_eq_true] at h
  exact ⟨h.1, h.2⟩
theorem Asc.at {n : Nat} {z : Str} (h : Asc n z) {i : Nat} (hi : i < z.length) : ∃ c, atI z.cps.toList (i : Int) = some c ∧ c < 128 := by
  have e : i < z.cps.toList.length := by rw [← len_toList]; exact hi
  exact ⟨z.cps.toList[i], atI_nat (List.getElem?_eq_getElem e), h.lt _ (List.getElem_mem e)⟩
theorem Asc.atZ {n : Nat} {z : Str} (h : Asc n z) {i : Int} (h0 : 0 ≤ i) (hi : i < z.length) : ∃ c, atI z.cps.toList i = some c ∧ c < 128 := by
  obtain ⟨c, e, l⟩ := h.at (i := i.toNat) (by omega)
  rw [Int.toNat_of_nonneg h0] at e
  exact ⟨c, e, l⟩
end Tw
/-! Sb: what the streams tell, on lists of numbers alone (no Python here). -/
namespace Sb
def By (xs : List Int) : Prop := ∀ b ∈ xs, 0 ≤ b ∧ b ≤ 255
def NZ (xs : List Int) : Prop := ∀ b ∈ xs, b ≠ 0
theorem By.nil : By [] := fun _ h => by cases h
theorem By.append {xs ys : List Int} (h : By xs) (k : By ys) : By (xs ++ ys) := fun b hb => (List.mem_append.mp hb).elim (h b) (k b)
theorem By.cons {x : Int} {xs : List Int} (h0 : 0 ≤ x) (h1 : x ≤ 255) (k : By xs) : By (x :: xs) := fun b hb => by
  rcases List.mem_cons.mp hb with rfl | h
  · exact ⟨h0, h1⟩
  · exact k b h
theorem By.one {x : Int} (h0 : 0 ≤ x) (h1 : x ≤ 255) : By [x] := By.cons h0 h1 .nil
theorem By.take {xs : List Int} (h : By xs) (n : Nat) : By (xs.take n) := fun b hb => h b (List.mem_of_mem_take hb)
theorem By.drop {xs : List Int} (h : By xs) (n : Nat) : By (xs.drop n) := fun b hb => h b (List.mem_of_mem_drop hb)
theorem By.left {xs ys : List Int} (h : By (xs ++ ys)) : By xs := fun b hb => h b (List.mem_append_left _ hb)
theorem By.right {xs ys : List Int} (h : By (xs ++ ys)) : By ys := fun b hb => h b (List.mem_append_right _ hb)
theorem By.rep {x : Int} (n : Nat) (h0 : 0 ≤ x) (h1 : x ≤ 255) : By (List.replicate n x) := fun b hb => by
  rw [(List.mem_replicate.mp hb).2]
  exact ⟨h0, h1⟩
theorem NZ.nil : NZ [] := fun _ h => by cases h
theorem NZ.append {xs ys : List Int} (h : NZ xs) (k : NZ ys) : NZ (xs ++ ys) := fun b hb => (List.mem_append.mp hb).elim (h b) (k b)
theorem NZ.take {xs : List Int} (h : NZ xs) (n : Nat) : NZ (xs.take n) := fun b hb => h b (List.mem_of_mem_take hb)
theorem NZ.drop {xs : List Int} (h : NZ xs) (n : Nat) : NZ (xs.drop n) := fun b hb => h b (List.mem_of_mem_drop hb)

/-! ### zeros -/
def zs (off : Nat) : List Int → List Nat
  | [] => []
  | b :: r => if b = 0 then off :: zs (off + 1) r else zs (off + 1) r
theorem zs_append (off : Nat) (xs ys : List Int) : zs off (xs ++ ys) = zs off xs ++ zs (off + xs.length) ys := by
  induction xs generalizing off with
  | nil => rfl
  | cons b r ih =>
    have e : off + (b :: r).length = off + 1 + r.length := by rw [List.length_cons]; omega
    rw [e]
    by_cases h : b = 0
    · simp only [List.cons_append, zs, if_pos h, ih]
    · simp only [List.cons_append, zs, if_neg h, ih]
theorem zs_nz {xs : List Int} (h : NZ xs) (off : Nat) : zs off xs = [] := by
  induction xs generalizing off with
  | nil => rfl
  | cons b r ih =>
    have h1 : b ≠ 0 := h b (List.mem_cons_self ..)
    simp only [zs, if_neg h1]
    exact ih (fun c hc => h c (List.mem_cons_of_mem _ hc)) _
theorem zs_length (off : Nat) (xs : List Int) : (zs off xs).length ≤ xs.length := by
  induction xs generalizing off with
  | nil => exact Nat.le_refl _
  | cons b r ih =>
    have := ih (off + 1)
    by_cases h : b = 0
    · simp only [zs, if_pos h, List.length_cons]; omega
    · simp only [zs, if_neg h, List.length_cons]; omega
theorem nz_of_zs {xs : List Int} {off : Nat} (h : zs off xs = []) : NZ xs := by
  induction xs generalizing off with
  | nil => exact .nil
  | cons b r ih =>
    by_cases hb : b = 0
    · simp [zs, hb] at h
    · simp only [zs, if_neg hb] at h
      intro c hc
      rcases List.mem_cons.mp hc with rfl | q
      · exact hb
      · exact ih h c q
/-- the first zero: ahead of it none -/
theorem zs_cons {xs : List Int} {off z : Nat} {t : List Nat} (h : zs off xs = z :: t) : ∃ seg r, xs = seg ++ 0 :: r ∧ NZ seg ∧ z = off + seg.length ∧ t = zs (z + 1) r := by
  induction xs generalizing off with
  | nil => cases h
  | cons b r ih =>
    by_cases hb : b = 0
    · simp only [zs, if_pos hb] at h
      cases h
      exact ⟨[], r, by rw [hb]; rfl, .nil, rfl, rfl⟩
    · simp only [zs, if_neg hb] at h
      obtain ⟨seg, r', e, hn, ez, et⟩ := ih h
      refine ⟨b :: seg, r', by rw [e]; rfl, fun c hc => ?_, by rw [ez, List.length_cons]; omega, et⟩
      rcases List.mem_cons.mp hc with rfl | q
      · exact hb
      · exact hn c q
theorem zs_take_succ {xs : List Int} {i : Nat} {b : Int} (h : xs[i]? = some b) (off : Nat) : zs off (xs.take (i + 1)) = zs off (xs.take i) ++ if b = 0 then [off + i] else [] := by
  have hi : i < xs.length := (List.getElem?_eq_some_iff.mp h).1
  rw [List.take_add_one, h, zs_append]
  have e : (xs.take i).length = i := by rw [List.length_take]; omega
  rw [e]
  by_cases hb : b = 0
  · simp [zs, hb]
  · simp [zs, hb]

/-! ### the check -/
def wsum (k : Int) : List Int → Int
  | [] => 0
  | b :: r => k * b + wsum (k + 1) r
def check (p : List Int) : List Int := [p.sum % 65521 / 256, p.sum % 65521 % 256, wsum 1 p % 65521 / 256, wsum 1 p % 65521 % 256]
theorem wsum_append (k : Int) (xs ys : List Int) : wsum k (xs ++ ys) = wsum k xs + wsum (k + (xs.length : Int)) ys := by
  induction xs generalizing k with
  | nil => simp [wsum]
  | cons b r ih =>
    have e : k + ((b :: r).length : Int) = k + 1 + (r.length : Int) := by rw [List.length_cons]; push_cast; omega
    rw [e, List.cons_append]
    simp only [wsum, ih]
    omega
theorem check_length (p : List Int) : (check p).length = 4 := rfl
theorem check_by (p : List Int) : By (check p) := by
  intro b hb
  have h1 : 0 ≤ p.sum % 65521 ∧ p.sum % 65521 < 65521 := by omega
  have h2 : 0 ≤ wsum 1 p % 65521 ∧ wsum 1 p % 65521 < 65521 := by omega
  simp only [check, List.mem_cons, List.not_mem_nil, or_false] at hb
  rcases hb with rfl | rfl | rfl | rfl <;> omega

/-! ### runs undone -/
/-- by fuel: what is made, what is left -/
def undo : Nat → List Int → List Int → Option (List Int)
  | 0, acc, _ => some acc
  | _ + 1, acc, [] => some acc
  | f + 1, acc, n :: r =>
    if r.length + 1 < n.toNat then none
    else undo f (acc ++ r.take (n.toNat - 1) ++ if n < 255 ∧ n.toNat < r.length + 1 then [0] else []) ((n :: r).drop n.toNat)
def unrun (p : List Int) : Option (List Int) := undo p.length [] p
theorem undo_nil (f : Nat) (acc : List Int) : undo f acc [] = some acc := by cases f <;> rfl
theorem undo_length {f : Nat} {acc p w : List Int} (hp : ∀ b ∈ p, 1 ≤ b) (h : undo f acc p = some w) : w.length ≤ acc.length + p.length := by
  induction f generalizing acc p with
  | zero => simp only [undo, Option.some.injEq] at h; subst h; omega
  | succ f ih =>
    cases p with
    | nil => simp only [undo, Option.some.injEq] at h; subst h; simp
    | cons n r =>
      simp only [undo] at h
      split at h
      · cases h
      · rename_i hn
        have h1 := hp n (List.mem_cons_self ..)
        have q := ih (fun b hb => hp b (List.mem_of_mem_drop hb)) h
        have e : ((n :: r).drop n.toNat).length = r.length + 1 - n.toNat := by rw [List.length_drop, List.length_cons]
        rw [e, List.length_append, List.length_append, List.length_take] at q
        rw [List.length_cons]
        have e2 : (if n < 255 ∧ n.toNat < r.length + 1 then [(0 : Int)] else []).length ≤ 1 := by split <;> simp
        omega
theorem undo_by {f : Nat} {acc p w : List Int} (ha : By acc) (hp : By p) (h : undo f acc p = some w) : By w := by
  induction f generalizing acc p with
  | zero => simp only [undo, Option.some.injEq] at h; subst h; exact ha
  | succ f ih =>
    cases p with
    | nil => simp only [undo, Option.some.injEq] at h; subst h; exact ha
    | cons n r =>
      simp only [undo] at h
      split at h
      · cases h
      · refine ih ?_ (hp.drop _) h
        refine (ha.append (By.take (fun b hb => hp b (List.mem_cons_of_mem _ hb)) _)).append ?_
        split
        · exact .one (by omega) (by omega)
        · exact .nil
theorem unrun_length {p w : List Int} (hp : ∀ b ∈ p, 1 ≤ b) (h : unrun p = some w) : w.length ≤ p.length := by
  have := undo_length hp h
  simpa using this
theorem unrun_by {p w : List Int} (hp : By p) (h : unrun p = some w) : By w := undo_by .nil hp h

/-! ### what is told -/
inductive Tell where
  | part (pl : Nat) (bs : List Int)
  | torn (pl n : Nat)
deriving DecidableEq
def tell (pl : Nat) (p : List Int) : Tell :=
  match unrun p with
  | some w => if 4 ≤ w.length ∧ w.drop (w.length - 4) = check (w.take (w.length - 4)) then .part pl (w.take (w.length - 4)) else .torn pl p.length
  | none => .torn pl p.length
def goes : List Int → Nat → List Int → List Tell × List Int × Nat
  | pc, pl, [] => ([], pc, pl)
  | pc, pl, b :: r => if b = 0 then ((if pc = [] then [] else [tell pl pc]) ++ (goes [] (pl + pc.length + 1) r).1, (goes [] (pl + pc.length + 1) r).2) else goes (pc ++ [b]) pl r
def rests (pc : List Int) (pl : Nat) : List Tell := if pc = [] then [] else [.torn pl pc.length]
def unstr (xs : List Int) : List Tell := (goes [] 0 xs).1 ++ rests (goes [] 0 xs).2.1 (goes [] 0 xs).2.2
theorem goes_nz {seg : List Int} (h : NZ seg) (pc : List Int) (pl : Nat) : goes pc pl seg = ([], pc ++ seg, pl) := by
  induction seg generalizing pc with
  | nil => simp [goes]
  | cons b r ih =>
    have hb : b ≠ 0 := h b (List.mem_cons_self ..)
    simp only [goes, if_neg hb]
    rw [ih (fun c hc => h c (List.mem_cons_of_mem _ hc))]
    simp
theorem goes_append (pc : List Int) (pl : Nat) (xs ys : List Int) : goes pc pl (xs ++ ys) = ((goes pc pl xs).1 ++ (goes (goes pc pl xs).2.1 (goes pc pl xs).2.2 ys).1, (goes (goes pc pl xs).2.1 (goes pc pl xs).2.2 ys).2) := by
  induction xs generalizing pc pl with
  | nil => simp [goes]
  | cons b r ih =>
    by_cases hb : b = 0
    · simp only [List.cons_append, goes, if_pos hb, ih, List.append_assoc]
    · simp only [List.cons_append, goes, if_neg hb, ih]
theorem goes_zero {seg : List Int} (h : NZ seg) (pc : List Int) (pl : Nat) (r : List Int) :
    goes pc pl (seg ++ 0 :: r) = ((if pc ++ seg = [] then [] else [tell pl (pc ++ seg)]) ++ (goes [] (pl + (pc ++ seg).length + 1) r).1, (goes [] (pl + (pc ++ seg).length + 1) r).2) := by
  rw [goes_append, goes_nz h]
  simp only [goes, if_true, List.nil_append]
/-- the piece kept is of none but bytes, without zeros -/
theorem goes_keeps {pc xs : List Int} {pl : Nat} (h1 : By pc) (h2 : NZ pc) (hx : By xs) : By (goes pc pl xs).2.1 ∧ NZ (goes pc pl xs).2.1 ∧ (goes pc pl xs).2.1.length ≤ pc.length + xs.length := by
  induction xs generalizing pc pl with
  | nil => exact ⟨h1, h2, Nat.le_add_right _ _⟩
  | cons b r ih =>
    have hb := hx b (List.mem_cons_self ..)
    have hr : By r := fun c hc => hx c (List.mem_cons_of_mem _ hc)
    by_cases h0 : b = 0
    · simp only [goes, if_pos h0]
      obtain ⟨a, c, d⟩ := ih (pl := pl + pc.length + 1) By.nil NZ.nil hr
      refine ⟨a, c, ?_⟩
      rw [List.length_cons]
      have e : ([] : List Int).length = 0 := rfl
      omega
    · simp only [goes, if_neg h0]
      obtain ⟨a, c, d⟩ := ih (pc := pc ++ [b]) (pl := pl) (h1.append (.one hb.1 hb.2)) (h2.append fun c hc => by
        have e : c = b := by simpa using hc
        rw [e]; exact h0) hr
      refine ⟨a, c, ?_⟩
      rw [List.length_append] at d
      rw [List.length_cons]
      have e : [b].length = 1 := rfl
      omega
theorem goes_many (pc : List Int) (pl : Nat) (xs : List Int) : (goes pc pl xs).1.length ≤ xs.length := by
  induction xs generalizing pc pl with
  | nil => exact Nat.le_refl _
  | cons b r ih =>
    by_cases h0 : b = 0
    · simp only [goes, if_pos h0, List.length_append, List.length_cons]
      have := ih [] (pl + pc.length + 1)
      have e : (if pc = [] then [] else [tell pl pc]).length ≤ 1 := by split <;> simp
      omega
    · simp only [goes, if_neg h0, List.length_cons]
      have := ih (pc ++ [b]) pl
      omega
theorem undo_at {ns acc : List Int} {a k f : Nat} (h : ns[a]? = some (k : Int)) (hk : 1 ≤ k) (hf : ns.length - a ≤ f) :
    ∃ f', ns.length - (a + k) ≤ f' ∧ undo f acc (ns.drop a) = if ns.length < a + k then none else undo f' (acc ++ (ns.drop (a + 1)).take (k - 1) ++ if (k : Int) < 255 ∧ a + k < ns.length then [0] else []) (ns.drop (a + k)) := by
  have ha : a < ns.length := (List.getElem?_eq_some_iff.mp h).1
  have e : ns.drop a = (k : Int) :: ns.drop (a + 1) := by
    rw [List.drop_eq_getElem_cons ha]
    have := (List.getElem?_eq_some_iff.mp h).2
    rw [this]
  cases f with
  | zero => omega
  | succ f =>
    refine ⟨f, by omega, ?_⟩
    have e2 : ((k : Int) :: ns.drop (a + 1)).drop k = ns.drop (a + k) := by
      rw [← e, List.drop_drop]
    rw [e]
    simp only [undo, Int.toNat_natCast]
    rw [e2, List.length_drop]
    by_cases c : ns.length < a + k
    · rw [if_pos c, if_pos (by omega)]
    · rw [if_neg c, if_neg (by omega)]
      have e3 : (if (k : Int) < 255 ∧ k < ns.length - (a + 1) + 1 then [(0 : Int)] else []) = if (k : Int) < 255 ∧ a + k < ns.length then [0] else [] := by
        by_cases d : (k : Int) < 255 ∧ a + k < ns.length
        · rw [if_pos d, if_pos ⟨d.1, by omega⟩]
        · rw [if_neg d, if_neg (fun q => d ⟨q.1, by omega⟩)]
      rw [e3]
theorem byte_nat {ns : List Int} (hB : By ns) (hN : NZ ns) {a : Nat} {b : Int} (h : ns[a]? = some b) : ∃ k : Nat, b = (k : Int) ∧ 1 ≤ k ∧ k ≤ 255 := by
  have hm := List.mem_of_getElem? h
  have h1 := hB b hm
  have h2 := hN b hm
  exact ⟨b.toNat, by omega, by omega, by omega⟩
end Sb
/-! TwS: rules that we lack elsewhere: a statement that is never come to; enumerate over rows, counted from any number; the sum of a row. -/
namespace Tw
open PySem PySem.Spec PyProof.Rows L2

section
variable {X : Cx} {st : Stmt} {sts : List Stmt}
theorem ps_dead : PS X st (fun _ _ _ => False) := ⟨fun _ _ _ _ _ _ no => no.elim⟩
theorem pss_dead : PSs X sts (fun _ _ _ => False) := ⟨fun _ _ _ _ _ _ no => no.elim⟩
/-- a statement and what follows, by a word M that stands between -/
def tMid (t u : TS) : TS := fun D σ H => ∃ M : L2.St → Hp → Prop, t { D with nx := M } σ H ∧ ∀ σ1 H1, M σ1 H1 → u D σ1 H1
theorem pss_mid {t u : TS} (h1 : PS X st t) (h2 : PSs X sts u) : PSs X (st :: sts) (tMid t u) := by
  refine ⟨fun pins sh σ H D I hh => ?_⟩
  obtain ⟨M, ht, hu⟩ := hh
  refine wpAny_execs_cons (thn (h1.run pins sh σ H { D with nx := M } I ht) fun fl s1 q => ?_)
  cases fl with
  | next => exact q.elim fun σ1 q => q.elim fun H1 q => h2.run pins s1 σ1 H1 D q.1 (hu σ1 H1 q.2)
  | _ => exact q
end

/-! ### a built-in class called with keywords -/
section
variable {Mo : Model} {Ar : Around} {Ex : Value → Shared → Prop} {sh : Shared} {en : Env}
theorem tyCall_kw {ps : Pos} {T : String} {a : Expr} {as : List Expr} {ks : List Keyword} {Qv : Value → Shared → Prop}
    (go : wpAny Mo Ar (spliced (backTo ps (starEach (a :: as) en))) (fun us s1 => wpAny Mo Ar (evalAll ((backToKw ps (keywordEach ks en)).map (·.2))) (fun ws s2 => wpAny Mo Ar (call (.type T) us (((backToKw ps (keywordEach ks en)).filterMap (·.1)).zip ws)) Qv Ex s2) Ex s1) Ex sh)
    (e1 : backTo ps (starEach (a :: as) en) = (false, eval a en) :: backTo ps (starEach as en) := by rfl) (e2 : (backTo ps (starEach (a :: as) en)).any (·.1) = false := by rfl)
    (e3 : (backToKw ps (keywordEach ks en)).all (·.1.isSome) = true := by rfl) (e4 : (backToKw ps (keywordEach ks en)).any (·.1.isNone) = false := by rfl) :
    wpAny Mo Ar (callWith ps (.type T) [] (backTo ps (starEach (a :: as) en)) (backToKw ps (keywordEach ks en))) Qv Ex sh := by
  have ev : wpAny Mo Ar (evalArgs (.type T) true (backTo ps (starEach (a :: as) en)) (backToKw ps (keywordEach ks en))) (fun g s1 => wpAny Mo Ar (call (.type T) ([] ++ g.pos) g.kw) Qv Ex s1) Ex sh := by
    rw [e1] at go ⊢
    exact evalArgs_kwB e3 go
  unfold callWith
  refine wpAny_bind (wpAny_holding (wpAny_mono ev (fun g s1 hg => wpAny_bind (wpAny_standAt ?_)) fun _ _ z => z))
  simp only [e2, e4, Bool.or_false]
  exact wpAny_bind (wpAny_pure (wpAny_bind (wpAny_mono hg (fun r s2 hr => wpAny_bind (wpAny_holding (wpAny_point (wpAny_pure hr)))) fun _ _ z => z)))
end

/-! ### enumerate from c on -/
/-- the list at a, counted from c -/
def IteC (K : PySem.W.Frag) (a : Addr) (c : Int) : It where
  go := fun i H => ∃ (ys : List V) (y : V), SqL K H a ys ∧ ys[i]? = some y
  yld := fun i H v H' => ∃ T y, v = .ref T ∧ H T = none ∧ H' = upd H T (.tup [.int (c + (i : Nat)), y]) ∧ ∀ ys, SqL K H a ys → ys[i]? = some y
  stop := fun i H => ∃ ys : List V, SqL K H a ys ∧ ys.length = i
/-- the tuple at a -/
def ItuC (K : PySem.W.Frag) (a : Addr) (c : Int) : It where
  go := fun i H => ∃ (ys : List V) (y : V), SqT K H a ys ∧ ys[i]? = some y
  yld := fun i H v H' => ∃ T y, v = .ref T ∧ H T = none ∧ H' = upd H T (.tup [.int (c + (i : Nat)), y]) ∧ ∀ ys, SqT K H a ys → ys[i]? = some y
  stop := fun i H => ∃ ys : List V, SqT K H a ys ∧ ys.length = i

theorem turn_enC {P : Program} {w : World} {K : PySem.W.Frag} {es : List Expr} {kx : Nat} {tp : Pos} (a e it : Addr) (c : Int) :
    Turn P w K (.Tuple es kx tp) (IteC K a c) [e, it] e (fun i h => (∃ old, IsEnum h e it (c + (i : Nat)) old) ∧ h.IsListIter it a i ∧ e ≠ it) where
  mem := by simp
  obj := by
    rintro i h ⟨⟨old, h1⟩, ⟨o, h2, _, h3⟩, _⟩ b hb
    rcases (show b = e ∨ b = it by simpa using hb) with rfl | rfl
    · exact ⟨_, h1, fun v q => nomatch q⟩
    · exact ⟨o, h2, fun v q => by rw [h3] at q; cases q⟩
  keep := by
    rintro i h h' ⟨⟨old, h1⟩, h2, h3⟩ k
    exact ⟨⟨old, k e (by simp) _ h1⟩, h2.at fun o q => k it (by simp) o q, h3⟩
  item := by
    rintro X rfl rfl rfl cm i pins s σ H E I ff ⟨⟨old, h1⟩, h2, h3⟩ ⟨ys, y, h4, h5⟩
    obtain ⟨us, rv, pl, hz⟩ := I.list h4
    obtain ⟨u, hu, ru⟩ := rv.get h5
    have le : e < s.heap.objs.size := Heap.lt_size h1
    have li : it < s.heap.objs.size := by obtain ⟨_, q, _⟩ := h2; exact Heap.lt_size q
    have na : a ≠ it := fun z => by
      obtain ⟨o, q, q2, _⟩ := h2
      obtain ⟨o3, q3, q4, _⟩ := pl.isList
      rw [← z, q3] at q
      cases q
      rw [q4] at q2
      injection q2 with q2
      exact absurd q2 (by decide)
    have nea : e ≠ a := fun z => by
      obtain ⟨o3, q3, q4, _⟩ := pl.isList
      rw [← z, show s.heap.get? e = _ from h1] at q3
      cases q3
      injection q4 with q4
      exact absurd q4 (by decide)
    have ul : i < us.toArray.size := by
      have := (List.getElem?_eq_some_iff.mp hu).1
      simpa using this
    refine wpAny_pyNext_enum_itemC (Draws.list (A := X.A.in1) (I.ok.hd cm) it a na us.toArray) h1 ⟨h2, pl.isList⟩ ul h3 (fun q => ?_) fun x h' tk hx ho st hT hsz hk => ?_
    · rcases (show e = it ∨ e = a by simpa using q) with q | q
      · exact h3 q
      · exact nea q
    obtain rfl : x = u := by
      have q : us.toArray[i]? = some x := hx
      rw [List.getElem?_toArray, hu] at q
      cases q
      rfl
    refine ⟨_, rfl, wpAny_letOwnedTupleGo_enum (s := { s with heap := h', toks := tk + 1 }) ho fun h'' he' sb => ?_⟩
    have hT2 : h''.get? s.heap.objs.size = some { cls := .type "tuple", data := .seq #[.int (c + (i : Nat)) tk, x] } := (sb.2 _ (Nat.ne_of_gt le)).trans hT
    have nw : ObjOk X.prog X.w (upd H s.heap.objs.size (.tup [.int (c + (i : Nat)), y])) h'' s.heap.objs.size (.tup [.int (c + (i : Nat)), y]) :=
      ⟨by show 2 ≤ sizeLine; decide, [.int (c + (i : Nat)) tk, x], .cons ⟨_, rfl⟩ (.cons ru .nil), ⟨_, hT2, rfl, _, rfl⟩⟩
    have I1 : Inv X pins σ (upd H s.heap.objs.size (.tup [.int (c + (i : Nat)), y])) { s with heap := h'', toks := tk + 1 } :=
      I.turnedNew (ch := [e, it]) (fun b ob hb q => (sb.2 b (fun z => hb (by simp [z]))).trans (hk b ob (fun z => hb (by simp [z])) (fun z => hb (by simp [z])) q)) ff (Nat.le_refl _) nw
    refine ⟨.ref s.heap.objs.size, _, I1, rfl, ⟨_, y, rfl, I.hok.fresh (Nat.le_refl _), rfl, fun zs hz' => by rw [I.list_inj hz' h4]; exact h5⟩, ⟨⟨x, ?_⟩, st.1.at fun o q => (sb.2 it h3.symm).trans q, h3⟩, fun b hb => ?_⟩
    · rw [show (c + ((i + 1 : Nat) : Int)) = c + (i : Int) + 1 by omega]
      exact he'
    · have lb : b < s.heap.objs.size := by
        rcases (show b = e ∨ b = it by simpa using hb) with rfl | rfl
        · exact le
        · exact li
      rw [upd_ne (Nat.ne_of_lt lb)]
      exact (ff b hb).1
  done := by
    rintro X rfl rfl rfl cm i pins s σ H E I ff ⟨⟨old, h1⟩, h2, h3⟩ ⟨ys, h4, h5⟩
    obtain ⟨us, rv, pl, hz⟩ := I.list h4
    obtain ⟨f0, f1, f2, f3, f4, f5⟩ := ff it (by simp)
    have na : a ≠ it := fun z => by
      obtain ⟨o, q, q2, _⟩ := h2
      obtain ⟨o3, q3, q4, _⟩ := pl.isList
      rw [← z, q3] at q
      cases q
      rw [q4] at q2
      injection q2 with q2
      exact absurd q2 (by decide)
    have hl := rv.length
    have hn : us.toArray.size = i := by
      rw [List.size_toArray]
      omega
    have h2' : s.heap.IsListIter it a us.toArray.size := by
      rw [hn]
      exact h2
    exact wpAny_pyNext_enum_endD (Draws.list (A := X.A.in1) (I.ok.hd cm) it a na us.toArray) h1 ⟨h2', pl.isList⟩ fun h' eb => ⟨rfl, I.turned (t' := s.toks) (fun b o hb q => eb b o hb q) f0 f1 f3 f4 f5⟩
  self := by
    rintro A i s Q E ⟨⟨old, h1⟩, _⟩ h
    exact wpAny_pyIter_enum h1 h
theorem turn_enT {P : Program} {w : World} {K : PySem.W.Frag} {es : List Expr} {kx : Nat} {tp : Pos} (a e it : Addr) (c : Int) :
    Turn P w K (.Tuple es kx tp) (ItuC K a c) [e, it] e (fun i h => (∃ old, IsEnum h e it (c + (i : Nat)) old) ∧ h.IsTupleIter it a i ∧ e ≠ it) where
  mem := by simp
  obj := by
    rintro i h ⟨⟨old, h1⟩, ⟨o, h2, _, h3⟩, _⟩ b hb
    rcases (show b = e ∨ b = it by simpa using hb) with rfl | rfl
    · exact ⟨_, h1, fun v q => nomatch q⟩
    · exact ⟨o, h2, fun v q => by rw [h3] at q; cases q⟩
  keep := by
    rintro i h h' ⟨⟨old, h1⟩, h2, h3⟩ k
    exact ⟨⟨old, k e (by simp) _ h1⟩, h2.at fun o q => k it (by simp) o q, h3⟩
  item := by
    rintro X rfl rfl rfl cm i pins s σ H E I ff ⟨⟨old, h1⟩, h2, h3⟩ ⟨ys, y, h4, h5⟩
    obtain ⟨us, rv, pl, hz⟩ := I.tuple h4
    obtain ⟨u, hu, ru⟩ := rv.get h5
    have le : e < s.heap.objs.size := Heap.lt_size h1
    have li : it < s.heap.objs.size := by obtain ⟨_, q, _⟩ := h2; exact Heap.lt_size q
    have na : a ≠ it := fun z => by
      obtain ⟨o, q, q2, _⟩ := h2
      obtain ⟨o3, q3, q4, _⟩ := pl
      rw [← z, q3] at q
      cases q
      rw [q4] at q2
      injection q2 with q2
      exact absurd q2 (by decide)
    have nea : e ≠ a := fun z => by
      obtain ⟨o3, q3, q4, _⟩ := pl
      rw [← z, show s.heap.get? e = _ from h1] at q3
      cases q3
      injection q4 with q4
      exact absurd q4 (by decide)
    have ul : i < us.toArray.size := by
      have := (List.getElem?_eq_some_iff.mp hu).1
      simpa using this
    refine wpAny_pyNext_enum_itemC (Draws.tuple (A := X.A.in1) (I.ok.hd cm) it a na us.toArray) h1 ⟨h2, pl⟩ ul h3 (fun q => ?_) fun x h' tk hx ho st hT hsz hk => ?_
    · rcases (show e = it ∨ e = a by simpa using q) with q | q
      · exact h3 q
      · exact nea q
    obtain rfl : x = u := by
      have q : us.toArray[i]? = some x := hx
      rw [List.getElem?_toArray, hu] at q
      cases q
      rfl
    refine ⟨_, rfl, wpAny_letOwnedTupleGo_enum (s := { s with heap := h', toks := tk + 1 }) ho fun h'' he' sb => ?_⟩
    have hT2 : h''.get? s.heap.objs.size = some { cls := .type "tuple", data := .seq #[.int (c + (i : Nat)) tk, x] } := (sb.2 _ (Nat.ne_of_gt le)).trans hT
    have nw : ObjOk X.prog X.w (upd H s.heap.objs.size (.tup [.int (c + (i : Nat)), y])) h'' s.heap.objs.size (.tup [.int (c + (i : Nat)), y]) :=
      ⟨by show 2 ≤ sizeLine; decide, [.int (c + (i : Nat)) tk, x], .cons ⟨_, rfl⟩ (.cons ru .nil), ⟨_, hT2, rfl, _, rfl⟩⟩
    have I1 : Inv X pins σ (upd H s.heap.objs.size (.tup [.int (c + (i : Nat)), y])) { s with heap := h'', toks := tk + 1 } :=
      I.turnedNew (ch := [e, it]) (fun b ob hb q => (sb.2 b (fun z => hb (by simp [z]))).trans (hk b ob (fun z => hb (by simp [z])) (fun z => hb (by simp [z])) q)) ff (Nat.le_refl _) nw
    refine ⟨.ref s.heap.objs.size, _, I1, rfl, ⟨_, y, rfl, I.hok.fresh (Nat.le_refl _), rfl, fun zs hz' => by rw [I.tuple_inj hz' h4]; exact h5⟩, ⟨⟨x, ?_⟩, st.1.at fun o q => (sb.2 it h3.symm).trans q, h3⟩, fun b hb => ?_⟩
    · rw [show (c + ((i + 1 : Nat) : Int)) = c + (i : Int) + 1 by omega]
      exact he'
    · have lb : b < s.heap.objs.size := by
        rcases (show b = e ∨ b = it by simpa using hb) with rfl | rfl
        · exact le
        · exact li
      rw [upd_ne (Nat.ne_of_lt lb)]
      exact (ff b hb).1
  done := by
    rintro X rfl rfl rfl cm i pins s σ H E I ff ⟨⟨old, h1⟩, h2, h3⟩ ⟨ys, h4, h5⟩
    obtain ⟨us, rv, pl, hz⟩ := I.tuple h4
    obtain ⟨f0, f1, f2, f3, f4, f5⟩ := ff it (by simp)
    have na : a ≠ it := fun z => by
      obtain ⟨o, q, q2, _⟩ := h2
      obtain ⟨o3, q3, q4, _⟩ := pl
      rw [← z, q3] at q
      cases q
      rw [q4] at q2
      injection q2 with q2
      exact absurd q2 (by decide)
    have hl := rv.length
    have hn : us.toArray.size = i := by
      rw [List.size_toArray]
      omega
    have h2' : s.heap.IsTupleIter it a us.toArray.size := by
      rw [hn]
      exact h2
    exact wpAny_pyNext_enum_endD (Draws.tuple (A := X.A.in1) (I.ok.hd cm) it a na us.toArray) h1 ⟨h2', pl⟩ fun h' eb => ⟨rfl, I.turned (t' := s.toks) (fun b o hb q => eb b o hb q) f0 f1 f3 f4 f5⟩
  self := by
    rintro A i s Q E ⟨⟨old, h1⟩, _⟩ h
    exact wpAny_pyIter_enum h1 h

/-! ### enumerate(v), enumerate(v, start=k): how the walk begins -/
set_option maxHeartbeats 1000000 in
theorem meets_en1 {v : Value} {o : Obj} {Hh : Heap → Prop} (B : Begins v o Hh) :
    Meets (Builtin.«enumerate.__new__» ⟨[.type "enumerate", v], []⟩) (fun _ R z => Hh z.heap ∧
      R (.ok (.ret (.ref (z.heap.push o).objs.size))) { z with heap := (z.heap.push o).push { cls := .type "enumerate", data := .fields #[.none, .bool false, .ref z.heap.objs.size, rawInt 0, .none, .none] } }) := by
  refine .of_wp fun pg wo Ar R z hz => ?_
  obtain ⟨hp, g, d, tk, os⟩ := z
  obtain ⟨h1, h⟩ := hz
  have hsub := sub_enumerate
  have begin1 : ∀ {A' : Around} {E' : Value → Shared → Prop} {Q' : Value → Shared → Prop}, Q' (.ref hp.objs.size) ⟨hp.push o, g, d, tk, os⟩ → wpAny (model pg wo) A' (pyIter v) Q' E' ⟨hp, g, d, tk, os⟩ :=
    fun q => B.iter pg wo _ _ ⟨hp, g, d, tk, os⟩ _ h1 q
  wp_walk using begin1
  refine wpAny_stack_any fun stk => wpAny_pure ?_
  split
  · rename_i c _ _ _ _ _
    cases hc : (c == Value.type "enumerate") <;> (wp_walk using begin1; exact ⟨_, rfl, h⟩)
  · wp_walk using begin1
    exact ⟨_, rfl, h⟩
section
variable {pg : Program} {wo : World} {Ar : Around} {Ex : Value → Shared → Prop} {sh : Shared}
theorem en1_begins {v : Value} {o : Obj} {Hh : Heap → Prop} {Q : Value → Shared → Prop} (B : Begins v o Hh) (h1 : Hh sh.heap)
    (h : ∀ h', IsEnum h' (sh.heap.objs.size + 1) sh.heap.objs.size 0 .none → h'.get? sh.heap.objs.size = some o → (∀ b u, sh.heap.get? b = some u → h'.get? b = some u) → Q (.ref (sh.heap.objs.size + 1)) { sh with heap := h' }) :
    wpAny (model pg wo) Ar (call (.type "enumerate") [v]) Q Ex sh := by
  refine callType_new F.called_enumerate (by decide) (F.typeCall_enumerate_1 _) (F.newCall_enumerate_1 _) (fun obj => F.args_object_init_2 obj _) F.entry_enumerate_new (meets_en1 B) ⟨h1, ?_⟩
  have sz : (sh.heap.push o).objs.size = sh.heap.objs.size + 1 := Heap.size_push ..
  show _ ∧ _
  rw [sz]
  have ie : IsEnum ((sh.heap.push o).push { cls := .type "enumerate", data := .fields #[.none, .bool false, .ref sh.heap.objs.size, rawInt 0, .none, .none] }) (sh.heap.objs.size + 1) sh.heap.objs.size 0 .none := by
    have q := Heap.get?_push_size (sh.heap.push o) (o := { cls := .type "enumerate", data := .fields #[.none, .bool false, .ref sh.heap.objs.size, rawInt 0, .none, .none] }) rfl
    rw [sz] at q
    exact q
  exact ⟨⟨_, ie, rfl⟩, h _ ie (Heap.get?_push_of_some _ (Heap.get?_push_size _ B.free)) fun b u x => Heap.get?_push_of_some _ (Heap.get?_push_of_some _ x)⟩
end

/-- a row at a, list or tuple -/
def SqR (K : PySem.W.Frag) (H : Hp) (a : Addr) (xs : List V) : Prop := SqL K H a xs ∨ SqT K H a xs
theorem SqR.same {K : PySem.W.Frag} {H H' : Hp} {a : Addr} {xs : List V} (e : Same H H') (h : SqR K H a xs) : SqR K H' a xs := by
  rcases h with h | h
  · exact .inl (e.seq h)
  · exact .inr (Same.tupq e h)
/-- enumerate of a list or a tuple, counted from c: as one iterator -/
def ItrC (K : PySem.W.Frag) (a : Addr) (c : Int) (tup : Bool) : It := if tup = true then ItuC K a c else IteC K a c
def iEnC (K : PySem.W.Frag) (ta : TA) : TI := fun σ H R => ta σ H fun vs H1 => ∃ a xs, vs = [.ref a] ∧ SqR K H1 a xs ∧ ∀ b, (b = true → SqT K H1 a xs) → (b = false → SqL K H1 a xs) → R (ItrC K a 0 b) H1
def iEnK (K : PySem.W.Frag) (ta tk : TA) : TI := fun σ H R => ta σ H fun vs H1 => tk σ H1 fun zs H2 => ∃ a c xs, vs = [.ref a] ∧ zs = [.int c] ∧ (-(2 ^ 63) ≤ c ∧ c < 2 ^ 63) ∧ SqR K H2 a xs ∧ ∀ b, (b = true → SqT K H2 a xs) → (b = false → SqL K H2 a xs) → R (ItrC K a c b) H2
section
variable {X : Cx} {pins : List (Addr × Obj)} {σ : L2.St} {H : Hp} {s : Shared} {R : It → Hp → Prop} {es : List Expr} {kx : Nat} {tp : Pos}
theorem en_pie {a : Addr} {c : Int} {b : Bool} {h' : Heap} (I : Inv X pins σ H s) (hne : a < s.heap.objs.size)
    (he : IsEnum h' (s.heap.objs.size + 1) s.heap.objs.size c .none) (hi : if b = true then h'.IsTupleIter s.heap.objs.size a 0 else h'.IsListIter s.heap.objs.size a 0) (hk : ∀ z u, s.heap.get? z = some u → h'.get? z = some u)
    (q : R (ItrC X.K a c b) H) : wpAny (model X.prog X.w) X.A (pyIter (.ref (s.heap.objs.size + 1))) (PIE X pins σ (.Tuple es kx tp) R) X.xe { s with heap := h' } := by
  refine wpAny_pyIter_enum he ?_
  have I2 : Inv X pins σ H { s with heap := h' } := I.kept (t' := s.toks) hk
  have fp : ∀ z ∈ [s.heap.objs.size + 1, s.heap.objs.size], FpOk X pins H z := fun z hz => by
    have le : s.heap.objs.size ≤ z := by
      rcases (show z = s.heap.objs.size + 1 ∨ z = s.heap.objs.size by simpa using hz) with r | r <;> omega
    exact I.fpOk le (I.hok.fresh le)
  have he0 : IsEnum h' (s.heap.objs.size + 1) s.heap.objs.size (c + ((0 : Nat) : Int)) .none := by
    rw [show c + ((0 : Nat) : Int) = c by omega]
    exact he
  cases b with
  | true => exact ⟨s.heap.objs.size + 1, [s.heap.objs.size + 1, s.heap.objs.size], _, ItuC X.K a c, H, rfl, I2, turn_enT a _ _ c, ⟨⟨.none, he0⟩, hi, Nat.succ_ne_self _⟩, fp, q⟩
  | false => exact ⟨s.heap.objs.size + 1, [s.heap.objs.size + 1, s.heap.objs.size], _, IteC X.K a c, H, rfl, I2, turn_enC a _ _ c, ⟨⟨.none, he0⟩, hi, Nat.succ_ne_self _⟩, fp, q⟩
theorem pi_en {e : Expr} {ta : TA} {p pos : Pos} (hg : Gl X "enumerate") (hm : X.mg "enumerate" = none) (ha : PA X [e] ta) (hs : starEach [e] X.env = [(false, eval e X.env)] := by rfl) :
    PI X (.Tuple es kx tp) (.Call (.Name "enumerate" p) [e] [] pos) (iEnC X.K ta) := by
  refine ⟨fun pins s σ H R I h => Call_ (ld_blt I hg hm boot_enumerate (PyProof.Rows.callWith_type1 (thn (ha.run pos pins s σ H _ I h) fun us s1 hh => ?_) hs rfl))⟩
  obtain ⟨vs, H1, I1, rv, a, xs, rfl, hr, q⟩ := hh
  rw [Vals.ref1 rv]
  rcases hr with hr | hr
  · obtain ⟨its, _, pl, _⟩ := I1.list hr
    have lt : a < s1.heap.objs.size := by obtain ⟨_, z, _⟩ := pl.isList; exact Heap.lt_size z
    exact en1_begins (begins_list a its.toArray) pl.isList fun h' he hi hk => en_pie (b := false) I1 lt he ⟨_, hi, rfl, rfl⟩ hk (q false (fun z => nomatch z) fun _ => hr)
  · obtain ⟨its, _, pl, _⟩ := I1.tuple hr
    have lt : a < s1.heap.objs.size := by obtain ⟨_, z, _⟩ := pl; exact Heap.lt_size z
    exact en1_begins (begins_tuple a its.toArray) pl fun h' he hi hk => en_pie (b := true) I1 lt he ⟨_, hi, rfl, rfl⟩ hk (q true (fun _ => hr) fun z => nomatch z)
theorem pi_enK {e : Expr} {ta tk : TA} {p pos : Pos} {kws : List Keyword} (hg : Gl X "enumerate") (hm : X.mg "enumerate" = none) (ha : PA X [e] ta) (hk : PK X kws tk) (hks : (backToKw pos (keywordEach kws X.env)).filterMap (·.1) = [Str.ofString "start"] := by rfl)
    (e1 : backTo pos (starEach [e] X.env) = (false, eval e X.env) :: backTo pos (starEach [] X.env) := by rfl) (e2 : (backTo pos (starEach [e] X.env)).any (·.1) = false := by rfl)
    (e3 : (backToKw pos (keywordEach kws X.env)).all (·.1.isSome) = true := by rfl) (e4 : (backToKw pos (keywordEach kws X.env)).any (·.1.isNone) = false := by rfl) :
    PI X (.Tuple es kx tp) (.Call (.Name "enumerate" p) [e] kws pos) (iEnK X.K ta tk) := by
  refine ⟨fun pins s σ H R I h => wpAny_Call_Name_kw (ld_blt I hg hm boot_enumerate (tyCall_kw (thn (ha.run pos pins s σ H _ I h) fun us s1 ⟨vs, H1, I1, r1, q1⟩ => thn (hk.run pos pins s1 σ H1 _ I1 q1) fun ws s2 hh => ?_) e1 e2 e3 e4))⟩
  obtain ⟨zs, H2, I2, r2, a, c, xs, rfl, rfl, hc, hr, q⟩ := hh
  rw [hks, Vals.ref1 r1]
  cases r2 with
  | cons r rr =>
    cases rr
    obtain ⟨t, rfl⟩ := r
    show wpAny _ _ (call (.type "enumerate") [.ref a] [(Str.ofString "start", .int c t)]) _ _ _
    rcases hr with hr | hr
    · obtain ⟨its, _, pl, _⟩ := I2.list hr
      have lt : a < s2.heap.objs.size := by obtain ⟨_, z, _⟩ := pl.isList; exact Heap.lt_size z
      exact enum_begins_start (begins_list a its.toArray) pl.isList hc.1 hc.2 fun h' he hi _ hk => en_pie (b := false) I2 lt he ⟨_, hi, rfl, rfl⟩ hk (q false (fun z => nomatch z) fun _ => hr)
    · obtain ⟨its, _, pl, _⟩ := I2.tuple hr
      have lt : a < s2.heap.objs.size := by obtain ⟨_, z, _⟩ := pl; exact Heap.lt_size z
      exact enum_begins_start (begins_tuple a its.toArray) pl hc.1 hc.2 fun h' he hi _ hk => en_pie (b := true) I2 lt he ⟨_, hi, rfl, rfl⟩ hk (q true (fun _ => hr) fun z => nomatch z)
end
theorem walk_enC {K : PySem.W.Frag} {a : Addr} {xs : List V} {c : Int} {b : Bool} : Walk (ItrC K a c b) xs.length (fun H => if b = true then SqT K H a xs else SqL K H a xs) (YPair (fun i => some (.int (c + (i : Nat)))) (fun i => xs[i]?)) := by
  cases b with
  | true =>
    refine ⟨fun i _ hi q => ⟨xs, xs[i], q, by simp [hi]⟩, fun _ q => ⟨xs, q, rfl⟩, fun i H v H' _ q y => ?_⟩
    obtain ⟨T, x, y1, y2, y3, y4⟩ := y
    exact ⟨T, .int (c + (i : Nat)), x, y1, y2, y3, rfl, y4 xs q⟩
  | false =>
    refine ⟨fun i _ hi q => ⟨xs, xs[i], q, by simp [hi]⟩, fun _ q => ⟨xs, q, rfl⟩, fun i H v H' _ q y => ?_⟩
    obtain ⟨T, x, y1, y2, y3, y4⟩ := y
    exact ⟨T, .int (c + (i : Nat)), x, y1, y2, y3, rfl, y4 xs q⟩

/-! ### sum of a row -/
def rSumR (K : PySem.W.Frag) : List V → Hp → VK → Prop := fun vs H Q => ∃ (a : Addr) (ns : List Int), vs = [V.ref a] ∧ SqR K H a (ns.map V.int) ∧ Q (.int ns.sum) H
section
variable {X : Cx}
theorem tup_sum {pg : Program} {wo : World} {Ar : Around} {Ex : Value → Shared → Prop} {sh : Shared} {l : Addr} {its : List Value} {ns : List Int} {Q : Value → Shared → Prop} (hh : Ar.handled = none) (hl : sh.heap.IsTuple l its.toArray) (hi : IntsAre its ns)
    (h : ∀ h' tk t', (∀ b o, sh.heap.get? b = some o → h'.get? b = some o) → Q (.int ns.sum t') { sh with heap := h', toks := tk }) : wpAny (model pg wo) Ar (call (.builtin "sum") [.ref l]) Q Ex sh := by
  obtain ⟨xs, e⟩ := hi.allInts.items
  have hn : numsOf (intItems xs).toList = ns := by
    rw [← e]
    exact hi.numsOf
  rw [nums_intItems] at hn
  rw [e] at hl
  have lt : l < sh.heap.objs.size := by obtain ⟨_, z, _⟩ := hl; exact Heap.lt_size z
  refine call_sum_walkG (wpAny_pyIter_tuple hl ?_)
  have t1 : (sh.heap.push { cls := .type "tuple_iterator", data := .fields #[.ref l, .int 0 0] }).IsTupleIter sh.heap.objs.size l 0 := ⟨_, Heap.get?_push_size _ rfl, rfl, rfl⟩
  refine ⟨_, [_, l], [_], _, _, _, numAt xs, rfl, Walks.tuple (A := Ar.in1) hh _ l (Nat.ne_of_lt lt) (intItems xs), ⟨t1, hl.push _⟩, fun b hb => ?_, fun _ _ => intItems_at, fun h' tk t' hk => ?_⟩
  · show b < (sh.heap.push _).objs.size
    rw [Heap.size_push]
    rcases (show b = sh.heap.objs.size ∨ b = l by simpa using hb) with r | r
    · rw [r]; exact Nat.lt_succ_self _
    · rw [r]; exact Nat.lt_succ_of_lt lt
  · have kept : ∀ b o, sh.heap.get? b = some o → h'.get? b = some o := fun b o q => by
      refine hk b o (fun m => ?_) (Heap.get?_push_of_some _ q)
      have z : b = sh.heap.objs.size := by simpa using m
      exact absurd (z ▸ Heap.lt_size q) (Nat.lt_irrefl _)
    have fin := h h' tk t' kept
    rw [preSum_eq]
    have e3 : (intItems xs).size = xs.size := by simp [intItems]
    rw [e3, List.take_of_length_le (by simp), hn]
    exact fin
theorem cr_sumR (cm : X.calm = true) : CallR X (.builtin "sum") (rSumR X.K) := by
  rintro pins s σ H vs us Q I r ⟨a, ns, rfl, hs, q⟩
  rw [Vals.ref1 r]
  rcases hs with hs | hs
  · obtain ⟨its, rv, hl, _⟩ := I.list hs
    exact sum_raw (I.ok.hd cm) hl.isList rv.ints fun h' tk t' hk => ⟨.int _, H, I.kept hk, ⟨_, rfl⟩, q⟩
  · obtain ⟨its, rv, hl, _⟩ := I.tuple hs
    exact tup_sum (I.ok.hd cm) hl rv.ints fun h' tk t' hk => ⟨.int _, H, I.kept hk, ⟨_, rfl⟩, q⟩
end
end Tw
/-! TwO: methods and makings by name; rows; the law's state of draws; what is told of a stream, in the heap. -/
namespace Tw
open PySem PySem.Spec PyProof.Rows L2 Sb

/-- no built-in's name is the module's own -/
structure Bt (mg : Str → Option Value) : Prop where
  n_isinstance : mg "isinstance" = none
  n_int : mg "int" = none
  n_bool : mg "bool" = none
  n_str : mg "str" = none
  n_list : mg "list" = none
  n_tuple : mg "tuple" = none
  n_len : mg "len" = none
  n_all : mg "all" = none
  n_sum : mg "sum" = none
  n_range : mg "range" = none
  n_zip : mg "zip" = none
  n_enumerate : mg "enumerate" = none
def NoB (K : PySem.W.Frag) : Prop := ∀ x ∈ (["isinstance", "int", "bool", "str", "list", "tuple", "len", "all", "sum", "range", "zip", "enumerate"] : List Str), PySem.W.nsIn K mainGlobals x = some none
theorem bt_mk {K : PySem.W.Frag} {h : Heap} {mg : Str → Option Value} (X : K.In h) (G : h.Ns mainGlobals mg) (n : NoB K) : Bt mg := by
  constructor <;> exact PySem.W.mg_none_of X G (n _ (by simp))

/-! ### methods -/
def MethIn (K : PySem.W.Frag) (C : Addr) (m q : Str) (st : Stmt) : Prop := ∃ (f : Addr) (oc : Value) (od an : Option Addr) (osl : Array (Option Value)) (kV dc pm cd ct : Value),
  PySem.W.findIn K (.ref C) m = some (some (.ref f)) ∧ PySem.W.isFn K (.ref f) = true ∧ K.lookup f = some ⟨oc, od, .func (PySem.W.fnOf m q (defArgs st) (defBody st) (defScope st) .none kV dc pm an cd ct), osl⟩ ∧ PySem.W.codeIn K cd q = true ∧ PySem.W.keepIn K (.ref f) = true
section
variable {P : Program} {w : World} {K : PySem.W.Frag} {mg : Str → Option Value} {base : Heap} {C : Addr} {m q : Str} {st : Stmt} {ps : List Str} {k : Nat} {sp : Sp}
theorem methIn_mk {f : Addr} {oc : Value} {od an : Option Addr} {osl : Array (Option Value)} {kV dc pm cd ct : Value} (a : PySem.W.findIn K (.ref C) m = some (some (.ref f))) (i : PySem.W.isFn K (.ref f) = true)
    (l : K.lookup f = some ⟨oc, od, .func (PySem.W.fnOf m q (defArgs st) (defBody st) (defScope st) .none kV dc pm an cd ct), osl⟩) (c : PySem.W.codeIn K cd q = true) (kp : PySem.W.keepIn K (.ref f) = true) : MethIn K C m q st := ⟨f, oc, od, an, osl, kV, dc, pm, cd, ct, a, i, l, c, kp⟩
structure MCal (P : Program) (w : World) (K : PySem.W.Frag) (mg : Str → Option Value) (base : Heap) (C : Addr) (k : Nat) (m : Str) (ps : List Str) (sp : Sp) : Prop where
  ex : ∃ (f : Addr) (fd : FuncData), Meth K C m f ∧ FnOk P w K mg base CX0 k f fd ps sp ∧ Binds K fd ps []
theorem mcal_mk (D : MethIn K C m q st) (b : ∀ (kV doc pm : Value) (an : Option Addr) (cdv ct : Value) (us : List Value), us.length = ps.length → bindArgs (PySem.W.fnOf m q (defArgs st) (defBody st) (defScope st) .none kV doc pm an cdv ct) ⟨us, []⟩ = pure (ps.zip us))
    (ok : ∀ (f : Addr) (fd : FuncData), Fun K m q st f fd → FnOk P w K mg base CX0 k f fd ps sp) : MCal P w K mg base C k m ps sp := by
  obtain ⟨f, oc, od, an, osl, kV, dc, pm, cd, ct, a, i, l, c, kp⟩ := D
  have F := fun_mk (st := st) l c kp
  exact ⟨f, _, ⟨a, i, kp⟩, ok f _ F, F.binds b⟩
/-- C(), C's __init__ with self alone -/
structure MkC (P : Program) (w : World) (K : PySem.W.Frag) (mg : Str → Option Value) (base : Heap) (C : Addr) (k : Nat) (x : Str) (sp : Sp) : Prop where
  ex : ∃ (f : Addr) (fd : FuncData), Mk K C f ∧ FnOk P w K mg base CX0 k f fd ["self"] sp ∧ Binds K fd ["self"] []
  gC : mg x = some (.ref C)
theorem mkC_mk {h : Heap} {x : Str} (X : K.In h) (G : h.Ns mainGlobals mg) (g : PySem.W.nsIn K mainGlobals x = some (some (.ref C))) (D : MethIn K C "__init__" q st) (mk : PySem.W.makesIn K C = true) (kc : PySem.W.keepIn K (.ref C) = true)
    (b : ∀ (kV doc pm : Value) (an : Option Addr) (cdv ct : Value) (us : List Value), us.length = (["self"] : List Str).length → bindArgs (PySem.W.fnOf "__init__" q (defArgs st) (defBody st) (defScope st) .none kV doc pm an cdv ct) ⟨us, []⟩ = pure ((["self"] : List Str).zip us))
    (ok : ∀ (f : Addr) (fd : FuncData), Fun K "__init__" q st f fd → FnOk P w K mg base CX0 k f fd ["self"] sp) : MkC P w K mg base C k x sp := by
  obtain ⟨f, oc, od, an, osl, kV, dc, pm, cd, ct, a, i, l, c, kp⟩ := D
  have F := fun_mk (st := st) l c kp
  exact ⟨⟨f, _, ⟨mk, a, i, kc⟩, ok f _ F, F.binds b⟩, PySem.W.mg_of X G g⟩
end
section
variable {X : Cx} {j k : Nat} {C : Addr} {m x : Str} {ps : List Str} {sp : Sp} {o e : Expr} {es : List Expr} {to : TE} {t : TA} {pos apos p : Pos}
theorem pe_mcal {pl : Sem Bool} (M : MCal X.prog X.w X.K X.mg X.base C k m ps sp) (c : Cls X.K C) (hr : Room j X.A) (hk : k ≤ j) (ho : PE X o to) (ha : PA X (e :: es) t)
    (hst : starEach (e :: es) X.env = (false, eval e X.env) :: starEach es X.env := by rfl) (hpl : (backTo pos (starEach es X.env)).any (·.1) = false := by rfl)
    (ht : eval (.Call (.Attribute o m apos) (e :: es) [] pos) X.env = (do
      let ov ← eval o X.env
      standAt apos.atName
      let (f, first) ← holding [ov] (getMethod ov m pl)
      callWith pos f first (backTo pos (starEach (e :: es) X.env)) (backToKw pos (keywordEach [] X.env))) := by rfl) : PE X (.Call (.Attribute o m apos) (e :: es) [] pos) (tMeth C m sp [] E0 to t) := by
  obtain ⟨f, fd, hm, F, b⟩ := M.ex
  exact pe_meth ho c hm F (hr.mono hk) b .nil pass0 ha hst hpl ht
theorem pe_mcal0 {pl : Sem Bool} (M : MCal X.prog X.w X.K X.mg X.base C k m ps sp) (c : Cls X.K C) (hr : Room j X.A) (hk : k ≤ j) (ho : PE X o to)
    (ht : eval (.Call (.Attribute o m apos) [] [] pos) X.env = (do
      let ov ← eval o X.env
      standAt apos.atName
      let (f, first) ← holding [ov] (getMethod ov m pl)
      callWith pos f first (backTo pos (starEach [] X.env)) (backToKw pos (keywordEach [] X.env))) := by rfl) : PE X (.Call (.Attribute o m apos) [] [] pos) (tMeth C m sp [] E0 to tNil) := by
  obtain ⟨f, fd, hm, F, b⟩ := M.ex
  exact pe_meth0 ho c hm F (hr.mono hk) b .nil pass0 ht
theorem pe_mk0 (M : MkC X.prog X.w X.K X.mg X.base C k x sp) (hr : Room j X.A) (hk : k + 1 ≤ j) (hg : Gl X x) (hdb : (x == ("__debug__" : Str)) = false := by decide) : PE X (.Call (.Name x p) [] [] pos) (tMake C sp [] E0 tNil) := by
  obtain ⟨f, fd, hm, F, b⟩ := M.ex
  exact pe_make0 hm F (hr.mono hk) hg M.gC b .nil pass0 hdb
/-- either of two readings of what is walked -/
theorem pi_or {tg l : Expr} {a b : TI} (ha : PI X tg l a) (hb : PI X tg l b) : PI X tg l (fun σ H R => a σ H R ∨ b σ H R) := ⟨fun pins s σ H R I h => h.elim (ha.run pins s σ H R I) (hb.run pins s σ H R I)⟩
theorem pe_or2 {l : Expr} {a b : TE} (ha : PE X l a) (hb : PE X l b) : PE X l (fun σ H Q => a σ H Q ∨ b σ H Q) := ⟨fun pins s σ H Q I h => h.elim (ha.run pins s σ H Q I) (hb.run pins s σ H Q I)⟩
end

/-! ### rows -/
abbrev iV (xs : List Int) : List V := xs.map V.int
/-- the row at a -/
def Rw (H : Hp) (a : Addr) (xs : List V) : Prop := H a = some (.lst xs) ∨ H a = some (.tup xs)
theorem Rw.sq {K : PySem.W.Frag} {H : Hp} {a : Addr} {xs : List V} (h : Rw H a xs) : SqR K H a xs := h.elim (fun h => .inl (SqL.of h)) (fun h => .inr (SqT.of h))
theorem Rw.same {H H' : Hp} {a : Addr} {xs : List V} (h : Rw H a xs) (s : Same H H') : Rw H' a xs := h.elim (fun h => .inl (s _ _ h)) (fun h => .inr (s _ _ h))
theorem iV_len (xs : List Int) : (iV xs).length = xs.length := by simp
theorem iV_at {xs : List Int} {i : Nat} {v : V} (h : (iV xs)[i]? = some v) : ∃ b, xs[i]? = some b ∧ v = .int b := by
  rw [List.getElem?_map] at h
  cases e : xs[i]? with
  | none => rw [e] at h; cases h
  | some b => rw [e] at h; cases h; exact ⟨b, rfl, rfl⟩
theorem iV_atI {xs : List Int} {i : Nat} {b : Int} (h : xs[i]? = some b) : atI (iV xs) (i : Int) = some (.int b) := atI_nat (by rw [List.getElem?_map, h]; rfl)
theorem iV_append (xs ys : List Int) : iV (xs ++ ys) = iV xs ++ iV ys := List.map_append
theorem dp_ints {K : PySem.W.Frag} {H : Hp} : ∀ xs : List Int, DpAll K H (iV xs) (xs.map PyData.int)
  | [] => .nil
  | x :: r => .cons (.int x) (dp_ints r)
theorem lay_ints : ∀ xs : List Int, PyData.canLayAll0 (xs.map PyData.int) = true
  | [] => rfl
  | x :: r => by
    show (true && PyData.canLayAll0 (r.map PyData.int)) = true
    rw [lay_ints r]
    rfl
theorem dep_ints : ∀ xs : List Int, PyData.depthAll (xs.map PyData.int) = 0
  | [] => rfl
  | x :: r => by
    show max 0 (PyData.depthAll (r.map PyData.int)) = 0
    rw [dep_ints r]
    rfl
theorem sh_ints (xs : List Int) : SeqAt.shaped (.list (xs.map PyData.int)) = true := by
  unfold SeqAt.shaped
  rw [Bool.and_eq_true]
  refine ⟨lay_ints xs, decide_eq_true ?_⟩
  show PyData.depthAll _ + 1 ≤ 64
  rw [dep_ints]
  decide
theorem eqv_ints : ∀ xs ys : List Int, PyData.eqv (.list (xs.map PyData.int)) (.list (ys.map PyData.int)) = decide (xs = ys) := by
  have go : ∀ xs ys : List Int, PyData.eqvAll (xs.map PyData.int) (ys.map PyData.int) = decide (xs = ys) := by
    intro xs
    induction xs with
    | nil =>
      intro ys
      cases ys with
      | nil => rfl
      | cons y r => simp [PyData.eqvAll]
    | cons x r ih =>
      intro ys
      cases ys with
      | nil => simp [PyData.eqvAll]
      | cons y t =>
        simp only [List.map_cons, PyData.eqvAll, ih]
        by_cases e : x = y
        · subst e
          simp [PyData.eqv]
        · simp [PyData.eqv, e]
  intro xs ys
  have e := go xs ys
  simpa only [PyData.eqv] using e
theorem dpL {K : PySem.W.Frag} {H : Hp} {a : Addr} {xs : List Int} (h : H a = some (.lst (iV xs))) : Dp K H (.ref a) (.list (xs.map PyData.int)) := .lst (SqL.of h) (dp_ints xs)

/-! ### the law's state: a list of the numbers that are left, and three numbers -/
structure IsSt (H : Hp) (a b : Addr) : Prop where
  ne : a ≠ b
  ex : ∃ (ns : List Int) (x y z : Int), H a = some (.lst [.ref b, .int x, .int y, .int z]) ∧ H b = some (.lst (iV ns))
/-- all but the state stays -/
structure Fs (a b : Addr) (H H' : Hp) : Prop where
  keep : ∀ c o, c ≠ a → c ≠ b → H c = some o → H' c = some o
  st : IsSt H' a b
theorem IsSt.same {H H' : Hp} {a b : Addr} (h : IsSt H a b) (s : Same H H') : IsSt H' a b := by
  obtain ⟨ne, ns, x, y, z, e, f⟩ := h
  exact ⟨ne, ns, x, y, z, s _ _ e, s _ _ f⟩
theorem Fs.refl {H : Hp} {a b : Addr} (h : IsSt H a b) : Fs a b H H := ⟨fun _ _ _ _ e => e, h⟩
theorem Fs.trans {a b : Addr} {H H1 H2 : Hp} (f : Fs a b H H1) (g : Fs a b H1 H2) : Fs a b H H2 := ⟨fun c o n m e => g.keep c o n m (f.keep c o n m e), g.st⟩
theorem Fs.same {a b : Addr} {H H1 H2 : Hp} (f : Fs a b H H1) (g : Same H1 H2) : Fs a b H H2 := ⟨fun c o n m e => g c o (f.keep c o n m e), f.st.same g⟩
theorem Fs.of_same {a b : Addr} {H H1 : Hp} (h : IsSt H a b) (g : Same H H1) : Fs a b H H1 := (Fs.refl h).same g
theorem IsSt.na {H : Hp} {a b p : Addr} (h : IsSt H a b) (e : H p = none) : p ≠ a ∧ p ≠ b := by
  obtain ⟨_, _, _, _, _, e1, e2⟩ := h
  constructor
  · intro q
    rw [q, e1] at e
    cases e
  · intro q
    rw [q, e2] at e
    cases e
theorem Fs.free {a b p : Addr} {H H' : Hp} (f : Fs a b H H') (h : IsSt H a b) (e : H' p = none) : H p = none := by
  obtain ⟨n1, n2⟩ := f.st.na e
  cases q : H p with
  | none => rfl
  | some o =>
    rw [f.keep p o n1 n2 q] at e
    cases e
/-- a new thing at p, written later -/
theorem Fs.upd {a b p : Addr} {H H' : Hp} {o : HO} (f : Fs a b H H') (n1 : p ≠ a) (n2 : p ≠ b) (hp : H p = none) : Fs a b H (upd H' p o) := by
  obtain ⟨k, ne, ns, x, y, z, e1, e2⟩ := f
  refine ⟨fun c u m1 m2 e => ?_, ne, ns, x, y, z, ?_, ?_⟩
  · rw [upd_ne (ne_of_none e hp)]
    exact k c u m1 m2 e
  · rw [upd_ne n1.symm]
    exact e1
  · rw [upd_ne n2.symm]
    exact e2
/-- the draw's promise: any number below many -/
def spTake : Sp := fun vs H Q _ => ∃ (a b : Addr) (m : Int), vs = [.ref a, .int m] ∧ IsSt H a b ∧ 0 < m ∧ m < 1180591620717411303424 ∧ ∀ (r : Int) (H' : Hp), 0 ≤ r → r < m → Fs a b H H' → Q (.int r) H'

theorem Fs.kp {a b p : Addr} {H H1 H2 : Hp} {o : HO} (f : Fs a b H1 H2) (h : IsSt H a b) (hp : H p = none) (e : H1 p = some o) : H2 p = some o := f.keep p o (h.na hp).1 (h.na hp).2 e
/-- a list of bytes, new behind H -/
structure Nw (H H' : Hp) (r : Addr) (xs : List Int) : Prop where
  new : H r = none
  at_ : H' r = some (.lst (iV xs))
theorem Nw.st {a b r : Addr} {H H1 H2 : Hp} {xs : List Int} (n : Nw H H1 r xs) (h : IsSt H a b) (f : Fs a b H1 H2) : Nw H H2 r xs := ⟨n.new, f.kp h n.new n.at_⟩
theorem Nw.same {r : Addr} {H H1 H2 : Hp} {xs : List Int} (n : Nw H H1 r xs) (s : Same H1 H2) : Nw H H2 r xs := ⟨n.new, s _ _ n.at_⟩
/-- a function of the state alone that tells a new list of bytes, of at most N -/
def spGen (N : Nat) : Sp := fun vs H Q _ => ∃ (a b : Addr), vs = [.ref a] ∧ IsSt H a b ∧ ∀ (H' : Hp) (r : Addr) (xs : List Int), Fs a b H H' → Nw H H' r xs → By xs → xs.length ≤ N → Q (.ref r) H'
theorem rep_one {α : Type} (n : Nat) (x : α) : (List.replicate n [x]).flatten = List.replicate n x := by
  induction n with
  | zero => rfl
  | succ n ih => rw [List.replicate_succ, List.flatten_cons, ih, List.replicate_succ]; rfl
theorem iV_rep (n : Nat) (x : Int) : iV (List.replicate n x) = List.replicate n (V.int x) := List.map_replicate

/-! ### what is told -/
/-- t stands at v, all of it new behind H0 -/
def TlAt (H0 H : Hp) : Tell → V → Prop
  | .part pl bs, v => ∃ a l, v = .ref a ∧ H a = some (.tup [.str "part", .int (pl : Nat), .ref l]) ∧ H l = some (.lst (iV bs)) ∧ H0 a = none ∧ H0 l = none
  | .torn pl n, v => ∃ a, v = .ref a ∧ H a = some (.tup [.str "torn", .int (pl : Nat), .int (n : Nat)]) ∧ H0 a = none
abbrev Tls (H0 H : Hp) (ts : List Tell) (vs : List V) : Prop := Paired (TlAt H0 H) ts vs
theorem TlAt.keep {H0 H H' : Hp} {t : Tell} {v : V} (h : TlAt H0 H t v) (k : ∀ b o, H0 b = none → H b = some o → H' b = some o) : TlAt H0 H' t v := by
  cases t with
  | part pl bs =>
    obtain ⟨a, l, e, h1, h2, h3, h4⟩ := h
    exact ⟨a, l, e, k _ _ h3 h1, k _ _ h4 h2, h3, h4⟩
  | torn pl n =>
    obtain ⟨a, e, h1, h2⟩ := h
    exact ⟨a, e, k _ _ h2 h1, h2⟩
theorem TlAt.old {H0 H1 H : Hp} {t : Tell} {v : V} (h : TlAt H1 H t v) (k : ∀ b, H1 b = none → H0 b = none) : TlAt H0 H t v := by
  cases t with
  | part pl bs =>
    obtain ⟨a, l, e, h1, h2, h3, h4⟩ := h
    exact ⟨a, l, e, h1, h2, k _ h3, k _ h4⟩
  | torn pl n =>
    obtain ⟨a, e, h1, h2⟩ := h
    exact ⟨a, e, h1, k _ h2⟩
theorem pd_mono {α β : Type} {F G : α → β → Prop} (i : ∀ a b, F a b → G a b) : ∀ {xs : List α} {ys : List β}, Paired F xs ys → Paired G xs ys
  | _, _, .nil => .nil
  | _, _, .cons h t => .cons (i _ _ h) (pd_mono i t)
theorem pd_append {α β : Type} {F : α → β → Prop} : ∀ {xs zs : List α} {ys ws : List β}, Paired F xs ys → Paired F zs ws → Paired F (xs ++ zs) (ys ++ ws)
  | _, _, _, _, .nil, t => t
  | _, _, _, _, .cons h r, t => .cons h (pd_append r t)
theorem Tls.keep {H0 H H' : Hp} {ts : List Tell} {vs : List V} (h : Tls H0 H ts vs) (k : ∀ b o, H0 b = none → H b = some o → H' b = some o) : Tls H0 H' ts vs := pd_mono (fun _ _ q => q.keep k) h
theorem Tls.same {H0 H H' : Hp} {ts : List Tell} {vs : List V} (h : Tls H0 H ts vs) (s : Same H H') : Tls H0 H' ts vs := h.keep fun b o _ e => s b o e
theorem Tls.old {H0 H1 H : Hp} {ts : List Tell} {vs : List V} (h : Tls H1 H ts vs) (k : ∀ b, H1 b = none → H0 b = none) : Tls H0 H ts vs := pd_mono (fun _ _ q => q.old k) h
/-- .. as data -/
def Tell.pd : Tell → PyData
  | .part pl bs => .tuple [.str "part", .int (pl : Nat), .list (bs.map PyData.int)]
  | .torn pl n => .tuple [.str "torn", .int (pl : Nat), .int (n : Nat)]
theorem TlAt.dp {K : PySem.W.Frag} {H0 H : Hp} {t : Tell} {v : V} (h : TlAt H0 H t v) : Dp K H v (Tell.pd t) := by
  cases t with
  | part pl bs =>
    obtain ⟨a, l, e, h1, h2, _⟩ := h
    rw [e]
    exact .tup (SqT.of h1) (.cons (.str _) (.cons (.int _) (.cons (dpL h2) .nil)))
  | torn pl n =>
    obtain ⟨a, e, h1, _⟩ := h
    rw [e]
    exact .tup (SqT.of h1) (.cons (.str _) (.cons (.int _) (.cons (.int _) .nil)))
theorem Tls.dp {K : PySem.W.Frag} {H0 H : Hp} : ∀ {ts : List Tell} {vs : List V}, Tls H0 H ts vs → DpAll K H vs (ts.map Tell.pd)
  | _, _, .nil => .nil
  | _, _, .cons h t => .cons h.dp (Tls.dp t)
theorem tell_lay (t : Tell) : PyData.canLay0 (Tell.pd t) = true ∧ PyData.depth (Tell.pd t) ≤ 2 := by
  cases t with
  | part pl bs =>
    constructor
    · show (PyData.strOk "part" && (true && (PyData.canLayAll0 (bs.map PyData.int) && true))) = true
      rw [lay_ints, show PyData.strOk ("part" : Str) = true from by decide +kernel]
      rfl
    · show max 0 (max 0 (max (PyData.depthAll (bs.map PyData.int) + 1) 0)) + 1 ≤ 2
      rw [dep_ints]
      decide
  | torn pl n =>
    constructor
    · show (PyData.strOk "torn" && (true && (true && true))) = true
      rw [show PyData.strOk ("torn" : Str) = true from by decide +kernel]
      rfl
    · show max 0 (max 0 (max 0 0)) + 1 ≤ 2
      decide
theorem sh_tells (ts : List Tell) : SeqAt.shaped (.list (ts.map Tell.pd)) = true := by
  have h : PyData.canLayAll0 (ts.map Tell.pd) = true ∧ PyData.depthAll (ts.map Tell.pd) ≤ 2 := by
    induction ts with
    | nil => exact ⟨rfl, by decide⟩
    | cons t r ih =>
      obtain ⟨h1, h2⟩ := tell_lay t
      constructor
      · show (PyData.canLay0 (Tell.pd t) && PyData.canLayAll0 (r.map Tell.pd)) = true
        rw [h1, ih.1]
        rfl
      · show max (PyData.depth (Tell.pd t)) (PyData.depthAll (r.map Tell.pd)) ≤ 2
        have := ih.2
        omega
  unfold SeqAt.shaped
  rw [Bool.and_eq_true]
  refine ⟨h.1, decide_eq_true ?_⟩
  have := h.2
  show PyData.depthAll _ + 1 ≤ 64
  omega
end Tw
namespace K22
open PySem PySem.Spec PyProof.Rows L2 Tw
def topS (i : Nat) : Stmt := PySem.Challenge.pw_thingwires_k22_cases_turned.main.body.getD i (.Pass ⟨0, 0, 0, 0⟩)
abbrev s__wall : Stmt := topS 0
abbrev N__wall : List Str := ["k"]
theorem sc__wall : FnScope N__wall ["k"] (defScope s__wall) := ⟨rfl, rfl, rfl, by decide +kernel, rfl, by decide +kernel, by decide +kernel⟩
abbrev s_is_whole : Stmt := topS 6
abbrev N_is_whole : List Str := ["thing"]
theorem sc_is_whole : FnScope N_is_whole ["thing"] (defScope s_is_whole) := ⟨rfl, rfl, rfl, by decide +kernel, rfl, by decide +kernel, by decide +kernel⟩
abbrev s_is_code : Stmt := topS 7
abbrev N_is_code : List Str := ["code"]
theorem sc_is_code : FnScope N_is_code ["code"] (defScope s_is_code) := ⟨rfl, rfl, rfl, by decide +kernel, rfl, by decide +kernel, by decide +kernel⟩
abbrev s_is_text : Stmt := topS 8
abbrev N_is_text : List Str := ["thing", "sign"]
theorem sc_is_text : FnScope N_is_text ["thing"] (defScope s_is_text) := ⟨rfl, rfl, rfl, by decide +kernel, rfl, by decide +kernel, by decide +kernel⟩
abbrev s_is_row : Stmt := topS 9
abbrev N_is_row : List Str := ["thing"]
theorem sc_is_row : FnScope N_is_row ["thing"] (defScope s_is_row) := ⟨rfl, rfl, rfl, by decide +kernel, rfl, by decide +kernel, by decide +kernel⟩
abbrev s_keeps_bounds : Stmt := topS 10
abbrev N_keeps_bounds : List Str := ["number", "low", "high"]
theorem sc_keeps_bounds : FnScope N_keeps_bounds ["number", "low", "high"] (defScope s_keeps_bounds) := ⟨rfl, rfl, rfl, by decide +kernel, rfl, by decide +kernel, by decide +kernel⟩
abbrev s_keeps_figures : Stmt := topS 11
abbrev N_keeps_figures : List Str := ["number"]
theorem sc_keeps_figures : FnScope N_keeps_figures ["number"] (defScope s_keeps_figures) := ⟨rfl, rfl, rfl, by decide +kernel, rfl, by decide +kernel, by decide +kernel⟩
abbrev s_field_names : Stmt := topS 15
abbrev N_field_names : List Str := ["schema", "kind", "field"]
theorem sc_field_names : FnScope N_field_names ["schema", "kind"] (defScope s_field_names) := ⟨rfl, rfl, rfl, by decide +kernel, rfl, by decide +kernel, by decide +kernel⟩
abbrev s_path_along : Stmt := topS 18
abbrev N_path_along : List Str := ["way", "steps", "step"]
theorem sc_path_along : FnScope N_path_along ["way"] (defScope s_path_along) := ⟨rfl, rfl, rfl, by decide +kernel, rfl, by decide +kernel, by decide +kernel⟩
abbrev s_by_number : Stmt := topS 20
abbrev N_by_number : List Str := ["row", "number", "entry"]
theorem sc_by_number : FnScope N_by_number ["row", "number"] (defScope s_by_number) := ⟨rfl, rfl, rfl, by decide +kernel, rfl, by decide +kernel, by decide +kernel⟩
abbrev s_by_name : Stmt := topS 21
abbrev N_by_name : List Str := ["row", "name", "entry"]
theorem sc_by_name : FnScope N_by_name ["row", "name"] (defScope s_by_name) := ⟨rfl, rfl, rfl, by decide +kernel, rfl, by decide +kernel, by decide +kernel⟩
abbrev s_case_read : Stmt := topS 22
abbrev N_case_read : List Str := ["row", "number", "like"]
theorem sc_case_read : FnScope N_case_read ["row", "number"] (defScope s_case_read) := ⟨rfl, rfl, rfl, by decide +kernel, rfl, by decide +kernel, by decide +kernel⟩
abbrev s_first_lack : Stmt := topS 23
abbrev N_first_lack : List Str := ["fields", "new_fields", "field"]
theorem sc_first_lack : FnScope N_first_lack ["fields", "new_fields"] (defScope s_first_lack) := ⟨rfl, rfl, rfl, by decide +kernel, rfl, by decide +kernel, by decide +kernel⟩
abbrev s_pair_word : Stmt := topS 37
abbrev N_pair_word : List Str := ["pair", "one", "other"]
theorem sc_pair_word : FnScope N_pair_word ["pair"] (defScope s_pair_word) := ⟨rfl, rfl, rfl, by decide +kernel, rfl, by decide +kernel, by decide +kernel⟩
abbrev s_inner_pair : Stmt := topS 38
abbrev N_inner_pair : List Str := ["pair", "one", "other", "word"]
theorem sc_inner_pair : FnScope N_inner_pair ["pair"] (defScope s_inner_pair) := ⟨rfl, rfl, rfl, by decide +kernel, rfl, by decide +kernel, by decide +kernel⟩
abbrev s_turned : Stmt := topS 40
abbrev N_turned : List Str := ["old", "new", "thing", "turner"]
theorem sc_turned : FnScope N_turned ["old", "new", "thing"] (defScope s_turned) := ⟨rfl, rfl, rfl, by decide +kernel, rfl, by decide +kernel, by decide +kernel⟩
abbrev s_value_fault : Stmt := topS 42
abbrev N_value_fault : List Str := ["pair", "thing", "other", "word"]
theorem sc_value_fault : FnScope N_value_fault ["pair", "thing"] (defScope s_value_fault) := ⟨rfl, rfl, rfl, by decide +kernel, rfl, by decide +kernel, by decide +kernel⟩
abbrev s_is_name : Stmt := topS 49
abbrev N_is_name : List Str := ["thing", "letter"]
theorem sc_is_name : FnScope N_is_name ["thing"] (defScope s_is_name) := ⟨rfl, rfl, rfl, by decide +kernel, rfl, by decide +kernel, by decide +kernel⟩
abbrev s__names : Stmt := topS 51
abbrev N__names : List Str := ["rows", "name"]
theorem sc__names : FnScope N__names ["rows"] (defScope s__names) := ⟨rfl, rfl, rfl, by decide +kernel, rfl, by decide +kernel, by decide +kernel⟩
abbrev s__by_numbers : Stmt := topS 52
abbrev N__by_numbers : List Str := ["rows", "name", "row"]
theorem sc__by_numbers : FnScope N__by_numbers ["rows"] (defScope s__by_numbers) := ⟨rfl, rfl, rfl, by decide +kernel, rfl, by decide +kernel, by decide +kernel⟩
abbrev s__refuse_rows : Stmt := topS 53
abbrev N__refuse_rows : List Str := ["word", "rows", "kinds", "choices", "name", "row", "at", "entry", "why"]
theorem sc__refuse_rows : FnScope N__refuse_rows ["word", "rows", "kinds", "choices"] (defScope s__refuse_rows) := ⟨rfl, rfl, rfl, by decide +kernel, rfl, by decide +kernel, by decide +kernel⟩
abbrev s__fault : Stmt := topS 54
abbrev N__fault : List Str := ["word", "entry", "earlier", "kinds", "choices", "number", "name", "of", "least", "other"]
theorem sc__fault : FnScope N__fault ["word", "entry", "earlier", "kinds", "choices"] (defScope s__fault) := ⟨rfl, rfl, rfl, by decide +kernel, rfl, by decide +kernel, by decide +kernel⟩
abbrev s_is_sort : Stmt := topS 55
abbrev N_is_sort : List Str := ["of", "kinds", "choices", "is_inside", "word"]
theorem sc_is_sort : FnScope N_is_sort ["of", "kinds", "choices"] (defScope s_is_sort) := ⟨rfl, rfl, rfl, by decide +kernel, rfl, by decide +kernel, by decide +kernel⟩
abbrev s__first_word : Stmt := topS 56
abbrev N__first_word : List Str := ["of"]
theorem sc__first_word : FnScope N__first_word ["of"] (defScope s__first_word) := ⟨rfl, rfl, rfl, by decide +kernel, rfl, by decide +kernel, by decide +kernel⟩
abbrev s__is_inmost : Stmt := topS 57
abbrev N__is_inmost : List Str := ["word", "of", "kinds", "choices"]
theorem sc__is_inmost : FnScope N__is_inmost ["word", "of", "kinds", "choices"] (defScope s__is_inmost) := ⟨rfl, rfl, rfl, by decide +kernel, rfl, by decide +kernel, by decide +kernel⟩
abbrev s__is_most : Stmt := topS 58
abbrev N__is_most : List Str := ["most", "limit"]
theorem sc__is_most : FnScope N__is_most ["most", "limit"] (defScope s__is_most) := ⟨rfl, rfl, rfl, by decide +kernel, rfl, by decide +kernel, by decide +kernel⟩
abbrev s__are_bounds : Stmt := topS 59
abbrev N__are_bounds : List Str := ["low", "high"]
theorem sc__are_bounds : FnScope N__are_bounds ["low", "high"] (defScope s__are_bounds) := ⟨rfl, rfl, rfl, by decide +kernel, rfl, by decide +kernel, by decide +kernel⟩
abbrev s__is_default : Stmt := topS 60
abbrev N__is_default : List Str := ["of", "default", "word"]
theorem sc__is_default : FnScope N__is_default ["of", "default"] (defScope s__is_default) := ⟨rfl, rfl, rfl, by decide +kernel, rfl, by decide +kernel, by decide +kernel⟩
abbrev s__refuse_comings_back : Stmt := topS 61
abbrev N__refuse_comings_back : List Str := ["choices", "name", "at", "_", "content"]
theorem sc__refuse_comings_back : FnScope N__refuse_comings_back ["choices"] (defScope s__refuse_comings_back) := ⟨rfl, rfl, rfl, by decide +kernel, rfl, by decide +kernel, by decide +kernel⟩
abbrev s__law_draw : Stmt := topS 63
abbrev N__law_draw : List Str := ["_law_well", "_law_many", "_law_found_here", "_law_low"]
theorem sc__law_draw : FnScope N__law_draw ["_law_well", "_law_many"] (defScope s__law_draw) := ⟨rfl, rfl, rfl, by decide +kernel, rfl, by decide +kernel, by decide +kernel⟩
abbrev s__law_content : Stmt := topS 64
abbrev N__law_content : List Str := ["_law_well", "_law_other", "_law_way", "_law_high", "_law_some"]
theorem sc__law_content : FnScope N__law_content ["_law_well", "_law_other"] (defScope s__law_content) := ⟨rfl, rfl, rfl, by decide +kernel, rfl, by decide +kernel, by decide +kernel⟩
abbrev s__law_cases : Stmt := topS 65
abbrev N__law_cases : List Str := ["_law_well", "_law_numbers_here", "_law_words", "_law_other", "_law_found_here", "_law_k", "_law_number", "_law_sort"]
theorem sc__law_cases : FnScope N__law_cases ["_law_well", "_law_numbers_here", "_law_words", "_law_other"] (defScope s__law_cases) := ⟨rfl, rfl, rfl, by decide +kernel, rfl, by decide +kernel, by decide +kernel⟩
abbrev s__law_numbers : Stmt := topS 66
abbrev N__law_numbers : List Str := ["_law_well", "_law_found_here", "_law_k", "_law_number"]
theorem sc__law_numbers : FnScope N__law_numbers ["_law_well"] (defScope s__law_numbers) := ⟨rfl, rfl, rfl, by decide +kernel, rfl, by decide +kernel, by decide +kernel⟩
abbrev s__law_near : Stmt := topS 67
abbrev N__law_near : List Str := ["_law_well", "_law_numbers_here", "_law_found_here", "_law_number"]
theorem sc__law_near : FnScope N__law_near ["_law_well", "_law_numbers_here"] (defScope s__law_near) := ⟨rfl, rfl, rfl, by decide +kernel, rfl, by decide +kernel, by decide +kernel⟩
abbrev s__law_near_sort : Stmt := topS 68
abbrev N__law_near_sort : List Str := ["_law_well", "_law_sort", "_law_other", "_law_way"]
theorem sc__law_near_sort : FnScope N__law_near_sort ["_law_well", "_law_sort", "_law_other"] (defScope s__law_near_sort) := ⟨rfl, rfl, rfl, by decide +kernel, rfl, by decide +kernel, by decide +kernel⟩
abbrev s__law_choices : Stmt := topS 69
abbrev N__law_choices : List Str := ["_law_well", "_law_words", "_law_turn", "_law_old", "_law_new", "_law_names", "_law_others", "_law_k", "_law_numbers_here", "_law_cases_here", "_law_row", "_law_at", "_law_number", "_law_sort", "_law_case_here"]
theorem sc__law_choices : FnScope N__law_choices ["_law_well"] (defScope s__law_choices) := ⟨rfl, rfl, rfl, by decide +kernel, rfl, by decide +kernel, by decide +kernel⟩
abbrev s__law_thing : Stmt := topS 70
abbrev N__law_thing : List Str := ["_law_well", "_law_old", "_law_sort", "_law_deep", "_law_cases_here", "_law_number", "_law_word", "_law_content_here", "_law_many", "_law_k"]
theorem sc__law_thing : FnScope N__law_thing ["_law_well", "_law_old", "_law_sort", "_law_deep"] (defScope s__law_thing) := ⟨rfl, rfl, rfl, by decide +kernel, rfl, by decide +kernel, by decide +kernel⟩
abbrev s__law_plainly : Stmt := topS 71
abbrev N__law_plainly : List Str := ["_law_thing_here", "_law_one"]
theorem sc__law_plainly : FnScope N__law_plainly ["_law_thing_here"] (defScope s__law_plainly) := ⟨rfl, rfl, rfl, by decide +kernel, rfl, by decide +kernel, by decide +kernel⟩
abbrev s__law_due : Stmt := topS 72
abbrev N__law_due : List Str := ["_law_world", "_law_path", "_law_old", "_law_new", "_law_thing_here", "_law_found_here", "_law_k", "_law_one", "_law_part"]
theorem sc__law_due : FnScope N__law_due ["_law_world", "_law_path", "_law_old", "_law_new", "_law_thing_here"] (defScope s__law_due) := ⟨rfl, rfl, rfl, by decide +kernel, rfl, by decide +kernel, by decide +kernel⟩
abbrev s__law_case : Stmt := topS 73
abbrev N__law_case : List Str := ["_law_world", "_law_path", "_law_old", "_law_new", "_law_thing_here", "_law_mine", "_law_yours", "_law_number", "_law_word", "_law_content_here", "_law_found_here", "_law_case_here"]
theorem sc__law_case : FnScope N__law_case ["_law_world", "_law_path", "_law_old", "_law_new", "_law_thing_here"] (defScope s__law_case) := ⟨rfl, rfl, rfl, by decide +kernel, rfl, by decide +kernel, by decide +kernel⟩
abbrev s__law_found : Stmt := topS 74
abbrev N__law_found : List Str := ["_law_old", "_law_new", "_law_thing_here", "_law_found_here", "e", "_law_others"]
theorem sc__law_found : FnScope N__law_found ["_law_old", "_law_new", "_law_thing_here"] (defScope s__law_found) := ⟨rfl, rfl, rfl, by decide +kernel, rfl, by decide +kernel, by decide +kernel⟩
abbrev s_law : Stmt := topS 75
abbrev N_law : List Str := ["_law_script", "_law_cell", "_law_well", "_law_old", "_law_new", "_law_others", "_law_way", "_law_tops", "_law_name", "_law_sort", "_law_one", "_law_other", "_law_number", "_law_word", "_law_content_here", "_law_thing_here", "_law_more", "_law_due_here"]
theorem sc_law : FnScope N_law ["_law_script"] (defScope s_law) := ⟨rfl, rfl, rfl, by decide +kernel, rfl, by decide +kernel, by decide +kernel⟩
abbrev s_Node___init__ : Stmt := inClass (topS 13) 0
abbrev N_Node___init__ : List Str := ["self", "kind", "fields"]
theorem sc_Node___init__ : FnScope N_Node___init__ ["self", "kind", "fields"] (defScope s_Node___init__) := ⟨rfl, rfl, rfl, by decide +kernel, rfl, by decide +kernel, by decide +kernel⟩
abbrev s_Node_put : Stmt := inClass (topS 13) 1
abbrev N_Node_put : List Str := ["self", "name", "thing"]
theorem sc_Node_put : FnScope N_Node_put ["self", "name", "thing"] (defScope s_Node_put) := ⟨rfl, rfl, rfl, by decide +kernel, rfl, by decide +kernel, by decide +kernel⟩
abbrev s_Case___init__ : Stmt := inClass (topS 14) 0
abbrev N_Case___init__ : List Str := ["self", "word", "content"]
theorem sc_Case___init__ : FnScope N_Case___init__ ["self", "word", "content"] (defScope s_Case___init__) := ⟨rfl, rfl, rfl, by decide +kernel, rfl, by decide +kernel, by decide +kernel⟩
abbrev s_Case___eq__ : Stmt := inClass (topS 14) 1
abbrev N_Case___eq__ : List Str := ["self", "other"]
theorem sc_Case___eq__ : FnScope N_Case___eq__ ["self", "other"] (defScope s_Case___eq__) := ⟨rfl, rfl, rfl, by decide +kernel, rfl, by decide +kernel, by decide +kernel⟩
abbrev s_Builder___init__ : Stmt := inClass (topS 17) 0
abbrev N_Builder___init__ : List Str := ["self"]
theorem sc_Builder___init__ : FnScope N_Builder___init__ ["self"] (defScope s_Builder___init__) := ⟨rfl, rfl, rfl, by decide +kernel, rfl, by decide +kernel, by decide +kernel⟩
abbrev s_Builder_run : Stmt := inClass (topS 17) 1
abbrev N_Builder_run : List Str := ["self", "job", "word"]
theorem sc_Builder_run : FnScope N_Builder_run ["self"] (defScope s_Builder_run) := ⟨rfl, rfl, rfl, by decide +kernel, rfl, by decide +kernel, by decide +kernel⟩
abbrev s_Builder_begin : Stmt := inClass (topS 17) 2
abbrev N_Builder_begin : List Str := ["self", "job"]
theorem sc_Builder_begin : FnScope N_Builder_begin ["self", "job"] (defScope s_Builder_begin) := ⟨rfl, rfl, rfl, by decide +kernel, rfl, by decide +kernel, by decide +kernel⟩
abbrev s_Builder_do_next : Stmt := inClass (topS 17) 3
abbrev N_Builder_do_next : List Str := ["self", "jobs"]
theorem sc_Builder_do_next : FnScope N_Builder_do_next ["self", "jobs"] (defScope s_Builder_do_next) := ⟨rfl, rfl, rfl, by decide +kernel, rfl, by decide +kernel, by decide +kernel⟩
abbrev s_Builder_fill : Stmt := inClass (topS 17) 4
abbrev N_Builder_fill : List Str := ["self", "node", "names", "things", "name", "thing"]
theorem sc_Builder_fill : FnScope N_Builder_fill ["self", "node", "names"] (defScope s_Builder_fill) := ⟨rfl, rfl, rfl, by decide +kernel, rfl, by decide +kernel, by decide +kernel⟩
abbrev s_Builder_taken : Stmt := inClass (topS 17) 5
abbrev N_Builder_taken : List Str := ["self", "many", "start", "things"]
theorem sc_Builder_taken : FnScope N_Builder_taken ["self", "many"] (defScope s_Builder_taken) := ⟨rfl, rfl, rfl, by decide +kernel, rfl, by decide +kernel, by decide +kernel⟩
abbrev s_NoSchema___init__ : Stmt := inClass (topS 26) 0
abbrev N_NoSchema___init__ : List Str := ["self", "path", "why"]
theorem sc_NoSchema___init__ : FnScope N_NoSchema___init__ ["self", "path", "why"] (defScope s_NoSchema___init__) := ⟨rfl, rfl, rfl, by decide +kernel, rfl, by decide +kernel, by decide +kernel⟩
abbrev s_NoText___init__ : Stmt := inClass (topS 27) 0
abbrev N_NoText___init__ : List Str := ["self", "text"]
theorem sc_NoText___init__ : FnScope N_NoText___init__ ["self", "text"] (defScope s_NoText___init__) := ⟨rfl, rfl, rfl, by decide +kernel, rfl, by decide +kernel, by decide +kernel⟩
abbrev s_NoThing___init__ : Stmt := inClass (topS 28) 0
abbrev N_NoThing___init__ : List Str := ["self", "path", "why"]
theorem sc_NoThing___init__ : FnScope N_NoThing___init__ ["self", "path", "why"] (defScope s_NoThing___init__) := ⟨rfl, rfl, rfl, by decide +kernel, rfl, by decide +kernel, by decide +kernel⟩
abbrev s_NoTurn___init__ : Stmt := inClass (topS 29) 0
abbrev N_NoTurn___init__ : List Str := ["self", "path", "why"]
theorem sc_NoTurn___init__ : FnScope N_NoTurn___init__ ["self", "path", "why"] (defScope s_NoTurn___init__) := ⟨rfl, rfl, rfl, by decide +kernel, rfl, by decide +kernel, by decide +kernel⟩
abbrev s_NoBytes___init__ : Stmt := inClass (topS 30) 0
abbrev N_NoBytes___init__ : List Str := ["self", "why"]
theorem sc_NoBytes___init__ : FnScope N_NoBytes___init__ ["self", "why"] (defScope s_NoBytes___init__) := ⟨rfl, rfl, rfl, by decide +kernel, rfl, by decide +kernel, by decide +kernel⟩
abbrev s_NoQuestion___init__ : Stmt := inClass (topS 31) 0
abbrev N_NoQuestion___init__ : List Str := ["self", "at"]
theorem sc_NoQuestion___init__ : FnScope N_NoQuestion___init__ ["self", "at"] (defScope s_NoQuestion___init__) := ⟨rfl, rfl, rfl, by decide +kernel, rfl, by decide +kernel, by decide +kernel⟩
abbrev s_NoEdition___init__ : Stmt := inClass (topS 32) 0
abbrev N_NoEdition___init__ : List Str := ["self", "edition"]
theorem sc_NoEdition___init__ : FnScope N_NoEdition___init__ ["self", "edition"] (defScope s_NoEdition___init__) := ⟨rfl, rfl, rfl, by decide +kernel, rfl, by decide +kernel, by decide +kernel⟩
abbrev s_NoWire___init__ : Stmt := inClass (topS 33) 0
abbrev N_NoWire___init__ : List Str := ["self", "wire"]
theorem sc_NoWire___init__ : FnScope N_NoWire___init__ ["self", "wire"] (defScope s_NoWire___init__) := ⟨rfl, rfl, rfl, by decide +kernel, rfl, by decide +kernel, by decide +kernel⟩
abbrev s_NoMeeting___init__ : Stmt := inClass (topS 34) 0
abbrev N_NoMeeting___init__ : List Str := ["self", "edition", "path", "why"]
theorem sc_NoMeeting___init__ : FnScope N_NoMeeting___init__ ["self", "edition", "path", "why"] (defScope s_NoMeeting___init__) := ⟨rfl, rfl, rfl, by decide +kernel, rfl, by decide +kernel, by decide +kernel⟩
abbrev s_NoLine___init__ : Stmt := inClass (topS 35) 0
abbrev N_NoLine___init__ : List Str := ["self", "at", "why"]
theorem sc_NoLine___init__ : FnScope N_NoLine___init__ ["self", "at", "why"] (defScope s_NoLine___init__) := ⟨rfl, rfl, rfl, by decide +kernel, rfl, by decide +kernel, by decide +kernel⟩
abbrev s_Turner___init__ : Stmt := inClass (topS 41) 0
abbrev N_Turner___init__ : List Str := ["self", "old", "new"]
theorem sc_Turner___init__ : FnScope N_Turner___init__ ["self", "old", "new"] (defScope s_Turner___init__) := ⟨rfl, rfl, rfl, by decide +kernel, rfl, by decide +kernel, by decide +kernel⟩
abbrev s_Turner_begin : Stmt := inClass (topS 41) 1
abbrev N_Turner_begin : List Str := ["self", "job", "_", "pair", "thing", "way", "word", "why", "parts", "at", "part"]
theorem sc_Turner_begin : FnScope N_Turner_begin ["self", "job"] (defScope s_Turner_begin) := ⟨rfl, rfl, rfl, by decide +kernel, rfl, by decide +kernel, by decide +kernel⟩
abbrev s_Turner_turn_case : Stmt := inClass (topS 41) 2
abbrev N_Turner_turn_case : List Str := ["self", "pair", "case", "way", "number", "_", "inner", "found", "name", "new_inner"]
theorem sc_Turner_turn_case : FnScope N_Turner_turn_case ["self", "pair", "case", "way"] (defScope s_Turner_turn_case) := ⟨rfl, rfl, rfl, by decide +kernel, rfl, by decide +kernel, by decide +kernel⟩
abbrev s_Turner_turn_node : Stmt := inClass (topS 41) 3
abbrev N_Turner_turn_node : List Str := ["self", "pair", "node", "way", "kind", "fields", "new_fields", "lack", "parts", "field", "found"]
theorem sc_Turner_turn_node : FnScope N_Turner_turn_node ["self", "pair", "node", "way"] (defScope s_Turner_turn_node) := ⟨rfl, rfl, rfl, by decide +kernel, rfl, by decide +kernel, by decide +kernel⟩
abbrev s_Schema___init__ : Stmt := inClass (topS 50) 0
abbrev N_Schema___init__ : List Str := ["self", "kinds", "choices", "root", "given", "kind_names", "choice_names"]
theorem sc_Schema___init__ : FnScope N_Schema___init__ ["self", "kinds", "choices", "root"] (defScope s_Schema___init__) := ⟨rfl, rfl, rfl, by decide +kernel, rfl, by decide +kernel, by decide +kernel⟩
abbrev s_Schema_check : Stmt := inClass (topS 50) 1
abbrev N_Schema_check : List Str := ["self", "thing"]
theorem sc_Schema_check : FnScope N_Schema_check ["self", "thing"] (defScope s_Schema_check) := ⟨rfl, rfl, rfl, by decide +kernel, rfl, by decide +kernel, by decide +kernel⟩
end K22
/-! TwP: what the streams' defs promise. -/
namespace Tw
open PySem PySem.Spec PyProof.Rows L2 Sb
theorem TyX.same {K : PySem.W.Frag} {H H' : Hp} {v : V} {t : Value} (s : Same H H') (h : TyX K H v t) : TyX K H' v t := by
  cases h with
  | base b =>
    refine .base ?_
    cases b with
    | non => exact .non
    | bl y => exact .bl y
    | int i => exact .int i
    | str y => exact .str y
    | flt y => exact .flt y
    | lst e => exact .lst (s _ _ e)
    | frz e => exact .frz (s _ _ e)
    | tup e => exact .tup (s _ _ e)
    | dK e => exact .dK (s _ _ e)
    | dT e => exact .dT (s _ _ e)
    | ins e c h1 h2 h3 h4 => exact .ins (s _ _ e) c h1 h2 h3 h4
  | byt b => exact .byt b
  | set e => exact .set (s _ _ e)
  | kList e c => exact .kList e c
  | kTuple e c => exact .kTuple e c
  | kDict e c => exact .kDict e c
  | fTuple e => exact .fTuple (s _ _ e)
  | fDict e => exact .fDict (s _ _ e)
theorem Rw.ty {K : PySem.W.Frag} {H : Hp} {a : Addr} {xs : List V} (h : Rw H a xs) : ∃ t, TyX K H (.ref a) t ∧ PySem.W.kitAny K t [.type "list", .type "tuple"] = some true := by
  rcases h with h | h
  · exact ⟨.type "list", .base (.lst h), kitAny_cons (b := true) (kit_ty (by decide +kernel)) (fun z => nomatch z) fun _ => rfl⟩
  · exact ⟨.type "tuple", .base (.tup h), kitAny_cons (b := false) (kit_ty (by decide +kernel)) (fun _ => kitAny_cons (b := true) (kit_ty (by decide +kernel)) (fun z => nomatch z) fun _ => rfl) fun z => nomatch z⟩
/-- a module's number -/
abbrev Gi (mg : Str → Option Value) (x : Str) (n : Int) : Prop := ∃ u, mg x = some u ∧ RelV (.int n) u
abbrev big : Nat := 4000000
def spWhole (K : PySem.W.Frag) : Sp := fun vs H Q _ => ∃ (v : V) (t : Value) (b1 b2 : Bool), vs = [v] ∧ TyX K H v t ∧ PySem.W.kitOne K t (.type "int") = some b1 ∧ (b1 = true → PySem.W.kitOne K t (.type "bool") = some b2) ∧ Q (.bl (b1 && !b2)) H
def spRow (K : PySem.W.Frag) : Sp := fun vs H Q _ => ∃ (v : V) (t : Value) (b : Bool), vs = [v] ∧ TyX K H v t ∧ PySem.W.kitAny K t [.type "list", .type "tuple"] = some b ∧ ∀ H', Same H H' → Q (.bl b) H'
/-- rows of bytes are asked of alone -/
def spBytes : Sp := fun vs H Q _ => ∃ (a : Addr) (ns : List Int), vs = [.ref a] ∧ Rw H a (iV ns) ∧ By ns ∧ ns.length ≤ big ∧ ∀ H', Same H H' → Q (.bl true) H'
def spRefuse : Sp := fun vs H Q _ => ∃ (a : Addr) (ns : List Int), vs = [.ref a] ∧ Rw H a (iV ns) ∧ By ns ∧ ns.length ≤ big ∧ ∀ H', Same H H' → Q .non H'
def spZeros : Sp := fun vs H Q _ => ∃ (a : Addr) (ns : List Int), vs = [.ref a] ∧ Rw H a (iV ns) ∧ ns.length ≤ big ∧ ∀ (H' : Hp) (p : Addr), Same H H' → H p = none → H' p = some (.lst ((zs 0 ns).map fun (i : Nat) => V.int i)) → Q (.ref p) H'
def spCheck : Sp := fun vs H Q _ => ∃ (a : Addr) (ns : List Int), vs = [.ref a] ∧ Rw H a (iV ns) ∧ By ns ∧ ns.length ≤ big ∧ ∀ (H' : Hp) (p : Addr), Same H H' → H p = none → H' p = some (.lst (iV (check ns))) → Q (.ref p) H'
def optL (H0 H : Hp) : Option (List Int) → V → Prop
  | none, v => v = .non
  | some w, v => ∃ p, v = .ref p ∧ H0 p = none ∧ H p = some (.lst (iV w))
/-- runs undone, of pieces without zeros -/
def spWithZ : Sp := fun vs H Q _ => ∃ (a : Addr) (ns : List Int), vs = [.ref a] ∧ H a = some (.lst (iV ns)) ∧ By ns ∧ NZ ns ∧ ns.length ≤ big ∧ ∀ (H' : Hp) (v : V), Same H H' → optL H H' (unrun ns) v → Q v H'
def spRead : Sp := fun vs H Q _ => ∃ (a : Addr) (pl : Nat) (ns : List Int), vs = [.int (pl : Nat), .ref a] ∧ H a = some (.lst (iV ns)) ∧ By ns ∧ NZ ns ∧ ns.length ≤ big ∧ ∀ (H' : Hp) (v : V), Same H H' → TlAt H H' (tell pl ns) v → Q v H'

/-! ### cuts by natural places -/
theorem sIx_natV (n d k : Nat) : HT.sIx n d (some (k : Int)) = min k n := HT.sIx_nat n d k
theorem cut_nn (xs : List V) (i j : Nat) : cutV xs (some (i : Int)) (some (j : Int)) = (xs.drop i).take (j - i) := by
  unfold cutV
  rw [sIx_natV, sIx_natV]
  by_cases h : i ≤ xs.length
  · rw [Nat.min_eq_left h]
    by_cases h2 : j ≤ xs.length
    · rw [Nat.min_eq_left h2]
    · rw [Nat.min_eq_right (show xs.length ≤ j by omega), List.take_of_length_le (by rw [List.length_drop]; omega), List.take_of_length_le (by rw [List.length_drop]; omega)]
  · rw [Nat.min_eq_right (show xs.length ≤ i by omega), List.drop_of_length_le (Nat.le_refl _), List.drop_of_length_le (show xs.length ≤ i by omega)]
    simp
theorem cut_n0 (xs : List V) (i : Nat) : cutV xs (some (i : Int)) none = xs.drop i := by
  unfold cutV
  rw [sIx_natV, show HT.sIx xs.length xs.length none = xs.length from HT.sIx_none _ _]
  by_cases h : i ≤ xs.length
  · rw [Nat.min_eq_left h, List.take_of_length_le (by rw [List.length_drop]; omega)]
  · rw [Nat.min_eq_right (show xs.length ≤ i by omega), List.drop_of_length_le (Nat.le_refl _), List.drop_of_length_le (show xs.length ≤ i by omega)]
    simp
theorem cut_0n (xs : List V) (j : Nat) : cutV xs none (some (j : Int)) = xs.take j := by
  unfold cutV
  rw [sIx_natV, show HT.sIx xs.length 0 none = 0 from HT.sIx_none _ _, List.drop_zero, Nat.sub_zero]
  by_cases h : j ≤ xs.length
  · rw [Nat.min_eq_left h]
  · rw [Nat.min_eq_right (show xs.length ≤ j by omega), List.take_of_length_le (Nat.le_refl _), List.take_of_length_le (show xs.length ≤ j by omega)]
/-- a negative place, counted from the end -/
theorem sIx_neg (n d k : Nat) (h0 : 1 ≤ k) (hk : k ≤ n) : HT.sIx n d (some (-(k : Int))) = n - k := by
  unfold HT.sIx
  simp only
  split <;> omega
theorem cut_0m (xs : List V) (k : Nat) (h0 : 1 ≤ k) (hk : k ≤ xs.length) : cutV xs none (some (-(k : Int))) = xs.take (xs.length - k) := by
  unfold cutV
  rw [sIx_neg _ _ _ h0 hk, show HT.sIx xs.length 0 none = 0 from HT.sIx_none _ _, List.drop_zero, Nat.sub_zero]
theorem cut_m0 (xs : List V) (k : Nat) (h0 : 1 ≤ k) (hk : k ≤ xs.length) : cutV xs (some (-(k : Int))) none = xs.drop (xs.length - k) := by
  unfold cutV
  rw [sIx_neg _ _ _ h0 hk, show HT.sIx xs.length xs.length none = xs.length from HT.sIx_none _ _, List.take_of_length_le (by rw [List.length_drop]; omega)]
theorem iV_take (xs : List Int) (n : Nat) : iV (xs.take n) = (iV xs).take n := List.map_take
theorem iV_drop (xs : List Int) (n : Nat) : iV (xs.drop n) = (iV xs).drop n := List.map_drop
theorem iV_snoc (xs : List Int) (b : Int) : iV (xs ++ [b]) = iV xs ++ [V.int b] := iV_append xs [b]
theorem iteNF {c A B : Prop} [Decidable c] (hc : ¬ c) (h : A) : if (!decide c) = true then A else B := by
  rw [decide_eq_false hc]
  exact iteT h

/-! ### the feeder -/
theorem rest_place : ¬ (("rest" : Str) = "place") := by decide +kernel
theorem place_rest : ¬ (("place" : Str) = "rest") := by decide +kernel
abbrev fdF (l : Addr) (n : Int) : List (Str × V) := [("rest", .ref l), ("place", .int n)]
theorem fd_init (l : Addr) (n : Int) : putF "place" (.int n) (putF "rest" (.ref l) []) = fdF l n := by
  show (if ("rest" : Str) = "place" then _ else (("rest" : Str), V.ref l) :: putF "place" (.int n) []) = _
  rw [if_neg rest_place]
  rfl
theorem fd_rest (l m : Addr) (n : Int) : putF "rest" (.ref m) (fdF l n) = fdF m n := by
  show (if ("rest" : Str) = "rest" then (("rest" : Str), V.ref m) :: [(("place" : Str), V.int n)] else _) = _
  rw [if_pos rfl]
theorem fd_place (l : Addr) (n k : Int) : putF "place" (.int k) (fdF l n) = fdF l k := by
  show (if ("rest" : Str) = "place" then _ else (("rest" : Str), V.ref l) :: (if ("place" : Str) = "place" then [(("place" : Str), V.int k)] else _)) = _
  rw [if_neg rest_place, if_pos rfl]
theorem fd_get_rest (l : Addr) (n : Int) : (fdF l n).lookup ("rest" : Str) = some (.ref l) := by simp [fdF, List.lookup]
theorem fd_get_place (l : Addr) (n : Int) : (fdF l n).lookup ("place" : Str) = some (.int n) := by
  have e : (("place" : Str) == ("rest" : Str)) = false := by decide +kernel
  simp [fdF, List.lookup, e]
theorem fd_no (l : Addr) (n : Int) {m : Str} (h1 : (m == ("rest" : Str)) = false) (h2 : (m == ("place" : Str)) = false) : (fdF l n).lookup m = none := by simp [fdF, List.lookup, h1, h2]
/-- a feeder at p that holds rest, in the list at l, from the place pl on -/
def FdAt (C : Addr) (H : Hp) (p l : Addr) (rest : List Int) (pl : Nat) : Prop := ∃ dx, H p = some (.ins C dx (fdF l (pl : Nat))) ∧ H l = some (.lst (iV rest))
structure ClF (K : PySem.W.Frag) (C : Addr) : Prop where
  cl : Cls K C
  nR : NoAttr K C "rest"
  nP : NoAttr K C "place"
theorem FdAt.ne {C : Addr} {H : Hp} {p l : Addr} {r : List Int} {n : Nat} (h : FdAt C H p l r n) : p ≠ l := by
  obtain ⟨dx, h1, h2⟩ := h
  exact ne_of h1 h2 (by intro z; cases z)
theorem FdAt.keep {C : Addr} {H H' : Hp} {p l : Addr} {r : List Int} {n : Nat} (h : FdAt C H p l r n) (s : Same H H') : FdAt C H' p l r n := by
  obtain ⟨dx, h1, h2⟩ := h
  exact ⟨dx, s _ _ h1, s _ _ h2⟩
/-- all but two places stay -/
def But (p l : Addr) (H H' : Hp) : Prop := ∀ b o, b ≠ p → b ≠ l → H b = some o → H' b = some o
theorem But.refl {p l : Addr} {H : Hp} : But p l H H := fun _ _ _ _ e => e
theorem But.trans {p l : Addr} {H H1 H2 : Hp} (h : But p l H H1) (k : But p l H1 H2) : But p l H H2 := fun b o n m e => k b o n m (h b o n m e)
theorem But.same {p l : Addr} {H H1 H2 : Hp} (h : But p l H H1) (k : Same H1 H2) : But p l H H2 := fun b o n m e => k b o (h b o n m e)
def spFInit (C : Addr) : Sp := fun vs H Q _ => ∃ (p dx : Addr), vs = [.ref p] ∧ H p = some (.ins C dx []) ∧ ∀ (H' : Hp) (l : Addr), (∀ b o, b ≠ p → H b = some o → H' b = some o) → H l = none → FdAt C H' p l [] 0 → Q .non H'
def spFDone (C : Addr) : Sp := fun vs H Q _ => ∃ (p l : Addr) (rest : List Int) (pl : Nat), vs = [.ref p] ∧ FdAt C H p l rest pl ∧ rest.length ≤ big ∧
  ∀ (H' : Hp) (l' r : Addr) (ws : List V), (∀ b o, b ≠ p → H b = some o → H' b = some o) → H l' = none → FdAt C H' p l' [] 0 → H r = none → r ≠ l' → H' r = some (.lst ws) → Tls (upd H r (.lst [])) H' (rests rest pl) ws → Q (.ref r) H'
def spFFeed (C : Addr) : Sp := fun vs H Q _ => ∃ (p d l : Addr) (rest xs : List Int) (pl : Nat), vs = [.ref p, .ref d] ∧ FdAt C H p l rest pl ∧ H d = some (.lst (iV xs)) ∧ d ≠ l ∧ By rest ∧ NZ rest ∧ By xs ∧ rest.length + xs.length ≤ big ∧
  ∀ (H' : Hp) (l' r : Addr) (ws : List V), But p l H H' → FdAt C H' p l' (goes rest pl xs).2.1 (goes rest pl xs).2.2 → (l' = l ∨ H l' = none) → H r = none → r ≠ l' → H' r = some (.lst ws) → Tls (upd H r (.lst [])) H' (goes rest pl xs).1 ws → Q (.ref r) H'
def spUnst : Sp := fun vs H Q _ => ∃ (d : Addr) (xs : List Int), vs = [.ref d] ∧ H d = some (.lst (iV xs)) ∧ By xs ∧ xs.length ≤ big ∧ ∀ (H' : Hp) (r : Addr) (ws : List V), Same H H' → H r = none → H' r = some (.lst ws) → Tls (upd H r (.lst [])) H' (unstr xs) ws → Q (.ref r) H'
theorem Tls.more {H0 H : Hp} {x : Addr} {o : HO} (hx : H x = none) : ∀ {ts : List Tell} {ws : List V}, Tls H0 H ts ws → Tls (upd H0 x o) H ts ws := by
  have go : ∀ (t : Tell) (v : V), TlAt H0 H t v → TlAt (upd H0 x o) H t v := by
    intro t v h
    cases t with
    | part pl bs =>
      obtain ⟨a, l, e, h1, h2, h3, h4⟩ := h
      exact ⟨a, l, e, h1, h2, by rw [upd_ne (ne_of_none h1 hx)]; exact h3, by rw [upd_ne (ne_of_none h2 hx)]; exact h4⟩
    | torn pl n =>
      obtain ⟨a, e, h1, h2⟩ := h
      exact ⟨a, e, h1, by rw [upd_ne (ne_of_none h1 hx)]; exact h2⟩
  intro ts ws h
  exact pd_mono go h
theorem upd_none {H0 : Hp} {x b : Addr} {o : HO} (h : upd H0 x o b = none) : b ≠ x ∧ H0 b = none := by
  have n : b ≠ x := fun z => by rw [z, upd_same] at h; cases h
  rw [upd_ne n] at h
  exact ⟨n, h⟩
theorem none_upd {H0 : Hp} {x b : Addr} {o : HO} (n : b ≠ x) (h : H0 b = none) : upd H0 x o b = none := by
  rw [upd_ne n]
  exact h
theorem pd_len {α β : Type} {F : α → β → Prop} : ∀ {xs : List α} {ys : List β}, Paired F xs ys → xs.length = ys.length
  | _, _, .nil => rfl
  | _, _, .cons _ t => by rw [List.length_cons, List.length_cons, pd_len t]
theorem seq0 {α : Type} {x : α} {xs : List α} (f : α → V) : seqIndex? 0 ((x :: xs).map f).length = some 0 := by
  rw [List.length_map, List.length_cons]
  unfold seqIndex?
  simp
theorem iV_at0 {xs : List Int} {i : Nat} {b : Int} (h : xs[i]? = some b) : atI (iV xs) (0 + (i : Int)) = some (.int b) := by
  rw [show (0 : Int) + (i : Int) = (i : Int) by omega]
  exact iV_atI h
theorem cutB {xs : List Int} (h : By xs) (lo hi : Option Int) : ∃ ys, cutV (iV xs) lo hi = iV ys ∧ By ys ∧ ys.length ≤ xs.length := by
  refine ⟨(xs.drop (HT.sIx (iV xs).length 0 lo)).take (HT.sIx (iV xs).length (iV xs).length hi - HT.sIx (iV xs).length 0 lo), ?_, (h.drop _).take _, ?_⟩
  · unfold cutV
    rw [iV_take, iV_drop]
  · rw [List.length_take, List.length_drop]
    omega
/-- the check of a list -/
def spCheckL : Sp := fun vs H Q _ => ∃ (a : Addr) (ns : List Int), vs = [.ref a] ∧ H a = some (.lst (iV ns)) ∧ By ns ∧ ns.length ≤ big ∧ ∀ (H' : Hp) (p : Addr), Same H H' → Nw H H' p (check ns) → Q (.ref p) H'
/-- some new list of bytes, of at most twice as many and two -/
def spRunsL : Sp := fun vs H Q _ => ∃ (a : Addr) (ns : List Int), vs = [.ref a] ∧ H a = some (.lst (iV ns)) ∧ By ns ∧ ns.length ≤ 100000 ∧ ∀ (H' : Hp) (p : Addr) (xs : List Int), Same H H' → Nw H H' p xs → By xs → xs.length ≤ 2 * ns.length + 1 → Q (.ref p) H'
/-- what the law undoes -/
def spUndoneL : Sp := fun vs H Q _ => ∃ (a : Addr) (ns : List Int), vs = [.ref a] ∧ H a = some (.lst (iV ns)) ∧ By ns ∧ NZ ns ∧ ns.length ≤ big ∧ ∀ (H' : Hp) (v : V), Same H H' → optL H H' (unrun ns) v → Q v H'
theorem ixN_at {v : Int} {n : Nat} (h0 : 0 ≤ v) (h : v.toNat < n) : ixN n v = some v.toNat := by
  unfold ixN
  rw [if_pos h0, if_pos (by omega)]
theorem By.set {xs : List Int} (h : By xs) (i : Nat) {y : Int} (h0 : 0 ≤ y) (h1 : y ≤ 255) : By (xs.set i y) := fun b hb => by
  rcases List.mem_or_eq_of_mem_set hb with q | q
  · exact h b q
  · rw [q]
    exact ⟨h0, h1⟩
theorem iV_set (xs : List Int) (i : Nat) (y : Int) : (iV xs).set i (.int y) = iV (xs.set i y) := List.map_set.symm
/-- what the law tells of a piece -/
def spToldL : Sp := fun vs H Q _ => ∃ (a : Addr) (pl : Nat) (en : Bool) (ns : List Int), vs = [.ref a, .int (pl : Nat), .bl en] ∧ H a = some (.lst (iV ns)) ∧ By ns ∧ NZ ns ∧ ns.length ≤ big ∧ ∀ (H' : Hp) (v : V), Same H H' → TlAt H H' (if en = true then tell pl ns else .torn pl ns.length) v → Q v H'
/-- what is due of a stream -/
def spDueL : Sp := fun vs H Q _ => ∃ (d : Addr) (xs : List Int), vs = [.ref d] ∧ H d = some (.lst (iV xs)) ∧ By xs ∧ xs.length ≤ big ∧ ∀ (H' : Hp) (r : Addr) (ws : List V), Same H H' → H r = none → H' r = some (.lst ws) → Tls H H' (unstr xs) ws → Q (.ref r) H'
theorem pd_at {α β : Type} {F : α → β → Prop} : ∀ {xs : List α} {ys : List β} {i : Nat} {y : β}, Paired F xs ys → ys[i]? = some y → ∃ x, xs[i]? = some x ∧ F x y
  | _, _, 0, _, .cons h _, e => by
    cases e
    exact ⟨_, rfl, h⟩
  | _, _, i + 1, _, .cons _ t, e => by
    obtain ⟨x, h1, h2⟩ := pd_at (i := i) t (by simpa using e)
    exact ⟨x, by simpa using h1, h2⟩
theorem cutI (xs : List Int) (lo hi : Option Int) : ∃ ys, cutV (iV xs) lo hi = iV ys ∧ ys.length ≤ xs.length := by
  refine ⟨(xs.drop (HT.sIx (iV xs).length 0 lo)).take (HT.sIx (iV xs).length (iV xs).length hi - HT.sIx (iV xs).length 0 lo), ?_, ?_⟩
  · unfold cutV
    rw [iV_take, iV_drop]
  · rw [List.length_take, List.length_drop]
    omega
theorem eqv_int_refl (xs : List Int) : PyData.eqv (.list (xs.map PyData.int)) (.list (xs.map PyData.int)) = true := by
  rw [eqv_ints]
  exact decide_eq_true rfl
theorem tell_refl (t : Tell) : PyData.eqv (Tell.pd t) (Tell.pd t) = true := by
  cases t with
  | part pl bs =>
    have e := eqv_int_refl bs
    simp only [Tell.pd, PyData.eqv, PyData.eqvAll] at e ⊢
    simp [e]
  | torn pl n => simp [Tell.pd, PyData.eqv, PyData.eqvAll]
theorem tells_refl (ts : List Tell) : PyData.eqv (.list (ts.map Tell.pd)) (.list (ts.map Tell.pd)) = true := by
  have go : ∀ ts : List Tell, PyData.eqvAll (ts.map Tell.pd) (ts.map Tell.pd) = true := by
    intro ts
    induction ts with
    | nil => rfl
    | cons t r ih =>
      simp only [List.map_cons, PyData.eqvAll, tell_refl t, ih, Bool.and_self]
  have e := go ts
  simpa only [PyData.eqv] using e
def spLaw (K : PySem.W.Frag) : Sp := fun vs H Q _ => ∃ (a : Addr) (ns : List Int), vs = [.ref a] ∧ SqL K H a (ns.map V.int) ∧ ns.length ≤ 63 ∧ ∀ H', Q (.bl true) H'
/-- the facts of a class at C with __init__, as the top left it -/
structure ClIn (K : PySem.W.Frag) (C : Addr) (x : Str) : Prop where
  g : PySem.W.nsIn K mainGlobals x = some (some (.ref C))
  pg : PySem.W.plainGet K C Str.empty = true
  hd : PySem.W.hasDictIn K C = true
  po : PySem.W.plainOver K C = true
  sa : PySem.W.findIn K (.ref C) "__setattr__" = some (some (.builtin "object.__setattr__"))
  mks : PySem.W.makesIn K C = true
  kc : PySem.W.keepIn K (.ref C) = true
theorem ClIn.cls {K : PySem.W.Frag} {C : Addr} {x : Str} (c : ClIn K C x) : Cls K C := ⟨c.pg, c.hd, c.po, c.sa⟩
theorem gi_mk {K : PySem.W.Frag} {h : Heap} {mg : Str → Option Value} {x : Str} {n : Int} {t : Tok} (X : K.In h) (G : h.Ns mainGlobals mg) (g : PySem.W.nsIn K mainGlobals x = some (some (.int n t))) : Gi mg x n := ⟨_, PySem.W.mg_of X G g, _, rfl⟩
/-! ### list(x), tuple(x), in comprehensions too -/
def rListOf (K : PySem.W.Frag) : List V → Hp → VK → Prop := fun xs H Q => ∃ p ys, xs = [.ref p] ∧ (SqL K H p ys ∨ SqT K H p ys) ∧ ∀ l, H l = none → Q (.ref l) (upd H l (.lst ys))
def rTupOf (K : PySem.W.Frag) : List V → Hp → VK → Prop := fun xs H Q => ∃ p ys, xs = [.ref p] ∧ ((SqL K H p ys ∧ ∀ l, H l = none → Q (.ref l) (upd H l (.tup ys))) ∨ (SqT K H p ys ∧ Q (.ref p) H))
theorem cr_listK {X : Cx} : CallR X (.type "list") (rListOf X.K) := call_list_of
theorem cr_tupK {X : Cx} : CallR X (.type "tuple") (rTupOf X.K) := call_tuple_of
end Tw
/-! Sw: how a part is written, and that it is read back. -/
namespace Sb
/-- a stretch without zeros in runs -/
def encS (last : Bool) (seg : List Int) : List Int :=
  if 254 < seg.length ∨ (seg.length = 254 ∧ last = false) then 255 :: (seg.take 254 ++ encS last (seg.drop 254)) else (((seg.length : Nat) : Int) + 1) :: seg
termination_by seg.length
decreasing_by
  rw [List.length_drop]
  omega
theorem encS_full {last : Bool} {seg : List Int} (h : 254 < seg.length ∨ (seg.length = 254 ∧ last = false)) : encS last seg = 255 :: (seg.take 254 ++ encS last (seg.drop 254)) := by
  rw [encS, if_pos h]
theorem encS_end {last : Bool} {seg : List Int} (h : ¬ (254 < seg.length ∨ (seg.length = 254 ∧ last = false))) : encS last seg = (((seg.length : Nat) : Int) + 1) :: seg := by
  rw [encS, if_neg h]
theorem encS_ne (last : Bool) (seg : List Int) : encS last seg ≠ [] := by
  rw [encS]
  split <;> simp
/-- behind the stretch seg -/
def enc (seg : List Int) : List Int → List Int
  | [] => encS true seg
  | b :: r => if b = 0 then encS false seg ++ enc [] r else enc (seg ++ [b]) r
theorem enc_ne (seg xs : List Int) : enc seg xs ≠ [] := by
  cases xs with
  | nil => exact encS_ne _ _
  | cons b r =>
    by_cases h : b = 0
    · simp only [enc, if_pos h]
      intro e
      exact encS_ne _ _ (List.append_eq_nil_iff.mp e).1
    · simp only [enc, if_neg h]
      exact enc_ne (seg ++ [b]) r
theorem enc_nz {seg : List Int} (pre : List Int) (h : NZ seg) (r : List Int) : enc pre (seg ++ 0 :: r) = encS false (pre ++ seg) ++ enc [] r := by
  induction seg generalizing pre with
  | nil => simp [enc]
  | cons b t ih =>
    have hb : b ≠ 0 := h b (List.mem_cons_self ..)
    simp only [List.cons_append, enc, if_neg hb]
    rw [ih _ fun c hc => h c (List.mem_cons_of_mem _ hc)]
    simp
theorem enc_end {seg : List Int} (pre : List Int) (h : NZ seg) : enc pre seg = encS true (pre ++ seg) := by
  induction seg generalizing pre with
  | nil => simp [enc]
  | cons b t ih =>
    have hb : b ≠ 0 := h b (List.mem_cons_self ..)
    simp only [enc, if_neg hb]
    rw [ih _ fun c hc => h c (List.mem_cons_of_mem _ hc)]
    simp
theorem encS_len (last : Bool) (seg : List Int) : (encS last seg).length ≤ seg.length + seg.length / 254 + 1 := by
  rw [encS]
  split
  · rename_i h
    have l := encS_len last (seg.drop 254)
    rw [List.length_cons, List.length_append, List.length_take]
    rw [List.length_drop] at l
    omega
  · rw [List.length_cons]
    omega
termination_by seg.length
decreasing_by
  rw [List.length_drop]
  omega
theorem enc_len (seg xs : List Int) : (enc seg xs).length ≤ 2 * (seg.length + xs.length) + 1 := by
  induction xs generalizing seg with
  | nil =>
    have := encS_len true seg
    simp only [enc]
    have e : ([] : List Int).length = 0 := rfl
    omega
  | cons b r ih =>
    by_cases h : b = 0
    · simp only [enc, if_pos h, List.length_append, List.length_cons]
      have := encS_len false seg
      have := ih []
      have e : ([] : List Int).length = 0 := rfl
      omega
    · simp only [enc, if_neg h, List.length_cons]
      have := ih (seg ++ [b])
      rw [List.length_append] at this
      have e : [b].length = 1 := rfl
      omega
/-- bytes, none of them 0 -/
def Ps (xs : List Int) : Prop := ∀ b ∈ xs, 1 ≤ b ∧ b ≤ 255
theorem Ps.by {xs : List Int} (h : Ps xs) : By xs := fun b hb => by
  have := h b hb
  omega
theorem Ps.nz {xs : List Int} (h : Ps xs) : NZ xs := fun b hb => by
  have := h b hb
  omega
theorem Ps.of {xs : List Int} (h : By xs) (k : NZ xs) : Ps xs := fun b hb => by
  have := h b hb
  have := k b hb
  omega
theorem Ps.append {xs ys : List Int} (h : Ps xs) (k : Ps ys) : Ps (xs ++ ys) := fun b hb => (List.mem_append.mp hb).elim (h b) (k b)
theorem Ps.cons {x : Int} {xs : List Int} (h0 : 1 ≤ x ∧ x ≤ 255) (k : Ps xs) : Ps (x :: xs) := fun b hb => by
  rcases List.mem_cons.mp hb with rfl | h
  · exact h0
  · exact k b h
theorem Ps.take {xs : List Int} (h : Ps xs) (n : Nat) : Ps (xs.take n) := fun b hb => h b (List.mem_of_mem_take hb)
theorem Ps.drop {xs : List Int} (h : Ps xs) (n : Nat) : Ps (xs.drop n) := fun b hb => h b (List.mem_of_mem_drop hb)
theorem Ps.nil : Ps [] := fun _ h => by cases h
theorem encS_ps {last : Bool} {seg : List Int} (h : Ps seg) : Ps (encS last seg) := by
  rw [encS]
  split
  · exact .cons ⟨by decide, by decide⟩ ((h.take _).append (encS_ps (h.drop _)))
  · rename_i k
    exact .cons ⟨by omega, by omega⟩ h
termination_by seg.length
decreasing_by
  rw [List.length_drop]
  omega
theorem enc_ps {seg xs : List Int} (h : Ps seg) (k : By xs) : Ps (enc seg xs) := by
  induction xs generalizing seg with
  | nil => exact encS_ps h
  | cons b r ih =>
    have hb := k b (List.mem_cons_self ..)
    have hr : By r := fun c hc => k c (List.mem_cons_of_mem _ hc)
    by_cases e : b = 0
    · simp only [enc, if_pos e]
      exact (encS_ps h).append (ih .nil hr)
    · simp only [enc, if_neg e]
      exact ih (h.append (.cons ⟨by omega, by omega⟩ .nil)) hr

/-! ### undone again -/
/-- as undo, and refused where a run of none stands at the end behind a full one -/
def undoA : Nat → Int → List Int → List Int → Option (List Int)
  | 0, _, acc, _ => some acc
  | _ + 1, _, acc, [] => some acc
  | f + 1, ah, acc, n :: r =>
    if r.length + 1 < n.toNat then none
    else if n = 1 ∧ ah = 255 ∧ r = [] then none
    else undoA f n (acc ++ r.take (n.toNat - 1) ++ if n < 255 ∧ n.toNat < r.length + 1 then [0] else []) ((n :: r).drop n.toNat)
theorem undoA_nil (f : Nat) (ah : Int) (acc : List Int) : undoA f ah acc [] = some acc := by cases f <;> rfl
/-- where undoA tells something, undo tells it -/
theorem undo_of {f : Nat} {ah : Int} {acc p w : List Int} (h : undoA f ah acc p = some w) : undo f acc p = some w := by
  induction f generalizing ah acc p with
  | zero => exact h
  | succ f ih =>
    cases p with
    | nil => exact h
    | cons n r =>
      simp only [undoA] at h
      simp only [undo]
      split at h
      · cases h
      · rename_i h1
        rw [if_neg h1]
        split at h
        · cases h
        · exact ih h
/-- a written run, behind it something -/
theorem undoA_run {f : Nat} {ah n : Int} {acc seg t : List Int} (hn : n = ((seg.length : Nat) : Int) + 1) (hl : seg.length ≤ 254) (hz : ¬ (n = 1 ∧ ah = 255 ∧ t = [])) :
    undoA (f + 1) ah acc (n :: (seg ++ t)) = undoA f n (acc ++ seg ++ if n < 255 ∧ t ≠ [] then [0] else []) t := by
  have en : n.toNat = seg.length + 1 := by omega
  have e1 : ¬ ((seg ++ t).length + 1 < n.toNat) := by rw [List.length_append, en]; omega
  have e2 : ¬ (n = 1 ∧ ah = 255 ∧ seg ++ t = []) := fun q => hz ⟨q.1, q.2.1, (List.append_eq_nil_iff.mp q.2.2).2⟩
  have e3 : (seg ++ t).take (n.toNat - 1) = seg := by rw [en, Nat.add_sub_cancel, List.take_left']; rfl
  have e4 : (n :: (seg ++ t)).drop n.toNat = t := by
    rw [en, List.drop_succ_cons, List.drop_left']
    rfl
  have e5 : (if n < 255 ∧ n.toNat < (seg ++ t).length + 1 then [(0 : Int)] else []) = if n < 255 ∧ t ≠ [] then [0] else [] := by
    rw [List.length_append, en]
    cases t with
    | nil => simp
    | cons x t => simp
  simp only [undoA]
  rw [if_neg e1, if_neg e2, e3, e4, e5]
theorem undoA_encS {last : Bool} {seg : List Int} {f : Nat} {ah : Int} {acc t : List Int} (ht : last = true ↔ t = []) (ha : seg = [] → last = true → ah ≠ 255) (hf : (encS last seg ++ t).length ≤ f) :
    ∃ f' ah', t.length ≤ f' ∧ (last = false → ah' ≠ 255) ∧ undoA f ah acc (encS last seg ++ t) = undoA f' ah' (acc ++ seg ++ if t = [] then [] else [0]) t := by
  by_cases h : 254 < seg.length ∨ (seg.length = 254 ∧ last = false)
  · have el : (seg.take 254).length = 254 := by rw [List.length_take]; omega
    rw [encS_full h] at hf ⊢
    cases f with
    | zero => simp at hf
    | succ f =>
      have e0 : (255 :: (seg.take 254 ++ encS last (seg.drop 254))) ++ t = 255 :: (seg.take 254 ++ (encS last (seg.drop 254) ++ t)) := by simp
      rw [e0] at hf ⊢
      rw [undoA_run (by rw [el]; rfl) (by rw [el]; exact Nat.le_refl _) (fun q => absurd q.1 (by decide))]
      rw [if_neg (fun q => absurd q.1 (by decide)), List.append_nil]
      have hf2 : (encS last (seg.drop 254) ++ t).length ≤ f := by
        rw [List.length_cons, List.length_append] at hf
        omega
      obtain ⟨f', ah', h1, h2, h3⟩ := undoA_encS (seg := seg.drop 254) (ah := 255) (acc := acc ++ seg.take 254) ht (fun e l => by
        have := congrArg List.length e
        rw [List.length_drop] at this
        rcases h with h | h
        · simp at this
          omega
        · rw [h.2] at l
          cases l) hf2
      refine ⟨f', ah', h1, h2, ?_⟩
      rw [h3, List.append_assoc acc, List.take_append_drop]
  · rw [encS_end h] at hf ⊢
    cases f with
    | zero => simp at hf
    | succ f =>
      have hl : seg.length ≤ 254 := by omega
      have e0 : ((((seg.length : Nat) : Int) + 1) :: seg) ++ t = (((seg.length : Nat) : Int) + 1) :: (seg ++ t) := rfl
      rw [e0] at hf ⊢
      have hz : ¬ (((seg.length : Nat) : Int) + 1 = 1 ∧ ah = 255 ∧ t = []) := fun q => ha (List.length_eq_zero_iff.mp (by omega)) (ht.mpr q.2.2) q.2.1
      rw [undoA_run rfl hl hz]
      have e6 : (if ((seg.length : Nat) : Int) + 1 < 255 ∧ t ≠ [] then [(0 : Int)] else []) = if t = [] then [] else [0] := by
        by_cases c : t = []
        · rw [if_pos c, if_neg fun q => q.2 c]
        · have l : last = false := by
            cases hq : last with
            | false => rfl
            | true => exact absurd (ht.mp hq) c
          have : ¬ seg.length = 254 := fun e => h (.inr ⟨e, l⟩)
          rw [if_neg c, if_pos ⟨by omega, c⟩]
      rw [e6]
      refine ⟨f, ((seg.length : Nat) : Int) + 1, ?_, fun l => ?_, rfl⟩
      · rw [List.length_cons, List.length_append] at hf
        omega
      · intro e
        exact h (.inr ⟨by omega, l⟩)
termination_by seg.length
decreasing_by
  rw [List.length_drop]
  omega
theorem undoA_enc {seg xs : List Int} {f : Nat} {ah : Int} {acc : List Int} (ha : ah ≠ 255) (hf : (enc seg xs).length ≤ f) : undoA f ah acc (enc seg xs) = some (acc ++ seg ++ xs) := by
  induction xs generalizing seg f ah acc with
  | nil =>
    simp only [enc] at hf ⊢
    have hf' : (encS true seg ++ []).length ≤ f := by rw [List.append_nil]; exact hf
    obtain ⟨f', ah', h1, h2, h3⟩ := undoA_encS (acc := acc) (t := []) (by simp) (fun _ _ => ha) hf'
    rw [List.append_nil] at h3
    rw [h3, undoA_nil]
    simp
  | cons b r ih =>
    by_cases h : b = 0
    · simp only [enc, if_pos h] at hf ⊢
      obtain ⟨f', ah', h1, h2, h3⟩ := undoA_encS (acc := acc) (t := enc [] r) (by
        constructor
        · intro q
          cases q
        · intro q
          exact absurd q (enc_ne _ _)) (fun _ q => by cases q) hf
      rw [h3, ih (h2 rfl) h1, if_neg (enc_ne _ _), h]
      simp
    · simp only [enc, if_neg h] at hf ⊢
      rw [ih ha hf]
      simp
theorem unrun_enc (xs : List Int) : unrun (enc [] xs) = some xs := by
  have h := undoA_enc (seg := []) (xs := xs) (ah := 0) (acc := []) (by decide) (Nat.le_refl _)
  have := undo_of h
  simpa [unrun] using this

/-! ### streams -/
def whole (p : List Int) : List Int := p ++ check p
def piece (p : List Int) : List Int := enc [] (whole p)
def strm (ps : List (List Int)) : List Int := (ps.map fun p => piece p ++ [0]).flatten
theorem whole_by {p : List Int} (h : By p) : By (whole p) := h.append (check_by p)
theorem whole_len (p : List Int) : (whole p).length = p.length + 4 := by
  unfold whole
  rw [List.length_append, check_length]
theorem piece_ps {p : List Int} (h : By p) : Ps (piece p) := enc_ps .nil (whole_by h)
theorem piece_ne (p : List Int) : piece p ≠ [] := enc_ne _ _
theorem piece_len (p : List Int) : (piece p).length ≤ 2 * p.length + 9 := by
  have := enc_len [] (whole p)
  rw [whole_len] at this
  have e : ([] : List Int).length = 0 := rfl
  unfold piece
  omega
theorem strm_append (ps qs : List (List Int)) : strm (ps ++ qs) = strm ps ++ strm qs := by simp [strm]
theorem strm_cons (p : List Int) (ps : List (List Int)) : strm (p :: ps) = piece p ++ 0 :: strm ps := by simp [strm]
theorem strm_one (p : List Int) : strm [p] = piece p ++ [0] := by simp [strm]
theorem strm_by {ps : List (List Int)} (h : ∀ p ∈ ps, By p) : By (strm ps) := by
  induction ps with
  | nil => exact .nil
  | cons p r ih =>
    rw [strm_cons]
    refine ((piece_ps (h p (List.mem_cons_self ..))).by).append (.cons (by decide) (by decide) (ih fun q hq => h q (List.mem_cons_of_mem _ hq)))
/-- a written part is told whole -/
theorem tell_piece (pl : Nat) (p : List Int) : tell pl (piece p) = .part pl p := by
  unfold tell piece
  rw [unrun_enc]
  have e1 : (whole p).length - 4 = p.length := by rw [whole_len]; omega
  have e2 : (whole p).take p.length = p := by unfold whole; rw [List.take_left']; rfl
  have e3 : (whole p).drop p.length = check p := by unfold whole; rw [List.drop_left']; rfl
  show (if 4 ≤ (whole p).length ∧ _ then _ else _) = _
  rw [e1, e2, e3, if_pos ⟨by rw [whole_len]; omega, rfl⟩]
theorem goes_piece (pl : Nat) {p : List Int} (h : By p) (r : List Int) : goes [] pl (piece p ++ 0 :: r) = (.part pl p :: (goes [] (pl + (piece p).length + 1) r).1, (goes [] (pl + (piece p).length + 1) r).2) := by
  rw [goes_zero (piece_ps h).nz, List.nil_append, if_neg (piece_ne p), tell_piece]
  rfl
theorem undoA_at {ns acc : List Int} {a k f : Nat} {ah : Int} (h : ns[a]? = some (k : Int)) (hk : 1 ≤ k) (hf : ns.length - a ≤ f) :
    ∃ f', ns.length - (a + k) ≤ f' ∧ undoA f ah acc (ns.drop a) = if ns.length < a + k then none else if k = 1 ∧ ah = 255 ∧ a + 1 = ns.length then none else
      undoA f' (k : Int) (acc ++ (ns.drop (a + 1)).take (k - 1) ++ if (k : Int) < 255 ∧ a + k < ns.length then [0] else []) (ns.drop (a + k)) := by
  have ha : a < ns.length := (List.getElem?_eq_some_iff.mp h).1
  have e : ns.drop a = (k : Int) :: ns.drop (a + 1) := by
    rw [List.drop_eq_getElem_cons ha]
    have := (List.getElem?_eq_some_iff.mp h).2
    rw [this]
  cases f with
  | zero => omega
  | succ f =>
    refine ⟨f, by omega, ?_⟩
    have e2 : ((k : Int) :: ns.drop (a + 1)).drop k = ns.drop (a + k) := by
      rw [← e, List.drop_drop]
    rw [e]
    simp only [undoA, Int.toNat_natCast]
    rw [e2, List.length_drop]
    by_cases c : ns.length < a + k
    · rw [if_pos c, if_pos (by omega)]
    · rw [if_neg c, if_neg (by omega)]
      have e4 : ((k : Int) = 1 ∧ ah = 255 ∧ ns.drop (a + 1) = []) ↔ (k = 1 ∧ ah = 255 ∧ a + 1 = ns.length) := by
        constructor
        · rintro ⟨h1, h2, h3⟩
          have := congrArg List.length h3
          rw [List.length_drop] at this
          simp at this
          exact ⟨by omega, h2, by omega⟩
        · rintro ⟨h1, h2, h3⟩
          exact ⟨by omega, h2, List.drop_of_length_le (by omega)⟩
      by_cases d2 : k = 1 ∧ ah = 255 ∧ a + 1 = ns.length
      · rw [if_pos d2, if_pos (e4.mpr d2)]
      · rw [if_neg d2, if_neg (fun q => d2 (e4.mp q))]
        have e3 : (if (k : Int) < 255 ∧ k < ns.length - (a + 1) + 1 then [(0 : Int)] else []) = if (k : Int) < 255 ∧ a + k < ns.length then [0] else [] := by
          by_cases d : (k : Int) < 255 ∧ a + k < ns.length
          · rw [if_pos d, if_pos ⟨d.1, by omega⟩]
          · rw [if_neg d, if_neg (fun q => d ⟨q.1, by omega⟩)]
        rw [e3]
theorem undoA_piece (p : List Int) : undoA (piece p).length 0 [] (piece p) = some (whole p) := by
  have h := undoA_enc (seg := []) (xs := whole p) (ah := 0) (acc := []) (by decide) (Nat.le_refl _)
  simpa [piece] using h
/-- cut at the zeros: the pieces that a zero ends, and what is left -/
def cutz : List Int → List Int → List (List Int) × List Int
  | pc, [] => ([], pc)
  | pc, b :: r => if b = 0 then (pc :: (cutz [] r).1, (cutz [] r).2) else cutz (pc ++ [b]) r
theorem cutz_zero {seg : List Int} (h : NZ seg) (pc r : List Int) : cutz pc (seg ++ 0 :: r) = ((pc ++ seg) :: (cutz [] r).1, (cutz [] r).2) := by
  induction seg generalizing pc with
  | nil => simp [cutz]
  | cons b t ih =>
    have hb : b ≠ 0 := h b (List.mem_cons_self ..)
    simp only [List.cons_append, cutz, if_neg hb]
    rw [ih fun c hc => h c (List.mem_cons_of_mem _ hc)]
    simp
theorem cutz_strm {ps : List (List Int)} (h : ∀ p ∈ ps, By p) : cutz [] (strm ps) = (ps.map piece, []) := by
  induction ps with
  | nil => rfl
  | cons p r ih =>
    rw [strm_cons, cutz_zero (piece_ps (h p (List.mem_cons_self ..))).nz, ih fun q hq => h q (List.mem_cons_of_mem _ hq)]
    rfl
end Sb
/-! TwR: a row walked, list or tuple; what writing streams promises. -/
namespace Tw
open PySem PySem.Spec PyProof.Rows L2 Sb
def ItR (K : PySem.W.Frag) (a : Addr) (b : Bool) : It := if b = true then Itt K a else Itl K a
def iRow (K : PySem.W.Frag) (tl : TE) : TI := fun σ H R => tl σ H fun x H1 => ∃ a xs, x = .ref a ∧ SqR K H1 a xs ∧ ∀ b, (b = true → SqT K H1 a xs) → (b = false → SqL K H1 a xs) → R (ItR K a b) H1
theorem pi_row {X : Cx} {tg l : Expr} {tl : TE} (he : PE X l tl) : PI X tg l (iRow X.K tl) := by
  refine ⟨fun pins s σ H R I h => thn (he.run pins s σ H _ I h) fun v s1 hh => ?_⟩
  obtain ⟨x, H1, I1, rx, a, xs, rfl, hr, q⟩ := hh
  cases rx
  have fp : ∀ b ∈ [s1.heap.objs.size], FpOk X pins H1 b := fun b hb => by
    have e : b = s1.heap.objs.size := by simpa using hb
    rw [e]
    exact I1.fpOk (Nat.le_refl _) (I1.hok.fresh (Nat.le_refl _))
  rcases hr with hr | hr
  · obtain ⟨its, _, pl, _⟩ := I1.list hr
    exact wpAny_pyIter_list pl.isList ⟨s1.heap.objs.size, [s1.heap.objs.size], _, Itl X.K a, H1, rfl, I1.kept (t' := s1.toks) fun b o e => Heap.get?_push_of_some _ e, turn_list a _, ⟨_, Heap.get?_push_size _ rfl, rfl, rfl⟩, fp, q false (fun z => nomatch z) fun _ => hr⟩
  · obtain ⟨its, _, pl, _⟩ := I1.tuple hr
    exact wpAny_pyIter_tuple (show s1.heap.IsTuple a its.toArray from pl) ⟨s1.heap.objs.size, [s1.heap.objs.size], _, Itt X.K a, H1, rfl, I1.kept (t' := s1.toks) fun b o e => Heap.get?_push_of_some _ e, turn_tuple a _, ⟨_, Heap.get?_push_size _ rfl, rfl, rfl⟩, fp, q true (fun _ => hr) fun z => nomatch z⟩
theorem walk_row {K : PySem.W.Frag} {a : Addr} {xs : List V} {b : Bool} : Walk (ItR K a b) xs.length (fun H => if b = true then SqT K H a xs else SqL K H a xs) (YAt xs) := by
  cases b with
  | true => exact walk_tup
  | false => exact walk_list
theorem SqR.star {K : PySem.W.Frag} {H : Hp} {a : Addr} {xs : List V} (h : Rw H a xs) : SqT K H a xs ∨ SqL K H a xs := h.elim (fun h => .inr (SqL.of h)) (fun h => .inl (SqT.of h))
/-- the runs of a whole -/
def spWz : Sp := fun vs H Q _ => ∃ (a : Addr) (xs : List Int), vs = [.ref a] ∧ H a = some (.lst (iV xs)) ∧ By xs ∧ xs.length ≤ 200000 ∧ ∀ (H' : Hp) (p : Addr), Same H H' → Nw H H' p (enc [] xs) → Q (.ref p) H'
/-- rows of bytes -/
def PartAt (H : Hp) (p : List Int) (v : V) : Prop := ∃ r, v = .ref r ∧ Rw H r (iV p) ∧ By p ∧ p.length ≤ 100000
theorem PartAt.same {H H' : Hp} {p : List Int} {v : V} (h : PartAt H p v) (s : Same H H') : PartAt H' p v := by
  obtain ⟨r, e, h1, h2, h3⟩ := h
  exact ⟨r, e, h1.same s, h2, h3⟩
def spStrm : Sp := fun vs H Q _ => ∃ (a : Addr) (ps : List (List Int)) (ws : List V), vs = [.ref a] ∧ Rw H a ws ∧ Paired (PartAt H) ps ws ∧ (strm ps).length ≤ big ∧ ∀ (H' : Hp) (r : Addr), Same H H' → Nw H H' r (strm ps) → Q (.ref r) H'
theorem strm_take_len (ps : List (List Int)) (k : Nat) : (strm (ps.take k)).length ≤ (strm ps).length := by
  have e := congrArg List.length (strm_append (ps.take k) (ps.drop k))
  rw [List.take_append_drop, List.length_append] at e
  omega
theorem SqT.at_ {K : PySem.W.Frag} {H H' : Hp} {a : Addr} {xs : List V} (k : ∀ o, H a = some o → H' a = some o) (h : SqT K H a xs) : SqT K H' a xs := by
  rcases h with (h | ⟨o, h⟩) | h
  · exact .inl (.inl (k _ h))
  · exact .inl (.inr ⟨o, k _ h⟩)
  · exact .inr h
theorem SqL.at_ {K : PySem.W.Frag} {H H' : Hp} {a : Addr} {xs : List V} (k : ∀ o, H a = some o → H' a = some o) (h : SqL K H a xs) : SqL K H' a xs := by
  rcases h with (h | ⟨o, h⟩) | h
  · exact .inl (.inl (k _ h))
  · exact .inl (.inr ⟨o, k _ h⟩)
  · exact .inr h
/-- what stands at a row's place stays while the row stays -/
theorem Rw.keeps {H H0 H' : Hp} {a : Addr} {xs : List V} (h : Rw H a xs) (s : Same H H0) (s' : Same H H') : ∀ o, H0 a = some o → H' a = some o := fun o e => by
  rcases h with h | h
  · rw [s _ _ h] at e
    rw [← e]
    exact s' _ _ h
  · rw [s _ _ h] at e
    rw [← e]
    exact s' _ _ h
end Tw
/-! TwX: a list grows by a row; slices of rows. -/
namespace Tw
open PySem PySem.Spec PyProof.Rows L2 Sb
open AutoSeq1 (wpAny_loadPart')
section
theorem ext_tup (l : Addr) (ia : Array Value) (n : Nat) (b : Addr) (ib : Array Value) (m : Nat) (dd : Option Addr) (ss : Array (Option Value)) (h0 : ¬(!ia.isEmpty && Builtin.List.listTooLong (ia.size + ib.size)) = true) (h1 : ia.size ≤ sizeLine) (h2 : ia.size + ib.size ≤ sizeLine + 1) :
    Meets (Builtin.«list.extend» ⟨[.ref l, .ref b], []⟩) (fun _ R z => z.heap.get? l = some { cls := .type "list", dict := none, data := .seq ia n, slots := #[] } ∧ z.heap.get? b = some { cls := .type "tuple", dict := dd, data := .seq ib m, slots := ss } ∧
      R (.ok (.ret Value.none)) { z with heap := z.heap.update l (Obj.mapSeq fun x => x ++ ib), toks := z.toks }) := by
  refine .of_wp fun pg wo Ar R z hz => ?_
  obtain ⟨hp, g, d, tk, os⟩ := z
  obtain ⟨hl, hb, h⟩ := hz
  have k1 := AutoSeq1.idx_int
  have k2 := AutoSeq1.sub_tuple_tuple
  have k3 := AutoSeq1.sub_list_list
  have k4 := AutoSeq1.sub_tuple_list
  have k5 := AutoSeq1.sub_list_tuple
  have k6 : (ia ++ ib).size ≤ sizeLine + 1 := by
    rw [Array.size_append]
    exact h2
  wp_walk using (PySem.wpAny_updateSeq hl rfl (hz := h1) (_hz' := k6)), wpAny_loadPart' hl, wpAny_loadPart' hb
  exact ⟨_, rfl, h⟩
end
def rExtR : V → List V → Hp → VK → Prop := fun x vs H Q => ∃ l b xs zs, x = .ref l ∧ vs = [.ref b] ∧ H l = some (.lst xs) ∧ Rw H b zs ∧ xs.length + zs.length ≤ sizeLine ∧ Q .non (upd H l (.lst (xs ++ zs)))
theorem mt_extR {X : Cx} : MtM X "list.extend" rExtR := by
  rintro pins s σ H x vs v us Q I rx rv ⟨l, b, xs, zs, rfl, rfl, hH, hB, hz, q⟩
  rcases hB with hB | hB
  · exact mt_extend pins s σ H (.ref l) [.ref b] v us Q I rx rv ⟨l, b, xs, zs, rfl, rfl, hH, hB, hz, q⟩
  · cases rx
    obtain ⟨u, rfl, ru⟩ := rv.one
    cases ru
    obtain ⟨z, its, n, r, hl, e⟩ := I.lstM hH
    obtain ⟨its2, r2, ⟨⟨c2, d2, dt2, sl2⟩, e2, hc2, m, hd2⟩, _⟩ := I.tuple (SqT.of (K := X.K) hB)
    replace hc2 : c2 = .type "tuple" := hc2
    replace hd2 : dt2 = .seq its2.toArray m := hd2
    subst hc2 hd2
    have l2 := r2.length
    have sz : its.toArray.size + its2.toArray.size ≤ sizeLine := by
      rw [List.size_toArray, List.size_toArray]
      omega
    have lg : ¬ (!its.toArray.isEmpty && Builtin.List.listTooLong (its.toArray.size + its2.toArray.size)) = true := by
      rw [notLongL sz, Bool.and_false]
      exact Bool.false_ne_true
    refine call_meets F.slot_list_extend ⟨_, e, rfl⟩ F.entry_list_extend (F.args_list_extend_2 _ _) (ext_tup l its.toArray n b its2.toArray m d2 sl2 lg (by rw [List.size_toArray]; omega) (by omega)) ⟨e, e2, .non, _, I.lset (its' := its ++ its2) hH e (by simp) (r.append r2) ?_, rfl, q⟩
    rw [List.length_append]
    omega
/-- a slice of a row is a row -/
def rSlR : V → Option Int → Option Int → Hp → VK → Prop := fun x lo hi H Q => ∃ a xs, x = .ref a ∧ Rw H a xs ∧ ∀ (H' : Hp) (t : Addr), Same H H' → Rw H' t (cutV xs lo hi) → Q (.ref t) H'
theorem sl_row {X : Cx} : SlR X rSlR := by
  intro pins s σ H x v vl vu lo hi sl Q I rx hs pl pu h
  refine SlR.or (sl_list (X := X)) (sl_tupA (X := X)) pins s σ H x v vl vu lo hi sl Q I rx hs pl pu ?_
  obtain ⟨a, xs, rfl, hr, q⟩ := h
  rcases hr with hr | hr
  · exact .inl ⟨a, xs, rfl, SqL.of hr, fun p hp => q _ p (same_upd hp) (.inl upd_same)⟩
  · refine .inr ⟨a, xs, rfl, SqT.of hr, fun e => q H a (Same.refl _) ?_, fun _ p hp => q _ p (same_upd hp) (.inr upd_same)⟩
    have c : cutV xs lo hi = xs := by
      unfold cutV
      rw [e.1, e.2, List.drop_zero, Nat.sub_zero, List.take_length]
    rw [c]
    exact .inr hr
def spFFeedR (C : Addr) : Sp := fun vs H Q _ => ∃ (p d l : Addr) (rest xs : List Int) (pl : Nat), vs = [.ref p, .ref d] ∧ FdAt C H p l rest pl ∧ Rw H d (iV xs) ∧ d ≠ l ∧ By rest ∧ NZ rest ∧ By xs ∧ rest.length + xs.length ≤ big ∧
  ∀ (H' : Hp) (l' r : Addr) (ws : List V), But p l H H' → FdAt C H' p l' (goes rest pl xs).2.1 (goes rest pl xs).2.2 → (l' = l ∨ H l' = none) → H r = none → r ≠ l' → H' r = some (.lst ws) → Tls (upd (upd H r (.lst [])) l' (.lst [])) H' (goes rest pl xs).1 ws → Q (.ref r) H'
def spUnstR : Sp := fun vs H Q _ => ∃ (d : Addr) (xs : List Int), vs = [.ref d] ∧ Rw H d (iV xs) ∧ By xs ∧ xs.length ≤ big ∧ ∀ (H' : Hp) (r : Addr) (ws : List V), Same H H' → H r = none → H' r = some (.lst ws) → Tls (upd H r (.lst [])) H' (unstr xs) ws → Q (.ref r) H'
theorem Rw.ne {H : Hp} {a p : Addr} {xs : List V} {o : HO} (h : Rw H a xs) (e : H p = some o) (n1 : ∀ ys, o ≠ .lst ys) (n2 : ∀ ys, o ≠ .tup ys) : a ≠ p := fun w => by
  rcases h with h | h
  · rw [w, e] at h
    exact n1 _ (Option.some.inj h)
  · rw [w, e] at h
    exact n2 _ (Option.some.inj h)
theorem Rw.at_ {H H' : Hp} {a : Addr} {xs : List V} (h : Rw H a xs) (k : ∀ o, H a = some o → H' a = some o) : Rw H' a xs := h.elim (fun h => .inl (k _ h)) (fun h => .inr (k _ h))
theorem Rw.some {H : Hp} {a : Addr} {xs : List V} (h : Rw H a xs) (e : H a = none) : False := by
  rcases h with h | h
  · rw [h] at e
    cases e
  · rw [h] at e
    cases e
end Tw
/-! TwE: what is no bytes; the error that is raised of it. -/
namespace Tw
open PySem PySem.Spec PyProof.Rows L2 Sb
/-- a thing out of a row: is it a byte? -/
inductive ElT (H : Hp) : V → Bool → Prop
  | int (n : Int) : ElT H (.int n) (decide (0 ≤ n) && decide (n ≤ 255))
  | bl (c : Bool) : ElT H (.bl c) false
  | non : ElT H .non false
  | str (s : Str) : ElT H (.str s) false
  | row {a : Addr} {xs : List V} : Rw H a xs → ElT H (.ref a) false
theorem ElT.same {H H' : Hp} {x : V} {b : Bool} (h : ElT H x b) (s : Same H H') : ElT H' x b := by
  cases h with
  | int n => exact .int n
  | bl c => exact .bl c
  | non => exact .non
  | str z => exact .str z
  | row h => exact .row (h.same s)
/-- a thing: is it a row of bytes? -/
inductive ByT (H : Hp) : V → Bool → Prop
  | row {a : Addr} {xs : List V} {bs : List Bool} : Rw H a xs → Paired (ElT H) xs bs → xs.length ≤ big → ByT H (.ref a) (bs.all id)
  | int (n : Int) : ByT H (.int n) false
  | bl (c : Bool) : ByT H (.bl c) false
  | non : ByT H .non false
  | str (s : Str) : ByT H (.str s) false
theorem ByT.same {H H' : Hp} {x : V} {b : Bool} (h : ByT H x b) (s : Same H H') : ByT H' x b := by
  cases h with
  | row h p l => exact .row (h.same s) (pd_mono (fun _ _ q => q.same s) p) l
  | int n => exact .int n
  | bl c => exact .bl c
  | non => exact .non
  | str z => exact .str z
def spBytesG : Sp := fun vs H Q _ => ∃ (v : V) (b : Bool), vs = [v] ∧ ByT H v b ∧ ∀ H', Same H H' → Q (.bl b) H'
/-- the error of the class at C, told why -/
def spRefuseX (C : Addr) : Sp := fun vs H Q E => ∃ (v : V) (b : Bool), vs = [v] ∧ ByT H v b ∧ (b = true → ∀ H', Same H H' → Q .non H') ∧
  (b = false → ∀ (H' : Hp) (d : Addr), Same H H' → H d = none → H' d = some (.xd [(("why" : Str), .str "wire")]) → E (.ref C) (some d) H')
def spNbInit (C : Addr) : Sp := fun vs H Q _ => ∃ (a : Addr) (y : V), vs = [.ref a, y] ∧ H a = some (exo a C none) ∧ ∀ dx, H dx = none → dx ≠ a → Q .non (upd (upd H dx (exd dx [(("why" : Str), y)])) a (exo a C (some dx)))
/-- what the top says of the error's class -/
structure NbC (K : PySem.W.Frag) (mg : Str → Option Value) (x : Str) (C fI : Addr) : Prop where
  oex : OexC K C
  g : mg x = some (.ref C)
  iC : PySem.W.findIn K (.ref C) "__init__" = some (some (.ref fI))
  tI : PySem.W.typeIn K (.ref fI) = some (.type "function")
  no : PySem.W.findIn K (.ref C) "why" = some none
end Tw
/-! TwF: calls that may raise, inside of a try or out of a def; isinstance of a caught error that has fields. -/
namespace Tw
open PySem PySem.Spec PyProof.Rows L2 Sb
section
variable {X : Cx} {CX : CXT} {k j : Nat} {f C : Addr} {fd : FuncData} {ps : List Str} {sp : Sp} {E : L2.St → XK} {x m : Str} {p pos apos : Pos} {e o : Expr} {es : List Expr} {to : TE} {t : TA}
/-- the reading of o.m(..), what it lets out told at the slots -/
def tMethA (C : Addr) (m : Str) (sp : Sp) (E : L2.St → XK) (to : TE) (t : TA) : TE := fun σ H Q => to σ H fun x H1 => ∃ a dx fs, x = .ref a ∧ H1 a = some (.ins C dx fs) ∧ fs.lookup m = none ∧ t σ H1 fun vs H2 => sp (x :: vs) H2 Q (E σ)
theorem pe_methA {pl : Sem Bool} (ho : PE X o to) (c : Cls X.K C) (hm : Meth X.K C m f) (F : FnOk X.prog X.w X.K X.mg X.base CX k f fd ps sp) (hr : Room k X.A) (hb : Binds X.K fd ps []) (hx : ∀ σ, PassesAt CX X σ (E σ)) (ha : PA X (e :: es) t)
    (hst : starEach (e :: es) X.env = (false, eval e X.env) :: starEach es X.env := by rfl) (hpl : (backTo pos (starEach es X.env)).any (·.1) = false := by rfl)
    (ht : eval (.Call (.Attribute o m apos) (e :: es) [] pos) X.env = (do
      let ov ← eval o X.env
      standAt apos.atName
      let (f, first) ← holding [ov] (getMethod ov m pl)
      callWith pos f first (backTo pos (starEach (e :: es) X.env)) (backToKw pos (keywordEach [] X.env))) := by rfl) :
    PE X (.Call (.Attribute o m apos) (e :: es) [] pos) (tMethA C m sp E to t) := ⟨fun pins s σ H Q I h =>
  PySem.W.methodCall_KW (pl := pl) (thn (ho.run pins s σ H _ I h) fun u s1 z => by
    obtain ⟨y, H1, I1, ry, a, dx, fs, rfl, ea, l, q⟩ := z
    obtain rfl : u = Value.ref a := ry
    exact getmeth_ok I1 ea c hm l (PySem.W.callWith_K (first := [.ref a]) (h₀ := X.base) I.ok.mod.kin hm.kp (thn (ha.run pos pins s1 σ H1 _ I1 q) fun us s2 z2 => by
      obtain ⟨vs, H2, I2, r, q2⟩ := z2
      exact ⟨I2.kIn, run_fnS (us := .ref a :: us) (vs := .ref a :: vs) F hr hb (hx σ) I2 (.cons rfl r) q2⟩) hst hpl)) ht⟩
/-- a def of the module that may raise -/
structure CalX (P : Program) (w : World) (K : PySem.W.Frag) (mg : Str → Option Value) (base : Heap) (k : Nat) (x : Str) (ps : List Str) (sp : Sp) : Prop where
  ex : ∃ (f : Addr) (fd : FuncData), FnOk P w K mg base (L2.CX P w) k f fd ps sp ∧ mg x = some (.ref f) ∧ PySem.W.keepIn K (.ref f) = true ∧ Binds K fd ps []
theorem pe_calX {W : WX} (c : CalX X.prog X.w X.K X.mg X.base k x ps sp) (hr : Room j X.A) (hk : k ≤ j) (hg : Gl X x) (tk : Takes X W) (ha : PA X (e :: es) t)
    (hdb : (x == ("__debug__" : Str)) = false := by decide) (he : starEach (e :: es) X.env = (false, eval e X.env) :: starEach es X.env := by rfl) (hpl : (backTo pos (starEach es X.env)).any (·.1) = false := by rfl) :
    PE X (.Call (.Name x p) (e :: es) [] pos) (tCallS sp (WE W) t) := by
  obtain ⟨f, fd, F, hm, kp, b⟩ := c.ex
  exact pe_callS F (hr.mono hk) hg hm kp b (fun σ => passAt tk σ) ha hdb he hpl
theorem calX_mk {P : Program} {w : World} {K : PySem.W.Frag} {mg : Str → Option Value} {base h : Heap} {st : Stmt} (D : DefIn K x st) (X : K.In h) (G : h.Ns mainGlobals mg)
    (b : ∀ (kV doc pm : Value) (an : Option Addr) (cdv ct : Value) (us : List Value), us.length = ps.length → bindArgs (PySem.W.fnOf x x (defArgs st) (defBody st) (defScope st) .none kV doc pm an cdv ct) ⟨us, []⟩ = pure (ps.zip us))
    (ok : ∀ (f : Addr) (fd : FuncData), Fun K x x st f fd → FnOk P w K mg base (L2.CX P w) k f fd ps sp) : CalX P w K mg base k x ps sp := by
  obtain ⟨f, oc, od, an, osl, kV, dc, pm, cd, ct, a, l, c, kp⟩ := D
  have F := fun_mk (st := st) l c kp
  exact ⟨f, _, ok f _ F, PySem.W.mg_of X G a, kp, F.binds b⟩
/-- a method that may raise -/
structure MCalX (P : Program) (w : World) (K : PySem.W.Frag) (mg : Str → Option Value) (base : Heap) (C : Addr) (k : Nat) (m : Str) (ps : List Str) (sp : Sp) : Prop where
  ex : ∃ (f : Addr) (fd : FuncData), Meth K C m f ∧ FnOk P w K mg base (L2.CX P w) k f fd ps sp ∧ Binds K fd ps []
theorem mcalX_mk {P : Program} {w : World} {K : PySem.W.Frag} {mg : Str → Option Value} {base : Heap} {q : Str} {st : Stmt} (D : MethIn K C m q st) (b : ∀ (kV doc pm : Value) (an : Option Addr) (cdv ct : Value) (us : List Value), us.length = ps.length → bindArgs (PySem.W.fnOf m q (defArgs st) (defBody st) (defScope st) .none kV doc pm an cdv ct) ⟨us, []⟩ = pure (ps.zip us))
    (ok : ∀ (f : Addr) (fd : FuncData), Fun K m q st f fd → FnOk P w K mg base (L2.CX P w) k f fd ps sp) : MCalX P w K mg base C k m ps sp := by
  obtain ⟨f, oc, od, an, osl, kV, dc, pm, cd, ct, a, i, l, c, kp⟩ := D
  have F := fun_mk (st := st) l c kp
  exact ⟨f, _, ⟨a, i, kp⟩, ok f _ F, F.binds b⟩
theorem pe_mcalX {W : WX} {pl : Sem Bool} (M : MCalX X.prog X.w X.K X.mg X.base C k m ps sp) (c : Cls X.K C) (hr : Room j X.A) (hk : k ≤ j) (tk : Takes X W) (ho : PE X o to) (ha : PA X (e :: es) t)
    (hst : starEach (e :: es) X.env = (false, eval e X.env) :: starEach es X.env := by rfl) (hpl : (backTo pos (starEach es X.env)).any (·.1) = false := by rfl)
    (ht : eval (.Call (.Attribute o m apos) (e :: es) [] pos) X.env = (do
      let ov ← eval o X.env
      standAt apos.atName
      let (f, first) ← holding [ov] (getMethod ov m pl)
      callWith pos f first (backTo pos (starEach (e :: es) X.env)) (backToKw pos (keywordEach [] X.env))) := by rfl) : PE X (.Call (.Attribute o m apos) (e :: es) [] pos) (tMethA C m sp (WE W) to t) := by
  obtain ⟨f, fd, hm, F, b⟩ := M.ex
  exact pe_methA ho c hm F (hr.mono hk) b (fun σ => passAt tk σ) ha hst hpl ht
end
/-- isinstance(e, c), e the error that the suite holds: of the class at D, its fields in a dict -/
def rIsX (K : PySem.W.Frag) (D a : Addr) (cls : Value) (d : Option Addr) : List V → Hp → VK → Prop := fun xs H Q => ∃ (c : V) (cv : Value) (b : Bool) (dd : Addr) (fs : List (Str × V)), xs = [.ref a, c] ∧ cls = .ref D ∧ d = some dd ∧ H dd = some (.xd fs) ∧ (∀ u, RelV c u → u = cv) ∧ PySem.W.kitOne K (.ref D) cv = some b ∧ Q (.bl b) H
theorem call_isX {X : Cx} {a D : Addr} {oe : Obj} {cls : Value} {d : Option Addr} {pn : List (Addr × Obj)} (C : ExcC X.K D) (hz : Zc cls d oe) (hf : ∃ vs, oe.data = .fields vs) : CallR (X.suite a ((a, oe) :: pn)) (.builtin "isinstance") (rIsX X.K D a cls d) := by
  rintro pins s σ H xs us Q I r ⟨c, cv, b, dd, fs, rfl, rfl, rfl, hdd, hcv, e, q⟩
  obtain ⟨u1, u2, rfl, rx, rt⟩ : ∃ u1 u2, us = [u1, u2] ∧ RelV (.ref a) u1 ∧ RelV c u2 := by
    cases r with
    | cons rx rr =>
      cases rr with
      | cons rt rr =>
        cases rr
        exact ⟨_, _, rfl, rx, rt⟩
  cases rx
  obtain rfl := hcv _ rt
  have at_ : s.heap.get? a = some oe := (I.pin (a, oe) (List.mem_append_left _ List.mem_cons_self)).1
  have hx : ObjOk X.prog X.w H s.heap dd (.xd fs) := I.hok dd _ hdd
  obtain ⟨mA, hns, _⟩ := hx
  obtain ⟨od, ho, _⟩ := lookIn_ns hns
  obtain ⟨vs, hv⟩ := hf
  have J : PySem.W.InstAt s.heap a oe D (some od) := ⟨at_, hz.1, by unfold PySem.W.notCls; rw [hv] <;> rfl, by rw [hz.2]; exact ho⟩
  have hcl : (PySem.W.clsIn X.K D).isSome = true := by
    obtain ⟨cd, hc, _⟩ := PySem.W.any_some C.hd
    rw [hc]
    rfl
  exact PySem.W.kia_one (PySem.W.kitx_exc hcl C.hg C.hk C.hs C.ha C.hn C.ht C.hm) I.kIn J e (fun z => nomatch z) fun tk => ⟨.bl b, H, I.kept (t' := tk) fun _ _ z => z, rfl, q⟩
end Tw
namespace Tw
open PySem PySem.Spec PyProof.Rows L2 Sb
theorem oexC_mk {K : PySem.W.Frag} {C : Addr} {nm q : Str} {N : Addr} {bs bm : List Value} {sn : List Str} {sub : List Value} {ab : Bool} {col : Option Bool} {dd : Option Addr} {k0 k1 k2 k3 k5 : Option Value}
    (ox : K.lookup C = some (excClassObj nm q C N bs bm true sn sub ab col dd k0 k1 k2 k3 k5 "ValueError.__new__")) (orf : PySem.HandSPX.refsVE bm = true) (sa : PySem.W.findIn K (.ref C) "__setattr__" = some (some (.builtin "object.__setattr__"))) (ex : PySem.W.subIn K (.ref C) (.type "BaseException") = some true)
    (ty : PySem.W.typeIn K (.ref C) = some (.type "type")) (kC : PySem.W.keepIn K (.ref C) = true) : OexC K C := ⟨⟨nm, q, N, bs, bm, sn, sub, ab, col, dd, k0, k1, k2, k3, k5, ox, orf⟩, sa, ex, ty, kC⟩
end Tw
namespace Tw
open PySem PySem.Spec PyProof.Rows L2 Sb
theorem kit_ref {K : PySem.W.Frag} {B S : Addr} (h2 : PySem.W.isClsIn K S = true) (h3 : PySem.W.typeIn K (.ref S) = some (.type "type")) (h4 : PySem.W.subIn K (.ref B) (.ref S) = some true) : PySem.W.kitOne K (.ref B) (.ref S) = some true := by
  unfold PySem.W.kitOne
  split
  · rfl
  · have h2' : (PySem.W.clsIn K S).isSome = true := h2
    show (if ((PySem.W.clsIn K S).isSome && PySem.W.typeIn K (.ref S) == some (.type "type")) = true then PySem.W.subIn K (.ref B) (.ref S) else none) = some true
    rw [if_pos (by rw [h2', h3] <;> rfl)]
    exact h4
theorem kit_bltn {K : PySem.W.Frag} {B : Addr} {t : String} (h : PySem.W.kitMeta t = true) (h4 : PySem.W.subIn K (.ref B) (.type t) = some true) : PySem.W.kitOne K (.ref B) (.type t) = some true := by
  unfold PySem.W.kitOne
  split
  · rfl
  · show (if PySem.W.kitMeta t = true then PySem.W.subIn K (.ref B) (.type t) else none) = some true
    rw [if_pos h]
    exact h4
theorem exm_of {K : PySem.W.Frag} {B S : Addr} (h1 : PySem.W.subIn K (.ref S) (.type "BaseException") = some true) (h2 : PySem.W.isClsIn K S = true) (h3 : PySem.W.typeIn K (.ref S) = some (.type "type")) (h4 : PySem.W.subIn K (.ref B) (.ref S) = some true) : PySem.W.exmOne K (.ref B) (.ref S) = some true := by
  have h2' : (PySem.W.clsIn K S).isSome = true := h2
  show (if (PySem.W.subIn K (.ref S) (.type "BaseException") == some true) = true then (if ((PySem.W.clsIn K S).isSome && PySem.W.typeIn K (.ref S) == some (.type "type")) = true then PySem.W.subIn K (.ref B) (.ref S) else none) else none) = some true
  rw [if_pos (by rw [h1] <;> rfl), if_pos (by rw [h2', h3] <;> rfl)]
  exact h4
end Tw
set_option maxHeartbeats 2000000
/-! TwLam: a lambda of one parameter handed to a def, which calls it. -/
namespace Tw
open PySem PySem.Spec PyProof.Rows L2 Sb LamX
/-! ### what a function made in X captures -/
/-- each captured name is a cell of the maker's -/
def Caps (outer names : List (Str × NameKind)) : Prop := ∀ y ∈ names, y.2 = .free → outer.lookup y.1 = some .cell ∨ outer.lookup y.1 = some .free
theorem Caps.cells {X : Cx} {names : List (Str × NameKind)} (C : Caps X.env.scope.names names) (ok : X.Ok) (y : Str × NameKind) (hy : y ∈ names) (e : y.2 = .free) : ∃ c, X.env.cells.lookup y.1 = some c :=
  ok.has y.1 (C y hy e)
theorem Caps.sub {X : Cx} {names : List (Str × NameKind)} (C : Caps X.env.scope.names names) (ok : X.Ok) {y : Str} {c : Addr} (e : (cloFrom X.env.cells names []).lookup y = some c) : X.env.cells.lookup y = some c := by
  cases cloFrom_mem (PySem.mem_of_lookup e) with
  | inl m => cases m
  | inr m =>
    obtain ⟨d, k⟩ := C.cells ok (y, .free) m.1 rfl
    have k : X.env.cells.lookup y = some d := k
    have : c = d := by simpa [k] using m.2
    exact this ▸ k
theorem Caps.got {X : Cx} {names : List (Str × NameKind)} (C : Caps X.env.scope.names names) (ok : X.Ok) {y : Str} (e : names.lookup y = some .free) : ∃ c, (cloFrom X.env.cells names []).lookup y = some c ∧ X.env.cells.lookup y = some c :=
  let ⟨c, q⟩ := mem_lookup (cloFrom_has (cells := X.env.cells) (acc := []) (PySem.mem_of_lookup e))
  ⟨c, q, C.sub ok q⟩
/-- what the maker knows of a captured name stands in its cell -/
theorem Caps.val {X : Cx} {names : List (Str × NameKind)} {pins : List (Addr × Obj)} {σ : L2.St} {H : Hp} {s : Shared} (C : Caps X.env.scope.names names) (I : Inv X pins σ H s) {i : Nat} {y : Str} {v : V} (e : names.lookup y = some .free) (hN : X.N[i]? = some y) (hs : σ[i]? = some (some v)) :
    ∃ u c, RelV v u ∧ (cloFrom X.env.cells names []).lookup y = some c ∧ H c = none ∧ s.heap.IsCell c (some u) := by
  have no : X.env.kindOf y ≠ some .local := fun z => by
    have z : X.env.scope.names.lookup y = some .local := z
    cases C _ (PySem.mem_of_lookup e) rfl with
    | inl k => exact absurd (z.symm.trans k) (by simp)
    | inr k => exact absurd (z.symm.trans k) (by simp)
  obtain ⟨c, k1, k2⟩ := C.got I.ok e
  obtain ⟨m, _, known⟩ := I.loc
  obtain ⟨u, r, at_⟩ := known i y v hN hs ((C _ (PySem.mem_of_lookup e) rfl).elim (.inr ∘ .inl) (.inr ∘ .inr))
  cases at_ with
  | inl l => exact absurd l.1 no
  | inr l =>
    obtain ⟨_, d, k3, k4⟩ := l
    cases k2.symm.trans k3
    exact ⟨u, c, r, k1, I.freeC y c k2, k4⟩
/-- one parameter p, no other name of its own -/
structure LamS1 (sc scope : Scope) (p : Str) : Prop where
  fn : scope.kind = .function ∧ scope.isCoroutine = false ∧ scope.isGenerator = false
  own : ∀ y ∈ scope.names, y.2 ≠ .cell ∧ (y.2 = .local → y.1 = p)
  par : scope.names.lookup p = some .local
  caps : Caps sc.names scope.names
/-- the context of the lambda's body: the maker's names, and behind them the parameter -/
def lamCx1 (X : Cx) (A : Around) (outer : List Env) (s : Shared) (H : Hp) (E : XK) (scope : Scope) (f c' : Addr) (p : Str) : Cx :=
  { lamCx X A outer s H E scope f c' with N := X.N ++ [p] }
section
variable {X : Cx} {pins : List (Addr × Obj)} {σ : L2.St} {H HZ : Hp} {s s1 : Shared}
/-- a cell that stood there holds the same behind what a call may touch -/
theorem cell_stays {h₁ : Heap} {fs : List Addr} {c : Addr} {v : Option Value} (un : Un fs [] H HZ s.heap s1.heap) (kp : ∀ b o, s1.heap.get? b = some o → h₁.get? b = some o) (n : H c = none) (z : s.heap.IsCell c v) : HZ c = none ∧ h₁.IsCell c v :=
  let ⟨o, ho, hd⟩ := z
  let ⟨_, q⟩ := un.any ho n List.not_mem_nil
  ⟨un.free c o ho n List.not_mem_nil, _, kp _ _ q, hd⟩
theorem lam_ok1 {A : Around} {outer : List Env} {E : XK} {scope : Scope} {f c' : Addr} {p : Str} (I : Inv X pins σ H s) (L : LamS1 X.env.scope scope p) (e0 : Env0 X.prog X.w X.K X.mg X.base A outer s1 HZ) (hd : A.handled = none) : (lamCx1 X A outer s1 HZ E scope f c' p).Ok where
  mod := e0.mod
  kind := L.fn.1
  glob := rfl
  blt := rfl
  above := Nat.le_refl _
  inj := fun y z c h1 h2 => I.ok.inj y z c (L.caps.sub I.ok h1) (L.caps.sub I.ok h2)
  has := fun y hy => by
    cases hy with
    | inl k => exact absurd rfl (L.own (y, .cell) (PySem.mem_of_lookup k)).1
    | inr k => exact let ⟨c, q, _⟩ := L.caps.got I.ok k; ⟨c, q⟩
  cab := fun _ _ z => absurd z Bool.false_ne_true
  hd := fun _ => hd
  frames := Around.frames_deeper e0.frames
  stk := Or.inr ⟨rfl, rfl⟩
  exf := fun _ z => nomatch (show _ ∈ ([] : List Addr) from z)
  bs := e0.bs
  bsz := e0.bsz
  noex := fun _ _ _ => List.not_mem_nil
  exfs := fun _ z => nomatch (show _ ∈ ([] : List Addr) from z)
  funs := e0.funs
  frf := e0.frf
theorem lam_start1 {A : Around} {outer : List Env} {E : XK} {scope : Scope} {f c' : Addr} {h₁ : Heap} {tk : Nat} {p : Str} {v : V} {u : Value} (I : Inv X pins σ H s) (L : LamS1 X.env.scope scope p) (hp : p ∉ X.N) (rv : RelV v u) (e0 : Env0 X.prog X.w X.K X.mg X.base A outer s1 HZ) (hd : A.handled = none)
    (un : Un (frs X.stack) [] H HZ s.heap s1.heap) (hns : h₁.Ns s1.heap.objs.size fun y => ([(p, u)] : List (Str × Value)).reverse.lookup y) (kp : ∀ b o, s1.heap.get? b = some o → h₁.get? b = some o) :
    Inv (lamCx1 X A outer s1 HZ E scope f c' p) [] (σ ++ [some v]) HZ { s1 with heap := h₁, toks := tk } where
  ok := lam_ok1 I L e0 hd
  os := rfl
  bare := e0.bare
  base := Un.kept kp
  loc := ⟨_, hns, fun i y w hN hs vis => by
    have hN : (X.N ++ [p])[i]? = some y := hN
    rcases Nat.lt_or_ge i X.N.length with hi | hi
    · rw [List.getElem?_append_left hi] at hN
      rw [List.getElem?_append_left (I.len ▸ hi)] at hs
      have hf : scope.names.lookup y = some .free := by
        rcases (show Vis scope y from vis) with k | k | k
        · exact absurd ((L.own (y, .local) (PySem.mem_of_lookup k)).2 rfl ▸ List.mem_of_getElem? hN) hp
        · exact absurd rfl (L.own (y, .cell) (PySem.mem_of_lookup k)).1
        · exact k
      obtain ⟨u', c, r, k1, k2, k3⟩ := L.caps.val I hf hN hs
      exact ⟨u', r, .inr ⟨.inr hf, c, k1, (cell_stays un kp k2 k3).2⟩⟩
    · have h0 : i - X.N.length = 0 := by
        have := (List.getElem?_eq_some_iff.mp hN).1
        rw [List.length_append] at this
        simp at this
        omega
      rw [List.getElem?_append_right hi, h0] at hN
      rw [List.getElem?_append_right (by rw [I.len]; exact hi), I.len, h0] at hs
      cases hN
      cases hs
      exact ⟨u, rv, .inl ⟨L.par, by simp⟩⟩⟩
  cell := fun y c e => let ⟨w, z⟩ := I.cell y c (L.caps.sub I.ok e)
    ⟨w, (cell_stays un kp (I.freeC y c (L.caps.sub I.ok e)) z).2⟩
  free := e0.hok.fresh (Nat.le_refl _)
  freeC := fun y c e => let ⟨_, z⟩ := I.cell y c (L.caps.sub I.ok e)
    (cell_stays un kp (I.freeC y c (L.caps.sub I.ok e)) z).1
  pin := fun q hq => nomatch (show q ∈ ([] : List (Addr × Obj)) from hq)
  hok := e0.hok.kept kp
  len := by
    show (σ ++ [some v]).length = (X.N ++ [p]).length
    rw [List.length_append, List.length_append, I.len] <;> rfl
/-- the lambda at f, called with u from the frames outer -/
theorem lam_run {A : Around} {outer : List Env} {f c' : Addr} {pm ctv : Value} {params : Arguments} {body : Expr} {scope : Scope} {k : Nat} {pr : Str} {E : XK} {t : TE} {v : V} {u : Value} {H2 : Hp} {s2 : Shared} {Q : VK}
    (I : Inv X pins σ H s) (L : LamS1 X.env.scope scope pr) (hpr : pr ∉ X.N) (un : Un (frs X.stack) [] H H2 s.heap s2.heap) (nl : s2.heap.NoLimit) (e0 : Env0 X.prog X.w X.K X.mg X.base A outer s2 H2) (hr : Room (k + 1) A)
    (hf : s2.heap.get? f = some (PySem.W.kla_obj "<lambda>" (X.env.qual ++ "<lambda>") params body scope (cloFrom X.env.cells scope.names []) pm c' ctv)) (hc : H2 c' = some (CodeO c' (X.env.qual ++ "<lambda>")))
    (hbind : bindArgs (PySem.W.kla_fn "<lambda>" (X.env.qual ++ "<lambda>") params body scope (cloFrom X.env.cells scope.names []) pm (.ref c') ctv) ⟨[u], []⟩ = pure [(pr, u)]) (rv : RelV v u)
    (hbody : Room k (A.deeper (lamEnv X scope s2.heap.objs.size f c')) → PE (lamCx1 X A outer s2 H2 E scope f c' pr) body t) (ht : t (σ ++ [some v]) H2 Q) :
    codeAny (model X.prog X.w) A (.call (.ref f) ⟨[u], []⟩) (CR (L2.CX X.prog X.w) outer X.prog X.w H2 s2 Q E) s2 := by
  have known : ∃ (oc : Obj) (vs : Array Value) (t : Tok), s2.heap.get? c' = some oc ∧ oc.data = .fields vs ∧ vs[1]? = some (.str (X.env.qual ++ "<lambda>") t) := (e0.hok c' _ hc).1
  obtain ⟨oc, vs, tq, k1, k2, k3⟩ := known
  apply PySem.W.kla_callFunE hr.depth hf rfl L.fn.2.1 L.fn.2.2 rfl ⟨c', oc, vs, tq, rfl, k1, k2, k3⟩
  rw [hbind]
  apply wpAny_pure
  refine wpAny_newFunctionEnv (fun y hy => (L.own y hy).1) (fun y hy => by rw [List.mem_singleton.mp hy]; exact L.par) (fun h₁ hns hsb => ?_) L.fn.1
  refine ⟨nl.fresh _ hsb, ?_⟩
  have old : ∀ b o, s2.heap.get? b = some o → h₁.get? b = some o := fun b o e => hsb.extBut b o (Nat.ne_of_lt (Heap.lt_size e)) (Heap.get?_push_of_some _ e)
  have J := lam_start1 (E := E) (f := f) (c' := c') (tk := s2.toks + ([(pr, u)] : List (Str × Value)).length) I L hpr rv e0 hr.hd un hns old
  exact PySem.W.kla_codeExpr (wpAny_mono ((hbody (hr.deeper _)).run [] _ _ H2 Q J ht) (fun _ _ ⟨w, H', Z, r, q⟩ => ⟨w, H', Z.os, Z.bare, Z.base, Z.hok, r, q⟩) fun _ _ x => x)
/-- a(e), in the def that got the lambda as a: Z is that def's context, entered at s -/
theorem pe_act1 {CXg : CXT} {Eg : XK} {Ng : List Str} {qg : Str} {sg : Scope} {g f c' : Addr} {cdg pm ctv : Value} {params : Arguments} {body : Expr} {scope : Scope} {k i : Nat} {a pr : Str} {pn : List (Addr × Obj)} {xe : Value → Shared → Prop} {W : WX} {tb : XK → TE} {p1 p2 : Pos} {e : Expr} {t : TA} {Z : Cx}
    (hZ : Z = (cxOf CXg X.prog X.w X.K X.mg X.base Ng qg sg g cdg X.A X.stack s H Eg).tr pn xe)
    (I : Inv X pins σ H s) (L : LamS1 X.env.scope scope pr) (hpr : pr ∉ X.N) (hf : s.heap.get? f = some (PySem.W.kla_obj "<lambda>" (X.env.qual ++ "<lambda>") params body scope (cloFrom X.env.cells scope.names []) pm c' ctv)) (hfn : H f = none) (hfr : f ∉ frs X.stack)
    (hbind : ∀ u, bindArgs (PySem.W.kla_fn "<lambda>" (X.env.qual ++ "<lambda>") params body scope (cloFrom X.env.cells scope.names []) pm (.ref c') ctv) ⟨[u], []⟩ = pure [(pr, u)])
    (tk : Takes Z W) (hr : Room (k + 1) (X.A.deeper (envOfC qg sg s.heap.objs.size g cdg)))
    (hbody : ∀ (A : Around) (outer : List Env) (s : Shared) (H : Hp) (E : XK), Room k (A.deeper (lamEnv X scope s.heap.objs.size f c')) → PE (lamCx1 X A outer s H E scope f c' pr) body (tb E))
    (ha : PA Z [e] t) (hN : Ng[i]? = some a) (hv : Vis sg a) (h1 : (a == ("__debug__" : Str)) = false) (h2 : (a == ("__classdict__" : Str)) = false) (hst : starEach [e] Z.env = (false, eval e Z.env) :: starEach [] Z.env) :
    PE Z (.Call (.Name a p1) [e] [] p2) (fun σZ HZ Q => σZ[i]? = some (some (.ref f)) ∧ t σZ HZ fun vs H2 => ∃ v, vs = [v] ∧ H2 c' = some (CodeO c' (X.env.qual ++ "<lambda>")) ∧ tb (WE W σZ) (σ ++ [some v]) H2 Q) := by
  subst hZ
  have stays : ∀ {pz σz Hz sz}, Inv ((cxOf CXg X.prog X.w X.K X.mg X.base Ng qg sg g cdg X.A X.stack s H Eg).tr pn xe) pz σz Hz sz → sz.heap.get? f = some (PySem.W.kla_obj "<lambda>" (X.env.qual ++ "<lambda>") params body scope (cloFrom X.env.cells scope.names []) pm c' ctv) :=
    fun J => J.base.keep f _ hf hfn hfr List.not_mem_nil
  constructor
  intro pz sz σz Hz Q J ⟨hs, ht⟩
  refine wpAny_Call_Name_kw (thn ((pe_var (pos := p1) (i := i) hN hv h1 h2).run pz sz σz Hz (fun w H1 => w = .ref f ∧ H1 = Hz) J ⟨.ref f, hs, rfl, rfl⟩) ?_)
  rintro _ s1 ⟨_, _, J1, r1, rfl, rfl⟩
  cases r1
  refine PySem.W.callWith_F ⟨_, _, _, _, stays J1⟩ (thn (ha.run p2 pz s1 σz _ _ J1 ht) ?_) hst
  rintro us s2 ⟨_, H2, J2, rvs, v, rfl, hc, hb⟩
  obtain ⟨u, rfl, rv⟩ : ∃ u, us = [u] ∧ RelV v u := by
    cases rvs with
    | cons r z =>
      cases z
      exact ⟨_, rfl, r⟩
  have go := lam_run (Q := Q) (E := WE W σz) I L hpr J2.base J2.nolimit J2.env0 hr (stays J2) hc (hbind u) rv (hbody _ _ s2 H2 (WE W σz)) hb
  exact ⟨⟨_, _, _, _, stays J2⟩, wpAny_call (codeAny_mono go fun
    | .error x, s', q => passAt tk σz pz H2 s2 x s' J2 q
    | .ok (.ret _), _, q => J2.after q
    | .ok .next, _, q => q.elim
    | .ok .brk, _, q => q.elim
    | .ok .cont, _, q => q.elim)⟩
/-- f, made and known to nothing, is pinned -/
theorem pin_lam (I : Inv X pins σ H s) {f : Addr} {o : Obj} (hst : ∀ b, b = X.env.locals ∨ b ∈ X.fs → b ∈ frs X.stack) (hf : s.heap.get? f = some o) (hfn : H f = none) (hfr : f ∉ frs X.stack) (hc : ∀ v, o.data ≠ .cell v) : Inv X ((f, o) :: pins) σ H s := by
  apply I.pins_of
  intro q m
  cases m with
  | head => exact ⟨hf, hfn, fun z => hfr (hst _ (.inl z)), fun z => hfr (hst _ (.inr z)), hc⟩
  | tail _ m => exact I.pin q (List.mem_append_right _ m)
end
/-- what the def's caller a(b) reads: it got f as a -/
def tAct (f : Addr) (W : WX) (tl : V → XK → Hp → VK → Prop) : TE := fun σZ HZ Q => σZ[0]? = some (some (.ref f)) ∧ ∃ v, σZ[1]? = some (some v) ∧ tl v (WE W σZ) HZ Q
/-- a context in which a(b) is read so -/
def ActOk (Z : Cx) (a b : Str) (f : Addr) (tl : V → XK → Hp → VK → Prop) : Prop :=
  ∀ (W : WX) (pn : List (Addr × Obj)) (xe : Value → Shared → Prop) (p1 p2 p3 : Pos), Takes (Z.tr pn xe) W → PE (Z.tr pn xe) (.Call (.Name a p1) [.Name b p3] [] p2) (tAct f W tl)
/-- the def x(a, b) that calls a(b): TT is what it makes of a's reading, of what it was handed as b -/
def GivesD (P : Program) (w : World) (K : PySem.W.Frag) (mg : Str → Option Value) (base : Heap) (Ng : List Str) (x : Str) (sg : Scope) (bg : List Stmt) (a b : Str) (TT : (V → XK → Hp → VK → Prop) → V → Hp → VK → Prop) : Prop :=
  ∀ (CX : CXT) (EX : XK) (A : Around) (outer : List Env) (g : Addr) (cdg : Value) (f : Addr) (hv : V) (s : Shared) (H : Hp) (Q : VK) (tl : V → XK → Hp → VK → Prop),
    ActOk (cxOf CX P w K mg base Ng x sg g cdg A outer s H EX) a b f tl → TT tl hv H Q →
    ∃ t, PSs (cxOf CX P w K mg base Ng x sg g cdg A outer s H EX).nox bg t ∧ t { nx := fun _ H' => Q .non H', rt := Q } (L2.start Ng [.ref f, hv]) H
def tLam1 (T : List (Addr × Str)) (q : Str) (j : Nat) (TT : (V → XK → Hp → VK → Prop) → V → Hp → VK → Prop) (t : XK → TE) : TE := fun σ H Q =>
  Tabs T H ∧ ∃ hv, σ[j]? = some (some hv) ∧ ∀ (c' : Addr) (H1 : Hp), ExtN H H1 → Tabs T H1 → H1 c' = some (CodeO c' q) → TT (fun v E H' Q' => H' c' = some (CodeO c' q) ∧ t E (σ ++ [some v]) H' Q') hv H1 Q
section
variable {X : Cx}
/-- x(lambda pr: body, y) -/
theorem pe_lamcall1 {T : List (Addr × Str)} {TT : (V → XK → Hp → VK → Prop) → V → Hp → VK → Prop} {x a b y pr : Str} {g c P : Addr} {k j : Nat} {pg : Arguments} {bg : List Stmt} {sg : Scope} {dV kV doc pm cdv ct oc : Value} {an od : Option Addr} {osl : Array (Option Value)} {Ng : List Str}
    {params : Arguments} {body : Expr} {scope : Scope} {t : XK → TE} {p lpos py pos : Pos} (hg : Gl X x) (hm : X.mg x = some (.ref g)) (hk : PySem.W.keepIn X.K (.ref g) = true)
    (lk : X.K.lookup g = some ⟨oc, od, .func (PySem.W.fnOf x x pg bg sg dV kV doc pm an cdv ct), osl⟩) (hcg : PySem.W.codeIn X.K cdv x = true) (hb : L2.Binds X.K (PySem.W.fnOf x x pg bg sg dV kV doc pm an cdv ct) [a, b] []) (Sg : FnScope Ng [a, b] sg) (hNa : Ng[0]? = some a) (hNb : Ng[1]? = some b) (hva : Vis sg a) (hvb : Vis sg b)
    (hG : GivesD X.prog X.w X.K X.mg X.base Ng x sg bg a b TT) (hNy : X.N[j]? = some y) (hvy : Vis X.env.scope y)
    (TB : TabB X.base X.mg c P) (hcode : X.env.code = .ref c) (hmT : (P, X.env.qual ++ "<lambda>") ∈ T) (hu : ∀ p ∈ T, p.1 = P → p.2 = X.env.qual ++ "<lambda>") (hr : Room (k + 2) X.A) (L : LamS1 X.env.scope scope pr) (hpr : pr ∉ X.N) (hdef : defaultsOf params X.env = ([], []))
    (hst : ∀ b, b = X.env.locals ∨ b ∈ X.fs → b ∈ frs X.stack)
    (hbind : ∀ (q : Str) (cl : List (Str × Addr)) (pm cv ctv u : Value), bindArgs (PySem.W.kla_fn "<lambda>" q params body scope cl pm cv ctv) ⟨[u], []⟩ = pure [(pr, u)])
    (hbody : ∀ (A : Around) (outer : List Env) (s : Shared) (H : Hp) (E : XK) (f c' : Addr), Room k (A.deeper (lamEnv X scope s.heap.objs.size f c')) → PE (lamCx1 X A outer s H E scope f c' pr) body (t E))
    (hdb : (x == ("__debug__" : Str)) = false := by decide) (n1 : (a == ("__debug__" : Str)) = false := by decide) (n2 : (a == ("__classdict__" : Str)) = false := by decide)
    (n3 : (b == ("__debug__" : Str)) = false := by decide) (n4 : (b == ("__classdict__" : Str)) = false := by decide) (n5 : (y == ("__debug__" : Str)) = false := by decide) (n6 : (y == ("__classdict__" : Str)) = false := by decide) :
    PE X (.Call (.Name x p) [.Lambda params body scope lpos, .Name y py] [] pos) (tLam1 T (X.env.qual ++ "<lambda>") j TT t) := by
  constructor
  intro pins s σ H Q I ⟨hT, hv, hy, h⟩
  apply wpAny_Call_Name_kw
  refine ld_glob I hg hm ?_ hdb
  apply PySem.W.callWith_K (h₀ := X.base) I.mod.kin hk (he := rfl) (hplain := rfl)
  show wpAny _ _ (spliced ((false, eval (.Lambda params body scope lpos) X.env) :: backTo pos (starEach [.Name y py] X.env))) _ _ s
  apply Calls.spliced_cons
  apply lam_make2 I TB hcode hmT hu hT hdef (L.caps.cells I.ok)
  intro f c' _ _ H1 s' I1 eN T1 hf hfn hfr hco
  have P1 := pin_lam I1 hst hf hfn hfr (fun v z => nomatch z)
  refine thn ((pa_cons (pe_var (pos := py) hNy hvy n5 n6) pa_nil).run pos _ s' σ H1 (fun vs H2 => vs = [hv] ∧ H2 = H1) P1 ⟨hv, hy, rfl, rfl⟩) ?_
  rintro us s2 ⟨_, H2, P2, rvs, rfl, rfl⟩
  obtain ⟨u, rfl, ru⟩ : ∃ u, us = [u] ∧ RelV hv u := by
    cases rvs with
    | cons r z =>
      cases z
      exact ⟨_, rfl, r⟩
  have I2 := ClX.unpin P2
  have act : ActOk (cxOf C8.CX0 X.prog X.w X.K X.mg X.base Ng x sg g cdv X.A X.stack s2 H2 C8.E0) a b f (fun v E H' Q' => H' c' = some (CodeO c' (X.env.qual ++ "<lambda>")) ∧ t E (σ ++ [some v]) H' Q') ∨ ¬ Room (k + 1) (X.A.deeper (envOfC x sg s2.heap.objs.size g cdv)) := by
    by_cases hr' : Room (k + 1) (X.A.deeper (envOfC x sg s2.heap.objs.size g cdv))
    · refine .inl fun W pn xe p1 p2 p3 tk => ⟨fun pz sz σz Hz Q' J hz => ?_⟩
      obtain ⟨z1, v, z3, z2, z4⟩ := hz
      exact (pe_act1 (i := 0) rfl I2 L hpr (ClX.pin_at P2) (ClX.pin_un P2) hfr (hbind _ _ _ _ _) tk hr' (fun A o s H E r => hbody A o s H E f c' r) (pa_cons (pe_var (pos := p3) hNb hvb n3 n4) pa_nil) hNa hva n1 n2 rfl).run pz sz σz Hz Q' J ⟨z1, v, z3, v, rfl, z2, z4⟩
    · exact .inr hr'
  refine ⟨I2.kIn, wpAny_call (codeAny_mono (run_ofS (CX := C8.CX0) (E := C8.E0) (Q := Q) (N := Ng) (ps := [a, b]) (us := [.ref f, u]) (vs := [.ref f, hv]) lk hcg Sg hr I2.env0 (hb s2 [.ref f, u] I2.kIn rfl) (.cons rfl (.cons ru .nil)) rfl fun hr' => ?_) fun
    | .error _, _, q => q.elim
    | .ok (.ret _), _, q => I2.after q
    | .ok .next, _, q => q.elim
    | .ok .brk, _, q => q.elim
    | .ok .cont, _, q => q.elim)⟩
  cases act with
  | inr z => exact absurd hr' z
  | inl act => exact let ⟨t', d, q⟩ := hG C8.CX0 C8.E0 X.A X.stack g cdv f hv s2 H2 Q _ act (h c' H2 eN T1 hco); ⟨t', d.nox, q⟩
/-- a(b), a known function handed as a -/
theorem act_fn {k : Nat} {f : Addr} {fd : FuncData} {ps : List Str} {sp : Sp} {a b : Str} (F : FnOk X.prog X.w X.K X.mg X.base (L2.CX X.prog X.w) k f fd ps sp) (hr : Room k X.A) (hk : PySem.W.keepIn X.K (.ref f) = true) (hb : L2.Binds X.K fd ps [])
    (hNa : X.N[0]? = some a) (hNb : X.N[1]? = some b) (hva : Vis X.env.scope a) (hvb : Vis X.env.scope b)
    (n1 : (a == ("__debug__" : Str)) = false := by decide) (n2 : (a == ("__classdict__" : Str)) = false := by decide) (n3 : (b == ("__debug__" : Str)) = false := by decide) (n4 : (b == ("__classdict__" : Str)) = false := by decide) :
    ActOk X a b f (fun v E H Q => sp [v] H Q E) := fun W pn xe p1 p2 p3 tk => ⟨fun pins s σ H Q I ⟨h1, v, h2, h3⟩ => by
  apply wpAny_Call_Name_kw
  refine thn ((pe_var (X := X.tr pn xe) (pos := p1) (i := 0) hNa hva n1 n2).run pins s σ H (fun w H1 => w = .ref f ∧ H1 = H) I ⟨.ref f, h1, rfl, rfl⟩) ?_
  rintro _ s1 ⟨_, _, I1, r1, rfl, rfl⟩
  cases r1
  apply PySem.W.callWith_K (h₀ := X.base) I1.mod.kin hk (he := rfl) (hplain := rfl)
  refine thn ((pa_cons (pe_var (X := X.tr pn xe) (pos := p3) hNb hvb n3 n4) pa_nil).run p2 pins s1 σ _ (fun vs H2 => vs = [v] ∧ H2 = _) I1 ⟨v, h2, rfl, rfl⟩) ?_
  rintro us s2 ⟨_, _, I2, r, rfl, rfl⟩
  exact ⟨I2.kIn, run_fnS (X := X.tr pn xe) F hr hb (passAt tk σ) I2 r h3⟩⟩
end
end Tw
set_option maxHeartbeats 2000000
/-! TwSort: sorted(row, key=lambda p: p[0]), the row a list or a tuple of tuples whose first things are ints. -/
namespace Tw
open PySem PySem.Spec PyProof.Rows L2 Sb LamX
/-- p[0] -/
def FirstOf (pr : Str) (body : Expr) : Prop := ∃ p1 p2 p3 j, body = .Subscript (.Name pr p1) (.Constant (.int 0) j p2) p3
/-- the lambda of one parameter and no other name -/
structure LamF (scope : Scope) (pr : Str) (body : Expr) : Prop where
  fn : scope.kind = .function ∧ scope.isCoroutine = false ∧ scope.isGenerator = false
  names : scope.names = [(pr, .local)]
  body : FirstOf pr body
  d1 : (pr == ("__debug__" : Str)) = false
theorem lam_first {prog : Program} {w : World} {A : Around} {s : Shared} {f c' a : Addr} {q : Str} {params : Arguments} {body : Expr} {scope : Scope} {cl : List (Str × Addr)} {pm ctv : Value} {pr : Str} {items : Array Value} {n : Int} {t : Tok} (hroom : A.depth < recursionLimit) (L : LamF scope pr body)
    (hf : s.heap.get? f = some (PySem.W.kla_obj "<lambda>" q params body scope cl pm c' ctv)) (hc : ∃ (oc : Obj) (vs : Array Value) (t : Tok), s.heap.get? c' = some oc ∧ oc.data = .fields vs ∧ vs[1]? = some (.str q t))
    (hb : bindArgs (PySem.W.kla_fn "<lambda>" q params body scope cl pm (.ref c') ctv) ⟨[.ref a], []⟩ = pure [(pr, .ref a)]) (ht : IsTup s.heap a items) (h0 : items[0]? = some (.int n t)) (nl : s.heap.NoLimit) :
    wpAny (model prog w) A (call (.ref f) [.ref a]) (PySem.W.KeyPure (.int n) s) (fun _ _ => False) s := by
  obtain ⟨p1, p2, p3, j, rfl⟩ := L.body
  obtain ⟨oc, vs, tq, k1, k2, k3⟩ := hc
  apply wpAny_call
  apply PySem.W.kla_callFunE hroom hf rfl L.fn.2.1 L.fn.2.2 rfl ⟨c', oc, vs, tq, rfl, k1, k2, k3⟩
  rw [hb]
  apply wpAny_pure
  refine wpAny_newFunctionEnv (fun y hy => ?_) (fun y hy => ?_) (fun h₁ hns hsb => ?_) L.fn.1
  · rw [L.names, List.mem_singleton] at hy
    rw [hy]
    exact fun z => nomatch z
  · rw [List.mem_singleton.mp hy, L.names]
    simp
  refine ⟨nl.fresh _ hsb, ?_⟩
  have old : ∀ b o, s.heap.get? b = some o → h₁.get? b = some o := fun b o e => hsb.extBut b o (Nat.ne_of_lt (Heap.lt_size e)) (Heap.get?_push_of_some _ e)
  obtain ⟨ot, e1, e2, e3⟩ := ht
  apply PySem.W.kla_codeExpr
  apply Subscript_
  refine wpAny_Name (wpAny_loadName_local L.fn.1 (show scope.names.lookup pr = some .local by rw [L.names]; simp) hns (show List.lookup pr [(pr, Value.ref a)].reverse = some (.ref a) by simp) ?_) L.d1
  apply wpAny_Constant_int
  refine subscriptTail_builtinR (x := .int n t) (IsTup.typeIs ⟨ot, old _ _ e1, e2, e3⟩) slot_tuple_getitem.lookup (getItem_tuple (j := 0) (x := .int n t) ⟨ot, old _ _ e1, e2, e3⟩ (by decide) (by decide) ?_ h0 ⟨rfl, ?_⟩) (by rfl)
  · have : 0 < items.size := by
      rcases Nat.eq_zero_or_pos items.size with z | z
      · rw [Array.getElem?_eq_none (by omega)] at h0
        cases h0
      · exact z
    exact seqIndex_of (by decide) (by omega)
  · exact ⟨h₁, _, rfl, old, .int n t⟩
theorem SqL.extN {K : PySem.W.Frag} {H H' : Hp} {a : Addr} {xs : List V} (h : SqL K H a xs) (e : ExtN H H') : SqL K H' a xs := by
  rcases h with (h | ⟨o, h⟩) | h
  · exact .inl (.inl (e _ _ h fun _ z => nomatch z))
  · exact .inl (.inr ⟨o, e _ _ h fun _ z => nomatch z⟩)
  · exact .inr h
theorem SqT.extN {K : PySem.W.Frag} {H H' : Hp} {a : Addr} {xs : List V} (h : SqT K H a xs) (e : ExtN H H') : SqT K H' a xs := by
  rcases h with (h | ⟨o, h⟩) | h
  · exact .inl (.inl (e _ _ h fun _ z => nomatch z))
  · exact .inl (.inr ⟨o, e _ _ h fun _ z => nomatch z⟩)
  · exact .inr h
/-- sorted(row, key=f): what f tells of a thing is its key -/
theorem sorted_by {prog : Program} {w : World} {A : Around} {E : Value → Shared → Prop} {s : Shared} {β : Type} {R : Value → β → Prop} {l f : Addr} {o : Obj} {S : String} {its : Array Value} {n : Nat} {bs : List β} {key : β → Int} {Q : Value → Shared → Prop}
    (hS : S = "list" ∨ S = "tuple") (ho : s.heap.get? l = some o) (hc : o.cls = .type S) (hd : o.data = .seq its n) (e : PySem.W.EachIs R its.toList bs) (hL : bs.length ≤ sizeLine) (hu : A.units + 2 < cLine)
    (turn : ∀ (v : Value) (x : β), R v x → x ∈ bs → ∀ (h : Heap) (tk : Nat), (∀ b o, s.heap.get? b = some o → h.get? b = some o) → wpAny (model prog w) A.in1.in1 (call (.ref f) [v]) (PySem.W.KeyPure (.int (key x)) { s with heap := h, toks := tk }) (fun _ _ => False) { s with heap := h, toks := tk })
    (q : ∀ (out : List Value) (c tk : Nat) (h1 h' : Heap) (r : Addr), (∀ b o, s.heap.get? b = some o → h1.get? b = some o) → (∀ b o, h1.get? b = some o → h'.get? b = some o) → h1.objs.size ≤ r → h'.get? r = some (seqObj "list" out.toArray c) → PySem.W.EachIs R out (bs.mergeSort fun a b => decide (key a ≤ key b)) → Q (.ref r) { s with heap := h', toks := tk }) :
    wpAny (model prog w) A (call (.builtin "sorted") [.ref l] [(Str.ofString "key", .ref f)]) Q E s := by
  have hz : its.size = bs.length := by
    have := e.length
    rw [← this, Array.length_toList]
  apply call_function_entry_kw kind_sorted plain_sorted entry_sorted (ksk_s1 _ _)
  unfold Builtin.«sorted»
  apply wpAny_bind (m := checkCount "sorted" 1 1 _)
  apply wpAny_pure
  apply wpAny_bind
  refine wpAny_collect_seq l hS ho hc hd (fun h1 k1 => ?_) (by omega)
  apply wpAny_bind
  refine wpAny_newList ?_ (by rw [Array.length_toList]; omega)
  have up : ∀ {h : Heap}, PySem.W.KeepsBut h1.objs.size (h1.push { cls := .type "list", data := .seq its.toList.toArray }) h → ∀ b o, s.heap.get? b = some o → h.get? b = some o := fun k b o z =>
    k b o (Nat.ne_of_lt (Heap.lt_size (k1 b o z))) (Heap.get?_push_of_some _ (k1 b o z))
  apply wpAny_bind
  apply wpAny_holding
  refine PySem.W.list_sort_key_data (R := R) (bs := bs) (vs := its.toList) (n := 0) (b := false) (fun x => .int (key x)) (Heap.get?_push_size _ rfl) e ?_ ?_ hL ?_ (ksk_l1 _ _) (ksk_t1 _ _) ?_ ?_
  · rintro d hd d' hd'
    obtain ⟨x, _, rfl⟩ := List.mem_map.mp hd
    obtain ⟨y, _, rfl⟩ := List.mem_map.mp hd'
    rfl
  · refine .inr fun d hd => ?_
    obtain ⟨x, _, rfl⟩ := List.mem_map.mp hd
    constructor
    · intro z
      cases z
    · intro _ z
      cases z
  · intro x _
    show A.units + 1 + 1 + 0 < cLine
    omega
  · intro v x hR hx h tk kp
    exact turn v x hR hx h tk (up kp)
  · intro out c h' tk kp hat _ ho2
    apply wpAny_pure
    rw [PySem.W.dataLe_int] at ho2
    exact ⟨_, rfl, q out c tk h1 h' _ k1 (fun b o z => kp b o (Nat.ne_of_lt (Heap.lt_size z)) (Heap.get?_push_of_some _ z)) (Nat.le_refl _) hat ho2⟩
theorem each_of_vals : ∀ {ps : List (V × Int)} {us : List Value}, Vals (ps.map Prod.fst) us → PySem.W.EachIs (fun u p => RelV p.1 u) us ps
  | [], _, r => by
    cases r
    exact .nil
  | p :: ps, _, r => by
    cases r with
    | cons h r => exact .cons h (each_of_vals r)
theorem vals_of_each : ∀ {ps : List (V × Int)} {us : List Value}, PySem.W.EachIs (fun u p => RelV p.1 u) us ps → Vals (ps.map Prod.fst) us
  | _, _, .nil => .nil
  | _, _, .cons h r => .cons h (vals_of_each r)
/-- the things sorted by their keys, as they stood where two are alike -/
def byKey (ps : List (V × Int)) : List (V × Int) := ps.mergeSort fun a b => decide (a.2 ≤ b.2)
def tSortLam (K : PySem.W.Frag) (T : List (Addr × Str)) (tx : TE) : TE := fun σ H Q => tx σ H fun x H1 => ∃ (l : Addr) (ps : List (V × Int)), x = .ref l ∧ SqR K H1 l (ps.map Prod.fst) ∧ (∀ p ∈ ps, ∃ (a : Addr) (ys : List V), p.1 = .ref a ∧ SqT K H1 a (.int p.2 :: ys)) ∧ Tabs T H1 ∧
  ∀ (H2 : Hp) (r : Addr), ExtN H1 H2 → Tabs T H2 → H2 r = none → Q (.ref r) (upd H2 r (.lst ((byKey ps).map Prod.fst)))
section
variable {X : Cx}
theorem pe_sortLam (Kk : PySem.W.Frag) {T : List (Addr × Str)} {c P : Addr} {pr : Str} {params : Arguments} {body : Expr} {scope : Scope} {e : Expr} {tx : TE} {p lpos kp pos : Pos} (hg : Gl X "sorted") (hm : X.mg "sorted" = none) (hx : PE X e tx)
    (TB : TabB X.base X.mg c P) (hcode : X.env.code = .ref c) (hmT : (P, X.env.qual ++ "<lambda>") ∈ T) (hu : ∀ p ∈ T, p.1 = P → p.2 = X.env.qual ++ "<lambda>") (hr : Room 1 X.A) (L : LamF scope pr body) (hdef : defaultsOf params X.env = ([], []))
    (hbind : ∀ (q : Str) (cl : List (Str × Addr)) (pm cv ctv u : Value), bindArgs (PySem.W.kla_fn "<lambda>" q params body scope cl pm cv ctv) ⟨[u], []⟩ = pure [(pr, u)])
    (he : backTo pos (starEach [e] X.env) = (false, eval e X.env) :: backTo pos (starEach [] X.env) := by rfl) (hpl : (backTo pos (starEach [e] X.env)).any (·.1) = false := by rfl) (hKk : X.K = Kk := by rfl) :
    PE X (.Call (.Name "sorted" p) [e] [⟨some "key", .Lambda params body scope lpos, kp⟩] pos) (tSortLam Kk T tx) := by
  subst hKk
  constructor
  intro pins s σ H Q I h
  apply wpAny_Call_Name_kw
  refine ld_blt I hg hm (u := .builtin "sorted") (by decide +kernel) ?_ (by decide) (by decide)
  apply callWith_kw (he := he) (hplain := hpl) (hall := rfl) (hkw := rfl)
  rw [he]
  apply Calls.spliced_cons
  refine thn (hx.run pins s σ H _ I h) ?_
  rintro u s1 ⟨x, H1, I1, rx, l, ps, rfl, hq, hk, hT, q⟩
  cases rx
  apply Calls.spliced_nil
  apply kws_cons
  apply lam_make2 I1 TB hcode hmT hu hT hdef (fun y hy z => by rw [L.names, List.mem_singleton] at hy; rw [hy] at z; cases z)
  intro f c' pm ctv H2 s2 I2 eN T2 hf hfn hfr hco
  apply kws_nil
  show wpAny _ _ (call (.builtin "sorted") [.ref l] [(Str.ofString "key", .ref f)]) _ _ _
  obtain ⟨S, o, its, n, hS, ho, hc, hd, r, hz⟩ : ∃ (S : String) (o : Obj) (its : Array Value) (n : Nat), (S = "list" ∨ S = "tuple") ∧ s2.heap.get? l = some o ∧ o.cls = .type S ∧ o.data = .seq its n ∧ Vals (ps.map Prod.fst) its.toList ∧ (ps.map Prod.fst).length ≤ sizeLine := by
    rcases hq with hq | hq
    · obtain ⟨its, r, ⟨o, n, z1, z2, z3, z4⟩, hz⟩ := I2.list (SqL.extN hq eN)
      exact ⟨"list", o, _, n, .inl rfl, z1, z2, z4, by simpa using r, hz⟩
    · obtain ⟨its, r, ⟨o, z1, z2, n, z4⟩, hz⟩ := I2.tuple (SqT.extN hq eN)
      exact ⟨"tuple", o, _, n, .inr rfl, z1, z2, z4, by simpa using r, hz⟩
  have hdep : X.A.depth < recursionLimit := hr.depth
  rw [List.length_map] at hz
  refine sorted_by (R := fun u (p : V × Int) => RelV p.1 u) (bs := ps) (key := Prod.snd) hS ho hc hd (each_of_vals r) hz (by have := hr.un; omega) (fun v x rv hx h tk kp => ?_) (fun out c tk h1 h' r k1 kp hsz hat ho2 => ?_)
  · obtain ⟨x, n⟩ := x
    obtain ⟨a, ys, ex, hy⟩ := hk _ hx
    have ex : x = .ref a := ex
    subst ex
    cases (show RelV (.ref a) v from rv)
    have hy : SqT X.K H1 a (.int n :: ys) := hy
    obtain ⟨it2, r2, ⟨ot, y1, y2, y3⟩, _⟩ := I2.tuple (SqT.extN hy eN)
    obtain ⟨w0, rr, rfl, t0, rfl⟩ : ∃ w0 rr, it2 = w0 :: rr ∧ ∃ t, w0 = Value.int n t := by
      cases r2 with
      | cons z1 z2 => exact ⟨_, _, rfl, z1⟩
    obtain ⟨⟨oc, vs, tq, c1, c2, c3⟩, _⟩ := I2.hok c' _ hco
    refine lam_first (t := t0) hdep L (kp _ _ hf) ⟨oc, vs, tq, kp _ _ c1, c2, c3⟩ (hbind _ _ _ _ _ _) ⟨ot, kp _ _ y1, y2, y3⟩ (by simp) ?_
    exact I2.nolimit.keeps kp
  · have I3 := I2.kept (t' := s2.toks) k1
    have fr := I3.hok.fresh hsz
    refine ⟨.ref r, upd H2 r (.lst ((byKey ps).map Prod.fst)), I3.laid kp hsz ⟨?_, _, c, vals_of_each ho2, hat⟩, rfl, q H2 r eN T2 fr⟩
    unfold byKey
    rw [List.length_map, List.length_mergeSort]
    exact hz
end
end Tw
/-! TwT: data of tuples alone (they stay, whatever else is changed); names; sorts; entries of a schema's rows. -/
namespace Tw
open PySem PySem.Spec PyProof.Rows L2 Sb LamX
/-! ### data of tuples -/
mutual
inductive Td (K : PySem.W.Frag) (H : Hp) : V → PyData → Prop
  | non : Td K H .non .none
  | bl (b : Bool) : Td K H (.bl b) (.bool b)
  | int (n : Int) : Td K H (.int n) (.int n)
  | str (s : Str) : Td K H (.str s) (.str s)
  | tup {a : Addr} {xs : List V} {ds : List PyData} : SqT K H a xs → Tds K H xs ds → Td K H (.ref a) (.tuple ds)
inductive Tds (K : PySem.W.Frag) (H : Hp) : List V → List PyData → Prop
  | nil : Tds K H [] []
  | cons {x : V} {xs : List V} {d : PyData} {ds : List PyData} : Td K H x d → Tds K H xs ds → Tds K H (x :: xs) (d :: ds)
end
/-- what stands of tuples, stands -/
def KeepT (K : PySem.W.Frag) (H H' : Hp) : Prop := ∀ a xs, SqT K H a xs → SqT K H' a xs
theorem KeepT.same {K : PySem.W.Frag} {H H' : Hp} (s : Same H H') : KeepT K H H' := fun a xs h => by
  rcases h with (h | ⟨o, h⟩) | h
  · exact .inl (.inl (s _ _ h))
  · exact .inl (.inr ⟨o, s _ _ h⟩)
  · exact .inr h
theorem KeepT.extN {K : PySem.W.Frag} {H H' : Hp} (s : ExtN H H') : KeepT K H H' := fun _ _ h => SqT.extN h s
/-- all but some objects that are no tuples stay -/
theorem KeepT.but {K : PySem.W.Frag} {H H' : Hp} (k : ∀ b o, H b = some o → (∀ xs, o = .tup xs → H' b = some o) ∧ (∀ q xs, o = .frz q (.tup xs) → H' b = some o)) : KeepT K H H' := fun a xs h => by
  rcases h with (h | ⟨o, h⟩) | h
  · exact .inl (.inl ((k _ _ h).1 _ rfl))
  · exact .inl (.inr ⟨o, (k _ _ h).2 _ _ rfl⟩)
  · exact .inr h
theorem KeepT.trans {K : PySem.W.Frag} {H H1 H2 : Hp} (a : KeepT K H H1) (b : KeepT K H1 H2) : KeepT K H H2 := fun c xs h => b c xs (a c xs h)
mutual
theorem Td.keep {K : PySem.W.Frag} {H H' : Hp} (k : KeepT K H H') : ∀ {v : V} {d : PyData}, Td K H v d → Td K H' v d
  | _, _, .non => .non
  | _, _, .bl b => .bl b
  | _, _, .int n => .int n
  | _, _, .str s => .str s
  | _, _, .tup h r => .tup (k _ _ h) (Tds.keep k r)
theorem Tds.keep {K : PySem.W.Frag} {H H' : Hp} (k : KeepT K H H') : ∀ {v : List V} {d : List PyData}, Tds K H v d → Tds K H' v d
  | _, _, .nil => .nil
  | _, _, .cons h r => .cons (Td.keep k h) (Tds.keep k r)
end
mutual
theorem Td.dp {K : PySem.W.Frag} {H : Hp} : ∀ {v : V} {d : PyData}, Td K H v d → Dp K H v d
  | _, _, .non => .non
  | _, _, .bl b => .bl b
  | _, _, .int n => .int n
  | _, _, .str s => .str s
  | _, _, .tup h r => .tup h (Tds.dp r)
theorem Tds.dp {K : PySem.W.Frag} {H : Hp} : ∀ {v : List V} {d : List PyData}, Tds K H v d → DpAll K H v d
  | _, _, .nil => .nil
  | _, _, .cons h r => .cons (Td.dp h) (Tds.dp r)
end
theorem Td.row {K : PySem.W.Frag} {H : Hp} {v : V} {ds : List PyData} (h : Td K H v (.tuple ds)) : ∃ a xs, v = .ref a ∧ SqT K H a xs ∧ Tds K H xs ds := by
  cases h with
  | tup q r => exact ⟨_, _, rfl, q, r⟩
theorem Td.toInt {K : PySem.W.Frag} {H : Hp} {v : V} {n : Int} (h : Td K H v (.int n)) : v = .int n := by cases h; rfl
theorem Td.toStr {K : PySem.W.Frag} {H : Hp} {v : V} {s : Str} (h : Td K H v (.str s)) : v = .str s := by cases h; rfl
theorem Td.toBool {K : PySem.W.Frag} {H : Hp} {v : V} {b : Bool} (h : Td K H v (.bool b)) : v = .bl b := by cases h; rfl
theorem Td.toNone {K : PySem.W.Frag} {H : Hp} {v : V} (h : Td K H v .none) : v = .non := by cases h; rfl
theorem Tds.len {K : PySem.W.Frag} {H : Hp} : ∀ {xs : List V} {ds : List PyData}, Tds K H xs ds → xs.length = ds.length
  | _, _, .nil => rfl
  | _, _, .cons _ r => congrArg (· + 1) (Tds.len r)
theorem Tds.append {K : PySem.W.Frag} {H : Hp} : ∀ {xs ys : List V} {ds es : List PyData}, Tds K H xs ds → Tds K H ys es → Tds K H (xs ++ ys) (ds ++ es)
  | _, _, _, _, .nil, t => t
  | _, _, _, _, .cons h r, t => .cons h (Tds.append r t)
theorem SqT.ty {K : PySem.W.Frag} {H : Hp} {a : Addr} {xs : List V} (h : SqT K H a xs) : TyX K H (.ref a) (.type "tuple") := by
  rcases h with (h | ⟨o, h⟩) | ⟨o, its, n, h, c, _⟩
  · exact .base (.tup h)
  · exact .fTuple h
  · exact .kTuple h c
theorem Td.ty {K : PySem.W.Frag} {H : Hp} {v : V} {ds : List PyData} (h : Td K H v (.tuple ds)) : TyX K H v (.type "tuple") := by
  cases h with
  | tup q r => exact SqT.ty q
/-- a bound, as data and as a value -/
def oI : Option Int → PyData
  | none => .none
  | some n => .int n
def oV : Option Int → V
  | none => .non
  | some n => .int n
/-! ### more of the built-ins' names -/
structure Bu (mg : Str → Option Value) extends Bt mg where
  n_abs : mg "abs" = none
  n_ord : mg "ord" = none
  n_sorted : mg "sorted" = none
  n_min : mg "min" = none
  n_dict : mg "dict" = none
theorem oV_none : decide (oV none = V.non) = true := decide_eq_true rfl
theorem oV_some (n : Int) : decide (oV (some n) = V.non) = false := decide_eq_false (fun z => nomatch z)
theorem iteY {p : Prop} [Decidable p] {A B : Prop} (h : p) (a : A) : if decide p = true then A else B := by
  rw [if_pos (decide_eq_true h)]
  exact a
theorem iteN {p : Prop} [Decidable p] {A B : Prop} (h : ¬ p) (b : B) : if decide p = true then A else B := by
  rw [if_neg (fun z => h (of_decide_eq_true z))]
  exact b
theorem iteNY {p : Prop} [Decidable p] {A B : Prop} (h : p) (b : B) : if (!decide p) = true then A else B := by
  rw [decide_eq_true h]
  exact b
theorem iteNN {p : Prop} [Decidable p] {A B : Prop} (h : ¬ p) (a : A) : if (!decide p) = true then A else B := by
  rw [decide_eq_false h]
  exact a
theorem sne {x y : Str} (h : x ≠ y) : ¬ V.str x = V.str y := fun z => h (V.str.inj z)
theorem ine {x y : Int} (h : x ≠ y) : ¬ V.int x = V.int y := fun z => h (V.int.inj z)
theorem at0 {a : V} {r : List V} : atI (a :: r) 0 = some a := atI_nat (xs := a :: r) (j := 0) rfl
theorem at1 {a b : V} {r : List V} : atI (a :: b :: r) 1 = some b := atI_nat (xs := a :: b :: r) (j := 1) rfl
theorem at2 {a b c : V} {r : List V} : atI (a :: b :: c :: r) 2 = some c := atI_nat (xs := a :: b :: c :: r) (j := 2) rfl
theorem at3 {a b c d : V} {r : List V} : atI (a :: b :: c :: d :: r) 3 = some d := atI_nat (xs := a :: b :: c :: d :: r) (j := 3) rfl
/-! ### names -/
def alpha : Str := "abcdefghijklmnopqrstuvwxyz"
def isLow (c : Nat) : Bool := decide (97 ≤ c ∧ c ≤ 122)
def isNm (z : Str) : Bool := decide (1 ≤ z.length) && decide (z.length ≤ 8) && z.cps.toList.all isLow
def nmV : V → Bool
  | .str z => isNm z
  | _ => false
theorem mem_alpha (c : Nat) : decide (c ∈ alpha.cps.toList) = isLow c := by
  have e : alpha.cps.toList = (List.range 26).map (· + 97) := by decide +kernel
  rw [e]
  unfold isLow
  simp only [List.mem_map, List.mem_range]
  by_cases h : 97 ≤ c ∧ c ≤ 122
  · rw [decide_eq_true h]
    exact decide_eq_true ⟨c - 97, by omega, by omega⟩
  · rw [decide_eq_false h]
    refine decide_eq_false ?_
    rintro ⟨a, h1, h2⟩
    omega
theorem nm_asc {z : Str} (h : isNm z = true) : Asc 8 z := by
  unfold isNm at h
  simp only [Bool.and_eq_true, decide_eq_true_eq, List.all_eq_true] at h
  refine ⟨h.1.2, fun c hc => ?_⟩
  have := h.2 c hc
  unfold isLow at this
  have := of_decide_eq_true this
  omega
/-- what is_name is asked of: any value whose kind is known; a text of at most a thousand signs -/
def spName (K : PySem.W.Frag) : Sp := fun vs H Q _ => ∃ (v : V) (t : Value) (b : Bool), vs = [v] ∧ TyX K H v t ∧ PySem.W.kitOne K t (.type "str") = some b ∧ (b = true → ∃ z, v = .str z ∧ Asc 1000 z) ∧ (b = false → nmV v = false) ∧ ∀ H', Same H H' → Q (.bl (nmV v)) H'
/-- a name handed to it -/
theorem name_yes {K : PySem.W.Frag} {H : Hp} {z : Str} (h : isNm z = true) {Q : VK} {E : XK} (q : ∀ H', Same H H' → Q (.bl true) H') : spName K [.str z] H Q E :=
  ⟨.str z, .type "str", true, rfl, .base (.str z), kit_ty (by decide +kernel), fun _ => ⟨z, rfl, (nm_asc h).mono (by decide)⟩, (fun z => nomatch z), fun H' s => by
    rw [show nmV (.str z) = isNm z from rfl, h]
    exact q H' s⟩
/-! ### sorts -/
inductive So
  | num (lo hi : Option Int)
  | tru
  | txt (n : Int)
  | row (n : Int) (s : So)
  | may (s : So)
  | nod (k : Str)
  | cho (c : Str)
def So.word : So → Str
  | num _ _ => "number"
  | tru => "truth"
  | txt _ => "text"
  | row _ _ => "row"
  | may _ => "maybe"
  | nod _ => "node"
  | cho _ => "choice"
def So.rest : So → List PyData
  | num lo hi => [oI lo, oI hi]
  | tru => []
  | txt n => [.int n]
  | row n s => [.int n, .tuple (.str s.word :: s.rest)]
  | may s => [.tuple (.str s.word :: s.rest)]
  | nod k => [.str k]
  | cho c => [.str c]
/-- the sort as data -/
def So.pd (s : So) : PyData := .tuple (.str s.word :: s.rest)
def loHi : Option Int → Option Int → Prop
  | some a, some b => a ≤ b
  | _, _ => True
def So.ok (ks cs : List Str) : Bool → So → Prop
  | _, num lo hi => loHi lo hi
  | _, tru => True
  | _, txt n => 0 ≤ n ∧ n ≤ 40
  | _, row n s => 0 ≤ n ∧ n ≤ 20 ∧ s.ok ks cs false
  | i, may s => i = false ∧ s.ok ks cs true
  | _, nod k => isNm k = true ∧ k ∈ ks
  | _, cho c => isNm c = true ∧ c ∈ cs
def So.depth : So → Nat
  | row _ s => s.depth + 1
  | may s => s.depth + 1
  | _ => 0
def So.inmost : So → Prop
  | row _ _ => False
  | may _ => False
  | _ => True
theorem Td.oV {K : PySem.W.Frag} {H : Hp} {v : V} {o : Option Int} (h : Td K H v (oI o)) : v = Tw.oV o := by
  cases o with
  | none => exact h.toNone
  | some n => exact h.toInt
/-- a text of plain signs -/
def plainC (c : Nat) : Bool := decide (32 ≤ c ∧ c ≤ 126 ∧ c ≠ 37)
def figs : Int := 999999999999999999999999999999999999999999999999999999999999
/-- what may stand as a default of a sort -/
def DefOk : So → PyData → Prop
  | .num lo hi, .int n => (∀ a, lo = some a → a ≤ n) ∧ (∀ b, hi = some b → n ≤ b) ∧ -figs ≤ n ∧ n ≤ figs
  | .tru, .bool _ => True
  | .txt m, .str z => (z.length : Int) ≤ m ∧ z.cps.toList.all plainC = true ∧ z.length ≤ 40
  | .row _ _, .tuple [] => True
  | .may _, .none => True
  | _, _ => False
/-! ### entries -/
structure En where
  num : Int
  name : Str
  of : Option So
  left : Option PyData
def En.pd (e : En) : PyData := .tuple ([.int e.num, .str e.name, e.of.elim .none So.pd] ++ e.left.toList)
/-- an entry that may stand in a kind's row (k) or in a choice's, behind the earlier ones -/
structure EnOk (k : Bool) (ks cs : List Str) (earlier : List En) (e : En) : Prop where
  name : isNm e.name = true
  newN : e.name ∉ earlier.map En.name
  lo : (if k = true then 1 else 0) ≤ e.num
  hi : e.num ≤ 99
  newI : e.num ∉ earlier.map En.num
  none : e.of = none → k = false ∧ e.left = none
  some : ∀ s, e.of = some s → e.num ≠ 0 ∧ s.ok ks cs false ∧ (∀ d, e.left = some d → k = true ∧ DefOk s d)
/-- the rows of a schema: each kind's (choice's) entries -/
def RowOk (k : Bool) (ks cs : List Str) (es : List En) : Prop := ∀ i e, es[i]? = some e → EnOk k ks cs (es.take i) e
/-- a row at a, a list or a tuple -/
def EnRow (K : PySem.W.Frag) (H : Hp) (es : List En) (v : V) : Prop := ∃ a xs, v = .ref a ∧ SqR K H a xs ∧ Tds K H xs (es.map En.pd)
theorem Tds.at_ {K : PySem.W.Frag} {H : Hp} : ∀ {xs : List V} {ds : List PyData} {i : Nat} {x : V}, Tds K H xs ds → xs[i]? = some x → ∃ d, ds[i]? = some d ∧ Td K H x d
  | _, _, 0, _, .cons h _, e => ⟨_, rfl, by cases e; exact h⟩
  | _, _, i + 1, _, .cons _ r, e => Tds.at_ (i := i) r e
theorem Tds.take {K : PySem.W.Frag} {H : Hp} : ∀ {xs : List V} {ds : List PyData} (i : Nat), Tds K H xs ds → Tds K H (xs.take i) (ds.take i)
  | _, _, 0, _ => .nil
  | _, _, _ + 1, .nil => .nil
  | _, _, i + 1, .cons h r => .cons h (Tds.take i r)
theorem Tds.drop {K : PySem.W.Frag} {H : Hp} : ∀ {xs : List V} {ds : List PyData} (i : Nat), Tds K H xs ds → Tds K H (xs.drop i) (ds.drop i)
  | _, _, 0, h => h
  | _, _, _ + 1, .nil => .nil
  | _, _, i + 1, .cons _ r => Tds.drop i r
/-- a list of names -/
def NmL (H : Hp) (a : Addr) (ks : List Str) : Prop := H a = some (.lst (ks.map V.str))
theorem NmL.same {H H' : Hp} {a : Addr} {ks : List Str} (h : NmL H a ks) (s : Same H H') : NmL H' a ks := s _ _ h
theorem flat_strs : ∀ ks : List Str, (ks.map V.str).all flatV = true
  | [] => rfl
  | _ :: r => flat_strs r
theorem in_strs {k : Str} : ∀ {ks : List Str}, k ∈ ks → inV (.str k) (ks.map V.str) = true
  | a :: r, h => by
    show ((a == k) || inV (.str k) (r.map V.str)) = true
    rcases List.mem_cons.mp h with rfl | h
    · simp
    · rw [in_strs h, Bool.or_true]
theorem nin_strs {k : Str} : ∀ {ks : List Str}, k ∉ ks → inV (.str k) (ks.map V.str) = false
  | [], _ => rfl
  | a :: r, h => by
    show ((a == k) || inV (.str k) (r.map V.str)) = false
    rw [nin_strs (fun z => h (List.mem_cons_of_mem _ z)), Bool.or_false]
    exact beq_eq_false_iff_ne.mpr fun e => h (e ▸ List.mem_cons_self)
theorem flat_ints : ∀ ks : List Int, (ks.map V.int).all flatV = true
  | [] => rfl
  | _ :: r => flat_ints r
theorem nin_ints {k : Int} : ∀ {ks : List Int}, k ∉ ks → inV (.int k) (ks.map V.int) = false
  | [], _ => rfl
  | a :: r, h => by
    show ((a == k) || inV (.int k) (r.map V.int)) = false
    rw [nin_ints (fun z => h (List.mem_cons_of_mem _ z)), Bool.or_false]
    exact beq_eq_false_iff_ne.mpr fun e => h (e ▸ List.mem_cons_self)
theorem So.word_row : ∀ {s : So}, s.inmost → s.word ≠ "row" ∧ s.word ≠ "maybe"
  | .num _ _, _ => ⟨show ("number" : Str) ≠ "row" by decide +kernel, show ("number" : Str) ≠ "maybe" by decide +kernel⟩
  | .tru, _ => ⟨show ("truth" : Str) ≠ "row" by decide +kernel, show ("truth" : Str) ≠ "maybe" by decide +kernel⟩
  | .txt _, _ => ⟨show ("text" : Str) ≠ "row" by decide +kernel, show ("text" : Str) ≠ "maybe" by decide +kernel⟩
  | .nod _, _ => ⟨show ("node" : Str) ≠ "row" by decide +kernel, show ("node" : Str) ≠ "maybe" by decide +kernel⟩
  | .cho _, _ => ⟨show ("choice" : Str) ≠ "row" by decide +kernel, show ("choice" : Str) ≠ "maybe" by decide +kernel⟩
  | .row _ _, h => h.elim
  | .may _, h => h.elim
theorem So.rest_len : ∀ s : So, s.rest.length ≤ 2
  | .num _ _ => Nat.le_refl _
  | .tru => Nat.zero_le _
  | .txt _ => by show 1 ≤ 2; decide
  | .nod _ => by show 1 ≤ 2; decide
  | .cho _ => by show 1 ≤ 2; decide
  | .row _ _ => Nat.le_refl _
  | .may _ => by show 1 ≤ 2; decide
theorem cut3 (a b c : V) (ys : List V) : cutV (a :: b :: c :: ys) none (some 3) = [a, b, c] := by
  unfold cutV
  rw [HT.sIx_none, show (some (3 : Int)) = some ((3 : Nat) : Int) from rfl, HT.sIx_nat]
  show List.take (min 3 (ys.length + 3) - 0) (a :: b :: c :: ys) = _
  rw [Nat.min_eq_left (by omega)]
  rfl
theorem whole3 {a b c : V} {ys : List V} (h : HT.sIx (a :: b :: c :: ys).length (a :: b :: c :: ys).length (some 3) = (a :: b :: c :: ys).length) : ys = [] := by
  rw [show (some (3 : Int)) = some ((3 : Nat) : Int) from rfl, HT.sIx_nat] at h
  simp only [List.length_cons] at h
  exact List.length_eq_zero_iff.mp (by omega)
/-! ### a dict while it is walked -/
theorem unlock {H H' : Hp} {d : Addr} {u : HO} {od : Obj} (hd : H d = some u) (s : Same (upd H d (.frz od u)) H') : Same H (upd H' d u) := fun b o e => by
  by_cases hb : b = d
  · subst hb
    rw [upd_same, ← hd, e]
  · rw [upd_ne hb]
    exact s b o (by rw [upd_ne hb]; exact e)
theorem lock_keep {K : PySem.W.Frag} {H : Hp} {d : Addr} {kvs : List (Key × V)} {od : Obj} (hd : H d = some (.dK kvs)) : KeepT K H (upd H d (.frz od (.dK kvs))) := KeepT.but fun b o e => by
  have nb : (∀ k, o ≠ .dK k) → b ≠ d := fun n w => by
    rw [w, hd] at e
    exact n _ (Option.some.inj e).symm
  refine ⟨fun xs w => ?_, fun q xs w => ?_⟩
  · rw [upd_ne (nb fun k z => by rw [w] at z; cases z)]
    exact e
  · rw [upd_ne (nb fun k z => by rw [w] at z; cases z)]
    exact e
theorem lock_list {K : PySem.W.Frag} {H : Hp} {d a : Addr} {kvs : List (Key × V)} {xs : List V} {od : Obj} (hd : H d = some (.dK kvs)) (h : SqL K H a xs) : SqL K (upd H d (.frz od (.dK kvs))) a xs := by
  have nb : ∀ {b : Addr} {o : HO}, H b = some o → (∀ k, o ≠ .dK k) → b ≠ d := fun e n w => by
    rw [w, hd] at e
    exact n _ (Option.some.inj e).symm
  rcases h with (h | ⟨o, h⟩) | h
  · exact .inl (.inl (by rw [upd_ne (nb h fun k z => nomatch z)]; exact h))
  · exact .inl (.inr ⟨o, by rw [upd_ne (nb h fun k z => nomatch z)]; exact h⟩)
  · exact .inr h
theorem unlock_keep {K : PySem.W.Frag} {H : Hp} {d : Addr} {kvs : List (Key × V)} {od : Obj} (hd : H d = some (.frz od (.dK kvs))) : KeepT K H (upd H d (.dK kvs)) := KeepT.but fun b o e => by
  have nb : (∀ q k, o ≠ .frz q (.dK k)) → b ≠ d := fun n w => by
    rw [w, hd] at e
    exact n _ _ (Option.some.inj e).symm
  refine ⟨fun xs w => ?_, fun q xs w => ?_⟩
  · rw [upd_ne (nb fun q k z => by rw [w] at z; cases z)]
    exact e
  · rw [upd_ne (nb fun q k z => by rw [w] at z; cases z)]
    exact e
/-! ### a schema's rows by their names -/
abbrev TRow := Str × List En
/-- the entries of a dict, name by name -/
def RowIs (K : PySem.W.Frag) (H : Hp) (kv : Key × V) (r : TRow) : Prop := kv.1 = .inr r.1 ∧ EnRow K H r.2 kv.2
def TabOk (k : Bool) (ks cs : List Str) (tb : List TRow) : Prop := ∀ r ∈ tb, isNm r.1 = true ∧ RowOk k ks cs r.2 ∧ r.2.length ≤ 100 ∧ (k = false → r.2 ≠ [])
theorem rows_keys {K : PySem.W.Frag} {H : Hp} : ∀ {kvs : List (Key × V)} {tb : List TRow}, Paired (RowIs K H) kvs tb → kvs.map Prod.fst = (tb.map Prod.fst).map Sum.inr
  | _, _, .nil => rfl
  | _, _, .cons h r => by rw [List.map_cons, List.map_cons, List.map_cons, h.1, rows_keys r]
theorem pd_atL {α β : Type} {F : α → β → Prop} : ∀ {xs : List α} {ys : List β} {i : Nat} {x : α}, Paired F xs ys → xs[i]? = some x → ∃ y, ys[i]? = some y ∧ F x y
  | _, _, 0, _, .cons h _, e => ⟨_, rfl, by cases e; exact h⟩
  | _, _, i + 1, _, .cons _ r, e => pd_atL (i := i) r e
theorem key_at {kvs : List (Key × V)} {ks : List Str} (h : kvs.map Prod.fst = ks.map Sum.inr) {i : Nat} {k : Key} {v : V} (e : kvs[i]? = some (k, v)) : ∃ z, ks[i]? = some z ∧ k = .inr z := by
  have e1 : (kvs.map Prod.fst)[i]? = some k := by rw [List.getElem?_map, e] <;> rfl
  rw [h, List.getElem?_map] at e1
  obtain ⟨z, hz, rfl⟩ := Option.map_eq_some_iff.mp e1
  exact ⟨z, hz, rfl⟩
/-- a slice of a row, list or tuple, is a row -/
def rSlQ (K : PySem.W.Frag) : V → Option Int → Option Int → Hp → VK → Prop := fun x lo hi H Q => ∃ a xs, x = .ref a ∧ SqR K H a xs ∧ ∀ (H' : Hp) (t : Addr), Same H H' → SqR K H' t (cutV xs lo hi) → Q (.ref t) H'
theorem sl_sqr {X : Cx} : SlR X (rSlQ X.K) := by
  intro pins s σ H x v vl vu lo hi sl Q I rx hs pl pu ⟨a, xs, e, hr, q⟩
  subst e
  apply SlR.or (sl_list (X := X)) (sl_tupA (X := X)) pins s σ H _ v vl vu lo hi sl Q I rx hs pl pu
  cases hr with
  | inl h => exact .inl ⟨a, xs, rfl, h, fun p hp => q _ p (same_upd hp) (.inl (SqL.of upd_same))⟩
  | inr h =>
    refine .inr ⟨a, xs, rfl, h, fun w => q H a (Same.refl _) (.inr ?_), fun _ p hp => q _ p (same_upd hp) (.inr (SqT.of upd_same))⟩
    unfold cutV
    rw [w.1, w.2, List.drop_zero, Nat.sub_zero, List.take_length]
    exact h
theorem cut_take (xs : List V) (n : Nat) (h : n ≤ xs.length) : cutV xs none (some (n : Int)) = xs.take n := by
  unfold cutV
  rw [HT.sIx_none, HT.sIx_nat, List.drop_zero, Nat.sub_zero, Nat.min_eq_left h]
theorem SqL.ty {K : PySem.W.Frag} {H : Hp} {a : Addr} {xs : List V} (h : SqL K H a xs) : TyX K H (.ref a) (.type "list") := by
  rcases h with (h | ⟨o, h⟩) | ⟨o, its, n, h, c, _⟩
  · exact .base (.lst h)
  · exact .base (.frz h)
  · exact .kList h c
theorem SqR.ty {K : PySem.W.Frag} {H : Hp} {a : Addr} {xs : List V} (h : SqR K H a xs) : ∃ t, TyX K H (.ref a) t ∧ PySem.W.kitAny K t [.type "list", .type "tuple"] = some true := by
  cases h with
  | inl h => exact ⟨_, SqL.ty h, kitAny_cons (b := true) (kit_ty (by decide +kernel)) (fun z => nomatch z) fun _ => rfl⟩
  | inr h => exact ⟨_, SqT.ty h, kitAny_cons (b := false) (kit_ty (by decide +kernel)) (fun _ => kitAny_cons (b := true) (kit_ty (by decide +kernel)) (fun z => nomatch z) fun _ => rfl) fun z => nomatch z⟩
theorem SqR.len {K : PySem.W.Frag} {H : Hp} {a : Addr} {xs : List V} (h : SqR K H a xs) : LenV K (.ref a) H xs.length := h.elim (fun h => .inl ⟨xs, h, rfl⟩) fun h => .inr ⟨xs, h, rfl⟩
theorem TabOk.at {k : Bool} {ks cs : List Str} {tb : List TRow} (h : TabOk k ks cs tb) {i : Nat} {r : TRow} (e : tb[i]? = some r) : isNm r.1 = true ∧ RowOk k ks cs r.2 ∧ r.2.length ≤ 100 ∧ (k = false → r.2 ≠ []) := h r (List.mem_of_getElem? e)
/-! ### a row sorted by its numbers -/
def sortEn (es : List En) : List En := es.mergeSort fun a b => decide (a.num ≤ b.num)
theorem zip_fst {α β : Type} : ∀ {xs : List α} {ys : List β}, xs.length = ys.length → (xs.zip ys).map Prod.fst = xs
  | [], [], _ => rfl
  | x :: xs, y :: ys, h => by
    show x :: (xs.zip ys).map Prod.fst = _
    rw [zip_fst (Nat.succ.inj h)]
theorem zip_snd {α β : Type} : ∀ {xs : List α} {ys : List β}, xs.length = ys.length → (xs.zip ys).map Prod.snd = ys
  | [], [], _ => rfl
  | x :: xs, y :: ys, h => by
    show y :: (xs.zip ys).map Prod.snd = _
    rw [zip_snd (Nat.succ.inj h)]
theorem Tds.of_zip {K : PySem.W.Frag} {H : Hp} : ∀ {ps : List (V × En)}, (∀ p ∈ ps, Td K H p.1 p.2.pd) → Tds K H (ps.map Prod.fst) ((ps.map Prod.snd).map En.pd)
  | [], _ => .nil
  | p :: ps, h => .cons (h p List.mem_cons_self) (Tds.of_zip fun q hq => h q (List.mem_cons_of_mem _ hq))
theorem Tds.zip {K : PySem.W.Frag} {H : Hp} : ∀ {xs : List V} {es : List En}, Tds K H xs (es.map En.pd) → ∀ p ∈ xs.zip es, Td K H p.1 p.2.pd
  | [], _, _, _, hp => by simp at hp
  | _ :: _, [], _, _, hp => by simp at hp
  | x :: xs, e :: es, .cons h r, p, hp => by
    rcases List.mem_cons.mp hp with rfl | hp
    · exact h
    · exact Tds.zip r p hp
/-- .. as sorted by a lambda's keys -/
theorem sort_row {K : PySem.W.Frag} {H : Hp} {xs : List V} {es : List En} (h : Tds K H xs (es.map En.pd)) : ∃ ps : List (V × Int), ps.map Prod.fst = xs ∧ (∀ p ∈ ps, ∃ (a : Addr) (ys : List V), p.1 = .ref a ∧ SqT K H a (.int p.2 :: ys)) ∧ (∀ H', KeepT K H H' → Tds K H' ((byKey ps).map Prod.fst) ((sortEn es).map En.pd)) ∧ (byKey ps).length = es.length := by
  have hl : xs.length = es.length := by rw [h.len, List.length_map]
  refine ⟨(xs.zip es).map fun p => (p.1, p.2.num), ?_, ?_, ?_, ?_⟩
  · rw [List.map_map]
    exact zip_fst hl
  · intro p hp
    obtain ⟨q, hq, rfl⟩ := List.mem_map.mp hp
    obtain ⟨a, xs', e, h1, h2⟩ := Td.row (show Td K H q.1 (.tuple (.int q.2.num :: _)) from h.zip q hq)
    cases h2 with
    | cons t1 t2 =>
      cases t1
      exact ⟨a, _, e, h1⟩
  · intro H' k
    have e1 : byKey ((xs.zip es).map fun p => (p.1, p.2.num)) = ((xs.zip es).mergeSort fun a b => decide (a.2.num ≤ b.2.num)).map fun p => (p.1, p.2.num) := by
      unfold byKey
      exact (List.map_mergeSort (r := fun a b : V × En => decide (a.2.num ≤ b.2.num)) (s := fun a b : V × Int => decide (a.2 ≤ b.2)) (f := fun p : V × En => (p.1, p.2.num)) (fun _ _ _ _ => rfl)).symm
    have e2 : sortEn es = ((xs.zip es).mergeSort fun a b => decide (a.2.num ≤ b.2.num)).map Prod.snd := by
      rw [List.map_mergeSort (r := fun a b : V × En => decide (a.2.num ≤ b.2.num)) (s := fun a b : En => decide (a.num ≤ b.num)) (f := Prod.snd) (fun _ _ _ _ => rfl), zip_snd hl] <;> rfl
    rw [e1, e2, List.map_map]
    exact Tds.of_zip fun p hp => (h.zip p (List.mem_mergeSort.mp hp)).keep k
  · unfold byKey
    rw [List.length_mergeSort, List.length_map, List.length_zip, hl, Nat.min_self]
/-- the rows as a schema has them: tuples, by rising numbers -/
def RowT (K : PySem.W.Frag) (H : Hp) (kv : Key × V) (r : TRow) : Prop := kv.1 = .inr r.1 ∧ ∃ a xs, kv.2 = .ref a ∧ SqT K H a xs ∧ Tds K H xs (r.2.map En.pd)
def sortT (tb : List TRow) : List TRow := tb.map fun r => (r.1, sortEn r.2)
theorem RowT.keep {K : PySem.W.Frag} {H H' : Hp} (k : KeepT K H H') {kv : Key × V} {r : TRow} (h : RowT K H kv r) : RowT K H' kv r := by
  obtain ⟨e, a, xs, e2, h1, h2⟩ := h
  exact ⟨e, a, xs, e2, k _ _ h1, h2.keep k⟩
/-! ### the tables stay where other things are changed -/
/-- no table, no code object -/
def NoTab (o : HO) : Prop := (∀ ps, o ≠ .tbl ps) ∧ ∀ c q, o ≠ CodeO c q
theorem tabs_put {T : List (Addr × Str)} {H : Hp} {d : Addr} {o1 : HO} (h : Tabs T H) (hd : ∀ o, H d = some o → NoTab o) : Tabs T (upd H d o1) := fun p hp => by
  obtain ⟨ps, h1, h2, h3⟩ := h p hp
  refine ⟨ps, ?_, h2, fun pos cv hc => ?_⟩
  · rw [upd_ne (show p.1 ≠ d from fun w => (hd _ (by rw [← w]; exact h1)).1 ps rfl)]
    exact h1
  · obtain ⟨c, e1, e2⟩ := h3 pos cv hc
    refine ⟨c, e1, ?_⟩
    rw [upd_ne (show c ≠ d from fun w => (hd _ (by rw [← w]; exact e2)).2 c p.2 rfl)]
    exact e2
theorem tabs_new {T : List (Addr × Str)} {H : Hp} {d : Addr} {o1 : HO} (h : Tabs T H) (hd : H d = none) : Tabs T (upd H d o1) := tabs_put h fun o e => by rw [hd] at e; cases e
theorem NoTab.dK {kvs : List (Key × V)} : NoTab (.dK kvs) := And.intro (fun _ z => nomatch z) (fun c q (z : HO.dK kvs = CodeO c q) => by unfold CodeO at z; cases z)
theorem NoTab.frz {o : Obj} {u : HO} : NoTab (.frz o u) := And.intro (fun _ z => nomatch z) (fun c q (z : HO.frz o u = CodeO c q) => by unfold CodeO at z; cases z)
theorem NoTab.lst {xs : List V} : NoTab (.lst xs) := And.intro (fun _ z => nomatch z) (fun c q (z : HO.lst xs = CodeO c q) => by unfold CodeO at z; cases z)
theorem NoTab.ins {C dx : Addr} {fs : List (Str × V)} : NoTab (.ins C dx fs) := And.intro (fun _ z => nomatch z) (fun c q (z : HO.ins C dx fs = CodeO c q) => by unfold CodeO at z; cases z)
theorem extN_new {H H' : Hp} {d : Addr} {o : HO} (e : ExtN H H') (hd : H d = none) : ExtN H (upd H' d o) := fun b u q n => by
  rw [upd_ne (ne_of_none q hd)]
  exact e b u q n
theorem putK_new {kvs : List (Key × V)} {k : Key} {v : V} (h : k ∉ kvs.map Prod.fst) : putK kvs k v = kvs ++ [(k, v)] := by
  unfold putK
  rw [if_neg]
  intro hh
  obtain ⟨x, hx, hk⟩ := List.any_eq_true.mp hh
  exact h (List.mem_map.mpr ⟨x, hx, of_decide_eq_true hk⟩)
theorem rowsT_keys {K : PySem.W.Frag} {H : Hp} : ∀ {kvs : List (Key × V)} {tb : List TRow}, Paired (RowT K H) kvs tb → kvs.map Prod.fst = (tb.map Prod.fst).map Sum.inr
  | _, _, .nil => rfl
  | _, _, .cons h r => by rw [List.map_cons, List.map_cons, List.map_cons, h.1, rowsT_keys r]
/-- the row of a name -/
theorem val_row {K : PySem.W.Frag} {H : Hp} {r : TRow} : ∀ {kvs : List (Key × V)} {tb : List TRow}, Paired (RowT K H) kvs tb → (tb.map Prod.fst).Nodup → r ∈ tb → ∃ a xs, valV kvs (.inr r.1) = some (.ref a) ∧ SqT K H a xs ∧ Tds K H xs (r.2.map En.pd)
  | [], [], .nil, _, hm => nomatch hm
  | (k, v) :: kvs, r0 :: tb, .cons h hr, nd, hm => by
    rw [List.map_cons, List.nodup_cons] at nd
    obtain ⟨hk, a, xs, e, h1, h2⟩ := h
    have hk : k = .inr r0.1 := hk
    have e : v = .ref a := e
    subst hk e
    rcases List.mem_cons.mp hm with rfl | hm
    · exact ⟨a, xs, by simp [valV], h1, h2⟩
    · obtain ⟨a', xs', g1, g2⟩ := val_row hr nd.2 hm
      have ne : (Sum.inr r0.1 : Key) ≠ .inr r.1 := fun z => nd.1 (List.mem_map.mpr ⟨r, hm, (Sum.inr.inj z).symm⟩)
      refine ⟨a', xs', ?_, g2⟩
      unfold valV at g1 ⊢
      rw [List.find?_cons, decide_eq_false ne]
      exact g1
/-- no choice comes back to itself by its first cases -/
def Fwd (tb : List TRow) : Prop := ∃ rank : Str → Nat, ∀ r ∈ tb, ∀ e, r.2[0]? = some e → ∀ c, e.of = some (.cho c) → rank r.1 < rank c ∧ c ∈ tb.map Prod.fst
/-! ### a schema's object -/
structure ClS (K : PySem.W.Frag) (C : Addr) : Prop where
  cl : Cls K C
  nK : NoAttr K C "kinds"
  nC : NoAttr K C "choices"
  nR : NoAttr K C "root"
/-- all but the object at p and the tables stay -/
def ButN (p : Addr) (H H' : Hp) : Prop := ∀ b o, b ≠ p → H b = some o → (∀ ps, o ≠ .tbl ps) → H' b = some o
theorem ButN.of {p : Addr} {H H' : Hp} (e : ExtN H H') : ButN p H H' := fun b o _ => e b o
theorem ButN.trans {p : Addr} {H H1 H2 : Hp} (a : ButN p H H1) (b : ButN p H1 H2) : ButN p H H2 := fun c o h e n => b c o h (a c o h e n) n
theorem ButN.put {p : Addr} {H H' : Hp} {o : HO} (a : ButN p H H') : ButN p H (upd H' p o) := fun c u h e n => by
  rw [upd_ne h]
  exact a c u h e n
theorem keepT_ins {K : PySem.W.Frag} {H : Hp} {p C dx : Addr} {fs fs' : List (Str × V)} (h : H p = some (.ins C dx fs)) : KeepT K H (upd H p (.ins C dx fs')) := KeepT.but fun b o e => by
  have nb : (∀ fs, o ≠ .ins C dx fs) → b ≠ p := fun n w => by
    rw [w, h] at e
    exact n _ (Option.some.inj e).symm
  exact ⟨fun xs w => by rw [upd_ne (nb fun k z => by rw [w] at z; cases z)]; exact e, fun q xs w => by rw [upd_ne (nb fun k z => by rw [w] at z; cases z)]; exact e⟩
/-- nothing but a table stands there -/
def New (H : Hp) (b : Addr) : Prop := ∀ o, H b = some o → ∃ ps, o = .tbl ps
/-- the schema at p: its rows (their tables out of N), its root -/
def ScAt (K : PySem.W.Frag) (C : Addr) (N : Addr → Prop) (H : Hp) (p : Addr) (tb1 tb2 : List TRow) (s : So) : Prop := ∃ (dx k1 k2 : Addr) (kv1 kv2 : List (Key × V)) (rv : V), N k1 ∧ N k2 ∧ H p = some (.ins C dx [("kinds", .ref k1), ("choices", .ref k2), ("root", rv)]) ∧ H k1 = some (.dK kv1) ∧ Paired (RowT K H) kv1 (sortT tb1) ∧ H k2 = some (.dK kv2) ∧ Paired (RowT K H) kv2 (sortT tb2) ∧ Td K H rv s.pd
/-- what makes a schema -/
structure ScOk (tb1 tb2 : List TRow) (s : So) : Prop where
  t1 : TabOk true (tb1.map Prod.fst) (tb2.map Prod.fst) tb1
  t2 : TabOk false (tb1.map Prod.fst) (tb2.map Prod.fst) tb2
  n1 : (tb1.map Prod.fst).Nodup
  n2 : (tb2.map Prod.fst).Nodup
  l1 : tb1.length ≤ 1000
  l2 : tb2.length ≤ 1000
  ok : s.ok (tb1.map Prod.fst) (tb2.map Prod.fst) false
  fwd : Fwd (sortT tb2)
end Tw
namespace K22
open PySem PySem.Spec PyProof.Rows L2 Tw Sb LamX
section
variable {P : Program} {w : World} {K : PySem.W.Frag} {mg : Str → Option Value} {base : Heap}
theorem ok_is_whole {f : Addr} {fd : FuncData} (F : Fun K "is_whole" "is_whole" s_is_whole f fd) (T : Bt mg) : FnOk P w K mg base CX0 1 f fd ["thing"] (spWhole K) := by
  refine F.ok sc_is_whole (fun vs H Q E h => ?_) (fun cdv A outer s H vs Q E hr h => ?_)
  · obtain ⟨v, t, b1, b2, rfl, _⟩ := h
    rfl
  · obtain ⟨v, t, b1, b2, rfl, hT, h1, h2, q⟩ := h
    refine ⟨_, (pss_one (ps_ret (pe_and (pe_callB (id := "isinstance") (r := rIsi K) call_isi (by rfl) T.n_isinstance (by decide +kernel) (pa_cons (pv 0) (pa_cons (pe_bltn (v := .ty "int") rfl T.n_int (by decide +kernel) rfl) pa_nil))) (pe_one (pe_not (pe_callB (id := "isinstance") (r := rIsi K) call_isi (by rfl) T.n_isinstance (by decide +kernel) (pa_cons (pv 0) (pa_cons (pe_bltn (v := .ty "bool") rfl T.n_bool (by decide +kernel) rfl) pa_nil)))))))), ?_⟩
    refine ⟨v, rfl, v, .ty "int", t, .type "int", b1, rfl, .ty "int", hT, h1, b1, rfl, ?_⟩
    cases b1 with
    | true => exact ⟨v, rfl, v, .ty "bool", t, .type "bool", b2, rfl, .ty "bool", hT, h2 rfl, b2, rfl, q⟩
    | false => exact q
theorem ok_is_row {f : Addr} {fd : FuncData} (F : Fun K "is_row" "is_row" s_is_row f fd) (T : Bt mg) : FnOk P w K mg base CX0 1 f fd ["thing"] (spRow K) := by
  refine F.ok sc_is_row (fun vs H Q E h => ?_) (fun cdv A outer s H vs Q E hr h => ?_)
  · obtain ⟨v, t, b, rfl, _⟩ := h
    rfl
  · obtain ⟨v, t, b, rfl, hT, h1, q⟩ := h
    refine ⟨_, (pss_one (ps_ret (pe_callB (id := "isinstance") (r := rIsiT K) call_isiT (by rfl) T.n_isinstance (by decide +kernel) (pa_cons (pv 0) (pa_cons (pe_tup (pa_cons (pe_bltn (v := .ty "list") rfl T.n_list (by decide +kernel) rfl) (pa_cons (pe_bltn (v := .ty "tuple") rfl T.n_tuple (by decide +kernel) rfl) pa_nil))) pa_nil))))), ?_⟩
    refine ⟨v, rfl, by show 2 ≤ sizeLine; decide, fun p hp => ?_⟩
    exact ⟨v, p, _, t, _, b, rfl, upd_same, .cons (.ty _) (.cons (.ty _) .nil), TyX.same (same_upd hp) hT, h1, q _ (same_upd hp)⟩
theorem ok_is_name {f : Addr} {fd : FuncData} (F : Fun K "is_name" "is_name" s_is_name f fd) (T : Bt mg) (g_LETTERS : ∃ u, mg "LETTERS" = some u ∧ RelV (.str alpha) u) (g_MOST_LETTERS : Gi mg "MOST_LETTERS" 8) : FnOk P w K mg base CX0 1 f fd ["thing"] (spName K) := by
  refine F.ok sc_is_name (fun vs H Q E h => ?_) (fun cdv A outer s H vs Q E hr h => ?_)
  · obtain ⟨v, t, b, rfl, _⟩ := h
    rfl
  · obtain ⟨v, t, b, rfl, hT, hk, h1, h0, q⟩ := h
    refine ⟨_, (pss_cons (ps_if (PW.pt (pw_or (pt_not (pt_val (pe_callB (id := "isinstance") (r := rIsi K) call_isi (by rfl) T.n_isinstance (by decide +kernel) (pa_cons (pv 0) (pa_cons (pe_bltn (v := .ty "str") rfl T.n_str (by decide +kernel) rfl) pa_nil))))) (pw_or1 (pt_not (pt_chain op_le op_le pe_int (pe_callB call_len_str (by rfl) T.n_len (by decide +kernel) (pa_cons (pv 0) pa_nil)) (C8.pe_gc rfl g_MOST_LETTERS))))))
        (pss_one (ps_ret pe_bl))
        pss_nil)
      (pss_one (ps_ret (pe_callB (cr_all rfl) (by rfl) T.n_all (by decide +kernel) (pa_cons (pe_lc (own := [("letter", 1)]) rfl sc_is_name.nd (pi_str (pv 0)) (blkOk_by (N := N_is_name) (sc := defScope s_is_name) (by decide +kernel)) (fun _ _ _ _ _ => (pg_name (i := 1) sc_is_name.nd rfl (.inl rfl))) (fun _ _ _ _ _ => pts_nil) (fun _ _ _ _ _ => (pe_cmpR op_in_sign (pv 1) (C8.pe_gc rfl g_LETTERS) (by rfl)))) pa_nil))))), ?_⟩
    refine ⟨v, rfl, v, .ty "str", t, .type "str", b, rfl, .ty "str", hT, hk, b, rfl, ?_⟩
    cases b with
    | false =>
      refine iteT ?_
      have e := h0 rfl
      rw [e] at q
      exact q _ (Same.refl _)
    | true =>
      obtain ⟨z, rfl, hz⟩ := h1 rfl
      have hzl : z.length ≤ sizeLine := Nat.le_trans hz.le (by decide)
      refine iteF ?_
      refine ⟨.str z, rfl, z, rfl, hzl, 1, (z.length : Int), rfl, rfl, _, rfl, ?_⟩
      refine ite2 (fun g1 => ?_) (fun g1 => ?_)
      · refine ⟨_, _, rfl, rfl, _, rfl, ?_⟩
        refine ite2 (fun g2 => ?_) (fun g2 => ?_)
        · have e8 : ¬ (z.length : Int) ≤ 8 := by simpa using g2
          have e : nmV (.str z) = false := by
            show isNm z = false
            unfold isNm
            rw [decide_eq_false (show ¬ z.length ≤ 8 by omega)]
            simp
          rw [e] at q
          exact q _ (Same.refl _)
        · have e8 : (z.length : Int) ≤ 8 := by simpa using g2
          have e1 : 1 ≤ (z.length : Int) := by simpa using g1
          have hsz : z.cps.size = z.cps.toList.length := by simp
          refine ⟨.str z, rfl, z, rfl, fun D hD => lc_it walk_str (fun i H' => Same H H' ∧ H' D = some (.lst ((z.cps.toList.take i).map fun c => V.bl (isLow c)))) ⟨same_upd hD, upd_same⟩ (fun _ _ _ _ => trivial) ?_ ?_⟩
          · rintro i x H1 H2 hi ⟨hs, hl⟩ ⟨rfl, c, hc, rfl⟩
            refine ⟨rfl, _, rfl, c, alpha, rfl, rfl, _, hl, ?_, ?_, ?_⟩
            · rw [List.length_map, List.length_take]
              exact Nat.lt_of_le_of_lt (Nat.min_le_left _ _) (small1000 (by have e : z.cps.size = z.length := rfl; omega))
            · intro b o e
              have n : b ≠ D := ne_of_none e hD
              rw [upd_ne n]
              exact hs b o e
            · rw [upd_same, mem_alpha]
              have hc' : z.cps.toList[i]? = some c := by simpa using hc
              rw [List.take_add_one, hc', List.map_append]
              rfl
          · rintro H1 ⟨hs, hl⟩
            rw [hsz, List.take_length] at hl
            refine ⟨D, z.cps.toList.map isLow, rfl, .inl (.inl (by rw [hl, List.map_map]; rfl)), ?_⟩
            have e : nmV (.str z) = (z.cps.toList.map isLow).all id := by
              show isNm z = _
              unfold isNm
              rw [decide_eq_true (show 1 ≤ z.length by omega), decide_eq_true (show z.length ≤ 8 by omega), List.all_map]
              rfl
            rw [← e]
            exact q _ hs
      · refine ⟨_, rfl, ?_⟩
        have e1 : ¬ 1 ≤ (z.length : Int) := by simpa using g1
        have e : nmV (.str z) = false := by
          show isNm z = false
          unfold isNm
          rw [decide_eq_false (show ¬ 1 ≤ z.length by omega)]
          rfl
        rw [e] at q
        exact q _ (Same.refl _)
end
end K22
namespace K22
open PySem PySem.Spec PyProof.Rows L2 Tw Sb LamX
def spCode : Sp := fun vs H Q _ => ∃ (c : Nat), vs = [.int c] ∧ plainC c = true ∧ Q (.bl true) H
def spText : Sp := fun vs H Q _ => ∃ (z : Str), vs = [.str z] ∧ z.cps.toList.all plainC = true ∧ z.length ≤ 1000 ∧ ∀ H', Same H H' → Q (.bl true) H'
def spKB : Sp := fun vs H Q _ => ∃ (n : Int) (lo hi : Option Int), vs = [.int n, oV lo, oV hi] ∧ (∀ a, lo = some a → a ≤ n) ∧ (∀ b, hi = some b → n ≤ b) ∧ Q (.bl true) H
def spKF : Sp := fun vs H Q _ => ∃ (n : Int), vs = [.int n] ∧ -figs ≤ n ∧ n ≤ figs ∧ Q (.bl true) H
def spMost : Sp := fun vs H Q _ => ∃ (m l : Int), vs = [.int m, .int l] ∧ 0 ≤ m ∧ m ≤ l ∧ Q (.bl true) H
def spBounds : Sp := fun vs H Q _ => ∃ (lo hi : Option Int), vs = [oV lo, oV hi] ∧ loHi lo hi ∧ Q (.bl true) H
def spFirst (K : PySem.W.Frag) : Sp := fun vs H Q _ => ∃ (v : V) (s : Str) (r : List PyData), vs = [v] ∧ Td K H v (.tuple (.str s :: r)) ∧ r.length ≤ 1000 ∧ Q (.str s) H
section
variable {P : Program} {w : World} {K : PySem.W.Frag} {mg : Str → Option Value} {base : Heap}
theorem ok_is_code {f : Addr} {fd : FuncData} (F : Fun K "is_code" "is_code" s_is_code f fd) (g_FIRST_SIGN : Gi mg "FIRST_SIGN" 32) (g_LAST_SIGN : Gi mg "LAST_SIGN" 126) (g_PERCENT_SIGN : Gi mg "PERCENT_SIGN" 37) : FnOk P w K mg base CX0 1 f fd ["code"] spCode := by
  refine F.ok sc_is_code (fun vs H Q E h => ?_) (fun cdv A outer s H vs Q E hr h => ?_)
  · obtain ⟨c, rfl, _⟩ := h
    rfl
  · obtain ⟨c, rfl, hc, q⟩ := h
    refine ⟨_, (pss_one (ps_ret (pe_and (pe_chain op_le op_le (C8.pe_gc rfl g_FIRST_SIGN) (pv 0) (C8.pe_gc rfl g_LAST_SIGN)) (pe_one (pe_cmpR op_ne (pv 0) (C8.pe_gc rfl g_PERCENT_SIGN) (nomark _)))))), ?_⟩
    unfold plainC at hc
    have hc := of_decide_eq_true hc
    refine ⟨_, rfl, 32, c, rfl, rfl, _, rfl, ?_⟩
    rw [decide_eq_true (show (32 : Int) ≤ c by omega)]
    refine ⟨c, 126, rfl, rfl, ?_⟩
    dsimp only
    rw [decide_eq_true (show (c : Int) ≤ 126 by omega)]
    refine ⟨_, rfl, _, rfl, rfl, ?_⟩
    rw [decide_eq_false (show ¬ V.int (c : Int) = V.int 37 from fun z => by have := V.int.inj z; omega)]
    exact q
theorem ok_keeps_bounds {f : Addr} {fd : FuncData} (F : Fun K "keeps_bounds" "keeps_bounds" s_keeps_bounds f fd) : FnOk P w K mg base CX0 1 f fd ["number", "low", "high"] spKB := by
  refine F.ok sc_keeps_bounds (fun vs H Q E h => ?_) (fun cdv A outer s H vs Q E hr h => ?_)
  · obtain ⟨n, lo, hi, rfl, _⟩ := h
    rfl
  · obtain ⟨n, lo, hi, rfl, h1, h2, q⟩ := h
    refine ⟨_, (pss_cons (ps_if (PW.pt (pw_and (pt_cmpR op_notN (pv 1) pe_non (nomark _)) (pw_and1 (pt_cmpR op_lt (pv 0) (pv 1) (nomark _)))))
        (pss_one (ps_ret pe_bl))
        pss_nil)
      (pss_one (ps_ret (pe_or (pe_cmpR op_isN (pv 2) pe_non (nomark _)) (pe_one (pe_cmpR op_le (pv 0) (pv 2) (nomark _))))))), ?_⟩
    have fin : (tRet (tOrV (tOp (fun x y H Q => y = V.non ∧ Q (V.bl (decide (x = V.non))) H) (tVar 2) (tC V.non)) (tOp (rI0 fun i j => V.bl (decide (i ≤ j))) (tVar 0) (tVar 2)))) { nx := fun x H' => Q V.non H', rt := Q } (L2.start N_keeps_bounds [V.int n, oV lo, oV hi]) H := by
      refine ⟨_, rfl, rfl, _, rfl, ?_⟩
      cases hi with
      | none =>
        rw [oV_none]
        exact q
      | some b =>
        rw [oV_some]
        refine ⟨_, rfl, _, rfl, n, b, rfl, rfl, ?_⟩
        dsimp only
        rw [decide_eq_true (h2 b rfl)]
        exact q
    refine ⟨_, rfl, rfl, _, rfl, ?_⟩
    cases lo with
    | none =>
      rw [oV_none]
      exact iteF fin
    | some a =>
      rw [oV_some]
      refine ⟨_, rfl, _, rfl, n, a, rfl, rfl, _, rfl, ?_⟩
      rw [decide_eq_false (show ¬ n < a by have := h1 a rfl; omega)]
      exact iteF fin
theorem ok_keeps_figures {f : Addr} {fd : FuncData} (F : Fun K "keeps_figures" "keeps_figures" s_keeps_figures f fd) (T : Bu mg) (g_GREATEST_NUMBER : Gi mg "GREATEST_NUMBER" figs) : FnOk P w K mg base CX0 1 f fd ["number"] spKF := by
  refine F.ok sc_keeps_figures (fun vs H Q E h => ?_) (fun cdv A outer s H vs Q E hr h => ?_)
  · obtain ⟨n, rfl, _⟩ := h
    rfl
  · obtain ⟨n, rfl, h1, h2, q⟩ := h
    refine ⟨_, (pss_one (ps_ret (pe_cmpR op_le (pe_callB call_abs (by rfl) T.n_abs (by decide +kernel) (pa_cons (pv 0) pa_nil)) (C8.pe_gc rfl g_GREATEST_NUMBER) (nomark _)))), ?_⟩
    refine ⟨_, rfl, n, rfl, _, figs, rfl, rfl, ?_⟩
    dsimp only
    rw [decide_eq_true (show (if n < 0 then -n else n) ≤ figs by split <;> omega)]
    exact q
theorem ok_is_most {f : Addr} {fd : FuncData} (F : Fun K "_is_most" "_is_most" s__is_most f fd) (c_is_whole : Cal P w K mg base 1 "is_whole" ["thing"] (spWhole K)) : FnOk P w K mg base CX0 2 f fd ["most", "limit"] spMost := by
  refine F.ok sc__is_most (fun vs H Q E h => ?_) (fun cdv A outer s H vs Q E hr h => ?_)
  · obtain ⟨m, l, rfl, _⟩ := h
    rfl
  · obtain ⟨m, l, rfl, h1, h2, q⟩ := h
    refine ⟨_, (pss_one (ps_ret (pe_and (pe_cal c_is_whole hr (by decide) (by rfl) (pa_cons (pv 0) pa_nil)) (pe_one (pe_chain op_le op_le pe_int (pv 0) (pv 1)))))), ?_⟩
    refine ⟨_, rfl, .int m, .type "int", true, false, rfl, .base (.int m), kit_ty (by decide +kernel), fun _ => kit_ty (by decide +kernel), ?_⟩
    refine ⟨_, rfl, _, rfl, 0, m, rfl, rfl, ?_⟩
    dsimp only
    rw [decide_eq_true h1]
    refine ⟨_, rfl, ?_⟩
    refine iteT ⟨_, rfl, m, l, rfl, rfl, ?_⟩
    dsimp only
    rw [decide_eq_true h2]
    exact q
theorem ok_are_bounds {f : Addr} {fd : FuncData} (F : Fun K "_are_bounds" "_are_bounds" s__are_bounds f fd) (c_is_whole : Cal P w K mg base 1 "is_whole" ["thing"] (spWhole K)) : FnOk P w K mg base CX0 2 f fd ["low", "high"] spBounds := by
  refine F.ok sc__are_bounds (fun vs H Q E h => ?_) (fun cdv A outer s H vs Q E hr h => ?_)
  · obtain ⟨lo, hi, rfl, _⟩ := h
    rfl
  · obtain ⟨lo, hi, rfl, h1, q⟩ := h
    refine ⟨_, (pss_cons (ps_if (PW.pt (pw_and (pt_cmpR op_notN (pv 0) pe_non (nomark _)) (pw_and1 (pt_not (pt_val (pe_cal c_is_whole hr (by decide) (by rfl) (pa_cons (pv 0) pa_nil)))))))
        (pss_one (ps_ret pe_bl))
        pss_nil)
      (pss_cons (ps_if (PW.pt (pw_and (pt_cmpR op_notN (pv 1) pe_non (nomark _)) (pw_and1 (pt_not (pt_val (pe_cal c_is_whole hr (by decide) (by rfl) (pa_cons (pv 1) pa_nil)))))))
        (pss_one (ps_ret pe_bl))
        pss_nil)
      (pss_one (ps_ret (pe_or (pe_cmpR op_isN (pv 0) pe_non (nomark _)) (pe_or (pe_cmpR op_isN (pv 1) pe_non (nomark _)) (pe_one (pe_cmpR op_le (pv 0) (pv 1) (nomark _))))))))), ?_⟩
    have fin : (tRet (tOrV (tOp (fun x y H Q => y = V.non ∧ Q (V.bl (decide (x = V.non))) H) (tVar 0) (tC V.non)) (tOrV (tOp (fun x y H Q => y = V.non ∧ Q (V.bl (decide (x = V.non))) H) (tVar 1) (tC V.non)) (tOp (rI0 fun i j => V.bl (decide (i ≤ j))) (tVar 0) (tVar 1))))) { nx := fun x H' => Q V.non H', rt := Q } (L2.start N__are_bounds [oV lo, oV hi]) H := by
      refine ⟨_, rfl, rfl, _, rfl, ?_⟩
      cases lo with
      | none =>
        rw [oV_none]
        exact q
      | some a =>
        rw [oV_some]
        refine ⟨_, rfl, rfl, _, rfl, ?_⟩
        cases hi with
        | none =>
          rw [oV_none]
          exact q
        | some b =>
          rw [oV_some]
          refine ⟨_, rfl, _, rfl, a, b, rfl, rfl, ?_⟩
          dsimp only
          rw [decide_eq_true (show a ≤ b from h1)]
          exact q
    have fin2 : (tSeq (tIfS (tAnd (tTest (tOp (fun x y H Q => y = V.non ∧ Q (V.bl !decide (x = V.non)) H) (tVar 1) (tC V.non))) (tNot (tB (tCall (spWhole K) [] E0 (tCons (tVar 1) tNil))))) (tRet (tC (V.bl false))) tNext) (tRet (tOrV (tOp (fun x y H Q => y = V.non ∧ Q (V.bl (decide (x = V.non))) H) (tVar 0) (tC V.non)) (tOrV (tOp (fun x y H Q => y = V.non ∧ Q (V.bl (decide (x = V.non))) H) (tVar 1) (tC V.non)) (tOp (rI0 fun i j => V.bl (decide (i ≤ j))) (tVar 0) (tVar 1)))))) { nx := fun x H' => Q V.non H', rt := Q } (L2.start N__are_bounds [oV lo, oV hi]) H := by
      refine ⟨_, rfl, rfl, _, rfl, ?_⟩
      cases hi with
      | none =>
        rw [oV_none]
        exact iteF fin
      | some a =>
        rw [oV_some]
        exact ⟨_, rfl, .int a, .type "int", true, false, rfl, .base (.int a), kit_ty (by decide +kernel), fun _ => kit_ty (by decide +kernel), true, rfl, iteF fin⟩
    refine ⟨_, rfl, rfl, _, rfl, ?_⟩
    cases lo with
    | none =>
      rw [oV_none]
      exact iteF fin2
    | some a =>
      rw [oV_some]
      exact ⟨_, rfl, .int a, .type "int", true, false, rfl, .base (.int a), kit_ty (by decide +kernel), fun _ => kit_ty (by decide +kernel), true, rfl, iteF fin2⟩
theorem ok_first_word {f : Addr} {fd : FuncData} (F : Fun K "_first_word" "_first_word" s__first_word f fd) (T : Bu mg) : FnOk P w K mg base CX0 1 f fd ["of"] (spFirst K) := by
  refine F.ok sc__first_word (fun vs H Q E h => ?_) (fun cdv A outer s H vs Q E hr h => ?_)
  · obtain ⟨v, s, r, rfl, _⟩ := h
    rfl
  · obtain ⟨v, z, r, rfl, h1, hl, q⟩ := h
    refine ⟨_, (pss_cons (ps_if (PW.pt (pw_and (pt_val (pe_callB (id := "isinstance") (r := rIsi K) call_isi (by rfl) T.n_isinstance (by decide +kernel) (pa_cons (pv 0) (pa_cons (pe_bltn (v := .ty "tuple") rfl T.n_tuple (by decide +kernel) rfl) pa_nil)))) (pw_and (pt_cmpR op_gt (pe_callB call_len_seq (by rfl) T.n_len (by decide +kernel) (pa_cons (pv 0) pa_nil)) pe_int (nomark _)) (pw_and1 (pt_val (pe_callB (id := "isinstance") (r := rIsi K) call_isi (by rfl) T.n_isinstance (by decide +kernel) (pa_cons (pe_ix (r := rIxT K) ix_tup (pv 0) pe_int (fun _ _ => rfl)) (pa_cons (pe_bltn (v := .ty "str") rfl T.n_str (by decide +kernel) rfl) pa_nil))))))))
        (pss_one (ps_ret (pe_ix (r := rIxT K) ix_tup (pv 0) pe_int (fun _ _ => rfl))))
        pss_nil)
      (pss_one (ps_ret pe_str))), ?_⟩
    obtain ⟨a, xs, rfl, hq, ht⟩ := h1.row
    cases ht with
    | cons hx hr' =>
      cases hx
      refine ⟨_, rfl, .ref a, .ty "tuple", .type "tuple", .type "tuple", true, rfl, .ty "tuple", SqT.ty hq, kit_ty (by decide +kernel), true, rfl, ?_⟩
      refine ⟨_, rfl, a, _, rfl, .inr hq, _, 0, rfl, rfl, _, rfl, ?_⟩
      dsimp only
      rw [decide_eq_true (show (0 : Int) < ((V.str z :: _ : List V).length : Nat) by simp only [List.length_cons]; omega)]
      refine iteT ⟨_, rfl, a, _, 0, .str z, rfl, rfl, hq, at0, .str z, .ty "str", .type "str", .type "str", true, rfl, .ty "str", .base (.str z), kit_ty (by decide +kernel), true, rfl, ?_⟩
      exact iteT ⟨_, rfl, a, _, 0, .str z, rfl, rfl, hq, at0, q⟩
end
end K22
namespace K22
open PySem PySem.Spec PyProof.Rows L2 Tw Sb LamX
def spInmost (K : PySem.W.Frag) : Sp := fun vs H Q _ => ∃ (v : V) (s : So) (i : Bool) (a b : Addr) (ks cs : List Str), vs = [.str s.word, v, .ref a, .ref b] ∧ Td K H v s.pd ∧ NmL H a ks ∧ NmL H b cs ∧ s.inmost ∧ s.ok ks cs i ∧ ∀ H', Same H H' → Q (.bl true) H'
def spSort (K : PySem.W.Frag) : Sp := fun vs H Q _ => ∃ (v : V) (s : So) (a b : Addr) (ks cs : List Str), vs = [v, .ref a, .ref b] ∧ Td K H v s.pd ∧ NmL H a ks ∧ NmL H b cs ∧ s.ok ks cs false ∧ ∀ H', Same H H' → Q (.bl true) H'
def spDeflt (K : PySem.W.Frag) : Sp := fun vs H Q _ => ∃ (v u : V) (s : So) (d : PyData), vs = [v, u] ∧ Td K H v s.pd ∧ Td K H u d ∧ DefOk s d ∧ ∀ H', Same H H' → Q (.bl true) H'
section
variable {P : Program} {w : World} {K : PySem.W.Frag} {mg : Str → Option Value} {base : Heap}
theorem ok_is_text {f : Addr} {fd : FuncData} (F : Fun K "is_text" "is_text" s_is_text f fd) (T : Bu mg) (c_is_code : Cal P w K mg base 1 "is_code" ["code"] spCode) : FnOk P w K mg base CX0 2 f fd ["thing"] spText := by
  refine F.ok sc_is_text (fun vs H Q E h => ?_) (fun cdv A outer s H vs Q E hr h => ?_)
  · obtain ⟨z, rfl, _⟩ := h
    rfl
  · obtain ⟨z, rfl, hp, hl, q⟩ := h
    refine ⟨_, (pss_one (ps_ret (pe_and (pe_callB (id := "isinstance") (r := rIsi K) call_isi (by rfl) T.n_isinstance (by decide +kernel) (pa_cons (pv 0) (pa_cons (pe_bltn (v := .ty "str") rfl T.n_str (by decide +kernel) rfl) pa_nil))) (pe_one (pe_callB (cr_all rfl) (by rfl) T.n_all (by decide +kernel) (pa_cons (pe_lc (own := [("sign", 1)]) rfl sc_is_text.nd (pi_str (pv 0)) (blkOk_by (N := N_is_text) (sc := defScope s_is_text) (by decide +kernel)) (fun _ _ _ _ _ => (pg_name (i := 1) sc_is_text.nd rfl (.inl rfl))) (fun _ _ _ _ _ => pts_nil) (fun _ _ _ _ _ => (pe_cal c_is_code hr (by decide) (by rfl) (pa_cons (pe_callB call_ord (by rfl) T.n_ord (by decide +kernel) (pa_cons (pv 1) pa_nil)) pa_nil)))) pa_nil)))))), ?_⟩
    refine ⟨_, rfl, .str z, .ty "str", .type "str", .type "str", true, rfl, .ty "str", .base (.str z), kit_ty (by decide +kernel), true, rfl, ?_⟩
    refine iteT ⟨.str z, rfl, z, rfl, fun D hD => lc_it walk_str (fun i H' => Same H H' ∧ H' D = some (.lst (List.replicate i (.bl true)))) ⟨same_upd hD, upd_same⟩ (fun _ _ _ _ => trivial) ?_ ?_⟩
    · rintro i x H1 H2 hi ⟨hs, hL⟩ ⟨rfl, c, hc, rfl⟩
      have hc' : c ∈ z.cps.toList := List.mem_of_getElem? (by simpa using hc)
      refine ⟨rfl, _, rfl, ⟨#[c]⟩, rfl, rfl, c, rfl, List.all_eq_true.mp hp c hc', _, hL, ?_, fun b o e => ?_, ?_⟩
      · rw [List.length_replicate]
        exact small1000 (by have e : z.cps.size = z.length := rfl; omega)
      · rw [upd_ne (ne_of_none e hD)]
        exact hs b o e
      · rw [upd_same, List.replicate_succ']
    · rintro H1 ⟨hs, hL⟩
      refine ⟨D, List.replicate z.cps.size true, rfl, .inl (.inl (by rw [hL, List.map_replicate])), ?_⟩
      rw [show (List.replicate z.cps.size true).all id = true by simp]
      exact q _ hs
theorem ok_is_inmost {f : Addr} {fd : FuncData} (F : Fun K "_is_inmost" "_is_inmost" s__is_inmost f fd) (T : Bu mg) (g_MOST_SIGNS : Gi mg "MOST_SIGNS" 40) (c_is_name : Cal P w K mg base 1 "is_name" ["thing"] (spName K)) (c__is_most : Cal P w K mg base 2 "_is_most" ["most", "limit"] spMost) (c__are_bounds : Cal P w K mg base 2 "_are_bounds" ["low", "high"] spBounds) :
    FnOk P w K mg base CX0 3 f fd ["word", "of", "kinds", "choices"] (spInmost K) := by
  refine F.ok sc__is_inmost (fun vs H Q E h => ?_) (fun cdv A outer s H vs Q E hr h => ?_)
  · obtain ⟨v, z, i, a, b, ks, cs, rfl, _⟩ := h
    rfl
  · obtain ⟨v, z, i, a, b, ks, cs, rfl, hT, hk, hc, hm, ho, q⟩ := h
    refine ⟨_, (pss_cons (ps_if (pt_cmpR op_eq (pv 0) pe_str (nomark _))
        (pss_one (ps_ret (pe_and (pe_cmpR op_eq (pe_callB call_len_seq (by rfl) T.n_len (by decide +kernel) (pa_cons (pv 1) pa_nil)) pe_int (nomark _)) (pe_one (pe_cal c__are_bounds hr (by decide) (by rfl) (pa_cons (pe_ix (r := rIxT K) ix_tup (pv 1) pe_int (fun _ _ => rfl)) (pa_cons (pe_ix (r := rIxT K) ix_tup (pv 1) pe_int (fun _ _ => rfl)) pa_nil)))))))
        pss_nil)
      (pss_cons (ps_if (pt_cmpR op_eq (pv 0) pe_str (nomark _))
        (pss_one (ps_ret (pe_cmpR op_eq (pe_callB call_len_seq (by rfl) T.n_len (by decide +kernel) (pa_cons (pv 1) pa_nil)) pe_int (nomark _))))
        pss_nil)
      (pss_cons (ps_if (pt_cmpR op_eq (pv 0) pe_str (nomark _))
        (pss_one (ps_ret (pe_and (pe_cmpR op_eq (pe_callB call_len_seq (by rfl) T.n_len (by decide +kernel) (pa_cons (pv 1) pa_nil)) pe_int (nomark _)) (pe_one (pe_cal c__is_most hr (by decide) (by rfl) (pa_cons (pe_ix (r := rIxT K) ix_tup (pv 1) pe_int (fun _ _ => rfl)) (pa_cons (C8.pe_gc rfl g_MOST_SIGNS) pa_nil)))))))
        pss_nil)
      (pss_cons (ps_if (pt_cmpR op_eq (pv 0) pe_str (nomark _))
        (pss_one (ps_ret (pe_and (pe_cmpR op_eq (pe_callB call_len_seq (by rfl) T.n_len (by decide +kernel) (pa_cons (pv 1) pa_nil)) pe_int (nomark _)) (pe_and (pe_cal c_is_name hr (by decide) (by rfl) (pa_cons (pe_ix (r := rIxT K) ix_tup (pv 1) pe_int (fun _ _ => rfl)) pa_nil)) (pe_one (pe_cmpR op_in_seq (pe_ix (r := rIxT K) ix_tup (pv 1) pe_int (fun _ _ => rfl)) (pv 2) (by rfl)))))))
        pss_nil)
      (pss_cons (ps_if (pt_cmpR op_eq (pv 0) pe_str (nomark _))
        (pss_one (ps_ret (pe_and (pe_cmpR op_eq (pe_callB call_len_seq (by rfl) T.n_len (by decide +kernel) (pa_cons (pv 1) pa_nil)) pe_int (nomark _)) (pe_and (pe_cal c_is_name hr (by decide) (by rfl) (pa_cons (pe_ix (r := rIxT K) ix_tup (pv 1) pe_int (fun _ _ => rfl)) pa_nil)) (pe_one (pe_cmpR op_in_seq (pe_ix (r := rIxT K) ix_tup (pv 1) pe_int (fun _ _ => rfl)) (pv 3) (by rfl)))))))
        pss_nil)
      (pss_one (ps_ret pe_bl))))))), ?_⟩
    obtain ⟨p, xs, rfl, hq, ht⟩ := hT.row
    have len : ∀ {ds : List PyData}, Tds K H xs ds → xs.length = ds.length := fun h => h.len
    cases z with
    | row n s => exact hm.elim
    | may s => exact hm.elim
    | num lo hi =>
      refine ⟨_, rfl, rfl, _, rfl, iteY rfl ?_⟩
      refine ⟨_, rfl, p, _, rfl, .inr hq, rfl, _, rfl, ?_⟩
      rw [len ht]
      obtain ⟨x0, x1, x2, rfl, h1, h2⟩ : ∃ x0 x1 x2, xs = [x0, x1, x2] ∧ x1 = oV lo ∧ x2 = oV hi := by
        cases ht with
        | cons t0 t1 =>
          cases t1 with
          | cons t1 t2 =>
            cases t2 with
            | cons t2 t3 =>
              cases t3
              exact ⟨_, _, _, rfl, t1.oV, t2.oV⟩
      subst h1 h2
      refine iteY rfl ⟨_, rfl, p, _, 1, oV lo, rfl, rfl, hq, at1, _, rfl, p, _, 2, oV hi, rfl, rfl, hq, at2, lo, hi, rfl, ho, ?_⟩
      exact q _ (Same.refl _)
    | tru =>
      refine ⟨_, rfl, rfl, _, rfl, iteN (sne (show ("truth" : Str) ≠ "number" by decide +kernel)) ?_⟩
      refine ⟨_, rfl, rfl, _, rfl, iteY rfl ?_⟩
      refine ⟨_, rfl, p, _, rfl, .inr hq, rfl, ?_⟩
      rw [len ht]
      exact q _ (Same.refl _)
    | txt n =>
      refine ⟨_, rfl, rfl, _, rfl, iteN (sne (show ("text" : Str) ≠ "number" by decide +kernel)) ?_⟩
      refine ⟨_, rfl, rfl, _, rfl, iteN (sne (show ("text" : Str) ≠ "truth" by decide +kernel)) ?_⟩
      refine ⟨_, rfl, rfl, _, rfl, iteY rfl ?_⟩
      refine ⟨_, rfl, p, _, rfl, .inr hq, rfl, _, rfl, ?_⟩
      rw [len ht]
      obtain ⟨x0, x1, rfl, h1⟩ : ∃ x0 x1, xs = [x0, x1] ∧ x1 = .int n := by
        cases ht with
        | cons t0 t1 =>
          cases t1 with
          | cons t1 t2 =>
            cases t2
            exact ⟨_, _, rfl, t1.toInt⟩
      subst h1
      refine iteY rfl ⟨_, rfl, p, _, 1, .int n, rfl, rfl, hq, at1, n, 40, rfl, ho.1, ho.2, ?_⟩
      exact q _ (Same.refl _)
    | nod k =>
      refine ⟨_, rfl, rfl, _, rfl, iteN (sne (show ("node" : Str) ≠ "number" by decide +kernel)) ?_⟩
      refine ⟨_, rfl, rfl, _, rfl, iteN (sne (show ("node" : Str) ≠ "truth" by decide +kernel)) ?_⟩
      refine ⟨_, rfl, rfl, _, rfl, iteN (sne (show ("node" : Str) ≠ "text" by decide +kernel)) ?_⟩
      refine ⟨_, rfl, rfl, _, rfl, iteY rfl ?_⟩
      refine ⟨_, rfl, p, _, rfl, .inr hq, rfl, _, rfl, ?_⟩
      rw [len ht]
      obtain ⟨x0, x1, rfl, h1⟩ : ∃ x0 x1, xs = [x0, x1] ∧ x1 = .str k := by
        cases ht with
        | cons t0 t1 =>
          cases t1 with
          | cons t1 t2 =>
            cases t2
            exact ⟨_, _, rfl, t1.toStr⟩
      subst h1
      refine iteY rfl ⟨_, rfl, p, _, 1, .str k, rfl, rfl, hq, at1, .str k, .type "str", true, rfl, .base (.str k), kit_ty (by decide +kernel), fun _ => ⟨k, rfl, (nm_asc ho.1).mono (by decide)⟩, (fun z => nomatch z), fun H1 s1 => ⟨true, congrArg V.bl ho.1, iteT ?_⟩⟩
      refine ⟨_, rfl, p, _, 1, .str k, rfl, rfl, KeepT.same s1 _ _ hq, at1, _, rfl, a, _, rfl, .inl (SqL.of (s1 _ _ hk)), rfl, flat_strs ks, ?_⟩
      rw [in_strs ho.2]
      exact q _ s1
    | cho k =>
      refine ⟨_, rfl, rfl, _, rfl, iteN (sne (show ("choice" : Str) ≠ "number" by decide +kernel)) ?_⟩
      refine ⟨_, rfl, rfl, _, rfl, iteN (sne (show ("choice" : Str) ≠ "truth" by decide +kernel)) ?_⟩
      refine ⟨_, rfl, rfl, _, rfl, iteN (sne (show ("choice" : Str) ≠ "text" by decide +kernel)) ?_⟩
      refine ⟨_, rfl, rfl, _, rfl, iteN (sne (show ("choice" : Str) ≠ "node" by decide +kernel)) ?_⟩
      refine ⟨_, rfl, rfl, _, rfl, iteY rfl ?_⟩
      refine ⟨_, rfl, p, _, rfl, .inr hq, rfl, _, rfl, ?_⟩
      rw [len ht]
      obtain ⟨x0, x1, rfl, h1⟩ : ∃ x0 x1, xs = [x0, x1] ∧ x1 = .str k := by
        cases ht with
        | cons t0 t1 =>
          cases t1 with
          | cons t1 t2 =>
            cases t2
            exact ⟨_, _, rfl, t1.toStr⟩
      subst h1
      refine iteY rfl ⟨_, rfl, p, _, 1, .str k, rfl, rfl, hq, at1, .str k, .type "str", true, rfl, .base (.str k), kit_ty (by decide +kernel), fun _ => ⟨k, rfl, (nm_asc ho.1).mono (by decide)⟩, (fun z => nomatch z), fun H1 s1 => ⟨true, congrArg V.bl ho.1, iteT ?_⟩⟩
      refine ⟨_, rfl, p, _, 1, .str k, rfl, rfl, KeepT.same s1 _ _ hq, at1, _, rfl, b, _, rfl, .inl (SqL.of (s1 _ _ hc)), rfl, flat_strs cs, ?_⟩
      rw [in_strs ho.2]
      exact q _ s1
theorem ok_is_sort {f : Addr} {fd : FuncData} (F : Fun K "is_sort" "is_sort" s_is_sort f fd) (T : Bu mg) (g_MOST_IN_ROW : Gi mg "MOST_IN_ROW" 20) (c__first_word : Cal P w K mg base 1 "_first_word" ["of"] (spFirst K)) (c__is_most : Cal P w K mg base 2 "_is_most" ["most", "limit"] spMost) (c__is_inmost : Cal P w K mg base 3 "_is_inmost" ["word", "of", "kinds", "choices"] (spInmost K)) :
    FnOk P w K mg base CX0 4 f fd ["of", "kinds", "choices"] (spSort K) := by
  refine F.ok sc_is_sort (fun vs H Q E h => ?_) (fun cdv A outer s H vs Q E hr h => ?_)
  · obtain ⟨v, z, a, b, ks, cs, rfl, _⟩ := h
    rfl
  · obtain ⟨v, z, a, b, ks, cs, rfl, hT, hk, hc, ho, q⟩ := h
    refine ⟨_, (pss_cons (ps_set (i := 3) sc_is_sort.nd rfl (.inl rfl) pe_bl)
      (pss_one (ps_while PassesOwn.never (pt_val pe_bl)
        (pss_cons (ps_set (i := 4) sc_is_sort.nd rfl (.inl rfl) (pe_cal c__first_word hr (by decide) (by rfl) (pa_cons (pv 0) pa_nil)))
        (pss_one (ps_if (PW.pt (pw_and (pt_cmpR op_eq (pv 4) pe_str (nomark _)) (pw_and (pt_cmpR op_eq (pe_callB call_len_seq (by rfl) T.n_len (by decide +kernel) (pa_cons (pv 0) pa_nil)) pe_int (nomark _)) (pw_and1 (pt_val (pe_cal c__is_most hr (by decide) (by rfl) (pa_cons (pe_ix (r := rIxT K) ix_tup (pv 0) pe_int (fun _ _ => rfl)) (pa_cons (C8.pe_gc rfl g_MOST_IN_ROW) pa_nil))))))))
          (pss_cons (ps_set (i := 0) sc_is_sort.nd rfl (.inl rfl) (pe_ix (r := rIxT K) ix_tup (pv 0) pe_int (fun _ _ => rfl)))
          (pss_one (ps_set (i := 3) sc_is_sort.nd rfl (.inl rfl) pe_bl)))
          (pss_one (ps_if (PW.pt (pw_and (pt_cmpR op_eq (pv 4) pe_str (nomark _)) (pw_and (pt_cmpR op_eq (pe_callB call_len_seq (by rfl) T.n_len (by decide +kernel) (pa_cons (pv 0) pa_nil)) pe_int (nomark _)) (pw_and1 (pt_not (pt_val (pv 3)))))))
            (pss_cons (ps_set (i := 0) sc_is_sort.nd rfl (.inl rfl) (pe_ix (r := rIxT K) ix_tup (pv 0) pe_int (fun _ _ => rfl)))
            (pss_one (ps_set (i := 3) sc_is_sort.nd rfl (.inl rfl) pe_bl)))
            (pss_one (ps_ret (pe_cal c__is_inmost hr (by decide) (by rfl) (pa_cons (pv 4) (pa_cons (pv 0) (pa_cons (pv 1) (pa_cons (pv 2) pa_nil))))))))))))))), ?_⟩
    refine ⟨fun m σ H' => ∃ (v : V) (z : So) (i : Bool) (y : Option V), σ = [some v, some (.ref a), some (.ref b), some (.bl i), y] ∧ Td K H v z.pd ∧ z.ok ks cs i ∧ H = H' ∧ z.depth = m, ⟨z.depth, v, z, false, none, rfl, hT, ho, rfl, rfl⟩, ?_⟩
    rintro m σ H' ⟨v, z, i, y, rfl, hT, ho, rfl, rfl⟩
    refine ⟨true, rfl, iteT ?_⟩
    refine ⟨fun σ' H' => ∃ m', m' < z.depth ∧ ∃ (v : V) (z : So) (i : Bool) (y : Option V), σ' = [some v, some (.ref a), some (.ref b), some (.bl i), y] ∧ Td K H v z.pd ∧ z.ok ks cs i ∧ H = H' ∧ z.depth = m', fun σ' H' h => h, ?_⟩
    refine ⟨_, rfl, v, z.word, z.rest, rfl, hT, Nat.le_trans z.rest_len (by decide), ?_⟩
    obtain ⟨p, xs, rfl, hq, ht⟩ := hT.row
    by_cases him : z.inmost
    · obtain ⟨n1, n2⟩ := So.word_row him
      refine ⟨_, rfl, rfl, _, rfl, iteN (sne n1) ?_⟩
      refine ⟨_, rfl, rfl, _, rfl, iteN (sne n2) ?_⟩
      exact ⟨_, rfl, _, rfl, _, rfl, _, rfl, _, z, i, a, b, ks, cs, rfl, hT, hk, hc, him, ho, q⟩
    cases z with
    | row n z =>
      obtain ⟨x0, x1, x2, rfl, h1, h2⟩ : ∃ x0 x1 x2, xs = [x0, x1, x2] ∧ x1 = .int n ∧ Td K H x2 z.pd := by
        cases ht with
        | cons t0 t1 =>
          cases t1 with
          | cons t1 t2 =>
            cases t2 with
            | cons t2 t3 =>
              cases t3
              exact ⟨_, _, _, rfl, t1.toInt, t2⟩
      subst h1
      refine ⟨_, rfl, rfl, _, rfl, iteY rfl ?_⟩
      refine ⟨_, rfl, p, _, rfl, .inr hq, rfl, _, rfl, iteY rfl ?_⟩
      refine ⟨_, rfl, p, _, 1, .int n, rfl, rfl, hq, at1, n, 20, rfl, ho.1, ho.2.1, true, rfl, iteT ?_⟩
      refine ⟨_, rfl, p, _, 2, x2, rfl, rfl, hq, at2, ?_⟩
      exact ⟨z.depth, Nat.lt_succ_self _, x2, z, false, _, rfl, h2, ho.2.2, rfl, rfl⟩
    | may z =>
      obtain ⟨x0, x1, rfl, h1⟩ : ∃ x0 x1, xs = [x0, x1] ∧ Td K H x1 z.pd := by
        cases ht with
        | cons t0 t1 =>
          cases t1 with
          | cons t1 t2 =>
            cases t2
            exact ⟨_, _, rfl, t1⟩
      obtain ⟨rfl, ho⟩ := ho
      refine ⟨_, rfl, rfl, _, rfl, iteN (sne (show ("maybe" : Str) ≠ "row" by decide +kernel)) ?_⟩
      refine ⟨_, rfl, rfl, _, rfl, iteY rfl ?_⟩
      refine ⟨_, rfl, p, _, rfl, .inr hq, rfl, _, rfl, iteY rfl ?_⟩
      refine ⟨_, rfl, false, rfl, iteT ?_⟩
      refine ⟨_, rfl, p, _, 1, x1, rfl, rfl, hq, at1, ?_⟩
      exact ⟨z.depth, Nat.lt_succ_self _, x1, z, true, _, rfl, h1, ho, rfl, rfl⟩
    | num lo hi => exact absurd trivial him
    | tru => exact absurd trivial him
    | txt n => exact absurd trivial him
    | nod k => exact absurd trivial him
    | cho k => exact absurd trivial him
end
end K22
namespace K22
open PySem PySem.Spec PyProof.Rows L2 Tw Sb LamX
/-- the word of a kind's row, of a choice's -/
def wordB (k : Bool) : Str := if k = true then "kind" else "choice"
def spFault (K : PySem.W.Frag) : Sp := fun vs H Q _ => ∃ (k : Bool) (v : V) (e : En) (es : List En) (r a b : Addr) (xs : List V) (ks cs : List Str), vs = [.str (wordB k), v, .ref r, .ref a, .ref b] ∧ Td K H v e.pd ∧ SqR K H r xs ∧ Tds K H xs (es.map En.pd) ∧ es.length ≤ 1000 ∧ NmL H a ks ∧ NmL H b cs ∧ EnOk k ks cs es e ∧ ∀ H', Same H H' → Q .non H'
theorem ifK {k : Bool} {A B : Prop} (h1 : k = true → A) (h2 : k = false → B) : if decide (V.str (wordB k) = V.str "kind") = true then A else B := by
  cases k with
  | true => exact iteY rfl (h1 rfl)
  | false => exact iteN (sne (show ("choice" : Str) ≠ "kind" by decide +kernel)) (h2 rfl)
theorem Tds.entry {K : PySem.W.Frag} {H : Hp} {v : V} {e : En} (h : Td K H v e.pd) : ∃ (p : Addr) (x2 : V) (ys : List V), v = .ref p ∧ SqT K H p (.int e.num :: .str e.name :: x2 :: ys) ∧ Td K H x2 (e.of.elim .none So.pd) ∧ Tds K H ys e.left.toList := by
  obtain ⟨p, xs, rfl, hq, ht⟩ := h.row
  cases ht with
  | cons t0 t1 =>
    cases t1 with
    | cons t1 t2 =>
      cases t2 with
      | cons t2 t3 =>
        cases t0
        cases t1
        exact ⟨p, _, _, rfl, hq, t2, t3⟩
section
variable {P : Program} {w : World} {K : PySem.W.Frag} {mg : Str → Option Value} {base : Heap}
theorem ok_is_default {f : Addr} {fd : FuncData} (F : Fun K "_is_default" "_is_default" s__is_default f fd) (T : Bu mg) (c_is_whole : Cal P w K mg base 1 "is_whole" ["thing"] (spWhole K)) (c_keeps_bounds : Cal P w K mg base 1 "keeps_bounds" ["number", "low", "high"] spKB) (c_keeps_figures : Cal P w K mg base 1 "keeps_figures" ["number"] spKF) (c_is_text : Cal P w K mg base 2 "is_text" ["thing"] spText) :
    FnOk P w K mg base CX0 3 f fd ["of", "default"] (spDeflt K) := by
  refine F.ok sc__is_default (fun vs H Q E h => ?_) (fun cdv A outer s H vs Q E hr h => ?_)
  · obtain ⟨v, u, z, d, rfl, _⟩ := h
    rfl
  · obtain ⟨v, u, z, d, rfl, hT, hU, hd, q⟩ := h
    refine ⟨_, (pss_cons (ps_set (i := 2) sc__is_default.nd rfl (.inl rfl) (pe_ix (r := rIxT K) ix_tup (pv 0) pe_int (fun _ _ => rfl)))
      (pss_cons (ps_if (pt_cmpR op_eq (pv 2) pe_str (nomark _))
        (pss_one (ps_ret (pe_and (pe_cal c_is_whole hr (by decide) (by rfl) (pa_cons (pv 1) pa_nil)) (pe_and (pe_cal c_keeps_bounds hr (by decide) (by rfl) (pa_cons (pv 1) (pa_cons (pe_ix (r := rIxT K) ix_tup (pv 0) pe_int (fun _ _ => rfl)) (pa_cons (pe_ix (r := rIxT K) ix_tup (pv 0) pe_int (fun _ _ => rfl)) pa_nil)))) (pe_one (pe_cal c_keeps_figures hr (by decide) (by rfl) (pa_cons (pv 1) pa_nil)))))))
        pss_nil)
      (pss_cons (ps_if (pt_cmpR op_eq (pv 2) pe_str (nomark _))
        (pss_one (ps_ret (pe_callB (id := "isinstance") (r := rIsi K) call_isi (by rfl) T.n_isinstance (by decide +kernel) (pa_cons (pv 1) (pa_cons (pe_bltn (v := .ty "bool") rfl T.n_bool (by decide +kernel) rfl) pa_nil)))))
        pss_nil)
      (pss_cons (ps_if (pt_cmpR op_eq (pv 2) pe_str (nomark _))
        (pss_one (ps_ret (pe_and (pe_cal c_is_text hr (by decide) (by rfl) (pa_cons (pv 1) pa_nil)) (pe_one (pe_cmpR op_le (pe_callB call_len (by rfl) T.n_len (by decide +kernel) (pa_cons (pv 1) pa_nil)) (pe_ix (r := rIxT K) ix_tup (pv 0) pe_int (fun _ _ => rfl)) (nomark _))))))
        pss_nil)
      (pss_cons (ps_if (pt_cmpR op_eq (pv 2) pe_str (nomark _))
        (pss_one (ps_ret (pe_and (pe_callB (id := "isinstance") (r := rIsi K) call_isi (by rfl) T.n_isinstance (by decide +kernel) (pa_cons (pv 1) (pa_cons (pe_bltn (v := .ty "tuple") rfl T.n_tuple (by decide +kernel) rfl) pa_nil))) (pe_one (pe_cmpR op_eq (pe_callB call_len (by rfl) T.n_len (by decide +kernel) (pa_cons (pv 1) pa_nil)) pe_int (nomark _))))))
        pss_nil)
      (pss_one (ps_ret (pe_and (pe_cmpR op_eq (pv 2) pe_str (nomark _)) (pe_one (pe_cmpR op_isN (pv 1) pe_non (nomark _))))))))))), ?_⟩
    obtain ⟨p, xs, rfl, hq, ht⟩ := hT.row
    obtain ⟨ys, rfl, hr'⟩ : ∃ ys, xs = .str z.word :: ys ∧ Tds K H ys z.rest := by
      cases ht with
      | cons t0 t1 =>
        cases t0
        exact ⟨_, rfl, t1⟩
    refine ⟨_, rfl, p, _, 0, .str z.word, rfl, rfl, hq, at0, ?_⟩
    cases z with
    | num lo hi =>
      cases d with
      | int n =>
        obtain rfl := hU.toInt
        obtain ⟨d1, d2, d3, d4⟩ := hd
        obtain ⟨x1, x2, rfl, h1, h2⟩ : ∃ x1 x2, ys = [x1, x2] ∧ x1 = oV lo ∧ x2 = oV hi := by
          cases hr' with
          | cons t1 t2 =>
            cases t2 with
            | cons t2 t3 =>
              cases t3
              exact ⟨_, _, rfl, t1.oV, t2.oV⟩
        subst h1 h2
        refine ⟨_, rfl, rfl, _, rfl, iteY rfl ?_⟩
        refine ⟨_, rfl, .int n, .type "int", true, false, rfl, .base (.int n), kit_ty (by decide +kernel), fun _ => kit_ty (by decide +kernel), true, rfl, iteT ?_⟩
        refine ⟨_, rfl, _, rfl, p, _, 1, oV lo, rfl, rfl, hq, at1, _, rfl, p, _, 2, oV hi, rfl, rfl, hq, at2, n, lo, hi, rfl, d1, d2, true, rfl, iteT ?_⟩
        exact ⟨_, rfl, n, rfl, d3, d4, q _ (Same.refl _)⟩
      | _ => exact hd.elim
    | tru =>
      cases d with
      | bool b =>
        obtain rfl := hU.toBool
        refine ⟨_, rfl, rfl, _, rfl, iteN (sne (show ("truth" : Str) ≠ "number" by decide +kernel)) ?_⟩
        refine ⟨_, rfl, rfl, _, rfl, iteY rfl ?_⟩
        exact ⟨_, rfl, .bl b, .ty "bool", .type "bool", .type "bool", true, rfl, .ty "bool", .base (.bl b), kit_ty (by decide +kernel), q _ (Same.refl _)⟩
      | _ => exact hd.elim
    | txt m =>
      cases d with
      | str z =>
        obtain rfl := hU.toStr
        obtain ⟨d1, d2, d3⟩ := hd
        obtain ⟨x1, rfl, h1⟩ : ∃ x1, ys = [x1] ∧ x1 = .int m := by
          cases hr' with
          | cons t1 t2 =>
            cases t2
            exact ⟨_, rfl, t1.toInt⟩
        subst h1
        refine ⟨_, rfl, rfl, _, rfl, iteN (sne (show ("text" : Str) ≠ "number" by decide +kernel)) ?_⟩
        refine ⟨_, rfl, rfl, _, rfl, iteN (sne (show ("text" : Str) ≠ "truth" by decide +kernel)) ?_⟩
        refine ⟨_, rfl, rfl, _, rfl, iteY rfl ?_⟩
        refine ⟨_, rfl, z, rfl, d2, by omega, fun H1 s1 => ⟨true, rfl, iteT ?_⟩⟩
        refine ⟨_, rfl, .str z, _, rfl, ⟨Nat.le_trans d3 (by decide), rfl⟩, _, rfl, p, _, 1, .int m, rfl, rfl, KeepT.same s1 _ _ hq, at1, z.length, m, rfl, rfl, ?_⟩
        dsimp only
        rw [decide_eq_true d1]
        exact q _ s1
      | _ => exact hd.elim
    | row m z =>
      cases d with
      | tuple ds =>
        cases ds with
        | cons d ds => exact hd.elim
        | nil =>
          obtain ⟨a, us, rfl, hua, hus⟩ := hU.row
          cases hus
          refine ⟨_, rfl, rfl, _, rfl, iteN (sne (show ("row" : Str) ≠ "number" by decide +kernel)) ?_⟩
          refine ⟨_, rfl, rfl, _, rfl, iteN (sne (show ("row" : Str) ≠ "truth" by decide +kernel)) ?_⟩
          refine ⟨_, rfl, rfl, _, rfl, iteN (sne (show ("row" : Str) ≠ "text" by decide +kernel)) ?_⟩
          refine ⟨_, rfl, rfl, _, rfl, iteY rfl ?_⟩
          refine ⟨_, rfl, .ref a, .ty "tuple", .type "tuple", .type "tuple", true, rfl, .ty "tuple", SqT.ty hua, kit_ty (by decide +kernel), true, rfl, iteT ?_⟩
          exact ⟨_, rfl, _, 0, rfl, .inr ⟨_, hua, rfl⟩, rfl, q _ (Same.refl _)⟩
      | _ => exact hd.elim
    | may z =>
      cases d with
      | none =>
        obtain rfl := hU.toNone
        refine ⟨_, rfl, rfl, _, rfl, iteN (sne (show ("maybe" : Str) ≠ "number" by decide +kernel)) ?_⟩
        refine ⟨_, rfl, rfl, _, rfl, iteN (sne (show ("maybe" : Str) ≠ "truth" by decide +kernel)) ?_⟩
        refine ⟨_, rfl, rfl, _, rfl, iteN (sne (show ("maybe" : Str) ≠ "text" by decide +kernel)) ?_⟩
        refine ⟨_, rfl, rfl, _, rfl, iteN (sne (show ("maybe" : Str) ≠ "row" by decide +kernel)) ?_⟩
        refine ⟨_, rfl, rfl, _, rfl, iteY rfl ?_⟩
        exact ⟨_, rfl, rfl, q _ (Same.refl _)⟩
      | _ => exact hd.elim
    | nod k => cases d <;> exact hd.elim
    | cho k => cases d <;> exact hd.elim
theorem ok_fault {f : Addr} {fd : FuncData} (F : Fun K "_fault" "_fault" s__fault f fd) (T : Bu mg) (g_LAST_NUMBER : Gi mg "LAST_NUMBER" 99) (c_is_name : Cal P w K mg base 1 "is_name" ["thing"] (spName K)) (c_is_whole : Cal P w K mg base 1 "is_whole" ["thing"] (spWhole K)) (c_is_sort : Cal P w K mg base 4 "is_sort" ["of", "kinds", "choices"] (spSort K)) (c__is_default : Cal P w K mg base 3 "_is_default" ["of", "default"] (spDeflt K)) :
    FnOk P w K mg base CX0 5 f fd ["word", "entry", "earlier", "kinds", "choices"] (spFault K) := by
  refine F.ok sc__fault (fun vs H Q E h => ?_) (fun cdv A outer s H vs Q E hr h => ?_)
  · obtain ⟨k, v, e, es, r, a, b, xs, ks, cs, rfl, _⟩ := h
    rfl
  · obtain ⟨k, v, e, es, r, a, b, xs, ks, cs, rfl, hT, hR, hX, hL, hk, hc, ok, q⟩ := h
    refine ⟨_, (pss_mid (ps_if (PW.pt (pw_or (pt_not (pt_val (pe_callB (id := "isinstance") (r := rIsi K) call_isi (by rfl) T.n_isinstance (by decide +kernel) (pa_cons (pv 1) (pa_cons (pe_bltn (v := .ty "tuple") rfl T.n_tuple (by decide +kernel) rfl) pa_nil))))) (pw_or1 (pt_cmpR op_notIn_seq (pe_callB call_len_seq (by rfl) T.n_len (by decide +kernel) (pa_cons (pv 1) pa_nil)) (pe_ifExp (pt_cmpR op_eq (pv 0) pe_str (nomark _)) (pe_tup (pa_cons pe_int (pa_cons pe_int pa_nil))) (pe_tup (pa_cons pe_int pa_nil))) (by rfl)))))
        (pss_one (ps_ret pe_str))
        pss_nil)
      (pss_mid (ps_asg (pe_slice (r := rSlA K) sl_tupA (pv 1) po_none (po_some pe_int)) (pg_tup rfl (pgs_cons (pg_name (i := 5) sc__fault.nd rfl (.inl rfl)) (pgs_cons (pg_name (i := 6) sc__fault.nd rfl (.inl rfl)) (pgs_cons (pg_name (i := 7) sc__fault.nd rfl (.inl rfl)) pgs_nil)))))
      (pss_mid (ps_if (PW.pt (pw_or (pt_not (pt_val (pe_cal c_is_name hr (by decide) (by rfl) (pa_cons (pv 6) pa_nil)))) (pw_or1 (pt_cmpR op_in_seq (pv 6) (pe_lc (own := [("other", 9)]) rfl sc__fault.nd (pi_or (pi_list (pv 2)) (pi_tup (pv 2))) (blkOk_by (N := N__fault) (sc := defScope s__fault) (by decide +kernel)) (fun _ _ _ _ _ => (pg_name (i := 9) sc__fault.nd rfl (.inl rfl))) (fun _ _ _ _ _ => pts_nil) (fun _ _ _ _ _ => (pe_ix (r := rIxT K) ix_tup (pv 9) pe_int (fun _ _ => rfl)))) (by rfl)))))
        (pss_one (ps_ret pe_str))
        pss_nil)
      (pss_mid (ps_set (i := 8) sc__fault.nd rfl (.inl rfl) (pe_ifExp (pt_cmpR op_eq (pv 0) pe_str (nomark _)) pe_int pe_int))
      (pss_mid (ps_if (PW.pt (pw_or (pt_not (pt_val (pe_cal c_is_whole hr (by decide) (by rfl) (pa_cons (pv 5) pa_nil)))) (pw_or (pt_not (pt_chain op_le op_le (pv 8) (pv 5) (C8.pe_gc rfl g_LAST_NUMBER))) (pw_or1 (pt_cmpR op_in_seq (pv 5) (pe_lc (own := [("other", 9)]) rfl sc__fault.nd (pi_or (pi_list (pv 2)) (pi_tup (pv 2))) (blkOk_by (N := N__fault) (sc := defScope s__fault) (by decide +kernel)) (fun _ _ _ _ _ => (pg_name (i := 9) sc__fault.nd rfl (.inl rfl))) (fun _ _ _ _ _ => pts_nil) (fun _ _ _ _ _ => (pe_ix (r := rIxT K) ix_tup (pv 9) pe_int (fun _ _ => rfl)))) (by rfl))))))
        (pss_one (ps_ret pe_str))
        pss_nil)
      (pss_mid (ps_if (PW.pt (pw_and (pt_cmpR op_eq (pv 0) pe_str (nomark _)) (pw_and1 (pt_cmpR op_isN (pv 7) pe_non (nomark _)))))
        (pss_one (ps_ret pe_non))
        pss_nil)
      (pss_cons (ps_if (PW.pt (pw_or (pt_cmpR op_eq (pv 5) pe_int (nomark _)) (pw_or1 (pt_not (pt_val (pe_cal c_is_sort hr (by decide) (by rfl) (pa_cons (pv 7) (pa_cons (pv 3) (pa_cons (pv 4) pa_nil)))))))))
        (pss_one (ps_ret pe_str))
        pss_nil)
      (pss_cons (ps_if (PW.pt (pw_and (pt_cmpR op_eq (pe_callB call_len_seq (by rfl) T.n_len (by decide +kernel) (pa_cons (pv 1) pa_nil)) pe_int (nomark _)) (pw_and1 (pt_not (pt_val (pe_cal c__is_default hr (by decide) (by rfl) (pa_cons (pv 7) (pa_cons (pe_ix (r := rIxT K) ix_tup (pv 1) pe_int (fun _ _ => rfl)) pa_nil))))))))
        (pss_one (ps_ret pe_str))
        pss_nil)
      (pss_one (ps_ret pe_non)))))))))), ?_⟩
    obtain ⟨p, x2, ys, rfl, hq, h2, hl⟩ := Tds.entry hT
    have hlen : ys.length = e.left.toList.length := hl.len
    have hleft : e.left.toList.length ≤ 1 := by cases e.left <;> simp
    refine ⟨fun σ H' => σ = L2.start N__fault [V.str (wordB k), V.ref p, V.ref r, V.ref a, V.ref b] ∧ Same H H', ?_, ?_⟩
    · refine ⟨_, rfl, .ref p, .ty "tuple", .type "tuple", .type "tuple", true, rfl, .ty "tuple", SqT.ty hq, kit_ty (by decide +kernel), true, rfl, iteF ?_⟩
      refine ⟨_, rfl, p, _, rfl, .inr hq, _, rfl, rfl, _, rfl, ifK (fun ek => ?_) (fun ek => ?_)⟩
      · refine ⟨by show 2 ≤ sizeLine; decide, fun t ht => ⟨t, _, rfl, .inr (SqT.of upd_same), rfl, rfl, _, rfl, ?_⟩⟩
        have e1 : inV (.int ((V.int e.num :: V.str e.name :: x2 :: ys).length : Nat)) [.int 3, .int 4] = true := by
          rcases ys with _ | ⟨y, _ | _⟩
          · rfl
          · rfl
          · exact absurd (hlen ▸ hleft) (by simp)
        rw [e1]
        exact iteF ⟨rfl, same_upd ht⟩
      · refine ⟨by show 1 ≤ sizeLine; decide, fun t ht => ⟨t, _, rfl, .inr (SqT.of upd_same), rfl, rfl, _, rfl, ?_⟩⟩
        have e0 : ys = [] := by
          have : e.left = none := by
            cases eo : e.of with
            | none => exact (ok.none eo).2
            | some z =>
              cases el : e.left with
              | none => rfl
              | some d =>
                rw [ek] at ok
                exact nomatch ((ok.some z eo).2.2 d el).1
          rw [this] at hlen
          exact List.length_eq_zero_iff.mp hlen
        subst e0
        rw [show inV (.int (([V.int e.num, V.str e.name, x2] : List V).length : Nat)) [.int 3] = true from rfl]
        exact iteF ⟨rfl, same_upd ht⟩
    rintro σ H1 ⟨rfl, s1⟩
    have hq1 := KeepT.same s1 _ _ hq
    have hR1 := hR.same s1
    have hX1 := hX.keep (KeepT.same s1)
    -- the three
    refine ⟨fun σ H' => σ = [some (.str (wordB k)), some (.ref p), some (.ref r), some (.ref a), some (.ref b), some (.int e.num), some (.str e.name), some x2, none, none] ∧ Same H H', ?_, ?_⟩
    · refine ⟨_, rfl, 3, rfl, p, _, rfl, hq1, fun hw => ?_, fun hw t ht => ?_⟩
      · have e0 := whole3 hw.2
        subst e0
        exact ⟨p, _, rfl, hq1, rfl, _, _, rfl, _, _, rfl, _, _, rfl, rfl, rfl, s1⟩
      · refine ⟨t, _, rfl, SqT.of upd_same, ?_, ?_⟩
        · rw [cut3] <;> rfl
        · rw [cut3]
          exact ⟨_, _, rfl, _, _, rfl, _, _, rfl, rfl, rfl, s1.trans (same_upd ht)⟩
    rintro σ H2 ⟨rfl, s2⟩
    -- the name
    have hlx : xs.length = es.length := by rw [hX.len, List.length_map]
    have part : ∀ {i : Nat} {x : V} {H4 : Hp}, Same H H4 → xs[i]? = some x → ∃ (e : En) (p : Addr) (x2 : V) (ys : List V), es[i]? = some e ∧ x = .ref p ∧ SqT K H4 p (.int e.num :: .str e.name :: x2 :: ys) := fun {i x H4} s4 hx => by
      obtain ⟨d, hd, td⟩ := hX.at_ hx
      rw [List.getElem?_map] at hd
      obtain ⟨e, he, rfl⟩ := Option.map_eq_some_iff.mp hd
      obtain ⟨p, x2, ys, rfl, hp, _⟩ := Tds.entry (td.keep (KeepT.same s4))
      exact ⟨e, p, x2, ys, he, rfl, hp⟩
    have s02 : Same H H2 := s2
    refine ⟨fun σ H' => σ = [some (.str (wordB k)), some (.ref p), some (.ref r), some (.ref a), some (.ref b), some (.int e.num), some (.str e.name), some x2, none, none] ∧ Same H H', ?_, ?_⟩
    · refine ⟨_, rfl, .str e.name, .type "str", true, rfl, .base (.str e.name), kit_ty (by decide +kernel), fun _ => ⟨e.name, rfl, (nm_asc ok.name).mono (by decide)⟩, (fun z => nomatch z), fun H3 s3 => ⟨true, congrArg V.bl ok.name, ?_⟩⟩
      have s03 := s02.trans s3
      refine iteF ⟨_, rfl, ?_⟩
      have turn : ∀ (D : Addr) (i : Nat) (x : V) (H4 : Hp), H3 D = none → xs[i]? = some x → Same H3 H4 → H4 D = some (.lst (((es.take i).map En.name).map V.str)) → ∃ (p : Addr) (zs : List V) (y : V), x = .ref p ∧ SqT K H4 p zs ∧ atI zs 1 = some y ∧ ∃ acc, H4 D = some (.lst acc) ∧ acc.length < sizeLine ∧ Same H3 (upd H4 D (.lst (acc ++ [y]))) ∧ (upd H4 D (.lst (acc ++ [y]))) D = some (.lst (((es.take (i + 1)).map En.name).map V.str)) := by
        intro D i x H4 hD hx hs hL'
        obtain ⟨e, p, x2, ys, he, rfl, hp⟩ := part (s03.trans hs) hx
        refine ⟨p, _, .str e.name, rfl, hp, at1, _, hL', ?_, fun b o q => ?_, ?_⟩
        · rw [List.length_map, List.length_map, List.length_take]
          exact small1000 (by omega)
        · rw [upd_ne (ne_of_none q hD)]
          exact hs b o q
        · rw [upd_same, List.take_add_one, he, List.map_append, List.map_append] <;> rfl
      have fin : ∀ (H4 : Hp), Same H3 H4 → (inV (.str e.name) (((es.take xs.length).map En.name).map V.str)) = false := fun H4 _ => nin_strs (by rw [hlx, List.take_length]; exact ok.newN)
      rcases hR.same s03 with hL' | hL'
      · refine .inl ⟨_, rfl, r, rfl, ⟨_, hL'⟩, fun D hD => lc_it walk_list (fun i H' => Same H3 H' ∧ H' D = some (.lst (((es.take i).map En.name).map V.str))) ⟨same_upd hD, upd_same⟩ (fun _ _ _ h => h.1.seq hL') ?_ ?_⟩
        · rintro i x H4 H5 hi ⟨hs, hD2⟩ ⟨rfl, hx⟩
          obtain ⟨p, zs, y, rfl, k1, k2, k3⟩ := turn D i x _ hD hx hs hD2
          exact ⟨rfl, _, rfl, p, zs, 1, y, rfl, rfl, k1, k2, k3⟩
        · rintro H4 ⟨hs, hD2⟩
          refine ⟨D, _, rfl, .inl (SqL.of hD2), rfl, flat_strs _, _, rfl, ?_⟩
          rw [fin H4 hs]
          exact iteF ⟨rfl, s03.trans hs⟩
      · refine .inr ⟨_, rfl, r, rfl, ⟨_, hL'⟩, fun D hD => lc_it walk_tup (fun i H' => Same H3 H' ∧ H' D = some (.lst (((es.take i).map En.name).map V.str))) ⟨same_upd hD, upd_same⟩ (fun _ _ _ h => KeepT.same h.1 _ _ hL') ?_ ?_⟩
        · rintro i x H4 H5 hi ⟨hs, hD2⟩ ⟨rfl, hx⟩
          obtain ⟨p, zs, y, rfl, k1, k2, k3⟩ := turn D i x _ hD hx hs hD2
          exact ⟨rfl, _, rfl, p, zs, 1, y, rfl, rfl, k1, k2, k3⟩
        · rintro H4 ⟨hs, hD2⟩
          refine ⟨D, _, rfl, .inl (SqL.of hD2), rfl, flat_strs _, _, rfl, ?_⟩
          rw [fin H4 hs]
          exact iteF ⟨rfl, s03.trans hs⟩
    rintro σ H3 ⟨rfl, s3⟩
    -- the least
    refine ⟨fun σ H' => ∃ l : Int, σ = [some (.str (wordB k)), some (.ref p), some (.ref r), some (.ref a), some (.ref b), some (.int e.num), some (.str e.name), some x2, some (.int l), none] ∧ l ≤ e.num ∧ Same H H', ?_, ?_⟩
    · refine ⟨_, rfl, rfl, _, rfl, ifK (fun ek => ?_) (fun ek => ?_)⟩
      · exact ⟨1, rfl, by have := ok.lo; rw [if_pos ek] at this; exact this, s3⟩
      · exact ⟨0, rfl, by have := ok.lo; rw [if_neg (by rw [ek]; decide)] at this; exact this, s3⟩
    rintro σ H4 ⟨l, rfl, hle, s4⟩
    -- the number
    refine ⟨fun σ H' => σ = [some (.str (wordB k)), some (.ref p), some (.ref r), some (.ref a), some (.ref b), some (.int e.num), some (.str e.name), some x2, some (.int l), none] ∧ Same H H', ?_, ?_⟩
    · refine ⟨_, rfl, .int e.num, .type "int", true, false, rfl, .base (.int e.num), kit_ty (by decide +kernel), fun _ => kit_ty (by decide +kernel), true, rfl, iteF ?_⟩
      refine ⟨_, rfl, _, rfl, l, e.num, rfl, rfl, _, rfl, iteY hle ⟨e.num, 99, rfl, rfl, _, rfl, iteNY ok.hi ?_⟩⟩
      refine ⟨_, rfl, ?_⟩
      have turn : ∀ (D : Addr) (i : Nat) (x : V) (H5 : Hp), H4 D = none → xs[i]? = some x → Same H4 H5 → H5 D = some (.lst (((es.take i).map En.num).map V.int)) → ∃ (p : Addr) (zs : List V) (y : V), x = .ref p ∧ SqT K H5 p zs ∧ atI zs 0 = some y ∧ ∃ acc, H5 D = some (.lst acc) ∧ acc.length < sizeLine ∧ Same H4 (upd H5 D (.lst (acc ++ [y]))) ∧ (upd H5 D (.lst (acc ++ [y]))) D = some (.lst (((es.take (i + 1)).map En.num).map V.int)) := by
        intro D i x H5 hD hx hs hL'
        obtain ⟨e, p, x2, ys, he, rfl, hp⟩ := part (s4.trans hs) hx
        refine ⟨p, _, .int e.num, rfl, hp, at0, _, hL', ?_, fun b o q => ?_, ?_⟩
        · rw [List.length_map, List.length_map, List.length_take]
          exact small1000 (by omega)
        · rw [upd_ne (ne_of_none q hD)]
          exact hs b o q
        · rw [upd_same, List.take_add_one, he, List.map_append, List.map_append] <;> rfl
      have fin : inV (.int e.num) (((es.take xs.length).map En.num).map V.int) = false := nin_ints (by rw [hlx, List.take_length]; exact ok.newI)
      rcases hR.same s4 with hL' | hL'
      · refine .inl ⟨_, rfl, r, rfl, ⟨_, hL'⟩, fun D hD => lc_it walk_list (fun i H' => Same H4 H' ∧ H' D = some (.lst (((es.take i).map En.num).map V.int))) ⟨same_upd hD, upd_same⟩ (fun _ _ _ h => h.1.seq hL') ?_ ?_⟩
        · rintro i x H5 H6 hi ⟨hs, hD2⟩ ⟨rfl, hx⟩
          obtain ⟨p, zs, y, rfl, k1, k2, k3⟩ := turn D i x _ hD hx hs hD2
          exact ⟨rfl, _, rfl, p, zs, 0, y, rfl, rfl, k1, k2, k3⟩
        · rintro H5 ⟨hs, hD2⟩
          refine ⟨D, _, rfl, .inl (SqL.of hD2), rfl, flat_ints _, _, rfl, ?_⟩
          rw [fin]
          exact iteF ⟨rfl, s4.trans hs⟩
      · refine .inr ⟨_, rfl, r, rfl, ⟨_, hL'⟩, fun D hD => lc_it walk_tup (fun i H' => Same H4 H' ∧ H' D = some (.lst (((es.take i).map En.num).map V.int))) ⟨same_upd hD, upd_same⟩ (fun _ _ _ h => KeepT.same h.1 _ _ hL') ?_ ?_⟩
        · rintro i x H5 H6 hi ⟨hs, hD2⟩ ⟨rfl, hx⟩
          obtain ⟨p, zs, y, rfl, k1, k2, k3⟩ := turn D i x _ hD hx hs hD2
          exact ⟨rfl, _, rfl, p, zs, 0, y, rfl, rfl, k1, k2, k3⟩
        · rintro H5 ⟨hs, hD2⟩
          refine ⟨D, _, rfl, .inl (SqL.of hD2), rfl, flat_ints _, _, rfl, ?_⟩
          rw [fin]
          exact iteF ⟨rfl, s4.trans hs⟩
    rintro σ H5 ⟨rfl, s5⟩
    have h25 := h2.keep (KeepT.same s5)
    have hl5 := hl.keep (KeepT.same s5)
    have hq5 := KeepT.same s5 _ _ hq
    refine ⟨fun σ H' => σ = [some (.str (wordB k)), some (.ref p), some (.ref r), some (.ref a), some (.ref b), some (.int e.num), some (.str e.name), some x2, some (.int l), none] ∧ H5 = H' ∧ e.of ≠ none, ?_, ?_⟩
    · cases eo : e.of with
      | none =>
        obtain ⟨rfl, _⟩ := ok.none eo
        rw [eo] at h25
        obtain rfl := h25.toNone
        exact ⟨_, rfl, rfl, _, rfl, iteY rfl ⟨_, rfl, rfl, _, rfl, iteY rfl (q _ s5)⟩⟩
      | some z =>
        rw [eo] at h25
        have nn : ¬ x2 = V.non := fun w => by
          obtain ⟨p, _, e, _⟩ := Td.row (show Td K H5 x2 (.tuple (.str z.word :: z.rest)) from h25)
          rw [w] at e
          cases e
        refine ⟨_, rfl, rfl, _, rfl, ?_⟩
        cases k with
        | true => exact iteN (sne (show ("kind" : Str) ≠ "choice" by decide +kernel)) ⟨rfl, rfl, fun w => nomatch w⟩
        | false => exact iteY rfl ⟨_, rfl, rfl, _, rfl, iteN nn ⟨rfl, rfl, fun w => nomatch w⟩⟩
    rintro σ H6 ⟨rfl, rfl, no⟩
    obtain ⟨z, eo⟩ := Option.ne_none_iff_exists'.mp no
    obtain ⟨n0, zok, dok⟩ := ok.some z eo
    rw [eo] at h25
    have h25 : Td K H5 x2 z.pd := h25
    refine ⟨_, rfl, rfl, _, rfl, iteN (ine n0) ?_⟩
    refine ⟨_, rfl, _, rfl, _, rfl, x2, z, a, b, ks, cs, rfl, h25, s5 _ _ hk, s5 _ _ hc, zok, fun H6 s6 => ⟨true, rfl, iteF ?_⟩⟩
    refine ⟨_, rfl, p, _, rfl, .inr (KeepT.same s6 _ _ hq5), rfl, _, rfl, ?_⟩
    have s06 := s5.trans s6
    cases el : e.left with
    | none =>
      have e0 : ys = [] := List.length_eq_zero_iff.mp (by rw [hlen, el]; rfl)
      subst e0
      exact iteN (ine (show (3 : Int) ≠ 4 by decide)) (q _ s06)
    | some d =>
      obtain ⟨_, hd⟩ := dok d el
      rw [el] at hl
      obtain ⟨y, rfl, hy⟩ : ∃ y, ys = [y] ∧ Td K H y d := by
        cases hl with
        | cons t1 t2 =>
          cases t2
          exact ⟨_, rfl, t1⟩
      refine iteY rfl ⟨_, rfl, _, rfl, p, _, 3, y, rfl, rfl, KeepT.same s6 _ _ hq5, at3, x2, y, z, d, rfl, h25.keep (KeepT.same s6), hy.keep (KeepT.same s06), hd, fun H7 s7 => ⟨true, rfl, iteF ?_⟩⟩
      exact q _ (s06.trans s7)
end
end K22
namespace K22
open PySem PySem.Spec PyProof.Rows L2 Tw Sb LamX
def spNames : Sp := fun vs H Q _ => ∃ (d : Addr) (kvs : List (Key × V)) (ks : List Str), vs = [.ref d] ∧ H d = some (.dK kvs) ∧ kvs.map Prod.fst = ks.map Sum.inr ∧ (∀ k ∈ ks, isNm k = true) ∧ ks.length ≤ 1000 ∧ ∀ (H' : Hp) (r : Addr), Same H H' → H r = none → NmL H' r ks → Q (.ref r) H'
def spRows (K : PySem.W.Frag) : Sp := fun vs H Q _ => ∃ (k : Bool) (d a b : Addr) (kvs : List (Key × V)) (tb : List TRow) (ks cs : List Str), vs = [.str (wordB k), .ref d, .ref a, .ref b] ∧ H d = some (.dK kvs) ∧ Paired (RowIs K H) kvs tb ∧ TabOk k ks cs tb ∧ NmL H a ks ∧ NmL H b cs ∧ ∀ H', Same H H' → Q .non H'
section
variable {P : Program} {w : World} {K : PySem.W.Frag} {mg : Str → Option Value} {base : Heap}
theorem ok_names {f : Addr} {fd : FuncData} (F : Fun K "_names" "_names" s__names f fd) (T : Bu mg) (c_is_name : Cal P w K mg base 1 "is_name" ["thing"] (spName K)) : FnOk P w K mg base CX0 2 f fd ["rows"] spNames := by
  refine F.ok sc__names (fun vs H Q E h => ?_) (fun cdv A outer s H vs Q E hr h => ?_)
  · obtain ⟨d, kvs, ks, rfl, _⟩ := h
    rfl
  · obtain ⟨d, kvs, ks, rfl, hd, hk, hn, hl, q⟩ := h
    refine ⟨_, (pss_one (ps_ret (pe_lock (pe_lc (own := [("name", 1)]) rfl sc__names.nd (pi_keys (pv 0)) (blkOk_by (N := N__names) (sc := defScope s__names) (by decide +kernel)) (fun _ _ _ _ _ => (pg_name (i := 1) sc__names.nd rfl (.inl rfl))) (fun _ _ _ _ _ => (pts_one (pt_val (pe_cal c_is_name hr (by decide) (by rfl) (pa_cons (pv 1) pa_nil))))) (fun _ _ _ _ _ => (pv 1)))))), ?_⟩
    refine ⟨d, _, hd, trivial, fun od => ?_⟩
    have hd1 : (upd H d (.frz od (.dK kvs))) d = some (.frz od (.dK kvs)) := upd_same
    refine ⟨_, rfl, d, od, rfl, .inl ⟨kvs, hd1, fun D hD => lc_it walk_keys (fun i H' => Same (upd H d (.frz od (.dK kvs))) H' ∧ H' D = some (.lst ((ks.take i).map V.str))) ⟨same_upd hD, upd_same⟩ (fun _ _ _ h => h.1 _ _ hd1) ?_ ?_⟩⟩
    · rintro i x H2 H3 hi ⟨hs, hD2⟩ ⟨rfl, k, v, hy, rfl⟩
      obtain ⟨z, hz, rfl⟩ := key_at hk hy
      have nz := hn z (List.mem_of_getElem? hz)
      refine ⟨rfl, _, rfl, .str z, .type "str", true, rfl, .base (.str z), kit_ty (by decide +kernel), fun _ => ⟨z, rfl, (nm_asc nz).mono (by decide)⟩, (fun z => nomatch z), fun H4 s4 => ⟨true, congrArg V.bl nz, iteT ⟨_, rfl, _, s4 _ _ hD2, ?_, fun b o e => ?_, ?_⟩⟩⟩
      · rw [List.length_map, List.length_take]
        exact small1000 (by have := (List.getElem?_eq_some_iff.mp hz).1; omega)
      · rw [upd_ne (ne_of_none e hD)]
        exact s4 _ _ (hs b o e)
      · rw [upd_same, List.take_add_one, hz, List.map_append] <;> rfl
    · rintro H2 ⟨hs, hD2⟩
      have hlen : kvs.length = ks.length := by
        have := congrArg List.length hk
        simpa using this
      rw [hlen, List.take_length] at hD2
      have hne : D ≠ d := fun w => by rw [w, hd1] at hD; cases hD
      refine ⟨hs _ _ hd1, q _ D (unlock hd hs) ?_ ?_⟩
      · rw [upd_ne hne] at hD
        exact hD
      · show upd H2 d (.dK kvs) D = _
        rw [upd_ne hne]
        exact hD2
theorem ok_refuse_rows {f : Addr} {fd : FuncData} (F : Fun K "_refuse_rows" "_refuse_rows" s__refuse_rows f fd) (T : Bu mg) (c_is_name : Cal P w K mg base 1 "is_name" ["thing"] (spName K)) (c_is_row : Cal P w K mg base 1 "is_row" ["thing"] (spRow K)) (c__fault : Cal P w K mg base 5 "_fault" ["word", "entry", "earlier", "kinds", "choices"] (spFault K)) :
    FnOk P w K mg base CX0 6 f fd ["word", "rows", "kinds", "choices"] (spRows K) := by
  refine F.ok sc__refuse_rows (fun vs H Q E h => ?_) (fun cdv A outer s H vs Q E hr h => ?_)
  · obtain ⟨k, d, a, b, kvs, tb, ks, cs, rfl, _⟩ := h
    rfl
  · obtain ⟨k, d, a, b, kvs, tb, ks, cs, rfl, hd, hp, ok, hk, hc, q⟩ := h
    refine ⟨_, (pss_one (ps_lock (ps_for PassesOwn.never rfl (pi_items (pv 1)) (pg_tup rfl (pgs_cons (pg_name (i := 4) sc__refuse_rows.nd rfl (.inl rfl)) (pgs_cons (pg_name (i := 5) sc__refuse_rows.nd rfl (.inl rfl)) pgs_nil)))
        (pss_cons (ps_if (pt_not (pt_val (pe_cal c_is_name hr (by decide) (by rfl) (pa_cons (pv 4) pa_nil))))
          (pss_one ps_dead)
          pss_nil)
        (pss_mid (ps_if (PW.pt (pw_or (pt_not (pt_val (pe_cal c_is_row hr (by decide) (by rfl) (pa_cons (pv 5) pa_nil)))) (pw_or1 (PW.pt (pw_and (pt_cmpR op_eq (pv 0) pe_str (nomark _)) (pw_and1 (pt_cmpR op_eq (pe_callB call_len (by rfl) T.n_len (by decide +kernel) (pa_cons (pv 5) pa_nil)) pe_int (nomark _))))))))
          (pss_one ps_dead)
          pss_nil)
        (pss_one (ps_for PassesOwn.never rfl (pi_en rfl T.n_enumerate (pa_cons (pv 5) pa_nil)) (pg_tup rfl (pgs_cons (pg_name (i := 6) sc__refuse_rows.nd rfl (.inl rfl)) (pgs_cons (pg_name (i := 7) sc__refuse_rows.nd rfl (.inl rfl)) pgs_nil)))
          (pss_cons (ps_set (i := 8) sc__refuse_rows.nd rfl (.inl rfl) (pe_cal c__fault hr (by decide) (by rfl) (pa_cons (pv 0) (pa_cons (pv 7) (pa_cons (pe_slice (r := rSlQ K) sl_sqr (pv 5) po_none (po_some (pv 6))) (pa_cons (pv 2) (pa_cons (pv 3) pa_nil)))))))
          (pss_one (ps_if (pt_cmpR op_notN (pv 8) pe_non (nomark _))
            (pss_one ps_dead)
            pss_nil)))))))))), ?_⟩
    refine ⟨d, _, hd, trivial, fun od => ?_⟩
    have hd1 : (upd H d (.frz od (.dK kvs))) d = some (.frz od (.dK kvs)) := upd_same
    have nl : ∀ {c : Addr} {xs : List V}, H c = some (.lst xs) → (upd H d (.frz od (.dK kvs))) c = some (.lst xs) := fun {c xs} e => by
      rw [upd_ne (ne_of e hd (by intro z; cases z))]
      exact e
    have hk1 := nl hk
    have hc1 := nl hc
    have hrow : ∀ {v : V} {es : List En}, EnRow K H es v → ∃ a xs, v = .ref a ∧ SqR K (upd H d (.frz od (.dK kvs))) a xs ∧ Tds K (upd H d (.frz od (.dK kvs))) xs (es.map En.pd) := fun ⟨a, xs, e, h1, h2⟩ =>
      ⟨a, xs, e, h1.elim (fun h => .inl (lock_list hd h)) (fun h => .inr (lock_keep hd _ _ h)), h2.keep (lock_keep hd)⟩
    generalize hH1 : upd H d (.frz od (.dK kvs)) = H1 at hd1 hk1 hc1 hrow ⊢
    refine ⟨_, rfl, d, od, kvs, rfl, hd1, ?_⟩
    refine for_it walk_items (fun i σ H' => ∃ (y4 y5 y6 y7 y8 : Option V), σ = [some (.str (wordB k)), some (.ref d), some (.ref a), some (.ref b), y4, y5, y6, y7, y8] ∧ Same H1 H') ⟨none, none, none, none, none, rfl, Same.refl _⟩ (fun _ _ _ _ ⟨_, _, _, _, _, _, s⟩ => s _ _ hd1) ?_ ?_
    · rintro i x σ H2 H3 hi ⟨y4, y5, y6, y7, y8, rfl, s2⟩ ⟨T1, kx, v, rfl, hT1, rfl, e1, e2⟩
      obtain ⟨⟨key, v'⟩, he, rfl⟩ := Option.map_eq_some_iff.mp e1
      have e2 : Option.map Prod.snd kvs[i]? = some v := e2
      rw [he] at e2
      cases e2
      obtain ⟨r, hr1, hk', hrw⟩ := pd_atL hp he
      have hk' : key = .inr r.1 := hk'
      subst hk'
      obtain ⟨rn, rok, rl, rne⟩ := ok.at hr1
      obtain ⟨p, xs, hvp, hR, hX⟩ := hrow hrw
      have hvp : v' = .ref p := hvp
      subst hvp
      have s3 := s2.trans (same_upd (o := .tup [kV (.inr r.1), .ref p]) hT1)
      refine ⟨T1, _, rfl, SqT.of upd_same, rfl, _, _, rfl, _, _, rfl, rfl, ?_⟩
      refine ⟨_, rfl, .str r.1, .type "str", true, rfl, .base (.str r.1), kit_ty (by decide +kernel), fun _ => ⟨r.1, rfl, (nm_asc rn).mono (by decide)⟩, (fun z => nomatch z), fun H4 s4 => ⟨true, congrArg V.bl rn, iteF ?_⟩⟩
      have s4 := s3.trans s4
      have hlx : xs.length = r.2.length := by rw [hX.len, List.length_map]
      refine ⟨fun σ H' => σ = [some (.str (wordB k)), some (.ref d), some (.ref a), some (.ref b), some (.str r.1), some (.ref p), y6, y7, y8] ∧ Same H1 H', ?_, ?_⟩
      · obtain ⟨ty, t1, t2⟩ := (hR.same s4).ty
        refine ⟨_, rfl, .ref p, ty, true, rfl, t1, t2, fun H5 s5 => ⟨true, rfl, iteF ?_⟩⟩
        have s5 := s4.trans s5
        refine ⟨_, rfl, rfl, _, rfl, ?_⟩
        cases k with
        | true => exact iteN (sne (show ("kind" : Str) ≠ "choice" by decide +kernel)) ⟨rfl, s5⟩
        | false =>
          have ne : r.2.length ≠ 0 := fun z => rne rfl (List.length_eq_zero_iff.mp z)
          exact iteY rfl ⟨_, rfl, _, _, rfl, (hR.same s5).len, rfl, _, rfl, iteN (ine (by omega)) ⟨rfl, s5⟩⟩
      rintro σ H5 ⟨rfl, s5⟩
      refine ⟨_, rfl, p, xs, rfl, hR.same s5, fun bt hb1 hb0 => ?_⟩
      refine for_it (walk_enC (K := K) (a := p) (xs := xs) (c := 0) (b := bt)) (fun j σ H' => ∃ (y6 y7 y8 : Option V), σ = [some (.str (wordB k)), some (.ref d), some (.ref a), some (.ref b), some (.str r.1), some (.ref p), y6, y7, y8] ∧ Same H5 H') ⟨y6, y7, y8, rfl, Same.refl _⟩ (fun _ _ _ _ h => ?_) ?_ ?_
      · obtain ⟨_, _, _, _, s⟩ := h
        cases bt with
        | true => exact KeepT.same s _ _ (hb1 rfl)
        | false => exact s.seq (hb0 rfl)
      · rintro j x σ H6 H7 hj ⟨y6, y7, y8, rfl, s6⟩ ⟨T2, x1, y1, rfl, hT2, rfl, e1, e2⟩
        cases e1
        obtain ⟨de, hde, td⟩ := hX.at_ e2
        rw [List.getElem?_map] at hde
        obtain ⟨e, he', rfl⟩ := Option.map_eq_some_iff.mp hde
        have s7 := (s5.trans s6).trans (same_upd (o := .tup [.int (0 + (j : Nat)), y1]) hT2)
        refine ⟨T2, _, rfl, SqT.of upd_same, rfl, _, _, rfl, _, _, rfl, rfl, ?_⟩
        refine ⟨_, rfl, _, rfl, _, rfl, _, rfl, 0 + (j : Nat), rfl, p, xs, rfl, hR.same s7, fun H8 t s8 ht => ?_⟩
        have s8' := s7.trans s8
        rw [show (0 + (j : Nat) : Int) = (j : Int) by omega, cut_take xs j (Nat.le_of_lt hj)] at ht
        refine ⟨_, rfl, _, rfl, k, y1, e, r.2.take j, t, a, b, xs.take j, ks, cs, rfl, td.keep (KeepT.same s8'), ht, ?_, ?_, s8' _ _ hk1, s8' _ _ hc1, rok j e he', fun H9 s9 => ?_⟩
        · have := (hX.keep (KeepT.same s8')).take j
          rw [← List.map_take] at this
          exact this
        · rw [List.length_take]
          omega
        refine ⟨_, rfl, rfl, _, rfl, iteNY rfl ?_⟩
        exact ⟨_, _, _, rfl, (s6.trans (same_upd (o := .tup [.int (0 + (j : Nat)), y1]) hT2)).trans (s8.trans s9)⟩
      · rintro σ H6 ⟨y6, y7, y8, rfl, s6⟩
        exact ⟨_, _, _, _, _, rfl, s5.trans s6⟩
    · rintro σ H2 ⟨y4, y5, y6, y7, y8, rfl, s2⟩
      subst hH1
      exact ⟨s2 _ _ hd1, q _ (unlock hd s2)⟩
end
end K22
namespace K22
open PySem PySem.Spec PyProof.Rows L2 Tw Sb LamX
def spByN (K : PySem.W.Frag) (TS : List (Addr × Str)) : Sp := fun vs H Q _ => ∃ (d : Addr) (kvs : List (Key × V)) (tb : List TRow), vs = [.ref d] ∧ H d = some (.dK kvs) ∧ Paired (RowIs K H) kvs tb ∧ (tb.map Prod.fst).Nodup ∧ tb.length ≤ 1000 ∧ Tabs TS H ∧
  ∀ (H' : Hp) (r : Addr) (kvs' : List (Key × V)), ExtN H H' → Tabs TS H' → H r = none → H' r = some (.dK kvs') → Paired (RowT K H') kvs' (sortT tb) → Q (.ref r) H'
section
variable {P : Program} {w : World} {K : PySem.W.Frag} {mg : Str → Option Value} {base : Heap}
theorem ok_by_numbers {c PT f : Addr} {oc kV doc pm ct : Value} {od an : Option Addr} {osl : Array (Option Value)} {TS : List (Addr × Str)} (lk : K.lookup f = some ⟨oc, od, .func (PySem.W.fnOf "_by_numbers" "_by_numbers" (defArgs s__by_numbers) (defBody s__by_numbers) (defScope s__by_numbers) .none kV doc pm an (.ref c) ct), osl⟩) (hcd : PySem.W.codeIn K (.ref c) "_by_numbers" = true)
    (T : Bu mg) (TB : TabB base mg c PT) (hB : (PT, ("_by_numbers.<locals>.<lambda>" : Str)) ∈ TS) (hu : ∀ p ∈ TS, p.1 = PT → p.2 = ("_by_numbers.<locals>.<lambda>" : Str)) :
    FnOk P w K mg base CX0 4 f (PySem.W.fnOf "_by_numbers" "_by_numbers" (defArgs s__by_numbers) (defBody s__by_numbers) (defScope s__by_numbers) .none kV doc pm an (.ref c) ct) ["rows"] (spByN K TS) := by
  refine fn_of lk hcd sc__by_numbers (fun vs H Q E h => ?_) fun A outer s H vs Q E hr h => ?_
  · obtain ⟨d, kvs, tb, rfl, _⟩ := h
    rfl
  · obtain ⟨d, kvs, tb, rfl, hd, hp, hnd, hl, hT, q⟩ := h
    have body : ∃ t, PSs ((cxOf CX0 P w K mg base N__by_numbers "_by_numbers" (defScope s__by_numbers) f (.ref c) A outer s H E).nox) (defBody s__by_numbers) t ∧ t { nx := fun _ H' => Q .non H', rt := Q } (L2.start N__by_numbers [.ref d]) H := by
     refine ⟨_, (pss_one (ps_ret (pe_lock (pe_dc (X := (cxOf CX0 P w K mg base N__by_numbers "_by_numbers" (defScope s__by_numbers) f (.ref c) A outer s H E).nox) (own := [("name", 1), ("row", 2)]) (g := gTup K 2 (gCons (gName 1) (gCons (gName 2) gNil))) rfl sc__by_numbers.nd (pi_items (pv 0)) (blkOk_by (N := N__by_numbers) (sc := defScope s__by_numbers) (by decide +kernel)) (fun _ _ _ _ _ => pg_tup rfl (pgs_cons (pg_name (i := 1) sc__by_numbers.nd rfl (.inl rfl)) (pgs_cons (pg_name (i := 2) sc__by_numbers.nd rfl (.inl rfl)) pgs_nil))) (fun _ _ _ _ _ => pts_nil) (fun _ _ _ _ _ => (pv 1)) (fun _ _ _ _ _ => pe_callTy (T := "tuple") (r := rTupOf K) cr_tupK (by rfl) T.n_tuple (by decide +kernel) (pa_cons (pe_sortLam K (T := TS) (pr := "entry") (by rfl) T.n_sorted (pv 2) TB rfl hB hu (hr.mono (show 1 ≤ 3 by decide)) ⟨⟨rfl, rfl, rfl⟩, rfl, ⟨_, _, _, _, rfl⟩, by decide⟩ rfl (fun _ _ _ _ _ _ => rfl)) pa_nil)))))), ?_⟩
     refine ⟨d, _, hd, trivial, fun od => ?_⟩
     have hd1 : (upd H d (.frz od (.dK kvs))) d = some (.frz od (.dK kvs)) := upd_same
     have hT1 : Tabs TS (upd H d (.frz od (.dK kvs))) := tabs_put hT fun o e => by rw [hd] at e; cases e; exact .dK
     have hback : ∀ H', ExtN (upd H d (.frz od (.dK kvs))) H' → ExtN H (upd H' d (.dK kvs)) := fun H' e b o q n => by
       by_cases hb : b = d
       · subst hb
         rw [upd_same, ← hd, q]
       · rw [upd_ne hb]
         exact e b o (by rw [upd_ne hb]; exact q) n
     have hrow : ∀ {v : V} {es : List En}, EnRow K H es v → ∃ a xs, v = .ref a ∧ SqR K (upd H d (.frz od (.dK kvs))) a xs ∧ Tds K (upd H d (.frz od (.dK kvs))) xs (es.map En.pd) := fun ⟨a, xs, e, h1, h2⟩ =>
       ⟨a, xs, e, h1.elim (fun h => .inl (lock_list hd h)) (fun h => .inr (lock_keep hd _ _ h)), h2.keep (lock_keep hd)⟩
     have hfree : ∀ {D : Addr}, (upd H d (.frz od (.dK kvs))) D = none → D ≠ d ∧ H D = none := fun {D} e => by
       have n : D ≠ d := fun w => by rw [w, upd_same] at e; cases e
       rw [upd_ne n] at e
       exact ⟨n, e⟩
     generalize upd H d (.frz od (.dK kvs)) = H1 at hd1 hT1 hback hrow hfree ⊢
     refine ⟨_, rfl, d, od, kvs, rfl, hd1, fun D hD => ?_⟩
     refine ⟨fun i m H' => m = kvs.length - i ∧ i ≤ kvs.length ∧ ExtN H1 H' ∧ Tabs TS H' ∧ ∃ kvs', H' D = some (.dK kvs') ∧ Paired (RowT K H') kvs' (sortT (tb.take i)), ⟨_, rfl, Nat.zero_le _, extN_new (.refl _) hD, tabs_new hT1 hD, [], upd_same, .nil⟩, ?_⟩
     rintro i m H' ⟨rfl, hi, e1, tT, kvs', hD', pr⟩
     have hd2 : H' d = some (.frz od (.dK kvs)) := e1 _ _ hd1 fun _ z => nomatch z
     by_cases hlt : i < kvs.length
     · refine .inr ⟨⟨hd2, hlt⟩, fun H' => i + 1 ≤ kvs.length ∧ ExtN H1 H' ∧ Tabs TS H' ∧ ∃ kvs', H' D = some (.dK kvs') ∧ Paired (RowT K H') kvs' (sortT (tb.take (i + 1))), fun H' h => ⟨kvs.length - (i + 1), by omega, rfl, h.1, h.2⟩, ?_⟩
       rintro x H2 ⟨T1, k, v, he, rfl, hT1', rfl⟩
       obtain ⟨r, hr1, hk', hrw⟩ := pd_atL hp he
       have hk' : k = .inr r.1 := hk'
       subst hk'
       obtain ⟨l, xs, hv, hR, hX⟩ := hrow hrw
       have hv : v = .ref l := hv
       subst hv
       obtain ⟨ps, p1, p2, p3, p4⟩ := sort_row hX
       have nTD : D ≠ T1 := ne_of_none hD' hT1'
       have e2 : ExtN H1 (upd H' T1 (.tup [L2.kV (.inr r.1), .ref l])) := fun b o q n => by
         rw [upd_ne (ne_of_none (e1 b o q n) hT1')]
         exact e1 b o q n
       refine ⟨T1, _, rfl, SqT.of upd_same, rfl, _, _, rfl, _, _, rfl, rfl, rfl, ?_⟩
       have k2 : KeepT K H1 (upd H' T1 (.tup [L2.kV (.inr r.1), .ref l])) := KeepT.extN e2
       have sq2 : SqR K (upd H' T1 (.tup [L2.kV (.inr r.1), .ref l])) l (ps.map Prod.fst) := by
         rw [p1]
         exact hR.elim (fun h => .inl (SqL.extN h e2)) fun h => .inr (SqT.extN h e2)
       have hD2 : (upd H' T1 (.tup [L2.kV (.inr r.1), .ref l])) D = some (.dK kvs') := by
         rw [upd_ne nTD]
         exact hD'
       have tT2 : Tabs TS (upd H' T1 (.tup [L2.kV (.inr r.1), .ref l])) := tabs_new tT hT1'
       have pr2 : Paired (RowT K (upd H' T1 (.tup [L2.kV (.inr r.1), .ref l]))) kvs' (sortT (tb.take i)) := pd_mono (fun _ _ h => h.keep (KeepT.same (same_upd hT1'))) pr
       generalize upd H' T1 (.tup [L2.kV (.inr r.1), .ref l]) = H2 at e2 k2 sq2 hD2 tT2 pr2 ⊢
       refine ⟨_, rfl, _, rfl, l, ps, rfl, sq2, fun p hp => ?_, tT2, fun H3 z eN T3 hz => ⟨z, _, rfl, .inl ⟨SqL.of upd_same, fun t ht => ?_⟩⟩⟩
       · obtain ⟨a, ys, e, h1⟩ := p2 p hp
         exact ⟨a, ys, e, k2 _ _ h1⟩
       have hD3 : H3 D = some (.dK kvs') := eN _ _ hD2 fun _ z => nomatch z
       have nDz : D ≠ z := ne_of_none hD3 hz
       have hD4 : (upd H3 z (.lst ((byKey ps).map Prod.fst))) D = some (.dK kvs') := by
         rw [upd_ne nDz]
         exact hD3
       have nDt : D ≠ t := ne_of_none hD4 ht
       have nk : (Sum.inr r.1 : Key) ∉ kvs'.map Prod.fst := by
         rw [rowsT_keys pr2]
         intro hm
         obtain ⟨n, hn, e⟩ := List.mem_map.mp hm
         cases e
         unfold sortT at hn
         rw [List.map_map] at hn
         obtain ⟨r', hr', e⟩ := List.mem_map.mp hn
         have e : r'.1 = r.1 := e
         obtain ⟨j, hj⟩ := List.getElem?_of_mem hr'
         have hji : j < i := by
           have := (List.getElem?_eq_some_iff.mp hj).1
           rw [List.length_take] at this
           omega
         rw [List.getElem?_take, if_pos hji] at hj
         have a1 : (tb.map Prod.fst)[j]? = some r.1 := by rw [List.getElem?_map, hj, ← e] <;> rfl
         have a2 : (tb.map Prod.fst)[i]? = some r.1 := by rw [List.getElem?_map, hr1] <;> rfl
         have := (List.getElem?_inj (List.getElem?_eq_some_iff.mp a1).1 hnd).mp (a1.trans a2.symm)
         omega
       have hll : kvs'.length = i := by
         have := pr2.length
         unfold sortT at this
         rw [List.length_map, List.length_take] at this
         have hi2 := (List.getElem?_eq_some_iff.mp hr1).1
         omega
       have hlt2 := (List.getElem?_eq_some_iff.mp hr1).1
       have s4 : Same H3 (upd (upd H3 z (.lst ((byKey ps).map Prod.fst))) t (.tup ((byKey ps).map Prod.fst))) := (same_upd hz).trans (same_upd ht)
       refine ⟨kvs', .inr r.1, rfl, by rw [upd_ne nDt]; exact hD4, small1000 (by omega), hlt, ?_, ?_, kvs' ++ [(.inr r.1, .ref t)], ?_, ?_⟩
       · refine extN_new ?_ hD
         exact (e2.trans eN).trans (.of s4)
       · refine tabs_put (T3.ext s4) fun o e => ?_
         rw [upd_ne nDt, hD4] at e
         cases e
         exact .dK
       · rw [upd_same, putK_new nk]
       · have k5 : KeepT K H2 (upd (upd (upd H3 z (.lst ((byKey ps).map Prod.fst))) t (.tup ((byKey ps).map Prod.fst))) D (.dK (putK kvs' (.inr r.1) (.ref t)))) := by
           refine ((KeepT.extN eN).trans (KeepT.same s4)).trans (KeepT.but fun b o e => ?_)
           have nb : (∀ k, o ≠ .dK k) → b ≠ D := fun n w => by
             rw [w, upd_ne nDt, hD4] at e
             exact n _ (Option.some.inj e).symm
           exact ⟨fun xs w => by rw [upd_ne (nb fun k z => by rw [w] at z; cases z)]; exact e, fun q xs w => by rw [upd_ne (nb fun k z => by rw [w] at z; cases z)]; exact e⟩
         unfold sortT
         rw [List.take_add_one, hr1, List.map_append]
         refine pd_append (pd_mono (fun _ _ h => h.keep k5) pr2) (.cons ⟨rfl, t, _, rfl, ?_, p3 _ (k2.trans k5)⟩ .nil)
         refine SqT.of ?_
         rw [upd_ne (Ne.symm nDt), upd_same]
     · have hie : i = kvs.length := by omega
       subst hie
       refine .inl ⟨⟨hd2, Nat.le_refl _⟩, hd2, ?_⟩
       have hlk : kvs.length = tb.length := hp.length
       rw [hlk, List.take_length] at pr
       obtain ⟨n1, n2⟩ := hfree hD
       refine q _ D kvs' (hback _ e1) (tabs_put tT fun o e => by rw [hd2] at e; cases e; exact .frz) n2 ?_ ?_
       · show upd H' d (.dK kvs) D = _
         rw [upd_ne n1]
         exact hD'
       · exact pd_mono (fun _ _ h => h.keep (unlock_keep hd2)) pr
    obtain ⟨t, dd, hq⟩ := body
    exact ⟨t, dd.nox, hq⟩
end
end K22
namespace K22
open PySem PySem.Spec PyProof.Rows L2 Tw Sb LamX
def spBack (K : PySem.W.Frag) : Sp := fun vs H Q _ => ∃ (d : Addr) (kvs : List (Key × V)) (tb : List TRow), vs = [.ref d] ∧ H d = some (.dK kvs) ∧ Paired (RowT K H) kvs tb ∧ (tb.map Prod.fst).Nodup ∧ (∀ r ∈ tb, r.2 ≠ []) ∧ Fwd tb ∧ ∀ H', Same H H' → Q .non H'
def spSInit (K : PySem.W.Frag) (C : Addr) (TS : List (Addr × Str)) : Sp := fun vs H Q _ => ∃ (p dx d1 : Addr) (cv rv : V) (kvs1 : List (Key × V)) (tb1 tb2 : List TRow) (s : So), vs = [.ref p, .ref d1, cv, rv] ∧ H p = some (.ins C dx []) ∧ H d1 = some (.dK kvs1) ∧ Paired (RowIs K H) kvs1 tb1 ∧
  ((cv = .non ∧ tb2 = []) ∨ ∃ d2 kvs2, cv = .ref d2 ∧ H d2 = some (.dK kvs2) ∧ Paired (RowIs K H) kvs2 tb2) ∧ Td K H rv s.pd ∧ ScOk tb1 tb2 s ∧ Tabs TS H ∧ ∀ H', ButN p H H' → Tabs TS H' → ScAt K C (New H) H' p tb1 tb2 s → Q .non H'
section
variable {P : Program} {w : World} {K : PySem.W.Frag} {mg : Str → Option Value} {base : Heap}
theorem ok_back {f : Addr} {fd : FuncData} (F : Fun K "_refuse_comings_back" "_refuse_comings_back" s__refuse_comings_back f fd) : FnOk P w K mg base CX0 1 f fd ["choices"] (spBack K) := by
  refine F.ok sc__refuse_comings_back (fun vs H Q E h => ?_) (fun cdv A outer s H vs Q E hr h => ?_)
  · obtain ⟨d, kvs, tb, rfl, _⟩ := h
    rfl
  · obtain ⟨d, kvs, tb, rfl, hd, hp, hnd, hne, ⟨rank, hrk⟩, q⟩ := h
    have hu := hu_of hr
    refine ⟨_, (pss_one (ps_lock (ps_for PassesOwn.never rfl (pi_keys (pv 0)) (pg_name (i := 1) sc__refuse_comings_back.nd rfl (.inl rfl))
        (pss_cons (ps_set (i := 2) sc__refuse_comings_back.nd rfl (.inl rfl) (pv 1))
        (pss_one (ps_for PassesOwn.never rfl (pi_keys (pv 0)) (pg_name (i := 3) sc__refuse_comings_back.nd rfl (.inl rfl))
          (pss_cons (ps_set (i := 4) sc__refuse_comings_back.nd rfl (.inl rfl) (pe_ix (r := rIxT K) ix_tup (pe_ix (r := rIxT K) ix_tup (pe_dget hu (pv 0) (pv 2) (fun _ _ => rfl)) pe_int (fun _ _ => rfl)) pe_int (fun _ _ => rfl)))
          (pss_cons (ps_if (PW.pt (pw_or (pt_cmpR op_isN (pv 4) pe_non (nomark _)) (pw_or1 (pt_cmpR op_ne (pe_ix (r := rIxT K) ix_tup (pv 4) pe_int (fun _ _ => rfl)) pe_str (nomark _)))))
            (pss_one ps_break)
            pss_nil)
          (pss_cons (ps_set (i := 2) sc__refuse_comings_back.nd rfl (.inl rfl) (pe_ix (r := rIxT K) ix_tup (pv 4) pe_int (fun _ _ => rfl)))
          (pss_one (ps_if (pt_cmpR op_eq (pv 2) (pv 1) (nomark _))
            (pss_one ps_dead)
            pss_nil))))))))))), ?_⟩
    refine ⟨d, _, hd, trivial, fun od => ?_⟩
    have hd1 : (upd H d (.frz od (.dK kvs))) d = some (.frz od (.dK kvs)) := upd_same
    have hp1 : Paired (RowT K (upd H d (.frz od (.dK kvs)))) kvs tb := pd_mono (fun _ _ h => h.keep (lock_keep hd)) hp
    have hback : Same H (upd (upd H d (.frz od (.dK kvs))) d (.dK kvs)) := unlock hd (Same.refl _)
    generalize upd H d (.frz od (.dK kvs)) = H1 at hd1 hp1 hback ⊢
    refine ⟨_, rfl, d, od, rfl, .inl ⟨kvs, hd1, ?_⟩⟩
    refine for_it walk_keys (fun i σ H' => ∃ (y1 y2 y3 y4 : Option V), σ = [some (.ref d), y1, y2, y3, y4] ∧ H1 = H') ⟨_, _, _, _, rfl, rfl⟩ (fun _ _ _ _ ⟨_, _, _, _, _, e⟩ => e ▸ hd1) ?_ ?_
    · rintro i x σ H2 H3 hi ⟨y1, y2, y3, y4, rfl, rfl⟩ ⟨eH, k, v, he, rfl⟩
      obtain rfl := eH.symm
      obtain ⟨z, hz, rfl⟩ := key_at (rowsT_keys hp1) he
      have hzm : z ∈ tb.map Prod.fst := List.mem_of_getElem? hz
      refine ⟨_, rfl, ?_⟩
      refine ⟨_, rfl, d, od, rfl, .inl ⟨kvs, hd1, ?_⟩⟩
      refine for_it walk_keys (fun j σ H' => ∃ (at_ : Str) (y3 y4 : Option V), σ = [some (.ref d), some (.str z), some (.str at_), y3, y4] ∧ H1 = H' ∧ at_ ∈ tb.map Prod.fst ∧ (at_ = z ∨ rank z < rank at_)) ⟨z, _, _, rfl, rfl, hzm, .inl rfl⟩ (fun _ _ _ _ ⟨_, _, _, _, e, _⟩ => e ▸ hd1) ?_ ?_
      · rintro j x σ H2 H3 hj ⟨at_, y3, y4, rfl, rfl, hm, hor⟩ ⟨eH, k2, v2, he2, rfl⟩
        obtain rfl := eH.symm
        obtain ⟨r, hrm, rfl⟩ := List.mem_map.mp hm
        obtain ⟨a, xs, g1, g2, g3⟩ := val_row hp1 hnd hrm
        obtain ⟨e, es, hes⟩ : ∃ e es, r.2 = e :: es := by
          cases hr2 : r.2 with
          | nil => exact absurd hr2 (hne r hrm)
          | cons e es => exact ⟨e, es, rfl⟩
        rw [hes] at g3
        obtain ⟨x0, xs', rfl, g4⟩ : ∃ x0 xs', xs = x0 :: xs' ∧ Td K H1 x0 e.pd := by
          cases g3 with
          | cons t1 t2 => exact ⟨_, _, rfl, t1⟩
        obtain ⟨p, x2, ys, rfl, hq, h2, _⟩ := Tds.entry g4
        have hrk1 := hrk r hrm e (by rw [hes] <;> rfl)
        refine ⟨_, rfl, _, rfl, d, _, rfl, .inl ⟨kvs, .inr r.1, .inr ⟨od, hd1⟩, rfl, g1.symm⟩, a, _, 0, .ref p, rfl, rfl, g2, at0, p, _, 2, x2, rfl, rfl, hq, at2, ?_⟩
        cases eo : e.of with
        | none =>
          rw [eo] at h2
          obtain rfl := h2.toNone
          exact ⟨_, rfl, rfl, _, rfl, iteY rfl ⟨_, _, _, _, rfl, rfl⟩⟩
        | some s =>
          rw [eo] at h2
          obtain ⟨pc, zs, rfl, hz, hzs⟩ := Td.row (show Td K H1 x2 (.tuple (.str s.word :: s.rest)) from h2)
          obtain ⟨zs', rfl, hzr⟩ : ∃ zs', zs = .str s.word :: zs' ∧ Tds K H1 zs' s.rest := by
            cases hzs with
            | cons t1 t2 =>
              cases t1
              exact ⟨_, rfl, t2⟩
          refine ⟨_, rfl, rfl, _, rfl, iteN (fun z => nomatch z) ?_⟩
          refine ⟨_, rfl, pc, _, 0, .str s.word, rfl, rfl, hz, at0, rfl, _, rfl, ?_⟩
          by_cases hc : ∃ c, s = .cho c
          · obtain ⟨c, rfl⟩ := hc
            obtain ⟨x1, rfl, h1⟩ : ∃ x1, zs' = [x1] ∧ x1 = .str c := by
              cases hzr with
              | cons t1 t2 =>
                cases t2
                exact ⟨_, rfl, t1.toStr⟩
            subst h1
            obtain ⟨r1, r2⟩ := hrk1 c eo
            have r3 : rank z < rank c := by
              rcases hor with w | w
              · rw [← w]
                exact r1
              · omega
            refine iteNY rfl ⟨_, rfl, pc, _, 1, .str c, rfl, rfl, hz, at1, ?_⟩
            refine ⟨_, rfl, _, rfl, rfl, _, rfl, iteN (sne fun w => ?_) ⟨c, _, _, rfl, rfl, r2, .inr r3⟩⟩
            rw [w] at r3
            omega
          · have nw : s.word ≠ "choice" := by
              cases s with
              | cho c => exact absurd ⟨c, rfl⟩ hc
              | num lo hi => exact (show ("number" : Str) ≠ "choice" by decide +kernel)
              | tru => exact (show ("truth" : Str) ≠ "choice" by decide +kernel)
              | txt n => exact (show ("text" : Str) ≠ "choice" by decide +kernel)
              | row n s => exact (show ("row" : Str) ≠ "choice" by decide +kernel)
              | may s => exact (show ("maybe" : Str) ≠ "choice" by decide +kernel)
              | nod k => exact (show ("node" : Str) ≠ "choice" by decide +kernel)
            exact iteNN (sne nw) ⟨_, _, _, _, rfl, rfl⟩
      · rintro σ H2 ⟨at_, y3, y4, rfl, rfl, _⟩
        exact ⟨_, _, _, _, rfl, rfl⟩
    · rintro σ H2 ⟨y1, y2, y3, y4, rfl, rfl⟩
      exact ⟨hd1, q _ hback⟩
theorem put1 {v : V} : putF "kinds" v [] = [(("kinds" : Str), v)] := rfl
theorem put2 {v u : V} : putF "choices" v [(("kinds" : Str), u)] = [(("kinds" : Str), u), (("choices" : Str), v)] := by
  show (if ("kinds" : Str) = "choices" then _ else (("kinds" : Str), u) :: putF "choices" v []) = _
  rw [if_neg (by decide +kernel)]
  rfl
theorem put3 {v u x : V} : putF "root" v [(("kinds" : Str), u), (("choices" : Str), x)] = [(("kinds" : Str), u), (("choices" : Str), x), (("root" : Str), v)] := by
  show (if ("kinds" : Str) = "root" then _ else (("kinds" : Str), u) :: (if ("choices" : Str) = "root" then _ else (("choices" : Str), x) :: putF "root" v [])) = _
  rw [if_neg (by decide +kernel), if_neg (by decide +kernel)]
  rfl
theorem sortT_keys (tb : List TRow) : (sortT tb).map Prod.fst = tb.map Prod.fst := by
  unfold sortT
  rw [List.map_map]
  rfl
theorem names_ok {k : Bool} {ks cs : List Str} {tb : List TRow} (h : TabOk k ks cs tb) : ∀ n ∈ tb.map Prod.fst, isNm n = true := fun n hn => by
  obtain ⟨r, hr, rfl⟩ := List.mem_map.mp hn
  exact (h r hr).1
theorem RowIs.extN {H H' : Hp} (e : ExtN H H') {kv : Key × V} {r : TRow} (h : RowIs K H kv r) : RowIs K H' kv r := by
  obtain ⟨h1, a, xs, h2, h3, h4⟩ := h
  exact ⟨h1, a, xs, h2, h3.elim (fun h => .inl (SqL.extN h e)) (fun h => .inr (SqT.extN h e)), h4.keep (KeepT.extN e)⟩
theorem RowIs.ins {H : Hp} {p C dx : Addr} {fs fs' : List (Str × V)} (hp : H p = some (.ins C dx fs)) {kv : Key × V} {r : TRow} (h : RowIs K H kv r) : RowIs K (upd H p (.ins C dx fs')) kv r := by
  obtain ⟨h1, a, xs, h2, h3, h4⟩ := h
  refine ⟨h1, a, xs, h2, h3.elim (fun h => .inl ?_) (fun h => .inr (keepT_ins hp _ _ h)), h4.keep (keepT_ins hp)⟩
  rcases h with (h | ⟨o, h⟩) | h
  · exact .inl (.inl (by rw [upd_ne (ne_of h hp (by intro z; cases z))]; exact h))
  · exact .inl (.inr ⟨o, by rw [upd_ne (ne_of h hp (by intro z; cases z))]; exact h⟩)
  · exact .inr h
theorem ok_sinit {C f : Addr} {fd : FuncData} {TS : List (Addr × Str)} (F : Fun K "__init__" "Schema.__init__" s_Schema___init__ f fd) (cl : ClS K C) (c__names : Cal P w K mg base 2 "_names" ["rows"] spNames) (c__refuse_rows : Cal P w K mg base 6 "_refuse_rows" ["word", "rows", "kinds", "choices"] (spRows K))
    (c_is_sort : Cal P w K mg base 4 "is_sort" ["of", "kinds", "choices"] (spSort K)) (c__by_numbers : Cal P w K mg base 4 "_by_numbers" ["rows"] (spByN K TS)) (c__refuse_comings_back : Cal P w K mg base 1 "_refuse_comings_back" ["choices"] (spBack K)) :
    FnOk P w K mg base CX0 7 f fd ["self", "kinds", "choices", "root"] (spSInit K C TS) := by
  refine F.ok sc_Schema___init__ (fun vs H Q E h => ?_) (fun cdv A outer s H vs Q E hr h => ?_)
  · obtain ⟨p, dx, d1, cv, rv, kvs1, tb1, tb2, s, rfl, _⟩ := h
    rfl
  · obtain ⟨p, dx, d1, cv, rv, kvs1, tb1, tb2, z, rfl, hp, hd1, hp1, hcv, hrv, ok, hT, q⟩ := h
    refine ⟨_, (pss_mid (ps_set (i := 4) sc_Schema___init__.nd rfl (.inl rfl) (pe_ifExp (pt_cmpR op_isN (pv 2) pe_non (nomark _)) pe_dnewK (pv 2)))
      (pss_cons (ps_set (i := 5) sc_Schema___init__.nd rfl (.inl rfl) (pe_cal c__names hr (by decide) (by rfl) (pa_cons (pv 1) pa_nil)))
      (pss_cons (ps_set (i := 6) sc_Schema___init__.nd rfl (.inl rfl) (pe_cal c__names hr (by decide) (by rfl) (pa_cons (pv 4) pa_nil)))
      (pss_cons (ps_expr (pe_cal c__refuse_rows hr (by decide) (by rfl) (pa_cons pe_str (pa_cons (pv 1) (pa_cons (pv 5) (pa_cons (pv 6) pa_nil))))))
      (pss_cons (ps_expr (pe_cal c__refuse_rows hr (by decide) (by rfl) (pa_cons pe_str (pa_cons (pv 4) (pa_cons (pv 5) (pa_cons (pv 6) pa_nil))))))
      (pss_cons (ps_if (pt_not (pt_val (pe_cal c_is_sort hr (by decide) (by rfl) (pa_cons (pv 3) (pa_cons (pv 5) (pa_cons (pv 6) pa_nil))))))
        (pss_one ps_dead)
        pss_nil)
      (pss_cons (ps_fld (pv 0) (pe_cal c__by_numbers hr (by decide) (by rfl) (pa_cons (pv 1) pa_nil)) rfl)
      (pss_cons (ps_fld (pv 0) (pe_cal c__by_numbers hr (by decide) (by rfl) (pa_cons (pv 4) pa_nil)) rfl)
      (pss_cons (ps_fld (pv 0) (pv 3) rfl)
      (pss_one (ps_expr (pe_cal c__refuse_comings_back hr (by decide) (by rfl) (pa_cons (pe_fld (pv 0) rfl) pa_nil))))))))))))), ?_⟩
    refine ⟨fun σ H' => ∃ (g : Addr) (kvs2 : List (Key × V)), σ = [some (.ref p), some (.ref d1), some cv, some rv, some (.ref g), none, none] ∧ Same H H' ∧ H' g = some (.dK kvs2) ∧ Paired (RowIs K H') kvs2 tb2, ?_, ?_⟩
    · rcases hcv with ⟨rfl, rfl⟩ | ⟨d2, kvs2, rfl, hd2, hp2⟩
      · refine ⟨_, rfl, rfl, _, rfl, iteY rfl fun g hg => ?_⟩
        exact ⟨g, [], rfl, same_upd hg, upd_same, .nil⟩
      · exact ⟨_, rfl, rfl, _, rfl, iteN (fun z => nomatch z) ⟨_, rfl, d2, kvs2, rfl, Same.refl _, hd2, hp2⟩⟩
    rintro σ H1 ⟨g, kvs2, rfl, s1, hg, hp2⟩
    have e1 : ExtN H H1 := .of s1
    have hp11 := pd_mono (fun _ _ h => RowIs.extN e1 h) hp1
    refine ⟨_, rfl, d1, kvs1, tb1.map Prod.fst, rfl, s1 _ _ hd1, rows_keys hp11, names_ok ok.t1, by rw [List.length_map]; exact ok.l1, fun H2 r1 s2 n1 m1 => ?_⟩
    have e2 : ExtN H1 H2 := .of s2
    have hp12 := pd_mono (fun _ _ h => RowIs.extN e2 h) hp11
    have hp22 := pd_mono (fun _ _ h => RowIs.extN e2 h) hp2
    refine ⟨_, rfl, g, kvs2, tb2.map Prod.fst, rfl, s2 _ _ hg, rows_keys hp22, names_ok ok.t2, by rw [List.length_map]; exact ok.l2, fun H3 r2 s3 n2 m2 => ?_⟩
    have e3 : ExtN H2 H3 := .of s3
    have hp13 := pd_mono (fun _ _ h => RowIs.extN e3 h) hp12
    have hp23 := pd_mono (fun _ _ h => RowIs.extN e3 h) hp22
    have s13 := (s1.trans s2).trans s3
    have hg3 := s3 _ _ (s2 _ _ hg)
    refine ⟨_, rfl, _, rfl, _, rfl, true, d1, r1, r2, kvs1, tb1, _, _, rfl, s13 _ _ hd1, hp13, ok.t1, s3 _ _ m1, m2, fun H4 s4 => ?_⟩
    have hp24 := pd_mono (fun _ _ h => RowIs.extN (.of s4) h) hp23
    have hp14 := pd_mono (fun _ _ h => RowIs.extN (.of s4) h) hp13
    refine ⟨_, rfl, _, rfl, _, rfl, false, g, r1, r2, kvs2, tb2, _, _, rfl, s4 _ _ hg3, hp24, ok.t2, s4 _ _ (s3 _ _ m1), s4 _ _ m2, fun H5 s5 => ?_⟩
    have s15 := (s13.trans s4).trans s5
    refine ⟨_, rfl, _, rfl, _, rfl, rv, z, r1, r2, _, _, rfl, hrv.keep (KeepT.same s15), s5 _ _ (s4 _ _ (s3 _ _ m1)), s5 _ _ (s4 _ _ m2), ok.ok, fun H6 s6 => ⟨true, rfl, iteF ?_⟩⟩
    have s16 := s15.trans s6
    have hp16 := pd_mono (fun _ _ h => RowIs.extN (.of (s5.trans s6)) h) hp14
    have hp26 := pd_mono (fun _ _ h => RowIs.extN (.of (s5.trans s6)) h) hp24
    have hg6 := s6 _ _ (s5 _ _ (s4 _ _ hg3))
    have hT6 := hT.ext s16
    refine ⟨_, rfl, d1, kvs1, tb1, rfl, s16 _ _ hd1, hp16, ok.n1, ok.l1, hT6, fun H7 k1 kv1 e7 T7 nk1 hk1 hq1 => ?_⟩
    have N1 : New H k1 := fun o e => by
      by_cases ht : ∃ ps, o = .tbl ps
      · exact ht
      · rw [s16 _ _ e] at nk1
        cases nk1
    have hp7 : H7 p = some (.ins C dx []) := e7 _ _ (s16 _ _ hp) fun _ z => nomatch z
    have hg7 := e7 _ _ hg6 fun _ z => nomatch z
    have ne7 : ∀ {b : Addr} {kv : List (Key × V)}, H7 b = some (.dK kv) → b ≠ p := fun e => ne_of e hp7 (by intro z; cases z)
    refine ⟨_, rfl, p, C, dx, [], rfl, hp7, cl.cl, cl.nK, by show 0 < 1000; decide, ?_⟩
    have hp8 : (upd H7 p (.ins C dx (putF "kinds" (.ref k1) []))) p = some (.ins C dx [("kinds", .ref k1)]) := by rw [upd_same, put1]
    have hg8 : (upd H7 p (.ins C dx (putF "kinds" (.ref k1) []))) g = some (.dK kvs2) := by rw [upd_ne (ne7 hg7)]; exact hg7
    have hk18 : (upd H7 p (.ins C dx (putF "kinds" (.ref k1) []))) k1 = some (.dK kv1) := by rw [upd_ne (ne7 hk1)]; exact hk1
    have T8 : Tabs TS (upd H7 p (.ins C dx (putF "kinds" (.ref k1) []))) := tabs_put T7 fun o e => by rw [hp7] at e; cases e; exact .ins
    have hp28 := pd_mono (fun _ _ h => RowIs.ins (fs' := putF "kinds" (.ref k1) []) hp7 (RowIs.extN e7 h)) hp26
    have hq18 := pd_mono (fun _ _ h => RowT.keep (keepT_ins (fs' := putF "kinds" (.ref k1) []) hp7) h) hq1
    have hrv8 : Td K (upd H7 p (.ins C dx (putF "kinds" (.ref k1) []))) rv z.pd := ((hrv.keep (KeepT.same s16)).keep (KeepT.extN e7)).keep (keepT_ins hp7)
    have b8 : ButN p H (upd H7 p (.ins C dx (putF "kinds" (.ref k1) []))) := ButN.put (.of ((ExtN.of s16).trans e7))
    generalize upd H7 p (.ins C dx (putF "kinds" (.ref k1) [])) = H8 at hp8 hg8 hk18 T8 hp28 hq18 hrv8 b8 ⊢
    refine ⟨_, rfl, g, kvs2, tb2, rfl, hg8, hp28, ok.n2, ok.l2, T8, fun H9 k2 kv2 e9 T9 nk2 hk2 hq2 => ?_⟩
    have N2 : New H k2 := fun o e => by
      by_cases ht : ∃ ps, o = .tbl ps
      · exact ht
      · by_cases hk : k2 = p
        · rw [hk, hp8] at nk2
          cases nk2
        · rw [b8 k2 o hk e fun ps h => ht ⟨ps, h⟩] at nk2
          cases nk2
    have hp9 : H9 p = some (.ins C dx [("kinds", .ref k1)]) := e9 _ _ hp8 fun _ z => nomatch z
    have hk19 := e9 _ _ hk18 fun _ z => nomatch z
    have hq19 := pd_mono (fun _ _ h => RowT.keep (KeepT.extN e9) h) hq18
    have ne9 : ∀ {b : Addr} {kv : List (Key × V)}, H9 b = some (.dK kv) → b ≠ p := fun e => ne_of e hp9 (by intro z; cases z)
    refine ⟨_, rfl, p, C, dx, _, rfl, hp9, cl.cl, cl.nC, by show 1 < 1000; decide, ?_⟩
    have hpA : (upd H9 p (.ins C dx (putF "choices" (.ref k2) [("kinds", .ref k1)]))) p = some (.ins C dx [("kinds", .ref k1), ("choices", .ref k2)]) := by rw [upd_same, put2]
    have hk1A : (upd H9 p (.ins C dx (putF "choices" (.ref k2) [("kinds", .ref k1)]))) k1 = some (.dK kv1) := by rw [upd_ne (ne9 hk19)]; exact hk19
    have hk2A : (upd H9 p (.ins C dx (putF "choices" (.ref k2) [("kinds", .ref k1)]))) k2 = some (.dK kv2) := by rw [upd_ne (ne9 hk2)]; exact hk2
    have TA : Tabs TS (upd H9 p (.ins C dx (putF "choices" (.ref k2) [("kinds", .ref k1)]))) := tabs_put T9 fun o e => by rw [hp9] at e; cases e; exact .ins
    have hq1A := pd_mono (fun _ _ h => RowT.keep (keepT_ins (fs' := putF "choices" (.ref k2) [("kinds", .ref k1)]) hp9) h) hq19
    have hq2A := pd_mono (fun _ _ h => RowT.keep (keepT_ins (fs' := putF "choices" (.ref k2) [("kinds", .ref k1)]) hp9) h) hq2
    have hrvA : Td K (upd H9 p (.ins C dx (putF "choices" (.ref k2) [("kinds", .ref k1)]))) rv z.pd := (hrv8.keep (KeepT.extN e9)).keep (keepT_ins hp9)
    have bA : ButN p H (upd H9 p (.ins C dx (putF "choices" (.ref k2) [("kinds", .ref k1)]))) := ButN.put (b8.trans (.of e9))
    generalize upd H9 p (.ins C dx (putF "choices" (.ref k2) [("kinds", .ref k1)])) = HA at hpA hk1A hk2A TA hq1A hq2A hrvA bA ⊢
    have neA : ∀ {b : Addr} {kv : List (Key × V)}, HA b = some (.dK kv) → b ≠ p := fun e => ne_of e hpA (by intro z; cases z)
    refine ⟨_, rfl, _, rfl, p, C, dx, _, rfl, hpA, cl.cl, cl.nR, by show 2 < 1000; decide, ?_⟩
    have hpB : (upd HA p (.ins C dx (putF "root" rv [("kinds", .ref k1), ("choices", .ref k2)]))) p = some (.ins C dx [("kinds", .ref k1), ("choices", .ref k2), ("root", rv)]) := by rw [upd_same, put3]
    have hk1B : (upd HA p (.ins C dx (putF "root" rv [("kinds", .ref k1), ("choices", .ref k2)]))) k1 = some (.dK kv1) := by rw [upd_ne (neA hk1A)]; exact hk1A
    have hk2B : (upd HA p (.ins C dx (putF "root" rv [("kinds", .ref k1), ("choices", .ref k2)]))) k2 = some (.dK kv2) := by rw [upd_ne (neA hk2A)]; exact hk2A
    have TB : Tabs TS (upd HA p (.ins C dx (putF "root" rv [("kinds", .ref k1), ("choices", .ref k2)]))) := tabs_put TA fun o e => by rw [hpA] at e; cases e; exact .ins
    have hq1B := pd_mono (fun _ _ h => RowT.keep (keepT_ins (fs' := putF "root" rv [("kinds", .ref k1), ("choices", .ref k2)]) hpA) h) hq1A
    have hq2B := pd_mono (fun _ _ h => RowT.keep (keepT_ins (fs' := putF "root" rv [("kinds", .ref k1), ("choices", .ref k2)]) hpA) h) hq2A
    have hrvB : Td K (upd HA p (.ins C dx (putF "root" rv [("kinds", .ref k1), ("choices", .ref k2)]))) rv z.pd := hrvA.keep (keepT_ins hpA)
    have bB : ButN p H (upd HA p (.ins C dx (putF "root" rv [("kinds", .ref k1), ("choices", .ref k2)]))) := ButN.put bA
    generalize upd HA p (.ins C dx (putF "root" rv [("kinds", .ref k1), ("choices", .ref k2)])) = HB at hpB hk1B hk2B TB hq1B hq2B hrvB bB ⊢
    refine ⟨_, rfl, p, C, dx, _, .ref k2, rfl, hpB, cl.cl, cl.nC, rfl, k2, kv2, sortT tb2, rfl, hk2B, hq2B, by rw [sortT_keys]; exact ok.n2, fun r hr0 => ?_, ok.fwd, fun HC sC => ?_⟩
    · unfold sortT at hr0
      obtain ⟨r', hr', rfl⟩ := List.mem_map.mp hr0
      intro w
      have w : sortEn r'.2 = [] := w
      have hl := congrArg List.length w
      unfold sortEn at hl
      rw [List.length_mergeSort] at hl
      exact (ok.t2 r' hr').2.2.2 rfl (List.length_eq_zero_iff.mp hl)
    · exact q HC (bB.trans (.of (.of sC))) (TB.ext sC) ⟨dx, k1, k2, kv1, kv2, rv, N1, N2, sC _ _ hpB, sC _ _ hk1B, pd_mono (fun _ _ h => RowT.keep (KeepT.same sC) h) hq1B, sC _ _ hk2B, pd_mono (fun _ _ h => RowT.keep (KeepT.same sC) h) hq2B, hrvB.keep (KeepT.same sC)⟩
end
end K22
/-! Sn: texts of small letters, sign by sign. -/
namespace Tw
open PySem PySem.Spec PyProof.Rows L2
/-- the text's signs -/
abbrev sg (z : Str) : List Nat := z.cps.toList
def ofL (l : List Nat) : Str := ⟨l.toArray⟩
theorem sg_ofL (l : List Nat) : sg (ofL l) = l := by simp [sg, ofL]
theorem ofL_sg (z : Str) : ofL (sg z) = z := by
  unfold ofL sg
  cases z
  simp
theorem sg_inj {a b : Str} (h : sg a = sg b) : a = b := by rw [← ofL_sg a, ← ofL_sg b, h]
theorem sg_append (a b : Str) : sg (a ++ b) = sg a ++ sg b := toList_append a b
theorem sg_len (z : Str) : z.length = (sg z).length := len_toList z
/-- all small letters -/
def LowL (l : List Nat) : Prop := ∀ c ∈ l, 97 ≤ c ∧ c ≤ 122
theorem isNm_of {z : Str} (h1 : 1 ≤ (sg z).length) (h2 : (sg z).length ≤ 8) (h : LowL (sg z)) : isNm z = true := by
  unfold isNm
  rw [sg_len, decide_eq_true h1, decide_eq_true h2, Bool.true_and, Bool.true_and, List.all_eq_true]
  exact fun c hc => decide_eq_true (h c hc)
theorem isNm_to {z : Str} (h : isNm z = true) : 1 ≤ (sg z).length ∧ (sg z).length ≤ 8 ∧ LowL (sg z) := by
  unfold isNm at h
  simp only [Bool.and_eq_true, decide_eq_true_eq, List.all_eq_true] at h
  rw [sg_len] at h
  exact ⟨h.1.1, h.1.2, fun c hc => of_decide_eq_true (h.2 c hc)⟩
theorem sg_alpha : sg alpha = (List.range 26).map (· + 97) := by decide +kernel
theorem alpha_at {i : Int} (h0 : 0 ≤ i) (h1 : i < 26) : atI (sg alpha) i = some (97 + i.toNat) := by
  obtain ⟨n, rfl⟩ : ∃ n : Nat, i = n := ⟨i.toNat, by omega⟩
  apply atI_nat
  rw [sg_alpha, List.getElem?_map, List.getElem?_range (by omega)]
  show some (n + 97) = some (97 + n)
  rw [Nat.add_comm]
theorem alpha_index {c : Nat} (h0 : 97 ≤ c) (h1 : c ≤ 122) : ∃ rest, Builtin.Str.occurrences alpha (⟨#[c]⟩ : Str) 0 alpha.length 1 = (c - 97) :: rest := by
  have all : (List.range 26).all (fun i => (Builtin.Str.occurrences alpha (⟨#[i + 97]⟩ : Str) 0 alpha.length 1).head? == some i) = true := by decide +kernel
  have h := List.all_eq_true.mp all (c - 97) (List.mem_range.mpr (by omega))
  rw [show c - 97 + 97 = c by omega] at h
  have h : (Builtin.Str.occurrences alpha (⟨#[c]⟩ : Str) 0 alpha.length 1).head? = some (c - 97) := by simpa using h
  cases e : Builtin.Str.occurrences alpha (⟨#[c]⟩ : Str) 0 alpha.length 1 with
  | nil => rw [e] at h; cases h
  | cons x r =>
    rw [e] at h
    cases h
    exact ⟨r, rfl⟩
/-- signs joined -/
theorem sg_join {ys : List Str} : sg (Txt.join ⟨#[]⟩ ys) = (ys.map sg).flatten := by
  have e1 := congrArg TL.tl (TL.join_eq ⟨#[]⟩ ys)
  have e2 := TL.tl_join ⟨#[]⟩ ys
  have e3 : ∀ l : List (List Nat), TL.joinL [] l = l.flatten := by
    intro l
    induction l with
    | nil => rfl
    | cons x r ih =>
      cases r with
      | nil => simp [TL.joinL]
      | cons y r =>
        show x ++ ([] ++ TL.joinL [] (y :: r)) = _
        rw [ih]
        simp
  exact e1.trans (e2.trans (e3 _))
theorem ones_flat : ∀ {cs : List Nat}, ((cs.map fun c => (⟨#[c]⟩ : Str)).map sg).flatten = cs
  | [] => rfl
  | c :: r => by
    rw [List.map_cons, List.map_cons, List.flatten_cons, ones_flat] <;> rfl
/-- the last sign, and what stands ahead of it -/
theorem last_at {z : Str} {l : List Nat} {c : Nat} (h : sg z = l ++ [c]) : atI (sg z) (-1) = some c := by
  rw [h]
  unfold atI ixN
  rw [if_neg (by decide), if_pos (by rw [List.length_append]; simp; omega)]
  have e : ((-1 : Int) + ((l ++ [c]).length : Nat)).toNat = l.length := by
    rw [List.length_append]
    simp
    omega
  rw [e]
  simp
theorem init_at {z : Str} {l : List Nat} {c : Nat} (h : sg z = l ++ [c]) : cutS z none (some (-1)) = ofL l := by
  apply sg_inj
  rw [sg_ofL]
  have hl : z.length = l.length + 1 := by rw [sg_len, h, List.length_append]; rfl
  have e : HT.sIx z.length z.length (some (-1)) = l.length := by
    show (if (-1 : Int) < 0 then ((-1 : Int) + (z.length : Int)).toNat else min (-1 : Int).toNat z.length) = l.length
    rw [if_pos (by decide), hl]
    omega
  unfold cutS
  rw [HT.sIx_none, e]
  show ((sg z).drop 0).take (l.length - 0) = _
  rw [h, List.drop_zero, Nat.sub_zero, List.take_left]
theorem sg_cut7 (z : Str) : sg (cutS z none (some 7)) = (sg z).take (min 7 z.length) := by
  unfold cutS
  rw [HT.sIx_none, show (some (7 : Int)) = some ((7 : Nat) : Int) from rfl, HT.sIx_nat]
  show ((sg z).drop 0).take (min 7 z.length - 0) = _
  rw [List.drop_zero, Nat.sub_zero]
/-- a row without twins among others is no longer -/
theorem nodup_le {α : Type} [DecidableEq α] : ∀ {xs ys : List α}, xs.Nodup → (∀ x ∈ xs, x ∈ ys) → xs.length ≤ ys.length
  | [], _, _, _ => Nat.zero_le _
  | x :: xs, ys, h, k => by
    rw [List.nodup_cons] at h
    have hx := k x List.mem_cons_self
    have := nodup_le (ys := ys.erase x) h.2 fun y hy => (List.mem_erase_of_ne (fun e => h.1 (by rw [← e]; exact hy))).mpr (k y (List.mem_cons_of_mem _ hy))
    rw [List.length_erase_of_mem hx] at this
    have hp : 0 < ys.length := List.length_pos_of_mem hx
    simp only [List.length_cons]
    omega
/-- l with the letter j, the t-th behind it -/
def turnL (l : List Nat) (j t : Nat) : Str := ofL (l ++ [97 + (j + t) % 26])
theorem turnL_inj {l : List Nat} {j s t : Nat} (hs : s < 26) (ht : t < 26) (h : turnL l j s = turnL l j t) : s = t := by
  have e := congrArg sg h
  unfold turnL at e
  rw [sg_ofL, sg_ofL] at e
  have e := List.append_cancel_left e
  simp at e
  omega
/-- as long as the names met stand in the row, they are no more than the row has -/
theorem turns_le {l : List Nat} {j t : Nat} {found : List Str} (ht : t < 26) (h : ∀ s, s < t → turnL l j s ∈ found) : t ≤ found.length := by
  have n : ((List.range t).map (turnL l j)).Nodup := by
    refine List.pairwise_map.mpr ((List.nodup_range (n := t)).imp_of_mem fun {a b} ha hb ne e => ne (turnL_inj ?_ ?_ e))
    · have := List.mem_range.mp ha
      omega
    · have := List.mem_range.mp hb
      omega
  have := nodup_le n fun x hx => by
    obtain ⟨s, hs, rfl⟩ := List.mem_map.mp hx
    exact h s (List.mem_range.mp hs)
  rw [List.length_map, List.length_range] at this
  exact this
end Tw
/-! TwW: schemas as written: the pieces of text. -/
namespace Tw
open PySem PySem.Spec PyProof.Rows L2
/-- a number, written -/
def iT (n : Int) : Str := Str.ofString (toString n)
theorem iT_len {n : Int} (h : -figs ≤ n ∧ n ≤ figs) : (iT n).length ≤ 61 := by
  unfold iT
  rw [PySem.ofString_length]
  refine int_text_length_le10 (k := 60) (by decide) ?_
  unfold figs at h
  have : (10 : Nat) ^ 60 = 1000000000000000000000000000000000000000000000000000000000000 := by decide
  omega
theorem iT_log {n : Int} (h : -figs ≤ n ∧ n ≤ figs) : n.natAbs.log2 < 1920 := by
  unfold figs at h
  have h2 : n.natAbs < 2 ^ 200 := by
    have : (2 : Nat) ^ 200 = 1606938044258990275541962092341162602522202993782792835301376 := by decide
    omega
  by_cases h0 : n.natAbs = 0
  · rw [h0]
    decide
  · have := (Nat.log2_lt h0).mpr h2
    omega
def boundT : Option Int → Str
  | none => "*"
  | some n => iT n
/-- an inmost sort, written -/
def So.inmT : So → Str
  | num lo hi => (((Str.empty ++ "number ") ++ boundT lo) ++ "..") ++ boundT hi
  | tru => "truth"
  | txt n => ((Str.empty ++ "text") ++ " ") ++ iT n
  | nod k => ((Str.empty ++ "node") ++ " ") ++ k
  | cho c => ((Str.empty ++ "choice") ++ " ") ++ c
  | _ => ""
/-- a sort's words -/
def So.wordsT : So → List Str
  | row n s => ((Str.empty ++ "row ") ++ iT n) :: s.wordsT
  | may s => "maybe" :: s.wordsT
  | s => [s.inmT]
def So.textT (s : So) : Str := Txt.join " " s.wordsT
theorem app_len (a b : Str) : (a ++ b).length = a.length + b.length := by rw [sg_len, sg_len, sg_len, sg_append, List.length_append]
theorem small_figs {n : Int} (h0 : 0 ≤ n) (h1 : n ≤ 99) : -figs ≤ n ∧ n ≤ figs := by
  unfold figs
  omega
end Tw
namespace Tw
open PySem PySem.Spec PyProof.Rows L2
theorem fits {a b : Str} (m n : Nat) (ha : a.length ≤ m) (hb : b.length ≤ n) (h : m + n ≤ 16777216) : (a ++ b).length ≤ sizeLine := by
  rw [app_len, sizeLine_eq]
  omega
theorem app_le {a b : Str} {m n : Nat} (ha : a.length ≤ m) (hb : b.length ≤ n) : (a ++ b).length ≤ m + n := by
  rw [app_len]
  omega
theorem line_le {a : Str} (m : Nat) (ha : a.length ≤ m) (h : m ≤ 16777216) : a.length ≤ sizeLine := by
  rw [sizeLine_eq]
  omega
end Tw
namespace Tw
open PySem PySem.Spec PyProof.Rows L2
theorem word_len : ∀ s : So, s.word.length ≤ 8
  | .num _ _ => show (("number" : Str)).length ≤ 8 by decide +kernel
  | .tru => show (("truth" : Str)).length ≤ 8 by decide +kernel
  | .txt _ => show (("text" : Str)).length ≤ 8 by decide +kernel
  | .row _ _ => show (("row" : Str)).length ≤ 8 by decide +kernel
  | .may _ => show (("maybe" : Str)).length ≤ 8 by decide +kernel
  | .nod _ => show (("node" : Str)).length ≤ 8 by decide +kernel
  | .cho _ => show (("choice" : Str)).length ≤ 8 by decide +kernel
theorem head1 (s : So) : (Str.empty ++ s.word).length ≤ 8 := Nat.le_trans (app_le (m := 0) (show Str.empty.length ≤ 0 by decide) (word_len s)) (by decide)
theorem head2 (s : So) : ((Str.empty ++ s.word) ++ Str.ofString " ").length ≤ 9 := app_le (head1 s) (show (Str.ofString " ").length ≤ 1 by decide +kernel)
end Tw
namespace Tw
open PySem PySem.Spec PyProof.Rows L2
def figO (o : Option Int) : Prop := ∀ n, o = some n → -figs ≤ n ∧ n ≤ figs
/-- bounds of at most sixty figures, however deep -/
def So.figS : So → Prop
  | num lo hi => figO lo ∧ figO hi
  | row _ s => s.figS
  | may s => s.figS
  | _ => True
theorem bound_len {o : Option Int} (h : figO o) : (boundT o).length ≤ 61 := by
  cases o with
  | none => exact (show (boundT none).length ≤ 61 by decide +kernel)
  | some n => exact iT_len (h n rfl)
theorem inm_len {ks cs : List Str} : ∀ {s : So} {i : Bool}, s.ok ks cs i → s.figS → s.inmT.length ≤ 131
  | .num lo hi, _, _, h => app_le (app_le (app_le (show (Str.empty ++ Str.ofString "number ").length ≤ 7 by decide +kernel) (bound_len h.1)) (show (Str.ofString "..").length ≤ 2 by decide +kernel)) (bound_len h.2)
  | .tru, _, _, _ => show (("truth" : Str)).length ≤ 131 by decide +kernel
  | .txt n, _, ok, _ => Nat.le_trans (app_le (head2 (.txt n)) (iT_len (small_figs ok.1 (Int.le_trans ok.2 (by decide))))) (by decide)
  | .nod k, _, ok, _ => Nat.le_trans (app_le (head2 (.nod k)) (show k.length ≤ 8 by rw [sg_len]; exact (isNm_to ok.1).2.1)) (by decide)
  | .cho k, _, ok, _ => Nat.le_trans (app_le (head2 (.cho k)) (show k.length ≤ 8 by rw [sg_len]; exact (isNm_to ok.1).2.1)) (by decide)
  | .row _ _, _, _, _ => show ((⟨#[]⟩ : Str)).length ≤ 131 by decide
  | .may _, _, _, _ => show ((⟨#[]⟩ : Str)).length ≤ 131 by decide
theorem words_len {ks cs : List Str} : ∀ {s : So} {i : Bool}, s.ok ks cs i → s.figS → (s.wordsT.map (·.length)).sum ≤ 131 * (s.depth + 1) ∧ s.wordsT.length = s.depth + 1
  | .row n s, _, ok, h => by
    obtain ⟨g1, g2⟩ := words_len ok.2.2 h
    have l : (((Str.empty ++ Str.ofString "row ") ++ iT n)).length ≤ 65 := app_le (m := 4) (n := 61) (by decide +kernel) (iT_len (small_figs ok.1 (Int.le_trans ok.2.1 (by decide))))
    refine ⟨?_, congrArg (· + 1) g2⟩
    show (((Str.empty ++ Str.ofString "row ") ++ iT n)).length + (s.wordsT.map (·.length)).sum ≤ 131 * (s.depth + 1 + 1)
    omega
  | .may s, _, ok, h => by
    obtain ⟨g1, g2⟩ := words_len ok.2 h
    have l : (Str.ofString "maybe").length ≤ 65 := by decide +kernel
    refine ⟨?_, congrArg (· + 1) g2⟩
    show (Str.ofString "maybe").length + (s.wordsT.map (·.length)).sum ≤ 131 * (s.depth + 1 + 1)
    omega
  | .num lo hi, _, ok, h => ⟨show (So.num lo hi).inmT.length + 0 ≤ 131 from inm_len ok h, rfl⟩
  | .tru, _, ok, h => ⟨show So.tru.inmT.length + 0 ≤ 131 from inm_len ok h, rfl⟩
  | .txt n, _, ok, h => ⟨show (So.txt n).inmT.length + 0 ≤ 131 from inm_len ok h, rfl⟩
  | .nod k, _, ok, h => ⟨show (So.nod k).inmT.length + 0 ≤ 131 from inm_len ok h, rfl⟩
  | .cho k, _, ok, h => ⟨show (So.cho k).inmT.length + 0 ≤ 131 from inm_len ok h, rfl⟩
theorem same_new {H H' : Hp} {D : Addr} {o : HO} (s : Same H H') (h : H D = none) : Same H (upd H' D o) := fun b u e => by
  rw [upd_ne (fun w => by rw [w, h] at e; cases e)]
  exact s b u e
end Tw
namespace Tw
open PySem PySem.Spec PyProof.Rows L2
theorem joinL_len (sep : List Nat) : ∀ l : List (List Nat), (TL.joinL sep l).length ≤ (l.map List.length).sum + l.length * sep.length
  | [] => Nat.zero_le _
  | [x] => by
    show x.length ≤ x.length + 0 + 1 * sep.length
    omega
  | x :: y :: r => by
    have ih := joinL_len sep (y :: r)
    show (x ++ (sep ++ TL.joinL sep (y :: r))).length ≤ x.length + ((y :: r).map List.length).sum + ((y :: r).length + 1) * sep.length
    rw [List.length_append, List.length_append, Nat.add_mul]
    omega
theorem join_len (a : Str) (ys : List Str) : (Txt.join a ys).length ≤ (ys.map (·.length)).sum + ys.length * a.length := by
  have e1 : sg (Txt.join a ys) = TL.joinL (sg a) (ys.map sg) := (congrArg TL.tl (TL.join_eq a ys)).trans (TL.tl_join a ys)
  have h := joinL_len (sg a) (ys.map sg)
  rw [sg_len, e1]
  refine Nat.le_trans h ?_
  rw [List.length_map, List.map_map, sg_len a]
  have e2 : ∀ z : Str, (List.length ∘ sg) z = z.length := fun z => (sg_len z).symm
  rw [List.map_congr_left fun z _ => e2 z]
  exact Nat.le_refl _
theorem text_len {ks cs : List Str} {s : So} {i : Bool} (ok : s.ok ks cs i) (hf : s.figS) (hd : s.depth ≤ 100) : s.textT.length ≤ 20000 := by
  obtain ⟨g1, g2⟩ := words_len ok hf
  have h := join_len (Str.ofString " ") s.wordsT
  rw [g2, show (Str.ofString " ").length = 1 by decide +kernel] at h
  refine Nat.le_trans h ?_
  omega
end Tw
/-! TwU: a sorted row of texts is one row. -/
namespace Tw
open PySem PySem.Spec PyProof.Rows L2
def leS (a b : Str) : Prop := sg a ≤ sg b
theorem leS_of {a b : Str} (h : (!ltCps b.cps.toList a.cps.toList) = true) : leS a b := by
  rw [ltCps_eq] at h
  simp only [Bool.not_eq_true', decide_eq_false_iff_not] at h
  exact h
theorem rising_pw : ∀ {l : List Str} {p : Str}, risingS p l = true → (p :: l).Pairwise leS
  | [], p, _ => List.pairwise_singleton _ _
  | x :: r, p, h => by
    have h : ((!ltCps x.cps.toList p.cps.toList) && risingS x r) = true := h
    rw [Bool.and_eq_true] at h
    have ih := rising_pw h.2
    have hpx := leS_of h.1
    refine List.pairwise_cons.mpr ⟨fun y hy => ?_, ih⟩
    rcases List.mem_cons.mp hy with rfl | hy
    · exact hpx
    · exact List.le_trans hpx ((List.pairwise_cons.mp ih).1 y hy)
theorem sortedS_one {xs ys : List Str} (hx : sortedS xs = true) (hy : sortedS ys = true) (p : xs.Perm ys) : xs = ys := by
  have pw : ∀ {l : List Str}, sortedS l = true → l.Pairwise leS := fun {l} h => by
    cases l with
    | nil => exact .nil
    | cons x r => exact rising_pw h
  exact List.Perm.eq_of_pairwise (le := leS) (fun a b _ _ h1 h2 => sg_inj (List.le_antisymm h1 h2)) (pw hx) (pw hy) p
end Tw
namespace Tw
open PySem PySem.Spec PyProof.Rows L2
/-! between quotes: what is written for each sign -/
def escC (c : Nat) : List Nat := if c = 92 then [92, 92] else if c = 34 then [92, 34] else [c]
theorem repl_one {a : Nat} {z : List Nat} : ∀ l : List Nat, StrLaws.replL [a] z l = (l.map fun c => if c = a then z else [c]).flatten
  | [] => StrLaws.replL_nil
  | c :: r => by
    have ih := repl_one (a := a) (z := z) r
    rw [List.map_cons, List.flatten_cons]
    by_cases h : c = a
    · rw [if_pos h, StrLaws.replL_hit (List.cons_ne_nil _ _) (by rw [h]; rfl)]
      show z ++ StrLaws.replL [a] z r = _
      rw [ih]
    · rw [if_neg h, StrLaws.replL_miss (fun e => h (by
        have e : [c] = [a] := e
        exact (List.cons.inj e).1)), ih]
      rfl
theorem sg_esc (z : Str) : sg (Txt.replace (Txt.replace z (Str.ofString "\\") (Str.ofString "\\\\")) (Str.ofString "\"") (Str.ofString "\\\"")) = ((sg z).map escC).flatten := by
  have e1 : (Str.ofString "\\").cps.toList = [92] := by decide +kernel
  have e2 : (Str.ofString "\\\\").cps.toList = [92, 92] := by decide +kernel
  have e3 : (Str.ofString "\"").cps.toList = [34] := by decide +kernel
  have e4 : (Str.ofString "\\\"").cps.toList = [92, 34] := by decide +kernel
  show (Txt.replace _ _ _).cps.toList = _
  rw [StrLaws.replace_list (by decide +kernel), StrLaws.replace_list (by decide +kernel), e1, e2, e3, e4, repl_one, repl_one]
  show _ = ((z.cps.toList).map escC).flatten
  generalize z.cps.toList = l
  have : ∀ l : List Nat, (((l.map fun c => if c = 92 then [92, 92] else [c]).flatten).map fun c => if c = 34 then [92, 34] else [c]).flatten = (l.map escC).flatten := by
    intro l
    induction l with
    | nil => rfl
    | cons c r ih =>
      rw [List.map_cons, List.flatten_cons, List.map_append, List.flatten_append, ih, List.map_cons, List.flatten_cons]
      congr 1
      unfold escC
      by_cases h : c = 92
      · rw [if_pos h, if_pos h]
        rfl
      · rw [if_neg h, if_neg h]
        by_cases h2 : c = 34
        · rw [h2]
          rfl
        · rw [if_neg h2]
          simp [h2]
  exact this _
end Tw
/-! TwV: things without nodes and cases, turned: what is due, and the jobs that do it. -/
namespace Tw
open PySem PySem.Spec PyProof.Rows L2
inductive Rs
  | told (d : PyData)
  | ref (rp : List PyData) (why : Str)
def So.strip : So → So
  | may s => s
  | s => s
def So.isMay : So → Bool
  | may _ => true
  | _ => false
def isNone : PyData → Bool
  | .none => true
  | _ => false
def insideD : PyData := .tuple [.str "inside"]
def rowDue (f : List PyData → PyData → Rs) (rp : List PyData) : Nat → List PyData → Sum (List PyData) (List PyData × Str)
  | _, [] => .inl []
  | k, d :: r => match f (.int (k : Int) :: rp) d with
    | .ref p w => .inr (p, w)
    | .told v => match rowDue f rp (k + 1) r with
      | .inr e => .inr e
      | .inl vs => .inl (v :: vs)
def withinB (n : Int) (lo hi : Option Int) : Bool := (lo.all fun a => decide (a ≤ n)) && (hi.all fun b => decide (n ≤ b))
def rowEnd : Sum (List PyData) (List PyData × Str) → Rs
  | .inl vs => .told (.tuple vs)
  | .inr e => .ref e.1 e.2
def due : So → So → List PyData → PyData → Rs
  | .may a, n, rp, d => if isNone d = true then (if n.isMay = true then .told .none else .ref rp "nothing") else due a n.strip (insideD :: rp) d
  | .num _ _, n, rp, d => match n.strip, d with
    | .num lo hi, .int x => if withinB x lo hi = true then .told d else .ref rp "bounds"
    | _, _ => .ref rp "sort"
  | .tru, n, rp, d => match n.strip with
    | .tru => .told d
    | _ => .ref rp "sort"
  | .txt _, n, rp, d => match n.strip, d with
    | .txt m, .str z => if (z.length : Int) > m then .ref rp "most" else .told d
    | _, _ => .ref rp "sort"
  | .row _ a, n, rp, d => match n.strip, d with
    | .row m b, .tuple ds => if (ds.length : Int) > m then .ref rp "most" else rowEnd (rowDue (fun p e => due a b p e) rp 0 ds)
    | _, _ => .ref rp "sort"
  | _, _, rp, _ => .ref rp "sort"
def ThOk : So → PyData → Prop
  | .num _ _, .int _ => True
  | .tru, .bool _ => True
  | .txt _, .str z => z.length ≤ 40
  | .row _ s, .tuple ds => ds.length ≤ 6 ∧ ∀ d ∈ ds, ThOk s d
  | .may s, d => d = .none ∨ ThOk s d
  | _, _ => False
def So.pl (s : So) : Prop := s.ok [] [] false
theorem ok_weak {ks cs : List Str} : ∀ {s : So} {i : Bool}, s.ok ks cs i → s.ok ks cs false
  | .num _ _, _, h => h
  | .tru, _, h => h
  | .txt _, _, h => h
  | .row _ _, _, h => h
  | .may _, false, h => h
  | .nod _, _, h => h
  | .cho _, _, h => h
theorem So.pl.may {s : So} (h : (So.may s).pl) : s.pl ∧ s.isMay = false := by
  have h : false = false ∧ s.ok [] [] true := h
  refine ⟨ok_weak h.2, ?_⟩
  cases s with
  | may t => exact nomatch (show true = false ∧ _ from h.2).1
  | _ => rfl
theorem So.pl.row {n : Int} {s : So} (h : (So.row n s).pl) : s.pl ∧ 0 ≤ n ∧ n ≤ 20 := by
  have h : 0 ≤ n ∧ n ≤ 20 ∧ s.ok [] [] false := h
  exact ⟨h.2.2, h.1, h.2.1⟩
theorem So.pl.nod {k : Str} (h : (So.nod k).pl) : False := by
  have h : isNm k = true ∧ k ∈ ([] : List Str) := h
  exact nomatch h.2
theorem So.pl.cho {k : Str} (h : (So.cho k).pl) : False := by
  have h : isNm k = true ∧ k ∈ ([] : List Str) := h
  exact nomatch h.2
theorem So.pl.strip {s : So} (h : s.pl) : s.strip.pl ∧ s.strip.isMay = false := by
  cases s with
  | may t => exact h.may
  | num a b => exact ⟨h, rfl⟩
  | tru => exact ⟨h, rfl⟩
  | txt n => exact ⟨h, rfl⟩
  | row n t => exact ⟨h, rfl⟩
  | nod k => exact h.nod.elim
  | cho k => exact h.cho.elim
theorem strip_of {s : So} (h : s.isMay = false) : s.strip = s := by
  cases s with
  | may t => exact nomatch h
  | _ => rfl
theorem due_strip {o n : So} (h : o.isMay = false) (hs : n.strip.isMay = false) (rp : List PyData) (d : PyData) : due o n.strip rp d = due o n rp d := by
  have e := strip_of hs
  cases o with
  | may a => exact nomatch h
  | num a b => unfold due; rw [e]
  | tru => unfold due; rw [e]
  | txt k => unfold due; rw [e]
  | row k a => unfold due; rw [e]
  | nod k => rfl
  | cho k => rfl
/-! jobs -/
inductive Jb
  | turn (o n : So) (d : PyData) (rp : List PyData)
  | row (k : Nat)
def wayR : List PyData → PyData
  | [] => .none
  | s :: r => .tuple [wayR r, s]
def Jb.pd : Jb → PyData
  | .turn o n d rp => .tuple [.str "turn", .tuple [o.pd, n.pd], d, wayR rp]
  | .row k => .tuple [.str "row", .int (k : Int)]
def endOf : List PyData → Rs
  | m => .told (m.getLastD .none)
def ev : List Jb → List PyData → Rs
  | [], m => endOf m
  | .turn o n d rp :: J, m => match due o n rp d with
    | .told v => ev J (m ++ [v])
    | .ref p w => .ref p w
  | .row k :: J, m => ev J (m.take (m.length - k) ++ [.tuple (m.drop (m.length - k))])
def turns (a b : So) (rp : List PyData) : Nat → List PyData → List Jb
  | _, [] => []
  | k, d :: r => .turn a b d (.int (k : Int) :: rp) :: turns a b rp (k + 1) r
theorem ev_turns {a b : So} {rp : List PyData} {J : List Jb} : ∀ (ds : List PyData) (k : Nat) (m : List PyData), ev (turns a b rp k ds ++ J) m = match rowDue (fun p e => due a b p e) rp k ds with
    | .inl vs => ev J (m ++ vs)
    | .inr e => .ref e.1 e.2
  | [], k, m => by
    show ev J m = ev J (m ++ [])
    rw [List.append_nil]
  | d :: r, k, m => by
    show (match due a b (.int (k : Int) :: rp) d with | .told v => ev (turns a b rp (k + 1) r ++ J) (m ++ [v]) | .ref p w => .ref p w) = _
    unfold rowDue
    cases hd : due a b (.int (k : Int) :: rp) d with
    | ref p w => rfl
    | told v =>
      show ev (turns a b rp (k + 1) r ++ J) (m ++ [v]) = _
      rw [ev_turns r (k + 1)]
      cases rowDue (fun p e => due a b p e) rp (k + 1) r with
      | inr e => rfl
      | inl vs =>
        show ev J (m ++ [v] ++ vs) = ev J (m ++ v :: vs)
        rw [List.append_assoc]
        rfl
theorem rowDue_len {f : List PyData → PyData → Rs} {rp : List PyData} : ∀ {ds : List PyData} {k : Nat} {vs : List PyData}, rowDue f rp k ds = .inl vs → vs.length = ds.length
  | [], k, vs, h => by
    cases h
    rfl
  | d :: r, k, vs, h => by
    unfold rowDue at h
    cases hd : f (.int (k : Int) :: rp) d with
    | ref p w => rw [hd] at h; cases h
    | told v =>
      rw [hd] at h
      cases hr : rowDue f rp (k + 1) r with
      | inr e => rw [hr] at h; cases h
      | inl us =>
        rw [hr] at h
        cases h
        exact congrArg (· + 1) (rowDue_len hr)
theorem ev_row {a b : So} {rp : List PyData} {J : List Jb} {m ds : List PyData} : ev (turns a b rp 0 ds ++ .row ds.length :: J) m = match rowEnd (rowDue (fun p e => due a b p e) rp 0 ds) with
    | .told v => ev J (m ++ [v])
    | .ref p w => .ref p w := by
  rw [ev_turns]
  cases h : rowDue (fun p e => due a b p e) rp 0 ds with
  | inr e => rfl
  | inl vs =>
    have hl := rowDue_len h
    show ev J ((m ++ vs).take ((m ++ vs).length - ds.length) ++ [.tuple ((m ++ vs).drop ((m ++ vs).length - ds.length))]) = ev J (m ++ [.tuple vs])
    rw [List.length_append, hl, Nat.add_sub_cancel, List.take_left, List.drop_left]
def So.W : So → Nat
  | row _ a => 6 * (a.W + 1) + 3
  | may a => a.W + 2
  | _ => 2
def Jb.w : Jb → Nat
  | .turn o n _ _ => o.W + (if n.isMay = true then 1 else 0)
  | .row _ => 1
def wts (J : List Jb) : Nat := (J.map Jb.w).sum
theorem wts_app (J L : List Jb) : wts (J ++ L) = wts J + wts L := by
  unfold wts
  rw [List.map_append, List.sum_append]
theorem wts_turns {a b : So} {rp : List PyData} : ∀ {ds : List PyData} {k : Nat}, wts (turns a b rp k ds) ≤ ds.length * (a.W + 1)
  | [], _ => Nat.zero_le _
  | d :: r, k => by
    have ih := wts_turns (a := a) (b := b) (rp := rp) (ds := r) (k := k + 1)
    show (a.W + (if b.isMay = true then 1 else 0)) + wts (turns a b rp (k + 1) r) ≤ (r.length + 1) * (a.W + 1)
    rw [Nat.add_mul]
    split <;> omega
theorem W_pos : ∀ s : So, 2 ≤ s.W
  | .row _ a => by show 2 ≤ 6 * (a.W + 1) + 3; omega
  | .may a => by show 2 ≤ a.W + 2; omega
  | .num _ _ => Nat.le_refl _
  | .tru => Nat.le_refl _
  | .txt _ => Nat.le_refl _
  | .nod _ => Nat.le_refl _
  | .cho _ => Nat.le_refl _
theorem len_wts : ∀ J : List Jb, J.length ≤ wts J
  | [] => Nat.le_refl _
  | j :: J => by
    have ih := len_wts J
    have h1 : 1 ≤ j.w := by
      cases j with
      | row k => exact Nat.le_refl _
      | turn o n d rp =>
        have := W_pos o
        show 1 ≤ o.W + _
        omega
    show J.length + 1 ≤ j.w + wts J
    omega
theorem W_le : ∀ (s : So) (n : Nat), s.depth ≤ n → s.W ≤ 7 ^ n * 12 - 9
  | .row k a, n, h => by
    have h : a.depth + 1 ≤ n := h
    obtain ⟨m, rfl⟩ : ∃ m, n = m + 1 := ⟨n - 1, by omega⟩
    have ih := W_le a m (by omega)
    have hp : 1 ≤ 7 ^ m := Nat.one_le_pow _ _ (by decide)
    show 6 * (a.W + 1) + 3 ≤ 7 ^ (m + 1) * 12 - 9
    rw [Nat.pow_succ]
    omega
  | .may a, n, h => by
    have h : a.depth + 1 ≤ n := h
    obtain ⟨m, rfl⟩ : ∃ m, n = m + 1 := ⟨n - 1, by omega⟩
    have ih := W_le a m (by omega)
    have hp : 1 ≤ 7 ^ m := Nat.one_le_pow _ _ (by decide)
    show a.W + 2 ≤ 7 ^ (m + 1) * 12 - 9
    rw [Nat.pow_succ]
    omega
  | .num _ _, n, _ => by have hp : 1 ≤ 7 ^ n := Nat.one_le_pow _ _ (by decide); show 2 ≤ _; omega
  | .tru, n, _ => by have hp : 1 ≤ 7 ^ n := Nat.one_le_pow _ _ (by decide); show 2 ≤ _; omega
  | .txt _, n, _ => by have hp : 1 ≤ 7 ^ n := Nat.one_le_pow _ _ (by decide); show 2 ≤ _; omega
  | .nod _, n, _ => by have hp : 1 ≤ 7 ^ n := Nat.one_le_pow _ _ (by decide); show 2 ≤ _; omega
  | .cho _, n, _ => by have hp : 1 ≤ 7 ^ n := Nat.one_le_pow _ _ (by decide); show 2 ≤ _; omega
end Tw
set_option maxHeartbeats 1000000
/-! TwB: rules that lacked: B.m(o, ..) of a class's own def, del xs[a:]. -/
namespace Tw
open PySem PySem.Spec PyProof.Rows L2 Sb
section
variable {X : Cx} {CX : CXT} {k j : Nat} {f C : Addr} {mc : Value} {sp : Sp} {E : XK} {m : Str} {p pos apos : Pos} {e o : Expr} {es : List Expr} {to : TE} {t : TA}
def tBase (C : Addr) (sp : Sp) (E : XK) (to : TE) (t : TA) : TE := fun σ H Q => to σ H fun x H1 => x = .ref C ∧ t σ H1 fun vs H2 => sp vs H2 Q E
theorem pe_base {pl : Sem Bool} (ho : PE X o to) (r : ClX.CRead X.K C mc) (c : ClX.CVal X.K C mc m (.ref f) (.ref f)) (kp : PySem.W.keepIn X.K (.ref f) = true) (F : FnR X.prog X.w X.K X.mg X.base CX k f sp) (hr : Room k X.A) (hx : Passes CX X E) (ha : PA X (e :: es) t)
    (hst : starEach (e :: es) X.env = (false, eval e X.env) :: starEach es X.env := by rfl) (hpl : (backTo pos (starEach es X.env)).any (·.1) = false := by rfl)
    (ht : eval (.Call (.Attribute o m apos) (e :: es) [] pos) X.env = (do
      let ov ← eval o X.env
      standAt apos.atName
      let (f, first) ← holding [ov] (getMethod ov m pl)
      callWith pos f first (backTo pos (starEach (e :: es) X.env)) (backToKw pos (keywordEach [] X.env))) := by rfl) :
    PE X (.Call (.Attribute o m apos) (e :: es) [] pos) (tBase C sp E to t) := by
  refine ⟨fun pins s σ H Q I h => ?_⟩
  refine PySem.W.methodCall_KW (pl := pl) (thn (ho.run pins s σ H _ I h) fun u s1 ⟨x, H1, I1, rx, ex, q⟩ => ?_) ht
  subst ex
  obtain rfl : u = Value.ref C := rx
  refine PySem.W.method_cls I1.kIn r.ga (ClX.getcval_ok I1 r c fun s2 I2 => ?_)
  exact PySem.W.callWith_K (first := []) (h₀ := X.base) I.ok.mod.kin kp (thn (ha.run pos pins s2 σ H1 _ I2 q) fun us s3 ⟨vs, H2, I3, r3, q3⟩ => ⟨I3.kIn, wpAny_call (run_fnR F hr hx I3 r3 q3)⟩) hst hpl
end
section
variable {prog : Program} {w : World} {A : Around} {E : Value → Shared → Prop} {s : Shared}
theorem bounds_end {a n : Nat} (h : a ≤ n) : sliceBounds (some (a : Int)) none none n = ((a : Int), (n : Int), 1) := by
  simp only [sliceBounds, Option.getD_none]
  have h1 : ¬ ((a : Int) < 0) := by omega
  simp only [h1, if_false, show (1 : Int) > 0 by decide, if_true]
  rw [show min (a : Int) (n : Int) = (a : Int) from Int.min_eq_left (by omega), show max (0 : Int) (a : Int) = (a : Int) from Int.max_eq_right (by omega)]
theorem zipIdx_keep {α : Type} (g : Nat → Bool) (a : Nat) : ∀ (l : List α) (i : Nat), (∀ k, g k = decide (a ≤ k ∧ k < i + l.length)) → (l.zipIdx i).filterMap (fun x => if g x.2 = true then none else some x.1) = l.take (a - i)
  | [], i, _ => by simp
  | x :: r, i, h => by
    have ih := zipIdx_keep g a r (i + 1) (fun k => by rw [h k, List.length_cons, show i + (r.length + 1) = i + 1 + r.length by omega])
    rw [List.zipIdx_cons, List.filterMap_cons]
    show (match (if g i = true then none else some x) with | none => _ | some b => b :: _) = _
    by_cases c : a ≤ i
    · rw [h i, decide_eq_true ⟨c, by rw [List.length_cons]; omega⟩, if_pos rfl, ih, show a - i = 0 by omega, show a - (i + 1) = 0 by omega]
      rfl
    · rw [h i, decide_eq_false (fun w => c w.1), if_neg (by decide), ih, show a - i = (a - (i + 1)) + 1 by omega]
      rfl
def selB (start stop step : Int) (i : Nat) : Bool :=
  if step > 0 then start ≤ i && i < stop && (i - start) % step == 0
  else stop < i && i ≤ start && (start - i) % (-step) == 0
theorem selB_eq (a n k : Nat) : selB a n 1 k = decide (a ≤ k ∧ k < 0 + n) := by
  unfold selB
  rw [if_pos (by decide)]
  have h : ((k : Int) - (a : Int)) % 1 = 0 := Int.emod_one _
  rw [h]
  simp
theorem delItem_cut {l sl : Addr} {items : Array Value} {n : Nat} {vl vu : Value} {a : Nat} {Q : Unit → Shared → Prop}
    (e : s.heap.get? l = some { cls := .type "list", data := .seq items n }) (hs : s.heap.IsSliceOf sl vl vu .none) (pl : IsPart vl (some (a : Int))) (pu : IsPart vu none) (ha : a ≤ items.size)
    (hsz : items.size ≤ sizeLine) (h : Q () { s with heap := s.heap.update l (Obj.mapSeq fun xs => (xs.toList.zipIdx.filterMap fun x => if selB (a : Int) (items.size : Int) 1 x.2 = true then none else some x.1).toArray) }) :
    wpAny (model prog w) A (delItem (.ref l) (.ref sl)) Q E s := by
  have hl : s.heap.IsList l items := PySem.IsL.isList e
  obtain ⟨os, hos, hcs, hds⟩ := id hs
  have hTs : s.TypeIs (.ref sl) "slice" := ⟨os, hos, hcs⟩
  have hstep : ¬ ((rawPart none == rawInt 0) = true) := Bool.false_ne_true
  have hz' : ((fun xs : Array Value => (xs.toList.zipIdx.filterMap fun x => if selB (a : Int) (items.size : Int) 1 x.2 = true then none else some x.1).toArray) items).size ≤ sizeLine + 1 := by
    dsimp only
    rw [List.size_toArray, zipIdx_keep (selB (a : Int) (items.size : Int) 1) a items.toList 0 (fun k => by rw [selB_eq, Array.length_toList]), List.length_take, Array.length_toList]
    omega
  refine wpAny_delItem_slot hl.typeIs (by decide) F.slot_list_delitem (wpAny_call_entry F.slot_list_delitem hl.typeIs F.entry_list_delitem ?_ (F.args_list_delitem_2 _ _))
  show wpAny _ _ (Builtin.List.listSubscript? (.ref sl) >>= _) _ _ s
  refine wpAny_bind ?_
  unfold Builtin.List.listSubscript?
  refine wpAny_bind (wpAny_specialOf hTs slice_no_index ?_)
  simp only [Option.isNone_none, if_true]
  refine wpAny_pure ?_
  show wpAny _ _ (typeOf (.ref sl) >>= _) _ _ s
  refine wpAny_bind (wpAny_typeOf hTs ?_)
  first
    | rw [if_neg (by decide)]
    | refine PySem.W.KFB.if_not (by decide) ?_
  rw [listSliceParts_eq]
  refine wpAny_bind (wpAny_bind (wpAny_field hos hds (x := .none) rfl (wpAny_bind (wpAny_listPart .none ?_))))
  rw [if_neg hstep]
  refine wpAny_bind (wpAny_field hos hds (x := vl) rfl (wpAny_bind (wpAny_listPart pl ?_)))
  refine wpAny_bind (wpAny_field hos hds (x := vu) rfl (wpAny_bind (wpAny_listPart pu (wpAny_pure ?_))))
  refine wpAny_bind (m := Builtin.List.listItems (.ref l)) ?_
  unfold Builtin.List.listItems
  refine wpAny_bind (wpAny_seqItems e rfl (wpAny_pure ?_))
  refine wpAny_bind (wpAny_of_eq ((sliceIndices_raw (some (a : Int)) none none items.size (by simp)).trans (congrArg (pure : Int × Int × Int → Sem (Int × Int × Int)) (bounds_end ha))) ?_)
  refine wpAny_bind (wpAny_rule ?_)
  dsimp only
  unfold Builtin.List.listUpdate
  refine wpAny_bind (wpAny_updateSeq (hz := hsz) (_hz' := ?hh) e rfl ?_)
  case hh => exact hz'
  refine wpAny_bind (wpAny_letGo ?_)
  exact wpAny_pure ⟨.none, rfl, h⟩
end
section
variable {X : Cx} {o : Expr} {lo' : Option Expr} {to : TE} {tl : TO} {pos p2 tpos : Pos}
/-- del xs[a:] of a list -/
def tDelC (to : TE) (tl : TO) : TS := fun D σ H => to σ H fun x H1 => tl σ H1 fun y H2 => ∃ (l : Addr) (xs : List V) (a : Nat), x = .ref l ∧ y = some (a : Int) ∧ H2 l = some (.lst xs) ∧ a ≤ xs.length ∧ D.nx σ (upd H2 l (.lst (xs.take a)))
theorem del_cut {pins : List (Addr × Obj)} {s : Shared} {σ : L2.St} {H : Hp} {l sl : Addr} {xs : List V} {a : Nat} {vl vu : Value} {Q : Unit → Shared → Prop} (I : Inv X pins σ H s) (hH : H l = some (.lst xs))
    (hs : s.heap.IsSliceOf sl vl vu .none) (pl : IsPart vl (some (a : Int))) (pu : IsPart vu none) (ha : a ≤ xs.length) (h : ∀ s', Inv X pins σ (upd H l (.lst (xs.take a))) s' → Q () s') :
    wpAny (model X.prog X.w) X.A (delItem (.ref l) (.ref sl)) Q X.xe s := by
  obtain ⟨z, its, n, r, hl, e⟩ := I.lstM hH
  refine delItem_cut (a := a) e hs pl pu (by rw [List.size_toArray, ← hl]; exact ha) (by rw [List.size_toArray, ← hl]; exact z) (h _ ?_)
  refine I.lset (its' := its.take a) (t' := s.toks) hH e ?_ (r.take a) ?_
  · show ((its.toArray.toList.zipIdx.filterMap fun x => if selB (a : Int) (its.toArray.size : Int) 1 x.2 = true then none else some x.1).toArray) = (its.take a).toArray
    rw [zipIdx_keep (selB (a : Int) (its.toArray.size : Int) 1) a its.toArray.toList 0 (fun k => by rw [selB_eq, Array.length_toList])]
    rfl
  · rw [List.length_take]
    omega
theorem ps_delC (ho : PE X o to) (hl : PO X lo' tl) : PS X (.Delete [.Subscript o (.Slice lo' none none p2) tpos] pos) (tDelC to tl) := by
  refine ⟨fun pins s σ H D I h => ?_⟩
  refine wpAny_Delete (wpAny_deleteEach_cons (wpAny_delete_Subscript (thn (ho.run pins s σ H _ I h) fun v s1 ⟨x, H1, I1, rx, q1⟩ => ?_)))
  refine wpAny_Slice (thn (hl.run pins s1 σ H1 _ I1 q1) fun vl s2 ⟨y, H2, I2, pl, l, xs, a, ex, ey, hH, ha, q⟩ => ?_)
  rw [evalPart_none]
  refine wpAny_pure ?_
  refine wpAny_pure ?_
  subst ex
  subst ey
  cases (show v = Value.ref l from rx)
  have I4 : Inv X pins σ H2 { s2 with heap := s2.heap.push { cls := .type "slice", data := .fields #[vl, .none, .none] } } := I2.kept (t' := s2.toks) fun b ob q => Heap.get?_push_of_some _ q
  exact del_cut I4 hH (Heap.IsSliceOf.new ..) pl .none ha fun s5 I5 => wpAny_deleteEach_nil ⟨σ, _, I5, q⟩
end
end Tw
set_option maxHeartbeats 4000000
/-! TwEq: == of what is nested of lists, tuples and dicts, and equal. -/
namespace Tw
open PySem PySem.Spec PyProof.Rows L2
open PySem.AutoSeq1 (wpAny_loadPart')
open MeetsSeq MeetsSeq2 MeetsSeq3 SeqRoads2
section
variable {prog : Program} {w : World}
/-- tuples whose items are equal, pair by pair -/
theorem tup_true (l b : Addr) (us ws : List Value) (n m : Nat) (d1 d2 : Option Addr) (s1 s2 : Array (Option Value)) (hlen : us.length = ws.length) :
    MeetsIn prog w (Builtin.«tuple.__eq__» ⟨[.ref l, .ref b], []⟩)
      (fun A R s => s.heap.get? l = some { cls := .type "tuple", dict := d1, data := .seq us.toArray n, slots := s1 } ∧ s.heap.get? b = some { cls := .type "tuple", dict := d2, data := .seq ws.toArray m, slots := s2 } ∧
        (∀ p ∈ us.zip ws, SeqAt.EqP prog w A.in1 s p.1 p.2 true) ∧ R (.ok (.ret (.bool true))) s) := by
  intro A R s h
  obtain ⟨hp, g, d, tk, os⟩ := s
  obtain ⟨hl, hb, he, h⟩ := h
  have sub := AutoSeq1.sub_tuple_tuple
  wp_walk using wpAny_loadPart' hl, wpAny_loadPart' hb, wpAny_forIn_list _ (fun rest b s' => b.1 = none ∧ s' = (⟨hp, g, d, tk, os⟩ : Shared) ∧ ∀ p ∈ rest, p ∈ us.zip ws) _
  case turn =>
    rintro p rest q s' ⟨hq, rfl, hr⟩
    refine wpAny_bind (he p (hr p List.mem_cons_self) _ _ ?_)
    wp_walk
    exact ⟨rfl, rfl, fun p' hp' => hr p' (List.mem_cons_of_mem _ hp')⟩
  case fin =>
    rintro ⟨q1, q2⟩ s' ⟨hq, rfl, hr⟩
    simp only at hq
    subst hq
    wp_walk
    have e : Builtin.Tuple.tupleCompareSizes .Eq us.toArray.size ws.toArray.size = .bool true := by
      simp [Builtin.Tuple.tupleCompareSizes, hlen]
    rw [e]
    exact h
  case h => exact ⟨rfl, rfl, fun p hp => hp⟩
theorem rcP_tups {A : Around} {s : Shared} {l b : Addr} {us ws : List Value} (hl : s.heap.IsTuple l us.toArray) (hb : s.heap.IsTuple b ws.toArray) (hlen : us.length = ws.length) (hu : A.units < cLine) (he : ∀ p ∈ us.zip ws, SeqAt.EqP prog w A.in1 s p.1 p.2 true)
    (E Q : Value → Shared → Prop) (q : Q (.bool true) s) : wpAny (model prog w) A (richCompare .Eq (.ref l) (.ref b)) Q E s := by
  obtain ⟨⟨c1, d1, dat1, s1⟩, g1, rfl, n, rfl⟩ := hl
  obtain ⟨⟨c2, d2, dat2, s2⟩, g2, rfl, m, rfl⟩ := hb
  have t1 : s.TypeIs (.ref l) "tuple" := ⟨_, g1, rfl⟩
  refine wpAny_richCompare_same_room (op := .Eq) t1 ⟨_, g2, rfl⟩ F.slot_tuple_eq (call_meetsIn F.slot_tuple_eq t1 F.entry_tuple_eq (F.args_tuple_eq_2 _ _) (tup_true l b us ws n m d1 d2 s1 s2 hlen) ⟨g1, g2, he, ?_⟩) hu
  exact ⟨(fun z => nomatch z), q⟩
end
/-- .. or two tuples of equal items -/
def EqW (K : PySem.W.Frag) (H : Hp) (E : V → V → Prop) (x y : V) : Prop := EqR K H E x y ∨ ∃ a b xs ys, x = .ref a ∧ y = .ref b ∧ SqT K H a xs ∧ SqT K H b ys ∧ Paired E xs ys
def EqT (K : PySem.W.Frag) (H : Hp) : Nat → V → V → Prop
  | 0 => fun _ _ => False
  | n + 1 => fun x y => (x = y ∧ flatB x = true) ∨ (∃ a, x = .ref a ∧ y = .ref a) ∨ EqW K H (EqT K H n) x y
section
variable {X : Cx} {pins : List (Addr × Obj)} {σ : L2.St} {H : Hp} {s : Shared}
/-- one step: what stands one deeper is told apart already -/
theorem eqW_run (I : Inv X pins σ H s) {A : Around} {F : V → V → Prop} (room : A.units < cLine) (inner : ∀ x y v u, F x y → RelV x v → RelV y u → SeqAt.EqP X.prog X.w A.in1 s v u true) {x y : V} {v u : Value} (eq : EqW X.K H F x y) (hx : RelV x v) (hy : RelV y u) (E Q : Value → Shared → Prop) (done : Q (.bool true) s) :
    wpAny (model X.prog X.w) A (richCompare .Eq v u) Q E s := by
  cases eq with
  | inl eq => exact eqR_run I room inner eq hx hy E Q done
  | inr eq =>
    obtain ⟨c, d, xs, ys, rfl, rfl, hc, hd, pairs⟩ := eq
    obtain rfl : v = .ref c := hx
    obtain rfl : u = .ref d := hy
    obtain ⟨us, ru, tu, _⟩ := I.tuple hc
    obtain ⟨ws, rw_, tw, _⟩ := I.tuple hd
    have len : us.length = ws.length := ru.length.symm.trans (pairs.length.trans rw_.length)
    refine rcP_tups tu tw len room (fun z hz => ?_) E Q done
    obtain ⟨i, hi⟩ := List.mem_iff_getElem?.mp hz
    have both := List.getElem?_zip_eq_some.mp hi
    obtain ⟨iu, eu⟩ := List.getElem?_eq_some_iff.mp both.1
    obtain ⟨iw, ew⟩ := List.getElem?_eq_some_iff.mp both.2
    rw [← eu, ← ew]
    exact items_run inner pairs ru rw_ i iu iw
/-- all the way down -/
theorem eqT_run (I : Inv X pins σ H s) (n : Nat) : ∀ (A : Around), A.units + n < cLine → ∀ (x y : V) (v u : Value), EqT X.K H n x y → RelV x v → RelV y u → SeqAt.EqP X.prog X.w A s v u true := by
  induction n with
  | zero => exact fun _ _ _ _ _ _ no => False.elim no
  | succ m ih =>
    intro A room x y v u eq hx hy
    rcases eq with ⟨same, flat⟩ | same | deep
    · subst same
      exact SeqAt.EqAt.eqP (eqAt_same hx hy flat)
    · obtain ⟨c, rfl, rfl⟩ := same
      rw [show v = .ref c from hx, show u = .ref c from hy]
      exact SeqAt.EqAt.eqP (SeqAt.EqAt.same _)
    · have run := eqW_run I (A := A) (by omega) (ih A.in1 (by show A.units + 1 + m < cLine; omega)) deep hx hy
      obtain ⟨c, d, ec, ed⟩ : ∃ c d, x = .ref c ∧ y = .ref d := by
        rcases deep with (⟨c, d, _, _, p, q, _⟩ | ⟨c, d, _, _, p, q, _⟩) | ⟨c, d, _, _, p, q, _⟩ <;> exact ⟨c, d, p, q⟩
      rw [ec] at hx
      rw [ed] at hy
      rw [show v = .ref c from hx, show u = .ref d from hy] at run ⊢
      by_cases one : c = d
      · rw [one]
        exact SeqAt.EqAt.eqP (SeqAt.EqAt.same _)
      · exact SeqAt.eqP_refs one run
end
/-- a == b, equal all through -/
def rEqT (K : PySem.W.Frag) : R2 := fun x y H Q => ∃ n, n ≤ 60 ∧ EqW K H (EqT K H n) x y ∧ Q (.bl true) H
theorem op_eqT {X : Cx} (hu : X.A.units + 64 < cLine) : OpR X (compareOp .Eq) (rEqT X.K) := by
  intro pins s σ H x y v u Q I rx ry ⟨n, hn, h, q⟩
  exact eqW_run I (A := X.A) (by omega) (eqT_run I n X.A.in1 (by show X.A.units + 1 + n < cLine; omega)) h rx ry _ _ ⟨.bl true, H, I, rfl, q⟩
/-! what is of the same data is equal -/
mutual
theorem td_eq {K : PySem.W.Frag} {H : Hp} : ∀ {x y : V} {d : PyData} {n : Nat}, Td K H x d → Td K H y d → PyData.depth d < n → EqT K H n x y
  | _, _, _, 0, _, _, h => absurd h (Nat.not_lt_zero _)
  | _, _, _, _ + 1, .non, t, _ => by cases t; exact .inl ⟨rfl, rfl⟩
  | _, _, _, _ + 1, .bl _, t, _ => by cases t; exact .inl ⟨rfl, rfl⟩
  | _, _, _, _ + 1, .int _, t, _ => by cases t; exact .inl ⟨rfl, rfl⟩
  | _, _, _, _ + 1, .str _, t, _ => by cases t; exact .inl ⟨rfl, rfl⟩
  | _, _, _, n + 1, .tup (ds := ds) q r, t, h => by
    obtain ⟨b, ys, rfl, q2, r2⟩ := Td.row t
    exact .inr (.inr (.inr ⟨_, b, _, ys, rfl, rfl, q, q2, tds_eq r r2 (show PyData.depthAll ds < n from Nat.lt_of_succ_lt_succ h)⟩))
theorem tds_eq {K : PySem.W.Frag} {H : Hp} : ∀ {xs ys : List V} {ds : List PyData} {n : Nat}, Tds K H xs ds → Tds K H ys ds → PyData.depthAll ds < n → Paired (EqT K H n) xs ys
  | _, _, _, _, .nil, t, _ => by cases t; exact .nil
  | _, _, _, _, .cons (d := d) (ds := ds) h r, t, k => by
    cases t with
    | cons h2 r2 =>
      have k : max (PyData.depth d) (PyData.depthAll ds) < _ := k
      exact .cons (td_eq h h2 (Nat.lt_of_le_of_lt (Nat.le_max_left _ _) k)) (tds_eq r r2 (Nat.lt_of_le_of_lt (Nat.le_max_right _ _) k))
end
end Tw
/-! TwA: pairs of sorts, words of pairs; rows of told data taken apart. -/
namespace Tw
open PySem PySem.Spec PyProof.Rows L2
section
variable {K : PySem.W.Frag} {H : Hp} {xs : List V} {d1 d2 d3 d4 : PyData}
theorem Tds.c1 (h : Tds K H xs [d1]) : ∃ x, xs = [x] ∧ Td K H x d1 := by
  cases h with
  | cons t1 t2 => cases t2; exact ⟨_, rfl, t1⟩
theorem Tds.c2 (h : Tds K H xs [d1, d2]) : ∃ x y, xs = [x, y] ∧ Td K H x d1 ∧ Td K H y d2 := by
  cases h with
  | cons t1 t2 => obtain ⟨y, rfl, h⟩ := t2.c1; exact ⟨_, _, rfl, t1, h⟩
theorem Tds.c3 (h : Tds K H xs [d1, d2, d3]) : ∃ x y z, xs = [x, y, z] ∧ Td K H x d1 ∧ Td K H y d2 ∧ Td K H z d3 := by
  cases h with
  | cons t1 t2 => obtain ⟨y, z, rfl, h⟩ := t2.c2; exact ⟨_, _, _, rfl, t1, h⟩
theorem Tds.c4 (h : Tds K H xs [d1, d2, d3, d4]) : ∃ x y z u, xs = [x, y, z, u] ∧ Td K H x d1 ∧ Td K H y d2 ∧ Td K H z d3 ∧ Td K H u d4 := by
  cases h with
  | cons t1 t2 => obtain ⟨y, z, u, rfl, h⟩ := t2.c3; exact ⟨_, _, _, _, rfl, t1, h⟩
theorem Tds.rev : ∀ {xs : List V} {ds : List PyData}, Tds K H xs ds → Tds K H xs.reverse ds.reverse
  | _, _, .nil => .nil
  | _, _, .cons h r => by
    rw [List.reverse_cons, List.reverse_cons]
    exact Tds.append (Tds.rev r) (.cons h .nil)
theorem Td.sort {v : V} {s : So} (h : Td K H v s.pd) : ∃ p zs, v = .ref p ∧ SqT K H p (.str s.word :: zs) ∧ Tds K H zs s.rest := by
  obtain ⟨p, zs, rfl, hp, hz⟩ := Td.row (show Td K H v (.tuple (.str s.word :: s.rest)) from h)
  cases hz with
  | cons t1 t2 =>
    obtain rfl := t1.toStr
    exact ⟨p, _, rfl, hp, t2⟩
theorem Td.pair {v : V} (h : Td K H v (.tuple [d1, d2])) : ∃ p x y, v = .ref p ∧ SqT K H p [x, y] ∧ Td K H x d1 ∧ Td K H y d2 := by
  obtain ⟨p, zs, rfl, hp, hz⟩ := h.row
  obtain ⟨x, y, rfl, hx, hy⟩ := hz.c2
  exact ⟨p, x, y, rfl, hp, hx, hy⟩
end
theorem keepT_lst {K : PySem.W.Frag} {H : Hp} {D : Addr} {xs ys : List V} (h : H D = some (.lst xs)) : KeepT K H (upd H D (.lst ys)) := KeepT.but fun b o e => by
  have hb : (∀ zs, o = .tup zs → b ≠ D) ∧ ∀ q zs, o = .frz q (.tup zs) → b ≠ D := ⟨fun zs w z => (by rw [z, h] at e; cases e; cases w), fun q zs w z => (by rw [z, h] at e; cases e; cases w)⟩
  exact ⟨fun zs w => by rw [upd_ne (hb.1 zs w)]; exact e, fun q zs w => by rw [upd_ne (hb.2 q zs w)]; exact e⟩
/-- the word of a pair -/
def pwS (o n : So) : Str := if o.word = n.word then o.word else if o.word = "maybe" then "force" else if n.word = "maybe" then "wrap" else "bad"
inductive Pk : So → So → Str → Prop
  | num (a b c d : Option Int) : Pk (.num a b) (.num c d) "number"
  | tru : Pk .tru .tru "truth"
  | txt (a b : Int) : Pk (.txt a) (.txt b) "text"
  | row (a : Int) (s : So) (b : Int) (t : So) : Pk (.row a s) (.row b t) "row"
  | may (a b : So) : Pk (.may a) (.may b) "maybe"
  | force (a n : So) : n.isMay = false → Pk (.may a) n "force"
  | wrap (o b : So) : o.isMay = false → Pk o (.may b) "wrap"
  | bad (o n : So) : o.isMay = false → n.isMay = false → o.word ≠ n.word → Pk o n "bad"
theorem word_may {s : So} (h : s.isMay = false) : s.word ≠ "maybe" := by
  cases s with
  | num lo hi => exact (show ("number" : Str) ≠ "maybe" by decide +kernel)
  | tru => exact (show ("truth" : Str) ≠ "maybe" by decide +kernel)
  | txt n => exact (show ("text" : Str) ≠ "maybe" by decide +kernel)
  | row n s => exact (show ("row" : Str) ≠ "maybe" by decide +kernel)
  | may s => exact nomatch h
  | nod k => exact (show ("node" : Str) ≠ "maybe" by decide +kernel)
  | cho k => exact (show ("choice" : Str) ≠ "maybe" by decide +kernel)
theorem pk_same {o n : So} (ho : o.pl) (hn : n.pl) (h : o.word = n.word) : Pk o n o.word := by
  cases o <;> cases n <;> first
    | exact .num _ _ _ _
    | exact .tru
    | exact .txt _ _
    | exact .row _ _ _ _
    | exact .may _ _
    | exact ho.nod.elim
    | exact ho.cho.elim
    | exact hn.nod.elim
    | exact hn.cho.elim
    | exact absurd h (by decide +kernel)
    | exact absurd h (show ("number" : Str) ≠ "truth" by decide +kernel)
    | exact absurd h (show ("number" : Str) ≠ "text" by decide +kernel)
    | exact absurd h (show ("number" : Str) ≠ "row" by decide +kernel)
    | exact absurd h (show ("number" : Str) ≠ "maybe" by decide +kernel)
    | exact absurd h (show ("truth" : Str) ≠ "number" by decide +kernel)
    | exact absurd h (show ("truth" : Str) ≠ "text" by decide +kernel)
    | exact absurd h (show ("truth" : Str) ≠ "row" by decide +kernel)
    | exact absurd h (show ("truth" : Str) ≠ "maybe" by decide +kernel)
    | exact absurd h (show ("text" : Str) ≠ "number" by decide +kernel)
    | exact absurd h (show ("text" : Str) ≠ "truth" by decide +kernel)
    | exact absurd h (show ("text" : Str) ≠ "row" by decide +kernel)
    | exact absurd h (show ("text" : Str) ≠ "maybe" by decide +kernel)
    | exact absurd h (show ("row" : Str) ≠ "number" by decide +kernel)
    | exact absurd h (show ("row" : Str) ≠ "truth" by decide +kernel)
    | exact absurd h (show ("row" : Str) ≠ "text" by decide +kernel)
    | exact absurd h (show ("row" : Str) ≠ "maybe" by decide +kernel)
    | exact absurd h (show ("maybe" : Str) ≠ "number" by decide +kernel)
    | exact absurd h (show ("maybe" : Str) ≠ "truth" by decide +kernel)
    | exact absurd h (show ("maybe" : Str) ≠ "text" by decide +kernel)
    | exact absurd h (show ("maybe" : Str) ≠ "row" by decide +kernel)
theorem is_may {s : So} (h : s.word = "maybe") : ∃ a, s = .may a := by
  cases e : s.isMay with
  | false => exact absurd h (word_may e)
  | true =>
    cases s with
    | may a => exact ⟨a, rfl⟩
    | _ => exact nomatch e
theorem not_may {s : So} (h : s.word ≠ "maybe") : s.isMay = false := by
  cases s with
  | may a => exact absurd rfl h
  | _ => rfl
theorem pk_of {o n : So} (ho : o.pl) (hn : n.pl) : Pk o n (pwS o n) := by
  unfold pwS
  by_cases h1 : o.word = n.word
  · rw [if_pos h1]
    exact pk_same ho hn h1
  · rw [if_neg h1]
    by_cases h2 : o.word = "maybe"
    · rw [if_pos h2]
      obtain ⟨a, rfl⟩ := is_may h2
      exact .force a n (not_may fun e => h1 (h2.trans e.symm))
    · rw [if_neg h2]
      by_cases h3 : n.word = "maybe"
      · rw [if_pos h3]
        obtain ⟨b, rfl⟩ := is_may h3
        exact .wrap o b (not_may h2)
      · rw [if_neg h3]
        exact .bad o n (not_may h2) (not_may h3) h1
def inO : So → So → So
  | .row _ a, .row _ _ => a
  | .may a, _ => a
  | o, _ => o
def inN : So → So → So
  | .row _ _, .row _ b => b
  | _, .may b => b
  | _, n => n
/-- why a thing is refused at its pair -/
def vf : So → So → PyData → Option Str
  | .num _ _, .num lo hi, .int x => if withinB x lo hi = true then none else some "bounds"
  | .txt _, .txt m, .str z => if (z.length : Int) > m then some "most" else none
  | .row _ _, .row m _, .tuple ds => if (ds.length : Int) > m then some "most" else none
  | .tru, .tru, _ => none
  | .may _, .may _, _ => none
  | .may _, _, d => if isNone d = true then some "nothing" else none
  | _, .may _, _ => none
  | _, _, _ => some "sort"
theorem vf_bad {o n : So} {d : PyData} (h1 : o.isMay = false) (h2 : n.isMay = false) (h3 : o.word ≠ n.word) : vf o n d = some "sort" := by
  cases o <;> cases n <;> first
    | exact absurd rfl h3
    | exact absurd h1 (show ¬ (true = false) by decide)
    | exact absurd h2 (show ¬ (true = false) by decide)
    | rfl
    | (cases d <;> rfl)
theorem vf_force {a n : So} {d : PyData} (h : n.isMay = false) : vf (.may a) n d = if isNone d = true then some "nothing" else none := by
  cases n <;> first
    | exact absurd h (show ¬ (true = false) by decide)
    | rfl
    | (cases d <;> rfl)
theorem vf_wrap {o b : So} {d : PyData} (h : o.isMay = false) : vf o (.may b) d = none := by
  cases o <;> first
    | exact absurd h (show ¬ (true = false) by decide)
    | rfl
    | (cases d <;> rfl)
theorem due_bad {o n : So} {rp : List PyData} {d : PyData} (h1 : o.isMay = false) (h2 : n.isMay = false) (h3 : o.word ≠ n.word) : due o n rp d = .ref rp "sort" := by
  cases o <;> cases n <;> first
    | exact absurd rfl h3
    | exact absurd h1 (show ¬ (true = false) by decide)
    | exact absurd h2 (show ¬ (true = false) by decide)
    | rfl
    | (cases d <;> rfl)
/-- what is refused for itself is refused -/
theorem due_vf {o n : So} {d : PyData} {rp : List PyData} {w x : Str} (k : Pk o n x) (ht : ThOk o d) (h : vf o n d = some w) : due o n rp d = .ref rp w := by
  cases k with
  | num a b c e =>
    cases d with
    | int z =>
      have h : (if withinB z c e = true then none else some ("bounds" : Str)) = some w := h
      show (if withinB z c e = true then Rs.told (.int z) else .ref rp "bounds") = _
      by_cases g : withinB z c e = true
      · rw [if_pos g] at h; cases h
      · rw [if_neg g] at h; cases h; rw [if_neg g]
    | _ => exact ht.elim
  | tru => cases h
  | txt a b =>
    cases d with
    | str z =>
      have h : (if (z.length : Int) > b then some ("most" : Str) else none) = some w := h
      show (if (z.length : Int) > b then Rs.ref rp "most" else .told (.str z)) = _
      by_cases g : (z.length : Int) > b
      · rw [if_pos g] at h; cases h; rw [if_pos g]
      · rw [if_neg g] at h; cases h
    | _ => exact ht.elim
  | row a s b t =>
    cases d with
    | tuple ds =>
      have h : (if (ds.length : Int) > b then some ("most" : Str) else none) = some w := h
      show (if (ds.length : Int) > b then Rs.ref rp "most" else _) = _
      by_cases g : (ds.length : Int) > b
      · rw [if_pos g] at h; cases h; rw [if_pos g]
      · rw [if_neg g] at h; cases h
    | _ => exact ht.elim
  | may a b => cases h
  | force a n hn =>
    rw [vf_force hn] at h
    show (if isNone d = true then (if n.isMay = true then Rs.told .none else .ref rp "nothing") else _) = _
    by_cases g : isNone d = true
    · rw [if_pos g] at h; cases h; rw [if_pos g, hn]; rfl
    · rw [if_neg g] at h; cases h
  | wrap o b ho =>
    rw [vf_wrap ho] at h
    cases h
  | bad o n h1 h2 h3 =>
    rw [vf_bad h1 h2 h3] at h
    cases h
    exact due_bad h1 h2 h3
end Tw
namespace Tw
open PySem PySem.Spec PyProof.Rows L2
/-- the pair's word decides what is due -/
theorem due_leaf {o n : So} {d : PyData} {rp : List PyData} {x : Str} (k : Pk o n x) (ht : ThOk o d) (h : vf o n d = none) (hx : x = "number" ∨ x = "truth" ∨ x = "text") : due o n rp d = .told d := by
  cases k with
  | num a b c e =>
    cases d with
    | int z =>
      have h : (if withinB z c e = true then none else some ("bounds" : Str)) = none := h
      show (if withinB z c e = true then Rs.told (.int z) else .ref rp "bounds") = _
      by_cases g : withinB z c e = true
      · rw [if_pos g]
      · rw [if_neg g] at h; cases h
    | _ => exact ht.elim
  | tru => rfl
  | txt a b =>
    cases d with
    | str z =>
      have h : (if (z.length : Int) > b then some ("most" : Str) else none) = none := h
      show (if (z.length : Int) > b then Rs.ref rp "most" else .told (.str z)) = _
      by_cases g : (z.length : Int) > b
      · rw [if_pos g] at h; cases h
      · rw [if_neg g]
    | _ => exact ht.elim
  | row a s b t => exact absurd hx (by decide +kernel)
  | may a b => exact absurd hx (by decide +kernel)
  | force a n hn => exact absurd hx (by decide +kernel)
  | wrap o b ho => exact absurd hx (by decide +kernel)
  | bad o n h1 h2 h3 => exact absurd hx (by decide +kernel)
theorem due_row {a b : Int} {s t : So} {ds : List PyData} {rp : List PyData} (h : vf (.row a s) (.row b t) (.tuple ds) = none) : due (.row a s) (.row b t) rp (.tuple ds) = rowEnd (rowDue (fun p e => due s t p e) rp 0 ds) := by
  have h : (if (ds.length : Int) > b then some ("most" : Str) else none) = none := h
  show (if (ds.length : Int) > b then Rs.ref rp "most" else rowEnd (rowDue (fun p e => due s t p e) rp 0 ds)) = _
  by_cases g : (ds.length : Int) > b
  · rw [if_pos g] at h; cases h
  · rw [if_neg g]
/-- enough has been made for what is to be done -/
def okN : List Jb → Nat → Prop
  | [], m => 1 ≤ m
  | .turn _ _ _ _ :: J, m => okN J (m + 1)
  | .row k :: J, m => k ≤ m ∧ okN J (m - k + 1)
theorem okN_turns {a b : So} {rp : List PyData} {J : List Jb} : ∀ {ds : List PyData} {k m : Nat}, okN J (m + ds.length) → okN (turns a b rp k ds ++ J) m
  | [], _, _, h => h
  | d :: r, k, m, h => by
    show okN (turns a b rp (k + 1) r ++ J) (m + 1)
    refine okN_turns ?_
    rw [List.length_cons] at h
    rw [show m + 1 + r.length = m + (r.length + 1) by omega]
    exact h
theorem okN_row {a b : So} {rp : List PyData} {J : List Jb} {ds : List PyData} {m : Nat} (h : okN J (m + 1)) : okN (turns a b rp 0 ds ++ .row ds.length :: J) m :=
  okN_turns (And.intro (Nat.le_add_left _ _) (by rw [Nat.add_sub_cancel]; exact h))
def JOk : Jb → Prop
  | .turn o n d rp => o.pl ∧ n.pl ∧ ThOk o d ∧ rp.length + o.depth ≤ 100
  | .row _ => True
theorem jok_turns {a b : So} {rp : List PyData} (ha : a.pl) (hb : b.pl) (hr : rp.length + 1 + a.depth ≤ 100) : ∀ {ds : List PyData} {k : Nat}, (∀ d ∈ ds, ThOk a d) → ∀ j ∈ turns a b rp k ds, JOk j
  | [], _, _, j, hj => nomatch hj
  | d :: r, k, h, j, hj => by
    rcases List.mem_cons.mp hj with rfl | hj
    · exact And.intro ha (And.intro hb (And.intro (h d List.mem_cons_self) hr))
    · exact jok_turns ha hb hr (fun e he => h e (List.mem_cons_of_mem _ he)) j hj
theorem turns_snoc {a b : So} {rp : List PyData} : ∀ {ds : List PyData} {k : Nat} {d : PyData}, turns a b rp k (ds ++ [d]) = turns a b rp k ds ++ [.turn a b d (.int ((k + ds.length : Nat) : Int) :: rp)]
  | [], k, d => rfl
  | e :: r, k, d => by
    show _ :: turns a b rp (k + 1) (r ++ [d]) = _ :: (turns a b rp (k + 1) r ++ _)
    rw [turns_snoc, List.length_cons, show k + 1 + r.length = k + (r.length + 1) by omega]
theorem turns_len {a b : So} {rp : List PyData} : ∀ {ds : List PyData} {k : Nat}, (turns a b rp k ds).length = ds.length
  | [], _ => rfl
  | _ :: r, _ => congrArg (· + 1) turns_len
end Tw
namespace Tw
open PySem PySem.Spec PyProof.Rows L2
theorem ThOk.num {a b : Option Int} {d : PyData} (h : ThOk (.num a b) d) : ∃ z, d = .int z := by
  cases d with
  | int z => exact ⟨z, rfl⟩
  | _ => exact h.elim
theorem ThOk.tru {d : PyData} (h : ThOk .tru d) : ∃ z, d = .bool z := by
  cases d with
  | bool z => exact ⟨z, rfl⟩
  | _ => exact h.elim
theorem ThOk.txt {n : Int} {d : PyData} (h : ThOk (.txt n) d) : ∃ z, d = .str z ∧ z.length ≤ 40 := by
  cases d with
  | str z => exact ⟨z, rfl, h⟩
  | _ => exact h.elim
theorem ThOk.row {n : Int} {s : So} {d : PyData} (h : ThOk (.row n s) d) : ∃ ds, d = .tuple ds ∧ ds.length ≤ 6 ∧ ∀ e ∈ ds, ThOk s e := by
  cases d with
  | tuple ds => exact ⟨ds, rfl, h⟩
  | _ => exact h.elim
theorem ThOk.may {s : So} {d : PyData} (h : ThOk (.may s) d) : d = .none ∨ ThOk s d := by
  cases d <;> exact h
end Tw
/-! TwY: the well of two numbers. -/
namespace Tw
open PySem PySem.Spec PyProof.Rows L2
def IsW2 (H : Hp) (a : Addr) : Prop := ∃ x y : Int, H a = some (.lst [.int x, .int y])
def Fv (a : Addr) (H H' : Hp) : Prop := (∀ b o, b ≠ a → H b = some o → H' b = some o) ∧ IsW2 H' a
theorem IsW2.same {H H' : Hp} {a : Addr} (h : IsW2 H a) (s : Same H H') : IsW2 H' a := by
  obtain ⟨x, y, e⟩ := h
  exact ⟨x, y, s _ _ e⟩
theorem Fv.refl {H : Hp} {a : Addr} (h : IsW2 H a) : Fv a H H := ⟨fun _ _ _ e => e, h⟩
theorem Fv.trans {a : Addr} {H H1 H2 : Hp} (f : Fv a H H1) (g : Fv a H1 H2) : Fv a H H2 := ⟨fun b o n e => g.1 b o n (f.1 b o n e), g.2⟩
theorem Fv.same {a : Addr} {H H1 H2 : Hp} (f : Fv a H H1) (g : Same H1 H2) : Fv a H H2 := ⟨fun b o n e => g b o (f.1 b o n e), f.2.same g⟩
theorem Fv.of_same {a : Addr} {H H1 : Hp} (h : IsW2 H a) (g : Same H H1) : Fv a H H1 := (Fv.refl h).same g
theorem Fv.free {a : Addr} {H H' : Hp} (f : Fv a H H') {p : Addr} (e : H' p = none) : H p = none := by
  cases q : H p with
  | none => rfl
  | some o =>
    by_cases hp : p = a
    · subst hp
      obtain ⟨_, _, z⟩ := f.2
      rw [z] at e
      cases e
    · rw [f.1 p o hp q] at e
      cases e
theorem IsW2.ne {H : Hp} {a p : Addr} (h : IsW2 H a) (e : H p = none) : p ≠ a := fun q => by
  obtain ⟨_, _, z⟩ := h
  rw [q, z] at e
  cases e
theorem Fv.keepT {K : PySem.W.Frag} {a : Addr} {H H' : Hp} (f : Fv a H H') (w : IsW2 H a) : KeepT K H H' := KeepT.but fun b o e => by
  obtain ⟨x, y, hw⟩ := w
  have nb : o ≠ .lst [.int x, .int y] → b ≠ a := fun n q => by
    rw [q, hw] at e
    exact n (Option.some.inj e).symm
  exact ⟨fun xs q => f.1 b o (nb (by rw [q]; intro h; cases h)) e, fun _ xs q => f.1 b o (nb (by rw [q]; intro h; cases h)) e⟩
def spDraw2 : Sp := fun vs H Q _ => ∃ (a : Addr) (m : Int), vs = [.ref a, .int m] ∧ IsW2 H a ∧ 0 < m ∧ m.natAbs < 2 ^ 250 ∧ ∀ (r : Int) (H' : Hp), 0 ≤ r → r < m → Fv a H H' → Q (.int r) H'
end Tw
namespace Tw
open PySem PySem.Spec PyProof.Rows L2
theorem may_pl {s : So} (h : s.pl) (hm : s.isMay = false) : (So.may s).pl := by
  refine And.intro rfl ?_
  cases s with
  | may t => exact absurd hm (show ¬ (true = false) by decide)
  | _ => exact h
theorem row_pl {n : Int} {s : So} (h : s.pl) (h0 : 0 ≤ n) (h1 : n ≤ 20) : (So.row n s).pl := And.intro h0 (And.intro h1 h)
end Tw
namespace Tw
open PySem PySem.Spec PyProof.Rows L2
theorem fv_put {a D : Addr} {H H' : Hp} {o : HO} (f : Fv a H H') (n : D ≠ a) (h : H D = none) : Fv a H (upd H' D o) := by
  refine ⟨fun b u nb e => ?_, ?_⟩
  · rw [upd_ne (ne_of_none e h)]
    exact f.1 b u nb e
  · obtain ⟨x, y, e⟩ := f.2
    exact ⟨x, y, by rw [upd_ne n.symm]; exact e⟩
/-- a thing of a sort -/
def ThIn : So → PyData → Prop
  | .num lo hi, .int x => withinB x lo hi = true
  | .tru, .bool _ => True
  | .txt m, .str z => (z.length : Int) ≤ m ∧ z.length ≤ 40
  | .row m s, .tuple ds => (ds.length : Int) ≤ m ∧ ds.length ≤ 6 ∧ ∀ d ∈ ds, ThIn s d
  | .may s, d => d = .none ∨ ThIn s d
  | _, _ => False
theorem ThIn.ok : ∀ {s : So} {d : PyData}, ThIn s d → ThOk s d
  | .num _ _, .int _, _ => True.intro
  | .tru, .bool _, _ => True.intro
  | .txt _, .str _, h => h.2
  | .row _ _, .tuple _, h => And.intro h.2.1 fun e he => ThIn.ok (h.2.2 e he)
  | .may s, d, h => by
    have h : d = .none ∨ ThIn s d := by cases d <;> exact h
    have g : d = .none ∨ ThOk s d := h.imp_right fun h => ThIn.ok h
    cases d <;> exact g
theorem rowDue_self {f : List PyData → PyData → Rs} {rp : List PyData} : ∀ {ds : List PyData} {k : Nat}, (∀ d ∈ ds, ∀ p, f p d = .told d) → rowDue f rp k ds = .inl ds
  | [], _, _ => rfl
  | d :: r, k, h => by
    unfold rowDue
    rw [h d List.mem_cons_self, rowDue_self fun e he => h e (List.mem_cons_of_mem _ he)]
theorem isNone_eq {d : PyData} (h : isNone d = true) : d = .none := by
  cases d <;> first | rfl | cases h
theorem due_self : ∀ {s : So} {d : PyData} {rp : List PyData}, s.pl → ThIn s d → due s s rp d = .told d
  | .num lo hi, .int x, rp, _, h => if_pos h
  | .tru, .bool _, _, _, _ => rfl
  | .txt m, .str z, rp, _, h => if_neg (by have := h.1; omega)
  | .row m s, .tuple ds, rp, p, h => by
    show (if (ds.length : Int) > m then Rs.ref rp "most" else rowEnd (rowDue (fun p e => due s s p e) rp 0 ds)) = _
    rw [if_neg (by have := h.1; omega), rowDue_self fun e he q => due_self p.row.1 (h.2.2 e he)]
    rfl
  | .may s, d, rp, p, h => by
    have h : d = .none ∨ ThIn s d := by cases d <;> exact h
    show (if isNone d = true then Rs.told .none else due s s (insideD :: rp) d) = _
    by_cases g : isNone d = true
    · rw [if_pos g, isNone_eq g]
    · rw [if_neg g]
      exact due_self p.may.1 (h.resolve_left fun e => g (by rw [e]; rfl))
theorem within_of {v : Int} {lo hi : Option Int} (h1 : ∀ x, lo = some x → x ≤ v) (h2 : ∀ y, hi = some y → v ≤ y) : withinB v lo hi = true := by
  unfold withinB
  rw [Bool.and_eq_true]
  constructor
  · cases lo with
    | none => rfl
    | some x => exact decide_eq_true (h1 x rfl)
  · cases hi with
    | none => rfl
    | some x => exact decide_eq_true (h2 x rfl)
end Tw
/-! TgV: things with cases (a case, as data: a list of its word and its content), turned: what is due, and the jobs that do it. -/
namespace Tw
open PySem PySem.Spec PyProof.Rows L2
abbrev Ch := Str → List En
def caseP (w : Str) (c : PyData) : PyData := .list [.str w, c]
def caseS (w : Str) : PyData := .tuple [.str "case", .str w]
def enName (es : List En) (w : Str) : Option En := es.find? fun e => decide (e.name = w)
def enNum (es : List En) (k : Int) : Option En := es.find? fun e => decide (e.num = k)
def enRead (es : List En) (k : Int) : Option En := match enNum es k with
  | some f => some f
  | none => enNum es 0
def caseC (rec : So → So → List PyData → PyData → Rs) (eo en : List En) (rp : List PyData) (w : Str) (c : PyData) : Rs := match enName eo w with
  | none => .ref rp "case"
  | some e => match enRead en e.num with
    | none => .ref rp "case"
    | some f => match f.of with
      | none => .told (caseP f.name .none)
      | some ni => match e.of with
        | none => .ref rp "sort"
        | some oi => match rec oi ni (caseS f.name :: rp) c with
          | .told v => .told (caseP f.name v)
          | .ref p x => .ref p x
def dueX (rec : So → So → List PyData → PyData → Rs) (TO TN : Ch) : So → So → List PyData → PyData → Rs
  | .may a, n, rp, d => if isNone d = true then (if n.isMay = true then .told .none else .ref rp "nothing") else dueX rec TO TN a n.strip (insideD :: rp) d
  | .num _ _, n, rp, d => match n.strip, d with
    | .num lo hi, .int x => if withinB x lo hi = true then .told d else .ref rp "bounds"
    | _, _ => .ref rp "sort"
  | .tru, n, rp, d => match n.strip with
    | .tru => .told d
    | _ => .ref rp "sort"
  | .txt _, n, rp, d => match n.strip, d with
    | .txt m, .str z => if (z.length : Int) > m then .ref rp "most" else .told d
    | _, _ => .ref rp "sort"
  | .row _ a, n, rp, d => match n.strip, d with
    | .row m b, .tuple ds => if (ds.length : Int) > m then .ref rp "most" else rowEnd (rowDue (fun p e => dueX rec TO TN a b p e) rp 0 ds)
    | _, _ => .ref rp "sort"
  | .cho a, n, rp, d => match n.strip, d with
    | .cho b, .list [.str w, c] => caseC rec (TO a) (TN b) rp w c
    | _, _ => .ref rp "sort"
  | .nod _, _, rp, _ => .ref rp "sort"
def dueF (TO TN : Ch) : Nat → So → So → List PyData → PyData → Rs
  | 0 => fun _ _ rp _ => .ref rp "sort"
  | k + 1 => dueX (dueF TO TN k) TO TN
def ThX (rec : So → PyData → Prop) (TO : Ch) : So → PyData → Prop
  | .num _ _, .int _ => True
  | .tru, .bool _ => True
  | .txt _, .str z => z.length ≤ 40
  | .row _ s, .tuple ds => ds.length ≤ 6 ∧ ∀ d ∈ ds, ThX rec TO s d
  | .may s, d => d = .none ∨ ThX rec TO s d
  | .cho a, .list [.str w, c] => ∃ e, enName (TO a) w = some e ∧ ((e.of = none ∧ c = .none) ∨ ∃ s, e.of = some s ∧ rec s c)
  | _, _ => False
def ThF (TO : Ch) : Nat → So → PyData → Prop
  | 0 => fun _ _ => False
  | k + 1 => ThX (ThF TO k) TO
section
variable {r1 r2 : So → PyData → Prop} {TO TN : Ch}
theorem ThX.may {s : So} {d : PyData} (h : ThX r1 TO (.may s) d) : d = .none ∨ ThX r1 TO s d := by
  cases d <;> exact h
theorem ThX.num {a b : Option Int} {d : PyData} (h : ThX r1 TO (.num a b) d) : ∃ z, d = .int z := by
  cases d with
  | int z => exact ⟨z, rfl⟩
  | _ => exact h.elim
theorem ThX.tru {d : PyData} (h : ThX r1 TO .tru d) : ∃ z, d = .bool z := by
  cases d with
  | bool z => exact ⟨z, rfl⟩
  | _ => exact h.elim
theorem ThX.txt {n : Int} {d : PyData} (h : ThX r1 TO (.txt n) d) : ∃ z, d = .str z ∧ z.length ≤ 40 := by
  cases d with
  | str z => exact ⟨z, rfl, h⟩
  | _ => exact h.elim
theorem ThX.row {n : Int} {s : So} {d : PyData} (h : ThX r1 TO (.row n s) d) : ∃ ds, d = .tuple ds ∧ ds.length ≤ 6 ∧ ∀ e ∈ ds, ThX r1 TO s e := by
  cases d with
  | tuple ds => exact ⟨ds, rfl, h⟩
  | _ => exact h.elim
theorem ThX.cho {a : Str} {d : PyData} (h : ThX r1 TO (.cho a) d) : ∃ w c e, d = caseP w c ∧ enName (TO a) w = some e ∧ ((e.of = none ∧ c = .none) ∨ ∃ s, e.of = some s ∧ r1 s c) := by
  cases d with
  | list ds =>
    rcases ds with _ | ⟨x, _ | ⟨c, _ | ⟨y, r⟩⟩⟩
    · exact h.elim
    · cases x <;> exact h.elim
    · cases x with
      | str w =>
        obtain ⟨e, h⟩ := h
        exact ⟨w, c, e, rfl, h⟩
      | _ => exact h.elim
    · cases x <;> exact h.elim
  | _ => exact h.elim
theorem ThX.mono (k : ∀ s c, r1 s c → r2 s c) : ∀ {o : So} {d : PyData}, ThX r1 TO o d → ThX r2 TO o d
  | .num _ _, d, h => by obtain ⟨z, rfl⟩ := h.num; exact True.intro
  | .tru, d, h => by obtain ⟨z, rfl⟩ := h.tru; exact True.intro
  | .txt _, d, h => by obtain ⟨z, rfl, h⟩ := h.txt; exact h
  | .row _ s, d, h => by obtain ⟨ds, rfl, h1, h2⟩ := h.row; exact And.intro h1 fun e he => ThX.mono k (h2 e he)
  | .may s, d, h => by
    have g : d = .none ∨ ThX r2 TO s d := h.may.imp_right fun h => ThX.mono k h
    cases d <;> exact g
  | .cho a, d, h => by
    obtain ⟨w, c, e, rfl, h1, h2⟩ := h.cho
    exact ⟨e, h1, h2.imp_right fun ⟨s, g1, g2⟩ => ⟨s, g1, k s c g2⟩⟩
  | .nod _, d, h => by cases d <;> exact h.elim
theorem ThF.succ : ∀ {k : Nat} {o : So} {d : PyData}, ThF TO k o d → ThF TO (k + 1) o d
  | 0, _, _, h => h.elim
  | k + 1, _, _, h => ThX.mono (fun s c h => ThF.succ h) h
theorem rowDue_congr {f g : List PyData → PyData → Rs} {rp : List PyData} : ∀ {ds : List PyData} {k : Nat}, (∀ d ∈ ds, ∀ p, f p d = g p d) → rowDue f rp k ds = rowDue g rp k ds
  | [], _, _ => rfl
  | d :: r, k, h => by
    unfold rowDue
    rw [h d List.mem_cons_self, rowDue_congr fun e he => h e (List.mem_cons_of_mem _ he)]
theorem dueX_congr {q1 q2 : So → So → List PyData → PyData → Rs} (k : ∀ s c n rp, r1 s c → q1 s n rp c = q2 s n rp c) : ∀ {o n : So} {rp : List PyData} {d : PyData}, ThX r1 TO o d → dueX q1 TO TN o n rp d = dueX q2 TO TN o n rp d
  | .num _ _, n, rp, d, h => rfl
  | .tru, n, rp, d, h => rfl
  | .txt _, n, rp, d, h => rfl
  | .nod _, n, rp, d, h => rfl
  | .row _ s, n, rp, d, h => by
    obtain ⟨ds, rfl, _, h2⟩ := h.row
    unfold dueX
    cases n.strip with
    | row m b =>
      show (if (ds.length : Int) > m then Rs.ref rp "most" else rowEnd (rowDue (fun p e => dueX q1 TO TN s b p e) rp 0 ds)) = (if (ds.length : Int) > m then Rs.ref rp "most" else rowEnd (rowDue (fun p e => dueX q2 TO TN s b p e) rp 0 ds))
      rw [rowDue_congr (g := fun p e => dueX q2 TO TN s b p e) fun e he p => dueX_congr k (h2 e he)]
    | _ => rfl
  | .may s, n, rp, d, h => by
    show (if isNone d = true then (if n.isMay = true then Rs.told .none else .ref rp "nothing") else dueX q1 TO TN s n.strip (insideD :: rp) d) = (if isNone d = true then (if n.isMay = true then Rs.told .none else .ref rp "nothing") else dueX q2 TO TN s n.strip (insideD :: rp) d)
    by_cases g : isNone d = true
    · rw [if_pos g, if_pos g]
    · rw [if_neg g, if_neg g]
      exact dueX_congr k (h.may.resolve_left fun e => g (by rw [e] <;> rfl))
  | .cho a, n, rp, d, h => by
    obtain ⟨w, c, e, rfl, h1, h2⟩ := h.cho
    show (match n.strip, caseP w c with | .cho b, .list [.str w, c] => caseC q1 (TO a) (TN b) rp w c | _, _ => .ref rp "sort") = (match n.strip, caseP w c with | .cho b, .list [.str w, c] => caseC q2 (TO a) (TN b) rp w c | _, _ => .ref rp "sort")
    cases n.strip with
    | cho b =>
      show caseC q1 (TO a) (TN b) rp w c = caseC q2 (TO a) (TN b) rp w c
      unfold caseC
      rw [h1]
      dsimp only
      cases enRead (TN b) e.num with
      | none => rfl
      | some f =>
        dsimp only
        cases f.of with
        | none => rfl
        | some ni =>
          dsimp only
          rcases h2 with ⟨h2, _⟩ | ⟨s, h2, h3⟩
          · rw [h2]
          · rw [h2]
            dsimp only
            rw [k s c ni _ h3]
    | _ => rfl
theorem dueF_succ : ∀ {k : Nat} {o n : So} {rp : List PyData} {d : PyData}, ThF TO k o d → dueF TO TN k o n rp d = dueF TO TN (k + 1) o n rp d
  | 0, _, _, _, _, h => h.elim
  | k + 1, _, _, _, _, h => dueX_congr (r1 := ThF TO k) (fun s c n rp h => dueF_succ h) h
end
/-- far enough -/
def dueC (TO TN : Ch) : So → So → List PyData → PyData → Rs := dueF TO TN 12
def ThC (TO : Ch) : So → PyData → Prop := ThF TO 12
theorem ThC.in_ {TO : Ch} {s : So} {c : PyData} (h : ThF TO 11 s c) : ThC TO s c := ThF.succ h
theorem dueC_x {TO TN : Ch} {o n : So} {rp : List PyData} {d : PyData} (h : ThC TO o d) : dueC TO TN o n rp d = dueX (dueC TO TN) TO TN o n rp d := dueX_congr (r1 := ThF TO 11) (fun s c n rp h => dueF_succ h) h
/-! jobs -/
inductive Jc
  | turn (o n : So) (d : PyData) (rp : List PyData)
  | row (k : Nat)
  | cas (w : Str)
def Jc.pd : Jc → PyData
  | .turn o n d rp => .tuple [.str "turn", .tuple [o.pd, n.pd], d, wayR rp]
  | .row k => .tuple [.str "row", .int (k : Int)]
  | .cas w => .tuple [.str "case", .str w]
def evc (TO TN : Ch) : List Jc → List PyData → Rs
  | [], m => endOf m
  | .turn o n d rp :: J, m => match dueC TO TN o n rp d with
    | .told v => evc TO TN J (m ++ [v])
    | .ref p w => .ref p w
  | .row k :: J, m => evc TO TN J (m.take (m.length - k) ++ [.tuple (m.drop (m.length - k))])
  | .cas w :: J, m => evc TO TN J (m.dropLast ++ [caseP w (m.getLastD .none)])
def turnsC (a b : So) (rp : List PyData) : Nat → List PyData → List Jc
  | _, [] => []
  | k, d :: r => .turn a b d (.int (k : Int) :: rp) :: turnsC a b rp (k + 1) r
section
variable {TO TN : Ch}
theorem evc_turns {a b : So} {rp : List PyData} {J : List Jc} : ∀ (ds : List PyData) (k : Nat) (m : List PyData), evc TO TN (turnsC a b rp k ds ++ J) m = match rowDue (fun p e => dueC TO TN a b p e) rp k ds with
    | .inl vs => evc TO TN J (m ++ vs)
    | .inr e => .ref e.1 e.2
  | [], k, m => by
    show evc TO TN J m = evc TO TN J (m ++ [])
    rw [List.append_nil]
  | d :: r, k, m => by
    show (match dueC TO TN a b (.int (k : Int) :: rp) d with | .told v => evc TO TN (turnsC a b rp (k + 1) r ++ J) (m ++ [v]) | .ref p w => .ref p w) = _
    unfold rowDue
    cases hd : dueC TO TN a b (.int (k : Int) :: rp) d with
    | ref p w => rfl
    | told v =>
      show evc TO TN (turnsC a b rp (k + 1) r ++ J) (m ++ [v]) = _
      rw [evc_turns r (k + 1)]
      cases rowDue (fun p e => dueC TO TN a b p e) rp (k + 1) r with
      | inr e => rfl
      | inl vs =>
        show evc TO TN J (m ++ [v] ++ vs) = evc TO TN J (m ++ v :: vs)
        rw [List.append_assoc]
        rfl
theorem evc_row {a b : So} {rp : List PyData} {J : List Jc} {m ds : List PyData} : evc TO TN (turnsC a b rp 0 ds ++ .row ds.length :: J) m = match rowEnd (rowDue (fun p e => dueC TO TN a b p e) rp 0 ds) with
    | .told v => evc TO TN J (m ++ [v])
    | .ref p w => .ref p w := by
  rw [evc_turns]
  cases h : rowDue (fun p e => dueC TO TN a b p e) rp 0 ds with
  | inr e => rfl
  | inl vs =>
    have hl := rowDue_len h
    show evc TO TN J ((m ++ vs).take ((m ++ vs).length - ds.length) ++ [.tuple ((m ++ vs).drop ((m ++ vs).length - ds.length))]) = evc TO TN J (m ++ [.tuple vs])
    rw [List.length_append, hl, Nat.add_sub_cancel, List.take_left, List.drop_left]
theorem evc_cas {o n : So} {d : PyData} {rp : List PyData} {w : Str} {J : List Jc} {m : List PyData} : evc TO TN (.turn o n d rp :: .cas w :: J) m = match dueC TO TN o n rp d with
    | .told v => evc TO TN J (m ++ [caseP w v])
    | .ref p x => .ref p x := by
  show (match dueC TO TN o n rp d with | .told v => evc TO TN (.cas w :: J) (m ++ [v]) | .ref p x => .ref p x) = _
  cases dueC TO TN o n rp d with
  | ref p x => rfl
  | told v =>
    show evc TO TN J ((m ++ [v]).dropLast ++ [caseP w ((m ++ [v]).getLastD .none)]) = _
    rw [List.dropLast_concat, List.getLastD_concat]
end
mutual
def wt : PyData → Nat
  | .tuple ds => 2 + wtL ds
  | .list ds => 2 + wtL ds
  | _ => 1
def wtL : List PyData → Nat
  | [] => 0
  | d :: r => wt d + 2 + wtL r
end
def b01 (b : Bool) : Nat := if b = true then 1 else 0
theorem b01_le {b : Bool} : b01 b ≤ 1 := by cases b <;> decide
def Jc.w : Jc → Nat
  | .turn o n d _ => wt d + b01 o.isMay + b01 n.isMay
  | .row _ => 1
  | .cas _ => 1
def wtsC (J : List Jc) : Nat := (J.map Jc.w).sum
theorem wt_pos : ∀ d : PyData, 1 ≤ wt d := fun d => by
  unfold wt
  split <;> omega
theorem wt_case {w : Str} {c : PyData} : wt (caseP w c) = wt c + 7 := by
  have e : wt (caseP w c) = 2 + (wt (.str w) + 2 + (wt c + 2 + 0)) := by unfold caseP; rw [wt, wtL, wtL, wtL]
  have e2 : wt (.str w) = 1 := rfl
  omega
theorem wtsC_app (J L : List Jc) : wtsC (J ++ L) = wtsC J + wtsC L := by
  unfold wtsC
  rw [List.map_append, List.sum_append]
theorem wtsC_turns {a b : So} {rp : List PyData} : ∀ {ds : List PyData} {k : Nat}, wtsC (turnsC a b rp k ds) ≤ wtL ds
  | [], _ => Nat.zero_le _
  | d :: r, k => by
    have ih := wtsC_turns (a := a) (b := b) (rp := rp) (ds := r) (k := k + 1)
    have h1 := b01_le (b := a.isMay)
    have h2 := b01_le (b := b.isMay)
    have e : wtL (d :: r) = wt d + 2 + wtL r := by rw [wtL]
    show (wt d + b01 a.isMay + b01 b.isMay) + wtsC (turnsC a b rp (k + 1) r) ≤ _
    omega
theorem wtL_mem : ∀ {ds : List PyData} {d : PyData}, d ∈ ds → wt d + 2 ≤ wtL ds
  | [], _, h => nomatch h
  | e :: r, d, h => by
    have q : wtL (e :: r) = wt e + 2 + wtL r := by rw [wtL]
    rcases List.mem_cons.mp h with rfl | h
    · omega
    · have := wtL_mem h
      omega
theorem len_wtsC : ∀ J : List Jc, J.length ≤ wtsC J
  | [] => Nat.le_refl _
  | j :: J => by
    have ih := len_wtsC J
    have h1 : 1 ≤ j.w := by
      cases j with
      | row k => exact Nat.le_refl _
      | cas k => exact Nat.le_refl _
      | turn o n d rp =>
        have := wt_pos d
        show 1 ≤ wt d + _ + _
        omega
    show J.length + 1 ≤ j.w + wtsC J
    omega
end Tw
/-! TwA2: o.m() that may raise; an instance made of positional arguments. -/
namespace Tw
open PySem PySem.Spec PyProof.Rows L2 Sb
section
variable {X : Cx} {CX : CXT} {k j : Nat} {f C : Addr} {fd : FuncData} {ps : List Str} {sp : Sp} {E : L2.St → XK} {x m : Str} {p pos apos : Pos} {e o : Expr} {es : List Expr} {to : TE} {t : TA}
theorem pe_methA0 {pl : Sem Bool} (ho : PE X o to) (c : Cls X.K C) (hm : Meth X.K C m f) (F : FnOk X.prog X.w X.K X.mg X.base CX k f fd ps sp) (hr : Room k X.A) (hb : Binds X.K fd ps []) (hx : ∀ σ, PassesAt CX X σ (E σ))
    (ht : eval (.Call (.Attribute o m apos) [] [] pos) X.env = (do
      let ov ← eval o X.env
      standAt apos.atName
      let (f, first) ← holding [ov] (getMethod ov m pl)
      callWith pos f first (backTo pos (starEach [] X.env)) (backToKw pos (keywordEach [] X.env))) := by rfl) :
    PE X (.Call (.Attribute o m apos) [] [] pos) (tMethA C m sp E to tNil) := by
  refine ⟨fun pins s σ H Q I h => ?_⟩
  refine PySem.W.methodCall_KW (pl := pl) (thn (ho.run pins s σ H _ I h) fun u s1 ⟨y, H1, I1, ry, a, dx, fs, ex, ea, l, q⟩ => ?_) ht
  subst ex
  obtain rfl : u = Value.ref a := ry
  refine getmeth_ok I1 ea c hm l ?_
  exact PySem.W.callWith_K0 (first := [.ref a]) I1.kIn hm.kp (run_fnS (us := [.ref a]) (vs := [.ref a]) F hr hb (hx σ) I1 (.cons rfl .nil) q)
theorem pe_mcalX0 {W : WX} {pl : Sem Bool} (M : MCalX X.prog X.w X.K X.mg X.base C k m ps sp) (c : Cls X.K C) (hr : Room j X.A) (hk : k ≤ j) (tk : Takes X W) (ho : PE X o to)
    (ht : eval (.Call (.Attribute o m apos) [] [] pos) X.env = (do
      let ov ← eval o X.env
      standAt apos.atName
      let (f, first) ← holding [ov] (getMethod ov m pl)
      callWith pos f first (backTo pos (starEach [] X.env)) (backToKw pos (keywordEach [] X.env))) := by rfl) : PE X (.Call (.Attribute o m apos) [] [] pos) (tMethA C m sp (WE W) to tNil) := by
  obtain ⟨f, fd, hm, F, b⟩ := M.ex
  exact pe_methA0 ho c hm F (hr.mono hk) b (fun σ => passAt tk σ) ht
end
/-- C(a, ..): C's __init__ with self and more -/
structure MkP (P : Program) (w : World) (K : PySem.W.Frag) (mg : Str → Option Value) (base : Heap) (C : Addr) (k : Nat) (x : Str) (ps : List Str) (sp : Sp) : Prop where
  ex : ∃ (f : Addr) (fd : FuncData), Mk K C f ∧ FnOk P w K mg base CX0 k f fd ps sp ∧ Binds K fd ps []
  gC : mg x = some (.ref C)
theorem pe_mkP {X : Cx} {C : Addr} {k j : Nat} {x : Str} {ps : List Str} {sp : Sp} {e : Expr} {es : List Expr} {t : TA} {p pos : Pos} (M : MkP X.prog X.w X.K X.mg X.base C k x ps sp) (hr : Room j X.A) (hk : k + 1 ≤ j) (hg : Gl X x) (ha : PA X (e :: es) t)
    (hdb : (x == ("__debug__" : Str)) = false := by decide) (he : starEach (e :: es) X.env = (false, eval e X.env) :: starEach es X.env := by rfl) (hpl : (backTo pos (starEach es X.env)).any (·.1) = false := by rfl) :
    PE X (.Call (.Name x p) (e :: es) [] pos) (tMake C sp [] E0 t) := by
  obtain ⟨f, fd, Mk, F, b⟩ := M.ex
  exact pe_make Mk F (hr.mono hk) hg M.gC b .nil pass0 ha hdb he hpl
theorem mkP_mk {P : Program} {w : World} {K : PySem.W.Frag} {mg : Str → Option Value} {base h : Heap} {C : Addr} {q x : Str} {st : Stmt} {ps : List Str} {k : Nat} {sp : Sp} (X : K.In h) (G : h.Ns mainGlobals mg) (g : PySem.W.nsIn K mainGlobals x = some (some (.ref C))) (D : MethIn K C "__init__" q st) (mk : PySem.W.makesIn K C = true) (kc : PySem.W.keepIn K (.ref C) = true)
    (b : ∀ (kV doc pm : Value) (an : Option Addr) (cdv ct : Value) (us : List Value), us.length = ps.length → bindArgs (PySem.W.fnOf "__init__" q (defArgs st) (defBody st) (defScope st) .none kV doc pm an cdv ct) ⟨us, []⟩ = pure (ps.zip us))
    (ok : ∀ (f : Addr) (fd : FuncData), Fun K "__init__" q st f fd → FnOk P w K mg base CX0 k f fd ps sp) : MkP P w K mg base C k x ps sp := by
  obtain ⟨f, oc, od, an, osl, kV, dc, pm, cd, ct, a, i, l, c, kp⟩ := D
  have F := fun_mk (st := st) l c kp
  exact ⟨⟨f, _, ⟨mk, a, i, kc⟩, ok f _ F, F.binds b⟩, PySem.W.mg_of X G g⟩
end Tw
/-! TgA: pairs of sorts with choices; what is refused at once; what a case is in the heap. -/
namespace Tw
open PySem PySem.Spec PyProof.Rows L2
def So.okc (s : So) : Prop := ∃ cs, s.ok [] cs false
theorem So.okc.may {s : So} (h : (So.may s).okc) : s.okc ∧ s.isMay = false := by
  obtain ⟨cs, h⟩ := h
  have h : false = false ∧ s.ok [] cs true := h
  refine ⟨⟨cs, ok_weak h.2⟩, ?_⟩
  cases s with
  | may t => exact nomatch (show true = false ∧ _ from h.2).1
  | _ => rfl
theorem So.okc.row {n : Int} {s : So} (h : (So.row n s).okc) : s.okc ∧ 0 ≤ n ∧ n ≤ 20 := by
  obtain ⟨cs, h⟩ := h
  have h : 0 ≤ n ∧ n ≤ 20 ∧ s.ok [] cs false := h
  exact ⟨⟨cs, h.2.2⟩, h.1, h.2.1⟩
theorem So.okc.nod {k : Str} (h : (So.nod k).okc) : False := by
  obtain ⟨cs, h⟩ := h
  have h : isNm k = true ∧ k ∈ ([] : List Str) := h
  exact nomatch h.2
theorem So.okc.strip {s : So} (h : s.okc) : s.strip.okc ∧ s.strip.isMay = false := by
  cases s with
  | may t => exact h.may
  | num a b => exact ⟨h, rfl⟩
  | tru => exact ⟨h, rfl⟩
  | txt n => exact ⟨h, rfl⟩
  | row n t => exact ⟨h, rfl⟩
  | cho k => exact ⟨h, rfl⟩
  | nod k => exact h.nod.elim
inductive Pkc : So → So → Str → Prop
  | num (a b c d : Option Int) : Pkc (.num a b) (.num c d) "number"
  | tru : Pkc .tru .tru "truth"
  | txt (a b : Int) : Pkc (.txt a) (.txt b) "text"
  | row (a : Int) (s : So) (b : Int) (t : So) : Pkc (.row a s) (.row b t) "row"
  | cho (a b : Str) : Pkc (.cho a) (.cho b) "choice"
  | may (a b : So) : Pkc (.may a) (.may b) "maybe"
  | force (a n : So) : n.isMay = false → Pkc (.may a) n "force"
  | wrap (o b : So) : o.isMay = false → Pkc o (.may b) "wrap"
  | bad (o n : So) : o.isMay = false → n.isMay = false → o.word ≠ n.word → Pkc o n "bad"
theorem wne {a b : Str} (h : a = b) (k : a ≠ b) {p : Prop} : p := absurd h k
theorem pkc_same {o n : So} (ho : o.okc) (hn : n.okc) (h : o.word = n.word) : Pkc o n o.word := by
  cases o with
  | nod k => exact ho.nod.elim
  | num a b =>
    cases n with
    | num c d => exact .num _ _ _ _
    | nod k => exact hn.nod.elim
    | tru => exact wne h (show ("number" : Str) ≠ "truth" by decide +kernel)
    | txt m => exact wne h (show ("number" : Str) ≠ "text" by decide +kernel)
    | row m s => exact wne h (show ("number" : Str) ≠ "row" by decide +kernel)
    | cho c => exact wne h (show ("number" : Str) ≠ "choice" by decide +kernel)
    | may s => exact wne h (show ("number" : Str) ≠ "maybe" by decide +kernel)
  | tru =>
    cases n with
    | tru => exact .tru
    | nod k => exact hn.nod.elim
    | num c d => exact wne h (show ("truth" : Str) ≠ "number" by decide +kernel)
    | txt m => exact wne h (show ("truth" : Str) ≠ "text" by decide +kernel)
    | row m s => exact wne h (show ("truth" : Str) ≠ "row" by decide +kernel)
    | cho c => exact wne h (show ("truth" : Str) ≠ "choice" by decide +kernel)
    | may s => exact wne h (show ("truth" : Str) ≠ "maybe" by decide +kernel)
  | txt k =>
    cases n with
    | txt m => exact .txt _ _
    | nod k => exact hn.nod.elim
    | num c d => exact wne h (show ("text" : Str) ≠ "number" by decide +kernel)
    | tru => exact wne h (show ("text" : Str) ≠ "truth" by decide +kernel)
    | row m s => exact wne h (show ("text" : Str) ≠ "row" by decide +kernel)
    | cho c => exact wne h (show ("text" : Str) ≠ "choice" by decide +kernel)
    | may s => exact wne h (show ("text" : Str) ≠ "maybe" by decide +kernel)
  | row k t =>
    cases n with
    | row m s => exact .row _ _ _ _
    | nod k => exact hn.nod.elim
    | num c d => exact wne h (show ("row" : Str) ≠ "number" by decide +kernel)
    | tru => exact wne h (show ("row" : Str) ≠ "truth" by decide +kernel)
    | txt m => exact wne h (show ("row" : Str) ≠ "text" by decide +kernel)
    | cho c => exact wne h (show ("row" : Str) ≠ "choice" by decide +kernel)
    | may s => exact wne h (show ("row" : Str) ≠ "maybe" by decide +kernel)
  | cho k =>
    cases n with
    | cho c => exact .cho _ _
    | nod k => exact hn.nod.elim
    | num c d => exact wne h (show ("choice" : Str) ≠ "number" by decide +kernel)
    | tru => exact wne h (show ("choice" : Str) ≠ "truth" by decide +kernel)
    | txt m => exact wne h (show ("choice" : Str) ≠ "text" by decide +kernel)
    | row m s => exact wne h (show ("choice" : Str) ≠ "row" by decide +kernel)
    | may s => exact wne h (show ("choice" : Str) ≠ "maybe" by decide +kernel)
  | may t =>
    cases n with
    | may s => exact .may _ _
    | nod k => exact hn.nod.elim
    | num c d => exact wne h (show ("maybe" : Str) ≠ "number" by decide +kernel)
    | tru => exact wne h (show ("maybe" : Str) ≠ "truth" by decide +kernel)
    | txt m => exact wne h (show ("maybe" : Str) ≠ "text" by decide +kernel)
    | row m s => exact wne h (show ("maybe" : Str) ≠ "row" by decide +kernel)
    | cho c => exact wne h (show ("maybe" : Str) ≠ "choice" by decide +kernel)
theorem pkc_of {o n : So} (ho : o.okc) (hn : n.okc) : Pkc o n (pwS o n) := by
  unfold pwS
  by_cases h1 : o.word = n.word
  · rw [if_pos h1]
    exact pkc_same ho hn h1
  · rw [if_neg h1]
    by_cases h2 : o.word = "maybe"
    · rw [if_pos h2]
      obtain ⟨a, rfl⟩ := is_may h2
      exact .force a n (not_may fun e => h1 (h2.trans e.symm))
    · rw [if_neg h2]
      by_cases h3 : n.word = "maybe"
      · rw [if_pos h3]
        obtain ⟨b, rfl⟩ := is_may h3
        exact .wrap o b (not_may h2)
      · rw [if_neg h3]
        exact .bad o n (not_may h2) (not_may h3) h1
/-- why a thing is refused at its pair -/
def vfc : So → So → PyData → Option Str
  | .num _ _, .num lo hi, .int x => if withinB x lo hi = true then none else some "bounds"
  | .txt _, .txt m, .str z => if (z.length : Int) > m then some "most" else none
  | .row _ _, .row m _, .tuple ds => if (ds.length : Int) > m then some "most" else none
  | .tru, .tru, _ => none
  | .cho _, .cho _, _ => none
  | .may _, .may _, _ => none
  | .may _, _, d => if isNone d = true then some "nothing" else none
  | _, .may _, _ => none
  | _, _, _ => some "sort"
theorem vfc_bad {o n : So} {d : PyData} (h1 : o.isMay = false) (h2 : n.isMay = false) (h3 : o.word ≠ n.word) : vfc o n d = some "sort" := by
  cases o <;> cases n <;> first
    | exact absurd rfl h3
    | exact absurd h1 (show ¬ (true = false) by decide)
    | exact absurd h2 (show ¬ (true = false) by decide)
    | rfl
    | (cases d <;> rfl)
theorem vfc_force {a n : So} {d : PyData} (h : n.isMay = false) : vfc (.may a) n d = if isNone d = true then some "nothing" else none := by
  cases n <;> first
    | exact absurd h (show ¬ (true = false) by decide)
    | rfl
    | (cases d <;> rfl)
theorem vfc_wrap {o b : So} {d : PyData} (h : o.isMay = false) : vfc o (.may b) d = none := by
  cases o <;> first
    | exact absurd h (show ¬ (true = false) by decide)
    | rfl
    | (cases d <;> rfl)
section
variable {TO TN : Ch} {rec : So → So → List PyData → PyData → Rs} {r1 : So → PyData → Prop}
theorem dueX_bad {o n : So} {rp : List PyData} {d : PyData} (h1 : o.isMay = false) (h2 : n.isMay = false) (h3 : o.word ≠ n.word) : dueX rec TO TN o n rp d = .ref rp "sort" := by
  cases o <;> cases n <;> first
    | exact absurd rfl h3
    | exact absurd h1 (show ¬ (true = false) by decide)
    | exact absurd h2 (show ¬ (true = false) by decide)
    | rfl
    | (cases d <;> rfl)
theorem dueX_vf {o n : So} {d : PyData} {rp : List PyData} {w x : Str} (k : Pkc o n x) (ht : ThX r1 TO o d) (h : vfc o n d = some w) : dueX rec TO TN o n rp d = .ref rp w := by
  cases k with
  | num a b c e =>
    obtain ⟨z, rfl⟩ := ht.num
    have h : (if withinB z c e = true then none else some ("bounds" : Str)) = some w := h
    show (if withinB z c e = true then Rs.told (.int z) else .ref rp "bounds") = _
    by_cases g : withinB z c e = true
    · rw [if_pos g] at h; cases h
    · rw [if_neg g] at h; cases h; rw [if_neg g]
  | tru => cases h
  | cho a b => cases h
  | txt a b =>
    obtain ⟨z, rfl, _⟩ := ht.txt
    have h : (if (z.length : Int) > b then some ("most" : Str) else none) = some w := h
    show (if (z.length : Int) > b then Rs.ref rp "most" else .told (.str z)) = _
    by_cases g : (z.length : Int) > b
    · rw [if_pos g] at h; cases h; rw [if_pos g]
    · rw [if_neg g] at h; cases h
  | row a s b t =>
    obtain ⟨ds, rfl, _⟩ := ht.row
    have h : (if (ds.length : Int) > b then some ("most" : Str) else none) = some w := h
    show (if (ds.length : Int) > b then Rs.ref rp "most" else _) = _
    by_cases g : (ds.length : Int) > b
    · rw [if_pos g] at h; cases h; rw [if_pos g]
    · rw [if_neg g] at h; cases h
  | may a b => cases h
  | force a n hn =>
    rw [vfc_force hn] at h
    show (if isNone d = true then (if n.isMay = true then Rs.told .none else .ref rp "nothing") else _) = _
    by_cases g : isNone d = true
    · rw [if_pos g] at h; cases h; rw [if_pos g, hn]; rfl
    · rw [if_neg g] at h; cases h
  | wrap o b ho =>
    rw [vfc_wrap ho] at h
    cases h
  | bad o n h1 h2 h3 =>
    rw [vfc_bad h1 h2 h3] at h
    cases h
    exact dueX_bad h1 h2 h3
theorem dueX_leaf {o n : So} {d : PyData} {rp : List PyData} {x : Str} (k : Pkc o n x) (ht : ThX r1 TO o d) (h : vfc o n d = none) (hx : x = "number" ∨ x = "truth" ∨ x = "text") : dueX rec TO TN o n rp d = .told d := by
  cases k with
  | num a b c e =>
    obtain ⟨z, rfl⟩ := ht.num
    have h : (if withinB z c e = true then none else some ("bounds" : Str)) = none := h
    show (if withinB z c e = true then Rs.told (.int z) else .ref rp "bounds") = _
    by_cases g : withinB z c e = true
    · rw [if_pos g]
    · rw [if_neg g] at h; cases h
  | tru => rfl
  | txt a b =>
    obtain ⟨z, rfl, _⟩ := ht.txt
    have h : (if (z.length : Int) > b then some ("most" : Str) else none) = none := h
    show (if (z.length : Int) > b then Rs.ref rp "most" else .told (.str z)) = _
    by_cases g : (z.length : Int) > b
    · rw [if_pos g] at h; cases h
    · rw [if_neg g]
  | row a s b t => exact absurd hx (by decide +kernel)
  | cho a b => exact absurd hx (by decide +kernel)
  | may a b => exact absurd hx (by decide +kernel)
  | force a n hn => exact absurd hx (by decide +kernel)
  | wrap o b ho => exact absurd hx (by decide +kernel)
  | bad o n h1 h2 h3 => exact absurd hx (by decide +kernel)
theorem dueX_row {a b : Int} {s t : So} {ds : List PyData} {rp : List PyData} (h : vfc (.row a s) (.row b t) (.tuple ds) = none) : dueX rec TO TN (.row a s) (.row b t) rp (.tuple ds) = rowEnd (rowDue (fun p e => dueX rec TO TN s t p e) rp 0 ds) := by
  have h : (if (ds.length : Int) > b then some ("most" : Str) else none) = none := h
  show (if (ds.length : Int) > b then Rs.ref rp "most" else rowEnd (rowDue (fun p e => dueX rec TO TN s t p e) rp 0 ds)) = _
  by_cases g : (ds.length : Int) > b
  · rw [if_pos g] at h; cases h
  · rw [if_neg g]
end
theorem dueX_strip {TO TN : Ch} {rec : So → So → List PyData → PyData → Rs} {o n : So} (h : o.isMay = false) (hs : n.strip.isMay = false) (rp : List PyData) (d : PyData) : dueX rec TO TN o n.strip rp d = dueX rec TO TN o n rp d := by
  have e := strip_of hs
  cases o with
  | may a => exact nomatch h
  | num a b => unfold dueX; rw [e]
  | tru => unfold dueX; rw [e]
  | txt k => unfold dueX; rw [e]
  | row k a => unfold dueX; rw [e]
  | cho k => unfold dueX; rw [e]
  | nod k => rfl
mutual
/-- no cases in it -/
def plainD : PyData → Bool
  | .tuple ds => plainL ds
  | .list _ => false
  | _ => true
def plainL : List PyData → Bool
  | [] => true
  | d :: r => plainD d && plainL r
end
theorem plain_way : ∀ {rp : List PyData}, plainL rp = true → plainD (wayR rp) = true
  | [], _ => rfl
  | s :: r, h => by
    rw [plainL, Bool.and_eq_true] at h
    show plainL [wayR r, s] = true
    rw [plainL, plainL, plainL, plain_way h.2, h.1]
    rfl
/-- enough has been made for what is to be done -/
def okNc : List Jc → Nat → Prop
  | [], m => 1 ≤ m
  | .turn _ _ _ _ :: J, m => okNc J (m + 1)
  | .row k :: J, m => k ≤ m ∧ okNc J (m - k + 1)
  | .cas _ :: J, m => 1 ≤ m ∧ okNc J m
theorem okNc_turns {a b : So} {rp : List PyData} {J : List Jc} : ∀ {ds : List PyData} {k m : Nat}, okNc J (m + ds.length) → okNc (turnsC a b rp k ds ++ J) m
  | [], _, _, h => h
  | d :: r, k, m, h => by
    show okNc (turnsC a b rp (k + 1) r ++ J) (m + 1)
    refine okNc_turns ?_
    rw [List.length_cons] at h
    rw [show m + 1 + r.length = m + (r.length + 1) by omega]
    exact h
theorem okNc_row {a b : So} {rp : List PyData} {J : List Jc} {ds : List PyData} {m : Nat} (h : okNc J (m + 1)) : okNc (turnsC a b rp 0 ds ++ .row ds.length :: J) m :=
  okNc_turns (And.intro (Nat.le_add_left _ _) (by rw [Nat.add_sub_cancel]; exact h))
def JOkc (TO : Ch) (cn : List Str) : Jc → Prop
  | .turn o n d rp => o.okc ∧ n.ok [] cn false ∧ ThC TO o d ∧ rp.length + (Jc.turn o n d rp).w ≤ 100000 ∧ plainL rp = true
  | _ => True
theorem jokc_turns {TO : Ch} {cn : List Str} {a b : So} {rp : List PyData} (ha : a.okc) (hb : b.ok [] cn false) (hp : plainL rp = true) : ∀ {ds : List PyData} {k : Nat}, rp.length + 1 + wtL ds ≤ 100000 → (∀ d ∈ ds, ThC TO a d) → ∀ j ∈ turnsC a b rp k ds, JOkc TO cn j
  | [], _, _, _, j, hj => nomatch hj
  | d :: r, k, hr, h, j, hj => by
    have e : wtL (d :: r) = wt d + 2 + wtL r := by rw [wtL]
    have h1 := b01_le (b := a.isMay)
    have h2 := b01_le (b := b.isMay)
    rcases List.mem_cons.mp hj with rfl | hj
    · refine And.intro ha (And.intro hb (And.intro (h d List.mem_cons_self) (And.intro ?_ (by rw [plainL, hp]; rfl))))
      show rp.length + 1 + (wt d + b01 a.isMay + b01 b.isMay) ≤ 100000
      omega
    · exact jokc_turns ha hb hp (by omega) (fun e he => h e (List.mem_cons_of_mem _ he)) j hj
theorem turnsC_snoc {a b : So} {rp : List PyData} : ∀ {ds : List PyData} {k : Nat} {d : PyData}, turnsC a b rp k (ds ++ [d]) = turnsC a b rp k ds ++ [.turn a b d (.int ((k + ds.length : Nat) : Int) :: rp)]
  | [], k, d => rfl
  | e :: r, k, d => by
    show _ :: turnsC a b rp (k + 1) (r ++ [d]) = _ :: (turnsC a b rp (k + 1) r ++ _)
    rw [turnsC_snoc, List.length_cons, show k + 1 + r.length = k + (r.length + 1) by omega]
theorem turnsC_len {a b : So} {rp : List PyData} : ∀ {ds : List PyData} {k : Nat}, (turnsC a b rp k ds).length = ds.length
  | [], _ => rfl
  | _ :: r, _ => congrArg (· + 1) turnsC_len
end Tw
/-! TgH: things with cases in the heap. -/
namespace Tw
open PySem PySem.Spec PyProof.Rows L2 LamX
def caF (w : Str) (v : V) : List (Str × V) := [(("word" : Str), .str w), (("content" : Str), v)]
mutual
/-- v is the thing d; C is the class of cases -/
inductive Tc (K : PySem.W.Frag) (C : Addr) (H : Hp) : V → PyData → Prop
  | non : Tc K C H .non .none
  | bl (b : Bool) : Tc K C H (.bl b) (.bool b)
  | int (n : Int) : Tc K C H (.int n) (.int n)
  | str (s : Str) : Tc K C H (.str s) (.str s)
  | tup {a : Addr} {xs : List V} {ds : List PyData} : SqT K H a xs → Tcs K C H xs ds → Tc K C H (.ref a) (.tuple ds)
  | cas {a dx : Addr} {w : Str} {v : V} {c : PyData} : H a = some (.ins C dx (caF w v)) → Tc K C H v c → Tc K C H (.ref a) (caseP w c)
inductive Tcs (K : PySem.W.Frag) (C : Addr) (H : Hp) : List V → List PyData → Prop
  | nil : Tcs K C H [] []
  | cons {x : V} {xs : List V} {d : PyData} {ds : List PyData} : Tc K C H x d → Tcs K C H xs ds → Tcs K C H (x :: xs) (d :: ds)
end
structure KeepC (K : PySem.W.Frag) (C : Addr) (H H' : Hp) : Prop where
  t : KeepT K H H'
  c : ∀ a dx fs, H a = some (.ins C dx fs) → H' a = some (.ins C dx fs)
section
variable {K : PySem.W.Frag} {C : Addr} {H H' H1 H2 : Hp}
theorem KeepC.same (s : Same H H') : KeepC K C H H' := ⟨KeepT.same s, fun a dx fs e => s _ _ e⟩
theorem KeepC.extN (s : ExtN H H') : KeepC K C H H' := ⟨KeepT.extN s, fun a dx fs e => s _ _ e fun _ z => nomatch z⟩
theorem KeepC.trans (a : KeepC K C H H1) (b : KeepC K C H1 H2) : KeepC K C H H2 := ⟨a.t.trans b.t, fun c dx fs e => b.c _ _ _ (a.c _ _ _ e)⟩
theorem KeepC.refl : KeepC K C H H := KeepC.same (Same.refl _)
mutual
theorem Tc.keep (k : KeepC K C H H') : ∀ {v : V} {d : PyData}, Tc K C H v d → Tc K C H' v d
  | _, _, .non => .non
  | _, _, .bl b => .bl b
  | _, _, .int n => .int n
  | _, _, .str s => .str s
  | _, _, .tup h r => .tup (k.t _ _ h) (Tcs.keep k r)
  | _, _, .cas h r => .cas (k.c _ _ _ h) (Tc.keep k r)
theorem Tcs.keep (k : KeepC K C H H') : ∀ {v : List V} {d : List PyData}, Tcs K C H v d → Tcs K C H' v d
  | _, _, .nil => .nil
  | _, _, .cons h r => .cons (Tc.keep k h) (Tcs.keep k r)
end
mutual
theorem Td.tc : ∀ {v : V} {d : PyData}, Td K H v d → Tc K C H v d
  | _, _, .non => .non
  | _, _, .bl b => .bl b
  | _, _, .int n => .int n
  | _, _, .str s => .str s
  | _, _, .tup h r => .tup h (Tds.tc r)
theorem Tds.tc : ∀ {v : List V} {d : List PyData}, Tds K H v d → Tcs K C H v d
  | _, _, .nil => .nil
  | _, _, .cons h r => .cons (Td.tc h) (Tds.tc r)
end
mutual
theorem Tc.td : ∀ {v : V} {d : PyData}, Tc K C H v d → plainD d = true → Td K H v d
  | _, _, .non, _ => .non
  | _, _, .bl b, _ => .bl b
  | _, _, .int n, _ => .int n
  | _, _, .str s, _ => .str s
  | _, _, .tup h r, p => .tup h (Tcs.tds r (by rw [plainD] at p; exact p))
  | _, _, .cas h r, p => by
    unfold caseP at p
    rw [plainD] at p
    cases p
theorem Tcs.tds : ∀ {v : List V} {d : List PyData}, Tcs K C H v d → plainL d = true → Tds K H v d
  | _, _, .nil, _ => .nil
  | _, _, .cons h r, p => by
    rw [plainL, Bool.and_eq_true] at p
    exact .cons (Tc.td h p.1) (Tcs.tds r p.2)
end
theorem Tc.row {v : V} {ds : List PyData} (h : Tc K C H v (.tuple ds)) : ∃ a xs, v = .ref a ∧ SqT K H a xs ∧ Tcs K C H xs ds := by
  cases h with
  | tup q r => exact ⟨_, _, rfl, q, r⟩
theorem Tc.case {v : V} {w : Str} {c : PyData} (h : Tc K C H v (caseP w c)) : ∃ a dx u, v = .ref a ∧ H a = some (.ins C dx (caF w u)) ∧ Tc K C H u c := by
  generalize e : caseP w c = d at h
  cases h with
  | cas q r =>
    unfold caseP at e
    injection e with e
    injection e with e1 e2
    injection e1 with e1
    injection e2 with e2
    subst e1 e2
    exact ⟨_, _, _, rfl, q, r⟩
  | _ => cases e
theorem Tc.toInt {v : V} {n : Int} (h : Tc K C H v (.int n)) : v = .int n := by cases h; rfl
theorem Tc.toStr {v : V} {s : Str} (h : Tc K C H v (.str s)) : v = .str s := by cases h; rfl
theorem Tc.toBool {v : V} {b : Bool} (h : Tc K C H v (.bool b)) : v = .bl b := by cases h; rfl
theorem Tc.toNone {v : V} (h : Tc K C H v .none) : v = .non := by cases h; rfl
theorem Tcs.len : ∀ {xs : List V} {ds : List PyData}, Tcs K C H xs ds → xs.length = ds.length
  | _, _, .nil => rfl
  | _, _, .cons _ r => congrArg (· + 1) (Tcs.len r)
theorem Tcs.append : ∀ {xs ys : List V} {ds es : List PyData}, Tcs K C H xs ds → Tcs K C H ys es → Tcs K C H (xs ++ ys) (ds ++ es)
  | _, _, _, _, .nil, t => t
  | _, _, _, _, .cons h r, t => .cons h (Tcs.append r t)
theorem Tcs.rev : ∀ {xs : List V} {ds : List PyData}, Tcs K C H xs ds → Tcs K C H xs.reverse ds.reverse
  | _, _, .nil => .nil
  | _, _, .cons h r => by
    rw [List.reverse_cons, List.reverse_cons] <;> exact Tcs.append (Tcs.rev r) (.cons h .nil)
theorem Tcs.at_ : ∀ {xs : List V} {ds : List PyData} {i : Nat} {x : V}, Tcs K C H xs ds → xs[i]? = some x → ∃ d, ds[i]? = some d ∧ Tc K C H x d
  | _, _, 0, _, .cons h _, e => ⟨_, rfl, by cases e; exact h⟩
  | _, _, i + 1, _, .cons _ r, e => Tcs.at_ (i := i) r e
theorem Tcs.take : ∀ {xs : List V} {ds : List PyData} (i : Nat), Tcs K C H xs ds → Tcs K C H (xs.take i) (ds.take i)
  | _, _, 0, _ => .nil
  | _, _, _ + 1, .nil => .nil
  | _, _, i + 1, .cons h r => .cons h (Tcs.take i r)
theorem Tcs.drop : ∀ {xs : List V} {ds : List PyData} (i : Nat), Tcs K C H xs ds → Tcs K C H (xs.drop i) (ds.drop i)
  | _, _, 0, h => h
  | _, _, _ + 1, .nil => .nil
  | _, _, i + 1, .cons _ r => Tcs.drop i r
variable {xs : List V} {d1 d2 d3 d4 : PyData}
theorem Tcs.c1 (h : Tcs K C H xs [d1]) : ∃ x, xs = [x] ∧ Tc K C H x d1 := by
  cases h with
  | cons t1 t2 => cases t2; exact ⟨_, rfl, t1⟩
theorem Tcs.c2 (h : Tcs K C H xs [d1, d2]) : ∃ x y, xs = [x, y] ∧ Tc K C H x d1 ∧ Tc K C H y d2 := by
  cases h with
  | cons t1 t2 => obtain ⟨y, rfl, h⟩ := t2.c1; exact ⟨_, _, rfl, t1, h⟩
theorem Tcs.c3 (h : Tcs K C H xs [d1, d2, d3]) : ∃ x y z, xs = [x, y, z] ∧ Tc K C H x d1 ∧ Tc K C H y d2 ∧ Tc K C H z d3 := by
  cases h with
  | cons t1 t2 => obtain ⟨y, z, rfl, h⟩ := t2.c2; exact ⟨_, _, _, rfl, t1, h⟩
theorem Tcs.c4 (h : Tcs K C H xs [d1, d2, d3, d4]) : ∃ x y z u, xs = [x, y, z, u] ∧ Tc K C H x d1 ∧ Tc K C H y d2 ∧ Tc K C H z d3 ∧ Tc K C H u d4 := by
  cases h with
  | cons t1 t2 => obtain ⟨y, z, u, rfl, h⟩ := t2.c3; exact ⟨_, _, _, _, rfl, t1, h⟩
theorem Tcs.last {ds : List PyData} {d : PyData} : ∀ {xs : List V}, Tcs K C H xs (ds ++ [d]) → ∃ xs0 x, xs = xs0 ++ [x] ∧ Tcs K C H xs0 ds ∧ Tc K C H x d := by
  induction ds with
  | nil =>
    intro xs h
    obtain ⟨x, rfl, h2⟩ := Tcs.c1 h
    exact ⟨[], x, rfl, .nil, h2⟩
  | cons e r ih =>
    intro xs h
    cases h with
    | cons t1 t2 =>
      obtain ⟨xs0, x, rfl, h1, h2⟩ := ih t2
      exact ⟨_ :: xs0, x, rfl, .cons t1 h1, h2⟩
end
theorem plain_oI (o : Option Int) : plainD (oI o) = true := by cases o <;> rfl
theorem plain_so : ∀ s : So, plainD s.pd = true
  | .num lo hi => by
    show plainL [.str "number", oI lo, oI hi] = true
    rw [plainL, plainL, plainL, plainL, plain_oI, plain_oI]
    rfl
  | .tru => rfl
  | .txt n => rfl
  | .row n s => by
    show plainL [.str "row", .int n, s.pd] = true
    rw [plainL, plainL, plainL, plainL, plain_so s]
    rfl
  | .may s => by
    show plainL [.str "maybe", s.pd] = true
    rw [plainL, plainL, plainL, plain_so s]
    rfl
  | .nod k => rfl
  | .cho k => rfl
theorem plain_pair (o n : So) : plainD (.tuple [o.pd, n.pd]) = true := by
  show plainL [o.pd, n.pd] = true
  rw [plainL, plainL, plainL, plain_so, plain_so]
  rfl
end Tw
/-! TgT: the rows of choices, looked up. -/
namespace Tw
open PySem PySem.Spec PyProof.Rows L2 LamX
theorem find_one {α : Type} {p : α → Bool} : ∀ {l : List α} {x : α}, x ∈ l → p x = true → (∀ y ∈ l, p y = true → y = x) → l.find? p = some x
  | [], _, h, _, _ => nomatch h
  | y :: r, x, h, hp, u => by
    rw [List.find?_cons]
    cases hy : p y with
    | true => rw [u y List.mem_cons_self hy]
    | false =>
      rcases List.mem_cons.mp h with rfl | h
      · rw [hp] at hy
        cases hy
      · exact find_one h hp fun z hz => u z (List.mem_cons_of_mem _ hz)
theorem find_same {α : Type} {p : α → Bool} {l m : List α} (hm : ∀ x, x ∈ l ↔ x ∈ m) (u : ∀ x ∈ l, ∀ y ∈ l, p x = true → p y = true → y = x) : l.find? p = m.find? p := by
  cases h : l.find? p with
  | none =>
    rw [List.find?_eq_none] at h
    exact (List.find?_eq_none.mpr fun x hx => h x ((hm x).mpr hx)).symm
  | some x =>
    have h1 := List.mem_of_find?_eq_some h
    have h2 := List.find?_some h
    exact (find_one ((hm x).mp h1) h2 fun y hy hp => u x h1 y ((hm y).mpr hy) h2 hp).symm
theorem mem_sortEn {es : List En} (x : En) : x ∈ sortEn es ↔ x ∈ es := (List.mergeSort_perm es _).mem_iff
/-- the rows of a table, by name -/
def chT (tb : List TRow) : Ch := fun c => match tb.find? fun r => decide (r.1 = c) with
  | some r => r.2
  | none => []
/-- rows of choices that may stand -/
structure ChOk (tb : List TRow) : Prop where
  t : TabOk false [] (tb.map Prod.fst) tb
  n : (tb.map Prod.fst).Nodup
theorem RowOk.uniq {k : Bool} {ks cs : List Str} {es : List En} (h : RowOk k ks cs es) : ∀ {i j : Nat} {a b : En}, es[i]? = some a → es[j]? = some b → (a.name = b.name ∨ a.num = b.num) → i = j := by
  have key : ∀ {i j : Nat} {a b : En}, i < j → es[i]? = some a → es[j]? = some b → (a.name = b.name ∨ a.num = b.num) → False := fun {i j a b} hij ha hb e => by
    have ok := h j b hb
    have m : a ∈ es.take j := List.mem_of_getElem? (i := i) (by rw [List.getElem?_take_of_lt hij]; exact ha)
    rcases e with e | e
    · exact ok.newN (List.mem_map.mpr ⟨a, m, e⟩)
    · exact ok.newI (List.mem_map.mpr ⟨a, m, e⟩)
  intro i j a b ha hb e
  rcases Nat.lt_trichotomy i j with hij | hij | hij
  · exact (key hij ha hb e).elim
  · exact hij
  · exact (key hij hb ha (e.imp Eq.symm Eq.symm)).elim
theorem RowOk.at_ {k : Bool} {ks cs : List Str} {es : List En} (h : RowOk k ks cs es) {e : En} (he : e ∈ es) : ∃ l, EnOk k ks cs l e := by
  obtain ⟨i, hi⟩ := List.getElem?_of_mem he
  exact ⟨_, h i e hi⟩
theorem RowOk.eq {k : Bool} {ks cs : List Str} {es : List En} (h : RowOk k ks cs es) {a b : En} (ha : a ∈ es) (hb : b ∈ es) (e : a.name = b.name ∨ a.num = b.num) : b = a := by
  obtain ⟨i, hi⟩ := List.getElem?_of_mem ha
  obtain ⟨j, hj⟩ := List.getElem?_of_mem hb
  have e := h.uniq hi hj e
  subst e
  rw [hi] at hj
  cases hj
  rfl
theorem RowOk.name {k : Bool} {ks cs : List Str} {es : List En} (h : RowOk k ks cs es) (w : Str) : enName (sortEn es) w = enName es w := find_same (fun x => mem_sortEn x) fun x hx y hy p1 p2 =>
  h.eq ((mem_sortEn x).mp hx) ((mem_sortEn y).mp hy) (.inl ((of_decide_eq_true p1).trans (of_decide_eq_true p2).symm))
theorem RowOk.num {k : Bool} {ks cs : List Str} {es : List En} (h : RowOk k ks cs es) (w : Int) : enNum (sortEn es) w = enNum es w := find_same (fun x => mem_sortEn x) fun x hx y hy p1 p2 =>
  h.eq ((mem_sortEn x).mp hx) ((mem_sortEn y).mp hy) (.inr ((of_decide_eq_true p1).trans (of_decide_eq_true p2).symm))
theorem RowOk.read {k : Bool} {ks cs : List Str} {es : List En} (h : RowOk k ks cs es) (w : Int) : enRead (sortEn es) w = enRead es w := by
  unfold enRead
  rw [h.num, h.num]
theorem ch_left {ks cs : List Str} {l : List En} {e : En} (h : EnOk false ks cs l e) : e.left = none := by
  cases ho : e.of with
  | none => exact (h.none ho).2
  | some s =>
    cases hl : e.left with
    | none => rfl
    | some d => exact nomatch ((h.some s ho).2.2 d hl).1
theorem enName_mem {es : List En} {w : Str} {e : En} (h : enName es w = some e) : e ∈ es ∧ e.name = w := ⟨List.mem_of_find?_eq_some h, of_decide_eq_true (List.find?_some (p := fun e : En => decide (e.name = w)) h)⟩
theorem enNum_mem {es : List En} {w : Int} {e : En} (h : enNum es w = some e) : e ∈ es ∧ e.num = w := ⟨List.mem_of_find?_eq_some h, of_decide_eq_true (List.find?_some (p := fun e : En => decide (e.num = w)) h)⟩
theorem enRead_mem {es : List En} {w : Int} {e : En} (h : enRead es w = some e) : e ∈ es := by
  unfold enRead at h
  cases hn : enNum es w with
  | some f =>
    rw [hn] at h
    cases h
    exact (enNum_mem hn).1
  | none =>
    rw [hn] at h
    exact (enNum_mem h).1
theorem chT_of {tb : List TRow} (n : (tb.map Prod.fst).Nodup) {r : TRow} (h : r ∈ tb) : chT tb r.1 = r.2 := by
  have e : tb.find? (fun q => decide (q.1 = r.1)) = some r := find_one h (decide_eq_true rfl) fun y hy hp => by
    have hp : y.1 = r.1 := of_decide_eq_true hp
    obtain ⟨i, hi⟩ := List.getElem?_of_mem h
    obtain ⟨j, hj⟩ := List.getElem?_of_mem hy
    have hi2 : (tb.map Prod.fst)[i]? = some r.1 := by rw [List.getElem?_map, hi] <;> rfl
    have hj2 : (tb.map Prod.fst)[j]? = some r.1 := by rw [List.getElem?_map, hj, ← hp] <;> rfl
    have hl : i < (tb.map Prod.fst).length := (List.getElem?_eq_some_iff.mp hi2).1
    have e := (List.getElem?_inj hl n).mp (hi2.trans hj2.symm)
    subst e
    rw [hi] at hj
    cases hj
    rfl
  unfold chT
  rw [e]
theorem chT_row {tb : List TRow} {c : Str} {e : En} (h : e ∈ chT tb c) : ∃ r ∈ tb, r.1 = c ∧ chT tb c = r.2 := by
  unfold chT at h ⊢
  cases hf : tb.find? (fun q => decide (q.1 = c)) with
  | none =>
    rw [hf] at h
    exact nomatch h
  | some r => exact ⟨r, List.mem_of_find?_eq_some hf, of_decide_eq_true (List.find?_some (p := fun q : TRow => decide (q.1 = c)) hf), rfl⟩
theorem ChOk.row {tb : List TRow} (h : ChOk tb) {c : Str} (hc : c ∈ tb.map Prod.fst) : ∃ r ∈ tb, r.1 = c ∧ chT tb c = r.2 ∧ RowOk false [] (tb.map Prod.fst) r.2 := by
  obtain ⟨r, hr, rfl⟩ := List.mem_map.mp hc
  exact ⟨r, hr, rfl, chT_of h.n hr, (h.t r hr).2.1⟩
/-- what is refused at once of a case -/
def caseNow (eo : En) (en : List En) : Option Str := match enRead en eo.num with
  | none => some "case"
  | some f => match f.of with
    | none => none
    | some _ => match eo.of with
      | none => some "sort"
      | some _ => none
theorem due_now {TO TN : Ch} {a b w : Str} {c : PyData} {e : En} {rp : List PyData} {y : Str} (ht : ThC TO (.cho a) (caseP w c)) (he : enName (TO a) w = some e) (h : caseNow e (TN b) = some y) : dueC TO TN (.cho a) (.cho b) rp (caseP w c) = .ref rp y := by
  rw [dueC_x ht]
  show caseC (dueC TO TN) (TO a) (TN b) rp w c = _
  unfold caseC
  unfold caseNow at h
  rw [he]
  dsimp only
  cases h1 : enRead (TN b) e.num with
  | none =>
    rw [h1] at h
    cases h
    rfl
  | some f =>
    rw [h1] at h
    dsimp only at h ⊢
    cases h2 : f.of with
    | none =>
      rw [h2] at h
      cases h
    | some ni =>
      rw [h2] at h
      dsimp only at h ⊢
      cases h3 : e.of with
      | none =>
        rw [h3] at h
        cases h
        rfl
      | some oi =>
        rw [h3] at h
        cases h
theorem due_plainC {TO TN : Ch} {a b w : Str} {c : PyData} {e f : En} {rp : List PyData} (ht : ThC TO (.cho a) (caseP w c)) (he : enName (TO a) w = some e) (hf : enRead (TN b) e.num = some f) (ho : f.of = none) : dueC TO TN (.cho a) (.cho b) rp (caseP w c) = .told (caseP f.name .none) := by
  rw [dueC_x ht]
  show caseC (dueC TO TN) (TO a) (TN b) rp w c = _
  unfold caseC
  rw [he]
  dsimp only
  rw [hf]
  dsimp only
  rw [ho]
theorem due_goC {TO TN : Ch} {a b w : Str} {c : PyData} {e f : En} {rp : List PyData} {oi ni : So} (ht : ThC TO (.cho a) (caseP w c)) (he : enName (TO a) w = some e) (hf : enRead (TN b) e.num = some f) (ho : e.of = some oi) (hn : f.of = some ni) : dueC TO TN (.cho a) (.cho b) rp (caseP w c) = match dueC TO TN oi ni (caseS f.name :: rp) c with
    | .told v => .told (caseP f.name v)
    | .ref p x => .ref p x := by
  rw [dueC_x ht]
  show caseC (dueC TO TN) (TO a) (TN b) rp w c = _
  unfold caseC
  rw [he]
  dsimp only
  rw [hf]
  dsimp only
  rw [hn]
  dsimp only
  rw [ho] <;> (dsimp only; cases dueC TO TN oi ni (caseS f.name :: rp) c <;> rfl)
theorem ThC.may {TO : Ch} {a : So} {d : PyData} (h : ThC TO (.may a) d) : d = .none ∨ ThC TO a d := ThX.may (r1 := ThF TO 11) h
theorem ThC.row {TO : Ch} {n : Int} {s : So} {d : PyData} (h : ThC TO (.row n s) d) : ∃ ds, d = .tuple ds ∧ ds.length ≤ 6 ∧ ∀ e ∈ ds, ThC TO s e := ThX.row (r1 := ThF TO 11) h
theorem ThC.cho {TO : Ch} {a : Str} {d : PyData} (h : ThC TO (.cho a) d) : ∃ w c e, d = caseP w c ∧ enName (TO a) w = some e ∧ ((e.of = none ∧ c = .none) ∨ ∃ s, e.of = some s ∧ ThC TO s c) := by
  obtain ⟨w, c, e, h1, h2, h3⟩ := ThX.cho (r1 := ThF TO 11) h
  exact ⟨w, c, e, h1, h2, h3.imp_right fun ⟨s, g1, g2⟩ => ⟨s, g1, ThC.in_ g2⟩⟩
theorem due_mayC {TO TN : Ch} {a n : So} {rp : List PyData} {d : PyData} (h : ThC TO (.may a) d) (hd : d ≠ .none) : dueC TO TN (.may a) n rp d = dueC TO TN a n.strip (insideD :: rp) d := by
  have hn : isNone d = false := by cases d <;> first | rfl | exact absurd rfl hd
  rw [dueC_x h, dueC_x (h.may.resolve_left hd)]
  show (if isNone d = true then _ else dueX _ TO TN a n.strip (insideD :: rp) d) = _
  rw [hn]
  exact if_neg Bool.false_ne_true
theorem due_may0 {TO TN : Ch} {a b : So} {rp : List PyData} (h : ThC TO (.may a) .none) : dueC TO TN (.may a) (.may b) rp .none = .told .none := by
  rw [dueC_x h]
  rfl
theorem due_wrapC {TO TN : Ch} {o b : So} {rp : List PyData} {d : PyData} (h : ThC TO o d) (ho : o.isMay = false) (hb : b.isMay = false) : dueC TO TN o (.may b) rp d = dueC TO TN o b rp d := by
  rw [dueC_x h, dueC_x h]
  exact (dueX_strip (n := .may b) ho hb rp d).symm
theorem okn_may {cn : List Str} {b : So} (h : (So.may b).ok [] cn false) : b.ok [] cn false ∧ b.isMay = false := by
  have h : false = false ∧ b.ok [] cn true := h
  refine ⟨ok_weak h.2, ?_⟩
  cases b with
  | may t => exact nomatch (show true = false ∧ _ from h.2).1
  | _ => rfl
theorem okn_strip {cn : List Str} {b : So} (h : b.ok [] cn false) : b.strip.ok [] cn false := by
  cases b with
  | may t => exact (okn_may h).1
  | _ => exact h
theorem due_vfC {TO TN : Ch} {o n : So} {rp : List PyData} {d : PyData} {w x : Str} (k : Pkc o n x) (ht : ThC TO o d) (h : vfc o n d = some w) : dueC TO TN o n rp d = .ref rp w := dueX_vf k ht h
theorem due_leafC {TO TN : Ch} {o n : So} {rp : List PyData} {d : PyData} {x : Str} (k : Pkc o n x) (ht : ThC TO o d) (h : vfc o n d = none) (hx : x = "number" ∨ x = "truth" ∨ x = "text") : dueC TO TN o n rp d = .told d := dueX_leaf k ht h hx
end Tw
set_option maxHeartbeats 1000000
namespace K22
open PySem PySem.Spec PyProof.Rows L2 Tw Sb LamX
def oSo (o : Option So) : PyData := o.elim .none So.pd
/-- what a case may hold, of an old choice -/
def CtO (other : Str) : Option So → Prop
  | none => True
  | some (.num (some lo) (some hi)) => lo ≤ hi ∧ -10 ≤ lo ∧ hi ≤ 10
  | some .tru => True
  | some (.txt m) => 0 ≤ m ∧ m ≤ 10
  | some (.row n (.cho c)) => n = 2 ∧ c = other
  | some (.may (.cho c)) => c = other
  | _ => False
def spCtn (K : PySem.W.Frag) : Sp := fun vs H Q _ => ∃ (a : Addr) (other : Str), vs = [.ref a, .str other] ∧ IsW2 H a ∧ ∀ (v : V) (o : Option So) (H' : Hp), Td K H' v (oSo o) → CtO other o → Fv a H H' → Q v H'
section
variable {P : Program} {w : World} {K : PySem.W.Frag} {mg : Str → Option Value} {base : Heap}
theorem ok_draw {f : Addr} {fd : FuncData} (F : Fun K "_law_draw" "_law_draw" s__law_draw f fd) (T : Bu mg) : FnOk P w K mg base CX0 1 f fd ["_law_well", "_law_many"] spDraw2 := by
  refine F.ok sc__law_draw (fun vs H Q E h => ?_) (fun cdv A outer s H vs Q E hr h => ?_)
  · obtain ⟨a, m, rfl, _⟩ := h
    rfl
  · obtain ⟨a, m, rfl, ⟨x, y, hw⟩, m0, mM, q⟩ := h
    refine ⟨_, (pss_cons (ps_if (pt_cmpR op_ge (pe_ix (r := rIxL K) ix_list (pv 0) pe_int (fun _ _ => rfl)) (pe_op op_pow pe_int pe_int) (nomark _))
        (pss_cons (ps_set (i := 2) sc__law_draw.nd rfl (.inl rfl) (pe_op op_mod (pe_ix (r := rIxL K) ix_list (pv 0) pe_int (fun _ _ => rfl)) (pv 1)))
        (pss_cons (ps_asg (pe_op op_fdivW (pe_ix (r := rIxL K) ix_list (pv 0) pe_int (fun _ _ => rfl)) (pv 1)) (pg_sub (pv 0) pe_int set_list))
        (pss_one (ps_ret (pv 2)))))
        pss_nil)
      (pss_cons (ps_asg (pe_op op_add (pe_ix (r := rIxL K) ix_list (pv 0) pe_int (fun _ _ => rfl)) pe_int) (pg_sub (pv 0) pe_int set_list))
      (pss_cons (ps_set (i := 3) sc__law_draw.nd rfl (.inl rfl) (pe_op op_add (pe_op op_mod (pe_ix (r := rIxL K) ix_list (pv 0) pe_int (fun _ _ => rfl)) pe_int) (pe_op op_mul (pe_op op_fdivW (pe_ix (r := rIxL K) ix_list (pv 0) pe_int (fun _ _ => rfl)) pe_int) pe_int)))
      (pss_cons (ps_set (i := 3) sc__law_draw.nd rfl (.inl rfl) (pe_op op_mod (pe_op op_add (pe_op op_add (pv 3) (pe_op op_mul pe_int (pe_ix (r := rIxL K) ix_list (pv 0) pe_int (fun _ _ => rfl)))) pe_int) pe_int))
      (pss_cons (ps_set (i := 3) sc__law_draw.nd rfl (.inl rfl) (pe_op op_mod (pe_op op_pow (pv 3) pe_int) pe_int))
      (pss_cons (ps_set (i := 3) sc__law_draw.nd rfl (.inl rfl) (pe_op op_mod (pe_op op_mul (pv 3) (pe_op op_add (pe_op op_add (pe_op op_fdiv (pv 3) pe_int) pe_int) (pe_ix (r := rIxL K) ix_list (pv 0) pe_int (fun _ _ => rfl)))) pe_int))
      (pss_one (ps_ret (pe_op op_mod (pe_op op_fdiv (pe_op op_mod (pe_op op_mul (pv 3) (pe_op op_add (pe_op op_fdiv (pv 3) pe_int) pe_int)) pe_int) pe_int) (pv 1)))))))))), ?_⟩
    have S0 : ∀ {H' : Hp} {x y : Int}, H' a = some (.lst [.int x, .int y]) → SqL K H' a [.int x, .int y] := fun h => SqL.of h
    have em : ∀ v : Int, 0 ≤ v % m ∧ v % m < m := fun v => ⟨Int.emod_nonneg _ (by omega), Int.emod_lt_of_pos _ m0⟩
    refine ⟨.ref a, rfl, a, _, 0, .int x, rfl, rfl, S0 hw, rfl, 10, 18, rfl, rfl, ⟨by decide, by decide, by decide⟩, x, _, rfl, rfl, _, rfl, ?_⟩
    refine ite2 (fun g => ?_) (fun g => ?_)
    · refine ⟨.ref a, rfl, a, _, 0, .int x, rfl, rfl, S0 hw, rfl, _, rfl, x, m, rfl, rfl, m0, ?_⟩
      refine ⟨.ref a, rfl, a, _, 0, .int x, rfl, rfl, S0 hw, rfl, _, rfl, x, m, rfl, rfl, wide_div (b := 250) m0 mM (by decide) (by decide), ?_⟩
      refine ⟨_, rfl, a, _, 0, 0, rfl, rfl, hw, rfl, _, rfl, ?_⟩
      exact q _ _ (em x).1 (em x).2 ⟨fun b o n e => by rw [upd_ne n]; exact e, _, _, upd_same⟩
    · refine ⟨.ref a, rfl, a, _, 1, .int y, rfl, rfl, S0 hw, rfl, y, 1, rfl, rfl, ?_⟩
      refine ⟨_, rfl, a, _, 1, 1, rfl, rfl, hw, rfl, ?_⟩
      have hw3 : (upd H a (.lst [.int x, .int (y + 1)])) a = some (.lst [.int x, .int (y + 1)]) := upd_same
      have f3 : Fv a H (upd H a (.lst [.int x, .int (y + 1)])) := ⟨fun b o n e => by rw [upd_ne n]; exact e, _, _, upd_same⟩
      refine ⟨.ref a, rfl, a, _, 0, .int x, rfl, rfl, S0 hw3, rfl, _, 2147483647, rfl, rfl, (by show (0 : Int) < 2147483647; decide), .ref a, rfl, a, _, 0, .int x, rfl, rfl, S0 hw3, rfl, _, 2147483647, rfl, rfl, wide_div (b := 70) (by decide) (by decide) (by decide) (by decide), _, 30011, rfl, rfl, .inr ⟨by decide, by decide⟩, _, _, rfl, rfl, ?_⟩
      dsimp only
      generalize ((x % 2147483647 + x / 2147483647 * 30011) : Int) = n0
      refine ⟨_, rfl, .ref a, rfl, a, _, 1, .int (y + 1), rfl, rfl, S0 hw3, rfl, 69997, y + 1, rfl, rfl, .inl ⟨by decide, by decide⟩, n0, _, rfl, rfl, _, 1, rfl, rfl, _, 2147483647, rfl, rfl, (by show (0 : Int) < 2147483647; decide), ?_⟩
      dsimp only
      generalize hn1 : ((n0 + 69997 * (y + 1) + 1) % 2147483647 : Int) = n1
      have b1 : 0 ≤ n1 ∧ n1 < 2147483647 := by
        rw [← hn1]
        exact ⟨Int.emod_nonneg _ (by decide), Int.emod_lt_of_pos _ (by decide)⟩
      refine ⟨_, rfl, n1, 5, rfl, rfl, ⟨by decide, by decide, by omega⟩, _, 2147483647, rfl, rfl, (by show (0 : Int) < 2147483647; decide), ?_⟩
      dsimp only
      generalize hn2 : (n1 ^ (5 : Int).toNat % 2147483647 : Int) = n2
      have b2 : 0 ≤ n2 ∧ n2 < 2147483647 := by
        rw [← hn2]
        exact ⟨Int.emod_nonneg _ (by decide), Int.emod_lt_of_pos _ (by decide)⟩
      refine ⟨_, rfl, _, rfl, n2, 1013, rfl, rfl, ⟨by decide, by decide⟩, _, 70001, rfl, rfl, .ref a, rfl, a, _, 1, .int (y + 1), rfl, rfl, S0 hw3, rfl, _, y + 1, rfl, rfl, n2, _, rfl, rfl, .inl ⟨by omega, by omega⟩, _, 2147483629, rfl, rfl, (by show (0 : Int) < 2147483629; decide), ?_⟩
      dsimp only
      generalize hn3 : (n2 * (n2 / 1013 + 70001 + (y + 1)) % 2147483629 : Int) = n3
      have b3 : 0 ≤ n3 ∧ n3 < 2147483629 := by
        rw [← hn3]
        exact ⟨Int.emod_nonneg _ (by decide), Int.emod_lt_of_pos _ (by decide)⟩
      refine ⟨_, rfl, _, rfl, n3, 2017, rfl, rfl, ⟨by decide, by decide⟩, _, 40009, rfl, rfl, n3, _, rfl, rfl, .inl ⟨by omega, by omega⟩, _, 2147483587, rfl, rfl, (by show (0 : Int) < 2147483587; decide), _, 3, rfl, rfl, ⟨by decide, by decide⟩, _, rfl, _, m, rfl, rfl, m0, ?_⟩
      exact q _ _ (em _).1 (em _).2 f3
theorem ok_content {f : Addr} {fd : FuncData} (F : Fun K "_law_content" "_law_content" s__law_content f fd) (c__law_draw : Cal P w K mg base 1 "_law_draw" ["_law_well", "_law_many"] spDraw2) : FnOk P w K mg base CX0 2 f fd ["_law_well", "_law_other"] (spCtn K) := by
  refine F.ok sc__law_content (fun vs H Q E h => ?_) (fun cdv A outer s H vs Q E hr h => ?_)
  · obtain ⟨a, o, rfl, _⟩ := h
    rfl
  · obtain ⟨a, other, rfl, hw, q⟩ := h
    refine ⟨_, (pss_cons (ps_set (i := 2) sc__law_content.nd rfl (.inl rfl) (pe_cal c__law_draw hr (by decide) (by rfl) (pa_cons (pv 0) (pa_cons pe_int pa_nil))))
      (pss_cons (ps_set (i := 3) sc__law_content.nd rfl (.inl rfl) (pe_cal c__law_draw hr (by decide) (by rfl) (pa_cons (pv 0) (pa_cons pe_int pa_nil))))
      (pss_cons (ps_set (i := 4) sc__law_content.nd rfl (.inl rfl) (pe_lst (pa_cons pe_non (pa_cons pe_non (pa_cons (pe_tup (pa_cons pe_str (pa_cons (pe_op op_sub pe_int (pv 3)) (pa_cons (pv 3) pa_nil)))) (pa_cons (pe_tup (pa_cons pe_str pa_nil)) (pa_cons (pe_tup (pa_cons pe_str (pa_cons (pv 3) pa_nil))) (pa_cons (pe_tup (pa_cons pe_str (pa_cons pe_int (pa_cons (pe_tup (pa_cons pe_str (pa_cons (pv 1) pa_nil))) pa_nil)))) pa_nil))))))))
      (pss_one (ps_ret (pe_ix (r := rIxL K) ix_list (pe_op op_cat (pv 4) (pe_lst (pa_cons (pe_tup (pa_cons pe_str (pa_cons (pe_tup (pa_cons pe_str (pa_cons (pv 1) pa_nil))) pa_nil))) pa_nil))) (pv 2) (fun _ _ => rfl))))))), ?_⟩
    refine ⟨_, rfl, a, 7, rfl, hw, by decide, by decide, fun i H1 i0 i1 f1 => ?_⟩
    refine ⟨_, rfl, a, 9, rfl, f1.2, by decide, by decide, fun h H2 h0 h1 f2 => ?_⟩
    have f12 := f1.trans f2
    refine ⟨_, rfl, 0, h, rfl, rfl, _, rfl, by show 3 ≤ sizeLine; decide, fun p1 hp1 => ?_⟩
    have s1 := same_upd (o := .tup [V.str "number", .int (0 - h), .int h]) hp1
    refine ⟨by show 1 ≤ sizeLine; decide, fun p2 hp2 => ⟨_, rfl, by show 2 ≤ sizeLine; decide, fun p3 hp3 => ⟨_, rfl, by show 2 ≤ sizeLine; decide, fun p4 hp4 => ⟨by show 3 ≤ sizeLine; decide, fun p5 hp5 => ⟨by show 6 ≤ sizeLine; decide, fun L hL => ?_⟩⟩⟩⟩⟩
    have s2 := s1.trans (same_upd (o := .tup [V.str "truth"]) hp2)
    have s3 := s2.trans (same_upd (o := .tup [V.str "text", .int h]) hp3)
    have s4 := s3.trans (same_upd (o := .tup [V.str "choice", .str other]) hp4)
    have s5 := s4.trans (same_upd (o := .tup [V.str "row", .int 2, .ref p4]) hp5)
    have hL0 : (upd (upd (upd (upd (upd (upd H2 p1 (.tup [V.str "number", .int (0 - h), .int h])) p2 (.tup [V.str "truth"])) p3 (.tup [V.str "text", .int h])) p4 (.tup [V.str "choice", .str other])) p5 (.tup [V.str "row", .int 2, .ref p4])) L (.lst [V.non, .non, .ref p1, .ref p2, .ref p3, .ref p5])) L = some (.lst [V.non, .non, .ref p1, .ref p2, .ref p3, .ref p5]) := upd_same
    have e1 : (upd (upd (upd (upd (upd (upd H2 p1 (.tup [V.str "number", .int (0 - h), .int h])) p2 (.tup [V.str "truth"])) p3 (.tup [V.str "text", .int h])) p4 (.tup [V.str "choice", .str other])) p5 (.tup [V.str "row", .int 2, .ref p4])) L (.lst [V.non, .non, .ref p1, .ref p2, .ref p3, .ref p5])) p1 = some (.tup [V.str "number", .int (0 - h), .int h]) := ((((same_upd hp2).trans (same_upd hp3)).trans ((same_upd hp4).trans (same_upd hp5))).trans (same_upd hL)) _ _ upd_same
    have e2 : (upd (upd (upd (upd (upd (upd H2 p1 (.tup [V.str "number", .int (0 - h), .int h])) p2 (.tup [V.str "truth"])) p3 (.tup [V.str "text", .int h])) p4 (.tup [V.str "choice", .str other])) p5 (.tup [V.str "row", .int 2, .ref p4])) L (.lst [V.non, .non, .ref p1, .ref p2, .ref p3, .ref p5])) p2 = some (.tup [V.str "truth"]) := (((same_upd hp3).trans ((same_upd hp4).trans (same_upd hp5))).trans (same_upd hL)) _ _ upd_same
    have e3 : (upd (upd (upd (upd (upd (upd H2 p1 (.tup [V.str "number", .int (0 - h), .int h])) p2 (.tup [V.str "truth"])) p3 (.tup [V.str "text", .int h])) p4 (.tup [V.str "choice", .str other])) p5 (.tup [V.str "row", .int 2, .ref p4])) L (.lst [V.non, .non, .ref p1, .ref p2, .ref p3, .ref p5])) p3 = some (.tup [V.str "text", .int h]) := (((same_upd hp4).trans (same_upd hp5)).trans (same_upd hL)) _ _ upd_same
    have e4 : (upd (upd (upd (upd (upd (upd H2 p1 (.tup [V.str "number", .int (0 - h), .int h])) p2 (.tup [V.str "truth"])) p3 (.tup [V.str "text", .int h])) p4 (.tup [V.str "choice", .str other])) p5 (.tup [V.str "row", .int 2, .ref p4])) L (.lst [V.non, .non, .ref p1, .ref p2, .ref p3, .ref p5])) p4 = some (.tup [V.str "choice", .str other]) := ((same_upd hp5).trans (same_upd hL)) _ _ upd_same
    have e5 : (upd (upd (upd (upd (upd (upd H2 p1 (.tup [V.str "number", .int (0 - h), .int h])) p2 (.tup [V.str "truth"])) p3 (.tup [V.str "text", .int h])) p4 (.tup [V.str "choice", .str other])) p5 (.tup [V.str "row", .int 2, .ref p4])) L (.lst [V.non, .non, .ref p1, .ref p2, .ref p3, .ref p5])) p5 = some (.tup [V.str "row", .int 2, .ref p4]) := (same_upd hL) _ _ upd_same
    have s6 := s5.trans (same_upd (o := .lst [V.non, .non, .ref p1, .ref p2, .ref p3, .ref p5]) hL)
    generalize (upd (upd (upd (upd (upd (upd H2 p1 (.tup [V.str "number", .int (0 - h), .int h])) p2 (.tup [V.str "truth"])) p3 (.tup [V.str "text", .int h])) p4 (.tup [V.str "choice", .str other])) p5 (.tup [V.str "row", .int 2, .ref p4])) L (.lst [V.non, .non, .ref p1, .ref p2, .ref p3, .ref p5])) = H3 at hL0 e1 e2 e3 e4 e5 s6 ⊢
    refine ⟨_, rfl, _, rfl, by show 2 ≤ sizeLine; decide, fun p6 hp6 => ⟨by show 2 ≤ sizeLine; decide, fun p7 hp7 => ⟨by show 1 ≤ sizeLine; decide, fun M hM => ?_⟩⟩⟩
    have t1 := same_upd (o := .tup [V.str "choice", .str other]) hp6
    have t2 := t1.trans (same_upd (o := .tup [V.str "maybe", .ref p6]) hp7)
    have t3 := t2.trans (same_upd (o := .lst [V.ref p7]) hM)
    refine ⟨L, M, _, _, rfl, rfl, t3 _ _ hL0, upd_same, by show 6 + 1 ≤ sizeLine; decide, fun N hN => ?_⟩
    have u1 := same_upd (o := .lst ([V.non, .non, .ref p1, .ref p2, .ref p3, .ref p5] ++ [V.ref p7])) hN
    have t4 := t3.trans u1
    have e7 : (upd (upd (upd (upd H3 p6 (.tup [V.str "choice", .str other])) p7 (.tup [V.str "maybe", .ref p6])) M (.lst [V.ref p7])) N (.lst ([V.non, .non, .ref p1, .ref p2, .ref p3, .ref p5] ++ [V.ref p7]))) p7 = some (.tup [V.str "maybe", .ref p6]) := ((same_upd hM).trans u1) _ _ upd_same
    have e6 : (upd (upd (upd (upd H3 p6 (.tup [V.str "choice", .str other])) p7 (.tup [V.str "maybe", .ref p6])) M (.lst [V.ref p7])) N (.lst ([V.non, .non, .ref p1, .ref p2, .ref p3, .ref p5] ++ [V.ref p7]))) p6 = some (.tup [V.str "choice", .str other]) := (((same_upd hp7).trans (same_upd hM)).trans u1) _ _ upd_same
    have fv := f12.same (s6.trans t4)
    have r1 : SqL K (upd (upd (upd (upd H3 p6 (.tup [V.str "choice", .str other])) p7 (.tup [V.str "maybe", .ref p6])) M (.lst [V.ref p7])) N (.lst ([V.non, .non, .ref p1, .ref p2, .ref p3, .ref p5] ++ [V.ref p7]))) N [V.non, .non, .ref p1, .ref p2, .ref p3, .ref p5, .ref p7] := SqL.of upd_same
    generalize (upd (upd (upd (upd H3 p6 (.tup [V.str "choice", .str other])) p7 (.tup [V.str "maybe", .ref p6])) M (.lst [V.ref p7])) N (.lst ([V.non, .non, .ref p1, .ref p2, .ref p3, .ref p5] ++ [V.ref p7]))) = H4 at t4 e7 e6 fv r1 ⊢
    have c4 : Td K H4 (.ref p4) (So.cho other).pd := .tup (SqT.of (t4 _ _ e4)) (.cons (.str _) (.cons (.str _) .nil))
    obtain rfl | rfl | rfl | rfl | rfl | rfl | rfl : i = 0 ∨ i = 1 ∨ i = 2 ∨ i = 3 ∨ i = 4 ∨ i = 5 ∨ i = 6 := by omega
    · exact ⟨_, rfl, N, _, 0, .non, rfl, rfl, r1, rfl, q _ none _ .non True.intro fv⟩
    · exact ⟨_, rfl, N, _, 1, .non, rfl, rfl, r1, rfl, q _ none _ .non True.intro fv⟩
    · exact ⟨_, rfl, N, _, 2, .ref p1, rfl, rfl, r1, rfl, q _ (some (.num (some (0 - h)) (some h))) _ (.tup (SqT.of (t4 _ _ e1)) (.cons (.str _) (.cons (.int _) (.cons (.int _) .nil)))) (And.intro (by omega) (And.intro (by omega) (by omega))) fv⟩
    · exact ⟨_, rfl, N, _, 3, .ref p2, rfl, rfl, r1, rfl, q _ (some .tru) _ (.tup (SqT.of (t4 _ _ e2)) (.cons (.str _) .nil)) True.intro fv⟩
    · exact ⟨_, rfl, N, _, 4, .ref p3, rfl, rfl, r1, rfl, q _ (some (.txt h)) _ (.tup (SqT.of (t4 _ _ e3)) (.cons (.str _) (.cons (.int _) .nil))) (And.intro h0 (by omega)) fv⟩
    · exact ⟨_, rfl, N, _, 5, .ref p5, rfl, rfl, r1, rfl, q _ (some (.row 2 (.cho other))) _ (.tup (SqT.of (t4 _ _ e5)) (.cons (.str _) (.cons (.int _) (.cons c4 .nil)))) (And.intro rfl rfl) fv⟩
    · exact ⟨_, rfl, N, _, 6, .ref p7, rfl, rfl, r1, rfl, q _ (some (.may (.cho other))) _ (.tup (SqT.of e7) (.cons (.str _) (.cons (.tup (SqT.of e6) (.cons (.str _) (.cons (.str _) .nil))) .nil))) rfl fv⟩
end
end K22
set_option maxHeartbeats 1000000
namespace K22
open PySem PySem.Spec PyProof.Rows L2 Tw Sb LamX
structure NsOk (ns : List Int) : Prop where
  nd : ns.Nodup
  b : ∀ n ∈ ns, 0 ≤ n ∧ n < 100
def spNums (K : PySem.W.Frag) : Sp := fun vs H Q _ => ∃ (a : Addr), vs = [.ref a] ∧ IsW2 H a ∧ ∀ (L : Addr) (ns : List Int) (H' : Hp), H L = none → H' L = some (.lst (ns.map V.int)) → NsOk ns → 1 ≤ ns.length → ns.length ≤ 6 → Fv a H H' → Q (.ref L) H'
theorem in_ints {k : Int} : ∀ {ks : List Int}, k ∈ ks → inV (.int k) (ks.map V.int) = true
  | n :: r, h => by
    unfold inV
    rw [List.map_cons, List.any_cons]
    rcases List.mem_cons.mp h with rfl | h
    · rw [show eqV (.int k) (.int k) = true from decide_eq_true rfl, Bool.true_or]
    · have ih := in_ints h
      unfold inV at ih
      rw [ih, Bool.or_true]
theorem NsOk.snoc {ns : List Int} {n : Int} (h : NsOk ns) (hn : n ∉ ns) (h0 : 0 ≤ n) (h1 : n < 100) : NsOk (ns ++ [n]) :=
  ⟨List.nodup_append.mpr ⟨h.nd, List.nodup_cons.mpr ⟨(fun h => nomatch h), List.nodup_nil⟩, fun x hx y hy e => by
    rw [List.mem_singleton.mp hy] at e
    exact hn (e ▸ hx)⟩, fun m hm => by
    rcases List.mem_append.mp hm with hm | hm
    · exact h.b m hm
    · rw [List.mem_singleton.mp hm]
      exact ⟨h0, h1⟩⟩
section
variable {P : Program} {w : World} {K : PySem.W.Frag} {mg : Str → Option Value} {base : Heap}
theorem ok_numbers {f : Addr} {fd : FuncData} (F : Fun K "_law_numbers" "_law_numbers" s__law_numbers f fd) (T : Bu mg) (c__law_draw : Cal P w K mg base 1 "_law_draw" ["_law_well", "_law_many"] spDraw2) : FnOk P w K mg base CX0 2 f fd ["_law_well"] (spNums K) := by
  refine F.ok sc__law_numbers (fun vs H Q E h => ?_) (fun cdv A outer s H vs Q E hr h => ?_)
  · obtain ⟨a, rfl, _⟩ := h
    rfl
  · obtain ⟨a, rfl, hw, q⟩ := h
    refine ⟨_, (pss_cons (ps_set (i := 1) sc__law_numbers.nd rfl (.inl rfl) (pe_lst pa_nil))
      (pss_cons (ps_for PassesOwn.never rfl (pi_range1 rfl T.n_range (pa_cons (pe_op op_add pe_int (pe_cal c__law_draw hr (by decide) (by rfl) (pa_cons (pv 0) (pa_cons pe_int pa_nil)))) pa_nil)) (pg_name (i := 2) sc__law_numbers.nd rfl (.inl rfl))
        (pss_cons (ps_set (i := 3) sc__law_numbers.nd rfl (.inl rfl) (pe_ix (r := rIxL K) ix_list (pe_lst (pa_cons (pe_cal c__law_draw hr (by decide) (by rfl) (pa_cons (pv 0) (pa_cons pe_int pa_nil))) (pa_cons (pe_cal c__law_draw hr (by decide) (by rfl) (pa_cons (pv 0) (pa_cons pe_int pa_nil))) pa_nil))) (pe_cal c__law_draw hr (by decide) (by rfl) (pa_cons (pv 0) (pa_cons pe_int pa_nil))) (fun _ _ => rfl)))
        (pss_one (ps_if (pt_cmpR op_notIn_seq (pv 3) (pv 1) (by rfl))
          (pss_one (ps_expr (pe_bm PySem.F.plainAttrs_list PySem.F.slot_list_append PySem.F.type_list_append mt_append (pv 1) (pa_cons (pv 3) pa_nil))))
          pss_nil))))
      (pss_one (ps_ret (pv 1))))), ?_⟩
    refine ⟨by show 0 ≤ sizeLine; decide, fun L hL => ?_⟩
    have nL := hw.ne hL
    have f0 := Fv.of_same hw (same_upd (o := .lst []) hL)
    have hL0 : (upd H L (.lst [])) L = some (.lst []) := upd_same
    generalize upd H L (.lst []) = H0 at f0 hL0 ⊢
    refine ⟨_, rfl, a, 6, rfl, f0.2, by decide, by decide, fun r H1 r0 r1 f1 => ?_⟩
    refine ⟨1, r, rfl, rfl, _, rfl, by omega, by omega, ?_⟩
    refine for_it walk_range (fun j σ H' => ∃ (y2 y3 : Option V) (ns : List Int), σ = [some (.ref a), some (.ref L), y2, y3] ∧ Fv a H H' ∧ H' L = some (.lst (ns.map V.int)) ∧ NsOk ns ∧ ns.length ≤ j ∧ (1 ≤ j → 1 ≤ ns.length)) ⟨_, _, [], rfl, f0.trans f1, f1.1 _ _ nL hL0, ⟨List.nodup_nil, fun n h => nomatch h⟩, Nat.le_refl _, fun h => absurd h (by decide)⟩ (fun _ _ _ _ _ => trivial) ?_ ?_
    · rintro j x σ H2 H3 hj ⟨y2, y3, ns, rfl, f2, hL2, ok, l1, l2⟩ ⟨rfl, rfl⟩
      refine ⟨_, rfl, a, 7, rfl, f2.2, by decide, by decide, fun u H4 u0 u1 f4 => ⟨_, rfl, a, 100, rfl, f4.2, by decide, by decide, fun z H5 z0 z1 f5 => ⟨by show 2 ≤ sizeLine; decide, fun M hM => ?_⟩⟩⟩
      have nM := f5.2.ne hM
      have f6 := ((f2.trans f4).trans f5).same (same_upd (o := .lst [V.int u, .int z]) hM)
      have hLM : (upd H5 M (.lst [V.int u, .int z])) L = some (.lst (ns.map V.int)) := (same_upd hM) _ _ (f5.1 _ _ nL (f4.1 _ _ nL hL2))
      refine ⟨_, rfl, a, 2, rfl, f6.2, by decide, by decide, fun c H6 c0 c1 f7 => ?_⟩
      have hM6 := f7.1 M _ nM upd_same
      have hL6 := f7.1 L _ nL hLM
      have f8 := f6.trans f7
      obtain ⟨n, hn, n0, n1⟩ : ∃ n : Int, atI [V.int u, V.int z] c = some (.int n) ∧ 0 ≤ n ∧ n < 100 := by
        obtain rfl | rfl : c = 0 ∨ c = 1 := by omega
        · exact ⟨u, rfl, u0, by omega⟩
        · exact ⟨z, rfl, z0, z1⟩
      refine ⟨M, _, c, _, rfl, rfl, SqL.of hM6, hn, ?_⟩
      refine ⟨_, rfl, _, rfl, L, _, rfl, .inl (SqL.of hL6), rfl, flat_ints ns, ?_⟩
      by_cases hm : n ∈ ns
      · refine ⟨_, rfl, ?_⟩
        rw [in_ints hm]
        exact iteF ⟨_, _, ns, rfl, f8, hL6, ok, by omega, fun _ => List.length_pos_of_mem hm⟩
      · refine ⟨_, rfl, ?_⟩
        rw [nin_ints hm]
        refine iteT ⟨_, rfl, .inl ⟨rfl, _, SqL.of hL6⟩, _, rfl, L, _, _, rfl, rfl, hL6, by rw [List.length_map, sizeLine_eq]; omega, ?_⟩
        refine ⟨_, _, ns ++ [n], rfl, ⟨fun b o nb e => ?_, ?_⟩, by rw [upd_same, List.map_append] <;> rfl, ok.snoc hm n0 n1, by rw [List.length_append]; show _ + 1 ≤ _; omega, fun _ => by rw [List.length_append]; show 1 ≤ _ + 1; omega⟩
        · rw [upd_ne (ne_of_none e hL)]
          exact f8.1 b o nb e
        · obtain ⟨p, q, e⟩ := f8.2
          exact ⟨p, q, by rw [upd_ne nL.symm]; exact e⟩
    · rintro σ H2 ⟨y2, y3, ns, rfl, f2, hL2, ok, l1, l2⟩
      exact ⟨_, rfl, q L ns H2 hL hL2 ok (l2 (by omega)) (by omega) f2⟩
end
end K22
set_option maxHeartbeats 1000000
namespace K22
open PySem PySem.Spec PyProof.Rows L2 Tw Sb LamX
def spNear (K : PySem.W.Frag) : Sp := fun vs H Q _ => ∃ (a b : Addr) (ns : List Int), vs = [.ref a, .ref b] ∧ IsW2 H a ∧ H b = some (.lst (ns.map V.int)) ∧ b ≠ a ∧ NsOk ns ∧ ns.length ≤ 6 ∧ ∀ (L : Addr) (ms : List Int) (H' : Hp), H L = none → H' L = some (.lst (ms.map V.int)) → NsOk ms → 1 ≤ ms.length → ms.length ≤ 8 → Fv a H H' → Q (.ref L) H'
theorem fv_lst {a L : Addr} {H H' : Hp} {xs : List V} (f : Fv a H H') (n : L ≠ a) (h : H L = none) : Fv a H (upd H' L (.lst xs)) := fv_put f n h
theorem NsOk.sub {ns ms : List Int} (h : NsOk ns) (s : ms.Sublist ns) : NsOk ms := ⟨h.nd.sublist s, fun n hn => h.b n (s.subset hn)⟩
section
variable {P : Program} {w : World} {K : PySem.W.Frag} {mg : Str → Option Value} {base : Heap}
theorem ok_near {f : Addr} {fd : FuncData} (F : Fun K "_law_near" "_law_near" s__law_near f fd) (T : Bu mg) (c__law_draw : Cal P w K mg base 1 "_law_draw" ["_law_well", "_law_many"] spDraw2) (c__law_numbers : Cal P w K mg base 2 "_law_numbers" ["_law_well"] (spNums K)) : FnOk P w K mg base CX0 3 f fd ["_law_well", "_law_numbers_here"] (spNear K) := by
  refine F.ok sc__law_near (fun vs H Q E h => ?_) (fun cdv A outer s H vs Q E hr h => ?_)
  · obtain ⟨a, b, ns, rfl, _⟩ := h
    rfl
  · obtain ⟨a, b, ns, rfl, hw, hb, nb, ok, hl, q⟩ := h
    refine ⟨_, (pss_cons (ps_setLc (i := 2) (own := [("_law_number", 3)]) rfl sc__law_near.nd rfl rfl (sw_true rfl rfl rfl (by decide +kernel)) (pi_list (pv 1)) (blkOk_by (N := N__law_near) (sc := defScope s__law_near) (by decide +kernel)) (fun _ _ _ _ _ => (pg_name (i := 3) sc__law_near.nd rfl (.inl rfl))) (fun _ _ _ _ _ => (pts_one (pt_cmpR op_gt (pe_cal c__law_draw hr (by decide) (by rfl) (pa_cons (pv 0) (pa_cons pe_int pa_nil))) pe_int (nomark _)))) (fun _ _ _ _ _ => (pv 3)))
      (pss_cons (ps_for PassesOwn.never rfl (pi_list (pe_cal c__law_numbers hr (by decide) (by rfl) (pa_cons (pv 0) pa_nil))) (pg_name (i := 3) sc__law_near.nd rfl (.inl rfl))
        (pss_one (ps_if (PW.pt (pw_and (pt_cmpR op_notIn_seq (pv 3) (pv 2) (by rfl)) (pw_and (pt_cmpR op_lt (pe_callB call_len_seq (by rfl) T.n_len (by decide +kernel) (pa_cons (pv 2) pa_nil)) pe_int (nomark _)) (pw_and1 (pt_cmpR op_eq (pe_cal c__law_draw hr (by decide) (by rfl) (pa_cons (pv 0) (pa_cons pe_int pa_nil))) pe_int (nomark _))))))
          (pss_one (ps_expr (pe_bm PySem.F.plainAttrs_list PySem.F.slot_list_append PySem.F.type_list_append mt_append (pv 2) (pa_cons (pv 3) pa_nil))))
          pss_nil)))
      (pss_one (ps_ret (pe_orT (pv 2) (pe_one (pe_lst (pa_cons pe_int pa_nil)))))))), ?_⟩
    refine ⟨_, rfl, b, rfl, ⟨_, SqL.of hb⟩, fun L hL => ?_⟩
    have nL := hw.ne hL
    refine lc_it (walk_list (K := K) (a := b) (xs := ns.map V.int)) (fun i H' => Fv a H H' ∧ ∃ ms : List Int, H' L = some (.lst (ms.map V.int)) ∧ ms.Sublist (ns.take i)) ⟨Fv.of_same hw (same_upd hL), [], upd_same, List.nil_sublist _⟩ (fun i H' _ h => SqL.of (h.1.1 b _ nb hb)) ?_ ?_
    · rintro i x H2 H3 hi ⟨f2, ms, hL2, sb⟩ ⟨rfl, hv⟩
      obtain ⟨n, rfl, hn⟩ : ∃ n, x = V.int n ∧ ns[i]? = some n := by
        rw [List.getElem?_map] at hv
        obtain ⟨n, hn, h⟩ := Option.map_eq_some_iff.mp hv
        exact ⟨n, h.symm, hn⟩
      refine ⟨rfl, _, rfl, a, 5, rfl, f2.2, by decide, by decide, fun r H4 r0 r1 f4 => ⟨r, 0, rfl, rfl, _, rfl, ?_⟩⟩
      have hL4 := f4.1 L _ nL hL2
      have ht : ns.take (i + 1) = ns.take i ++ [n] := by
        rw [List.take_add_one, hn]
        rfl
      have sl := sb.length_le
      rw [List.length_take] at sl
      refine ite2 (fun g => ?_) (fun g => ?_)
      · refine ⟨_, rfl, _, hL4, by rw [List.length_map, sizeLine_eq]; omega, fv_lst (f2.trans f4) nL hL, ms ++ [n], by rw [upd_same, List.map_append] <;> rfl, ?_⟩
        rw [ht]
        exact sb.append (List.Sublist.refl _)
      · refine ⟨f2.trans f4, ms, hL4, ?_⟩
        rw [ht]
        exact sb.trans (List.sublist_append_left _ _)
    · rintro H2 ⟨f2, ms, hL2, sb⟩
      rw [List.length_map, List.take_length] at sb
      have okm := ok.sub sb
      have hml : ms.length ≤ 6 := Nat.le_trans sb.length_le hl
      refine ⟨_, rfl, a, rfl, f2.2, fun M ks H3 hM0 hM okk hk1 hk6 f3 => ?_⟩
      have nM := f2.2.ne hM0
      have hL3 := f3.1 L _ nL hL2
      have nML : M ≠ L := fun e => by
        rw [e, hL2] at hM0
        cases hM0
      refine ⟨M, rfl, ⟨_, SqL.of hM⟩, ?_⟩
      refine for_it (walk_list (K := K) (a := M) (xs := ks.map V.int)) (fun i σ H' => ∃ (y3 : Option V) (ts : List Int), σ = [some (.ref a), some (.ref b), some (.ref L), y3] ∧ Fv a H H' ∧ H' M = some (.lst (ks.map V.int)) ∧ H' L = some (.lst (ts.map V.int)) ∧ NsOk ts ∧ ts.length ≤ 8) ⟨_, ms, rfl, f2.trans f3, hM, hL3, okm, by omega⟩ (fun _ _ _ _ ⟨_, _, _, _, h, _⟩ => SqL.of h) ?_ ?_
      · rintro i x σ H4 H5 hi ⟨y3, ts, rfl, f4, hM4, hL4, okt, tl⟩ ⟨rfl, hv⟩
        obtain ⟨n, rfl, hn⟩ : ∃ n, x = V.int n ∧ ks[i]? = some n := by
          rw [List.getElem?_map] at hv
          obtain ⟨n, hn, h⟩ := Option.map_eq_some_iff.mp hv
          exact ⟨n, h.symm, hn⟩
        have hnb := okk.b n (List.mem_of_getElem? hn)
        have done : ∀ (H6 : Hp), Fv a H H6 → H6 M = some (.lst (ks.map V.int)) → H6 L = some (.lst (ts.map V.int)) → ∃ (y3 : Option V) (ts' : List Int), [some (.ref a), some (.ref b), some (.ref L), some (V.int n)] = [some (V.ref a), some (.ref b), some (.ref L), y3] ∧ Fv a H H6 ∧ H6 M = some (.lst (ks.map V.int)) ∧ H6 L = some (.lst (ts'.map V.int)) ∧ NsOk ts' ∧ ts'.length ≤ 8 := fun H6 f6 hM6 hL6 => ⟨_, ts, rfl, f6, hM6, hL6, okt, tl⟩
        refine ⟨_, rfl, _, rfl, L, _, rfl, .inl (SqL.of hL4), rfl, flat_ints ts, _, rfl, ?_⟩
        by_cases hm : n ∈ ts
        · rw [in_ints hm]
          exact iteF (done _ f4 hM4 hL4)
        rw [nin_ints hm]
        refine iteT ⟨_, rfl, L, _, rfl, .inl (SqL.of hL4), _, 8, rfl, rfl, _, rfl, ?_⟩
        refine ite2 (fun g => ?_) (fun g => ?_)
        · refine ⟨_, rfl, a, 3, rfl, f4.2, by decide, by decide, fun c H6 c0 c1 f6 => ⟨rfl, _, rfl, ?_⟩⟩
          have hL6 := f6.1 L _ nL hL4
          have hM6 := f6.1 M _ nM hM4
          by_cases hc : c = 0
          · refine iteY (congrArg V.int hc) ⟨_, rfl, .inl ⟨rfl, _, SqL.of hL6⟩, _, rfl, L, _, _, rfl, rfl, hL6, by rw [List.length_map, sizeLine_eq]; omega, ?_⟩
            refine ⟨_, ts ++ [n], rfl, fv_lst (f4.trans f6) nL hL, by rw [upd_ne nML]; exact hM6, by rw [upd_same, List.map_append] <;> rfl, okt.snoc hm hnb.1 hnb.2, ?_⟩
            rw [List.length_append]
            show ts.length + 1 ≤ 8
            have g := of_decide_eq_true g
            rw [List.length_map] at g
            omega
          · exact iteN (ine hc) (done _ (f4.trans f6) hM6 hL6)
        · exact done _ f4 hM4 hL4
      · rintro σ H4 ⟨y3, ts, rfl, f4, hM4, hL4, okt, tl⟩
        refine ⟨_, rfl, !(ts.map V.int).isEmpty, .inl ⟨_, SqL.of hL4, rfl⟩, ?_⟩
        cases ts with
        | cons t r => exact iteT (q L (t :: r) H4 hL hL4 okt (by rw [List.length_cons]; omega) tl f4)
        | nil =>
          refine iteF ⟨by show 1 ≤ sizeLine; decide, fun N hN => ?_⟩
          have hN0 : H N = none := f4.free hN
          exact q N [5] _ hN0 upd_same ⟨List.nodup_cons.mpr ⟨(fun h => nomatch h), List.nodup_nil⟩, fun n hn => by rw [List.mem_singleton.mp hn]; exact ⟨by decide, by decide⟩⟩ (Nat.le_refl _) (by decide) (f4.same (same_upd hN))
end
end K22
set_option maxHeartbeats 1000000
namespace K22
open PySem PySem.Spec PyProof.Rows L2 Tw Sb LamX
/-- numbers with both bounds -/
def So.bnd : So → Prop
  | .num (some _) (some _) => True
  | .num _ _ => False
  | .row _ s => So.bnd s
  | .may s => So.bnd s
  | _ => True
/-- what a case may hold, of a new choice -/
def CtN (other : Str) : Option So → Prop
  | none => True
  | some s => (∀ cs, other ∈ cs → isNm other = true → s.ok [] cs false) ∧ (∀ c, s ≠ .cho c) ∧ So.bnd s
/-- the sorts a case of an old choice may hold -/
inductive Cf (other : Str) : Option So → Prop
  | non : Cf other none
  | num (lo hi : Int) : lo ≤ hi → -10 ≤ lo → hi ≤ 10 → Cf other (some (.num (some lo) (some hi)))
  | tru : Cf other (some .tru)
  | txt (m : Int) : 0 ≤ m → m ≤ 10 → Cf other (some (.txt m))
  | row : Cf other (some (.row 2 (.cho other)))
  | may : Cf other (some (.may (.cho other)))
theorem cto_cf {other : Str} : ∀ {o : Option So}, CtO other o → Cf other o
  | none, _ => .non
  | some (.num (some lo) (some hi)), h => .num lo hi h.1 h.2.1 h.2.2
  | some .tru, _ => .tru
  | some (.txt m), h => .txt m h.1 h.2
  | some (.row n (.cho c)), h => by
    obtain ⟨rfl, rfl⟩ : n = 2 ∧ c = other := h
    exact .row
  | some (.may (.cho c)), h => by
    obtain rfl : c = other := h
    exact .may
theorem cf_n {other : Str} : ∀ {o : Option So}, Cf other o → CtN other o
  | _, .non => True.intro
  | _, .num lo hi h1 h2 h3 => ⟨fun _ _ _ => h1, (fun _ z => nomatch z), True.intro⟩
  | _, .tru => ⟨fun _ _ _ => True.intro, (fun _ z => nomatch z), True.intro⟩
  | _, .txt m h1 h2 => ⟨fun _ _ _ => And.intro h1 (by omega), (fun _ z => nomatch z), True.intro⟩
  | _, .row => ⟨fun _ h1 h2 => And.intro (by decide) (And.intro (by decide) (And.intro h2 h1)), (fun _ z => nomatch z), True.intro⟩
  | _, .may => ⟨fun _ h1 h2 => And.intro rfl (And.intro h2 h1), (fun _ z => nomatch z), True.intro⟩
def spNs (K : PySem.W.Frag) : Sp := fun vs H Q _ => ∃ (a : Addr) (v : V) (o : Option So) (other c0 : Str), vs = [.ref a, v, .str other] ∧ IsW2 H a ∧ Td K H v (oSo o) ∧ Cf c0 o ∧ ∀ (u : V) (o' : Option So) (H' : Hp), Td K H' u (oSo o') → CtN other o' → Fv a H H' → Q u H'
section
variable {P : Program} {w : World} {K : PySem.W.Frag} {mg : Str → Option Value} {base : Heap}
theorem ok_near_sort {f : Addr} {fd : FuncData} (F : Fun K "_law_near_sort" "_law_near_sort" s__law_near_sort f fd) (c__law_draw : Cal P w K mg base 1 "_law_draw" ["_law_well", "_law_many"] spDraw2) (c__law_content : Cal P w K mg base 2 "_law_content" ["_law_well", "_law_other"] (spCtn K)) : FnOk P w K mg base CX0 3 f fd ["_law_well", "_law_sort", "_law_other"] (spNs K) := by
  refine F.ok sc__law_near_sort (fun vs H Q E h => ?_) (fun cdv A outer s H vs Q E hr h => ?_)
  · obtain ⟨a, v, o, other, c0, rfl, _⟩ := h
    rfl
  · obtain ⟨a, v, o, other, c0, rfl, hw, hv, hc, q⟩ := h
    refine ⟨_, (pss_cons (ps_set (i := 3) sc__law_near_sort.nd rfl (.inl rfl) (pe_cal c__law_draw hr (by decide) (by rfl) (pa_cons (pv 0) (pa_cons pe_int pa_nil))))
      (pss_cons (ps_if (pt_cmpR op_eq (pv 3) pe_int (nomark _))
        (pss_one (ps_ret (pe_cal c__law_content hr (by decide) (by rfl) (pa_cons (pv 0) (pa_cons (pv 2) pa_nil)))))
        pss_nil)
      (pss_cons (ps_if (PW.pt (pw_or (pt_cmpR op_isN (pv 1) pe_non (nomark _)) (pw_or1 (pt_cmpR op_eq (pv 3) pe_int (nomark _)))))
        (pss_one (ps_ret pe_non))
        pss_nil)
      (pss_cons (ps_if (PW.pt (pw_and (pt_cmpR op_eq (pe_ix (r := rIxT K) ix_tup (pv 1) pe_int (fun _ _ => rfl)) pe_str (nomark _)) (pw_and1 (pt_cmpR op_eq (pv 3) pe_int (nomark _)))))
        (pss_one (ps_ret (pe_tup (pa_cons pe_str (pa_cons (pe_op op_add (pe_ix (r := rIxT K) ix_tup (pv 1) pe_int (fun _ _ => rfl)) pe_int) (pa_cons (pe_op op_add (pe_ix (r := rIxT K) ix_tup (pv 1) pe_int (fun _ _ => rfl)) pe_int) pa_nil))))))
        pss_nil)
      (pss_cons (ps_if (pt_cmpR op_in_seq (pe_ix (r := rIxT K) ix_tup (pv 1) pe_int (fun _ _ => rfl)) (pe_lst (pa_cons pe_str (pa_cons pe_str pa_nil))) (by rfl))
        (pss_one (ps_ret (pe_op op_catA (pe_slice (r := rSlT K) sl_tup (pv 1) po_none (po_some (pe_un un_neg pe_int))) (pe_tup (pa_cons (pe_tup (pa_cons pe_str (pa_cons (pv 2) pa_nil))) pa_nil)))))
        pss_nil)
      (pss_one (ps_ret (pv 1)))))))), ?_⟩
    refine ⟨_, rfl, a, 6, rfl, hw, by decide, by decide, fun i H1 i0 i1 f1 => ?_⟩
    have hv1 := hv.keep (f1.keepT (K := K) hw)
    refine ⟨_, rfl, rfl, _, rfl, ?_⟩
    by_cases h0 : i = 0
    · exact iteY (congrArg V.int h0) ⟨_, rfl, _, rfl, a, other, rfl, f1.2, fun u o' H' t c f => q u o' H' t (cf_n (cto_cf c)) (f1.trans f)⟩
    refine iteN (ine h0) ?_
    have same : ∀ {s : So}, o = some s → CtN other (some s) → Q v H1 := fun e c => q v _ H1 hv1 (by rw [e]; exact c) f1
    cases hc with
    | non =>
      obtain rfl := hv1.toNone
      exact ⟨_, rfl, rfl, _, rfl, iteY rfl (q .non none H1 .non True.intro f1)⟩
    | num lo hi g1 g2 g3 =>
      obtain ⟨p, zs, rfl, hp, hz⟩ := Td.row (show Td K H1 v (.tuple [.str "number", .int lo, .int hi]) from hv1)
      obtain ⟨x1, x2, x3, rfl, t1, t2, t3⟩ := hz.c3
      obtain rfl := t1.toStr
      obtain rfl := t2.toInt
      obtain rfl := t3.toInt
      refine ⟨_, rfl, rfl, _, rfl, iteN (fun z => nomatch z) ?_⟩
      refine ⟨_, rfl, rfl, _, rfl, ?_⟩
      by_cases h1 : i = 1
      · exact iteY (congrArg V.int h1) (q .non none H1 .non True.intro f1)
      refine iteN (ine h1) ?_
      refine ⟨_, rfl, p, _, 0, _, rfl, rfl, hp, at0, rfl, _, rfl, iteY rfl ⟨_, rfl, rfl, _, rfl, ?_⟩⟩
      by_cases h2 : i = 2
      · refine iteY (congrArg V.int h2) ⟨_, rfl, p, _, 1, _, rfl, rfl, hp, at1, lo, 1, rfl, rfl, _, rfl, p, _, 2, _, rfl, rfl, hp, at2, hi, 1, rfl, rfl, by show 3 ≤ sizeLine; decide, fun t ht => ?_⟩
        exact q _ (some (.num (some (lo + 1)) (some (hi + 1)))) _ (.tup (SqT.of upd_same) (.cons (.str _) (.cons (.int _) (.cons (.int _) .nil)))) ⟨fun _ _ _ => show lo + 1 ≤ hi + 1 by omega, (fun _ z => nomatch z), True.intro⟩ (f1.same (same_upd ht))
      refine iteN (ine h2) ?_
      refine ⟨_, rfl, p, _, 0, _, rfl, rfl, hp, at0, by show 2 ≤ sizeLine; decide, fun L hL => ⟨L, _, rfl, .inl (SqL.of upd_same), rfl, rfl, _, rfl, ?_⟩⟩
      rw [show inV (.str ("number" : Str)) [V.str ("row" : Str), V.str ("maybe" : Str)] = false by decide +kernel]
      exact iteF ⟨_, rfl, q _ (some (.num (some lo) (some hi))) _ (hv1.keep (KeepT.same (same_upd hL))) (cf_n (.num lo hi g1 g2 g3)) (f1.same (same_upd hL))⟩
    | tru =>
      obtain ⟨p, zs, rfl, hp, hz⟩ := Td.row (show Td K H1 v (.tuple [.str "truth"]) from hv1)
      obtain ⟨x1, rfl, t1⟩ := hz.c1
      obtain rfl := t1.toStr
      refine ⟨_, rfl, rfl, _, rfl, iteN (fun z => nomatch z) ?_⟩
      refine ⟨_, rfl, rfl, _, rfl, ?_⟩
      by_cases h1 : i = 1
      · exact iteY (congrArg V.int h1) (q .non none H1 .non True.intro f1)
      refine iteN (ine h1) ?_
      refine ⟨_, rfl, p, _, 0, _, rfl, rfl, hp, at0, rfl, _, rfl, iteN (sne (show ("truth" : Str) ≠ "number" by decide +kernel)) ?_⟩
      refine ⟨_, rfl, p, _, 0, _, rfl, rfl, hp, at0, by show 2 ≤ sizeLine; decide, fun L hL => ⟨L, _, rfl, .inl (SqL.of upd_same), rfl, rfl, _, rfl, ?_⟩⟩
      rw [show inV (.str ("truth" : Str)) [V.str ("row" : Str), V.str ("maybe" : Str)] = false by decide +kernel]
      exact iteF ⟨_, rfl, q _ (some .tru) _ (hv1.keep (KeepT.same (same_upd hL))) (cf_n (.tru)) (f1.same (same_upd hL))⟩
    | txt m g1 g2 =>
      obtain ⟨p, zs, rfl, hp, hz⟩ := Td.row (show Td K H1 v (.tuple [.str "text", .int m]) from hv1)
      obtain ⟨x1, x2, rfl, t1, t2⟩ := hz.c2
      obtain rfl := t1.toStr
      refine ⟨_, rfl, rfl, _, rfl, iteN (fun z => nomatch z) ?_⟩
      refine ⟨_, rfl, rfl, _, rfl, ?_⟩
      by_cases h1 : i = 1
      · exact iteY (congrArg V.int h1) (q .non none H1 .non True.intro f1)
      refine iteN (ine h1) ?_
      refine ⟨_, rfl, p, _, 0, _, rfl, rfl, hp, at0, rfl, _, rfl, iteN (sne (show ("text" : Str) ≠ "number" by decide +kernel)) ?_⟩
      refine ⟨_, rfl, p, _, 0, _, rfl, rfl, hp, at0, by show 2 ≤ sizeLine; decide, fun L hL => ⟨L, _, rfl, .inl (SqL.of upd_same), rfl, rfl, _, rfl, ?_⟩⟩
      rw [show inV (.str ("text" : Str)) [V.str ("row" : Str), V.str ("maybe" : Str)] = false by decide +kernel]
      exact iteF ⟨_, rfl, q _ (some (.txt m)) _ (hv1.keep (KeepT.same (same_upd hL))) (cf_n (.txt m g1 g2)) (f1.same (same_upd hL))⟩
    | row =>
      obtain ⟨p, zs, rfl, hp, hz⟩ := Td.row (show Td K H1 v (.tuple [.str "row", .int 2, (So.cho c0).pd]) from hv1)
      obtain ⟨x1, x2, x3, rfl, t1, t2, t3⟩ := hz.c3
      obtain rfl := t1.toStr
      obtain rfl := t2.toInt
      refine ⟨_, rfl, rfl, _, rfl, iteN (fun z => nomatch z) ?_⟩
      refine ⟨_, rfl, rfl, _, rfl, ?_⟩
      by_cases h1 : i = 1
      · exact iteY (congrArg V.int h1) (q .non none H1 .non True.intro f1)
      refine iteN (ine h1) ?_
      refine ⟨_, rfl, p, _, 0, _, rfl, rfl, hp, at0, rfl, _, rfl, iteN (sne (show ("row" : Str) ≠ "number" by decide +kernel)) ?_⟩
      refine ⟨_, rfl, p, _, 0, _, rfl, rfl, hp, at0, by show 2 ≤ sizeLine; decide, fun L hL => ⟨L, _, rfl, .inl (SqL.of upd_same), rfl, rfl, _, rfl, ?_⟩⟩
      rw [show inV (.str ("row" : Str)) [V.str ("row" : Str), V.str ("maybe" : Str)] = true by decide +kernel]
      refine iteT ⟨_, rfl, ?_⟩
      have s1 := same_upd (o := .lst [V.str "row", .str "maybe"]) hL
      have hp1 := KeepT.same (K := K) s1 _ _ hp
      have f2 := f1.same s1
      generalize upd H1 L (.lst [V.str "row", .str "maybe"]) = H2 at s1 hp1 f2 ⊢
      refine ⟨1, rfl, -1, rfl, p, _, rfl, hp1, (show ¬ (HT.sIx 3 0 none = 0 ∧ HT.sIx 3 3 (some (-1)) = 3) by decide), fun t1 ht1 => ?_⟩
      have a1 := same_upd (o := .tup [V.str "row", .int 2]) ht1
      have b1 : SqT K (upd H2 t1 (.tup [V.str "row", .int 2])) t1 [V.str "row", .int 2] := SqT.of upd_same
      show tTup _ _ (upd H2 t1 (.tup [V.str "row", .int 2])) _
      have f3 := f2.same a1
      generalize upd H2 t1 (.tup [V.str "row", .int 2]) = H3 at a1 b1 f3 ⊢
      refine ⟨_, rfl, by show 2 ≤ sizeLine; decide, fun t2 ht2 => ⟨by show 1 ≤ sizeLine; decide, fun t3 ht3 => ?_⟩⟩
      have a2 := same_upd (o := .tup [V.str "choice", .str other]) ht2
      have a3 := same_upd (o := .tup [V.ref t2]) ht3
      have b2 : SqT K (upd (upd H3 t2 (.tup [V.str "choice", .str other])) t3 (.tup [V.ref t2])) t2 [V.str "choice", .str other] := SqT.of (a3 _ _ upd_same)
      have b3 : SqT K (upd (upd H3 t2 (.tup [V.str "choice", .str other])) t3 (.tup [V.ref t2])) t3 [V.ref t2] := SqT.of upd_same
      have b1' := KeepT.same (K := K) (a2.trans a3) _ _ b1
      have f4 := f3.same (a2.trans a3)
      generalize upd (upd H3 t2 (.tup [V.str "choice", .str other])) t3 (.tup [V.ref t2]) = H4 at b2 b3 b1' f4 ⊢
      refine ⟨t1, t3, _, _, rfl, rfl, b1', b3, by show 2 + 1 ≤ sizeLine; decide, (fun e => nomatch e), (fun _ e => nomatch e), fun _ _ t4 ht4 => ?_⟩
      have a4 := same_upd (o := .tup ([V.str "row", .int 2] ++ [V.ref t2])) ht4
      exact q _ (some (.row 2 (.cho other))) _ (.tup (SqT.of upd_same) (.cons (.str _) (.cons (.int _) (.cons (.tup (KeepT.same a4 _ _ b2) (.cons (.str _) (.cons (.str _) .nil))) .nil)))) (cf_n .row) (f4.same a4)
    | may =>
      obtain ⟨p, zs, rfl, hp, hz⟩ := Td.row (show Td K H1 v (.tuple [.str "maybe", (So.cho c0).pd]) from hv1)
      obtain ⟨x1, x2, rfl, t1, t2⟩ := hz.c2
      obtain rfl := t1.toStr
      refine ⟨_, rfl, rfl, _, rfl, iteN (fun z => nomatch z) ?_⟩
      refine ⟨_, rfl, rfl, _, rfl, ?_⟩
      by_cases h1 : i = 1
      · exact iteY (congrArg V.int h1) (q .non none H1 .non True.intro f1)
      refine iteN (ine h1) ?_
      refine ⟨_, rfl, p, _, 0, _, rfl, rfl, hp, at0, rfl, _, rfl, iteN (sne (show ("maybe" : Str) ≠ "number" by decide +kernel)) ?_⟩
      refine ⟨_, rfl, p, _, 0, _, rfl, rfl, hp, at0, by show 2 ≤ sizeLine; decide, fun L hL => ⟨L, _, rfl, .inl (SqL.of upd_same), rfl, rfl, _, rfl, ?_⟩⟩
      rw [show inV (.str ("maybe" : Str)) [V.str ("row" : Str), V.str ("maybe" : Str)] = true by decide +kernel]
      refine iteT ⟨_, rfl, ?_⟩
      have s1 := same_upd (o := .lst [V.str "row", .str "maybe"]) hL
      have hp1 := KeepT.same (K := K) s1 _ _ hp
      have f2 := f1.same s1
      generalize upd H1 L (.lst [V.str "row", .str "maybe"]) = H2 at s1 hp1 f2 ⊢
      refine ⟨1, rfl, -1, rfl, p, _, rfl, hp1, (show ¬ (HT.sIx 2 0 none = 0 ∧ HT.sIx 2 2 (some (-1)) = 2) by decide), fun t1 ht1 => ?_⟩
      have a1 := same_upd (o := .tup [V.str "maybe"]) ht1
      have b1 : SqT K (upd H2 t1 (.tup [V.str "maybe"])) t1 [V.str "maybe"] := SqT.of upd_same
      show tTup _ _ (upd H2 t1 (.tup [V.str "maybe"])) _
      have f3 := f2.same a1
      generalize upd H2 t1 (.tup [V.str "maybe"]) = H3 at a1 b1 f3 ⊢
      refine ⟨_, rfl, by show 2 ≤ sizeLine; decide, fun t2 ht2 => ⟨by show 1 ≤ sizeLine; decide, fun t3 ht3 => ?_⟩⟩
      have a2 := same_upd (o := .tup [V.str "choice", .str other]) ht2
      have a3 := same_upd (o := .tup [V.ref t2]) ht3
      have b2 : SqT K (upd (upd H3 t2 (.tup [V.str "choice", .str other])) t3 (.tup [V.ref t2])) t2 [V.str "choice", .str other] := SqT.of (a3 _ _ upd_same)
      have b3 : SqT K (upd (upd H3 t2 (.tup [V.str "choice", .str other])) t3 (.tup [V.ref t2])) t3 [V.ref t2] := SqT.of upd_same
      have b1' := KeepT.same (K := K) (a2.trans a3) _ _ b1
      have f4 := f3.same (a2.trans a3)
      generalize upd (upd H3 t2 (.tup [V.str "choice", .str other])) t3 (.tup [V.ref t2]) = H4 at b2 b3 b1' f4 ⊢
      refine ⟨t1, t3, _, _, rfl, rfl, b1', b3, by show 1 + 1 ≤ sizeLine; decide, (fun e => nomatch e), (fun _ e => nomatch e), fun _ _ t4 ht4 => ?_⟩
      have a4 := same_upd (o := .tup ([V.str "maybe"] ++ [V.ref t2])) ht4
      exact q _ (some (.may (.cho other))) _ (.tup (SqT.of upd_same) (.cons (.str _) (.cons (.tup (KeepT.same a4 _ _ b2) (.cons (.str _) (.cons (.str _) .nil))) .nil))) (cf_n .may) (f4.same a4)
end
end K22
set_option maxHeartbeats 1000000
namespace K22
open PySem PySem.Spec PyProof.Rows L2 Tw Sb LamX
/-- a choice's cases: their numbers, their words, what they hold -/
structure Chs (P : Option So → Prop) (ns : List Int) (ws : List Str) (es : List En) : Prop where
  num : (es.map En.num).Perm ns
  name : (es.map En.name).Perm ws
  of : ∀ e ∈ es, e.left = none ∧ P e.of ∧ (e.num = 0 → e.of = none)
theorem ins_perm {α : Type} (i : Nat) (xs : List α) (y : α) : (xs.take i ++ [y] ++ xs.drop i).Perm (xs ++ [y]) := by
  rw [List.append_assoc]
  refine (List.Perm.append_left _ List.perm_append_comm).trans ?_
  rw [← List.append_assoc, List.take_append_drop]
theorem Chs.ins {P : Option So → Prop} {ns : List Int} {ws : List Str} {es : List En} (h : Chs P ns ws es) (i : Nat) {e : En} (hl : e.left = none) (hp : P e.of) (h0 : e.num = 0 → e.of = none) : Chs P (ns ++ [e.num]) (ws ++ [e.name]) (es.take i ++ [e] ++ es.drop i) := by
  have p := ins_perm i es e
  refine ⟨(p.map En.num).trans ?_, (p.map En.name).trans ?_, fun x hx => ?_⟩
  · rw [List.map_append]
    exact h.num.append_right _
  · rw [List.map_append]
    exact h.name.append_right _
  · rcases List.mem_append.mp (p.mem_iff.mp hx) with hx | hx
    · exact h.of x hx
    · rw [List.mem_singleton.mp hx]
      exact ⟨hl, hp, h0⟩
theorem Chs.len {P : Option So → Prop} {ns : List Int} {ws : List Str} {es : List En} (h : Chs P ns ws es) : es.length = ns.length := by
  have := h.num.length_eq
  rw [List.length_map] at this
  exact this
theorem tds_ins {K : PySem.W.Frag} {H : Hp} {xs : List V} {es : List En} {v : V} {e : En} (h : Tds K H xs (es.map En.pd)) (i : Nat) (hv : Td K H v e.pd) : Tds K H (xs.take i ++ [v] ++ xs.drop i) ((es.take i ++ [e] ++ es.drop i).map En.pd) := by
  rw [List.map_append, List.map_append, List.map_take, List.map_drop]
  exact Tds.append (Tds.append (h.take i) (.cons hv .nil)) (h.drop i)
theorem at_word {ws : List Str} {i : Nat} {w : Str} (h : ws[i]? = some w) : atI (ws.map V.str) (0 + (i : Nat)) = some (.str w) := by
  rw [show (0 : Int) + (i : Nat) = ((i : Nat) : Int) by omega]
  exact atI_nat (by rw [List.getElem?_map, h]; rfl)
theorem small_abs2 {m : Int} (h0 : 0 ≤ m) (h1 : m ≤ 1000) : m.natAbs < 2 ^ 250 := Nat.lt_of_lt_of_le (show m.natAbs < 1024 by omega) (by decide)
structure Words (ws : List Str) : Prop where
  len : ws.length = 8
  nd : ws.Nodup
  nm : ∀ w ∈ ws, isNm w = true
def spCases (K : PySem.W.Frag) : Sp := fun vs H Q _ => ∃ (a b wl : Addr) (other : Str) (ns : List Int) (ws : List Str), vs = [.ref a, .ref b, .ref wl, .str other] ∧ IsW2 H a ∧ H b = some (.lst (ns.map V.int)) ∧ b ≠ a ∧ H wl = some (.lst (ws.map V.str)) ∧ wl ≠ a ∧ ns.length ≤ 6 ∧ ws.length = 8 ∧
  ∀ (L : Addr) (xs : List V) (es : List En) (H' : Hp), H L = none → H' L = some (.lst xs) → Tds K H' xs (es.map En.pd) → Chs (Cf other) ns (ws.take ns.length) es → Fv a H H' → Q (.ref L) H'
section
variable {P : Program} {w : World} {K : PySem.W.Frag} {mg : Str → Option Value} {base : Heap}
theorem ok_cases {f : Addr} {fd : FuncData} (F : Fun K "_law_cases" "_law_cases" s__law_cases f fd) (T : Bu mg) (c__law_draw : Cal P w K mg base 1 "_law_draw" ["_law_well", "_law_many"] spDraw2) (c__law_content : Cal P w K mg base 2 "_law_content" ["_law_well", "_law_other"] (spCtn K)) : FnOk P w K mg base CX0 3 f fd ["_law_well", "_law_numbers_here", "_law_words", "_law_other"] (spCases K) := by
  refine F.ok sc__law_cases (fun vs H Q E h => ?_) (fun cdv A outer s H vs Q E hr h => ?_)
  · obtain ⟨a, b, wl, other, ns, ws, rfl, _⟩ := h
    rfl
  · obtain ⟨a, b, wl, other, ns, ws, rfl, hw, hb, nb, hwl, nwl, hns, hws, q⟩ := h
    refine ⟨_, (pss_cons (ps_set (i := 4) sc__law_cases.nd rfl (.inl rfl) (pe_lst pa_nil))
      (pss_cons (ps_for PassesOwn.never rfl (pi_en rfl T.n_enumerate (pa_cons (pv 1) pa_nil)) (pg_tup rfl (pgs_cons (pg_name (i := 5) sc__law_cases.nd rfl (.inl rfl)) (pgs_cons (pg_name (i := 6) sc__law_cases.nd rfl (.inl rfl)) pgs_nil)))
        (pss_cons (ps_set (i := 7) sc__law_cases.nd rfl (.inl rfl) (pe_ifExp (pt_cmpR op_eq (pv 6) pe_int (nomark _)) pe_non (pe_cal c__law_content hr (by decide) (by rfl) (pa_cons (pv 0) (pa_cons (pv 3) pa_nil)))))
        (pss_one (ps_expr (pe_bm PySem.F.plainAttrs_list PySem.F.slot_list_insert PySem.F.type_list_insert mt_insert (pv 4) (pa_cons (pe_cal c__law_draw hr (by decide) (by rfl) (pa_cons (pv 0) (pa_cons (pe_op op_add (pe_callB call_len_seq (by rfl) T.n_len (by decide +kernel) (pa_cons (pv 4) pa_nil)) pe_int) pa_nil))) (pa_cons (pe_tup (pa_cons (pv 6) (pa_cons (pe_ix (r := rIxL K) ix_list (pv 2) (pv 5) (fun _ _ => rfl)) (pa_cons (pv 7) pa_nil)))) pa_nil)))))))
      (pss_one (ps_ret (pv 4))))), ?_⟩
    refine ⟨by show 0 ≤ sizeLine; decide, fun L hL => ?_⟩
    have nL := hw.ne hL
    have hwl0 := (same_upd (o := .lst []) hL) _ _ hwl
    have f0 := Fv.of_same hw (same_upd (o := .lst []) hL)
    have hL0 : (upd H L (.lst [])) L = some (.lst []) := upd_same
    have hb0 := f0.1 b _ nb hb
    generalize upd H L (.lst []) = H0 at f0 hL0 hb0 hwl0 ⊢
    refine ⟨_, rfl, b, _, rfl, .inl (SqL.of hb0), fun bt g1 g0 => ?_⟩
    refine for_it (walk_enC (K := K) (a := b) (xs := ns.map V.int) (c := 0) (b := bt)) (fun i σ H' => ∃ (y5 y6 y7 : Option V) (xs : List V) (es : List En), σ = [some (.ref a), some (.ref b), some (.ref wl), some (.str other), some (.ref L), y5, y6, y7] ∧ Fv a H H' ∧ H' L = some (.lst xs) ∧ Tds K H' xs (es.map En.pd) ∧ Chs (Cf other) (ns.take i) (ws.take i) es) ⟨_, _, _, [], [], rfl, f0, hL0, .nil, ⟨.refl _, .refl _, fun e h => nomatch h⟩⟩ (fun i σ H' _ h => ?_) ?_ ?_
    · obtain ⟨_, _, _, _, _, _, f, _⟩ := h
      cases bt with
      | true =>
        rcases g1 rfl with (h | ⟨o, h⟩) | h
        · rw [hb0] at h
          cases h
        · rw [hb0] at h
          cases h
        · exact .inr h
      | false => exact SqL.of (f.1 b _ nb hb)
    · rintro i x σ H2 H3 hi ⟨y5, y6, y7, xs, es, rfl, f2, hL2, hx, ok⟩ ⟨T1, x1, z1, rfl, hT, rfl, e1, e2⟩
      cases e1
      have e2 : (ns.map V.int)[i]? = some z1 := e2
      obtain ⟨n, rfl, hn⟩ : ∃ n, z1 = V.int n ∧ ns[i]? = some n := by
        rw [List.getElem?_map] at e2
        obtain ⟨n, hn, h⟩ := Option.map_eq_some_iff.mp e2
        exact ⟨n, h.symm, hn⟩
      have hi' : i < ns.length := (List.getElem?_eq_some_iff.mp hn).1
      have sT := same_upd (o := .tup [.int (0 + (i : Nat)), V.int n]) hT
      refine ⟨T1, _, rfl, SqT.of upd_same, rfl, _, _, rfl, _, _, rfl, rfl, ?_⟩
      have f3 := f2.same sT
      have hL3 := sT _ _ hL2
      have hx3 := hx.keep (KeepT.same sT)
      generalize upd H2 T1 (.tup [.int (0 + (i : Nat)), V.int n]) = H3 at f3 hL3 hx3 ⊢
      have el := ok.len
      rw [List.length_take] at el
      have xl := hx3.len
      rw [List.length_map] at xl
      obtain ⟨wd, hwd⟩ : ∃ wd, ws[i]? = some wd := ⟨_, List.getElem?_eq_getElem (by omega)⟩
      refine ⟨_, rfl, rfl, _, rfl, ?_⟩
      by_cases hz : n = 0
      · refine iteY (congrArg V.int hz) ?_
        have hL4 := (Fv.refl f3.2).1 L _ nL hL3
        refine ⟨_, rfl, .inl ⟨rfl, _, SqL.of hL4⟩, ?_⟩
        refine ⟨_, rfl, _, rfl, L, _, rfl, .inl (SqL.of hL4), _, 1, rfl, rfl, a, _, rfl, (Fv.refl f3.2).2, by omega, small_abs2 (by omega) (by omega), fun r H5 r0 r1 f5 => ?_⟩
        have hL5 := f5.1 L _ nL hL4
        have f35 := ((Fv.refl f3.2)).trans f5
        have hwl5 := f35.1 wl _ nwl (f3.1 wl _ nwl hwl)
        refine ⟨_, rfl, _, rfl, _, rfl, wl, _, _, _, rfl, rfl, SqL.of hwl5, (at_word hwd), _, rfl, by show 3 ≤ sizeLine; decide, fun t ht => ?_⟩
        have st := same_upd (o := .tup [V.int n, .str wd, V.non]) ht
        have hLt := st _ _ hL5
        refine ⟨L, xs, r, _, rfl, rfl, hLt, by rw [sizeLine_eq]; omega, r0, by omega, ?_⟩
        have f03 := (f3.trans f35).same st
        have kx : KeepT K H3 (upd H5 t (.tup [V.int n, .str wd, V.non])) := (f35.keepT f3.2).trans (KeepT.same st)
        have kl := keepT_lst (K := K) (ys := xs.take r.toNat ++ [V.ref t] ++ xs.drop r.toNat) hLt
        have hve : Td K (upd H5 t (.tup [V.int n, .str wd, V.non])) (.ref t) (En.pd ⟨n, wd, none, none⟩) := .tup (SqT.of upd_same) (.cons (.int _) (.cons (.str _) (.cons (((Td.non : Td K H3 .non (oSo none))).keep ((f5.keepT (Fv.refl f3.2).2).trans (KeepT.same st))) .nil)))
        have ht1 : ns.take (i + 1) = ns.take i ++ [n] := by
          rw [List.take_add_one, hn]
          rfl
        have ht2 : ws.take (i + 1) = ws.take i ++ [wd] := by
          rw [List.take_add_one, hwd]
          rfl
        refine ⟨_, _, _, _, es.take r.toNat ++ [⟨n, wd, none, none⟩] ++ es.drop r.toNat, rfl, fv_lst f03 nL hL, upd_same, (tds_ins (hx3.keep kx) r.toNat hve).keep kl, ?_⟩
        · rw [ht1, ht2]
          exact ok.ins r.toNat (e := ⟨n, wd, none, none⟩) rfl .non (fun _ => rfl)
      · refine iteN (ine hz) ⟨_, rfl, _, rfl, a, other, rfl, f3.2, fun v o H4 hv hc f4 => ?_⟩
        have hL4 := f4.1 L _ nL hL3
        refine ⟨_, rfl, .inl ⟨rfl, _, SqL.of hL4⟩, ?_⟩
        refine ⟨_, rfl, _, rfl, L, _, rfl, .inl (SqL.of hL4), _, 1, rfl, rfl, a, _, rfl, f4.2, by omega, small_abs2 (by omega) (by omega), fun r H5 r0 r1 f5 => ?_⟩
        have hL5 := f5.1 L _ nL hL4
        have f35 := (f4).trans f5
        have hwl5 := f35.1 wl _ nwl (f3.1 wl _ nwl hwl)
        refine ⟨_, rfl, _, rfl, _, rfl, wl, _, _, _, rfl, rfl, SqL.of hwl5, (at_word hwd), _, rfl, by show 3 ≤ sizeLine; decide, fun t ht => ?_⟩
        have st := same_upd (o := .tup [V.int n, .str wd, v]) ht
        have hLt := st _ _ hL5
        refine ⟨L, xs, r, _, rfl, rfl, hLt, by rw [sizeLine_eq]; omega, r0, by omega, ?_⟩
        have f03 := (f3.trans f35).same st
        have kx : KeepT K H3 (upd H5 t (.tup [V.int n, .str wd, v])) := (f35.keepT f3.2).trans (KeepT.same st)
        have kl := keepT_lst (K := K) (ys := xs.take r.toNat ++ [V.ref t] ++ xs.drop r.toNat) hLt
        have hve : Td K (upd H5 t (.tup [V.int n, .str wd, v])) (.ref t) (En.pd ⟨n, wd, o, none⟩) := .tup (SqT.of upd_same) (.cons (.int _) (.cons (.str _) (.cons ((hv).keep ((f5.keepT f4.2).trans (KeepT.same st))) .nil)))
        have ht1 : ns.take (i + 1) = ns.take i ++ [n] := by
          rw [List.take_add_one, hn]
          rfl
        have ht2 : ws.take (i + 1) = ws.take i ++ [wd] := by
          rw [List.take_add_one, hwd]
          rfl
        refine ⟨_, _, _, _, es.take r.toNat ++ [⟨n, wd, o, none⟩] ++ es.drop r.toNat, rfl, fv_lst f03 nL hL, upd_same, (tds_ins (hx3.keep kx) r.toNat hve).keep kl, ?_⟩
        · rw [ht1, ht2]
          exact ok.ins r.toNat (e := ⟨n, wd, o, none⟩) rfl (cto_cf hc) (fun e => absurd e hz)
    · rintro σ H2 ⟨y5, y6, y7, xs, es, rfl, f2, hL2, hx, ok⟩
      rw [List.length_map] at ok
      rw [List.take_length] at ok
      exact ⟨_, rfl, q L xs es H2 hL hL2 hx ok f2⟩
end
end K22
namespace K22
open PySem PySem.Spec PyProof.Rows L2 Tw Sb LamX
def spPW (K : PySem.W.Frag) : Sp := fun vs H Q _ => ∃ (v : V) (o n : So), vs = [v] ∧ Td K H v (.tuple [o.pd, n.pd]) ∧ Q (.str (pwS o n)) H
def spInP (K : PySem.W.Frag) : Sp := fun vs H Q _ => ∃ (v : V) (o n : So), vs = [v] ∧ Td K H v (.tuple [o.pd, n.pd]) ∧ o.okc ∧ n.okc ∧ (pwS o n = "row" ∨ pwS o n = "maybe" ∨ pwS o n = "force" ∨ pwS o n = "wrap") ∧ ∀ (H' : Hp) (t : Addr), Same H H' → Td K H' (.ref t) (.tuple [(inO o n).pd, (inN o n).pd]) → Q (.ref t) H'
def spKBb : Sp := fun vs H Q _ => ∃ (n : Int) (lo hi : Option Int), vs = [.int n, oV lo, oV hi] ∧ Q (.bl (withinB n lo hi)) H
def oS : Option Str → V
  | none => .non
  | some z => .str z
section
variable {P : Program} {w : World} {K : PySem.W.Frag} {mg : Str → Option Value} {base : Heap}
theorem ok_pair_word {f : Addr} {fd : FuncData} (F : Fun K "pair_word" "pair_word" s_pair_word f fd) : FnOk P w K mg base CX0 1 f fd ["pair"] (spPW K) := by
  refine F.ok sc_pair_word (fun vs H Q E h => ?_) (fun cdv A outer s H vs Q E hr h => ?_)
  · obtain ⟨v, o, n, rfl, _⟩ := h
    rfl
  · obtain ⟨v, o, n, rfl, ht, q⟩ := h
    refine ⟨_, (pss_cons (ps_asg (pv 0) (pg_tup rfl (pgs_cons (pg_name (i := 1) sc_pair_word.nd rfl (.inl rfl)) (pgs_cons (pg_name (i := 2) sc_pair_word.nd rfl (.inl rfl)) pgs_nil))))
      (pss_cons (ps_if (pt_cmpR op_eq (pe_ix (r := rIxT K) ix_tup (pv 1) pe_int (fun _ _ => rfl)) (pe_ix (r := rIxT K) ix_tup (pv 2) pe_int (fun _ _ => rfl)) (nomark _))
        (pss_one (ps_ret (pe_ix (r := rIxT K) ix_tup (pv 1) pe_int (fun _ _ => rfl))))
        pss_nil)
      (pss_cons (ps_if (pt_cmpR op_eq (pe_ix (r := rIxT K) ix_tup (pv 1) pe_int (fun _ _ => rfl)) pe_str (nomark _))
        (pss_one (ps_ret pe_str))
        pss_nil)
      (pss_one (ps_ret (pe_ifExp (pt_cmpR op_eq (pe_ix (r := rIxT K) ix_tup (pv 2) pe_int (fun _ _ => rfl)) pe_str (nomark _)) pe_str pe_str)))))), ?_⟩
    obtain ⟨p, x, y, rfl, hp, hx, hy⟩ := ht.pair
    obtain ⟨px, zx, rfl, hpx, _⟩ := hx.sort
    obtain ⟨py, zy, rfl, hpy, _⟩ := hy.sort
    have rd : ∀ {r : Addr} {z : List V} {s : So} {Qq : VK}, SqT K H r (.str s.word :: z) → Qq (.str s.word) H → rIxT K (.ref r) (.int 0) H Qq := fun h q => ⟨_, _, 0, _, rfl, rfl, h, at0, q⟩
    refine ⟨_, rfl, p, _, rfl, hp, rfl, _, _, rfl, _, _, rfl, rfl, ?_⟩
    unfold pwS at q
    refine ⟨_, rfl, px, _, 0, _, rfl, rfl, hpx, at0, _, rfl, py, _, 0, _, rfl, rfl, hpy, at0, rfl, _, rfl, ?_⟩
    by_cases h1 : o.word = n.word
    · rw [if_pos h1] at q
      exact iteY (congrArg V.str h1) ⟨_, rfl, px, _, 0, _, rfl, rfl, hpx, at0, q⟩
    · rw [if_neg h1] at q
      refine iteN (sne h1) ?_
      refine ⟨_, rfl, px, _, 0, _, rfl, rfl, hpx, at0, rfl, _, rfl, ?_⟩
      by_cases h2 : o.word = "maybe"
      · rw [if_pos h2] at q
        exact iteY (congrArg V.str h2) q
      · rw [if_neg h2] at q
        refine iteN (sne h2) ?_
        refine ⟨_, rfl, py, _, 0, _, rfl, rfl, hpy, at0, rfl, _, rfl, ?_⟩
        by_cases h3 : n.word = "maybe"
        · rw [if_pos h3] at q
          exact iteY (congrArg V.str h3) q
        · rw [if_neg h3] at q
          exact iteN (sne h3) q
theorem ok_inner_pair {f : Addr} {fd : FuncData} (F : Fun K "inner_pair" "inner_pair" s_inner_pair f fd) (c_pair_word : Cal P w K mg base 1 "pair_word" ["pair"] (spPW K)) : FnOk P w K mg base CX0 2 f fd ["pair"] (spInP K) := by
  refine F.ok sc_inner_pair (fun vs H Q E h => ?_) (fun cdv A outer s H vs Q E hr h => ?_)
  · obtain ⟨v, o, n, rfl, _⟩ := h
    rfl
  · obtain ⟨v, o, n, rfl, ht, ho, hn, hw, q⟩ := h
    refine ⟨_, (pss_cons (ps_asg (pv 0) (pg_tup rfl (pgs_cons (pg_name (i := 1) sc_inner_pair.nd rfl (.inl rfl)) (pgs_cons (pg_name (i := 2) sc_inner_pair.nd rfl (.inl rfl)) pgs_nil))))
      (pss_cons (ps_set (i := 3) sc_inner_pair.nd rfl (.inl rfl) (pe_cal c_pair_word hr (by decide) (by rfl) (pa_cons (pv 0) pa_nil)))
      (pss_cons (ps_if (pt_cmpR op_eq (pv 3) pe_str (nomark _))
        (pss_one (ps_ret (pe_tup (pa_cons (pe_ix (r := rIxT K) ix_tup (pv 1) pe_int (fun _ _ => rfl)) (pa_cons (pe_ix (r := rIxT K) ix_tup (pv 2) pe_int (fun _ _ => rfl)) pa_nil)))))
        pss_nil)
      (pss_one (ps_ret (pe_tup (pa_cons (pe_ifExp (pt_cmpR op_eq (pv 3) pe_str (nomark _)) (pv 1) (pe_ix (r := rIxT K) ix_tup (pv 1) pe_int (fun _ _ => rfl))) (pa_cons (pe_ifExp (pt_cmpR op_eq (pv 3) pe_str (nomark _)) (pv 2) (pe_ix (r := rIxT K) ix_tup (pv 2) pe_int (fun _ _ => rfl))) pa_nil)))))))), ?_⟩
    obtain ⟨p, x, y, rfl, hp, hx, hy⟩ := ht.pair
    obtain ⟨px, zx, rfl, hpx, hzx⟩ := hx.sort
    obtain ⟨py, zy, rfl, hpy, hzy⟩ := hy.sort
    refine ⟨_, rfl, p, _, rfl, hp, rfl, _, _, rfl, _, _, rfl, rfl, ?_⟩
    refine ⟨_, rfl, .ref p, o, n, rfl, ht, ?_⟩
    have fin : ∀ (u v : V), Td K H u (inO o n).pd → Td K H v (inN o n).pd → ∀ a, H a = none → Q (.ref a) (upd H a (.tup [u, v])) := fun u v hu hv a ha =>
      q _ a (same_upd ha) (.tup (SqT.of upd_same) (.cons (hu.keep (KeepT.same (same_upd ha))) (.cons (hv.keep (KeepT.same (same_upd ha))) .nil)))
    have k := pkc_of ho hn
    generalize pwS o n = W at hw k ⊢
    cases k with
    | num a b c d => exact absurd hw (by decide +kernel)
    | tru => exact absurd hw (by decide +kernel)
    | txt a b => exact absurd hw (by decide +kernel)
    | cho a b => exact absurd hw (by decide +kernel)
    | bad o n h1 h2 h3 => exact absurd hw (by decide +kernel)
    | row a s b t =>
      obtain ⟨x1, x2, rfl, h1, h2⟩ := hzx.c2
      obtain ⟨y1, y2, rfl, h3, h4⟩ := hzy.c2
      refine ⟨_, rfl, rfl, _, rfl, iteY rfl ?_⟩
      exact ⟨_, rfl, px, _, 2, _, rfl, rfl, hpx, at2, _, rfl, py, _, 2, _, rfl, rfl, hpy, at2, by show 2 ≤ sizeLine; decide, fin x2 y2 h2 h4⟩
    | may a b =>
      obtain ⟨x1, rfl, h1⟩ := hzx.c1
      obtain ⟨y1, rfl, h2⟩ := hzy.c1
      refine ⟨_, rfl, rfl, _, rfl, iteN (sne (by decide +kernel)) ?_⟩
      exact ⟨_, rfl, rfl, _, rfl, iteN (sne (by decide +kernel)) ⟨_, rfl, px, _, 1, _, rfl, rfl, hpx, at1, _, rfl, rfl, _, rfl, iteN (sne (by decide +kernel)) ⟨_, rfl, py, _, 1, _, rfl, rfl, hpy, at1, by show 2 ≤ sizeLine; decide, fin x1 y1 h1 h2⟩⟩⟩
    | force a n hn' =>
      obtain ⟨x1, rfl, h1⟩ := hzx.c1
      have e : inN (.may a) n = n := by cases n <;> first | rfl | exact absurd hn' (show ¬ (true = false) by decide)
      refine ⟨_, rfl, rfl, _, rfl, iteN (sne (by decide +kernel)) ?_⟩
      exact ⟨_, rfl, rfl, _, rfl, iteN (sne (by decide +kernel)) ⟨_, rfl, px, _, 1, _, rfl, rfl, hpx, at1, _, rfl, rfl, _, rfl, iteY rfl ⟨_, rfl, by show 2 ≤ sizeLine; decide, fin x1 _ h1 (by rw [e]; exact hy)⟩⟩⟩
    | wrap o b ho' =>
      obtain ⟨y1, rfl, h1⟩ := hzy.c1
      have e : inO o (.may b) = o := by cases o <;> first | rfl | exact absurd ho' (show ¬ (true = false) by decide)
      have e2 : inN o (.may b) = b := by cases o <;> rfl
      refine ⟨_, rfl, rfl, _, rfl, iteN (sne (by decide +kernel)) ?_⟩
      exact ⟨_, rfl, rfl, _, rfl, iteY rfl ⟨_, rfl, _, rfl, rfl, _, rfl, iteN (sne (by decide +kernel)) ⟨_, rfl, py, _, 1, _, rfl, rfl, hpy, at1, by show 2 ≤ sizeLine; decide, fin _ y1 (by rw [e]; exact hx) (by rw [e2]; exact h1)⟩⟩⟩
theorem ok_keeps_boundsB {f : Addr} {fd : FuncData} (F : Fun K "keeps_bounds" "keeps_bounds" s_keeps_bounds f fd) : FnOk P w K mg base CX0 1 f fd ["number", "low", "high"] spKBb := by
  refine F.ok sc_keeps_bounds (fun vs H Q E h => ?_) (fun cdv A outer s H vs Q E hr h => ?_)
  · obtain ⟨n, lo, hi, rfl, _⟩ := h
    rfl
  · obtain ⟨n, lo, hi, rfl, q⟩ := h
    refine ⟨_, (pss_cons (ps_if (PW.pt (pw_and (pt_cmpR op_notN (pv 1) pe_non (nomark _)) (pw_and1 (pt_cmpR op_lt (pv 0) (pv 1) (nomark _)))))
        (pss_one (ps_ret pe_bl))
        pss_nil)
      (pss_one (ps_ret (pe_or (pe_cmpR op_isN (pv 2) pe_non (nomark _)) (pe_one (pe_cmpR op_le (pv 0) (pv 2) (nomark _))))))), ?_⟩
    have fin : (lo.all fun a => decide (a ≤ n)) = true → (tRet (tOrV (tOp (fun x y H Q => y = V.non ∧ Q (V.bl (decide (x = V.non))) H) (tVar 2) (tC V.non)) (tOp (rI0 fun i j => V.bl (decide (i ≤ j))) (tVar 0) (tVar 2)))) { nx := fun x H' => Q V.non H', rt := Q } (L2.start N_keeps_bounds [V.int n, oV lo, oV hi]) H := by
      intro hl
      unfold withinB at q
      rw [hl, Bool.true_and] at q
      refine ⟨_, rfl, rfl, _, rfl, ?_⟩
      cases hi with
      | none =>
        rw [oV_none]
        exact q
      | some b =>
        rw [oV_some]
        exact ⟨_, rfl, _, rfl, n, b, rfl, rfl, q⟩
    refine ⟨_, rfl, rfl, _, rfl, ?_⟩
    cases lo with
    | none =>
      rw [oV_none]
      exact iteF (fin rfl)
    | some a =>
      rw [oV_some]
      refine ⟨_, rfl, _, rfl, n, a, rfl, rfl, _, rfl, ?_⟩
      by_cases h : n < a
      · rw [decide_eq_true h]
        refine iteT ?_
        unfold withinB at q
        rw [show ((some a).all fun a => decide (a ≤ n)) = false from decide_eq_false (by omega), Bool.false_and] at q
        exact q
      · rw [decide_eq_false h]
        exact iteF (fin (decide_eq_true (by omega)))
end
end K22
namespace K22
open PySem PySem.Spec PyProof.Rows L2 Tw Sb LamX
def spVF (K : PySem.W.Frag) (CC : Addr) (TO : Ch) : Sp := fun vs H Q _ => ∃ (v u : V) (o n : So) (d : PyData), vs = [v, u] ∧ Td K H v (.tuple [o.pd, n.pd]) ∧ Tc K CC H u d ∧ o.okc ∧ n.okc ∧ ThC TO o d ∧ ∀ H', Same H H' → Q (oS (vfc o n d)) H'
def spPath (K : PySem.W.Frag) : Sp := fun vs H Q _ => ∃ (v : V) (rp : List PyData), vs = [v] ∧ Td K H v (wayR rp) ∧ rp.length ≤ 10000000 ∧ ∀ (H' : Hp) (t : Addr), Same H H' → Td K H' (.ref t) (.tuple rp.reverse) → Q (.ref t) H'
structure ClU (K : PySem.W.Frag) (C : Addr) : Prop where
  cl : Cls K C
  nJ : NoAttr K C "jobs"
  nM : NoAttr K C "made"
  nO : NoAttr K C "old"
  nN : NoAttr K C "new"
  nD : NoAttr K C "nodes"
def spBInit (C : Addr) : Sp := fun vs H Q _ => ∃ (p dx : Addr), vs = [.ref p] ∧ H p = some (.ins C dx []) ∧ ∀ (H' : Hp) (J M : Addr), (∀ b o, b ≠ p → H b = some o → H' b = some o) → H J = none → H M = none → J ≠ M → H' J = some (.lst []) → H' M = some (.lst []) → H' p = some (.ins C dx [("jobs", .ref J), ("made", .ref M)]) → Q .non H'
def spNext (C : Addr) : Sp := fun vs H Q _ => ∃ (p dx l J : Addr) (fs : List (Str × V)) (js xs : List V), vs = [.ref p, .ref l] ∧ H p = some (.ins C dx fs) ∧ fs.lookup (("jobs" : Str)) = some (.ref J) ∧ H J = some (.lst js) ∧ H l = some (.lst xs) ∧ l ≠ J ∧ js.length + xs.length ≤ 1000000 ∧
  ∀ H', (∀ b o, b ≠ J → H b = some o → H' b = some o) → H' J = some (.lst (js ++ xs.reverse)) → Q .non H'
def spTaken (C : Addr) : Sp := fun vs H Q _ => ∃ (p dx M : Addr) (fs : List (Str × V)) (ms : List V) (k : Nat), vs = [.ref p, .int (k : Int)] ∧ H p = some (.ins C dx fs) ∧ fs.lookup (("made" : Str)) = some (.ref M) ∧ H M = some (.lst ms) ∧ k ≤ ms.length ∧ ms.length ≤ 1000000 ∧
  ∀ (H' : Hp) (t : Addr), (∀ b o, b ≠ M → H b = some o → H' b = some o) → H t = none → H' M = some (.lst (ms.take (ms.length - k))) → H' t = some (.lst (ms.drop (ms.length - k))) → Q (.ref t) H'
def spNtInit (C : Addr) : Sp := fun vs H Q _ => ∃ (a : Addr) (y z : V), vs = [.ref a, y, z] ∧ H a = some (exo a C none) ∧ ∀ dx, H dx = none → dx ≠ a → Q .non (upd (upd (upd H dx (exd dx [(("path" : Str), y)])) a (exo a C (some dx))) dx (exd dx [(("why" : Str), z), (("path" : Str), y)]))
structure NtC (K : PySem.W.Frag) (mg : Str → Option Value) (x : Str) (C fI : Addr) : Prop where
  oex : OexC K C
  g : mg x = some (.ref C)
  iC : PySem.W.findIn K (.ref C) "__init__" = some (some (.ref fI))
  tI : PySem.W.typeIn K (.ref fI) = some (.type "function")
  no : PySem.W.findIn K (.ref C) "path" = some none
  no2 : PySem.W.findIn K (.ref C) "why" = some none
section
variable {P : Program} {w : World} {K : PySem.W.Frag} {mg : Str → Option Value} {base : Heap}
theorem ok_path_along {f : Addr} {fd : FuncData} (F : Fun K "path_along" "path_along" s_path_along f fd) (T : Bu mg) : FnOk P w K mg base CX0 1 f fd ["way"] (spPath K) := by
  refine F.ok sc_path_along (fun vs H Q E h => ?_) (fun cdv A outer s H vs Q E hr h => ?_)
  · obtain ⟨v, rp, rfl, _⟩ := h
    rfl
  · obtain ⟨v, rp, rfl, ht, hl, q⟩ := h
    refine ⟨_, (pss_cons (ps_set (i := 1) sc_path_along.nd rfl (.inl rfl) (pe_lst pa_nil))
      (pss_cons (ps_while PassesOwn.never (pt_cmpR op_notN (pv 0) pe_non (nomark _))
        (pss_cons (ps_asg (pv 0) (pg_tup rfl (pgs_cons (pg_name (i := 0) sc_path_along.nd rfl (.inl rfl)) (pgs_cons (pg_name (i := 2) sc_path_along.nd rfl (.inl rfl)) pgs_nil))))
        (pss_one (ps_expr (pe_bm PySem.F.plainAttrs_list PySem.F.slot_list_append PySem.F.type_list_append mt_append (pv 1) (pa_cons (pv 2) pa_nil))))))
      (pss_one (ps_ret (pe_callTy (T := "tuple") (r := rTupOf K) cr_tupK (by rfl) T.n_tuple (by decide +kernel) (pa_cons (pe_revL (pv 1)) pa_nil)))))), ?_⟩
    refine ⟨by show 0 ≤ sizeLine; decide, fun D hD => ?_⟩
    refine ⟨fun m σ H' => ∃ (u : V) (y : Option V) (rest done : List PyData) (xs : List V), m = rest.length ∧ σ = [some u, some (.ref D), y] ∧ Same H H' ∧ H' D = some (.lst xs) ∧ Td K H' u (wayR rest) ∧ Tds K H' xs done ∧ rp = done ++ rest, ⟨_, v, none, rp, [], [], rfl, rfl, same_upd hD, upd_same, ht.keep (KeepT.same (same_upd hD)), .nil, rfl⟩, ?_⟩
    rintro m σ H1 ⟨u, y, rest, done, xs, rfl, rfl, s1, hD1, hu, hxs, e⟩
    have hxl := hxs.len
    have el : done.length + rest.length = rp.length := by rw [e, List.length_append]
    cases rest with
    | nil =>
      obtain rfl := hu.toNone
      refine ⟨_, rfl, rfl, _, rfl, iteNY rfl ?_⟩
      have ed : rp = done := e.trans (List.append_nil _)
      refine ⟨_, rfl, D, xs, rfl, SqL.of hD1, fun r hr0 => ?_⟩
      have s2 := same_upd (o := .lst xs.reverse) hr0
      have hR : (upd H1 r (.lst xs.reverse)) r = some (.lst xs.reverse) := upd_same
      generalize upd H1 r (.lst xs.reverse) = H2 at s2 hR ⊢
      refine ⟨r, _, rfl, .inl ⟨SqL.of hR, fun t ht => ?_⟩⟩
      have s3 := same_upd (o := .tup xs.reverse) ht
      refine q _ t ((s1.trans s2).trans s3) (.tup (SqT.of upd_same) ?_)
      rw [ed]
      exact ((hxs.rev).keep (KeepT.same s2)).keep (KeepT.same s3)
    | cons st rest =>
      obtain ⟨p, x, y2, rfl, hp, hx, hy⟩ := Td.pair (show Td K H1 u (.tuple [wayR rest, st]) from hu)
      refine ⟨_, rfl, rfl, _, rfl, iteNN (fun z => nomatch z) ⟨_, fun _ _ h => h, ?_⟩⟩
      rw [List.length_cons] at el
      refine ⟨_, rfl, p, _, rfl, hp, rfl, _, _, rfl, _, _, rfl, rfl, ?_⟩
      refine ⟨_, rfl, .inl ⟨rfl, _, SqL.of hD1⟩, _, rfl, D, _, _, rfl, rfl, hD1, by rw [hxl, sizeLine_eq]; omega, ?_⟩
      have ss : Same H (upd H1 D (.lst (xs ++ [y2]))) := same_new s1 hD
      have kk : KeepT K H1 (upd H1 D (.lst (xs ++ [y2]))) := keepT_lst hD1
      exact ⟨rest.length, Nat.lt_succ_self _, x, _, rest, done ++ [st], _, rfl, rfl, ss, upd_same, hx.keep kk, Tds.append (hxs.keep kk) (.cons (hy.keep kk) .nil), by rw [List.append_assoc]; exact e⟩
theorem ok_value_fault {CC f : Addr} {TO : Ch} {fd : FuncData} (F : Fun K "value_fault" "value_fault" s_value_fault f fd) (T : Bu mg) (c_pair_word : Cal P w K mg base 1 "pair_word" ["pair"] (spPW K)) (c_keeps_bounds : Cal P w K mg base 1 "keeps_bounds" ["number", "low", "high"] spKBb) : FnOk P w K mg base CX0 2 f fd ["pair", "thing"] (spVF K CC TO) := by
  refine F.ok sc_value_fault (fun vs H Q E h => ?_) (fun cdv A outer s H vs Q E hr h => ?_)
  · obtain ⟨v, u, o, n, d, rfl, _⟩ := h
    rfl
  · obtain ⟨v, u, o, n, d, rfl, ht, hu, ho, hn, hd, q⟩ := h
    refine ⟨_, (pss_cons (ps_set (i := 2) sc_value_fault.nd rfl (.inl rfl) (pe_ix (r := rIxT K) ix_tup (pv 0) pe_int (fun _ _ => rfl)))
      (pss_cons (ps_set (i := 3) sc_value_fault.nd rfl (.inl rfl) (pe_cal c_pair_word hr (by decide) (by rfl) (pa_cons (pv 0) pa_nil)))
      (pss_cons (ps_if (pt_cmpR op_eq (pv 3) pe_str (nomark _))
        (pss_one (ps_ret pe_str))
        pss_nil)
      (pss_cons (ps_if (PW.pt (pw_and (pt_cmpR op_eq (pv 3) pe_str (nomark _)) (pw_and1 (pt_not (pt_val (pe_cal c_keeps_bounds hr (by decide) (by rfl) (pa_cons (pv 1) (pa_cons (pe_ix (r := rIxT K) ix_tup (pv 2) pe_int (fun _ _ => rfl)) (pa_cons (pe_ix (r := rIxT K) ix_tup (pv 2) pe_int (fun _ _ => rfl)) pa_nil)))))))))
        (pss_one (ps_ret pe_str))
        pss_nil)
      (pss_cons (ps_if (PW.pt (pw_and (pt_cmpR op_in_seq (pv 3) (pe_tup (pa_cons pe_str (pa_cons pe_str pa_nil))) (by rfl)) (pw_and1 (pt_cmpR op_gt (pe_callB call_len (by rfl) T.n_len (by decide +kernel) (pa_cons (pv 1) pa_nil)) (pe_ix (r := rIxT K) ix_tup (pv 2) pe_int (fun _ _ => rfl)) (nomark _)))))
        (pss_one (ps_ret pe_str))
        pss_nil)
      (pss_one (ps_ret (pe_ifExp (PW.pt (pw_and (pt_cmpR op_eq (pv 3) pe_str (nomark _)) (pw_and1 (pt_cmpR op_isN (pv 1) pe_non (nomark _))))) pe_str pe_non)))))))), ?_⟩
    obtain ⟨p, x, y, rfl, hp, hx, hy⟩ := ht.pair
    obtain ⟨px, zx, rfl, hpx, hzx⟩ := hx.sort
    obtain ⟨py, zy, rfl, hpy, hzy⟩ := hy.sort
    refine ⟨_, rfl, p, _, 1, _, rfl, rfl, hp, at1, _, rfl, _, o, n, rfl, ht, ?_⟩
    have k := pkc_of ho hn
    generalize pwS o n = W at k ⊢
    cases k with
    | num a b c e =>
      obtain ⟨y1, y2, rfl, h1, h2⟩ := hzy.c2
      obtain rfl := h1.oV
      obtain rfl := h2.oV
      obtain ⟨z, rfl⟩ := hd.num
      obtain rfl := hu.toInt
      refine ⟨_, rfl, rfl, _, rfl, iteN (sne (show ("number" : Str) ≠ "bad" by decide +kernel)) ?_⟩
      refine ⟨_, rfl, rfl, _, rfl, iteY rfl ?_⟩
      refine ⟨_, rfl, _, rfl, py, _, 1, oV c, rfl, rfl, hpy, at1, _, rfl, py, _, 2, oV e, rfl, rfl, hpy, at2, z, c, e, rfl, withinB z c e, rfl, ?_⟩
      have q : ∀ H', Same H H' → Q (oS (if withinB z c e = true then none else some "bounds")) H' := q
      cases hb : withinB z c e with
      | false =>
        rw [hb] at q
        exact iteT (q H (Same.refl _))
      | true =>
        rw [hb] at q
        refine iteF ?_
        refine ⟨_, rfl, by show 2 ≤ sizeLine; decide, fun t ht => ⟨t, _, rfl, .inr (SqT.of upd_same), rfl, rfl, _, rfl, ?_⟩⟩
        rw [show inV (.str ("number" : Str)) [V.str ("text" : Str), V.str ("row" : Str)] = false by decide +kernel]
        have st := same_upd (o := .tup [V.str ("text" : Str), V.str ("row" : Str)]) ht
        generalize upd H t (.tup [V.str ("text" : Str), V.str ("row" : Str)]) = H1 at st ⊢
        refine iteF ?_
        exact ⟨_, rfl, rfl, _, rfl, iteN (sne (show ("number" : Str) ≠ "force" by decide +kernel)) (q H1 st)⟩
    | tru =>
      refine ⟨_, rfl, rfl, _, rfl, iteN (sne (show ("truth" : Str) ≠ "bad" by decide +kernel)) ?_⟩
      refine ⟨_, rfl, rfl, _, rfl, iteN (sne (show ("truth" : Str) ≠ "number" by decide +kernel)) ?_⟩
      refine ⟨_, rfl, by show 2 ≤ sizeLine; decide, fun t ht => ⟨t, _, rfl, .inr (SqT.of upd_same), rfl, rfl, _, rfl, ?_⟩⟩
      rw [show inV (.str ("truth" : Str)) [V.str ("text" : Str), V.str ("row" : Str)] = false by decide +kernel]
      have st := same_upd (o := .tup [V.str ("text" : Str), V.str ("row" : Str)]) ht
      generalize upd H t (.tup [V.str ("text" : Str), V.str ("row" : Str)]) = H1 at st ⊢
      refine iteF ?_
      exact ⟨_, rfl, rfl, _, rfl, iteN (sne (show ("truth" : Str) ≠ "force" by decide +kernel)) (q H1 st)⟩
    | cho a b =>
      refine ⟨_, rfl, rfl, _, rfl, iteN (sne (show ("choice" : Str) ≠ "bad" by decide +kernel)) ?_⟩
      refine ⟨_, rfl, rfl, _, rfl, iteN (sne (show ("choice" : Str) ≠ "number" by decide +kernel)) ?_⟩
      refine ⟨_, rfl, by show 2 ≤ sizeLine; decide, fun t ht => ⟨t, _, rfl, .inr (SqT.of upd_same), rfl, rfl, _, rfl, ?_⟩⟩
      rw [show inV (.str ("choice" : Str)) [V.str ("text" : Str), V.str ("row" : Str)] = false by decide +kernel]
      have st := same_upd (o := .tup [V.str ("text" : Str), V.str ("row" : Str)]) ht
      generalize upd H t (.tup [V.str ("text" : Str), V.str ("row" : Str)]) = H1 at st ⊢
      refine iteF ?_
      exact ⟨_, rfl, rfl, _, rfl, iteN (sne (show ("choice" : Str) ≠ "force" by decide +kernel)) (q H1 st)⟩
    | txt a b =>
      obtain ⟨y1, rfl, h1⟩ := hzy.c1
      obtain rfl := h1.toInt
      obtain ⟨z, rfl, hz⟩ := hd.txt
      obtain rfl := hu.toStr
      refine ⟨_, rfl, rfl, _, rfl, iteN (sne (show ("text" : Str) ≠ "bad" by decide +kernel)) ?_⟩
      refine ⟨_, rfl, rfl, _, rfl, iteN (sne (show ("text" : Str) ≠ "number" by decide +kernel)) ?_⟩
      refine ⟨_, rfl, by show 2 ≤ sizeLine; decide, fun t ht => ⟨t, _, rfl, .inr (SqT.of upd_same), rfl, rfl, _, rfl, ?_⟩⟩
      rw [show inV (.str ("text" : Str)) [V.str ("text" : Str), V.str ("row" : Str)] = true by decide +kernel]
      have st := same_upd (o := .tup [V.str ("text" : Str), V.str ("row" : Str)]) ht
      generalize upd H t (.tup [V.str ("text" : Str), V.str ("row" : Str)]) = H1 at st ⊢
      refine iteT ⟨_, rfl, .str z, _, rfl, ⟨line_le 40 hz (by decide), rfl⟩, _, rfl, py, _, 1, .int b, rfl, rfl, KeepT.same st _ _ hpy, at1, _, b, rfl, rfl, ?_⟩
      have q : ∀ H', Same H H' → Q (oS (if (z.length : Int) > b then some "most" else none)) H' := q
      by_cases hb : (z.length : Int) > b
      · rw [if_pos hb] at q
        exact ⟨_, rfl, iteY hb (q H1 st)⟩
      · rw [if_neg hb] at q
        refine ⟨_, rfl, iteN hb ?_⟩
        exact ⟨_, rfl, rfl, _, rfl, iteN (sne (show ("text" : Str) ≠ "force" by decide +kernel)) (q H1 st)⟩
    | row a s b t2 =>
      obtain ⟨y1, y2, rfl, h1, h2⟩ := hzy.c2
      obtain rfl := h1.toInt
      obtain ⟨ds, rfl, hz, _⟩ := hd.row
      obtain ⟨pt, zt, rfl, hpt, hzt⟩ := hu.row
      have hzl := hzt.len
      refine ⟨_, rfl, rfl, _, rfl, iteN (sne (show ("row" : Str) ≠ "bad" by decide +kernel)) ?_⟩
      refine ⟨_, rfl, rfl, _, rfl, iteN (sne (show ("row" : Str) ≠ "number" by decide +kernel)) ?_⟩
      refine ⟨_, rfl, by show 2 ≤ sizeLine; decide, fun t ht => ⟨t, _, rfl, .inr (SqT.of upd_same), rfl, rfl, _, rfl, ?_⟩⟩
      rw [show inV (.str ("row" : Str)) [V.str ("text" : Str), V.str ("row" : Str)] = true by decide +kernel]
      have st := same_upd (o := .tup [V.str ("text" : Str), V.str ("row" : Str)]) ht
      generalize upd H t (.tup [V.str ("text" : Str), V.str ("row" : Str)]) = H1 at st ⊢
      refine iteT ⟨_, rfl, .ref pt, _, rfl, .inr ⟨_, KeepT.same st _ _ hpt, rfl⟩, _, rfl, py, _, 1, .int b, rfl, rfl, KeepT.same st _ _ hpy, at1, _, b, rfl, rfl, ?_⟩
      rw [hzl]
      have q : ∀ H', Same H H' → Q (oS (if (ds.length : Int) > b then some "most" else none)) H' := q
      by_cases hb : (ds.length : Int) > b
      · rw [if_pos hb] at q
        exact ⟨_, rfl, iteY hb (q H1 st)⟩
      · rw [if_neg hb] at q
        refine ⟨_, rfl, iteN hb ?_⟩
        exact ⟨_, rfl, rfl, _, rfl, iteN (sne (show ("row" : Str) ≠ "force" by decide +kernel)) (q H1 st)⟩
    | may a b =>
      refine ⟨_, rfl, rfl, _, rfl, iteN (sne (show ("maybe" : Str) ≠ "bad" by decide +kernel)) ?_⟩
      refine ⟨_, rfl, rfl, _, rfl, iteN (sne (show ("maybe" : Str) ≠ "number" by decide +kernel)) ?_⟩
      refine ⟨_, rfl, by show 2 ≤ sizeLine; decide, fun t ht => ⟨t, _, rfl, .inr (SqT.of upd_same), rfl, rfl, _, rfl, ?_⟩⟩
      rw [show inV (.str ("maybe" : Str)) [V.str ("text" : Str), V.str ("row" : Str)] = false by decide +kernel]
      have st := same_upd (o := .tup [V.str ("text" : Str), V.str ("row" : Str)]) ht
      generalize upd H t (.tup [V.str ("text" : Str), V.str ("row" : Str)]) = H1 at st ⊢
      refine iteF ?_
      exact ⟨_, rfl, rfl, _, rfl, iteN (sne (show ("maybe" : Str) ≠ "force" by decide +kernel)) (q H1 st)⟩
    | force a n hn' =>
      rw [vfc_force hn'] at q
      refine ⟨_, rfl, rfl, _, rfl, iteN (sne (show ("force" : Str) ≠ "bad" by decide +kernel)) ?_⟩
      refine ⟨_, rfl, rfl, _, rfl, iteN (sne (show ("force" : Str) ≠ "number" by decide +kernel)) ?_⟩
      refine ⟨_, rfl, by show 2 ≤ sizeLine; decide, fun t ht => ⟨t, _, rfl, .inr (SqT.of upd_same), rfl, rfl, _, rfl, ?_⟩⟩
      rw [show inV (.str ("force" : Str)) [V.str ("text" : Str), V.str ("row" : Str)] = false by decide +kernel]
      have st := same_upd (o := .tup [V.str ("text" : Str), V.str ("row" : Str)]) ht
      generalize upd H t (.tup [V.str ("text" : Str), V.str ("row" : Str)]) = H1 at st ⊢
      refine iteF ?_
      refine ⟨_, rfl, rfl, _, rfl, iteY rfl ?_⟩
      cases hu with
      | non => exact ⟨_, rfl, rfl, _, rfl, iteY rfl (q H1 st)⟩
      | bl b => exact ⟨_, rfl, rfl, _, rfl, iteN (fun z => nomatch z) (q H1 st)⟩
      | int b => exact ⟨_, rfl, rfl, _, rfl, iteN (fun z => nomatch z) (q H1 st)⟩
      | str b => exact ⟨_, rfl, rfl, _, rfl, iteN (fun z => nomatch z) (q H1 st)⟩
      | tup h1 h2 => exact ⟨_, rfl, rfl, _, rfl, iteN (fun z => nomatch z) (q H1 st)⟩
      | cas h1 h2 => exact ⟨_, rfl, rfl, _, rfl, iteN (fun z => nomatch z) (q H1 st)⟩
    | wrap o b ho' =>
      rw [vfc_wrap ho'] at q
      refine ⟨_, rfl, rfl, _, rfl, iteN (sne (show ("wrap" : Str) ≠ "bad" by decide +kernel)) ?_⟩
      refine ⟨_, rfl, rfl, _, rfl, iteN (sne (show ("wrap" : Str) ≠ "number" by decide +kernel)) ?_⟩
      refine ⟨_, rfl, by show 2 ≤ sizeLine; decide, fun t ht => ⟨t, _, rfl, .inr (SqT.of upd_same), rfl, rfl, _, rfl, ?_⟩⟩
      rw [show inV (.str ("wrap" : Str)) [V.str ("text" : Str), V.str ("row" : Str)] = false by decide +kernel]
      have st := same_upd (o := .tup [V.str ("text" : Str), V.str ("row" : Str)]) ht
      generalize upd H t (.tup [V.str ("text" : Str), V.str ("row" : Str)]) = H1 at st ⊢
      refine iteF ?_
      exact ⟨_, rfl, rfl, _, rfl, iteN (sne (show ("wrap" : Str) ≠ "force" by decide +kernel)) (q H1 st)⟩
    | bad o n g1 g2 g3 =>
      rw [vfc_bad g1 g2 g3] at q
      exact ⟨_, rfl, rfl, _, rfl, iteY rfl (q H (Same.refl _))⟩
theorem ok_binit {C f : Addr} {fd : FuncData} (F : Fun K "__init__" "Builder.__init__" s_Builder___init__ f fd) (cl : ClU K C) : FnOk P w K mg base CX0 1 f fd ["self"] (spBInit C) := by
  refine F.ok sc_Builder___init__ (fun vs H Q E h => ?_) (fun cdv A outer s H vs Q E hr h => ?_)
  · obtain ⟨p, dx, rfl, _⟩ := h
    rfl
  · obtain ⟨p, dx, rfl, hp, q⟩ := h
    refine ⟨_, (pss_cons (ps_fld (pv 0) (pe_lst pa_nil) rfl)
      (pss_one (ps_fld (pv 0) (pe_lst pa_nil) rfl))), ?_⟩
    refine ⟨by show 0 ≤ sizeLine; decide, fun J hJ => ?_⟩
    have npJ : p ≠ J := ne_of_none hp hJ
    refine ⟨_, rfl, p, C, dx, [], rfl, by rw [upd_ne npJ]; exact hp, cl.cl, cl.nJ, by show 0 < 1000; decide, ?_⟩
    refine ⟨by show 0 ≤ sizeLine; decide, fun M hM => ?_⟩
    have hp2 : (upd (upd H J (.lst [])) p (.ins C dx (putF "jobs" (.ref J) []))) p = some (.ins C dx (putF "jobs" (.ref J) [])) := upd_same
    have npM : p ≠ M := ne_of_none hp2 hM
    have hJ2 : (upd (upd H J (.lst [])) p (.ins C dx (putF "jobs" (.ref J) []))) J = some (.lst []) := by rw [upd_ne npJ.symm, upd_same]
    have nJM : J ≠ M := ne_of_none hJ2 hM
    refine ⟨_, rfl, p, C, dx, _, rfl, by rw [upd_ne npM]; exact hp2, cl.cl, cl.nM, by show 1 < 1000; decide, ?_⟩
    refine q _ J M (fun b o nb e => ?_) hJ ?_ nJM ?_ ?_ ?_
    · rw [upd_ne nb, upd_ne (fun z => ?_), upd_ne nb, upd_ne (ne_of_none e hJ)]
      · exact e
      · subst z
        rw [upd_ne npM.symm, upd_ne nJM.symm, e] at hM
        cases hM
    · rw [upd_ne npM.symm, upd_ne nJM.symm] at hM
      exact hM
    · rw [upd_ne npJ.symm, upd_ne nJM]
      exact hJ2
    · rw [upd_ne npM.symm, upd_same]
    · rw [upd_same]
      rfl
theorem ok_do_next {C f : Addr} {fd : FuncData} (F : Fun K "do_next" "Builder.do_next" s_Builder_do_next f fd) (cl : ClU K C) : FnOk P w K mg base CX0 1 f fd ["self", "jobs"] (spNext C) := by
  refine F.ok sc_Builder_do_next (fun vs H Q E h => ?_) (fun cdv A outer s H vs Q E hr h => ?_)
  · obtain ⟨p, dx, l, J, fs, js, xs, rfl, _⟩ := h
    rfl
  · obtain ⟨p, dx, l, J, fs, js, xs, rfl, hp, hf, hJ, hl, hne, hz, q⟩ := h
    refine ⟨_, (pss_one (ps_expr (pe_bm PySem.F.plainAttrs_list PySem.F.slot_list_extend PySem.F.type_list_extend mt_extend (pe_fld (pv 0) rfl) (pa_cons (pe_revL (pv 1)) pa_nil)))), ?_⟩
    refine ⟨_, rfl, p, C, dx, fs, _, rfl, hp, cl.cl, cl.nJ, hf, ?_⟩
    refine ⟨.inl ⟨rfl, _, SqL.of hJ⟩, ?_⟩
    refine ⟨_, rfl, l, xs, rfl, SqL.of hl, fun r hr0 => ?_⟩
    have s1 := same_upd (o := .lst xs.reverse) hr0
    refine ⟨J, r, js, xs.reverse, rfl, rfl, s1 _ _ hJ, upd_same, by rw [List.length_reverse, sizeLine_eq]; omega, ?_⟩
    refine q _ (fun b o nb e => ?_) upd_same
    rw [upd_ne nb]
    exact s1 _ _ e
theorem ok_taken {C f : Addr} {fd : FuncData} (F : Fun K "taken" "Builder.taken" s_Builder_taken f fd) (T : Bu mg) (cl : ClU K C) : FnOk P w K mg base CX0 1 f fd ["self", "many"] (spTaken C) := by
  refine F.ok sc_Builder_taken (fun vs H Q E h => ?_) (fun cdv A outer s H vs Q E hr h => ?_)
  · obtain ⟨p, dx, M, fs, ms, k, rfl, _⟩ := h
    rfl
  · obtain ⟨p, dx, M, fs, ms, k, rfl, hp, hf, hM, hk, hz, q⟩ := h
    refine ⟨_, (pss_cons (ps_set (i := 2) sc_Builder_taken.nd rfl (.inl rfl) (pe_op op_sub (pe_callB call_len_seq (by rfl) T.n_len (by decide +kernel) (pa_cons (pe_fld (pv 0) rfl) pa_nil)) (pv 1)))
      (pss_cons (ps_set (i := 3) sc_Builder_taken.nd rfl (.inl rfl) (pe_slice (r := rSlL K) sl_list (pe_fld (pv 0) rfl) (po_some (pv 2)) po_none))
      (pss_cons (ps_delC (pe_fld (pv 0) rfl) (po_some (pv 2)))
      (pss_one (ps_ret (pv 3)))))), ?_⟩
    refine ⟨_, rfl, p, C, dx, fs, _, rfl, hp, cl.cl, cl.nM, hf, M, _, rfl, .inl (SqL.of hM), _, rfl, ms.length, k, rfl, rfl, ?_⟩
    have ek : ((ms.length : Nat) : Int) - (k : Int) = ((ms.length - k : Nat) : Int) := by omega
    dsimp only
    rw [ek]
    refine ⟨_, rfl, p, C, dx, fs, _, rfl, hp, cl.cl, cl.nM, hf, _, rfl, _, rfl, M, ms, rfl, SqL.of hM, fun t ht => ?_⟩
    have s1 := same_upd (o := .lst (cutV ms (some ((ms.length - k : Nat) : Int)) none)) ht
    have hT : (upd H t (.lst (cutV ms (some ((ms.length - k : Nat) : Int)) none))) t = some (.lst (ms.drop (ms.length - k))) := by rw [upd_same, cut_n0]
    have nMt := ne_of_none hM ht
    generalize upd H t (.lst (cutV ms (some ((ms.length - k : Nat) : Int)) none)) = H1 at s1 hT ⊢
    refine ⟨_, rfl, p, C, dx, fs, _, rfl, s1 _ _ hp, cl.cl, cl.nM, hf, _, rfl, _, rfl, M, ms, ms.length - k, rfl, rfl, s1 _ _ hM, Nat.sub_le _ _, ?_⟩
    refine ⟨_, rfl, q _ t (fun b o nb e => ?_) ht upd_same ?_⟩
    · rw [upd_ne nb]
      exact s1 _ _ e
    · rw [upd_ne nMt.symm]
      exact hT
theorem ok_ntinit {x : Str} {C f : Addr} {fd : FuncData} (F : Fun K "__init__" "NoTurn.__init__" s_NoTurn___init__ f fd) (N : NtC K mg x C f) : FnOk P w K mg base CX0 1 f fd ["self", "path", "why"] (spNtInit C) := by
  refine F.ok sc_NoTurn___init__ (fun vs H Q E h => ?_) (fun cdv A outer s H vs Q E hr h => ?_)
  · obtain ⟨a, y, z, rfl, _⟩ := h
    rfl
  · obtain ⟨a, y, z, rfl, hA, q⟩ := h
    refine ⟨_, (pss_cons (ps_ost (pv 0) (pv 1))
      (pss_one (ps_ost (pv 0) (pv 2)))), ?_⟩
    refine ⟨_, rfl, _, rfl, a, C, rfl, N.oex, N.no, .inl ⟨hA, fun dx h1 h2 => ?_⟩⟩
    refine ⟨_, rfl, _, rfl, a, C, rfl, N.oex, N.no2, .inr ⟨dx, _, upd_same, ?_, ?_, q dx h1 h2⟩⟩
    · rw [upd_ne h2, upd_same]
    · show 1 ≤ 900
      decide
end
end K22
namespace K22
open PySem PySem.Spec PyProof.Rows L2 Tw Sb LamX
/-- what a row's search tells -/
def OE (K : PySem.W.Frag) (H : Hp) (u : V) : Option En → Prop
  | none => u = .non
  | some e => Td K H u e.pd
def spByNum (K : PySem.W.Frag) : Sp := fun vs H Q _ => ∃ (a : Addr) (xs : List V) (es : List En) (k : Int), vs = [.ref a, .int k] ∧ SqT K H a xs ∧ Tds K H xs (es.map En.pd) ∧ ∀ u, OE K H u (enNum es k) → Q u H
def spByName (K : PySem.W.Frag) : Sp := fun vs H Q _ => ∃ (a : Addr) (xs : List V) (es : List En) (k : Str), vs = [.ref a, .str k] ∧ SqT K H a xs ∧ Tds K H xs (es.map En.pd) ∧ ∀ u, OE K H u (enName es k) → Q u H
def spCRead (K : PySem.W.Frag) : Sp := fun vs H Q _ => ∃ (a : Addr) (xs : List V) (es : List En) (k : Int), vs = [.ref a, .int k] ∧ SqT K H a xs ∧ Tds K H xs (es.map En.pd) ∧ ∀ u, OE K H u (enRead es k) → Q u H
section
variable {P : Program} {w : World} {K : PySem.W.Frag} {mg : Str → Option Value} {base : Heap}
theorem find_next {α : Type} {p : α → Bool} {es : List α} {i : Nat} {e : α} (h : es.find? p = (es.drop i).find? p) (he : es[i]? = some e) (hp : p e = false) : es.find? p = (es.drop (i + 1)).find? p := by
  obtain ⟨hi, rfl⟩ := List.getElem?_eq_some_iff.mp he
  rw [h, List.drop_eq_getElem_cons hi, List.find?_cons, hp]
theorem find_here {α : Type} {p : α → Bool} {es : List α} {i : Nat} {e : α} (h : es.find? p = (es.drop i).find? p) (he : es[i]? = some e) (hp : p e = true) : es.find? p = some e := by
  obtain ⟨hi, rfl⟩ := List.getElem?_eq_some_iff.mp he
  rw [h, List.drop_eq_getElem_cons hi, List.find?_cons, hp]
theorem en_at {H : Hp} {xs : List V} {es : List En} {i : Nat} {v : V} (h : Tds K H xs (es.map En.pd)) (hv : xs[i]? = some v) : ∃ e, es[i]? = some e ∧ Td K H v e.pd := by
  obtain ⟨d, hd, ht⟩ := Tds.at_ h hv
  rw [List.getElem?_map] at hd
  obtain ⟨e, he, rfl⟩ := Option.map_eq_some_iff.mp hd
  exact ⟨e, he, ht⟩
theorem en_row {H : Hp} {v : V} {e : En} (h : Td K H v e.pd) : ∃ p u r, v = .ref p ∧ SqT K H p (.int e.num :: .str e.name :: u :: r) ∧ Td K H u (e.of.elim .none So.pd) ∧ Tds K H r e.left.toList := by
  obtain ⟨p, zs, rfl, hp, hz⟩ := Td.row (show Td K H v (.tuple (.int e.num :: .str e.name :: e.of.elim .none So.pd :: e.left.toList)) from h)
  cases hz with
  | cons t1 t2 =>
    cases t2 with
    | cons t2 t3 =>
      cases t3 with
      | cons t3 t4 =>
        obtain rfl := t1.toInt
        obtain rfl := t2.toStr
        exact ⟨p, _, _, rfl, hp, t3, t4⟩
theorem ok_by_number {f : Addr} {fd : FuncData} (F : Fun K "by_number" "by_number" s_by_number f fd) : FnOk P w K mg base CX0 1 f fd ["row", "number"] (spByNum K) := by
  refine F.ok sc_by_number (fun vs H Q E h => ?_) (fun cdv A outer s H vs Q E hr h => ?_)
  · obtain ⟨a, xs, es, k, rfl, _⟩ := h
    rfl
  · obtain ⟨a, xs, es, k, rfl, ha, hx, q⟩ := h
    refine ⟨_, (pss_cons (ps_for PassesOwn.never rfl (pi_tup (pv 0)) (pg_name (i := 2) sc_by_number.nd rfl (.inl rfl))
        (pss_one (ps_if (pt_cmpR op_eq (pe_ix (r := rIxT K) ix_tup (pv 2) pe_int (fun _ _ => rfl)) (pv 1) (nomark _))
          (pss_one (ps_ret (pv 2)))
          pss_nil)))
      (pss_one (ps_ret pe_non))), ?_⟩
    have hl := hx.len
    rw [List.length_map] at hl
    refine ⟨_, rfl, a, rfl, ⟨_, ha⟩, ?_⟩
    refine for_it (walk_tup (K := K) (a := a) (xs := xs)) (fun i σ H' => ∃ (y2 : Option V), σ = [some (.ref a), some (.int k), y2] ∧ H' = H ∧ enNum es k = (es.drop i).find? fun e => decide (e.num = k)) ⟨_, rfl, rfl, rfl⟩ (fun _ _ _ _ ⟨_, _, e, _⟩ => e ▸ ha) ?_ ?_
    · rintro i x σ H2 H3 hi ⟨y2, rfl, rfl, hd⟩ ⟨rfl, hv⟩
      obtain ⟨e, he, ht⟩ := en_at hx hv
      obtain ⟨p, u, r, rfl, hp, _⟩ := en_row ht
      refine ⟨_, rfl, p, _, 0, _, rfl, rfl, hp, at0, _, rfl, rfl, _, rfl, ?_⟩
      by_cases h : e.num = k
      · refine iteY (congrArg V.int h) ⟨_, rfl, q _ ?_⟩
        rw [show enNum es k = some e from find_here hd he (decide_eq_true h)]
        exact ht
      · exact iteN (fun z => h (by injection z)) ⟨_, rfl, rfl, find_next hd he (decide_eq_false h)⟩
    · rintro σ H2 ⟨y2, rfl, rfl, hd⟩
      refine q _ ?_
      rw [hl, List.drop_length] at hd
      rw [hd]
      exact rfl
theorem ok_by_name {f : Addr} {fd : FuncData} (F : Fun K "by_name" "by_name" s_by_name f fd) (T : Bu mg) : FnOk P w K mg base CX0 1 f fd ["row", "name"] (spByName K) := by
  refine F.ok sc_by_name (fun vs H Q E h => ?_) (fun cdv A outer s H vs Q E hr h => ?_)
  · obtain ⟨a, xs, es, k, rfl, _⟩ := h
    rfl
  · obtain ⟨a, xs, es, k, rfl, ha, hx, q⟩ := h
    refine ⟨_, (pss_cons (ps_if (pt_not (pt_val (pe_callB (id := "isinstance") (r := rIsi K) call_isi (by rfl) T.n_isinstance (by decide +kernel) (pa_cons (pv 1) (pa_cons (pe_bltn (v := .ty "str") rfl T.n_str (by decide +kernel) rfl) pa_nil)))))
        (pss_one (ps_ret pe_non))
        pss_nil)
      (pss_cons (ps_for PassesOwn.never rfl (pi_tup (pv 0)) (pg_name (i := 2) sc_by_name.nd rfl (.inl rfl))
        (pss_one (ps_if (pt_cmpR op_eq (pe_ix (r := rIxT K) ix_tup (pv 2) pe_int (fun _ _ => rfl)) (pv 1) (nomark _))
          (pss_one (ps_ret (pv 2)))
          pss_nil)))
      (pss_one (ps_ret pe_non)))), ?_⟩
    have hl := hx.len
    rw [List.length_map] at hl
    refine ⟨_, rfl, .str k, .ty "str", .type "str", .type "str", true, rfl, .ty "str", .base (.str k), kit_ty (by decide +kernel), true, rfl, iteF ?_⟩
    refine ⟨_, rfl, a, rfl, ⟨_, ha⟩, ?_⟩
    refine for_it (walk_tup (K := K) (a := a) (xs := xs)) (fun i σ H' => ∃ (y2 : Option V), σ = [some (.ref a), some (.str k), y2] ∧ H' = H ∧ enName es k = (es.drop i).find? fun e => decide (e.name = k)) ⟨_, rfl, rfl, rfl⟩ (fun _ _ _ _ ⟨_, _, e, _⟩ => e ▸ ha) ?_ ?_
    · rintro i x σ H2 H3 hi ⟨y2, rfl, rfl, hd⟩ ⟨rfl, hv⟩
      obtain ⟨e, he, ht⟩ := en_at hx hv
      obtain ⟨p, u, r, rfl, hp, _⟩ := en_row ht
      refine ⟨_, rfl, p, _, 1, _, rfl, rfl, hp, at1, _, rfl, rfl, _, rfl, ?_⟩
      by_cases h : e.name = k
      · refine iteY (congrArg V.str h) ⟨_, rfl, q _ ?_⟩
        rw [show enName es k = some e from find_here hd he (decide_eq_true h)]
        exact ht
      · exact iteN (sne h) ⟨_, rfl, rfl, find_next hd he (decide_eq_false h)⟩
    · rintro σ H2 ⟨y2, rfl, rfl, hd⟩
      refine q _ ?_
      rw [hl, List.drop_length] at hd
      rw [hd]
      exact rfl
theorem ok_case_read {f : Addr} {fd : FuncData} (F : Fun K "case_read" "case_read" s_case_read f fd) (c_by_number : Cal P w K mg base 1 "by_number" ["row", "number"] (spByNum K)) : FnOk P w K mg base CX0 2 f fd ["row", "number"] (spCRead K) := by
  refine F.ok sc_case_read (fun vs H Q E h => ?_) (fun cdv A outer s H vs Q E hr h => ?_)
  · obtain ⟨a, xs, es, k, rfl, _⟩ := h
    rfl
  · obtain ⟨a, xs, es, k, rfl, ha, hx, q⟩ := h
    refine ⟨_, (pss_cons (ps_set (i := 2) sc_case_read.nd rfl (.inl rfl) (pe_cal c_by_number hr (by decide) (by rfl) (pa_cons (pv 0) (pa_cons (pv 1) pa_nil))))
      (pss_one (ps_ret (pe_ifExp (pt_cmpR op_isN (pv 2) pe_non (nomark _)) (pe_cal c_by_number hr (by decide) (by rfl) (pa_cons (pv 0) (pa_cons pe_int pa_nil))) (pv 2))))), ?_⟩
    refine ⟨_, rfl, _, rfl, a, xs, es, k, rfl, ha, hx, fun u hu => ?_⟩
    unfold enRead at q
    cases hn : enNum es k with
    | none =>
      rw [hn] at hu q
      obtain rfl : u = .non := hu
      exact ⟨_, rfl, rfl, _, rfl, iteY rfl ⟨_, rfl, a, xs, es, 0, rfl, ha, hx, fun v hv => q v hv⟩⟩
    | some e =>
      rw [hn] at hu q
      obtain ⟨p, _, _, rfl, _⟩ := en_row hu
      exact ⟨_, rfl, rfl, _, rfl, iteN (fun z => nomatch z) ⟨_, rfl, q _ hu⟩⟩
end
end K22
set_option maxHeartbeats 2000000
namespace K22
open PySem PySem.Spec PyProof.Rows L2 Tw Sb LamX
def words : List Str := ["one", "two", "inside", "case", "none", "ab", "abc", "zzzzzzzz"]
def rot (t n : Nat) : List Str := (List.range n).map fun i => words.getD ((i + t) % 8) ""
def otherO (c : Str) : Str := if c = "up" then "down" else "up"
/-- a choice of the old schema, of the new one -/
def GoodO (r : TRow) : Prop := ∃ ns, NsOk ns ∧ 1 ≤ ns.length ∧ ns.length ≤ 6 ∧ Chs (Cf (otherO r.1)) ns (words.take ns.length) r.2
def GoodN (m1 m2 : Str) (r : TRow) : Prop := ∃ ns t, NsOk ns ∧ 1 ≤ ns.length ∧ ns.length ≤ 8 ∧ t < 8 ∧ Chs (CtN (if r.1 = m1 then m2 else m1)) ns (rot t ns.length) r.2
def Two (m1 m2 : Str) : Prop := (m1 = "up" ∧ m2 = "down") ∨ (m1 = "down" ∧ m2 = "up") ∨ (m1 = "aa" ∧ m2 = "b")
/-- a dict's row: a list out of N -/
def RowO (K : PySem.W.Frag) (N : Addr → Prop) (H : Hp) (kv : Key × V) (r : TRow) : Prop := kv.1 = .inr r.1 ∧ ∃ b xs, kv.2 = .ref b ∧ N b ∧ H b = some (.lst xs) ∧ Tds K H xs (r.2.map En.pd)
theorem RowO.keep {K : PySem.W.Frag} {N : Addr → Prop} {H H' : Hp} (k : ∀ b xs, N b → H b = some (.lst xs) → H' b = some (.lst xs)) (kt : KeepT K H H') {kv : Key × V} {r : TRow} (h : RowO K N H kv r) : RowO K N H' kv r := by
  obtain ⟨e, b, xs, e2, n, hb, hx⟩ := h
  exact ⟨e, b, xs, e2, n, k _ _ n hb, hx.keep kt⟩
/-- what stays while the choices are drawn -/
structure Cs0 (K : PySem.W.Frag) (W N p1 p2 po : Addr) (m1 m2 : Str) (H : Hp) : Prop where
  w : H W = some (.lst (words.map V.str))
  n : H N = some (.lst [V.ref p1, .ref p2])
  p : SqT K H p1 [V.str "up", .str "down"]
  o : SqT K H po [V.str m1, .str m2]
theorem Cs0.fv {K : PySem.W.Frag} {a W N p1 p2 po : Addr} {m1 m2 : Str} {H H' : Hp} (h : Cs0 K W N p1 p2 po m1 m2 H) (w : IsW2 H a) (f : Fv a H H') (nW : W ≠ a) (nN : N ≠ a) : Cs0 K W N p1 p2 po m1 m2 H' := ⟨f.1 W _ nW h.w, f.1 N _ nN h.n, f.keepT w _ _ h.p, f.keepT w _ _ h.o⟩
theorem Cs0.same {K : PySem.W.Frag} {W N p1 p2 po : Addr} {m1 m2 : Str} {H H' : Hp} (h : Cs0 K W N p1 p2 po m1 m2 H) (s : Same H H') : Cs0 K W N p1 p2 po m1 m2 H' := ⟨s _ _ h.w, s _ _ h.n, KeepT.same s _ _ h.p, KeepT.same s _ _ h.o⟩
theorem keepT_dK {K : PySem.W.Frag} {H : Hp} {D : Addr} {u u' : List (Key × V)} (h : H D = some (.dK u)) : KeepT K H (upd H D (.dK u')) := KeepT.but fun b o e => by
  have nb : (∀ l, o ≠ .dK l) → b ≠ D := fun n w => by
    rw [w, h] at e
    exact n _ (Option.some.inj e).symm
  exact ⟨fun l w => by rw [upd_ne (nb fun k z => by rw [w] at z; cases z)]; exact e, fun q l w => by rw [upd_ne (nb fun k z => by rw [w] at z; cases z)]; exact e⟩
theorem Cs0.dK {K : PySem.W.Frag} {W N p1 p2 po D : Addr} {m1 m2 : Str} {H : Hp} {u u' : List (Key × V)} (h : Cs0 K W N p1 p2 po m1 m2 H) (hd : H D = some (.dK u)) : Cs0 K W N p1 p2 po m1 m2 (upd H D (.dK u')) :=
  ⟨by rw [upd_ne (ne_of h.w hd (fun z => nomatch z))]; exact h.w, by rw [upd_ne (ne_of h.n hd (fun z => nomatch z))]; exact h.n, keepT_dK hd _ _ h.p, keepT_dK hd _ _ h.o⟩
theorem RowO.dK {K : PySem.W.Frag} {N : Addr → Prop} {D : Addr} {H : Hp} {u u' : List (Key × V)} (hd : H D = some (.dK u)) {kv : Key × V} {r : TRow} (h : RowO K N H kv r) : RowO K N (upd H D (.dK u')) kv r := h.keep (fun b xs _ hb => by rw [upd_ne (ne_of hb hd (fun z => nomatch z))]; exact hb) (keepT_dK hd)
theorem RowO.fv {K : PySem.W.Frag} {a : Addr} {H H' : Hp} (w : IsW2 H a) (f : Fv a H H') {kv : Key × V} {r : TRow} (h : RowO K (fun b => b ≠ a) H kv r) : RowO K (fun b => b ≠ a) H' kv r := h.keep (fun b xs n hb => f.1 b _ n hb) (f.keepT w)
theorem fv_dK {a D : Addr} {H H' : Hp} {u : List (Key × V)} (f : Fv a H H') (n : D ≠ a) (h : H D = none) : Fv a H (upd H' D (.dK u)) := fv_put f n h
theorem keys_of {K : PySem.W.Frag} {N : Addr → Prop} {H : Hp} : ∀ {kv : List (Key × V)} {tb : List TRow}, Paired (RowO K N H) kv tb → kv.map Prod.fst = (tb.map Prod.fst).map Sum.inr
  | _, _, .nil => rfl
  | _, _, .cons h r => by rw [List.map_cons, List.map_cons, List.map_cons, h.1, keys_of r]
theorem Two.ne {m1 m2 : Str} (h : Two m1 m2) : m1 ≠ m2 := by
  rcases h with ⟨rfl, rfl⟩ | ⟨rfl, rfl⟩ | ⟨rfl, rfl⟩
  · exact (show ("up" : Str) ≠ "down" by decide +kernel)
  · exact (show ("down" : Str) ≠ "up" by decide +kernel)
  · exact (show ("aa" : Str) ≠ "b" by decide +kernel)
/-- one of two, and the other -/
theorem one_of {m1 m2 : Str} (n : m1 ≠ m2) {i : Nat} (hi : i < 2) : ∃ c d, atI [V.str m1, .str m2] (0 + (i : Nat)) = some (.str c) ∧ atI [V.str m1, .str m2] (1 - (0 + (i : Nat))) = some (.str d) ∧ d = (if c = m1 then m2 else m1) ∧ [m1, m2].take (i + 1) = [m1, m2].take i ++ [c] ∧ c ∉ [m1, m2].take i := by
  obtain rfl | rfl : i = 0 ∨ i = 1 := by omega
  · exact ⟨m1, m2, rfl, rfl, (if_pos rfl).symm, rfl, fun h => nomatch h⟩
  · exact ⟨m2, m1, rfl, rfl, (if_neg n.symm).symm, rfl, fun h => n (List.mem_singleton.mp h).symm⟩
theorem RowO.mono {K : PySem.W.Frag} {N N' : Addr → Prop} {H : Hp} (k : ∀ b xs, N b → H b = some (.lst xs) → N' b) {kv : Key × V} {r : TRow} (h : RowO K N H kv r) : RowO K N' H kv r := by
  obtain ⟨e, b, xs, e2, n, hb, hx⟩ := h
  exact ⟨e, b, xs, e2, k _ _ n hb, hb, hx⟩
/-- what stands while the new choice's row R is drawn -/
structure Ins (K : PySem.W.Frag) (a R W N p1 p2 po : Addr) (m1 m2 : Str) (D1 D2 L2 L3 : Addr) (kv1 kv2 : List (Key × V)) (to tn : List TRow) (xs : List V) (es : List En) (ms : List Int) (H : Hp) : Prop where
  c : Cs0 K W N p1 p2 po m1 m2 H
  d1 : H D1 = some (.dK kv1)
  d2 : H D2 = some (.dK kv2)
  r1 : Paired (RowO K (fun b => b ≠ a ∧ b ≠ R) H) kv1 to
  r2 : Paired (RowO K (fun b => b ≠ a ∧ b ≠ R) H) kv2 tn
  l2 : H L2 = some (.lst xs)
  hx : Tds K H xs (es.map En.pd)
  l3 : H L3 = some (.lst (ms.map V.int))
structure InN (a R W N D1 D2 L2 L3 : Addr) : Prop where
  w : W ≠ a ∧ W ≠ R
  n : N ≠ a ∧ N ≠ R
  d1 : D1 ≠ a ∧ D1 ≠ R
  d2 : D2 ≠ a ∧ D2 ≠ R
  l2 : L2 ≠ a ∧ L2 ≠ R
  l3 : L3 ≠ a ∧ L3 ≠ R
theorem Ins.step {K : PySem.W.Frag} {a R W N p1 p2 po : Addr} {m1 m2 : Str} {D1 D2 L2 L3 : Addr} {kv1 kv2 : List (Key × V)} {to tn : List TRow} {xs : List V} {es : List En} {ms : List Int} {H H' : Hp} (h : Ins K a R W N p1 p2 po m1 m2 D1 D2 L2 L3 kv1 kv2 to tn xs es ms H) (n : InN a R W N D1 D2 L2 L3) (k : ∀ b u, b ≠ a → b ≠ R → H b = some u → H' b = some u) (kt : KeepT K H H') :
    Ins K a R W N p1 p2 po m1 m2 D1 D2 L2 L3 kv1 kv2 to tn xs es ms H' :=
  ⟨⟨k _ _ n.w.1 n.w.2 h.c.w, k _ _ n.n.1 n.n.2 h.c.n, kt _ _ h.c.p, kt _ _ h.c.o⟩, k _ _ n.d1.1 n.d1.2 h.d1, k _ _ n.d2.1 n.d2.2 h.d2, pd_mono (fun _ _ g => RowO.keep (fun b xs m e => k _ _ m.1 m.2 e) kt g) h.r1, pd_mono (fun _ _ g => RowO.keep (fun b xs m e => k _ _ m.1 m.2 e) kt g) h.r2, k _ _ n.l2.1 n.l2.2 h.l2, h.hx.keep kt, k _ _ n.l3.1 n.l3.2 h.l3⟩
theorem rot_succ (t n : Nat) : rot t (n + 1) = rot t n ++ [words.getD ((n + t) % 8) ""] := by
  unfold rot
  rw [List.range_succ, List.map_append] <;> rfl
theorem word_at {j t : Nat} : atI (words.map V.str) ((0 + (j : Nat) + (t : Int)) % 8) = some (.str (words.getD ((j + t) % 8) "")) := by
  have e : ((0 + (j : Nat) + (t : Int)) % 8 : Int) = (((j + t) % 8 : Nat) : Int) := by omega
  rw [e]
  refine atI_nat ?_
  have hl : (j + t) % 8 < words.length := Nat.mod_lt _ (by decide)
  rw [List.getElem?_map, List.getD_eq_getElem?_getD, List.getElem?_eq_getElem hl]
  rfl
def spChoices (K : PySem.W.Frag) : Sp := fun vs H Q _ => ∃ (a : Addr), vs = [.ref a] ∧ IsW2 H a ∧ ∀ (t d1 d2 : Addr) (p3 : V) (kv1 kv2 : List (Key × V)) (to tn : List TRow) (m1 m2 : Str) (H' : Hp), SqT K H' t [.ref d1, .ref d2, p3] → H' d1 = some (.dK kv1) → H' d2 = some (.dK kv2) → H d1 = none → H d2 = none → d1 ≠ d2 → Td K H' p3 (.tuple [.str m1, .str m2]) → Two m1 m2 →
  Paired (RowO K (fun b => b ≠ a) H') kv1 to → Paired (RowO K (fun b => b ≠ a) H') kv2 tn → to.map Prod.fst = [("up" : Str), "down"] → tn.map Prod.fst = [m1, m2] → (∀ r ∈ to, GoodO r) → (∀ r ∈ tn, GoodN m1 m2 r) → Fv a H H' → Q (.ref t) H'
section
variable {P : Program} {w : World} {K : PySem.W.Frag} {mg : Str → Option Value} {base : Heap}
theorem ok_choices {f : Addr} {fd : FuncData} (F : Fun K "_law_choices" "_law_choices" s__law_choices f fd) (T : Bu mg) (c__law_draw : Cal P w K mg base 1 "_law_draw" ["_law_well", "_law_many"] spDraw2) (c__law_numbers : Cal P w K mg base 2 "_law_numbers" ["_law_well"] (spNums K)) (c__law_near : Cal P w K mg base 3 "_law_near" ["_law_well", "_law_numbers_here"] (spNear K))
    (c__law_near_sort : Cal P w K mg base 3 "_law_near_sort" ["_law_well", "_law_sort", "_law_other"] (spNs K)) (c__law_cases : Cal P w K mg base 3 "_law_cases" ["_law_well", "_law_numbers_here", "_law_words", "_law_other"] (spCases K)) : FnOk P w K mg base CX0 4 f fd ["_law_well"] (spChoices K) := by
  refine F.ok sc__law_choices (fun vs H Q E h => ?_) (fun cdv A outer s H vs Q E hr h => ?_)
  · obtain ⟨a, rfl, _⟩ := h
    rfl
  · obtain ⟨a, rfl, hw, q⟩ := h
    have hu := hu_of hr
    refine ⟨_, (pss_cons (ps_set (i := 1) sc__law_choices.nd rfl (.inl rfl) (pe_lst (pa_cons pe_str (pa_cons pe_str (pa_cons pe_str (pa_cons pe_str (pa_cons pe_str (pa_cons pe_str (pa_cons pe_str (pa_cons pe_str pa_nil))))))))))
      (pss_cons (ps_set (i := 2) sc__law_choices.nd rfl (.inl rfl) (pe_cal c__law_draw hr (by decide) (by rfl) (pa_cons (pv 0) (pa_cons pe_int pa_nil))))
      (pss_cons (ps_set (i := 3) sc__law_choices.nd rfl (.inl rfl) pe_dnewK)
      (pss_cons (ps_set (i := 4) sc__law_choices.nd rfl (.inl rfl) pe_dnewK)
      (pss_cons (ps_set (i := 5) sc__law_choices.nd rfl (.inl rfl) (pe_lst (pa_cons (pe_tup (pa_cons pe_str (pa_cons pe_str pa_nil))) (pa_cons (pe_tup (pa_cons pe_str (pa_cons pe_str pa_nil))) pa_nil))))
      (pss_cons (ps_set (i := 6) sc__law_choices.nd rfl (.inl rfl) (pe_ix (r := rIxL K) ix_list (pe_lst (pa_cons (pe_ix (r := rIxL K) ix_list (pv 5) (pe_cal c__law_draw hr (by decide) (by rfl) (pa_cons (pv 0) (pa_cons pe_int pa_nil))) (fun _ _ => rfl)) (pa_cons (pe_tup (pa_cons pe_str (pa_cons pe_str pa_nil))) pa_nil))) (pe_cal c__law_draw hr (by decide) (by rfl) (pa_cons (pv 0) (pa_cons pe_int pa_nil))) (fun _ _ => rfl)))
      (pss_cons (ps_for PassesOwn.never rfl (pi_range1 rfl T.n_range (pa_cons pe_int pa_nil)) (pg_name (i := 7) sc__law_choices.nd rfl (.inl rfl))
        (pss_cons (ps_set (i := 8) sc__law_choices.nd rfl (.inl rfl) (pe_cal c__law_numbers hr (by decide) (by rfl) (pa_cons (pv 0) pa_nil)))
        (pss_cons (ps_set (i := 9) sc__law_choices.nd rfl (.inl rfl) (pe_cal c__law_cases hr (by decide) (by rfl) (pa_cons (pv 0) (pa_cons (pv 8) (pa_cons (pv 1) (pa_cons (pe_ix (r := rIxT K) ix_tup (pe_ix (r := rIxL K) ix_list (pv 5) pe_int (fun _ _ => rfl)) (pe_op op_sub pe_int (pv 7)) (fun _ _ => rfl)) pa_nil))))))
        (pss_cons (ps_dput hu (pv 3) (pe_ix (r := rIxT K) ix_tup (pe_ix (r := rIxL K) ix_list (pv 5) pe_int (fun _ _ => rfl)) (pv 7) (fun _ _ => rfl)) (pv 9) rfl)
        (pss_cons (ps_set (i := 10) sc__law_choices.nd rfl (.inl rfl) (pe_lst pa_nil))
        (pss_cons (ps_for PassesOwn.never rfl (pi_en rfl T.n_enumerate (pa_cons (pe_cal c__law_near hr (by decide) (by rfl) (pa_cons (pv 0) (pa_cons (pv 8) pa_nil))) pa_nil)) (pg_tup rfl (pgs_cons (pg_name (i := 11) sc__law_choices.nd rfl (.inl rfl)) (pgs_cons (pg_name (i := 12) sc__law_choices.nd rfl (.inr rfl)) pgs_nil)))
          (pss_cons (ps_set (i := 13) sc__law_choices.nd rfl (.inl rfl) (pe_ix (r := rIxL K) ix_list (pe_op op_cat (pe_lc (own := [("_law_case_here", 14)]) rfl sc__law_choices.nd (pi_list (pv 9)) (blkOk_by (N := N__law_choices) (sc := defScope s__law_choices) (by decide +kernel)) (fun _ _ _ _ _ => (pg_name (i := 14) sc__law_choices.nd rfl (.inl rfl))) (fun _ _ _ _ _ => (pts_one (pt_cmpR op_eq (pe_ix (r := rIxT K) ix_tup (pv 14) pe_int (fun _ _ => rfl)) (pv 12) (nomark _)))) (fun _ _ _ _ _ => (pe_ix (r := rIxT K) ix_tup (pv 14) pe_int (fun _ _ => rfl)))) (pe_lst (pa_cons (pe_tup (pa_cons pe_str pa_nil)) pa_nil))) pe_int (fun _ _ => rfl)))
          (pss_cons (ps_set (i := 13) sc__law_choices.nd rfl (.inl rfl) (pe_ifExp (pt_cmpR op_eq (pv 12) pe_int (nomark _)) pe_non (pe_cal c__law_near_sort hr (by decide) (by rfl) (pa_cons (pv 0) (pa_cons (pv 13) (pa_cons (pe_ix (r := rIxT K) ix_tup (pv 6) (pe_op op_sub pe_int (pv 7)) (fun _ _ => rfl)) pa_nil))))))
          (pss_one (ps_expr (pe_bm PySem.F.plainAttrs_list PySem.F.slot_list_insert PySem.F.type_list_insert mt_insert (pv 10) (pa_cons (pe_cal c__law_draw hr (by decide) (by rfl) (pa_cons (pv 0) (pa_cons (pe_op op_add (pe_callB call_len_seq (by rfl) T.n_len (by decide +kernel) (pa_cons (pv 10) pa_nil)) pe_int) pa_nil))) (pa_cons (pe_tup (pa_cons (pv 12) (pa_cons (pe_ix (r := rIxL K) ix_list (pv 1) (pe_op op_mod (pe_op op_add (pv 11) (pv 2)) pe_int) (fun _ _ => rfl)) (pa_cons (pv 13) pa_nil)))) pa_nil))))))))
        (pss_one (ps_dput hu (pv 4) (pe_ix (r := rIxT K) ix_tup (pv 6) (pv 7) (fun _ _ => rfl)) (pv 10) rfl))))))))
      (pss_one (ps_ret (pe_tup (pa_cons (pv 3) (pa_cons (pv 4) (pa_cons (pv 6) pa_nil))))))))))))), ?_⟩
    refine ⟨by show 8 ≤ sizeLine; decide, fun W hW => ?_⟩
    have nW := hw.ne hW
    have f1 := Fv.of_same hw (same_upd (o := .lst (words.map V.str)) hW)
    have vW : (upd H W (.lst (words.map V.str))) W = some (.lst (words.map V.str)) := upd_same
    have hwk : (words.map V.str) = [V.str "one", .str "two", .str "inside", .str "case", .str "none", .str "ab", .str "abc", .str "zzzzzzzz"] := rfl
    rw [hwk] at f1 vW
    rw [← hwk] at f1 vW ⊢
    generalize upd H W (.lst (words.map V.str)) = H1 at f1 vW ⊢
    refine ⟨_, rfl, a, 8, rfl, f1.2, by decide, by decide, fun tu H2 t0 t1 f12 => ?_⟩
    have f2 := f1.trans f12
    have vW2 := f12.1 W _ nW vW
    refine fun D1 hD1 => ?_
    have nD1 := f2.2.ne hD1
    have zD1 : H D1 = none := f2.free hD1
    have k3 := same_upd (o := .dK []) hD1
    have f3 := f2.same k3
    have vD1 : (upd H2 D1 (.dK [])) D1 = some (.dK []) := upd_same
    have vW3 := k3 _ _ vW2
    generalize upd H2 D1 (.dK []) = H3 at k3 f3 vD1 vW3 ⊢
    refine fun D2 hD2 => ?_
    have nD2 := f3.2.ne hD2
    have zD2 : H D2 = none := f3.free hD2
    have nDD : D1 ≠ D2 := ne_of_none vD1 hD2
    have k4 := same_upd (o := .dK []) hD2
    have f4 := f3.same k4
    have vD2 : (upd H3 D2 (.dK [])) D2 = some (.dK []) := upd_same
    have vD1 := k4 _ _ vD1
    have vW4 := k4 _ _ vW3
    generalize upd H3 D2 (.dK []) = H4 at k4 f4 vD2 vD1 vW4 ⊢
    refine ⟨by show 2 ≤ sizeLine; decide, fun p1 hp1 => ⟨by show 2 ≤ sizeLine; decide, fun p2 hp2 => ⟨by show 2 ≤ sizeLine; decide, fun N hN => ?_⟩⟩⟩
    have a1 := same_upd (o := .tup [V.str "up", .str "down"]) hp1
    have a2 := same_upd (o := .tup [V.str "down", .str "up"]) hp2
    have a3 := same_upd (o := .lst [V.ref p1, .ref p2]) hN
    have w1 : SqT K (upd (upd (upd H4 p1 (.tup [V.str "up", .str "down"])) p2 (.tup [V.str "down", .str "up"])) N (.lst [V.ref p1, .ref p2])) p1 [V.str "up", .str "down"] := SqT.of ((a2.trans a3) _ _ upd_same)
    have w2 : SqT K (upd (upd (upd H4 p1 (.tup [V.str "up", .str "down"])) p2 (.tup [V.str "down", .str "up"])) N (.lst [V.ref p1, .ref p2])) p2 [V.str "down", .str "up"] := SqT.of (a3 _ _ upd_same)
    have vN : (upd (upd (upd H4 p1 (.tup [V.str "up", .str "down"])) p2 (.tup [V.str "down", .str "up"])) N (.lst [V.ref p1, .ref p2])) N = some (.lst [V.ref p1, .ref p2]) := upd_same
    have k5 := (a1.trans a2).trans a3
    have nN : N ≠ a := (f4.same (a1.trans a2)).2.ne hN
    generalize upd (upd (upd H4 p1 (.tup [V.str "up", .str "down"])) p2 (.tup [V.str "down", .str "up"])) N (.lst [V.ref p1, .ref p2]) = H5 at w1 w2 vN k5 ⊢
    have f5 := f4.same k5
    have vD1 := k5 _ _ vD1
    have vD2 := k5 _ _ vD2
    have vW5 := k5 _ _ vW4
    refine ⟨_, rfl, _, rfl, a, 2, rfl, f5.2, by decide, by decide, fun i H6 i0 i1 f56 => ?_⟩
    have kk := f56.keepT (K := K) f5.2
    have vN := f56.1 N _ nN vN
    have vD1 := f56.1 D1 _ nD1 vD1
    have vD2 := f56.1 D2 _ nD2 vD2
    have vW6 := f56.1 W _ nW vW5
    have w1 := kk _ _ w1
    have w2 := kk _ _ w2
    have f6 := f5.trans f56
    obtain ⟨pi, m1, m2, hpi, hm, hpt⟩ : ∃ (pi : Addr) (m1 m2 : Str), atI [V.ref p1, V.ref p2] i = some (.ref pi) ∧ Two m1 m2 ∧ SqT K H6 pi [V.str m1, .str m2] := by
      obtain rfl | rfl : i = 0 ∨ i = 1 := by omega
      · exact ⟨p1, "up", "down", rfl, .inl ⟨rfl, rfl⟩, w1⟩
      · exact ⟨p2, "down", "up", rfl, .inr (.inl ⟨rfl, rfl⟩), w2⟩
    refine ⟨N, _, i, _, rfl, rfl, SqL.of vN, hpi, by show 2 ≤ sizeLine; decide, fun p3 hp3 => ⟨by show 2 ≤ sizeLine; decide, fun M hM => ?_⟩⟩
    have b1 := same_upd (o := .tup [V.str "aa", .str "b"]) hp3
    have b2 := same_upd (o := .lst [V.ref pi, .ref p3]) hM
    have w3 : SqT K (upd (upd H6 p3 (.tup [V.str "aa", .str "b"])) M (.lst [V.ref pi, .ref p3])) p3 [V.str "aa", .str "b"] := SqT.of (b2 _ _ upd_same)
    have vM : (upd (upd H6 p3 (.tup [V.str "aa", .str "b"])) M (.lst [V.ref pi, .ref p3])) M = some (.lst [V.ref pi, .ref p3]) := upd_same
    have k7 := b1.trans b2
    have nM : M ≠ a := (f6.same b1).2.ne hM
    generalize upd (upd H6 p3 (.tup [V.str "aa", .str "b"])) M (.lst [V.ref pi, .ref p3]) = H7 at w3 vM k7 ⊢
    have f7 := f6.same k7
    refine ⟨_, rfl, a, 2, rfl, f7.2, by decide, by decide, fun j H8 j0 j1 f78 => ?_⟩
    have kk2 := f78.keepT (K := K) f7.2
    have vM := f78.1 M _ nM vM
    obtain ⟨po, m1, m2, hpo, hm, hpt⟩ : ∃ (po : Addr) (m1 m2 : Str), atI [V.ref pi, V.ref p3] j = some (.ref po) ∧ Two m1 m2 ∧ SqT K H8 po [V.str m1, .str m2] := by
      obtain rfl | rfl : j = 0 ∨ j = 1 := by omega
      · exact ⟨pi, m1, m2, rfl, hm, kk2 _ _ (KeepT.same k7 _ _ hpt)⟩
      · exact ⟨p3, "aa", "b", rfl, .inr (.inr ⟨rfl, rfl⟩), kk2 _ _ w3⟩
    have vN := f78.1 N _ nN (k7 _ _ vN)
    have vD1 := f78.1 D1 _ nD1 (k7 _ _ vD1)
    have vD2 := f78.1 D2 _ nD2 (k7 _ _ vD2)
    have vW8 := f78.1 W _ nW (k7 _ _ vW6)
    have w1 := kk2 _ _ (KeepT.same k7 _ _ w1)
    have f8 := f7.trans f78
    clear k7 f7 f78 w3 k5 k4 k3 f1 f2 f3 f4 f5 f6 f56 vW vW2 vW3 vW4 vW5 vW6 w2 kk kk2 f12
    refine ⟨M, _, j, _, rfl, rfl, SqL.of vM, hpo, ?_⟩
    refine ⟨_, rfl, by decide, by decide, ?_⟩
    have nud : ("up" : Str) ≠ "down" := by decide +kernel
    refine for_it walk_range (fun i σ H' => ∃ (y7 y8 y9 y10 y11 y12 y13 y14 : Option V) (kv1 kv2 : List (Key × V)) (to tn : List TRow), σ = [some (.ref a), some (.ref W), some (.int tu), some (.ref D1), some (.ref D2), some (.ref N), some (.ref po), y7, y8, y9, y10, y11, y12, y13, y14] ∧ Fv a H H' ∧ Cs0 K W N p1 p2 po m1 m2 H' ∧ H' D1 = some (.dK kv1) ∧ H' D2 = some (.dK kv2) ∧ Paired (RowO K (fun b => b ≠ a) H') kv1 to ∧ Paired (RowO K (fun b => b ≠ a) H') kv2 tn ∧ to.map Prod.fst = [("up" : Str), "down"].take i ∧ tn.map Prod.fst = [m1, m2].take i ∧ (∀ r ∈ to, GoodO r) ∧ (∀ r ∈ tn, GoodN m1 m2 r))
      ⟨_, _, _, _, _, _, _, _, [], [], [], [], rfl, f8, ⟨vW8, vN, w1, hpt⟩, vD1, vD2, .nil, .nil, rfl, rfl, (fun r h => nomatch h), (fun r h => nomatch h)⟩ (fun _ _ _ _ _ => trivial) ?_ ?_
    · rintro i x σ H9 H10 hi ⟨y7, y8, y9, y10, y11, y12, y13, y14, kv1, kv2, to, tn, rfl, f9, c9, v1, v2, r1, r2, k1, k2, g1, g2⟩ ⟨rfl, rfl⟩
      obtain ⟨c, oc, e1, e2, e3, e4, e5⟩ := one_of nud hi
      obtain ⟨mc, mo, i1, i2, i3, i4, i5⟩ := one_of hm.ne hi
      refine ⟨_, rfl, a, rfl, f9.2, fun L1 ns H10 zL1 vL1 okn l1 l6 f10 => ?_⟩
      have nL1 := f9.2.ne zL1
      have c10 := c9.fv f9.2 f10 nW nN
      refine ⟨_, rfl, _, rfl, _, rfl, _, rfl, N, _, 0, _, rfl, rfl, SqL.of c10.n, at0, _, rfl, 1, _, rfl, rfl, p1, _, _, _, rfl, rfl, c10.p, e2, ?_⟩
      refine ⟨a, L1, W, oc, ns, words, rfl, f10.2, vL1, nL1, c10.w, nW, l6, rfl, fun L2 xs es H11 zL2 vL2 hx ch f11 => ?_⟩
      have nL2 := f10.2.ne zL2
      have c11 := c10.fv f10.2 f11 nW nN
      have f911 := f10.trans f11
      have v1 := f911.1 D1 _ nD1 v1
      have v2 := f911.1 D2 _ nD2 v2
      have r1 := pd_mono (fun _ _ h => RowO.fv f9.2 f911 h) r1
      have r2 := pd_mono (fun _ _ h => RowO.fv f9.2 f911 h) r2
      have vL1 := f11.1 L1 _ nL1 vL1
      have f11' := f9.trans f911
      have kn : (Sum.inr c : Key) ∉ kv1.map Prod.fst := fun h => by
        rw [keys_of r1, k1] at h
        obtain ⟨z, hz, e⟩ := List.mem_map.mp h
        cases e
        exact e5 hz
      refine ⟨_, rfl, _, rfl, _, rfl, N, _, 0, _, rfl, rfl, SqL.of c11.n, at0, _, rfl, p1, _, _, _, rfl, rfl, c11.p, e1, D1, _, rfl, .inl ⟨kv1, .inr c, v1, rfl, ?_, rfl⟩, ?_⟩
      · have h := r1.length
        have h2 : to.length = (([("up" : Str), "down"]).take i).length := by rw [← k1, List.length_map]
        rw [List.length_take] at h2
        exact Nat.lt_of_le_of_lt (show kv1.length ≤ 2 by rw [h, h2]; exact Nat.min_le_right _ _) (by decide)
      rw [putK_new kn]
      have nD12 : D1 ≠ D2 := nDD
      have f12 : Fv a H (upd H11 D1 (.dK (kv1 ++ [(.inr c, .ref L2)]))) := fv_dK f11' nD1 zD1
      have c12 := c11.dK (u' := kv1 ++ [(.inr c, .ref L2)]) v1
      have x1 := pd_mono (fun _ _ h => RowO.dK (u' := kv1 ++ [(.inr c, .ref L2)]) v1 h) r1
      have x2 := pd_mono (fun _ _ h => RowO.dK (u' := kv1 ++ [(.inr c, .ref L2)]) v1 h) r2
      have kd := keepT_dK (K := K) (u' := kv1 ++ [(.inr c, .ref L2)]) v1
      have hx12 := hx.keep kd
      have y1 : (upd H11 D1 (.dK (kv1 ++ [(.inr c, .ref L2)]))) D1 = some (.dK (kv1 ++ [(.inr c, .ref L2)])) := upd_same
      have y2 : (upd H11 D1 (.dK (kv1 ++ [(.inr c, .ref L2)]))) D2 = some (.dK kv2) := by rw [upd_ne nDD.symm]; exact v2
      have yL1 : (upd H11 D1 (.dK (kv1 ++ [(.inr c, .ref L2)]))) L1 = some (.lst (ns.map V.int)) := by rw [upd_ne (ne_of vL1 v1 (fun z => nomatch z))]; exact vL1
      have yL2 : (upd H11 D1 (.dK (kv1 ++ [(.inr c, .ref L2)]))) L2 = some (.lst xs) := by rw [upd_ne (ne_of vL2 v1 (fun z => nomatch z))]; exact vL2
      generalize upd H11 D1 (.dK (kv1 ++ [(.inr c, .ref L2)])) = H12 at f12 c12 x1 x2 kd hx12 y1 y2 yL1 yL2 ⊢
      have z1 : Paired (RowO K (fun b => b ≠ a) H12) (kv1 ++ [(.inr c, .ref L2)]) (to ++ [(c, es)]) := Paired.snoc x1 ⟨rfl, L2, xs, rfl, nL2, yL2, hx12⟩
      have g1' : ∀ r ∈ to ++ [(c, es)], GoodO r := fun r hr0 => by
        rcases List.mem_append.mp hr0 with h | h
        · exact g1 r h
        · rw [List.mem_singleton.mp h]
          refine ⟨ns, okn, l1, l6, ?_⟩
          show Chs (Cf (otherO c)) ns (words.take ns.length) es
          rw [show otherO c = oc from e3.symm]
          exact ch
      have k1' : (to ++ [(c, es)]).map Prod.fst = [("up" : Str), "down"].take (i + 1) := by
        rw [List.map_append, k1, e4] <;> rfl
      refine ⟨by show 0 ≤ sizeLine; decide, fun R hR => ?_⟩
      have nR := f12.2.ne hR
      have zR := f12.free hR
      have sR := same_upd (o := .lst []) hR
      have f13 := f12.same sR
      have wk : ∀ b (xs : List V), b ≠ a → H12 b = some (.lst xs) → b ≠ a ∧ b ≠ R := fun b xs n e => ⟨n, ne_of_none e hR⟩
      have z13 := pd_mono (fun _ _ h => RowO.keep (fun b xs _ hb => sR _ _ hb) (KeepT.same sR) (RowO.mono wk h)) z1
      have x13 := pd_mono (fun _ _ h => RowO.keep (fun b xs _ hb => sR _ _ hb) (KeepT.same sR) (RowO.mono wk h)) x2
      have hx13 := hx12.keep (KeepT.same sR)
      have e1R := ne_of_none y1 hR
      have e2R := ne_of_none y2 hR
      have eWR := ne_of_none c12.w hR
      have eNR := ne_of_none c12.n hR
      have e3R := ne_of_none yL2 hR
      have c13 := c12.same sR
      have y1 := sR _ _ y1
      have y2 := sR _ _ y2
      have yL1 := sR _ _ yL1
      have yL2 := sR _ _ yL2
      have yR : (upd H12 R (.lst [])) R = some (.lst []) := upd_same
      generalize upd H12 R (.lst []) = H13 at f13 c13 z13 x13 hx13 y1 y2 yL1 yL2 yR ⊢
      refine ⟨_, rfl, _, rfl, a, L1, ns, rfl, f13.2, yL1, nL1, okn, l6, fun L3 ms H14 zL3 vL3 okm q1 q8 f14 => ⟨L3, _, rfl, .inl (SqL.of vL3), fun bt h1 h0 => ?_⟩⟩
      have nL3 := f13.2.ne zL3
      have eLR : L3 ≠ R := fun e => by
        rw [e, yR] at zL3
        cases zL3
      have nn : InN a R W N D1 D2 L2 L3 := ⟨⟨nW, eWR⟩, ⟨nN, eNR⟩, ⟨nD1, e1R⟩, ⟨nD2, e2R⟩, ⟨nL2, e3R⟩, ⟨nL3, eLR⟩⟩
      have k14 := f14.keepT (K := K) f13.2
      have in14 : Ins K a R W N p1 p2 po m1 m2 D1 D2 L2 L3 (kv1 ++ [(.inr c, .ref L2)]) kv2 (to ++ [(c, es)]) tn xs es ms H14 :=
        ⟨c13.fv f13.2 f14 nW nN, f14.1 _ _ nD1 y1, f14.1 _ _ nD2 y2, pd_mono (fun _ _ g => RowO.keep (fun b xs m e => f14.1 _ _ m.1 e) k14 g) z13, pd_mono (fun _ _ g => RowO.keep (fun b xs m e => f14.1 _ _ m.1 e) k14 g) x13, f14.1 _ _ nL2 yL2, hx13.keep k14, vL3⟩
      have yR := f14.1 R _ nR yR
      have f14' := f13.trans f14
      obtain ⟨tun, rfl⟩ := Int.eq_ofNat_of_zero_le t0
      clear x1 x2 kd hx12 r1 r2 hx z1 z13 x13 hx13 y1 y2 yL1 yL2 c13 c12 c11 c10 c9 f12 f11' f911 f11 f10 f9 vL1 vL2 v1 v2 vL3
      refine for_it (walk_enC (K := K) (a := L3) (xs := ms.map V.int) (c := 0) (b := bt)) (fun j σ H' => ∃ (y11 y12 y13 : Option V) (zs : List V) (fs : List En), σ = [some (.ref a), some (.ref W), some (.int (tun : Nat)), some (.ref D1), some (.ref D2), some (.ref N), some (.ref po), some (.int (0 + (i : Nat))), some (.ref L1), some (.ref L2), some (.ref R), y11, y12, y13, y14] ∧ Fv a H H' ∧ Ins K a R W N p1 p2 po m1 m2 D1 D2 L2 L3 (kv1 ++ [(.inr c, .ref L2)]) kv2 (to ++ [(c, es)]) tn xs es ms H' ∧ H' R = some (.lst zs) ∧ Tds K H' zs (fs.map En.pd) ∧ Chs (CtN mo) (ms.take j) (rot tun j) fs)
        ⟨_, _, _, [], [], rfl, f14', in14, yR, .nil, ⟨.refl _, .refl _, fun e h => nomatch h⟩⟩ (fun j σ H' _ h => ?_) ?_ ?_
      · obtain ⟨_, _, _, _, _, _, _, h, _⟩ := h
        cases bt with
        | true =>
          rcases h1 rfl with (g | ⟨o, g⟩) | g
          · rw [in14.l3] at g
            cases g
          · rw [in14.l3] at g
            cases g
          · exact .inr g
        | false => exact SqL.of h.l3
      · rintro j x σ H15 H16 hj ⟨y11, y12, y13, zs, fs, rfl, f15, in15, vR, hz, ok⟩ ⟨T1, x1, n1, rfl, hT, rfl, q2, q3⟩
        cases q2
        have q3 : (ms.map V.int)[j]? = some n1 := q3
        obtain ⟨n, rfl, hn⟩ : ∃ n, n1 = V.int n ∧ ms[j]? = some n := by
          rw [List.getElem?_map] at q3
          obtain ⟨n, hn, h⟩ := Option.map_eq_some_iff.mp q3
          exact ⟨n, h.symm, hn⟩
        have hj' : j < ms.length := (List.getElem?_eq_some_iff.mp hn).1
        have sT := same_upd (o := .tup [.int (0 + (j : Nat)), V.int n]) hT
        refine ⟨T1, _, rfl, SqT.of upd_same, rfl, _, _, rfl, _, _, rfl, rfl, ?_⟩
        have f16 := f15.same sT
        have in16 := in15.step nn (fun b u _ _ e => sT _ _ e) (KeepT.same sT)
        have vR6 := sT _ _ vR
        have hz6 := hz.keep (KeepT.same sT)
        generalize upd H15 T1 (.tup [.int (0 + (j : Nat)), V.int n]) = H16 at f16 in16 vR6 hz6 ⊢
        refine ⟨_, rfl, L2, rfl, ⟨_, SqL.of in16.l2⟩, fun C hC => ?_⟩
        have nRC : R ≠ C := ne_of_none vR6 hC
        refine lc_it (walk_list (K := K) (a := L2) (xs := xs)) (fun m H' => Same H16 H' ∧ ∃ acc, H' C = some (.lst acc) ∧ acc.length ≤ m ∧ ∀ v ∈ acc, ∃ o, Td K H' v (oSo o) ∧ Cf oc o) ⟨same_upd hC, [], upd_same, Nat.le_refl _, fun v h => nomatch h⟩ (fun _ _ _ h => SqL.of (h.1 _ _ in16.l2)) ?_ ?_
        · rintro m x H17 H18 hm' ⟨s17, acc, hC17, al, hin⟩ ⟨rfl, hv⟩
          obtain ⟨e, he, hte⟩ := en_at in16.hx hv
          obtain ⟨p, u, rr, rfl, hp, hup, _⟩ := en_row (hte.keep (KeepT.same s17))
          have hxl := in16.hx.len
          rw [List.length_map, ch.len] at hxl
          refine ⟨rfl, _, rfl, p, _, 0, _, rfl, rfl, hp, at0, _, rfl, rfl, _, rfl, ?_⟩
          by_cases hen : e.num = n
          · refine iteY (congrArg V.int hen) ⟨_, rfl, p, _, 2, _, rfl, rfl, hp, at2, acc, hC17, by rw [sizeLine_eq]; omega, ?_⟩
            have kl := keepT_lst (K := K) (ys := acc ++ [u]) hC17
            refine ⟨same_new s17 hC, _, upd_same, by rw [List.length_append]; show _ + 1 ≤ _; omega, fun v hv' => ?_⟩
            rcases List.mem_append.mp hv' with h | h
            · obtain ⟨o, h1', h2'⟩ := hin v h
              exact ⟨o, h1'.keep kl, h2'⟩
            · rw [List.mem_singleton.mp h]
              exact ⟨e.of, hup.keep kl, (ch.of e (List.mem_of_getElem? he)).2.1⟩
          · exact iteN (fun z => hen (by injection z)) ⟨s17, acc, hC17, by omega, hin⟩
        rintro H17 ⟨s17, acc, hC17, al, hin⟩
        have hxl := in16.hx.len
        rw [List.length_map, ch.len] at hxl
        refine ⟨by show 1 ≤ sizeLine; decide, fun pt hpt' => ⟨by show 1 ≤ sizeLine; decide, fun M2 hM2 => ?_⟩⟩
        have j1' := same_upd (o := .tup [V.str "truth"]) hpt'
        have j2' := same_upd (o := .lst [V.ref pt]) hM2
        have j12 := j1'.trans j2'
        refine ⟨C, M2, _, _, rfl, rfl, j12 _ _ hC17, upd_same, by show acc.length + 1 ≤ _; rw [sizeLine_eq]; omega, fun M3 hM3 => ?_⟩
        have j3' := same_upd (o := .lst (acc ++ [V.ref pt])) hM3
        have s18 := (s17.trans j12).trans j3'
        have k18 := KeepT.same (K := K) (j12.trans j3')
        have vM3 : (upd (upd (upd H17 pt (.tup [V.str "truth"])) M2 (.lst [V.ref pt])) M3 (.lst (acc ++ [V.ref pt]))) M3 = some (.lst (acc ++ [V.ref pt])) := upd_same
        have vpt : SqT K (upd (upd (upd H17 pt (.tup [V.str "truth"])) M2 (.lst [V.ref pt])) M3 (.lst (acc ++ [V.ref pt]))) pt [V.str "truth"] := SqT.of ((j2'.trans j3') _ _ upd_same)
        generalize upd (upd (upd H17 pt (.tup [V.str "truth"])) M2 (.lst [V.ref pt])) M3 (.lst (acc ++ [V.ref pt])) = H20 at s18 k18 vM3 vpt ⊢
        obtain ⟨v0, o0, hat, hv0, hc0⟩ : ∃ v0 o0, atI (acc ++ [V.ref pt]) 0 = some v0 ∧ Td K H20 v0 (oSo o0) ∧ Cf oc o0 := by
          cases acc with
          | nil => exact ⟨_, some .tru, rfl, .tup vpt (.cons (.str _) .nil), .tru⟩
          | cons v r =>
            obtain ⟨o, g1', g2'⟩ := hin v List.mem_cons_self
            exact ⟨v, o, (atI_nat (j := 0) rfl : atI (v :: r ++ [V.ref pt]) ((0 : Nat) : Int) = some v), g1'.keep k18, g2'⟩
        have f20 := f16.same s18
        have in20 := in16.step nn (fun b u _ _ e => s18 _ _ e) (KeepT.same s18)
        have vR20 := s18 _ _ vR6
        have hz20 := hz6.keep (KeepT.same s18)
        have zl := hz20.len
        rw [List.length_map, ok.len, List.length_take] at zl
        refine ⟨M3, _, 0, _, rfl, rfl, SqL.of vM3, hat, ?_⟩
        refine ⟨_, rfl, rfl, _, rfl, ?_⟩
        by_cases hn0 : n = 0
        · refine iteY (congrArg V.int hn0) ?_
          have f24 := (Fv.refl f20.2)
          have vR4 := f24.1 R _ nR vR20
          have in24 := in20.step nn (fun b u nb _ e => f24.1 b u nb e) (f24.keepT f20.2)
          refine ⟨_, rfl, .inl ⟨rfl, _, SqL.of vR4⟩, ?_⟩
          refine ⟨_, rfl, _, rfl, R, _, rfl, .inl (SqL.of vR4), _, 1, rfl, rfl, a, _, rfl, f24.2, by omega, small_abs2 (by omega) (by omega), fun r H25 r0 r1' f25 => ?_⟩
          have vR5 := f25.1 R _ nR vR4
          have in25 := in24.step nn (fun b u nb _ e => f25.1 b u nb e) (f25.keepT f24.2)
          refine ⟨_, rfl, _, rfl, _, rfl, _, rfl, _, _, rfl, rfl, _, 8, rfl, rfl, (by show (0 : Int) < 8; decide), W, _, _, _, rfl, rfl, SqL.of in25.c.w, word_at, _, rfl, by show 3 ≤ sizeLine; decide, fun t ht => ?_⟩
          have st := same_upd (o := .tup [V.int n, .str (words.getD ((j + tun) % 8) ""), V.non]) ht
          have vRt := st _ _ vR5
          refine ⟨R, zs, r, _, rfl, rfl, vRt, by rw [sizeLine_eq]; omega, r0, by omega, ?_⟩
          have kx : KeepT K H20 (upd H25 t (.tup [V.int n, .str (words.getD ((j + tun) % 8) ""), V.non])) := ((f24.trans f25).keepT f20.2).trans (KeepT.same st)
          have kl := keepT_lst (K := K) (ys := zs.take r.toNat ++ [V.ref t] ++ zs.drop r.toNat) vRt
          have hve : Td K (upd H25 t (.tup [V.int n, .str (words.getD ((j + tun) % 8) ""), V.non])) (.ref t) (En.pd ⟨n, words.getD ((j + tun) % 8) "", none, none⟩) := .tup (SqT.of upd_same) (.cons (.int _) (.cons (.str _) (.cons (((Td.non : Td K H20 .non (oSo none))).keep ((f25.keepT f24.2).trans (KeepT.same st))) .nil)))
          have ht1 : ms.take (j + 1) = ms.take j ++ [n] := by
            rw [List.take_add_one, hn]
            rfl
          refine ⟨_, _, _, _, fs.take r.toNat ++ [⟨n, words.getD ((j + tun) % 8) "", none, none⟩] ++ fs.drop r.toNat, rfl, fv_lst (((f20.trans f24).trans f25).same st) nR zR, in20.step nn (fun b u nb nr e => ?_) (kx.trans kl), upd_same, (tds_ins (hz20.keep kx) r.toNat hve).keep kl, ?_⟩
          · rw [upd_ne nr]
            exact st _ _ (f25.1 b u nb (f24.1 b u nb e))
          · rw [ht1, rot_succ]
            exact ok.ins r.toNat (e := ⟨n, words.getD ((j + tun) % 8) "", none, none⟩) rfl True.intro (fun _ => rfl)
        · refine iteN (ine hn0) ⟨_, rfl, _, rfl, _, rfl, _, rfl, 1, _, rfl, rfl, po, _, _, _, rfl, rfl, in20.c.o, i2, a, v0, o0, mo, oc, rfl, f20.2, hv0, hc0, fun u o' H24 hu' hc' f24' => ?_⟩
          have f24 := f24'
          have vR4 := f24.1 R _ nR vR20
          have in24 := in20.step nn (fun b u nb _ e => f24.1 b u nb e) (f24.keepT f20.2)
          refine ⟨_, rfl, .inl ⟨rfl, _, SqL.of vR4⟩, ?_⟩
          refine ⟨_, rfl, _, rfl, R, _, rfl, .inl (SqL.of vR4), _, 1, rfl, rfl, a, _, rfl, f24.2, by omega, small_abs2 (by omega) (by omega), fun r H25 r0 r1' f25 => ?_⟩
          have vR5 := f25.1 R _ nR vR4
          have in25 := in24.step nn (fun b u nb _ e => f25.1 b u nb e) (f25.keepT f24.2)
          refine ⟨_, rfl, _, rfl, _, rfl, _, rfl, _, _, rfl, rfl, _, 8, rfl, rfl, (by show (0 : Int) < 8; decide), W, _, _, _, rfl, rfl, SqL.of in25.c.w, word_at, _, rfl, by show 3 ≤ sizeLine; decide, fun t ht => ?_⟩
          have st := same_upd (o := .tup [V.int n, .str (words.getD ((j + tun) % 8) ""), u]) ht
          have vRt := st _ _ vR5
          refine ⟨R, zs, r, _, rfl, rfl, vRt, by rw [sizeLine_eq]; omega, r0, by omega, ?_⟩
          have kx : KeepT K H20 (upd H25 t (.tup [V.int n, .str (words.getD ((j + tun) % 8) ""), u])) := ((f24.trans f25).keepT f20.2).trans (KeepT.same st)
          have kl := keepT_lst (K := K) (ys := zs.take r.toNat ++ [V.ref t] ++ zs.drop r.toNat) vRt
          have hve : Td K (upd H25 t (.tup [V.int n, .str (words.getD ((j + tun) % 8) ""), u])) (.ref t) (En.pd ⟨n, words.getD ((j + tun) % 8) "", o', none⟩) := .tup (SqT.of upd_same) (.cons (.int _) (.cons (.str _) (.cons ((hu').keep ((f25.keepT f24.2).trans (KeepT.same st))) .nil)))
          have ht1 : ms.take (j + 1) = ms.take j ++ [n] := by
            rw [List.take_add_one, hn]
            rfl
          refine ⟨_, _, _, _, fs.take r.toNat ++ [⟨n, words.getD ((j + tun) % 8) "", o', none⟩] ++ fs.drop r.toNat, rfl, fv_lst (((f20.trans f24).trans f25).same st) nR zR, in20.step nn (fun b u nb nr e => ?_) (kx.trans kl), upd_same, (tds_ins (hz20.keep kx) r.toNat hve).keep kl, ?_⟩
          · rw [upd_ne nr]
            exact st _ _ (f25.1 b u nb (f24.1 b u nb e))
          · rw [ht1, rot_succ]
            exact ok.ins r.toNat (e := ⟨n, words.getD ((j + tun) % 8) "", o', none⟩) rfl hc' (fun e => absurd e hn0)
      · rintro σ H15 ⟨y11, y12, y13, zs, fs, rfl, f15, in15, vR, hz, ok⟩
        rw [List.length_map, List.take_length] at ok
        have kn2 : (Sum.inr mc : Key) ∉ kv2.map Prod.fst := fun h => by
          rw [keys_of in15.r2, k2] at h
          obtain ⟨z, hz, e⟩ := List.mem_map.mp h
          cases e
          exact i5 hz
        have hkl : kv2.length < sizeLine := by
          have h := in15.r2.length
          have h2 : tn.length = ([m1, m2].take i).length := by rw [← k2, List.length_map]
          rw [List.length_take] at h2
          exact Nat.lt_of_le_of_lt (show kv2.length ≤ 2 by rw [h, h2]; exact Nat.min_le_right _ _) (by decide)
        refine ⟨_, rfl, _, rfl, _, rfl, _, rfl, po, _, _, _, rfl, rfl, in15.c.o, i1, D2, _, rfl, .inl ⟨kv2, .inr mc, in15.d2, rfl, hkl, rfl⟩, ?_⟩
        rw [putK_new kn2]
        have kd := keepT_dK (K := K) (u' := kv2 ++ [(.inr mc, .ref R)]) in15.d2
        have wk2 : ∀ b (xs : List V), (b ≠ a ∧ b ≠ R) → H15 b = some (.lst xs) → b ≠ a := fun b xs n _ => n.1
        have yR2 : (upd H15 D2 (.dK (kv2 ++ [(.inr mc, .ref R)]))) R = some (.lst zs) := by rw [upd_ne nn.d2.2.symm]; exact vR
        refine ⟨_, _, _, _, _, _, _, _, _, kv2 ++ [(.inr mc, .ref R)], to ++ [(c, es)], tn ++ [(mc, fs)], rfl, fv_dK f15 nD2 zD2, in15.c.dK in15.d2, ?_, upd_same, pd_mono (fun _ _ g => RowO.dK in15.d2 (RowO.mono wk2 g)) in15.r1, Paired.snoc (pd_mono (fun _ _ g => RowO.dK in15.d2 (RowO.mono wk2 g)) in15.r2) ⟨rfl, R, zs, rfl, nR, yR2, hz.keep kd⟩, k1', ?_, g1', fun r hr0 => ?_⟩
        · rw [upd_ne nDD]
          exact in15.d1
        · rw [List.map_append, k2, i4] <;> rfl
        · rcases List.mem_append.mp hr0 with h | h
          · exact g2 r h
          · rw [List.mem_singleton.mp h]
            refine ⟨ms, tun, okm, q1, q8, by omega, ?_⟩
            show Chs (CtN (if mc = m1 then m2 else m1)) ms (rot tun ms.length) fs
            rw [← i3]
            exact ok
    · rintro σ H9 ⟨y7, y8, y9, y10, y11, y12, y13, y14, kv1, kv2, to, tn, rfl, f9, c9, v1, v2, r1, r2, k1, k2, g1, g2⟩
      refine ⟨_, rfl, _, rfl, _, rfl, by show 3 ≤ sizeLine; decide, fun t ht => ?_⟩
      have st := same_upd (o := .tup [V.ref D1, .ref D2, .ref po]) ht
      exact q t D1 D2 _ _ _ to tn m1 m2 _ (SqT.of upd_same) (st _ _ v1) (st _ _ v2) zD1 zD2 nDD (.tup ((c9.same st).o) (.cons (.str _) (.cons (.str _) .nil))) hm (pd_mono (fun _ _ h => RowO.keep (fun b xs _ hb => st _ _ hb) (KeepT.same st) h) r1) (pd_mono (fun _ _ h => RowO.keep (fun b xs _ hb => st _ _ hb) (KeepT.same st) h) r2) k1 k2 g1 g2 (f9.same st)
end
end K22
set_option maxHeartbeats 1000000
namespace K22
open PySem PySem.Spec PyProof.Rows L2 Tw Sb LamX
theorem valO {K : PySem.W.Frag} {N : Addr → Prop} {H : Hp} {r : TRow} : ∀ {kvs : List (Key × V)} {tb : List TRow}, Paired (RowO K N H) kvs tb → (tb.map Prod.fst).Nodup → r ∈ tb → ∃ b xs, valV kvs (.inr r.1) = some (.ref b) ∧ N b ∧ H b = some (.lst xs) ∧ Tds K H xs (r.2.map En.pd)
  | [], [], .nil, _, hm => nomatch hm
  | (k, v) :: kvs, r0 :: tb, .cons h hr, nd, hm => by
    have nd := List.nodup_cons.mp nd
    obtain ⟨hk, b, xs, e, n, h1, h2⟩ := h
    have hk : k = .inr r0.1 := hk
    have e : v = .ref b := e
    subst hk e
    rcases List.mem_cons.mp hm with rfl | hm
    · exact ⟨b, xs, by simp [valV], n, h1, h2⟩
    · obtain ⟨b', xs', g1, g2⟩ := valO hr nd.2 hm
      have ne : (Sum.inr r0.1 : Key) ≠ .inr r.1 := fun z => nd.1 (List.mem_map.mpr ⟨r, hm, (Sum.inr.inj z).symm⟩)
      refine ⟨b', xs', ?_, g2⟩
      unfold valV at g1 ⊢
      rw [List.find?_cons, decide_eq_false ne]
      exact g1
theorem words_nd : words.Nodup := by decide +kernel
theorem words_nm : ∀ w ∈ words, isNm w = true := fun w hw => by
  rcases List.mem_cons.mp hw with rfl | hw
  · decide +kernel
  rcases List.mem_cons.mp hw with rfl | hw
  · decide +kernel
  rcases List.mem_cons.mp hw with rfl | hw
  · decide +kernel
  rcases List.mem_cons.mp hw with rfl | hw
  · decide +kernel
  rcases List.mem_cons.mp hw with rfl | hw
  · decide +kernel
  rcases List.mem_cons.mp hw with rfl | hw
  · decide +kernel
  rcases List.mem_cons.mp hw with rfl | hw
  · decide +kernel
  rw [List.mem_singleton.mp hw]
  decide +kernel
theorem rot_nd (t n : Nat) (ht : t < 8) (hn : n ≤ 8) : (rot t n).Nodup := by
  have key : ∀ t, t < 8 → ((List.range 8).map fun i => words.getD ((i + t) % 8) "").Nodup := by
    intro t ht
    obtain rfl | rfl | rfl | rfl | rfl | rfl | rfl | rfl : t = 0 ∨ t = 1 ∨ t = 2 ∨ t = 3 ∨ t = 4 ∨ t = 5 ∨ t = 6 ∨ t = 7 := by omega
    all_goals decide +kernel
  refine (key t ht).sublist ?_
  unfold rot
  refine List.Sublist.map _ ?_
  rw [show List.range 8 = List.range n ++ (List.range (8 - n)).map (n + ·) by rw [← List.range_add, show n + (8 - n) = 8 by omega]]
  exact List.sublist_append_left _ _
theorem rot_nm (t n : Nat) : ∀ w ∈ rot t n, isNm w = true := fun w hw => by
  unfold rot at hw
  obtain ⟨i, _, rfl⟩ := List.mem_map.mp hw
  have hl : (i + t) % 8 < words.length := Nat.mod_lt _ (by decide)
  rw [List.getD_eq_getElem?_getD, List.getElem?_eq_getElem hl]
  exact words_nm _ (List.getElem_mem hl)
theorem pos_of {α : Type} {l : List α} {i j : Nat} {x y : α} (n : l.Nodup) (hi : l[i]? = some x) (hj : l[j]? = some y) (e : x = y) : i = j := by
  subst e
  exact (List.getElem?_inj (List.getElem?_eq_some_iff.mp hi).1 n).mp (hi.trans hj.symm)
/-- a row whose numbers and names are told apart may stand -/
theorem Chs.rowOk {P : Option So → Prop} {ns : List Int} {ws cs : List Str} {es : List En} (h : Chs P ns ws es) (ok : NsOk ns) (nd : ws.Nodup) (nm : ∀ w ∈ ws, isNm w = true) (hp : ∀ s, P (some s) → s.ok [] cs false) : RowOk false [] cs es := by
  have n1 : (es.map En.num).Nodup := h.num.nodup_iff.mpr ok.nd
  have n2 : (es.map En.name).Nodup := h.name.nodup_iff.mpr nd
  intro i e hi
  have he := List.mem_of_getElem? hi
  obtain ⟨g1, g2, g3⟩ := h.of e he
  have gb := ok.b e.num (h.num.mem_iff.mp (List.mem_map.mpr ⟨e, he, rfl⟩))
  refine ⟨nm _ (h.name.mem_iff.mp (List.mem_map.mpr ⟨e, he, rfl⟩)), fun hm => ?_, gb.1, by omega, fun hm => ?_, fun _ => ⟨rfl, g1⟩, fun s hs => ⟨fun z => ?_, hp s (by rw [← hs]; exact g2), fun d hd => ?_⟩⟩
  · obtain ⟨x, hx, ex⟩ := List.mem_map.mp hm
    obtain ⟨j, hj⟩ := List.getElem?_of_mem hx
    have hlt : j < i := by
      have := (List.getElem?_eq_some_iff.mp hj).1
      rw [List.length_take] at this
      omega
    rw [List.getElem?_take_of_lt hlt] at hj
    have := pos_of n2 (i := j) (j := i) (by rw [List.getElem?_map, hj] <;> rfl) (by rw [List.getElem?_map, hi] <;> rfl) ex
    omega
  · obtain ⟨x, hx, ex⟩ := List.mem_map.mp hm
    obtain ⟨j, hj⟩ := List.getElem?_of_mem hx
    have hlt : j < i := by
      have := (List.getElem?_eq_some_iff.mp hj).1
      rw [List.length_take] at this
      omega
    rw [List.getElem?_take_of_lt hlt] at hj
    have := pos_of n1 (i := j) (j := i) (by rw [List.getElem?_map, hj] <;> rfl) (by rw [List.getElem?_map, hi] <;> rfl) ex
    omega
  · rw [g3 z] at hs
    cases hs
  · rw [g1] at hd
    cases hd
theorem otherO_in (c : Str) : otherO c ∈ [("up" : Str), "down"] := by
  unfold otherO
  split
  · exact .tail _ (.head _)
  · exact .head _
theorem nm_ud : ∀ c ∈ [("up" : Str), "down"], isNm c = true := fun c hc => by
  rcases List.mem_cons.mp hc with rfl | hc
  · decide +kernel
  · rw [List.mem_singleton.mp hc]
    decide +kernel
theorem GoodO.rowOk {r : TRow} (h : GoodO r) : RowOk false [] [("up" : Str), "down"] r.2 := by
  obtain ⟨ns, ok, _, _, ch⟩ := h
  exact ch.rowOk ok (words_nd.sublist (List.take_sublist _ _)) (fun w hw => words_nm w (List.mem_of_mem_take hw)) fun s hs => (cf_n hs).1 _ (otherO_in _) (nm_ud _ (otherO_in _))
def OkO (to : List TRow) : Prop := to.map Prod.fst = [("up" : Str), "down"] ∧ ∀ r ∈ to, GoodO r
theorem OkO.ch {to : List TRow} (h : OkO to) : ChOk to := by
  refine ⟨fun r hr => ?_, by rw [h.1]; decide +kernel⟩
  obtain ⟨ns, ok, l1, l6, ch⟩ := h.2 r hr
  refine ⟨nm_ud _ (by rw [← h.1]; exact List.mem_map.mpr ⟨r, hr, rfl⟩), by rw [h.1]; exact (h.2 r hr).rowOk, by rw [ch.len]; omega, fun _ e => ?_⟩
  have := ch.len
  rw [e] at this
  change 0 = ns.length at this
  omega
theorem Two.nm {m1 m2 : Str} (h : Two m1 m2) : ∀ c ∈ [m1, m2], isNm c = true := by
  intro c hc
  have hc : c = m1 ∨ c = m2 := by
    rcases List.mem_cons.mp hc with h | h
    · exact .inl h
    · exact .inr (List.mem_singleton.mp h)
  rcases h with ⟨rfl, rfl⟩ | ⟨rfl, rfl⟩ | ⟨rfl, rfl⟩ <;> rcases hc with rfl | rfl <;> decide +kernel
def OkN (m1 m2 : Str) (tn : List TRow) : Prop := Two m1 m2 ∧ tn.map Prod.fst = [m1, m2] ∧ ∀ r ∈ tn, GoodN m1 m2 r
theorem OkN.ch {m1 m2 : Str} {tn : List TRow} (h : OkN m1 m2 tn) : ChOk tn := by
  obtain ⟨h0, h1, h2⟩ := h
  refine ⟨fun r hr => ?_, by rw [h1]; exact List.nodup_cons.mpr ⟨fun z => h0.ne (List.mem_singleton.mp z), List.nodup_cons.mpr ⟨(fun z => nomatch z), List.nodup_nil⟩⟩⟩
  obtain ⟨ns, t, ok, l1, l8, ht, ch⟩ := h2 r hr
  have hm : (if r.1 = m1 then m2 else m1) ∈ [m1, m2] := by
    split
    · exact .tail _ (.head _)
    · exact .head _
  refine ⟨h0.nm _ (by rw [← h1]; exact List.mem_map.mpr ⟨r, hr, rfl⟩), by rw [h1]; exact ch.rowOk ok (rot_nd t _ ht l8) (rot_nm t _) fun s hs => hs.1 _ hm (h0.nm _ hm), by rw [ch.len]; omega, fun _ e => ?_⟩
  have := ch.len
  rw [e] at this
  change 0 = ns.length at this
  omega
theorem en_name {k : Bool} {ks cs : List Str} {es : List En} (h : RowOk k ks cs es) {e : En} (he : e ∈ es) : enName es e.name = some e := find_one he (decide_eq_true rfl) fun y hy hp => h.eq he hy (.inl (of_decide_eq_true hp).symm)
end K22
namespace K22
open PySem PySem.Spec PyProof.Rows L2 Tw Sb LamX
/-- B.m of the module's class B: its own def -/
structure BCal (P : Program) (w : World) (K : PySem.W.Frag) (mg : Str → Option Value) (base : Heap) (B : Addr) (x : Str) (k : Nat) (m : Str) (ps : List Str) (sp : Sp) : Prop where
  ex : ∃ (f : Addr) (fd : FuncData) (mc : Value), ClX.CRead K B mc ∧ ClX.CVal K B mc m (.ref f) (.ref f) ∧ PySem.W.keepIn K (.ref f) = true ∧ FnOk P w K mg base CX0 k f fd ps sp ∧ Binds K fd ps []
  g : mg x = some (.ref B)
theorem BCal.cls {P : Program} {w : World} {K : PySem.W.Frag} {mg : Str → Option Value} {base : Heap} {B : Addr} {x : Str} {k : Nat} {m : Str} {ps : List Str} {sp : Sp} (b : BCal P w K mg base B x k m ps sp) : ∃ u, mg x = some u ∧ RelV (.ref B) u := ⟨_, b.g, rfl⟩
theorem pe_bcal {X : Cx} {j k : Nat} {B : Addr} {x m : Str} {ps : List Str} {sp : Sp} {o e : Expr} {es : List Expr} {to : TE} {t : TA} {pos apos : Pos} {pl : Sem Bool} (M : BCal X.prog X.w X.K X.mg X.base B x k m ps sp) (hr : Room j X.A) (hk : k ≤ j) (ho : PE X o to) (ha : PA X (e :: es) t)
    (hst : starEach (e :: es) X.env = (false, eval e X.env) :: starEach es X.env := by rfl) (hpl : (backTo pos (starEach es X.env)).any (·.1) = false := by rfl)
    (ht : eval (.Call (.Attribute o m apos) (e :: es) [] pos) X.env = (do
      let ov ← eval o X.env
      standAt apos.atName
      let (f, first) ← holding [ov] (getMethod ov m pl)
      callWith pos f first (backTo pos (starEach (e :: es) X.env)) (backToKw pos (keywordEach [] X.env))) := by rfl) : PE X (.Call (.Attribute o m apos) (e :: es) [] pos) (tBase B (fun vs H Q E => sp (vs ++ []) H Q E) E0 to t) := by
  obtain ⟨f, fd, mc, r, c, kp, F, b⟩ := M.ex
  exact pe_base ho r c kp (F.raw b .nil) (hr.mono hk) pass0 ha hst hpl ht
def uF (J M D : Addr) (o n : V) : List (Str × V) := [("jobs", .ref J), ("made", .ref M), ("old", o), ("new", n), ("nodes", .ref D)]
theorem uF_J (J M D : Addr) (o n : V) : (uF J M D o n).lookup (("jobs" : Str)) = some (.ref J) := by
  unfold uF
  rw [List.lookup_cons, show ((("jobs" : Str)) == ("jobs" : Str)) = true by decide +kernel]
theorem uF_M (J M D : Addr) (o n : V) : (uF J M D o n).lookup (("made" : Str)) = some (.ref M) := by
  unfold uF
  rw [List.lookup_cons, show ((("made" : Str)) == ("jobs" : Str)) = false by decide +kernel]
  dsimp only
  rw [List.lookup_cons, show ((("made" : Str)) == ("made" : Str)) = true by decide +kernel]
def spTInit (C : Addr) : Sp := fun vs H Q _ => ∃ (p dx : Addr) (o n : V), vs = [.ref p, o, n] ∧ H p = some (.ins C dx []) ∧ ∀ (H' : Hp) (J M D : Addr), (∀ b u, b ≠ p → H b = some u → H' b = some u) → H J = none → H M = none → J ≠ M → H' J = some (.lst []) → H' M = some (.lst []) → H' p = some (.ins C dx (uF J M D o n)) → Q .non H'
/-- a schema's choices -/
def ChAt (K : PySem.W.Frag) (CS : Addr) (H : Hp) (a : Addr) (tb : List TRow) : Prop := ∃ (dx k2 : Addr) (u1 rv : V) (kv2 : List (Key × V)), H a = some (.ins CS dx [("kinds", u1), ("choices", .ref k2), ("root", rv)]) ∧ H k2 = some (.dK kv2) ∧ Paired (RowT K H) kv2 (sortT tb)
theorem ChAt.keep {K : PySem.W.Frag} {CS : Addr} {H H' : Hp} {a : Addr} {tb : List TRow} (h : ChAt K CS H a tb) (k : ∀ b o, H b = some o → (∀ C dx fs, o = .ins C dx fs → H' b = some o) ∧ (∀ kv, o = .dK kv → H' b = some o)) (kt : KeepT K H H') : ChAt K CS H' a tb := by
  obtain ⟨dx, k2, u1, rv, kv2, h1, h2, h3⟩ := h
  exact ⟨dx, k2, u1, rv, kv2, (k _ _ h1).1 _ _ _ rfl, (k _ _ h2).2 _ rfl, pd_mono (fun _ _ h => RowT.keep kt h) h3⟩
theorem ChAt.same {K : PySem.W.Frag} {CS : Addr} {H H' : Hp} {a : Addr} {tb : List TRow} (h : ChAt K CS H a tb) (s : Same H H') : ChAt K CS H' a tb := h.keep (fun b o e => ⟨fun _ _ _ _ => s _ _ e, fun _ _ => s _ _ e⟩) (KeepT.same s)
/-- the turner under way -/
structure MAt (K : PySem.W.Frag) (CC CS C : Addr) (H : Hp) (p J M a b : Addr) (to tn : List TRow) (js : List Jc) (ms : List PyData) : Prop where
  ins : ∃ dx D, H p = some (.ins C dx (uF J M D (.ref a) (.ref b)))
  so : ChAt K CS H a to
  sn : ChAt K CS H b tn
  j : ∃ xs, H J = some (.lst xs) ∧ Tcs K CC H xs ((js.map Jc.pd).reverse)
  m : ∃ ys, H M = some (.lst ys) ∧ Tcs K CC H ys ms
  ne : J ≠ M
def Fr2 (J M : Addr) (H H' : Hp) : Prop := ∀ b o, b ≠ J → b ≠ M → H b = some o → H' b = some o
theorem Fr2.same {J M : Addr} {H H' : Hp} (s : Same H H') : Fr2 J M H H' := fun b o _ _ e => s b o e
theorem Fr2.trans {J M : Addr} {H H1 H2 : Hp} (a : Fr2 J M H H1) (b : Fr2 J M H1 H2) : Fr2 J M H H2 := fun c o h1 h2 e => b c o h1 h2 (a c o h1 h2 e)
theorem Fr2.nlst {J M : Addr} {H H' : Hp} {xs ys : List V} (a : Fr2 J M H H') (h1 : H J = some (.lst xs)) (h2 : H M = some (.lst ys)) {b : Addr} {o : HO} (e : H b = some o) (n : ∀ zs, o ≠ .lst zs) : H' b = some o :=
  a b o (fun z => by rw [z, h1] at e; cases e; exact n _ rfl) (fun z => by rw [z, h2] at e; cases e; exact n _ rfl) e
theorem Fr2.keep {K : PySem.W.Frag} {CC J M : Addr} {H H' : Hp} {xs ys : List V} (a : Fr2 J M H H') (h1 : H J = some (.lst xs)) (h2 : H M = some (.lst ys)) : KeepC K CC H H' :=
  ⟨KeepT.but fun b o e => ⟨fun zs w => a.nlst h1 h2 e (by rw [w]; exact fun _ z => nomatch z), fun q zs w => a.nlst h1 h2 e (by rw [w]; exact fun _ z => nomatch z)⟩, fun b dx fs e => a.nlst h1 h2 e (fun _ z => nomatch z)⟩
theorem ChAt.fr {K : PySem.W.Frag} {CS J M : Addr} {H H' : Hp} {xs ys : List V} {a : Addr} {tb : List TRow} (h : ChAt K CS H a tb) (f : Fr2 J M H H') (h1 : H J = some (.lst xs)) (h2 : H M = some (.lst ys)) : ChAt K CS H' a tb :=
  h.keep (fun b o e => ⟨fun _ _ _ w => f.nlst h1 h2 e (by rw [w]; exact fun _ z => nomatch z), fun _ w => f.nlst h1 h2 e (by rw [w]; exact fun _ z => nomatch z)⟩) (f.keep (CC := 0) h1 h2).t
theorem MAt.same {K : PySem.W.Frag} {CC CS C : Addr} {H H' : Hp} {p J M a b : Addr} {to tn : List TRow} {js : List Jc} {ms : List PyData} (h : MAt K CC CS C H p J M a b to tn js ms) (s : Same H H') : MAt K CC CS C H' p J M a b to tn js ms := by
  obtain ⟨⟨dx, D, h1⟩, hs, hn, ⟨xs, h2, h3⟩, ⟨ys, h4, h5⟩, ne⟩ := h
  exact ⟨⟨dx, D, s _ _ h1⟩, hs.same s, hn.same s, ⟨xs, s _ _ h2, h3.keep (KeepC.same s)⟩, ⟨ys, s _ _ h4, h5.keep (KeepC.same s)⟩, ne⟩
section
variable {P : Program} {w : World} {K : PySem.W.Frag} {mg : Str → Option Value} {base : Heap}
theorem ok_tinit {C B f : Addr} {fd : FuncData} (F : Fun K "__init__" "Turner.__init__" s_Turner___init__ f fd) (cl : ClU K C) (b_init : BCal P w K mg base B "Builder" 1 "__init__" ["self"] (spBInit C)) : FnOk P w K mg base CX0 2 f fd ["self", "old", "new"] (spTInit C) := by
  refine F.ok sc_Turner___init__ (fun vs H Q E h => ?_) (fun cdv A outer s H vs Q E hr h => ?_)
  · obtain ⟨p, dx, o, n, rfl, _⟩ := h
    rfl
  · obtain ⟨p, dx, o, n, rfl, hp, q⟩ := h
    refine ⟨_, (pss_cons (ps_expr (pe_bcal b_init hr (by decide) (C8.pe_gc rfl b_init.cls) (pa_cons (pv 0) pa_nil)))
      (pss_cons (ps_fld (pv 0) (pv 1) rfl)
      (pss_cons (ps_fld (pv 0) (pv 2) rfl)
      (pss_one (ps_fld (pv 0) pe_dnewK rfl))))), ?_⟩
    refine ⟨rfl, _, rfl, p, dx, rfl, hp, fun H1 J M k1 nJ nM nJM hJ1 hM1 hp1 => ?_⟩
    have nJp : J ≠ p := ne_of hJ1 hp1 (by intro z; cases z)
    have nMp : M ≠ p := ne_of hM1 hp1 (by intro z; cases z)
    refine ⟨_, rfl, _, rfl, p, C, dx, _, rfl, hp1, cl.cl, cl.nO, by show 2 < 1000; decide, ?_⟩
    refine ⟨_, rfl, _, rfl, p, C, dx, _, rfl, upd_same, cl.cl, cl.nN, by show 3 < 1000; decide, fun D hD => ?_⟩
    have hp3 : (upd (upd H1 p (.ins C dx (putF "old" o [("jobs", .ref J), ("made", .ref M)]))) p (.ins C dx (putF "new" n (putF "old" o [("jobs", .ref J), ("made", .ref M)])))) p = some (.ins C dx (putF "new" n (putF "old" o [("jobs", .ref J), ("made", .ref M)]))) := upd_same
    have npD := ne_of_none hp3 hD
    refine ⟨_, rfl, p, C, dx, _, rfl, by rw [upd_ne npD]; exact hp3, cl.cl, cl.nD, by show 4 < 1000; decide, ?_⟩
    refine q _ J M D (fun b u nb e => ?_) nJ nM nJM ?_ ?_ ?_
    · have e1 := k1 b u nb e
      have e2 : (upd (upd H1 p (.ins C dx (putF "old" o [("jobs", .ref J), ("made", .ref M)]))) p (.ins C dx (putF "new" n (putF "old" o [("jobs", .ref J), ("made", .ref M)])))) b = some u := by rw [upd_ne nb, upd_ne nb]; exact e1
      rw [upd_ne nb, upd_ne (ne_of_none e2 hD)]
      exact e2
    · have e2 : (upd (upd H1 p (.ins C dx (putF "old" o [("jobs", .ref J), ("made", .ref M)]))) p (.ins C dx (putF "new" n (putF "old" o [("jobs", .ref J), ("made", .ref M)])))) J = some (.lst []) := by rw [upd_ne nJp, upd_ne nJp]; exact hJ1
      rw [upd_ne nJp, upd_ne (ne_of_none e2 hD)]
      exact e2
    · have e2 : (upd (upd H1 p (.ins C dx (putF "old" o [("jobs", .ref J), ("made", .ref M)]))) p (.ins C dx (putF "new" n (putF "old" o [("jobs", .ref J), ("made", .ref M)])))) M = some (.lst []) := by rw [upd_ne nMp, upd_ne nMp]; exact hM1
      rw [upd_ne nMp, upd_ne (ne_of_none e2 hD)]
      exact e2
    · rw [upd_same]
      rfl
end
end K22
namespace K22
open PySem PySem.Spec PyProof.Rows L2 Tw Sb LamX
def spCInit (C : Addr) : Sp := fun vs H Q _ => ∃ (p dx : Addr) (w : Str) (c : V), vs = [.ref p, .str w, c] ∧ H p = some (.ins C dx []) ∧ ∀ (H' : Hp), (∀ b o, b ≠ p → H b = some o → H' b = some o) → H' p = some (.ins C dx (caF w c)) → Q .non H'
/-- x(..) with what is left out told -/
structure MkPD (P : Program) (w : World) (K : PySem.W.Frag) (mg : Str → Option Value) (base : Heap) (C : Addr) (k : Nat) (x : Str) (ps : List Str) (dvs : List V) (sp : Sp) : Prop where
  ex : ∃ (f : Addr) (fd : FuncData) (us : List Value), Mk K C f ∧ FnOk P w K mg base CX0 k f fd ps sp ∧ Binds K fd ps us ∧ Vals dvs us
  gC : mg x = some (.ref C)
theorem pe_mkPD {X : Cx} {C : Addr} {k j : Nat} {x : Str} {ps : List Str} {dvs : List V} {sp : Sp} {e : Expr} {es : List Expr} {t : TA} {p pos : Pos} (M : MkPD X.prog X.w X.K X.mg X.base C k x ps dvs sp) (hr : Room j X.A) (hk : k + 1 ≤ j) (hg : Gl X x) (ha : PA X (e :: es) t)
    (hdb : (x == ("__debug__" : Str)) = false := by decide) (hs : starEach (e :: es) X.env = (false, eval e X.env) :: starEach es X.env := by rfl) (hp : (backTo pos (starEach es X.env)).any (·.1) = false := by rfl) :
    PE X (.Call (.Name x p) (e :: es) [] pos) (tMake C sp dvs E0 t) := by
  obtain ⟨f, fd, us, m, F, b, d⟩ := M.ex
  exact pe_make m F (hr.mono hk) hg M.gC b d pass0 ha hdb hs hp
structure CaC (K : PySem.W.Frag) (C : Addr) : Prop where
  cl : Cls K C
  nW : NoAttr K C "word"
  nC : NoAttr K C "content"
theorem caF_w {w : Str} {v : V} : (caF w v).lookup (("word" : Str)) = some (.str w) := by
  unfold caF
  rw [List.lookup_cons, show ((("word" : Str)) == ("word" : Str)) = true by decide +kernel]
theorem caF_c {w : Str} {v : V} : (caF w v).lookup (("content" : Str)) = some v := by
  unfold caF
  rw [List.lookup_cons, show ((("content" : Str)) == ("word" : Str)) = false by decide +kernel]
  dsimp only
  rw [List.lookup_cons, show ((("content" : Str)) == ("content" : Str)) = true by decide +kernel]
section
variable {P : Program} {w : World} {K : PySem.W.Frag} {mg : Str → Option Value} {base : Heap}
theorem ok_cinit {C : Addr} {dvs : List V} {f : Addr} {fd : FuncData} (F : FunD K "__init__" "Case.__init__" (defArgs s_Case___init__) (defBody s_Case___init__) (defScope s_Case___init__) dvs [] f fd) (c : CaC K C) : FnOk P w K mg base CX0 1 f fd ["self", "word", "content"] (spCInit C) := by
  refine FunD.ok (CX := CX0) F sc_Case___init__ (fun vs H Q E h => ?_) (fun cdv A outer s H vs Q E hr h => ?_)
  · obtain ⟨p, dx, x, c, rfl, _⟩ := h
    rfl
  · obtain ⟨p, dx, x, u, rfl, hp, q⟩ := h
    refine ⟨_, PSs.nox ((pss_cons (ps_fld (pv 0) (pv 1) rfl)
      (pss_one (ps_fld (pv 0) (pv 2) rfl)))), ?_⟩
    refine ⟨_, rfl, _, rfl, p, C, dx, [], rfl, hp, c.cl, c.nW, (by show 0 < 1000; decide), _, rfl, _, rfl, p, C, dx, _, rfl, upd_same, c.cl, c.nC, (by show 1 < 1000; decide), ?_⟩
    refine q _ (fun b o nb e => ?_) ?_
    · rw [upd_ne nb, upd_ne nb]
      exact e
    · rw [upd_same]
      rfl
/-- what a new case does -/
theorem ca_new {C : Addr} {H : Hp} {x dx : Addr} {z : Str} {u : V} {Q : V → Hp → Prop} {E : XK} (hx : H x = none) (hdx : H dx = none) (nd : dx ≠ x) (q : ∀ H', Same H H' → H' x = some (.ins C dx (caF z u)) → Q .non H') : spCInit C [.ref x, .str z, u] (upd (upd H dx (.own x)) x (.ins C dx [])) Q E := by
  refine ⟨x, dx, z, u, rfl, upd_same, fun H' k h => q H' (fun b o e => k b o (ne_of_none e hx) ?_) h⟩
  rw [upd_ne (ne_of_none e hx), upd_ne (ne_of_none e hdx)]
  exact e
end
end K22
set_option maxHeartbeats 4000000
/-! TwMul: a tuple taken no times or once. -/
namespace Tw
open PySem PySem.Spec PyProof.Rows L2
/-- taken once: the tuple itself -/
theorem mul_once (l : Addr) (items : Array Value) (n : Nat) (dd : Option Addr) (sl : Array (Option Value)) (u : Tok) :
    Meets (Builtin.«tuple.__mul__» ⟨[.ref l, .int 1 u], []⟩) (fun _ R s => s.heap.get? l = some { cls := .type "tuple", dict := dd, data := .seq items n, slots := sl } ∧ R (.ok (.ret (Value.ref l))) s) :=
  .of_wp fun prog w A R s h => by
    obtain ⟨hp, g, d, tk, os⟩ := s
    obtain ⟨hl, h⟩ := h
    have f1 := AutoSeq1.idx_int
    wp_walk using wpAny_loadPart' hl
    exact ⟨_, rfl, h⟩
/-- taken no times: a new empty one -/
theorem mul_none (l : Addr) (items : Array Value) (n : Nat) (dd : Option Addr) (sl : Array (Option Value)) (u : Tok) (c1 : (items.isEmpty || (0 : Int) == 1) = false) :
    Meets (Builtin.«tuple.__mul__» ⟨[.ref l, .int 0 u], []⟩) (fun _ R s => s.heap.get? l = some { cls := .type "tuple", dict := dd, data := .seq items n, slots := sl } ∧
      R (.ok (.ret (Value.ref s.heap.objs.size))) { s with heap := s.heap.push { cls := Value.type "tuple", data := Data.seq #[] }, toks := s.toks }) :=
  .of_wp fun prog w A R s h => by
    obtain ⟨hp, g, d, tk, os⟩ := s
    obtain ⟨hl, h⟩ := h
    have f1 := AutoSeq1.idx_int
    wp_walk using wpAny_loadPart' hl
    repeat (first
      | (refine wpAny_ite_false (decide_eq_false (by rw [c1]; exact Bool.false_ne_true)) ?_; wp_walk using wpAny_loadPart' hl))
    exact ⟨_, rfl, h⟩
/-- (x, ..) * 0 and * 1 -/
def rRepB (K : PySem.W.Frag) : R2 := fun x y H Q => ∃ (l : Addr) (b : Bool) (xs : List V), x = .ref l ∧ y = .int (if b then 1 else 0) ∧ SqT K H l xs ∧ xs ≠ [] ∧ (b = true → Q (.ref l) H) ∧ (b = false → ∀ p, H p = none → Q (.ref p) (upd H p (.tup [])))
theorem op_repB {X : Cx} : OpR X (binaryOp .Mult) (rRepB X.K) := by
  intro pins s σ H x y v u Q I rx ry h
  obtain ⟨l, b, xs, rfl, rfl, hT, hne, q1, q0⟩ := h
  cases rx
  obtain ⟨t, rfl⟩ := ry
  obtain ⟨its, r, ⟨⟨cls, dd, data, sl⟩, ho, hc, n, hd⟩, hs⟩ := I.tuple hT
  simp only at hc hd
  subst hc hd
  have hi : its.toArray.isEmpty = false := by
    cases its with
    | nil => exact absurd (List.eq_nil_of_length_eq_zero r.length) hne
    | cons a b => rfl
  cases b with
  | true =>
    refine wpAny_binaryOp_repeat_ref (T := "tuple") (U := "int") (by decide) ⟨_, ho, rfl⟩ (fun s' => typeIs_int s' 1 t) noFill_tuple_mul F.fills_int_mul F.slot_int_rmul repeat_tuple F.slot_int_index.lookup
      (call_meets F.slot_int_rmul (typeIs_int s 1 t) F.entry_int_rmul (F.args_int_rmul_2 _ _) (int_rmul_tuple 1 t l its.toArray n dd sl)
        ⟨ho, rfl, ⟨_, ho, rfl⟩, call_meets F.slot_tuple_mul ⟨_, ho, rfl⟩ F.entry_tuple_mul (F.args_tuple_mul_2 _ _) (mul_once l its.toArray n dd sl t) ⟨ho, ?_⟩⟩)
    exact ⟨.ref l, H, I, rfl, q1 rfl⟩
  | false =>
    refine wpAny_binaryOp_repeat_ref (T := "tuple") (U := "int") (by decide) ⟨_, ho, rfl⟩ (fun s' => typeIs_int s' 0 t) noFill_tuple_mul F.fills_int_mul F.slot_int_rmul repeat_tuple F.slot_int_index.lookup
      (call_meets F.slot_int_rmul (typeIs_int s 0 t) F.entry_int_rmul (F.args_int_rmul_2 _ _) (int_rmul_tuple 0 t l its.toArray n dd sl)
        ⟨ho, rfl, ⟨_, ho, rfl⟩, call_meets F.slot_tuple_mul ⟨_, ho, rfl⟩ F.entry_tuple_mul (F.args_tuple_mul_2 _ _) (mul_none l its.toArray n dd sl t (by rw [hi]; rfl)) ⟨ho, ?_⟩⟩)
    refine ⟨.ref s.heap.objs.size, _, I.laid (t' := s.toks) (o := .tup []) (fun b ob q => Heap.get?_push_of_some _ q) (Nat.le_refl _) ?_, rfl, q0 rfl _ (I.hok.fresh (Nat.le_refl _))⟩
    exact ⟨Nat.zero_le _, _, .nil, IsTup.new _ _⟩
end Tw
namespace Tw
open PySem PySem.Spec PyProof.Rows L2
/-- a text said k times -/
def timesS (z : Str) (k : Nat) : Str := ⟨(List.replicate k z.cps).foldl (· ++ ·) #[]⟩
def rRepS : R2 := fun x y H Q => ∃ (z : Str) (k : Int), x = .str z ∧ y = .int k ∧ 2 ≤ k ∧ k ≤ 100 ∧ z.length ≠ 0 ∧ z.length ≤ 1000 ∧ (timesS z k.toNat).length ≤ 16777216 ∧ Q (.str (timesS z k.toNat)) H
theorem op_repS {X : Cx} : OpR X (binaryOp .Mult) rRepS := by
  intro pins s σ H x y v u Q I rx ry h
  obtain ⟨z, k, rfl, rfl, h1, h2, h3, h4, h5, q⟩ := h
  obtain ⟨t, rfl⟩ := rx
  obtain ⟨t2, rfl⟩ := ry
  have n1 : ¬ k < 1 := by omega
  have n2 : (k == 1 || z.length == 0) = false := by
    rw [Bool.or_eq_false_iff]
    exact ⟨beq_eq_false_iff_ne.mpr (by omega), beq_eq_false_iff_ne.mpr h3⟩
  have hmul : z.length * k.toNat ≤ 1000 * 100 := Nat.mul_le_mul h4 (by omega)
  refine P.mul_str (by rw [decide_eq_false (by omega), decide_eq_false (by omega)] <;> rfl) (fun _ _ => ?_) (fun _ _ => ?_) ?_
  · have hd : (92233720368547758 : Int) ≤ (2 ^ 63 - 1) / k := Int.le_ediv_of_mul_le (by omega) (by omega)
    omega
  · unfold Builtin.Str.tooLong
    exact decide_eq_false (by rw [sizeLine_eq]; omega)
  · rw [if_neg n1, if_neg (by rw [n2]; exact Bool.false_ne_true)]
    refine ⟨?_, ⟨.str _, H, I.tok _, ⟨_, rfl⟩, q⟩⟩
    exact h5
end Tw
/-! TgM: a text said none, once or several times: how long it is. -/
namespace Tw
open PySem PySem.Spec PyProof.Rows L2
theorem times_len (z : Str) : ∀ (k : Nat) (acc : Array Nat), ((List.replicate k z.cps).foldl (· ++ ·) acc).size = acc.size + k * z.cps.size
  | 0, acc => by
    show acc.size = _
    omega
  | k + 1, acc => by
    rw [List.replicate_succ, List.foldl_cons, times_len z k, Array.size_append, Nat.add_mul]
    omega
def rRepG : R2 := fun x y H Q => ∃ (z : Str) (k : Int), x = .str z ∧ y = .int k ∧ 0 ≤ k ∧ k ≤ 100 ∧ z.length ≠ 0 ∧ z.length ≤ 1000 ∧ ∀ r : Str, r.length ≤ k.toNat * z.length → Q (.str r) H
theorem op_repG {X : Cx} : OpR X (binaryOp .Mult) rRepG := by
  intro pins s σ H x y v u Q I rx ry h
  obtain ⟨z, k, rfl, rfl, h1, h2, h3, h4, q⟩ := h
  obtain ⟨t, rfl⟩ := rx
  obtain ⟨t2, rfl⟩ := ry
  have hmul : z.length * k.toNat ≤ 1000 * 100 := Nat.mul_le_mul h4 (by omega)
  refine P.mul_str (by rw [decide_eq_false (by omega), decide_eq_false (by omega)] <;> rfl) (fun _ _ => ?_) (fun _ _ => ?_) ?_
  · have hd : (92233720368547758 : Int) ≤ (2 ^ 63 - 1) / k := Int.le_ediv_of_mul_le (by omega) (by omega)
    omega
  · unfold Builtin.Str.tooLong
    exact decide_eq_false (by rw [sizeLine_eq]; omega)
  · by_cases n1 : k < 1
    · rw [if_pos n1]
      exact ⟨by decide, ⟨.str Str.empty, H, I.tok _, ⟨_, rfl⟩, q _ (Nat.zero_le _)⟩⟩
    · rw [if_neg n1]
      by_cases n2 : (k == 1 || z.length == 0) = true
      · rw [if_pos n2]
        have hk : k = 1 := by
          rw [Bool.or_eq_true, beq_iff_eq, beq_iff_eq] at n2
          exact n2.resolve_right h3
        exact ⟨.str z, H, I, ⟨t, rfl⟩, q z (by rw [hk]; show z.length ≤ 1 * z.length; omega)⟩
      · rw [if_neg n2]
        have hs : (⟨(List.replicate k.toNat z.cps).foldl (· ++ ·) #[]⟩ : Str).length = k.toNat * z.length := by
          show ((List.replicate k.toNat z.cps).foldl (· ++ ·) #[]).size = k.toNat * z.cps.size
          rw [times_len]
          show 0 + _ = _
          omega
        refine ⟨?_, ⟨.str _, H, I.tok _, ⟨_, rfl⟩, q _ (Nat.le_of_eq hs)⟩⟩
        rw [hs, Nat.mul_comm]
        exact Nat.le_trans hmul (by decide)
end Tw
set_option maxHeartbeats 2000000
namespace K22
open PySem PySem.Spec PyProof.Rows L2 Tw Sb LamX
/-- all but the tables and the well a stay -/
def FvN (a : Addr) (H H' : Hp) : Prop := (∀ b o, b ≠ a → H b = some o → (∀ ps, o ≠ .tbl ps) → H' b = some o) ∧ IsW2 H' a
theorem FvN.of {a : Addr} {H H' : Hp} (f : Fv a H H') : FvN a H H' := ⟨fun b o n e _ => f.1 b o n e, f.2⟩
theorem FvN.trans {a : Addr} {H H1 H2 : Hp} (f : FvN a H H1) (g : FvN a H1 H2) : FvN a H H2 := ⟨fun b o n e t => g.1 b o n (f.1 b o n e t) t, g.2⟩
theorem IsW2.ext {H H' : Hp} {a : Addr} (h : IsW2 H a) (s : ExtN H H') : IsW2 H' a := by
  obtain ⟨x, y, e⟩ := h
  exact ⟨x, y, s _ _ e fun _ z => nomatch z⟩
theorem FvN.ext {a : Addr} {H H1 H2 : Hp} (f : FvN a H H1) (s : ExtN H1 H2) : FvN a H H2 := ⟨fun b o n e t => s b o (f.1 b o n e t) t, IsW2.ext f.2 s⟩
theorem FvN.keepC {K : PySem.W.Frag} {C a : Addr} {H H' : Hp} (f : FvN a H H') (w : IsW2 H a) : KeepC K C H H' := by
  obtain ⟨x, y, hw⟩ := w
  have nb : ∀ {b : Addr} {o : HO}, H b = some o → (∀ xs, o ≠ .lst xs) → b ≠ a := fun e n q => by
    rw [q, hw] at e
    exact n _ (Option.some.inj e).symm
  refine ⟨KeepT.but fun b o e => ⟨fun xs q => f.1 b o (nb e (by rw [q]; exact fun _ z => nomatch z)) e (by rw [q]; exact fun _ z => nomatch z), fun _ xs q => f.1 b o (nb e (by rw [q]; exact fun _ z => nomatch z)) e (by rw [q]; exact fun _ z => nomatch z)⟩, fun b dx fs e => f.1 b _ (nb e fun _ z => nomatch z) e fun _ z => nomatch z⟩
theorem FvN.put {a D : Addr} {H H' : Hp} {o : HO} (f : FvN a H H') (n : D ≠ a) (h : H D = none) : FvN a H (upd H' D o) := by
  refine ⟨fun b u nb e t => ?_, ?_⟩
  · rw [upd_ne (ne_of_none e h)]
    exact f.1 b u nb e t
  · obtain ⟨x, y, e⟩ := f.2
    exact ⟨x, y, by rw [upd_ne n.symm]; exact e⟩
theorem FvN.same {a : Addr} {H H1 H2 : Hp} (f : FvN a H H1) (s : Same H1 H2) : FvN a H H2 := ⟨fun b o n e t => s _ _ (f.1 b o n e t), f.2.same s⟩
theorem wtL_app : ∀ {ds : List PyData} {d : PyData}, wtL (ds ++ [d]) = wtL ds + (wt d + 2)
  | [], d => by
    have e1 : wtL [d] = wt d + 2 + wtL [] := by conv => lhs; rw [wtL]
    have e0 : wtL [] = 0 := by rw [wtL]
    show wtL [d] = wtL [] + _
    omega
  | e :: r, d => by
    show wtL (e :: (r ++ [d])) = _
    rw [wtL, wtL_app, wtL]
    omega
theorem tabs_fv {TS : List (Addr × Str)} {H H' : Hp} {a : Addr} (t : Tabs TS H) (w : IsW2 H a) (f : Fv a H H') : Tabs TS H' := fun p hp => by
  obtain ⟨x, y, hw⟩ := w
  obtain ⟨ps, h1, h2, h3⟩ := t p hp
  refine ⟨ps, f.1 _ _ (fun e => by rw [e, hw] at h1; cases h1) h1, h2, fun pos cv hc => ?_⟩
  obtain ⟨c, e1, e2⟩ := h3 pos cv hc
  have nc : c ≠ a := fun e => by
    rw [e, hw] at e2
    exact NoTab.lst.2 _ _ (Option.some.inj e2)
  exact ⟨c, e1, f.1 _ _ nc e2⟩
/-- the old choices as they stand -/
structure Olds (K : PySem.W.Frag) (a d1 : Addr) (to : List TRow) (H : Hp) : Prop where
  ex : ∃ kv, H d1 = some (.dK kv) ∧ Paired (RowO K (fun b => b ≠ a) H) kv to
theorem Olds.fvN {K : PySem.W.Frag} {a d1 : Addr} {to : List TRow} {H H' : Hp} (h : Olds K a d1 to H) (w : IsW2 H a) (f : FvN a H H') : Olds K a d1 to H' := by
  obtain ⟨kv, e, p⟩ := h
  refine ⟨kv, f.1 _ _ (fun q => ?_) e (fun _ z => nomatch z), pd_mono (fun _ _ g => RowO.keep (fun b xs n hb => f.1 b _ n hb (fun _ z => nomatch z)) (f.keepC (C := 0) w).t g) p⟩
  obtain ⟨_, _, hw⟩ := w
  rw [q, hw] at e
  cases e
/-- a sort to draw a thing of, so deep -/
inductive Sd (to : List TRow) : Nat → Option So → Prop
  | cho {deep : Nat} {c : Str} : c ∈ to.map Prod.fst → deep ≤ 6 → Sd to deep (some (.cho c))
  | con {deep : Nat} {c : Str} {o : Option So} : c ∈ to.map Prod.fst → Cf c o → deep ≤ 7 → Sd to deep o
def ThR (to : List TRow) (n : Nat) : Option So → PyData → Prop
  | none, d => d = .none
  | some s, d => ThF (chT to) n s d
def spThing (K : PySem.W.Frag) (CC : Addr) (TS : List (Addr × Str)) (n : Nat) : Sp := fun vs H Q _ => ∃ (a d1 : Addr) (v : V) (o : Option So) (deep : Nat) (to : List TRow), vs = [.ref a, .ref d1, v, .int (deep : Nat)] ∧ IsW2 H a ∧ Olds K a d1 to H ∧ OkO to ∧ Td K H v (oSo o) ∧ Sd to deep o ∧ 10 ≤ n + deep ∧ n ≤ 20 ∧ Tabs TS H ∧
  ∀ (u : V) (d : PyData) (H' : Hp), Tc K CC H' u d → ThR to n o d → wt d ≤ 2 * 3 ^ (8 - deep) → FvN a H H' → Tabs TS H' → Q u H'
theorem keepC_lstL {K : PySem.W.Frag} {CC : Addr} {H : Hp} {D : Addr} {xs ys : List V} (h : H D = some (.lst xs)) : KeepC K CC H (upd H D (.lst ys)) := ⟨keepT_lst h, fun a dx fs e => by
  rw [upd_ne (ne_of e h (by intro z; cases z))]
  exact e⟩
section
variable {P : Program} {w : World} {K : PySem.W.Frag} {mg : Str → Option Value} {base : Heap}
theorem ok_thing_step {n : Nat} {CC c PT f : Addr} {oc kV doc pm ct : Value} {od an : Option Addr} {osl : Array (Option Value)} {TS : List (Addr × Str)} (lk : K.lookup f = some ⟨oc, od, .func (PySem.W.fnOf "_law_thing" "_law_thing" (defArgs s__law_thing) (defBody s__law_thing) (defScope s__law_thing) .none kV doc pm an (.ref c) ct), osl⟩) (hcd : PySem.W.codeIn K (.ref c) "_law_thing" = true)
    (T : Bu mg) (TB : TabB base mg c PT) (hB : (PT, ("_law_thing.<locals>.<lambda>" : Str)) ∈ TS) (hlu : ∀ p ∈ TS, p.1 = PT → p.2 = ("_law_thing.<locals>.<lambda>" : Str)) (c__law_draw : Cal P w K mg base 1 "_law_draw" ["_law_well", "_law_many"] spDraw2) (m_ca2 : MkPD P w K mg base CC 1 "Case" ["self", "word", "content"] [] (spCInit CC))
    (c__law_thing : Cal P w K mg base (n + 3) "_law_thing" ["_law_well", "_law_old", "_law_sort", "_law_deep"] (spThing K CC TS n)) :
    FnOk P w K mg base CX0 (n + 4) f (PySem.W.fnOf "_law_thing" "_law_thing" (defArgs s__law_thing) (defBody s__law_thing) (defScope s__law_thing) .none kV doc pm an (.ref c) ct) ["_law_well", "_law_old", "_law_sort", "_law_deep"] (spThing K CC TS (n + 1)) := by
  refine fn_of lk hcd sc__law_thing (fun vs H Q E h => ?_) fun A outer s H vs Q E hr h => ?_
  · obtain ⟨a, d1, v, o, deep, to, rfl, _⟩ := h
    rfl
  · obtain ⟨a, d1, v, o, deep, to, rfl, hw, hO, okO, hv, hs, hn, hn2, hT, q⟩ := h
    have hu := hu_of hr
    have body : ∃ t, PSs ((cxOf CX0 P w K mg base N__law_thing "_law_thing" (defScope s__law_thing) f (.ref c) A outer s H E).nox) (defBody s__law_thing) t ∧ t { nx := fun _ H' => Q .non H', rt := Q } (L2.start N__law_thing [.ref a, .ref d1, v, .int (deep : Nat)]) H := by
     refine ⟨_, (pss_cons (ps_if (pt_cmpR op_isN (pv 2) pe_non (nomark _))
        (pss_one (ps_ret pe_non))
        pss_nil)
      (pss_cons (ps_if (pt_cmpR op_eq (pe_ix (r := rIxT K) ix_tup (pv 2) pe_int (fun _ _ => rfl)) pe_str (nomark _))
        (pss_cons (ps_set (i := 4) sc__law_thing.nd rfl (.inl rfl) (pe_sortLam K (T := TS) (pr := "_law_case_here") (by rfl) T.n_sorted (pe_dget hu (pv 1) (pe_ix (r := rIxT K) ix_tup (pv 2) pe_int (fun _ _ => rfl)) (fun _ _ => rfl)) TB rfl hB hlu (hr.mono (show 1 ≤ n + 3 by omega)) ⟨⟨rfl, rfl, rfl⟩, rfl, ⟨_, _, _, _, rfl⟩, by decide⟩ rfl (fun _ _ _ _ _ _ => rfl)))
        (pss_cons (ps_asg (pe_ix (r := rIxL K) ix_list (pv 4) (pe_cal c__law_draw hr (by omega) (by rfl) (pa_cons (pv 0) (pa_cons (pe_callB call_len_seq (by rfl) T.n_len (by decide +kernel) (pa_cons (pv 4) pa_nil)) pa_nil))) (fun _ _ => rfl)) (pg_tup rfl (pgs_cons (pg_name (i := 5) sc__law_thing.nd rfl (.inl rfl)) (pgs_cons (pg_name (i := 6) sc__law_thing.nd rfl (.inl rfl)) (pgs_cons (pg_name (i := 7) sc__law_thing.nd rfl (.inl rfl)) pgs_nil)))))
        (pss_one (ps_ret (pe_mkPD m_ca2 hr (by omega) (by rfl) (pa_cons (pv 6) (pa_cons (pe_cal c__law_thing hr (by omega) (by rfl) (pa_cons (pv 0) (pa_cons (pv 1) (pa_cons (pv 7) (pa_cons (pe_op op_add (pv 3) pe_int) pa_nil))))) pa_nil)))))))
        pss_nil)
      (pss_cons (ps_if (pt_cmpR op_eq (pe_ix (r := rIxT K) ix_tup (pv 2) pe_int (fun _ _ => rfl)) pe_str (nomark _))
        (pss_one (ps_ret (pe_op op_add (pe_ix (r := rIxT K) ix_tup (pv 2) pe_int (fun _ _ => rfl)) (pe_cal c__law_draw hr (by omega) (by rfl) (pa_cons (pv 0) (pa_cons (pe_op op_add (pe_op op_sub (pe_ix (r := rIxT K) ix_tup (pv 2) pe_int (fun _ _ => rfl)) (pe_ix (r := rIxT K) ix_tup (pv 2) pe_int (fun _ _ => rfl))) pe_int) pa_nil))))))
        pss_nil)
      (pss_cons (ps_if (pt_cmpR op_eq (pe_ix (r := rIxT K) ix_tup (pv 2) pe_int (fun _ _ => rfl)) pe_str (nomark _))
        (pss_one (ps_ret (pe_cmpR op_eq (pe_cal c__law_draw hr (by omega) (by rfl) (pa_cons (pv 0) (pa_cons pe_int pa_nil))) pe_int (nomark _))))
        pss_nil)
      (pss_cons (ps_if (pt_cmpR op_eq (pe_ix (r := rIxT K) ix_tup (pv 2) pe_int (fun _ _ => rfl)) pe_str (nomark _))
        (pss_one (ps_ret (pe_op op_repG pe_str (pe_cal c__law_draw hr (by omega) (by rfl) (pa_cons (pv 0) (pa_cons (pe_op op_add (pe_ix (r := rIxT K) ix_tup (pv 2) pe_int (fun _ _ => rfl)) pe_int) pa_nil))))))
        pss_nil)
      (pss_cons (ps_if (pt_cmpR op_eq (pe_ix (r := rIxT K) ix_tup (pv 2) pe_int (fun _ _ => rfl)) pe_str (nomark _))
        (pss_cons (ps_set (i := 8) sc__law_thing.nd rfl (.inl rfl) (pe_ifExp (pt_cmpR op_gt (pv 3) pe_int (nomark _)) pe_int (pe_cal c__law_draw hr (by omega) (by rfl) (pa_cons (pv 0) (pa_cons (pe_op op_add (pe_ix (r := rIxT K) ix_tup (pv 2) pe_int (fun _ _ => rfl)) pe_int) pa_nil)))))
        (pss_one (ps_ret (pe_callTy (T := "tuple") (r := rTupOf K) cr_tupK (by rfl) T.n_tuple (by decide +kernel) (pa_cons (pe_lc (own := [("_law_k", 9)]) rfl sc__law_thing.nd (pi_range1 rfl T.n_range (pa_cons (pv 8) pa_nil)) (blkOk_by (N := N__law_thing) (sc := defScope s__law_thing) (by decide +kernel)) (fun _ _ _ _ _ => (pg_name (i := 9) sc__law_thing.nd rfl (.inl rfl))) (fun _ _ _ _ _ => pts_nil) (fun _ _ _ _ _ => (pe_cal c__law_thing hr (by omega) (by rfl) (pa_cons (pv 0) (pa_cons (pv 1) (pa_cons (pe_ix (r := rIxT K) ix_tup (pv 2) pe_int (fun _ _ => rfl)) (pa_cons (pe_op op_add (pv 3) pe_int) pa_nil))))))) pa_nil)))))
        pss_nil)
      (pss_one (ps_ret (pe_ifExp (PW.pt (pw_or (pt_cmpR op_gt (pv 3) pe_int (nomark _)) (pw_or1 (pt_cmpR op_eq (pe_cal c__law_draw hr (by omega) (by rfl) (pa_cons (pv 0) (pa_cons pe_int pa_nil))) pe_int (nomark _))))) pe_non (pe_cal c__law_thing hr (by omega) (by rfl) (pa_cons (pv 0) (pa_cons (pv 1) (pa_cons (pe_ix (r := rIxT K) ix_tup (pv 2) pe_int (fun _ _ => rfl)) (pa_cons (pe_op op_add (pv 3) pe_int) pa_nil)))))))))))))), ?_⟩
     obtain ⟨kv, hd1, hkv⟩ := hO
     cases hs with
     | @cho c0 hc hdeep =>
       obtain ⟨p, zs, rfl, hp, hz⟩ := Td.row (show Td K H v (.tuple [.str "choice", .str c0]) from hv)
       obtain ⟨x1, x2, rfl, t1, t2⟩ := hz.c2
       obtain rfl := t1.toStr
       obtain rfl := t2.toStr
       have okc := okO.ch
       obtain ⟨r0, hr0, rfl, hcr, _⟩ := okc.row hc
       obtain ⟨b, xs, hval, hba, hb, hxs⟩ := valO hkv okc.n hr0
       have rok : RowOk false [] [("up" : Str), "down"] r0.2 := (okO.2 r0 hr0).rowOk
       obtain ⟨ns, okn, l1, l6, ch⟩ := okO.2 r0 hr0
       obtain ⟨ps, hp1, hp2, hp3, hp4⟩ := sort_row hxs
       refine ⟨_, rfl, rfl, _, rfl, iteN (fun z => nomatch z) ?_⟩
       refine ⟨_, rfl, p, _, 0, _, rfl, rfl, hp, at0, rfl, _, rfl, iteY rfl ?_⟩
       refine ⟨_, rfl, _, rfl, p, _, 1, _, rfl, rfl, hp, at1, d1, _, rfl, .inl ⟨kv, .inr r0.1, .inl hd1, rfl, hval.symm⟩, b, ps, rfl, .inl (by rw [hp1]; exact SqL.of hb), hp2, hT, fun H3 z eN T3 hz3 => ?_⟩
       have w3 := IsW2.ext hw eN
       have hbz : (upd H3 z (.lst ((byKey ps).map Prod.fst))) z = some (.lst ((byKey ps).map Prod.fst)) := upd_same
       have sz := same_upd (o := .lst ((byKey ps).map Prod.fst)) hz3
       have f4 : FvN a H (upd H3 z (.lst ((byKey ps).map Prod.fst))) := ⟨fun b o _ e n => sz _ _ (eN b o e n), w3.same sz⟩
       have nz : z ≠ a := w3.ne hz3
       have T4 := T3.ext sz
       have k4 : KeepT K H (upd H3 z (.lst ((byKey ps).map Prod.fst))) := (KeepT.extN eN).trans (KeepT.same sz)
       have hrow := hp3 _ k4
       generalize upd H3 z (.lst ((byKey ps).map Prod.fst)) = H4 at hbz f4 T4 k4 hrow ⊢
       have hln : ((byKey ps).map Prod.fst).length = r0.2.length := by rw [List.length_map, hp4]
       have hrl : 1 ≤ r0.2.length ∧ r0.2.length ≤ 6 := by rw [ch.len]; exact ⟨l1, l6⟩
       refine ⟨_, rfl, _, rfl, _, rfl, z, _, rfl, .inl (SqL.of hbz), a, _, rfl, f4.2, by omega, small_abs2 (by omega) (by omega), fun r H5 rr0 rr1 f5 => ?_⟩
       have hbz5 := f5.1 z _ nz hbz
       obtain ⟨rn, rfl⟩ := Int.eq_ofNat_of_zero_le rr0
       have hrn : rn < ((byKey ps).map Prod.fst).length := by omega
       have hget := List.getElem?_eq_getElem hrn
       refine ⟨z, _, _, _, rfl, rfl, SqL.of hbz5, atI_nat hget, ?_⟩
       obtain ⟨e, he, hte⟩ := en_at hrow hget
       have hem : e ∈ r0.2 := (mem_sortEn e).mp (List.mem_of_getElem? he)
       obtain ⟨g1, g2, g3⟩ := ch.of e hem
       have k5 := f5.keepT (K := K) f4.2
       obtain ⟨pe, ue, re, hpe0, hpe, hue, hre⟩ := en_row (hte.keep k5)
       rw [g1] at hre
       obtain rfl : re = [] := by cases hre; rfl
       refine ⟨pe, _, hpe0, hpe, rfl, _, _, rfl, _, _, rfl, _, _, rfl, rfl, ?_⟩
       have f45 := f4.trans (FvN.of f5)
       have T5 := tabs_fv T4 f4.2 f5
       refine ⟨_, rfl, _, rfl, _, rfl, _, rfl, _, rfl, _, _, rfl, rfl, ?_⟩
       have hO : Olds K a d1 to H := ⟨kv, hd1, hkv⟩
       refine ⟨a, d1, ue, e.of, deep + 1, to, rfl, f45.2, hO.fvN hw f45, okO, hue, .con (by rw [okO.1]; exact otherO_in r0.1) g2 (by omega), by omega, by omega, T5, fun u d H6 tc th wd f6 T6 => ?_⟩
       refine fun x dx hx hdx nd => ca_new hx hdx nd fun H7 s7 h7 => ⟨rfl, ?_⟩
       refine q (.ref x) (caseP e.name d) H7 (.cas h7 (tc.keep (KeepC.same s7))) ?_ ?_ ⟨fun b o nb e t => s7 _ _ ((f45.trans f6).1 b o nb e t), (f45.trans f6).2.same s7⟩ (T6.ext s7)
       · show ThX (ThF (chT to) n) (chT to) (.cho r0.1) (.list [.str e.name, d])
         refine ⟨e, by rw [hcr]; exact en_name rok hem, ?_⟩
         cases ho : e.of with
         | none =>
           rw [ho] at th
           exact .inl ⟨rfl, th⟩
         | some s =>
           rw [ho] at th
           exact .inr ⟨s, rfl, th⟩
       · rw [wt_case]
         have hpw : 3 ^ (8 - deep) = 3 * 3 ^ (8 - (deep + 1)) := by
           rw [show 8 - deep = (8 - (deep + 1)) + 1 by omega, Nat.pow_succ]
           omega
         have hp1 : 3 ≤ 3 ^ (8 - (deep + 1)) := by
           rw [show 8 - (deep + 1) = (8 - (deep + 2)) + 1 by omega, Nat.pow_succ]
           have := Nat.one_le_pow (8 - (deep + 2)) 3 (by decide)
           omega
         omega
     | @con c0 _ hc hcf hdeep =>
       have hpos : 6 ≤ 2 * 3 ^ (8 - deep) := by
         rw [show 8 - deep = (7 - deep) + 1 by omega, Nat.pow_succ]
         have := Nat.one_le_pow (7 - deep) 3 (by decide)
         omega
       have hO : Olds K a d1 to H := ⟨kv, hd1, hkv⟩
       cases hcf with
       | non =>
         obtain rfl := hv.toNone
         exact ⟨_, rfl, rfl, _, rfl, iteY rfl (q .non .none H .non rfl (Nat.le_trans (by decide) hpos) ⟨fun _ _ _ e _ => e, hw⟩ hT)⟩
       | num lo hi g1 g2 g3 =>
         obtain ⟨p, zs, rfl, hp, hz⟩ := Td.row (show Td K H v (.tuple [.str "number", .int lo, .int hi]) from hv)
         obtain ⟨x1, x2, x3, rfl, t1, t2, t3⟩ := hz.c3
         obtain rfl := t1.toStr
         obtain rfl := t2.toInt
         obtain rfl := t3.toInt
         refine ⟨_, rfl, rfl, _, rfl, iteN (fun z => nomatch z) ?_⟩
         refine ⟨_, rfl, p, _, 0, _, rfl, rfl, hp, at0, rfl, _, rfl, iteN (sne (show ("number" : Str) ≠ "choice" by decide +kernel)) ?_⟩
         refine ⟨_, rfl, p, _, 0, _, rfl, rfl, hp, at0, rfl, _, rfl, iteY rfl ?_⟩
         refine ⟨_, rfl, p, _, 1, _, rfl, rfl, hp, at1, _, rfl, _, rfl, p, _, 2, _, rfl, rfl, hp, at2, _, rfl, p, _, 1, _, rfl, rfl, hp, at1, hi, lo, rfl, rfl, _, 1, rfl, rfl, a, _, rfl, hw, by omega, small_abs2 (by omega) (by omega), fun r H1 r0 r1 f1 => ⟨lo, r, rfl, rfl, ?_⟩⟩
         exact q _ (.int (lo + r)) H1 (.int _) True.intro (Nat.le_trans (Nat.le_of_ble_eq_true rfl : 1 ≤ 6) hpos) (FvN.of f1) (tabs_fv hT hw f1)
       | tru =>
         obtain ⟨p, zs, rfl, hp, hz⟩ := Td.row (show Td K H v (.tuple [.str "truth"]) from hv)
         obtain ⟨x1, rfl, t1⟩ := hz.c1
         obtain rfl := t1.toStr
         refine ⟨_, rfl, rfl, _, rfl, iteN (fun z => nomatch z) ?_⟩
         refine ⟨_, rfl, p, _, 0, _, rfl, rfl, hp, at0, rfl, _, rfl, iteN (sne (show ("truth" : Str) ≠ "choice" by decide +kernel)) ?_⟩
         refine ⟨_, rfl, p, _, 0, _, rfl, rfl, hp, at0, rfl, _, rfl, iteN (sne (show ("truth" : Str) ≠ "number" by decide +kernel)) ?_⟩
         refine ⟨_, rfl, p, _, 0, _, rfl, rfl, hp, at0, rfl, _, rfl, iteY rfl ?_⟩
         refine ⟨_, rfl, a, 2, rfl, hw, by decide, by decide, fun r H1 r0 r1 f1 => ⟨rfl, ?_⟩⟩
         exact q _ (.bool _) H1 (.bl _) True.intro (Nat.le_trans (Nat.le_of_ble_eq_true rfl : 1 ≤ 6) hpos) (FvN.of f1) (tabs_fv hT hw f1)
       | txt m g1 g2 =>
         obtain ⟨p, zs, rfl, hp, hz⟩ := Td.row (show Td K H v (.tuple [.str "text", .int m]) from hv)
         obtain ⟨x1, x2, rfl, t1, t2⟩ := hz.c2
         obtain rfl := t1.toStr
         obtain rfl := t2.toInt
         refine ⟨_, rfl, rfl, _, rfl, iteN (fun z => nomatch z) ?_⟩
         refine ⟨_, rfl, p, _, 0, _, rfl, rfl, hp, at0, rfl, _, rfl, iteN (sne (show ("text" : Str) ≠ "choice" by decide +kernel)) ?_⟩
         refine ⟨_, rfl, p, _, 0, _, rfl, rfl, hp, at0, rfl, _, rfl, iteN (sne (show ("text" : Str) ≠ "number" by decide +kernel)) ?_⟩
         refine ⟨_, rfl, p, _, 0, _, rfl, rfl, hp, at0, rfl, _, rfl, iteN (sne (show ("text" : Str) ≠ "truth" by decide +kernel)) ?_⟩
         refine ⟨_, rfl, p, _, 0, _, rfl, rfl, hp, at0, rfl, _, rfl, iteY rfl ?_⟩
         refine ⟨_, rfl, _, rfl, p, _, 1, _, rfl, rfl, hp, at1, m, 1, rfl, rfl, a, _, rfl, hw, by omega, small_abs2 (by omega) (by omega), fun r H1 r0 r1 f1 => ?_⟩
         refine ⟨_, r, rfl, rfl, r0, by omega, by decide +kernel, by decide +kernel, fun z hz => ?_⟩
         refine q _ (.str z) H1 (.str _) ?_ (Nat.le_trans (Nat.le_of_ble_eq_true rfl : 1 ≤ 6) hpos) (FvN.of f1) (tabs_fv hT hw f1)
         have hz : z.length ≤ r.toNat * 1 := hz
         show z.length ≤ 40
         omega
       | row =>
         obtain ⟨p, zs, rfl, hp, hz⟩ := Td.row (show Td K H v (.tuple [.str "row", .int 2, (So.cho c0).pd]) from hv)
         obtain ⟨x1, x2, x3, rfl, t1, t2, t3⟩ := hz.c3
         obtain rfl := t1.toStr
         obtain rfl := t2.toInt
         refine ⟨_, rfl, rfl, _, rfl, iteN (fun z => nomatch z) ?_⟩
         refine ⟨_, rfl, p, _, 0, _, rfl, rfl, hp, at0, rfl, _, rfl, iteN (sne (show ("row" : Str) ≠ "choice" by decide +kernel)) ?_⟩
         refine ⟨_, rfl, p, _, 0, _, rfl, rfl, hp, at0, rfl, _, rfl, iteN (sne (show ("row" : Str) ≠ "number" by decide +kernel)) ?_⟩
         refine ⟨_, rfl, p, _, 0, _, rfl, rfl, hp, at0, rfl, _, rfl, iteN (sne (show ("row" : Str) ≠ "truth" by decide +kernel)) ?_⟩
         refine ⟨_, rfl, p, _, 0, _, rfl, rfl, hp, at0, rfl, _, rfl, iteN (sne (show ("row" : Str) ≠ "text" by decide +kernel)) ?_⟩
         refine ⟨_, rfl, p, _, 0, _, rfl, rfl, hp, at0, rfl, _, rfl, iteY rfl ?_⟩
         refine ⟨_, rfl, _, 5, rfl, rfl, _, rfl, ?_⟩
         refine ite2 (fun g => ?_) (fun g => ?_)
         · have f1 : Fv a H H := Fv.refl hw
           have T1 := tabs_fv hT hw f1
           refine ⟨_, rfl, _, rfl, by omega, by omega, fun D hD => ?_⟩
           have nD := f1.2.ne hD
           have hD0 := f1.free hD
           refine lc_it walk_range (fun j H' => FvN a H H' ∧ Tabs TS H' ∧ ∃ acc ds, H' D = some (.lst acc) ∧ Tcs K CC H' acc ds ∧ ds.length = j ∧ (∀ d ∈ ds, ThX (ThF (chT to) n) (chT to) (.cho c0) d) ∧ wtL ds ≤ j * (2 * 3 ^ (8 - (deep + 1)) + 2)) ⟨(FvN.of f1).same (same_upd hD), T1.ext (same_upd hD), [], [], upd_same, .nil, rfl, (fun d h => nomatch h), Nat.zero_le _⟩ (fun _ _ _ _ => trivial) ?_ ?_
           · rintro j x H5 H6 hj ⟨f5, T5, acc, ds, hacc, hds, hl, hin, hwl⟩ ⟨rfl, rfl⟩
             have hdeep5 : deep ≤ 5 := absurd hj (by simp)
             have kk := (f5.keepC (K := K) (C := CC) hw).t
             refine ⟨rfl, _, rfl, _, rfl, _, rfl, p, _, 2, _, rfl, rfl, kk _ _ hp, at2, _, rfl, _, _, rfl, rfl, ?_⟩
             refine ⟨a, d1, x3, some (.cho c0), deep + 1, to, rfl, f5.2, hO.fvN hw f5, okO, t3.keep kk, .cho hc (by omega), by omega, by omega, T5, fun u d H7 tc th wd f7 T7 => ?_⟩
             have hacc7 := f7.1 D _ nD hacc (fun _ z => nomatch z)
             have k7 := keepC_lstL (K := K) (CC := CC) (ys := acc ++ [u]) hacc7
             refine ⟨acc, hacc7, by rw [hds.len, hl, sizeLine_eq]; omega, (f5.trans f7).put nD hD0, tabs_put T7 (fun o e => by rw [hacc7] at e; cases e; exact .lst), _, ds ++ [d], upd_same, Tcs.append ((hds.keep (f7.keepC f5.2)).keep k7) (.cons (tc.keep k7) .nil), by rw [List.length_append, hl]; rfl, fun e he => ?_, ?_⟩
             · rcases List.mem_append.mp he with he | he
               · exact hin e he
               · rw [List.mem_singleton.mp he]
                 exact ThF.succ th
             · rw [wtL_app, Nat.add_mul]
               omega
           · rintro H5 ⟨f5, T5, acc, ds, hacc, hds, hl, hin, hwl⟩
             refine ⟨D, _, rfl, .inl ⟨SqL.of hacc, fun t ht => ?_⟩⟩
             have st := same_upd (o := .tup acc) ht
             refine q (.ref t) (.tuple ds) _ (.tup (SqT.of upd_same) (hds.keep (KeepC.same st))) (And.intro (by omega) hin) ?_ (f5.same st) (T5.ext st)
             have ew : wt (.tuple ds) = 2 + wtL ds := by rw [wt]
             rw [ew]
             have e0 : ds = [] := List.eq_nil_of_length_eq_zero (by simpa using hl)
             rw [e0, wtL]
             omega
         · have hdp5 : deep ≤ 5 := by
             have g : ¬ (5 < (deep : Int)) := fun h => g (decide_eq_true h)
             omega
           refine ⟨_, rfl, _, rfl, p, _, 1, _, rfl, rfl, hp, at1, 2, 1, rfl, rfl, a, _, rfl, hw, by decide, by decide, fun r H1 r0 r1 f1' => ?_⟩
           obtain ⟨m, rfl⟩ := Int.eq_ofNat_of_zero_le r0
           have f1 : Fv a H H1 := f1'
           have T1 := tabs_fv hT hw f1
           refine ⟨_, rfl, _, rfl, by omega, by omega, fun D hD => ?_⟩
           have nD := f1.2.ne hD
           have hD0 := f1.free hD
           refine lc_it walk_range (fun j H' => FvN a H H' ∧ Tabs TS H' ∧ ∃ acc ds, H' D = some (.lst acc) ∧ Tcs K CC H' acc ds ∧ ds.length = j ∧ (∀ d ∈ ds, ThX (ThF (chT to) n) (chT to) (.cho c0) d) ∧ wtL ds ≤ j * (2 * 3 ^ (8 - (deep + 1)) + 2)) ⟨(FvN.of f1).same (same_upd hD), T1.ext (same_upd hD), [], [], upd_same, .nil, rfl, (fun d h => nomatch h), Nat.zero_le _⟩ (fun _ _ _ _ => trivial) ?_ ?_
           · rintro j x H5 H6 hj ⟨f5, T5, acc, ds, hacc, hds, hl, hin, hwl⟩ ⟨rfl, rfl⟩
             have hdeep5 : deep ≤ 5 := hdp5
             have kk := (f5.keepC (K := K) (C := CC) hw).t
             refine ⟨rfl, _, rfl, _, rfl, _, rfl, p, _, 2, _, rfl, rfl, kk _ _ hp, at2, _, rfl, _, _, rfl, rfl, ?_⟩
             refine ⟨a, d1, x3, some (.cho c0), deep + 1, to, rfl, f5.2, hO.fvN hw f5, okO, t3.keep kk, .cho hc (by omega), by omega, by omega, T5, fun u d H7 tc th wd f7 T7 => ?_⟩
             have hacc7 := f7.1 D _ nD hacc (fun _ z => nomatch z)
             have k7 := keepC_lstL (K := K) (CC := CC) (ys := acc ++ [u]) hacc7
             refine ⟨acc, hacc7, by rw [hds.len, hl, sizeLine_eq]; omega, (f5.trans f7).put nD hD0, tabs_put T7 (fun o e => by rw [hacc7] at e; cases e; exact .lst), _, ds ++ [d], upd_same, Tcs.append ((hds.keep (f7.keepC f5.2)).keep k7) (.cons (tc.keep k7) .nil), by rw [List.length_append, hl]; rfl, fun e he => ?_, ?_⟩
             · rcases List.mem_append.mp he with he | he
               · exact hin e he
               · rw [List.mem_singleton.mp he]
                 exact ThF.succ th
             · rw [wtL_app, Nat.add_mul]
               omega
           · rintro H5 ⟨f5, T5, acc, ds, hacc, hds, hl, hin, hwl⟩
             refine ⟨D, _, rfl, .inl ⟨SqL.of hacc, fun t ht => ?_⟩⟩
             have st := same_upd (o := .tup acc) ht
             refine q (.ref t) (.tuple ds) _ (.tup (SqT.of upd_same) (hds.keep (KeepC.same st))) (And.intro (by omega) hin) ?_ (f5.same st) (T5.ext st)
             have ew : wt (.tuple ds) = 2 + wtL ds := by rw [wt]
             rw [ew]
             have hl' : ds.length = m := by simpa using hl
             have hwl' : wtL ds ≤ m * (2 * 3 ^ (8 - (deep + 1)) + 2) := by simpa using hwl
             have hm2 : m * (2 * 3 ^ (8 - (deep + 1)) + 2) ≤ 2 * (2 * 3 ^ (8 - (deep + 1)) + 2) := Nat.mul_le_mul_right _ (by omega)
             have hpw : 3 ^ (8 - deep) = 3 * 3 ^ (8 - (deep + 1)) := by
               rw [show 8 - deep = (8 - (deep + 1)) + 1 by omega, Nat.pow_succ]
               omega
             have hp3 : 3 ≤ 3 ^ (8 - (deep + 1)) := by
               rw [show 8 - (deep + 1) = (8 - (deep + 2)) + 1 by omega, Nat.pow_succ]
               have := Nat.one_le_pow (8 - (deep + 2)) 3 (by decide)
               omega
             omega
       | may =>
         obtain ⟨p, zs, rfl, hp, hz⟩ := Td.row (show Td K H v (.tuple [.str "maybe", (So.cho c0).pd]) from hv)
         obtain ⟨x1, x2, rfl, t1, t2⟩ := hz.c2
         obtain rfl := t1.toStr
         refine ⟨_, rfl, rfl, _, rfl, iteN (fun z => nomatch z) ?_⟩
         refine ⟨_, rfl, p, _, 0, _, rfl, rfl, hp, at0, rfl, _, rfl, iteN (sne (show ("maybe" : Str) ≠ "choice" by decide +kernel)) ?_⟩
         refine ⟨_, rfl, p, _, 0, _, rfl, rfl, hp, at0, rfl, _, rfl, iteN (sne (show ("maybe" : Str) ≠ "number" by decide +kernel)) ?_⟩
         refine ⟨_, rfl, p, _, 0, _, rfl, rfl, hp, at0, rfl, _, rfl, iteN (sne (show ("maybe" : Str) ≠ "truth" by decide +kernel)) ?_⟩
         refine ⟨_, rfl, p, _, 0, _, rfl, rfl, hp, at0, rfl, _, rfl, iteN (sne (show ("maybe" : Str) ≠ "text" by decide +kernel)) ?_⟩
         refine ⟨_, rfl, p, _, 0, _, rfl, rfl, hp, at0, rfl, _, rfl, iteN (sne (show ("maybe" : Str) ≠ "row" by decide +kernel)) ?_⟩
         refine ⟨_, rfl, _, 5, rfl, rfl, _, rfl, ?_⟩
         refine ite2 (fun g => ?_) (fun g => ?_)
         · exact q .non .none H .non (.inl rfl) (Nat.le_trans (Nat.le_of_ble_eq_true rfl : 1 ≤ 6) hpos) ⟨fun _ _ _ e _ => e, hw⟩ hT
         · have hdp5 : deep ≤ 5 := by
             have g : ¬ (5 < (deep : Int)) := fun h => g (decide_eq_true h)
             omega
           refine ⟨_, rfl, a, 3, rfl, hw, by decide, by decide, fun r H1 r0 r1 f1 => ⟨rfl, _, rfl, ?_⟩⟩
           have T1 := tabs_fv hT hw f1
           by_cases h0 : r = 0
           · exact iteY (congrArg V.int h0) (q .non .none H1 .non (.inl rfl) (Nat.le_trans (Nat.le_of_ble_eq_true rfl : 1 ≤ 6) hpos) (FvN.of f1) T1)
           · refine iteN (ine h0) ?_
             have kk := f1.keepT (K := K) hw
             refine ⟨_, rfl, _, rfl, _, rfl, p, _, 1, _, rfl, rfl, kk _ _ hp, at1, _, rfl, _, _, rfl, rfl, ?_⟩
             refine ⟨a, d1, x2, some (.cho c0), deep + 1, to, rfl, f1.2, hO.fvN hw (FvN.of f1), okO, t2.keep kk, .cho hc (by omega), by omega, by omega, T1, fun u d H7 tc th wd f7 T7 => ?_⟩
             have hpw : 3 ^ (8 - deep) = 3 * 3 ^ (8 - (deep + 1)) := by
               rw [show 8 - deep = (8 - (deep + 1)) + 1 by omega, Nat.pow_succ]
               omega
             have g0 : d = .none ∨ ThX (ThF (chT to) n) (chT to) (.cho c0) d := .inr (ThF.succ th)
             exact q u d H7 tc (by cases d <;> exact g0) (by omega) ((FvN.of f1).trans f7) T7
    obtain ⟨t, h1, h2⟩ := body
    exact ⟨t, h1.nox, h2⟩
end
end K22
/-! TwA3: () + t; zip of two tuples in a comprehension. -/
namespace Tw
open PySem PySem.Spec PyProof.Rows L2 Sb
section
variable {K : PySem.W.Frag} {a b : Addr} {xs ys : List V}
theorem walk_zipT {n : Nat} (hn : n = min xs.length ys.length) : Walk (RZ.ItzT K a b) n (fun H => SqT K H a xs ∧ SqT K H b ys) (YPair (fun i => xs[i]?) (fun i => ys[i]?)) := by
  subst hn
  refine ⟨fun i _ hi q => ?_, fun _ q => ⟨xs, ys, q.1, q.2, by omega⟩, fun i H v H' _ q y => ?_⟩
  · have h1 : i < xs.length := by omega
    have h2 : i < ys.length := by omega
    exact ⟨xs, ys, xs[i], ys[i], q.1, q.2, by simp [h1], by simp [h2]⟩
  · obtain ⟨T, x, z, h1, h2, h3, h4, h5⟩ := y
    exact ⟨T, x, z, h1, h2, h3, h4 xs q.1, h5 ys q.2⟩
end
/-- t + u, u not empty -/
def rCatP (K : PySem.W.Frag) : R2 := fun x y H Q => ∃ a b xs ys, x = .ref a ∧ y = .ref b ∧ SqT K H a xs ∧ SqT K H b ys ∧ ys ≠ [] ∧ xs.length + ys.length ≤ sizeLine ∧ ∀ (H' : Hp) (t : Addr), Same H H' → SqT K H' t (xs ++ ys) → Q (.ref t) H'
theorem op_catP {X : Cx} : OpR X (binaryOp .Add) (rCatP X.K) := by
  intro pins s σ H x y v u Q I rx ry h
  obtain ⟨a, b, xs, ys, rfl, rfl, ha, hb, hy, hz, q⟩ := h
  exact op_catA pins s σ H _ _ v u Q I rx ry ⟨a, b, xs, ys, rfl, rfl, ha, hb, hz, fun e => q H b (Same.refl H) (by rw [e]; exact hb), fun _ e => absurd e hy, fun _ _ p hp => q _ p (same_upd hp) (SqT.of upd_same)⟩
/-- enumerate of a tuple -/
def iEnT (K : PySem.W.Frag) (ta : TA) : TI := fun σ H R => ta σ H fun vs H1 => ∃ a xs, vs = [.ref a] ∧ SqT K H1 a xs ∧ R (ItrC K a 0 true) H1
theorem pi_enT {X : Cx} {es : List Expr} {kx : Nat} {tp : Pos} {e : Expr} {ta : TA} {p pos : Pos} (hg : Gl X "enumerate") (hm : X.mg "enumerate" = none) (ha : PA X [e] ta) (hs : starEach [e] X.env = [(false, eval e X.env)] := by rfl) :
    PI X (.Tuple es kx tp) (.Call (.Name "enumerate" p) [e] [] pos) (iEnT X.K ta) := by
  refine ⟨fun pins s σ H R I h => Call_ (ld_blt I hg hm boot_enumerate (PyProof.Rows.callWith_type1 (thn (ha.run pos pins s σ H _ I h) fun us s1 hh => ?_) hs rfl))⟩
  obtain ⟨vs, H1, I1, rv, a, xs, rfl, hr, q⟩ := hh
  rw [Vals.ref1 rv]
  obtain ⟨its, _, pl, _⟩ := I1.tuple hr
  have lt : a < s1.heap.objs.size := by obtain ⟨_, z, _⟩ := pl; exact Heap.lt_size z
  exact en1_begins (begins_tuple a its.toArray) pl fun h' he hi hk => en_pie (b := true) I1 lt he ⟨_, hi, rfl, rfl⟩ hk q
end Tw
/-! TwA4: isinstance(e, (c1, c2, ..)) of a caught error. -/
namespace Tw
open PySem PySem.Spec PyProof.Rows L2 Sb
def rIsXT (K : PySem.W.Frag) (D a : Addr) (cls : Value) (d : Option Addr) : List V → Hp → VK → Prop := fun xs H Q => ∃ (tp : Addr) (cs : List V) (us : List Value) (b : Bool) (dd : Addr) (fs : List (Str × V)), xs = [.ref a, .ref tp] ∧ cls = .ref D ∧ d = some dd ∧ H dd = some (.xd fs) ∧ H tp = some (.tup cs) ∧ Paired ClsV cs us ∧ PySem.W.kitAny K (.ref D) us = some b ∧ Q (.bl b) H
theorem call_isXT {X : Cx} {a D : Addr} {oe : Obj} {cls : Value} {d : Option Addr} {pn : List (Addr × Obj)} (C : ExcC X.K D) (hz : Zc cls d oe) (hf : ∃ vs, oe.data = .fields vs) : CallR (X.suite a ((a, oe) :: pn)) (.builtin "isinstance") (rIsXT X.K D a cls d) := by
  rintro pins s σ H xs us Q I r ⟨tp, cs, ws, b, dd, fs, rfl, rfl, rfl, hdd, hT, k, e, q⟩
  obtain ⟨u1, u2, rfl, rx, rt⟩ : ∃ u1 u2, us = [u1, u2] ∧ RelV (.ref a) u1 ∧ RelV (.ref tp) u2 := by
    cases r with
    | cons rx rr =>
      cases rr with
      | cons rt rr =>
        cases rr
        exact ⟨_, _, rfl, rx, rt⟩
  cases rx
  cases rt
  have at_ : s.heap.get? a = some oe := (I.pin (a, oe) (List.mem_append_left _ List.mem_cons_self)).1
  have hx : ObjOk X.prog X.w H s.heap dd (.xd fs) := I.hok dd _ hdd
  obtain ⟨mA, hns, _⟩ := hx
  obtain ⟨od, ho, _⟩ := lookIn_ns hns
  obtain ⟨vs, hv⟩ := hf
  have J : PySem.W.InstAt s.heap a oe D (some od) := ⟨at_, hz.1, by unfold PySem.W.notCls; rw [hv] <;> rfl, by rw [hz.2]; exact ho⟩
  have hcl : (PySem.W.clsIn X.K D).isSome = true := by
    obtain ⟨cd, hc, _⟩ := PySem.W.any_some C.hd
    rw [hc]
    rfl
  obtain ⟨_, its, rv, o, h1, h2, n, h3⟩ := (show ObjOk X.prog X.w H s.heap tp (.tup cs) from I.hok tp _ hT)
  obtain rfl := ClsV.all k rv
  obtain ⟨oc, od', dt, sl⟩ := o
  dsimp only at h2 h3
  subst h2
  subst h3
  exact PySem.W.kia_tup (PySem.W.kitx_exc hcl C.hg C.hk C.hs C.ha C.hn C.ht C.hm) I.kIn J h1 e (fun z => nomatch z) fun tk => ⟨.bl b, H, I.kept (t' := tk) fun _ _ z => z, rfl, q⟩
theorem kit_refN {K : PySem.W.Frag} {B S : Addr} (hne : (Value.ref B == Value.ref S) = false) (h2 : PySem.W.isClsIn K S = true) (h3 : PySem.W.typeIn K (.ref S) = some (.type "type")) (h4 : PySem.W.subIn K (.ref B) (.ref S) = some false) : PySem.W.kitOne K (.ref B) (.ref S) = some false := by
  unfold PySem.W.kitOne
  rw [hne]
  have h2' : (PySem.W.clsIn K S).isSome = true := h2
  show (if ((PySem.W.clsIn K S).isSome && PySem.W.typeIn K (.ref S) == some (.type "type")) = true then PySem.W.subIn K (.ref B) (.ref S) else none) = some false
  rw [if_pos (by rw [h2', h3] <;> rfl)]
  exact h4
theorem kit_noneOf {K : PySem.W.Frag} {t c : Value} {cs : List Value} (h : PySem.W.kitOne K t c = some false) (r : PySem.W.kitAny K t cs = some false) : PySem.W.kitAny K t (c :: cs) = some false := kitAny_cons h (fun _ => r) fun z => nomatch z
end Tw
set_option maxHeartbeats 2000000
namespace K22
open PySem PySem.Spec PyProof.Rows L2 Tw Sb LamX
section
variable {P : Program} {w : World} {K : PySem.W.Frag} {mg : Str → Option Value} {base : Heap}
theorem ok_thing {CC c PT f : Addr} {oc kV doc pm ct : Value} {od an : Option Addr} {osl : Array (Option Value)} {TS : List (Addr × Str)} (lk : K.lookup f = some ⟨oc, od, .func (PySem.W.fnOf "_law_thing" "_law_thing" (defArgs s__law_thing) (defBody s__law_thing) (defScope s__law_thing) .none kV doc pm an (.ref c) ct), osl⟩) (hcd : PySem.W.codeIn K (.ref c) "_law_thing" = true)
    (T : Bu mg) (TB : TabB base mg c PT) (hB : (PT, ("_law_thing.<locals>.<lambda>" : Str)) ∈ TS) (hlu : ∀ p ∈ TS, p.1 = PT → p.2 = ("_law_thing.<locals>.<lambda>" : Str)) (c__law_draw : Cal P w K mg base 1 "_law_draw" ["_law_well", "_law_many"] spDraw2) (m_ca2 : MkPD P w K mg base CC 1 "Case" ["self", "word", "content"] [] (spCInit CC))
    (hm : mg "_law_thing" = some (.ref f)) (kp : PySem.W.keepIn K (.ref f) = true) (b : Binds K (PySem.W.fnOf "_law_thing" "_law_thing" (defArgs s__law_thing) (defBody s__law_thing) (defScope s__law_thing) .none kV doc pm an (.ref c) ct) ["_law_well", "_law_old", "_law_sort", "_law_deep"] []) :
    ∀ n, FnOk P w K mg base CX0 (n + 3) f (PySem.W.fnOf "_law_thing" "_law_thing" (defArgs s__law_thing) (defBody s__law_thing) (defScope s__law_thing) .none kV doc pm an (.ref c) ct) ["_law_well", "_law_old", "_law_sort", "_law_deep"] (spThing K CC TS n)
  | 0 => fn_of lk hcd sc__law_thing (fun vs H Q E h => by
      obtain ⟨_, _, _, _, _, _, rfl, _⟩ := h
      rfl) fun A outer s H vs Q E hr h => by
      obtain ⟨_, _, _, _, deep, _, _, _, _, _, _, hs, hn, _⟩ := h
      cases hs <;> omega
  | n + 1 => ok_thing_step lk hcd T TB hB hlu c__law_draw m_ca2 ⟨f, _, ok_thing lk hcd T TB hB hlu c__law_draw m_ca2 hm kp b n, hm, kp, b⟩
/-- at most so deep, cases in it or none -/
def Sc : Nat → PyData → Prop
  | 0, _ => False
  | n + 1, d => (match d with | .none => True | .bool _ => True | .int _ => True | .str _ => True | _ => False) ∨ (∃ ds, d = .tuple ds ∧ ds.length ≤ 100 ∧ ∀ e ∈ ds, Sc n e) ∨ ∃ w c, d = caseP w c ∧ Sc n c
mutual
/-- a thing as the law tells it -/
def plainly : PyData → PyData
  | .tuple ds => .tuple (plainlyL ds)
  | .list ds => .tuple (.str "case" :: plainlyL ds)
  | d => d
def plainlyL : List PyData → List PyData
  | [] => []
  | d :: r => plainly d :: plainlyL r
end
theorem plainly_case {w : Str} {c : PyData} : plainly (caseP w c) = .tuple [.str "case", .str w, plainly c] := by
  unfold caseP
  rw [plainly, plainlyL, plainlyL, plainlyL]
  rfl
theorem plainlyL_snoc : ∀ {ds : List PyData} {d : PyData}, plainlyL (ds ++ [d]) = plainlyL ds ++ [plainly d]
  | [], d => by
    show plainlyL [d] = _
    conv => lhs; rw [plainlyL]
    rfl
  | e :: r, d => by
    show plainlyL (e :: (r ++ [d])) = _
    rw [plainlyL, plainlyL_snoc]
    conv => rhs; rw [plainlyL]
    rfl
def spPlain (K : PySem.W.Frag) (CC : Addr) (n : Nat) : Sp := fun vs H Q _ => ∃ (v : V) (d : PyData), vs = [v] ∧ Tc K CC H v d ∧ Sc n d ∧ ∀ (H' : Hp) (u : V), Same H H' → Td K H' u (plainly d) → Q u H'
/-- what the top says of Case, for isinstance -/
structure CaI (K : PySem.W.Frag) (mg : Str → Option Value) (CC : Addr) : Prop where
  c : CaC K CC
  g : ∃ u, mg "Case" = some u ∧ RelV (.ref CC) u
  a : PySem.W.findIn K (.ref CC) "__class__" = some (some (.builtin "object.__class__"))
  n : PySem.W.specialIn K (.builtin "object.__class__") "__get__" = some (some (.builtin "getset_descriptor.__get__"))
  t : PySem.W.takesIn K (.builtin "object.__class__") = some true
  m : PySem.W.mroIn K CC (.type "object") = some true
  kN : PySem.W.kitOne K (.type "NoneType") (.ref CC) = some false
  kB : PySem.W.kitOne K (.type "bool") (.ref CC) = some false
  kI : PySem.W.kitOne K (.type "int") (.ref CC) = some false
  kS : PySem.W.kitOne K (.type "str") (.ref CC) = some false
  kT : PySem.W.kitOne K (.type "tuple") (.ref CC) = some false
theorem CaI.ty {K : PySem.W.Frag} {mg : Str → Option Value} {C : Addr} (h : CaI K mg C) {H : Hp} {a dx : Addr} {fs : List (Str × V)} (e : H a = some (.ins C dx fs)) : TyX K H (.ref a) (.ref C) := .base (.ins e h.c.cl h.a h.n h.t h.m)
theorem kit_me {K : PySem.W.Frag} {C : Addr} : PySem.W.kitOne K (.ref C) (.ref C) = some true := by
  unfold PySem.W.kitOne
  rw [if_pos (by simp)]
theorem ok_plainly_step {n : Nat} {CC f : Addr} {fd : FuncData} (F : Fun K "_law_plainly" "_law_plainly" s__law_plainly f fd) (T : Bu mg) (I : CaI K mg CC) (c__law_plainly : Cal P w K mg base (1 + n) "_law_plainly" ["_law_thing_here"] (spPlain K CC n)) :
    FnOk P w K mg base CX0 (2 + n) f fd ["_law_thing_here"] (spPlain K CC (n + 1)) := by
  refine (show FnOk P w K mg base CX0 ((1 + n) + 1) f fd ["_law_thing_here"] (spPlain K CC (n + 1)) from F.ok sc__law_plainly (fun vs H Q E h => ?_) (fun cdv A outer s H vs Q E hr h => ?_)).mono (by omega)
  · obtain ⟨v, d, rfl, _⟩ := h
    rfl
  · obtain ⟨v, d, rfl, ht, hs, q⟩ := h
    have gC := I.g
    refine ⟨_, (pss_cons (ps_if (pt_val (pe_callB (id := "isinstance") (r := rIsi K) call_isi (by rfl) T.n_isinstance (by decide +kernel) (pa_cons (pv 0) (pa_cons (C8.pe_gc rfl gC) pa_nil))))
        (pss_one (ps_ret (pe_tup (pa_cons pe_str (pa_cons (pe_fld (pv 0) rfl) (pa_cons (pe_cal c__law_plainly hr (by omega) (by rfl) (pa_cons (pe_fld (pv 0) rfl) pa_nil)) pa_nil))))))
        pss_nil)
      (pss_cons (ps_if (pt_val (pe_callB (id := "isinstance") (r := rIsi K) call_isi (by rfl) T.n_isinstance (by decide +kernel) (pa_cons (pv 0) (pa_cons (pe_bltn (v := .ty "tuple") rfl T.n_tuple (by decide +kernel) rfl) pa_nil))))
        (pss_one (ps_ret (pe_callTy (T := "tuple") (r := rTupOf K) cr_tupK (by rfl) T.n_tuple (by decide +kernel) (pa_cons (pe_lc (own := [("_law_one", 1)]) rfl sc__law_plainly.nd (pi_tup (pv 0)) (blkOk_by (N := N__law_plainly) (sc := defScope s__law_plainly) (by decide +kernel)) (fun _ _ _ _ _ => (pg_name (i := 1) sc__law_plainly.nd rfl (.inl rfl))) (fun _ _ _ _ _ => pts_nil) (fun _ _ _ _ _ => (pe_cal c__law_plainly hr (by omega) (by rfl) (pa_cons (pv 1) pa_nil)))) pa_nil))))
        pss_nil)
      (pss_one (ps_ret (pv 0))))), ?_⟩
    cases ht with
    | non =>
      refine ⟨_, rfl, .non, .ref CC, .type "NoneType", .ref CC, false, rfl, .own CC, .base .non, I.kN, false, rfl, iteF ?_⟩
      refine ⟨_, rfl, .non, .ty "tuple", .type "NoneType", .type "tuple", false, rfl, .ty "tuple", .base .non, kit_ty (by decide +kernel), false, rfl, iteF ?_⟩
      exact ⟨_, rfl, q H _ (Same.refl _) (.non : Td K H .non .none)⟩
    | bl b =>
      refine ⟨_, rfl, .bl b, .ref CC, .type "bool", .ref CC, false, rfl, .own CC, .base (.bl b), I.kB, false, rfl, iteF ?_⟩
      refine ⟨_, rfl, .bl b, .ty "tuple", .type "bool", .type "tuple", false, rfl, .ty "tuple", .base (.bl b), kit_ty (by decide +kernel), false, rfl, iteF ?_⟩
      exact ⟨_, rfl, q H _ (Same.refl _) (.bl b : Td K H (.bl b) (.bool b))⟩
    | int b =>
      refine ⟨_, rfl, .int b, .ref CC, .type "int", .ref CC, false, rfl, .own CC, .base (.int b), I.kI, false, rfl, iteF ?_⟩
      refine ⟨_, rfl, .int b, .ty "tuple", .type "int", .type "tuple", false, rfl, .ty "tuple", .base (.int b), kit_ty (by decide +kernel), false, rfl, iteF ?_⟩
      exact ⟨_, rfl, q H _ (Same.refl _) (.int b : Td K H (.int b) (.int b))⟩
    | str b =>
      refine ⟨_, rfl, .str b, .ref CC, .type "str", .ref CC, false, rfl, .own CC, .base (.str b), I.kS, false, rfl, iteF ?_⟩
      refine ⟨_, rfl, .str b, .ty "tuple", .type "str", .type "tuple", false, rfl, .ty "tuple", .base (.str b), kit_ty (by decide +kernel), false, rfl, iteF ?_⟩
      exact ⟨_, rfl, q H _ (Same.refl _) (.str b : Td K H (.str b) (.str b))⟩
    | @tup p xs ds hp hxs =>
      have hsn : ds.length ≤ 100 ∧ ∀ e ∈ ds, Sc n e := by
        rcases hs with h | ⟨ds', e, h1, h2⟩ | ⟨w, c, e, h⟩
        · exact h.elim
        · cases e
          exact ⟨h1, h2⟩
        · cases e
      have hxl := hxs.len
      refine ⟨_, rfl, .ref p, .ref CC, .type "tuple", .ref CC, false, rfl, .own CC, SqT.ty hp, I.kT, false, rfl, iteF ?_⟩
      refine ⟨_, rfl, .ref p, .ty "tuple", .type "tuple", .type "tuple", true, rfl, .ty "tuple", SqT.ty hp, kit_ty (by decide +kernel), true, rfl, iteT ?_⟩
      refine ⟨_, rfl, p, rfl, ⟨_, hp⟩, fun D hD => ?_⟩
      refine lc_it (walk_tup (K := K) (a := p) (xs := xs)) (fun i H' => Same H H' ∧ ∃ acc, H' D = some (.lst acc) ∧ Tds K H' acc (plainlyL (ds.take i)) ∧ acc.length = i) ⟨same_upd hD, [], upd_same, .nil, rfl⟩ (fun i H' _ h => KeepT.same h.1 _ _ hp) ?_ ?_
      · rintro i x H2 H3 hi ⟨s2, acc, hD2, hacc, hal⟩ ⟨rfl, hv⟩
        obtain ⟨d, hd, htd⟩ := Tcs.at_ hxs hv
        refine ⟨rfl, _, rfl, x, d, rfl, htd.keep (KeepC.same s2), hsn.2 d (List.mem_of_getElem? hd), fun H4 u s4 hu => ?_⟩
        have hD4 := s4 _ _ hD2
        have kl := keepT_lst (K := K) (ys := acc ++ [u]) hD4
        refine ⟨acc, hD4, by rw [hal, sizeLine_eq]; omega, same_new (s2.trans s4) hD, _, upd_same, ?_, by rw [List.length_append, hal]; rfl⟩
        rw [List.take_add_one, hd]
        show Tds K _ (acc ++ [u]) (plainlyL (ds.take i ++ [d]))
        rw [plainlyL_snoc]
        exact Tds.append ((hacc.keep (KeepT.same s4)).keep kl) (.cons (hu.keep kl) .nil)
      · rintro H2 ⟨s2, acc, hD2, hacc, hal⟩
        rw [List.take_of_length_le (by omega)] at hacc
        refine ⟨D, _, rfl, .inl ⟨SqL.of hD2, fun t ht => ?_⟩⟩
        refine q _ (.ref t) (s2.trans (same_upd ht)) ?_
        rw [plainly]
        exact .tup (SqT.of upd_same) (hacc.keep (KeepT.same (same_upd ht)))
    | @cas a dx z u c ha hu =>
      have hsn : Sc n c := by
        rcases hs with h | ⟨ds', e, h1, h2⟩ | ⟨w, c', e, h⟩
        · exact h.elim
        · cases e
        · unfold caseP at e
          injection e with e
          injection e with e1 e2
          injection e2 with e2
          subst e2
          exact h
      refine ⟨_, rfl, .ref a, .ref CC, .ref CC, .ref CC, true, rfl, .own CC, I.ty ha, kit_me, true, rfl, iteT ?_⟩
      refine ⟨_, rfl, a, CC, dx, _, _, rfl, ha, I.c.cl, I.c.nW, caF_w, ?_⟩
      refine ⟨_, rfl, a, CC, dx, _, _, rfl, ha, I.c.cl, I.c.nC, caF_c, u, c, rfl, hu, hsn, fun H2 v s2 hv => ⟨by show 3 ≤ sizeLine; decide, fun t ht => ?_⟩⟩
      refine q _ (.ref t) (s2.trans (same_upd ht)) ?_
      rw [plainly_case]
      exact .tup (SqT.of upd_same) (.cons (.str _) (.cons (.str _) (.cons (hv.keep (KeepT.same (same_upd ht))) .nil)))
theorem ok_plainly {CC f : Addr} {fd : FuncData} (F : Fun K "_law_plainly" "_law_plainly" s__law_plainly f fd) (T : Bu mg) (I : CaI K mg CC) (hm : mg "_law_plainly" = some (.ref f)) (kp : PySem.W.keepIn K (.ref f) = true) (b : Binds K fd ["_law_thing_here"] []) : ∀ n, FnOk P w K mg base CX0 (1 + n) f fd ["_law_thing_here"] (spPlain K CC n)
  | 0 => (show FnOk P w K mg base CX0 (0 + 1) f fd ["_law_thing_here"] (spPlain K CC 0) from F.ok sc__law_plainly (fun vs H Q E h => by
      obtain ⟨_, _, _, _, h, _⟩ := h
      exact h.elim) (fun cdv A outer s H vs Q E hr h => by
      obtain ⟨_, _, _, _, h, _⟩ := h
      exact h.elim))
  | n + 1 => (ok_plainly_step F T I ⟨f, fd, ok_plainly F T I hm kp b n, hm, kp, b⟩).mono (by omega)
end
end K22
/-! TgL: is a list empty, asked by == []. -/
namespace Tw
open PySem PySem.Spec PyProof.Rows L2
def rEq0 : R2 := fun x y H Q => ∃ (a b : Addr) (xs : List V), x = .ref a ∧ y = .ref b ∧ H a = some (.lst xs) ∧ H b = some (.lst []) ∧ Q (.bl xs.isEmpty) H
theorem op_eq0 {X : Cx} (hu : X.A.units + 64 < cLine) : OpR X (compareOp .Eq) rEq0 := by
  intro pins s σ H x y v u Q I rx ry h
  obtain ⟨a, b, xs, rfl, rfl, ha, hb, q⟩ := h
  cases xs with
  | nil => exact op_eqD hu pins s σ H _ _ v u Q I rx ry ⟨.list [], .list [], .lst (SqL.of ha) .nil, .lst (SqL.of hb) .nil, by decide +kernel, by decide +kernel, q⟩
  | cons z r =>
    cases rx
    cases ry
    obtain ⟨_, its, n, r1, hl, e1⟩ := I.lstM ha
    obtain ⟨_, its2, n2, r2, hl2, e2⟩ := I.lstM hb
    have e0 : its2 = [] := List.eq_nil_of_length_eq_zero hl2.symm
    subst e0
    exact SeqAt.RcAt.lists_lengths ⟨_, e1, rfl, n, rfl⟩ ⟨_, e2, rfl, n2, rfl⟩ (bne_iff_ne.mpr (by
      rw [List.size_toArray, ← hl]
      exact fun w => nomatch w)) (by omega) _ _ _ _ ⟨.bl false, H, I, rfl, q⟩
/-- x.f where the block's own context must not be told -/
theorem pe_fldK (Kk : PySem.W.Frag) {X : Cx} {e : Expr} {ta : TE} {f : Str} {pos : Pos} (he : PE X e ta) (hb : attributeBase e f X.env (eval e X.env) = eval e X.env) (hK : X.K = Kk := by rfl) : PE X (.Attribute e f pos) (tFld Kk ta f) := by
  subst hK
  exact pe_fld he hb
end Tw
/-! TwTry: several except clauses, some of them with a name. -/
namespace Tw
open PySem PySem.Spec PyProof.Rows L2 Sb
abbrev Wish := Ends → WX
/-- the clauses, each with its class and its wish -/
def wMix (K : PySem.W.Frag) (Wout : WX) (D : Ends) (l : List (Value × Wish)) : WX :=
  l.foldr (fun y r cls d σ H => ∃ b, PySem.W.exmOne K cls y.1 = some b ∧ (b = true → y.2 D cls d σ H) ∧ (b = false → r cls d σ H)) Wout
/-- a suite's wish, where no name is bound -/
def wBare (ts : Addr → Value → Option Addr → TS) : Wish := fun D cls d σ H => ∀ a, H a = none → ts a cls d D σ H
/-- what ends behind the suite whose name's slot is i -/
def gone (D : Ends) (i : Nat) : Ends := { nx := fun σ H => D.nx (σ.set i none) H, rt := D.rt, bk := fun σ H => D.bk (σ.set i none) H, ct := fun σ H => D.ct (σ.set i none) H }
def wNamed (i : Nat) (ts : Addr → Value → Option Addr → TS) : Wish := fun D cls d σ H => ∀ a, H a = none → ts a cls d (gone D i) (σ.set i (some (.ref a))) H
abbrev SuiteOk (X : Cx) (suite : List Stmt) (ts : Addr → Value → Option Addr → TS) : Prop :=
  ∀ (a : Addr) (oe : Obj) (cls : Value) (d : Option Addr) (pn : List (Addr × Obj)), Zc cls d oe → (∃ vs, oe.data = .fields vs) → PSs (X.suite a ((a, oe) :: pn)) suite (ts a cls d)
inductive Mix (X : Cx) : List ExceptHandler → List (Value × Wish) → Prop
  | nil : Mix X [] []
  | bare {x : Str} {c : Value} {ts : Addr → Value → Option Addr → TS} {b₀ : Stmt} {bs : List Stmt} {p1 p2 : Pos} {hs : List ExceptHandler} {l : List (Value × Wish)} (hc : Names X x c) (hsu : SuiteOk X (b₀ :: bs) ts) (r : Mix X hs l) :
      Mix X (.ExceptHandler (some (.Name x p1)) none (b₀ :: bs) p2 :: hs) ((c, wBare ts) :: l)
  | named {x n : Str} {i : Nat} {c : Value} {ts : Addr → Value → Option Addr → TS} {b₀ : Stmt} {bs : List Stmt} {p1 p2 : Pos} {hs : List ExceptHandler} {l : List (Value × Wish)} (hi : X.N[i]? = some n) (hn : X.env.kindOf n = some .local) (hc : Names X x c) (hsu : SuiteOk X (b₀ :: bs) ts) (r : Mix X hs l) :
      Mix X (.ExceptHandler (some (.Name x p1)) (some n) (b₀ :: bs) p2 :: hs) ((c, wNamed i ts) :: l)
section
variable {X : Cx} {pins : List (Addr × Obj)} {σ : L2.St} {H : Hp} {a : Addr} {B : Heap} {sI s : Shared} {cls : Value} {d : Option Addr}
/-- the error at a, raised where slots and heap were σ and H, has landed in the try's own frame -/
structure Landed (X : Cx) (pins : List (Addr × Obj)) (σ : L2.St) (H : Hp) (a : Addr) (B : Heap) (sI : Shared) (cls : Value) (d : Option Addr) (s : Shared) : Prop where
  inv : Inv X pins σ H sI
  kept : ∀ b o, sI.heap.get? b = some o → b ∉ frs X.stack → B.get? b = some o
  up : sI.heap.UpToSlots s.heap
  fly : HandSPX.FlyingZ B (X.env :: X.outer) a (Zc cls d) s.heap
  new : H a = none
  os : s.os = sI.os
  bare : AllBare s.gens
/-- the error's object is no frame -/
theorem Landed.far (L : Landed X pins σ H a B sI cls d s) (hf : X.env.frame = some X.env.locals) : a ≠ X.env.locals ∧ a ∉ X.fs := by
  obtain ⟨o, _, e, _, dt⟩ := L.fly.there
  have no : ∀ E ∈ X.env :: X.outer, E.frame ≠ some a := fun E m z => by
    obtain ⟨_, o', e', n⟩ := Heap.FunFrames.mem L.fly.2.2.1 (List.mem_filterMap.mpr ⟨E, m, z⟩)
    cases e.symm.trans e'
    exact n _ dt
  exact ⟨fun z => no X.env List.mem_cons_self (z ▸ hf), fun m => let ⟨E, m, z⟩ := List.mem_filterMap.mp m; no E (List.mem_cons_of_mem _ m) z⟩
theorem Landed.here (L : Landed X pins σ H a B sI cls d s) : Inv X pins σ H s := L.inv.landed L.kept L.fly.1 L.up L.os L.bare
/-- .. and what a suite starts with -/
theorem Landed.suite (L : Landed X pins σ H a B sI cls d s) (hf : X.env.frame = some X.env.locals) : ∃ oe, s.heap.get? a = some oe ∧ Zc cls d oe ∧ (∃ vs, oe.data = .fields vs) ∧ Inv (X.suite a ((a, oe) :: (X.pn ++ pins))) [] σ H s :=
  let ⟨oe, _, e, z, dt⟩ := L.fly.there
  ⟨oe, e, z, ⟨_, dt⟩, L.here.suite e dt L.new (L.far hf).1 (L.far hf).2⟩
/-- the marks are set anew -/
theorem Landed.again (L : Landed X pins σ H a B sI cls d s) {A : Around} {Q : Unit → Shared → Prop} {E : Value → Shared → Prop} (k : ∀ s4, Landed X pins σ H a B sI cls d s4 → Q () s4) : wpAny (model X.prog X.w) A (setFlight (.ref a) none) Q E s :=
  HandSPX.lands_againZ L.fly fun h f u => k { s with heap := h } ⟨L.inv, L.kept, L.up.trans u, f, L.new, L.os, L.bare⟩
/-- is it one of the class that x names? -/
theorem Landed.asked (L : Landed X pins σ H a B sI cls d s) (hf : X.env.frame = some X.env.locals) {x : Str} {c : Value} {b : Bool} {p : Pos} {A : Around} {Q : Bool → Shared → Prop} {E E' : Value → Shared → Prop} (hc : Names X x c) (hb : PySem.W.exmOne X.K cls c = some b) (q : Q b s) :
    wpAny (model X.prog X.w) (X.A.mark (some (.ref a))) (eval (.Name x p) X.env) (fun u s1 => wpAny (model X.prog X.w) A (excMatches (.ref a) u) Q E' s1) E s := by
  obtain ⟨oe, e, z, _, S⟩ := L.suite hf
  have ty : PySem.W.Looks (model X.prog X.w) s.heap (typeOf (.ref a)) cls := fun _ _ _ s1 k r => wpAny_typeOf_ref (k a oe e) (z.1 ▸ r)
  have r : wpAny (model X.prog X.w) A (excMatches (.ref a) c) Q E' s := (PySem.W.exm_one (M := model X.prog X.w) L.here.kIn ty hb).here q
  obtain ⟨g, nd, m | ⟨m, v, n⟩⟩ := hc
  · exact ld_glob (X := X.suite a ((a, oe) :: (X.pn ++ pins))) S g m r nd
  · exact ld_blt (X := X.suite a ((a, oe) :: (X.pn ++ pins))) S g m v r n nd
/-- no clause is left: it is raised out -/
theorem Landed.out {Wout : WX} {Q : Flow → Shared → Prop} (L : Landed X pins σ H a B sI cls d s) (hs : X.stack = X.env :: X.outer) (hf : X.env.frame = some X.env.locals) (tk : Takes X Wout) (w : Wout cls d σ H) : wpAny (model X.prog X.w) X.A (handleBy (.ref a) X.env []) Q X.xe s := by
  have fly : wpAny (model X.prog X.w) X.A (setFlight (.ref a) X.env.frame) (fun _ s4 => wpAny (model X.prog X.w) X.A (throw (.ref a) : Sem Flow) Q X.xe s4) X.xe s := hf ▸ HandSPX.setFlight_upZ L.fly fun h k u => wpAny_throw (tk _ _
    ⟨a, B, sI, pins, σ, H, cls, d, rfl, L.inv, L.kept, L.up.trans u, Or.inr (Or.inr (hs ▸ k)), L.new, L.os, L.bare, w⟩)
  apply wpAny_handleBy_nil
  unfold PySem.passOn
  obtain ⟨_, _, _, oe, vs, T, _, _, e, _, dt, cl, _⟩ := id L.fly
  refine wpAny_bind (wpAny_field e dt cl ?_)
  have nn : ¬ (Value.ref T == Value.none) = true := by simp
  rw [if_neg nn]
  first | exact wpAny_bind (wpAny_pure (wpAny_bind fly)) | exact wpAny_bind fly
/-- a suite's end, told of the def around -/
theorem unsuited {D : Ends} (ok : X.Ok) {oe : Obj} : ∀ {f : Flow}, SP (X.suite a ((a, oe) :: (X.pn ++ pins))) [] D f s → SP X pins D f s
  | .next, ⟨_, _, S, q⟩ => ⟨_, _, S.unsuite ok, q⟩
  | .brk, ⟨_, _, S, q⟩ => ⟨_, _, S.unsuite ok, q⟩
  | .cont, ⟨_, _, S, q⟩ => ⟨_, _, S.unsuite ok, q⟩
  | .ret _, ⟨_, _, _, S, r, q⟩ => ⟨_, _, _, S.unsuite ok, r, q⟩
/-- .. whose name goes -/
theorem unnamed {D : Ends} {i : Nat} {n : Str} {p : Pos} (hN : X.N.Nodup) (hi : X.N[i]? = some n) (hn : X.env.kindOf n = some .local) : ∀ {f : Flow}, SP X pins (gone D i) f s → wpAny (model X.prog X.w) X.A (do bindName X.env n .none; unbindBehindTheSuite X.env n p) (fun _ s7 => SP X pins D f s7) X.xe s
  | .next, ⟨_, _, J, q⟩ => gone_ok J hN hi hn fun _ J7 => ⟨_, _, J7, q⟩
  | .brk, ⟨_, _, J, q⟩ => gone_ok J hN hi hn fun _ J7 => ⟨_, _, J7, q⟩
  | .cont, ⟨_, _, J, q⟩ => gone_ok J hN hi hn fun _ J7 => ⟨_, _, J7, q⟩
  | .ret _, ⟨_, _, _, J, r, q⟩ => gone_ok J hN hi hn fun _ J7 => ⟨_, _, _, J7, r, q⟩
theorem untried {D : Ends} {xe : Value → Shared → Prop} (ok : X.Ok) : ∀ {f : Flow}, SP (X.tr (X.pn ++ pins) xe) [] D f s → SP X pins D f s
  | .next, ⟨_, _, J, q⟩ => ⟨_, _, J.ofTry ok, q⟩
  | .brk, ⟨_, _, J, q⟩ => ⟨_, _, J.ofTry ok, q⟩
  | .cont, ⟨_, _, J, q⟩ => ⟨_, _, J.ofTry ok, q⟩
  | .ret _, ⟨_, _, _, J, r, q⟩ => ⟨_, _, _, J.ofTry ok, r, q⟩
/-- the clauses, one after the other -/
theorem mix_go {Wout : WX} {D : Ends} (hs : X.stack = X.env :: X.outer) (hf : X.env.frame = some X.env.locals) (hN : X.N.Nodup) (tk : Takes X Wout) (L : Landed X pins σ H a B sI cls d s) {hds : List ExceptHandler} {l : List (Value × Wish)} (hh : Mix X hds l) :
    wMix X.K Wout D l cls d σ H → wpAny (model X.prog X.w) X.A (handleBy (.ref a) X.env hds) (SP X pins D) X.xe s := by
  have ok := L.inv.ok
  induction hh with
  | nil => exact L.out hs hf tk
  | bare hc hsu r ih =>
    rintro ⟨b, hb, yes, no⟩
    apply wpAny_handleBy_cons (codeAny_handlers_test (L.asked hf hc hb ?_)) (fun z => nomatch z)
    cases b with
    | false => exact ih (no rfl)
    | true => exact codeAny_handlers_suite (L.again fun s4 L4 => let ⟨oe, _, z, dt, S⟩ := L4.suite hf
        wpAny_mono ((hsu a oe cls d (X.pn ++ pins) z dt).run [] s4 σ H _ S (yes rfl a L.new)) (fun _ _ q => unsuited ok q) fun _ _ x => x.elim)
  | named hi hn hc hsu r ih =>
    rintro ⟨b, hb, yes, no⟩
    apply wpAny_handleBy_cons (codeAny_handlers_test (L.asked hf hc hb ?_)) (fun z => nomatch z)
    cases b with
    | false => exact ih (no rfl)
    | true => exact codeAny_handlers_suite_as (L.again fun s4 L4 => let ⟨oe, _, z, dt, S⟩ := L4.suite hf
        store_ok (X := X.suite a ((a, oe) :: (X.pn ++ pins))) (v := .ref a) S hN hi (.inl hn) rfl (fun s5 S5 =>
          wpAny_mono ((hsu a oe cls d (X.pn ++ pins) z dt).run [] s5 _ H _ S5 (yes rfl a L.new)) (fun _ _ q => unnamed hN hi hn (unsuited ok q)) fun _ _ x => x.elim) (.inr hn))
end
/-- try: body, and clauses of any kind -/
theorem ps_try_mix {X : Cx} {body : List Stmt} {h₀ : ExceptHandler} {hds : List ExceptHandler} {l : List (Value × Wish)} {pos : Pos} {tb : WX → TS} {Wout : WX} (hs : X.stack = X.env :: X.outer) (hf : X.env.frame = some X.env.locals) (hN : X.N.Nodup) (tk : Takes X Wout)
    (hb : ∀ (W : WX) (pn : List (Addr × Obj)) (xe : Value → Shared → Prop), Takes (X.tr pn xe) W → PassesOwn (model X.prog X.w) X.A X.env xe → PSs (X.tr pn xe) body (tb W)) (hh : Mix X (h₀ :: hds) l) :
    PS X (.Try body (h₀ :: hds) [] [] pos) (fun D σ H => tb (wMix X.K Wout D l) D σ H) := by
  constructor
  intro pins s0 σ H D I h
  apply wpAny_Try_except
  apply wpAny_mono ((hb (wMix X.K Wout D l) (X.pn ++ pins) _ ?_ PassesOwn.looking).run [] s0 σ H D (I.toTry _) h) (fun f s1 q => ?_) fun _ _ x => x
  · rintro _ s' ⟨a, B, sI, _, σ', H', cls, d, rfl, J, nb, up, sky, na, os, ag, w⟩
    have sky : Sky B (X.env :: X.outer) a (Zc cls d) X.env.locals s'.heap := by rw [← hs]; exact sky
    exact Sky.land Zc.steady (I.ok.frames.trans (congrArg some hs)) hf sky fun h3 f3 u3 => mix_go (s := { s' with heap := h3 }) hs hf hN tk ⟨J.ofTry I.ok, nb, up.trans u3, f3, na, os, ag⟩ hh w
  · cases f with
    | next => exact let ⟨_, _, J, r⟩ := q; wpAny_execs_nil ⟨_, _, J.ofTry I.ok, r⟩
    | brk => exact untried (f := .brk) I.ok q
    | cont => exact untried (f := .cont) I.ok q
    | ret u => exact untried (f := .ret u) I.ok q
end Tw
set_option maxHeartbeats 2000000
namespace K22
open PySem PySem.Spec PyProof.Rows L2 Tw Sb LamX
def rsC : Rs → PyData
  | .told d => .tuple [.str "told", plainly d]
  | .ref rp w => .tuple [.str "refused", .tuple rp.reverse, .str w]
/-- both schemas' choices as the law has them -/
structure Wld (K : PySem.W.Frag) (H : Hp) (wl : Addr) (to tn : List TRow) : Prop where
  ex : ∃ (d1 d2 : Addr) (kv1 kv2 : List (Key × V)), SqT K H wl [.ref d1, .ref d2] ∧ H d1 = some (.dK kv1) ∧ H d2 = some (.dK kv2) ∧ Paired (RowO K (fun _ => True) H) kv1 to ∧ Paired (RowO K (fun _ => True) H) kv2 tn
theorem Wld.same {K : PySem.W.Frag} {H H' : Hp} {wl : Addr} {to tn : List TRow} (h : Wld K H wl to tn) (s : Same H H') : Wld K H' wl to tn := by
  obtain ⟨d1, d2, kv1, kv2, h1, h2, h3, h4, h5⟩ := h
  have k := KeepT.same (K := K) s
  exact ⟨d1, d2, kv1, kv2, k _ _ h1, s _ _ h2, s _ _ h3, pd_mono (fun _ _ g => RowO.keep (fun b xs _ e => s _ _ e) k g) h4, pd_mono (fun _ _ g => RowO.keep (fun b xs _ e => s _ _ e) k g) h5⟩
def Bnd (tn : List TRow) : Prop := ∀ c, ∀ e ∈ chT tn c, ∀ s, e.of = some s → So.bnd s
def spDue (K : PySem.W.Frag) (CC : Addr) (n : Nat) : Sp := fun vs H Q _ => ∃ (wl : Addr) (x1 x2 x3 x4 : V) (o z : So) (d : PyData) (rp : List PyData) (to tn : List TRow), vs = [.ref wl, x1, x2, x3, x4] ∧ Wld K H wl to tn ∧ ChOk to ∧ ChOk tn ∧ Td K H x1 (.tuple rp.reverse) ∧ rp.length + 3 * n ≤ 1000 ∧ Td K H x2 o.pd ∧ Td K H x3 z.pd ∧ Tc K CC H x4 d ∧ o.okc ∧ z.ok [] (tn.map Prod.fst) false ∧ So.bnd z ∧ Bnd tn ∧ ThC (chT to) o d ∧ Sc n d ∧ n ≤ 100 ∧
  ∀ (H' : Hp) (u : V), Same H H' → Td K H' u (rsC (dueC (chT to) (chT tn) o z rp d)) → Q u H'
def spCaseL (K : PySem.W.Frag) (CC : Addr) (n : Nat) : Sp := fun vs H Q _ => ∃ (wl : Addr) (x1 x4 : V) (c1 c2 w : Str) (c : PyData) (rp : List PyData) (to tn : List TRow), vs = [.ref wl, x1, .str c1, .str c2, x4] ∧ Wld K H wl to tn ∧ ChOk to ∧ ChOk tn ∧ Td K H x1 (.tuple rp.reverse) ∧ rp.length + 3 * n ≤ 999 ∧ Tc K CC H x4 (caseP w c) ∧ c1 ∈ to.map Prod.fst ∧ c2 ∈ tn.map Prod.fst ∧ Bnd tn ∧ ThC (chT to) (.cho c1) (caseP w c) ∧ Sc n c ∧ n ≤ 100 ∧
  ∀ (H' : Hp) (u : V), Same H H' → Td K H' u (rsC (dueC (chT to) (chT tn) (.cho c1) (.cho c2) rp (caseP w c))) → Q u H'
section
variable {P : Program} {w : World} {K : PySem.W.Frag} {mg : Str → Option Value} {base : Heap}
theorem filter_next {α : Type} {p : α → Bool} {es : List α} {i : Nat} {e : α} (h : es[i]? = some e) : (es.take (i + 1)).filter p = (es.take i).filter p ++ (if p e = true then [e] else []) := by
  rw [List.take_add_one, h]
  show (es.take i ++ [e]).filter p = _
  rw [List.filter_append, List.filter_cons, List.filter_nil]
theorem filter_head {α : Type} {p : α → Bool} : ∀ {es : List α}, (es.filter p).head? = es.find? p
  | [] => rfl
  | e :: r => by
    rw [List.filter_cons, List.find?_cons]
    cases p e with
    | true => rfl
    | false => exact filter_head
theorem ok_case_step {n : Nat} {CC f : Addr} {fd : FuncData} (F : Fun K "_law_case" "_law_case" s__law_case f fd) (T : Bu mg) (I : CaI K mg CC) (c__law_due : Cal P w K mg base (1 + 2 * n) "_law_due" ["_law_world", "_law_path", "_law_old", "_law_new", "_law_thing_here"] (spDue K CC n)) :
    FnOk P w K mg base CX0 (2 + 2 * n) f fd ["_law_world", "_law_path", "_law_old", "_law_new", "_law_thing_here"] (spCaseL K CC n) := by
  refine (show FnOk P w K mg base CX0 ((1 + 2 * n) + 1) f fd ["_law_world", "_law_path", "_law_old", "_law_new", "_law_thing_here"] (spCaseL K CC n) from F.ok sc__law_case (fun vs H Q E h => ?_) (fun cdv A outer s H vs Q E hr h => ?_)).mono (by omega)
  · obtain ⟨wl, x1, x4, c1, c2, w, c, rp, to, tn, rfl, _⟩ := h
    rfl
  · obtain ⟨wl, x1, x4, c1, c2, w, c, rp, to, tn, rfl, hW, oko, okn, h1, hl, h4, hc1, hc2, hbd, hth, hsc, hn, q⟩ := h
    have hu := hu_of hr
    have cl := I.c
    refine ⟨_, (pss_cons (ps_set (i := 5) sc__law_case.nd rfl (.inr rfl) (pe_ix (r := rIxL K) ix_list (pe_lc (own := [("_law_case_here", 11)]) rfl sc__law_case.nd (pi_list (pe_dget hu (pe_ix (r := rIxT K) ix_tup (pv 0) pe_int (fun _ _ => rfl)) (pv 2) (fun _ _ => rfl))) (blkOk_by (N := N__law_case) (sc := defScope s__law_case) (by decide +kernel)) (fun _ _ _ _ _ => (pg_name (i := 11) sc__law_case.nd rfl (.inl rfl))) (fun _ _ _ _ _ => (pts_one (pt_cmpR op_eq (pe_ix (r := rIxT K) ix_tup (pv 11) pe_int (fun _ _ => rfl)) (pe_fldK K (pv 4) rfl) (nomark _)))) (fun _ _ _ _ _ => (pv 11))) pe_int (fun _ _ => rfl)))
      (pss_cons (ps_setLc (i := 6) (own := [("_law_case_here", 11)]) rfl sc__law_case.nd rfl rfl (sw_true rfl rfl rfl (by decide +kernel)) (pi_list (pe_dget hu (pe_ix (r := rIxT K) ix_tup (pv 0) pe_int (fun _ _ => rfl)) (pv 3) (fun _ _ => rfl))) (blkOk_by (N := N__law_case) (sc := defScope s__law_case) (by decide +kernel)) (fun _ _ _ _ _ => (pg_name (i := 11) sc__law_case.nd rfl (.inl rfl))) (fun _ _ _ _ _ => (pts_one (pt_cmpR op_eq (pe_ix (r := rIxT K) ix_tup (pv 11) pe_int (fun _ _ => rfl)) (pe_ix (r := rIxT K) ix_tup (pv 5) pe_int (fun _ _ => rfl)) (nomark _)))) (fun _ _ _ _ _ => (pv 11)))
      (pss_cons (ps_if (pt_cmpR (op_eq0 hr.units) (pv 6) (pe_lst pa_nil) (nomark _))
        (pss_cons (ps_setLc (i := 6) (own := [("_law_case_here", 11)]) rfl sc__law_case.nd rfl rfl (sw_true rfl rfl rfl (by decide +kernel)) (pi_list (pe_dget hu (pe_ix (r := rIxT K) ix_tup (pv 0) pe_int (fun _ _ => rfl)) (pv 3) (fun _ _ => rfl))) (blkOk_by (N := N__law_case) (sc := defScope s__law_case) (by decide +kernel)) (fun _ _ _ _ _ => (pg_name (i := 11) sc__law_case.nd rfl (.inl rfl))) (fun _ _ _ _ _ => (pts_one (pt_cmpR op_eq (pe_ix (r := rIxT K) ix_tup (pv 11) pe_int (fun _ _ => rfl)) pe_int (nomark _)))) (fun _ _ _ _ _ => (pv 11)))
        (pss_one (ps_ret (pe_ifExp (pt_cmpR (op_eq0 hr.units) (pv 6) (pe_lst pa_nil) (nomark _)) (pe_tup (pa_cons pe_str (pa_cons (pv 1) (pa_cons pe_str pa_nil)))) (pe_tup (pa_cons pe_str (pa_cons (pe_tup (pa_cons pe_str (pa_cons (pe_ix (r := rIxT K) ix_tup (pe_ix (r := rIxL K) ix_list (pv 6) pe_int (fun _ _ => rfl)) pe_int (fun _ _ => rfl)) (pa_cons pe_non pa_nil)))) pa_nil)))))))
        pss_nil)
      (pss_cons (ps_asg (pe_ix (r := rIxL K) ix_list (pv 6) pe_int (fun _ _ => rfl)) (pg_tup rfl (pgs_cons (pg_name (i := 7) sc__law_case.nd rfl (.inl rfl)) (pgs_cons (pg_name (i := 8) sc__law_case.nd rfl (.inl rfl)) (pgs_cons (pg_name (i := 9) sc__law_case.nd rfl (.inl rfl)) pgs_nil)))))
      (pss_cons (ps_if (pt_cmpR op_isN (pv 9) pe_non (nomark _))
        (pss_one (ps_ret (pe_tup (pa_cons pe_str (pa_cons (pe_tup (pa_cons pe_str (pa_cons (pv 8) (pa_cons pe_non pa_nil)))) pa_nil)))))
        pss_nil)
      (pss_cons (ps_if (pt_cmpR op_isN (pe_ix (r := rIxT K) ix_tup (pv 5) pe_int (fun _ _ => rfl)) pe_non (nomark _))
        (pss_one (ps_ret (pe_tup (pa_cons pe_str (pa_cons (pv 1) (pa_cons pe_str pa_nil))))))
        pss_nil)
      (pss_cons (ps_set (i := 10) sc__law_case.nd rfl (.inl rfl) (pe_cal c__law_due hr (by omega) (by rfl) (pa_cons (pv 0) (pa_cons (pe_op op_catP (pv 1) (pe_tup (pa_cons (pe_tup (pa_cons pe_str (pa_cons (pv 8) pa_nil))) pa_nil))) (pa_cons (pe_ix (r := rIxT K) ix_tup (pv 5) pe_int (fun _ _ => rfl)) (pa_cons (pv 9) (pa_cons (pe_fld (pv 4) rfl) pa_nil)))))))
      (pss_one (ps_ret (pe_ifExp (pt_cmpR op_eq (pe_ix (r := rIxT K) ix_tup (pv 10) pe_int (fun _ _ => rfl)) pe_str (nomark _)) (pv 10) (pe_tup (pa_cons pe_str (pa_cons (pe_tup (pa_cons pe_str (pa_cons (pv 8) (pa_cons (pe_ix (r := rIxT K) ix_tup (pv 10) pe_int (fun _ _ => rfl)) pa_nil)))) pa_nil))))))))))))), ?_⟩
    obtain ⟨a, dx, u, rfl, ha, hu4⟩ := h4.case
    obtain ⟨d1, d2, kv1, kv2, hwl, hd1, hd2, hk1, hk2⟩ := id hW
    obtain ⟨r1, hr1, rfl, e1, ok1⟩ := oko.row hc1
    obtain ⟨r2, hr2, rfl, e2, ok2⟩ := okn.row hc2
    obtain ⟨b1, xs1, v1, _, hb1, hx1⟩ := valO hk1 oko.n hr1
    obtain ⟨b2, xs2, v2, _, hb2, hx2⟩ := valO hk2 okn.n hr2
    obtain ⟨w0, c0, e, ew, he, hof⟩ := ThC.cho hth
    obtain ⟨rfl, rfl⟩ : w = w0 ∧ c = c0 := by
      unfold caseP at ew
      injection ew with ew
      injection ew with e3 e4
      injection e3 with e3
      injection e4 with e4
      exact ⟨e3, e4⟩
    rw [e1] at he
    refine ⟨_, rfl, wl, _, 0, _, rfl, rfl, hwl, at0, _, rfl, d1, _, rfl, .inl ⟨kv1, .inr r1.1, .inl hd1, rfl, v1.symm⟩, ?_⟩
    refine ⟨b1, rfl, ⟨_, SqL.of hb1⟩, fun D hD => ?_⟩
    have n1 : xs1.length ≤ 100 := by
      have h := hx1.len
      rw [List.length_map] at h
      have h2 := (oko.t r1 hr1).2.2.1
      omega
    have n2 : xs2.length ≤ 100 := by
      have h := hx2.len
      rw [List.length_map] at h
      have h2 := (okn.t r2 hr2).2.2.1
      omega
    refine lc_it (walk_list (K := K) (a := b1) (xs := xs1)) (fun i H' => Same H H' ∧ ∃ acc, H' D = some (.lst acc) ∧ acc.length ≤ i ∧ Tds K H acc (((r1.2.take i).filter fun e => decide (e.name = w)).map En.pd)) ⟨same_upd hD, [], upd_same, Nat.le_refl _, .nil⟩ (fun i H' _ h => SqL.of (h.1 _ _ hb1)) ?_ ?_
    · rintro i x H2 H3 hi ⟨s2, acc, hD2, al, hacc⟩ ⟨rfl, hv⟩
      obtain ⟨e0, he0, hte⟩ := en_at hx1 hv
      obtain ⟨p, u0, rr, rfl, hp, _⟩ := en_row (hte.keep (KeepT.same s2))
      refine ⟨rfl, _, rfl, p, _, 1, _, rfl, rfl, hp, at1, _, rfl, a, CC, dx, _, _, rfl, s2 _ _ ha, cl.cl, cl.nW, caF_w, rfl, _, rfl, ?_⟩
      rw [filter_next he0]
      by_cases hw : e0.name = w
      · refine iteY (congrArg V.str hw) ⟨_, rfl, acc, hD2, ?_, same_new s2 hD, _, upd_same, by rw [List.length_append]; show _ + 1 ≤ _; omega, ?_⟩
        · rw [sizeLine_eq]
          omega
        · rw [if_pos (decide_eq_true hw), List.map_append]
          exact Tds.append hacc (.cons hte .nil)
      · refine iteN (sne hw) ⟨s2, acc, hD2, by omega, ?_⟩
        rw [if_neg (by rw [decide_eq_false hw]; exact Bool.false_ne_true), List.append_nil]
        exact hacc
    rintro H2 ⟨s2, acc, hD2, al, hacc⟩
    have l1' := hx1.len
    rw [List.length_map] at l1'
    have l2' := hx2.len
    rw [List.length_map] at l2'
    rw [List.take_of_length_le (by omega)] at hacc
    obtain ⟨fr, hfr⟩ : ∃ fr, (r1.2.filter fun e => decide (e.name = w)) = e :: fr := by
      have h := filter_head (p := fun e : En => decide (e.name = w)) (es := r1.2)
      rw [show r1.2.find? (fun e => decide (e.name = w)) = some e from he] at h
      cases hf : r1.2.filter fun e => decide (e.name = w) with
      | nil => rw [hf] at h; cases h
      | cons x r => rw [hf] at h; cases h; exact ⟨r, rfl⟩
    rw [hfr] at hacc
    obtain ⟨v0, accr, rfl, hv0, _⟩ : ∃ v0 accr, acc = v0 :: accr ∧ Td K H v0 e.pd ∧ True := by
      cases hacc with
      | cons t1 t2 => exact ⟨_, _, rfl, t1, True.intro⟩
    obtain ⟨pe, ue, re, rfl, hpe, hue, hre⟩ := en_row hv0
    obtain ⟨lk0, oke⟩ := ok1.at_ (enName_mem he).1
    rw [ch_left oke] at hre
    obtain rfl : re = [] := by cases hre; rfl
    refine ⟨D, _, 0, _, rfl, rfl, SqL.of hD2, (atI_nat (j := 0) rfl : atI (V.ref pe :: accr) ((0 : Nat) : Int) = some (.ref pe)), ?_⟩
    have sH2 := s2
    have WD2 := hW.same sH2
    refine ⟨_, rfl, wl, _, 1, _, rfl, rfl, KeepT.same sH2 _ _ hwl, at1, _, rfl, d2, _, rfl, .inl ⟨kv2, .inr r2.1, .inl (sH2 _ _ hd2), rfl, v2.symm⟩, b2, rfl, ⟨_, SqL.of (sH2 _ _ hb2)⟩, fun D2 hD2 => ?_⟩
    refine lc_it (walk_list (K := K) (a := b2) (xs := xs2)) (fun i H' => Same H2 H' ∧ ∃ acc, H' D2 = some (.lst acc) ∧ acc.length ≤ i ∧ Tds K H acc (((r2.2.take i).filter (fun f => decide (f.num = e.num))).map En.pd)) ⟨same_upd hD2, [], upd_same, Nat.le_refl _, .nil⟩ (fun i H' _ h => SqL.of (h.1 _ _ (sH2 _ _ hb2))) ?_ ?_
    · rintro i x H5 H6 hi ⟨s5, acc, hD5, al, hacc⟩ ⟨rfl, hv⟩
      obtain ⟨e0, he0, hte⟩ := en_at hx2 hv
      obtain ⟨p, u0, rr, rfl, hp, _⟩ := en_row (hte.keep (KeepT.same (sH2.trans s5)))
      refine ⟨rfl, _, rfl, p, _, 0, _, rfl, rfl, hp, at0, _, rfl, pe, _, 0, _, rfl, rfl, KeepT.same (sH2.trans s5) _ _ hpe, at0, rfl, _, rfl, ?_⟩
      rw [filter_next he0]
      by_cases hw : e0.num = e.num
      · refine iteY (congrArg V.int hw) ⟨_, rfl, acc, hD5, by rw [sizeLine_eq]; omega, same_new s5 hD2, _, upd_same, by rw [List.length_append]; show _ + 1 ≤ _; omega, ?_⟩
        rw [if_pos (decide_eq_true hw), List.map_append]
        exact Tds.append hacc (.cons hte .nil)
      · refine iteN (fun z => hw (by injection z)) ⟨s5, acc, hD5, by omega, ?_⟩
        rw [if_neg (by rw [decide_eq_false hw]; exact Bool.false_ne_true), List.append_nil]
        exact hacc
    rintro H3 ⟨s3, acc2, hD3, al2, hacc2⟩
    rw [List.take_of_length_le (by omega)] at hacc2
    have sH3 := s2.trans s3
    have hq2 : enNum r2.2 e.num = (r2.2.filter fun f => decide (f.num = e.num)).head? := filter_head.symm
    refine ⟨_, rfl, by show 0 ≤ sizeLine; decide, fun Z hZ => ?_⟩
    have sZ := same_upd (o := .lst []) hZ
    refine ⟨D2, Z, acc2, rfl, rfl, sZ _ _ hD3, upd_same, _, rfl, ?_⟩
    have sH4 := sH3.trans sZ
    have hD4 := sZ _ _ hD3
    generalize upd H3 Z (.lst []) = H4 at sZ sH4 hD4 ⊢
    have told : ∀ (H5 : Hp) (wd : Str) (x : V) (d : PyData), Same H H5 → Td K H5 x (plainly d) → dueC (chT to) (chT tn) (.cho r1.1) (.cho r2.1) rp (caseP w c) = .told (caseP wd d) → ∀ g1, H5 g1 = none → ∀ g2, (upd H5 g1 (.tup [V.str "case", .str wd, x])) g2 = none → Q (.ref g2) (upd (upd H5 g1 (.tup [V.str "case", .str wd, x])) g2 (.tup [V.str "told", .ref g1])) := fun H5 wd x d s5 hx hd g1 hg1 g2 hg2 => by
      have a1 := same_upd (o := .tup [V.str "case", .str wd, x]) hg1
      have a2 := same_upd (o := .tup [V.str "told", .ref g1]) hg2
      refine q _ (.ref g2) ((s5.trans a1).trans a2) ?_
      rw [hd]
      show Td K _ (.ref g2) (.tuple [.str "told", plainly (caseP wd d)])
      rw [plainly_case]
      exact .tup (SqT.of upd_same) (.cons (.str _) (.cons (.tup (SqT.of (a2 _ _ upd_same)) (.cons (.str _) (.cons (.str _) (.cons (hx.keep (KeepT.same (a1.trans a2))) .nil)))) .nil))
    have refd : ∀ (H5 : Hp) (y : Str), Same H H5 → dueC (chT to) (chT tn) (.cho r1.1) (.cho r2.1) rp (caseP w c) = .ref rp y → ∀ g1, H5 g1 = none → Q (.ref g1) (upd H5 g1 (.tup [V.str "refused", x1, .str y])) := fun H5 y s5 hd g1 hg1 => by
      have a1 := same_upd (o := .tup [V.str "refused", x1, .str y]) hg1
      refine q _ (.ref g1) (s5.trans a1) ?_
      rw [hd]
      exact .tup (SqT.of upd_same) (.cons (.str _) (.cons (h1.keep (KeepT.same (s5.trans a1))) (.cons (.str _) .nil)))
    have he' : enName (chT to r1.1) w = some e := by rw [e1]; exact he
    cases hf2 : r2.2.filter (fun f => decide (f.num = e.num)) with
    | nil =>
      rw [hf2] at hq2 hacc2
      obtain rfl : acc2 = [] := by cases hacc2; rfl
      refine iteT ?_
      refine ⟨_, rfl, wl, _, 1, _, rfl, rfl, KeepT.same sH4 _ _ hwl, at1, _, rfl, d2, _, rfl, .inl ⟨kv2, .inr r2.1, .inl (sH4 _ _ hd2), rfl, v2.symm⟩, b2, rfl, ⟨_, SqL.of (sH4 _ _ hb2)⟩, fun D3 hD3 => ?_⟩
      refine lc_it (walk_list (K := K) (a := b2) (xs := xs2)) (fun i H' => Same H4 H' ∧ ∃ acc, H' D3 = some (.lst acc) ∧ acc.length ≤ i ∧ Tds K H acc (((r2.2.take i).filter (fun f => decide (f.num = 0))).map En.pd)) ⟨same_upd hD3, [], upd_same, Nat.le_refl _, .nil⟩ (fun i H' _ h => SqL.of (h.1 _ _ (sH4 _ _ hb2))) ?_ ?_
      · rintro i x H5 H6 hi ⟨s5, acc, hD5, al, hacc⟩ ⟨rfl, hv⟩
        obtain ⟨e0, he0, hte⟩ := en_at hx2 hv
        obtain ⟨p, u0, rr, rfl, hp, _⟩ := en_row (hte.keep (KeepT.same (sH4.trans s5)))
        refine ⟨rfl, _, rfl, p, _, 0, _, rfl, rfl, hp, at0, rfl, _, rfl, ?_⟩
        rw [filter_next he0]
        by_cases hw : e0.num = 0
        · refine iteY (congrArg V.int hw) ⟨_, rfl, acc, hD5, by rw [sizeLine_eq]; omega, same_new s5 hD3, _, upd_same, by rw [List.length_append]; show _ + 1 ≤ _; omega, ?_⟩
          rw [if_pos (decide_eq_true hw), List.map_append]
          exact Tds.append hacc (.cons hte .nil)
        · refine iteN (fun z => hw (by injection z)) ⟨s5, acc, hD5, by omega, ?_⟩
          rw [if_neg (by rw [decide_eq_false hw]; exact Bool.false_ne_true), List.append_nil]
          exact hacc
      rintro H5 ⟨s5, acc3, hD5, al3, hacc3⟩
      rw [List.take_of_length_le (by omega)] at hacc3
      have sH5 := sH4.trans s5
      have hq3 : enNum r2.2 0 = (r2.2.filter fun f => decide (f.num = 0)).head? := filter_head.symm
      refine ⟨_, rfl, by show 0 ≤ sizeLine; decide, fun Z2 hZ2 => ?_⟩
      have sZ2 := same_upd (o := .lst []) hZ2
      refine ⟨D3, Z2, acc3, rfl, rfl, sZ2 _ _ hD5, upd_same, _, rfl, ?_⟩
      have sH6 := sH5.trans sZ2
      have hD6 := sZ2 _ _ hD5
      generalize upd H5 Z2 (.lst []) = H6 at sZ2 sH6 hD6 ⊢
      cases hf3 : r2.2.filter (fun f => decide (f.num = 0)) with
      | nil =>
        rw [hf3] at hq3 hacc3
        obtain rfl : acc3 = [] := by cases hacc3; rfl
        refine iteT ⟨_, rfl, by show 3 ≤ sizeLine; decide, fun g1 hg1 => refd H6 "case" sH6 (due_now hth he' ?_) g1 hg1⟩
        unfold caseNow enRead
        rw [e2, hq2, hq3] <;> rfl
      | cons f fr3 =>
        rw [hf3] at hq3 hacc3
        obtain ⟨v1, accr3, rfl, hv1⟩ : ∃ v1 accr3, acc3 = v1 :: accr3 ∧ Td K H v1 f.pd := by
          cases hacc3 with
          | cons t1 t2 => exact ⟨_, _, rfl, t1⟩
        obtain ⟨pf, uf, rf, rfl, hpf, _⟩ := en_row hv1
        have hrd : enRead (chT tn r2.1) e.num = some f := by
          unfold enRead
          rw [e2, hq2]
          exact hq3
        have hf0 : f.of = none := by
          obtain ⟨lkf, okf⟩ := ok2.at_ (enNum_mem (hq3.trans rfl)).1
          cases hof' : f.of with
          | none => rfl
          | some s => exact absurd (enNum_mem (hq3.trans rfl)).2 (okf.some s hof').1
        refine iteF ⟨_, rfl, D3, _, 0, _, rfl, rfl, SqL.of hD6, (atI_nat (j := 0) rfl : atI (V.ref pf :: accr3) ((0 : Nat) : Int) = some (.ref pf)), pf, _, 1, _, rfl, rfl, KeepT.same sH6 _ _ hpf, at1, by show 3 ≤ sizeLine; decide, fun g1 hg1 => ⟨by show 2 ≤ sizeLine; decide, fun g2 hg2 => ?_⟩⟩
        exact told H6 f.name .non .none sH6 .non (due_plainC hth he' hrd hf0) g1 hg1 g2 hg2
    | cons f fr2 =>
      rw [hf2] at hq2 hacc2
      obtain ⟨v1, accr2, rfl, hv1⟩ : ∃ v1 accr2, acc2 = v1 :: accr2 ∧ Td K H v1 f.pd := by
        cases hacc2 with
        | cons t1 t2 => exact ⟨_, _, rfl, t1⟩
      obtain ⟨pf, uf, rf, rfl, hpf, huf, hrf⟩ := en_row hv1
      have hrd : enRead (chT tn r2.1) e.num = some f := by
        unfold enRead
        rw [e2, hq2] <;> rfl
      obtain ⟨lkf, okf⟩ := ok2.at_ (enNum_mem (hq2.trans rfl)).1
      rw [ch_left okf] at hrf
      obtain rfl : rf = [] := by cases hrf; rfl
      refine iteF ?_
      have k4 := KeepT.same (K := K) sH4
      refine ⟨_, rfl, D2, _, 0, _, rfl, rfl, SqL.of hD4, (atI_nat (j := 0) rfl : atI (V.ref pf :: accr2) ((0 : Nat) : Int) = some (.ref pf)), pf, _, rfl, k4 _ _ hpf, rfl, _, _, rfl, _, _, rfl, _, _, rfl, rfl, ?_⟩
      cases hof2 : f.of with
      | none =>
        rw [hof2] at huf
        obtain rfl := huf.toNone
        exact ⟨_, rfl, rfl, _, rfl, iteY rfl ⟨_, rfl, by show 3 ≤ sizeLine; decide, fun g1 hg1 => ⟨by show 2 ≤ sizeLine; decide, fun g2 hg2 => told H4 f.name .non .none sH4 .non (due_plainC hth he' hrd hof2) g1 hg1 g2 hg2⟩⟩⟩
      | some ni =>
        rw [hof2] at huf
        obtain ⟨pn, zn, rfl, hpn, hzn⟩ := Td.sort huf
        refine ⟨_, rfl, rfl, _, rfl, iteN (fun z => nomatch z) ?_⟩
        refine ⟨_, rfl, pe, _, 2, _, rfl, rfl, k4 _ _ hpe, at2, rfl, _, rfl, ?_⟩
        cases hoe : e.of with
        | none =>
          rw [hoe] at hue
          obtain rfl := hue.toNone
          refine iteY rfl ⟨_, rfl, by show 3 ≤ sizeLine; decide, fun g1 hg1 => refd H4 "sort" sH4 (due_now hth he' ?_) g1 hg1⟩
          unfold caseNow
          rw [hrd]
          dsimp only
          rw [hof2]
          dsimp only
          rw [hoe]
        | some oi =>
          rw [hoe] at hue
          obtain ⟨po, zo, rfl, hpo, hzo⟩ := Td.sort hue
          refine iteN (fun z => nomatch z) ?_
          have hth2 : ThC (chT to) oi c := by
            rcases hof with ⟨g, _⟩ | ⟨s, g1, g2⟩
            · rw [hoe] at g
              cases g
            · rw [hoe] at g1
              cases g1
              exact g2
          obtain ⟨px, xs, rfl, hpx, hxs⟩ := h1.row
          refine ⟨_, rfl, _, rfl, _, rfl, by show 2 ≤ sizeLine; decide, fun t1 ht1 => ⟨by show 1 ≤ sizeLine; decide, fun t2 ht2 => ?_⟩⟩
          have j1 := same_upd (o := .tup [V.str "case", .str f.name]) ht1
          have j2 := same_upd (o := .tup [V.ref t1]) ht2
          have sH7 := sH4.trans (j1.trans j2)
          have vt1 : SqT K (upd (upd H4 t1 (.tup [V.str "case", .str f.name])) t2 (.tup [V.ref t1])) t1 [V.str "case", .str f.name] := SqT.of (j2 _ _ upd_same)
          have vt2 : SqT K (upd (upd H4 t1 (.tup [V.str "case", .str f.name])) t2 (.tup [V.ref t1])) t2 [V.ref t1] := SqT.of upd_same
          generalize upd (upd H4 t1 (.tup [V.str "case", .str f.name])) t2 (.tup [V.ref t1]) = H7 at sH7 vt1 vt2 ⊢
          have k7 := KeepT.same (K := K) sH7
          have hxl := hxs.len
          rw [List.length_reverse] at hxl
          refine ⟨px, t2, xs, _, rfl, rfl, k7 _ _ hpx, vt2, (fun z => nomatch z), by rw [hxl, sizeLine_eq]; show _ + 1 ≤ _; omega, fun H8 t s8 ht => ?_⟩
          have sH8 := sH7.trans s8
          have k8 := KeepT.same (K := K) sH8
          have hpath : Td K H8 (.ref t) (.tuple (caseS f.name :: rp).reverse) := by
            rw [List.reverse_cons]
            exact .tup ht (Tds.append (hxs.keep k8) (.cons (.tup (KeepT.same s8 _ _ vt1) (.cons (.str _) (.cons (.str _) .nil))) .nil))
          refine ⟨_, rfl, pe, _, 2, _, rfl, rfl, k8 _ _ hpe, at2, _, rfl, _, rfl, a, CC, dx, _, _, rfl, sH8 _ _ ha, cl.cl, cl.nC, caF_c, ?_⟩
          refine ⟨wl, .ref t, .ref po, .ref pn, u, oi, ni, c, caseS f.name :: rp, to, tn, rfl, hW.same sH8, oko, okn, hpath, by rw [List.length_cons]; omega, hue.keep k8, huf.keep k8, hu4.keep (KeepC.same sH8), ⟨_, (oke.some oi hoe).2.1⟩, (okf.some ni hof2).2.1, hbd r2.1 f (by rw [e2]; exact (enNum_mem (hq2.trans rfl)).1) ni hof2, hbd, hth2, hsc, hn, fun H9 v s9 hv => ?_⟩
          have sH9 := sH8.trans s9
          have hgo := due_goC (TN := chT tn) (b := r2.1) (rp := rp) hth he' hrd hoe hof2
          cases hdu : dueC (chT to) (chT tn) oi ni (caseS f.name :: rp) c with
          | told d =>
            rw [hdu] at hv hgo
            obtain ⟨pv, y1, y2, rfl, hpv, hy1, hy2⟩ := Td.pair (show Td K H9 v (.tuple [.str "told", plainly d]) from hv)
            obtain rfl := hy1.toStr
            refine ⟨_, rfl, pv, _, 0, _, rfl, rfl, hpv, at0, rfl, _, rfl, iteN (sne (show ("told" : Str) ≠ "refused" by decide +kernel)) ?_⟩
            exact ⟨_, rfl, _, rfl, pv, _, 1, _, rfl, rfl, hpv, at1, by show 3 ≤ sizeLine; decide, fun g1 hg1 => ⟨by show 2 ≤ sizeLine; decide, fun g2 hg2 => told H9 f.name y2 d sH9 hy2 hgo g1 hg1 g2 hg2⟩⟩
          | ref rp' y =>
            rw [hdu] at hv hgo
            obtain ⟨pv, zs, rfl, hpv, hzs⟩ := Td.row (show Td K H9 v (.tuple [.str "refused", .tuple rp'.reverse, .str y]) from hv)
            obtain ⟨y1, y2, y3, rfl, hy1, hy2, hy3⟩ := hzs.c3
            obtain rfl := hy1.toStr
            refine ⟨_, rfl, pv, _, 0, _, rfl, rfl, hpv, at0, rfl, _, rfl, iteY rfl ⟨_, rfl, q H9 _ sH9 ?_⟩⟩
            rw [hgo]
            exact hv
end
end K22
set_option maxHeartbeats 4000000
namespace K22
open PySem PySem.Spec PyProof.Rows L2 Tw Sb LamX
theorem rowDue_step {f : List PyData → PyData → Rs} {rp ds vs : List PyData} {i : Nat} {d v : PyData} (h : rowDue f rp 0 ds = match rowDue f rp i (ds.drop i) with | .inl ws => .inl (vs ++ ws) | .inr e => .inr e) (hd : ds[i]? = some d) (hv : f (.int (i : Int) :: rp) d = .told v) :
    rowDue f rp 0 ds = match rowDue f rp (i + 1) (ds.drop (i + 1)) with | .inl ws => .inl (vs ++ [v] ++ ws) | .inr e => .inr e := by
  have e1 : ds.drop i = d :: ds.drop (i + 1) := by
    obtain ⟨hi, rfl⟩ := List.getElem?_eq_some_iff.mp hd
    exact List.drop_eq_getElem_cons hi
  rw [h, e1]
  rw [show rowDue f rp i (d :: ds.drop (i + 1)) = match f (.int (i : Int) :: rp) d with | .ref p w => .inr (p, w) | .told v => match rowDue f rp (i + 1) (ds.drop (i + 1)) with | .inr e => .inr e | .inl vs => .inl (v :: vs) from rfl, hv]
  cases rowDue f rp (i + 1) (ds.drop (i + 1)) with
  | inr e => rfl
  | inl ws =>
    show Sum.inl (vs ++ v :: ws) = Sum.inl (vs ++ [v] ++ ws)
    rw [List.append_assoc]
    rfl
theorem rowDue_stop {f : List PyData → PyData → Rs} {rp ds vs p : List PyData} {i : Nat} {d : PyData} {w : Str} (h : rowDue f rp 0 ds = match rowDue f rp i (ds.drop i) with | .inl ws => .inl (vs ++ ws) | .inr e => .inr e) (hd : ds[i]? = some d) (hv : f (.int (i : Int) :: rp) d = .ref p w) : rowDue f rp 0 ds = .inr (p, w) := by
  have e1 : ds.drop i = d :: ds.drop (i + 1) := by
    obtain ⟨hi, rfl⟩ := List.getElem?_eq_some_iff.mp hd
    exact List.drop_eq_getElem_cons hi
  rw [h, e1]
  rw [show rowDue f rp i (d :: ds.drop (i + 1)) = match f (.int (i : Int) :: rp) d with | .ref p w => .inr (p, w) | .told v => match rowDue f rp (i + 1) (ds.drop (i + 1)) with | .inr e => .inr e | .inl vs => .inl (v :: vs) from rfl, hv]
theorem bnd_strip {s : So} (h : So.bnd s) : So.bnd s.strip := by
  cases s <;> exact h
theorem iteR {p : Prop} [Decidable p] {Y R : Prop} (hy : p → R → Y) (hr : R) : if decide p = true then Y else R := by
  by_cases h : p
  · exact iteY h (hy h hr)
  · exact iteN h hr
section
variable {P : Program} {w : World} {K : PySem.W.Frag} {mg : Str → Option Value} {base : Heap}
theorem ok_due_step {n : Nat} {CC f : Addr} {fd : FuncData} (F : Fun K "_law_due" "_law_due" s__law_due f fd) (T : Bu mg) (c__law_case : Cal P w K mg base (2 + 2 * n) "_law_case" ["_law_world", "_law_path", "_law_old", "_law_new", "_law_thing_here"] (spCaseL K CC n)) (c__law_due : Cal P w K mg base (1 + 2 * n) "_law_due" ["_law_world", "_law_path", "_law_old", "_law_new", "_law_thing_here"] (spDue K CC n)) :
    FnOk P w K mg base CX0 (3 + 2 * n) f fd ["_law_world", "_law_path", "_law_old", "_law_new", "_law_thing_here"] (spDue K CC (n + 1)) := by
  refine (show FnOk P w K mg base CX0 ((2 + 2 * n) + 1) f fd ["_law_world", "_law_path", "_law_old", "_law_new", "_law_thing_here"] (spDue K CC (n + 1)) from F.ok sc__law_due (fun vs H Q E h => ?_) (fun cdv A outer s H vs Q E hr h => ?_)).mono (by omega)
  · obtain ⟨wl, x1, x2, x3, x4, o, z, d, rp, to, tn, rfl, _⟩ := h
    rfl
  · obtain ⟨wl, x1, x2, x3, x4, o, z, d, rp, to, tn, rfl, hW, oko, okn, t1, hl, t2, t3, t4, ho, hz, hbz, hbd, hok, hsc, hn, q⟩ := h
    refine ⟨_, (pss_cons (ps_if (PW.pt (pw_and (pt_cmpR op_eq (pe_ix (r := rIxT K) ix_tup (pv 2) pe_int (fun _ _ => rfl)) pe_str (nomark _)) (pw_and1 (pt_cmpR op_isN (pv 4) pe_non (nomark _)))))
        (pss_one (ps_ret (pe_ifExp (pt_cmpR op_eq (pe_ix (r := rIxT K) ix_tup (pv 3) pe_int (fun _ _ => rfl)) pe_str (nomark _)) (pe_tup (pa_cons pe_str (pa_cons pe_non pa_nil))) (pe_tup (pa_cons pe_str (pa_cons (pv 1) (pa_cons pe_str pa_nil)))))))
        pss_nil)
      (pss_mid (ps_if (pt_cmpR op_eq (pe_ix (r := rIxT K) ix_tup (pv 2) pe_int (fun _ _ => rfl)) pe_str (nomark _))
        (pss_one (ps_par (i := 1) (j := 2) rfl sc__law_due.nd rfl rfl (by decide) rfl rfl (pa_cons (pe_op op_catP (pv 1) (pe_tup (pa_cons (pe_tup (pa_cons pe_str pa_nil)) pa_nil))) (pa_cons (pe_ix (r := rIxT K) ix_tup (pv 2) pe_int (fun _ _ => rfl)) pa_nil)) rfl))
        pss_nil)
      (pss_mid (ps_if (pt_cmpR op_eq (pe_ix (r := rIxT K) ix_tup (pv 3) pe_int (fun _ _ => rfl)) pe_str (nomark _))
        (pss_one (ps_set (i := 3) sc__law_due.nd rfl (.inl rfl) (pe_ix (r := rIxT K) ix_tup (pv 3) pe_int (fun _ _ => rfl))))
        pss_nil)
      (pss_cons (ps_if (pt_cmpR op_ne (pe_ix (r := rIxT K) ix_tup (pv 2) pe_int (fun _ _ => rfl)) (pe_ix (r := rIxT K) ix_tup (pv 3) pe_int (fun _ _ => rfl)) (nomark _))
        (pss_one (ps_ret (pe_tup (pa_cons pe_str (pa_cons (pv 1) (pa_cons pe_str pa_nil))))))
        pss_nil)
      (pss_cons (ps_if (PW.pt (pw_and (pt_cmpR op_eq (pe_ix (r := rIxT K) ix_tup (pv 2) pe_int (fun _ _ => rfl)) pe_str (nomark _)) (pw_and1 (pt_not (pt_chain op_le op_le (pe_ix (r := rIxT K) ix_tup (pv 3) pe_int (fun _ _ => rfl)) (pv 4) (pe_ix (r := rIxT K) ix_tup (pv 3) pe_int (fun _ _ => rfl)))))))
        (pss_one (ps_ret (pe_tup (pa_cons pe_str (pa_cons (pv 1) (pa_cons pe_str pa_nil))))))
        pss_nil)
      (pss_cons (ps_if (PW.pt (pw_and (pt_cmpR op_in_seq (pe_ix (r := rIxT K) ix_tup (pv 2) pe_int (fun _ _ => rfl)) (pe_lst (pa_cons pe_str (pa_cons pe_str pa_nil))) (by rfl)) (pw_and1 (pt_cmpR op_gt (pe_callB call_len (by rfl) T.n_len (by decide +kernel) (pa_cons (pv 4) pa_nil)) (pe_ix (r := rIxT K) ix_tup (pv 3) pe_int (fun _ _ => rfl)) (nomark _)))))
        (pss_one (ps_ret (pe_tup (pa_cons pe_str (pa_cons (pv 1) (pa_cons pe_str pa_nil))))))
        pss_nil)
      (pss_cons (ps_if (pt_cmpR op_eq (pe_ix (r := rIxT K) ix_tup (pv 2) pe_int (fun _ _ => rfl)) pe_str (nomark _))
        (pss_one (ps_ret (pe_cal c__law_case hr (by omega) (by rfl) (pa_cons (pv 0) (pa_cons (pv 1) (pa_cons (pe_ix (r := rIxT K) ix_tup (pv 2) pe_int (fun _ _ => rfl)) (pa_cons (pe_ix (r := rIxT K) ix_tup (pv 3) pe_int (fun _ _ => rfl)) (pa_cons (pv 4) pa_nil))))))))
        pss_nil)
      (pss_cons (ps_if (pt_cmpR op_ne (pe_ix (r := rIxT K) ix_tup (pv 2) pe_int (fun _ _ => rfl)) pe_str (nomark _))
        (pss_one (ps_ret (pe_tup (pa_cons pe_str (pa_cons (pv 4) pa_nil)))))
        pss_nil)
      (pss_cons (ps_set (i := 5) sc__law_due.nd rfl (.inl rfl) (pe_lst pa_nil))
      (pss_cons (ps_for PassesOwn.never rfl (pi_enT rfl T.n_enumerate (pa_cons (pv 4) pa_nil)) (pg_tup rfl (pgs_cons (pg_name (i := 6) sc__law_due.nd rfl (.inl rfl)) (pgs_cons (pg_name (i := 7) sc__law_due.nd rfl (.inl rfl)) pgs_nil)))
        (pss_cons (ps_set (i := 8) sc__law_due.nd rfl (.inl rfl) (pe_cal c__law_due hr (by omega) (by rfl) (pa_cons (pv 0) (pa_cons (pe_op op_catP (pv 1) (pe_tup (pa_cons (pv 6) pa_nil))) (pa_cons (pe_ix (r := rIxT K) ix_tup (pv 2) pe_int (fun _ _ => rfl)) (pa_cons (pe_ix (r := rIxT K) ix_tup (pv 3) pe_int (fun _ _ => rfl)) (pa_cons (pv 7) pa_nil)))))))
        (pss_cons (ps_if (pt_cmpR op_eq (pe_ix (r := rIxT K) ix_tup (pv 8) pe_int (fun _ _ => rfl)) pe_str (nomark _))
          (pss_one (ps_ret (pv 8)))
          pss_nil)
        (pss_one (ps_expr (pe_bm PySem.F.plainAttrs_list PySem.F.slot_list_append PySem.F.type_list_append mt_append (pv 5) (pa_cons (pe_ix (r := rIxT K) ix_tup (pv 8) pe_int (fun _ _ => rfl)) pa_nil)))))))
      (pss_one (ps_ret (pe_tup (pa_cons pe_str (pa_cons (pe_callTy (T := "tuple") (r := rTupOf K) cr_tupK (by rfl) T.n_tuple (by decide +kernel) (pa_cons (pv 5) pa_nil)) pa_nil))))))))))))))), ?_⟩
    obtain ⟨po, zo, rfl, hpo, hzo⟩ := t2.sort
    obtain ⟨pn, zn, rfl, hpn, hzn⟩ := t3.sort
    obtain ⟨pp, zp, rfl, hpp, hzp⟩ := t1.row
    have hzl := hzp.len
    rw [List.length_reverse] at hzl
    have hzk : z.okc := ⟨_, hz⟩
    refine ⟨_, rfl, po, _, 0, _, rfl, rfl, hpo, at0, rfl, _, rfl, ?_⟩
    by_cases hm0 : o.word = "maybe" ∧ d = .none
    · obtain ⟨hm, rfl⟩ := hm0
      obtain ⟨a, rfl⟩ := is_may hm
      obtain rfl := t4.toNone
      refine iteY rfl ⟨_, rfl, rfl, _, rfl, iteY rfl ?_⟩
      refine ⟨_, rfl, pn, _, 0, _, rfl, rfl, hpn, at0, rfl, _, rfl, ?_⟩
      by_cases hm2 : z.word = "maybe"
      · obtain ⟨b, rfl⟩ := is_may hm2
        refine iteY rfl ⟨by show 2 ≤ sizeLine; decide, fun t ht => q _ (.ref t) (same_upd ht) ?_⟩
        rw [due_may0 hok]
        exact .tup (SqT.of upd_same) (.cons (.str _) (.cons .non .nil))
      · refine iteN (sne hm2) ⟨_, rfl, by show 3 ≤ sizeLine; decide, fun t ht => q _ (.ref t) (same_upd ht) ?_⟩
        rw [due_vfC (w := "nothing") (.force a z (not_may hm2)) hok (by rw [vfc_force (not_may hm2)]; rfl)]
        exact .tup (SqT.of upd_same) (.cons (.str _) (.cons (t1.keep (KeepT.same (same_upd ht))) (.cons (.str _) .nil)))
    refine iteR (fun hm r => ⟨_, rfl, rfl, _, rfl, iteN (fun e => hm0 ⟨by injection hm, ?_⟩) r⟩) ?_
    · rw [e] at t4
      cases t4
      rfl
    refine ⟨fun σ H' => ∃ (y1 y2 : V) (rp1 : List PyData) (o1 : So), σ = [some (.ref wl), some y1, some y2, some (.ref pn), some x4, none, none, none, none] ∧ Same H H' ∧ Td K H' y1 (.tuple rp1.reverse) ∧ Td K H' y2 o1.pd ∧ o1.isMay = false ∧ o1.okc ∧ ThC (chT to) o1 d ∧ rp1.length ≤ rp.length + 1 ∧ dueC (chT to) (chT tn) o z rp d = dueC (chT to) (chT tn) o1 z.strip rp1 d, ?_, ?_⟩
    · refine ⟨_, rfl, po, _, 0, _, rfl, rfl, hpo, at0, rfl, _, rfl, ?_⟩
      by_cases hm : o.word = "maybe"
      · obtain ⟨a, rfl⟩ := is_may hm
        have hno : d ≠ .none := fun e => hm0 ⟨hm, e⟩
        obtain ⟨v1, rfl, hv1⟩ := hzo.c1
        refine iteY rfl ?_
        refine ⟨_, rfl, by show 1 ≤ sizeLine; decide, fun g1 hg1 => ⟨by show 1 ≤ sizeLine; decide, fun g2 hg2 => ?_⟩⟩
        have sg := (same_upd (o := .tup [V.str "inside"]) hg1).trans (same_upd (o := .tup [V.ref g1]) hg2)
        refine ⟨pp, g2, zp, [.ref g1], rfl, rfl, KeepT.same sg _ _ hpp, SqT.of upd_same, List.cons_ne_nil _ _, by rw [hzl, sizeLine_eq]; show _ + 1 ≤ _; omega, fun H2 t s2 ht2 => ?_⟩
        have sa := sg.trans s2
        refine ⟨_, rfl, po, _, 1, _, rfl, rfl, KeepT.same sa _ _ hpo, at1, _, _, rfl, .ref t, v1, insideD :: rp, a, rfl, sa, ?_, hv1.keep (KeepT.same sa), ho.may.2, ho.may.1, (hok.may).resolve_left hno, Nat.le_refl _, due_mayC hok hno⟩
        rw [List.reverse_cons]
        refine .tup ht2 (Tds.append (hzp.keep (KeepT.same sa)) (.cons ?_ .nil))
        exact .tup (KeepT.same ((same_upd (o := .tup [V.ref g1]) hg2).trans s2) _ _ (SqT.of upd_same)) (.cons (.str _) .nil)
      · refine iteN (sne hm) ⟨_, _, rp, o, rfl, Same.refl _, t1, t2, not_may hm, ho, hok, Nat.le_succ _, ?_⟩
        rw [dueC_x hok, dueC_x hok]
        exact (dueX_strip (not_may hm) hzk.strip.2 rp d).symm
    rintro σ H1 ⟨y1, y2, rp1, o1, rfl, s1, tp1, to1, hm1, ho1, hok1, hrl1, hdue⟩
    rw [hdue] at q
    refine ⟨fun σ H' => ∃ (y3 : V), σ = [some (.ref wl), some y1, some y2, some y3, some x4, none, none, none, none] ∧ H' = H1 ∧ Td K H' y3 z.strip.pd, ?_, ?_⟩
    · have hpn1 := KeepT.same s1 _ _ hpn
      refine ⟨_, rfl, pn, _, 0, _, rfl, rfl, hpn1, at0, rfl, _, rfl, ?_⟩
      by_cases hm : z.word = "maybe"
      · obtain ⟨b, rfl⟩ := is_may hm
        obtain ⟨v1, rfl, hv1⟩ := hzn.c1
        exact iteY rfl ⟨_, rfl, pn, _, 1, _, rfl, rfl, hpn1, at1, v1, rfl, rfl, hv1.keep (KeepT.same s1)⟩
      · exact iteN (sne hm) ⟨_, rfl, rfl, by rw [strip_of (not_may hm)]; exact t3.keep (KeepT.same s1)⟩
    rintro σ H2 ⟨y3, rfl, rfl, tn1⟩
    have hz1 := okn_strip hz
    have hzk1 := hzk.strip.1
    have hmz := hzk.strip.2
    have hbz1 := bnd_strip hbz
    generalize z.strip = z1 at tn1 hz1 hzk1 hmz hbz1 q
    have tv2 := t4.keep (KeepC.same s1)
    clear hpo hpn hzo hzn t2 t3 hzk hbz
    obtain ⟨po, zo, rfl, hpo, hzo⟩ := to1.sort
    obtain ⟨pn, zn, rfl, hpn, hzn⟩ := tn1.sort
    have told : ∀ (H5 : Hp) (x : V) (v : PyData), Same H2 H5 → Td K H5 x (plainly v) → dueC (chT to) (chT tn) o1 z1 rp1 d = .told v → ∀ g1, H5 g1 = none → Q (.ref g1) (upd H5 g1 (.tup [V.str "told", x])) := fun H5 x v s5 hx hd g1 hg1 => by
      have a1 := same_upd (o := .tup [V.str "told", x]) hg1
      refine q _ (.ref g1) (s1.trans (s5.trans a1)) ?_
      rw [hd]
      exact .tup (SqT.of upd_same) (.cons (.str _) (.cons (hx.keep (KeepT.same a1)) .nil))
    have refd : ∀ (H5 : Hp) (y : Str), Same H2 H5 → dueC (chT to) (chT tn) o1 z1 rp1 d = .ref rp1 y → ∀ g1, H5 g1 = none → Q (.ref g1) (upd H5 g1 (.tup [V.str "refused", y1, .str y])) := fun H5 y s5 hd g1 hg1 => by
      have a1 := same_upd (o := .tup [V.str "refused", y1, .str y]) hg1
      refine q _ (.ref g1) (s1.trans (s5.trans a1)) ?_
      rw [hd]
      exact .tup (SqT.of upd_same) (.cons (.str _) (.cons (tp1.keep (KeepT.same (s5.trans a1))) (.cons (.str _) .nil)))
    refine ⟨_, rfl, po, _, 0, _, rfl, rfl, hpo, at0, _, rfl, pn, _, 0, _, rfl, rfl, hpn, at0, rfl, _, rfl, ?_⟩
    by_cases hw : o1.word = z1.word
    case neg =>
      exact iteNN (sne hw) ⟨_, rfl, by show 3 ≤ sizeLine; decide, fun t ht => refd H2 "sort" (Same.refl _) (due_vfC (.bad o1 z1 hm1 hmz hw) hok1 (vfc_bad hm1 hmz hw)) t ht⟩
    refine iteNY (congrArg V.str hw) ?_
    have k := pkc_same ho1 hzk1 hw
    generalize hWd : o1.word = W at k
    cases k with
    | may a b => exact absurd hm1 (show ¬ (true = false) by decide)
    | force a n h => exact absurd hm1 (show ¬ (true = false) by decide)
    | wrap o b h => exact absurd hmz (show ¬ (true = false) by decide)
    | bad o n h1 h2 h3 => exact absurd hw h3
    | tru =>
      obtain ⟨x, rfl⟩ := ThX.tru (r1 := ThF (chT to) 11) hok1
      obtain rfl := tv2.toBool
      refine ⟨_, rfl, po, _, 0, _, rfl, rfl, hpo, at0, rfl, _, rfl, iteN (sne (show ("truth" : Str) ≠ "number" by decide +kernel)) ?_⟩
      refine ⟨_, rfl, po, _, 0, _, rfl, rfl, hpo, at0, by show 2 ≤ sizeLine; decide, fun L hL => ⟨L, _, rfl, .inl (SqL.of upd_same), rfl, rfl, _, rfl, ?_⟩⟩
      rw [show inV (V.str (So.tru).word) [V.str ("text" : Str), V.str ("row" : Str)] = false from (show inV (V.str ("truth" : Str)) [V.str ("text" : Str), V.str ("row" : Str)] = false by decide +kernel)]
      have sL := same_upd (o := .lst [V.str ("text" : Str), V.str ("row" : Str)]) hL
      have hpo := KeepT.same sL _ _ hpo
      generalize upd H2 L (.lst [V.str ("text" : Str), V.str ("row" : Str)]) = H3 at sL hpo ⊢
      refine iteF ?_
      refine ⟨_, rfl, po, _, 0, _, rfl, rfl, hpo, at0, rfl, _, rfl, iteN (sne (show ("truth" : Str) ≠ "choice" by decide +kernel)) ?_⟩
      exact ⟨_, rfl, po, _, 0, _, rfl, rfl, hpo, at0, rfl, _, rfl, iteNN (sne (show ("truth" : Str) ≠ "row" by decide +kernel)) ⟨_, rfl, by show 2 ≤ sizeLine; decide, fun t ht => told H3 _ (.bool x) sL (.bl x) (due_leafC .tru hok1 rfl (.inr (.inl rfl))) t ht⟩⟩
    | num a b c e =>
      obtain ⟨w1, w2, rfl, g1, g2⟩ := hzn.c2
      obtain ⟨lo, hi, rfl, rfl⟩ : ∃ lo hi, c = some lo ∧ e = some hi := by
        cases c with
        | none => exact hbz1.elim
        | some lo =>
          cases e with
          | none => exact hbz1.elim
          | some hi => exact ⟨lo, hi, rfl, rfl⟩
      obtain rfl := g1.toInt
      obtain rfl := g2.toInt
      obtain ⟨x, rfl⟩ := ThX.num (r1 := ThF (chT to) 11) hok1
      obtain rfl := tv2.toInt
      refine ⟨_, rfl, po, _, 0, _, rfl, rfl, hpo, at0, rfl, _, rfl, iteY rfl ?_⟩
      have hvf : vfc (.num a b) (.num (some lo) (some hi)) (.int x) = if (decide (lo ≤ x) && decide (x ≤ hi)) = true then none else some ("bounds" : Str) := rfl
      refine ⟨_, rfl, pn, _, 1, _, rfl, rfl, hpn, at1, _, rfl, lo, x, rfl, rfl, _, rfl, ?_⟩
      by_cases h1 : lo ≤ x
      case neg =>
        rw [decide_eq_false h1, Bool.false_and] at hvf
        exact iteN h1 ⟨false, rfl, iteT ⟨_, rfl, by show 3 ≤ sizeLine; decide, fun t ht => refd H2 "bounds" (Same.refl _) (due_vfC (.num _ _ _ _) hok1 hvf) t ht⟩⟩
      rw [decide_eq_true h1, Bool.true_and] at hvf
      refine iteY h1 ⟨_, rfl, pn, _, 2, _, rfl, rfl, hpn, at2, x, hi, rfl, rfl, _, rfl, ?_⟩
      by_cases h2 : x ≤ hi
      case neg =>
        rw [decide_eq_false h2] at hvf
        exact iteNN h2 ⟨_, rfl, by show 3 ≤ sizeLine; decide, fun t ht => refd H2 "bounds" (Same.refl _) (due_vfC (.num _ _ _ _) hok1 hvf) t ht⟩
      rw [decide_eq_true h2] at hvf
      refine iteNY h2 ?_
      refine ⟨_, rfl, po, _, 0, _, rfl, rfl, hpo, at0, by show 2 ≤ sizeLine; decide, fun L hL => ⟨L, _, rfl, .inl (SqL.of upd_same), rfl, rfl, _, rfl, ?_⟩⟩
      rw [show inV (V.str (So.num a b).word) [V.str ("text" : Str), V.str ("row" : Str)] = false from (show inV (V.str ("number" : Str)) [V.str ("text" : Str), V.str ("row" : Str)] = false by decide +kernel)]
      have sL := same_upd (o := .lst [V.str ("text" : Str), V.str ("row" : Str)]) hL
      have hpo := KeepT.same sL _ _ hpo
      generalize upd H2 L (.lst [V.str ("text" : Str), V.str ("row" : Str)]) = H3 at sL hpo ⊢
      refine iteF ?_
      refine ⟨_, rfl, po, _, 0, _, rfl, rfl, hpo, at0, rfl, _, rfl, iteN (sne (show ("number" : Str) ≠ "choice" by decide +kernel)) ?_⟩
      exact ⟨_, rfl, po, _, 0, _, rfl, rfl, hpo, at0, rfl, _, rfl, iteNN (sne (show ("number" : Str) ≠ "row" by decide +kernel)) ⟨_, rfl, by show 2 ≤ sizeLine; decide, fun t ht => told H3 _ (.int x) sL (.int x) (due_leafC (.num _ _ _ _) hok1 hvf (.inl rfl)) t ht⟩⟩
    | txt a b =>
      obtain ⟨w1, rfl, g1⟩ := hzn.c1
      obtain rfl := g1.toInt
      obtain ⟨x, rfl, hxl⟩ := ThX.txt (r1 := ThF (chT to) 11) hok1
      obtain rfl := tv2.toStr
      refine ⟨_, rfl, po, _, 0, _, rfl, rfl, hpo, at0, rfl, _, rfl, iteN (sne (show ("text" : Str) ≠ "number" by decide +kernel)) ?_⟩
      refine ⟨_, rfl, po, _, 0, _, rfl, rfl, hpo, at0, by show 2 ≤ sizeLine; decide, fun L hL => ⟨L, _, rfl, .inl (SqL.of upd_same), rfl, rfl, _, rfl, ?_⟩⟩
      rw [show inV (V.str (So.txt a).word) [V.str ("text" : Str), V.str ("row" : Str)] = true from (show inV (V.str ("text" : Str)) [V.str ("text" : Str), V.str ("row" : Str)] = true by decide +kernel)]
      have sL := same_upd (o := .lst [V.str ("text" : Str), V.str ("row" : Str)]) hL
      have hpo := KeepT.same sL _ _ hpo
      have hpn := KeepT.same sL _ _ hpn
      generalize upd H2 L (.lst [V.str ("text" : Str), V.str ("row" : Str)]) = H3 at sL hpo hpn ⊢
      have hvf : vfc (.txt a) (.txt b) (.str x) = if (x.length : Int) > b then some ("most" : Str) else none := rfl
      refine iteT ⟨_, rfl, .str x, _, rfl, ⟨line_le 40 hxl (by decide), rfl⟩, _, rfl, pn, _, 1, _, rfl, rfl, hpn, at1, _, b, rfl, rfl, ?_⟩
      by_cases hb : (x.length : Int) > b
      · exact ⟨_, rfl, iteY hb ⟨_, rfl, by show 3 ≤ sizeLine; decide, fun t ht => refd H3 "most" sL (due_vfC (.txt _ _) hok1 (hvf.trans (if_pos hb))) t ht⟩⟩
      · refine ⟨_, rfl, iteN hb ?_⟩
        refine ⟨_, rfl, po, _, 0, _, rfl, rfl, hpo, at0, rfl, _, rfl, iteN (sne (show ("text" : Str) ≠ "choice" by decide +kernel)) ?_⟩
        exact ⟨_, rfl, po, _, 0, _, rfl, rfl, hpo, at0, rfl, _, rfl, iteNN (sne (show ("text" : Str) ≠ "row" by decide +kernel)) ⟨_, rfl, by show 2 ≤ sizeLine; decide, fun t ht => told H3 _ (.str x) sL (.str x) (due_leafC (.txt _ _) hok1 (hvf.trans (if_neg hb)) (.inr (.inr rfl))) t ht⟩⟩
    | cho a b =>
      obtain ⟨w1, rfl, g1⟩ := hzn.c1
      obtain rfl := g1.toStr
      obtain ⟨w2, rfl, g2⟩ := hzo.c1
      obtain rfl := g2.toStr
      obtain ⟨wd, c, e, rfl, he, _⟩ := hok1.cho
      obtain ⟨r1, hr1, rfl, _⟩ := chT_row (enName_mem he).1
      have hsn : Sc n c := by
        rcases hsc with h | ⟨ds', e, h1, h2⟩ | ⟨w, c', e, h⟩
        · exact h.elim
        · cases e
        · unfold caseP at e
          injection e with e
          injection e with e1 e2
          injection e2 with e2
          subst e2
          exact h
      refine ⟨_, rfl, po, _, 0, _, rfl, rfl, hpo, at0, rfl, _, rfl, iteN (sne (show ("choice" : Str) ≠ "number" by decide +kernel)) ?_⟩
      refine ⟨_, rfl, po, _, 0, _, rfl, rfl, hpo, at0, by show 2 ≤ sizeLine; decide, fun L hL => ⟨L, _, rfl, .inl (SqL.of upd_same), rfl, rfl, _, rfl, ?_⟩⟩
      rw [show inV (V.str (So.cho r1.1).word) [V.str ("text" : Str), V.str ("row" : Str)] = false from (show inV (V.str ("choice" : Str)) [V.str ("text" : Str), V.str ("row" : Str)] = false by decide +kernel)]
      have sL := same_upd (o := .lst [V.str ("text" : Str), V.str ("row" : Str)]) hL
      have hpo := KeepT.same sL _ _ hpo
      have hpn := KeepT.same sL _ _ hpn
      generalize upd H2 L (.lst [V.str ("text" : Str), V.str ("row" : Str)]) = H3 at sL hpo hpn ⊢
      refine iteF ?_
      refine ⟨_, rfl, po, _, 0, _, rfl, rfl, hpo, at0, rfl, _, rfl, iteY rfl ?_⟩
      have s3 := s1.trans sL
      exact ⟨_, rfl, _, rfl, _, rfl, po, _, 1, _, rfl, rfl, hpo, at1, _, rfl, pn, _, 1, _, rfl, rfl, hpn, at1, _, rfl, wl, y1, x4, r1.1, b, wd, c, rp1, to, tn, rfl, hW.same s3, oko, okn, tp1.keep (KeepT.same sL), by omega, tv2.keep (KeepC.same sL), List.mem_map.mpr ⟨r1, hr1, rfl⟩, hz1.2, hbd, hok1, hsn, by omega, fun H5 u s5 hu => q H5 u (s3.trans s5) hu⟩
    | row a so b sn =>
      obtain ⟨w1, w2, rfl, g1, g2⟩ := hzn.c2
      obtain rfl := g1.toInt
      obtain ⟨u1, u2, rfl, g3, g4⟩ := hzo.c2
      obtain ⟨ds, rfl, hd6, hin⟩ := hok1.row
      obtain ⟨pt, zt, rfl, hpt, hzt⟩ := tv2.row
      have hztl := hzt.len
      have hsn : ∀ e ∈ ds, Sc n e := by
        rcases hsc with h | ⟨ds', e, h1, h2⟩ | ⟨w, c, e, h⟩
        · exact h.elim
        · cases e
          exact h2
        · cases e
      refine ⟨_, rfl, po, _, 0, _, rfl, rfl, hpo, at0, rfl, _, rfl, iteN (sne (show ("row" : Str) ≠ "number" by decide +kernel)) ?_⟩
      refine ⟨_, rfl, po, _, 0, _, rfl, rfl, hpo, at0, by show 2 ≤ sizeLine; decide, fun L hL => ⟨L, _, rfl, .inl (SqL.of upd_same), rfl, rfl, _, rfl, ?_⟩⟩
      rw [show inV (V.str (So.row a so).word) [V.str ("text" : Str), V.str ("row" : Str)] = true from (show inV (V.str ("row" : Str)) [V.str ("text" : Str), V.str ("row" : Str)] = true by decide +kernel)]
      have sL := same_upd (o := .lst [V.str ("text" : Str), V.str ("row" : Str)]) hL
      have s3 := s1.trans sL
      have hpo := KeepT.same sL _ _ hpo
      have hpn := KeepT.same sL _ _ hpn
      have tp3 := tp1.keep (KeepT.same sL)
      have g4 := g4.keep (KeepT.same sL)
      have g2 := g2.keep (KeepT.same sL)
      have hpt := KeepT.same sL _ _ hpt
      have hzt3 := hzt.keep (KeepC.same sL)
      have hW3 := hW.same s3
      generalize upd H2 L (.lst [V.str ("text" : Str), V.str ("row" : Str)]) = H3 at sL s3 hpo hpn tp3 hpt hzt3 g2 g4 hW3 ⊢
      have hdu : dueC (chT to) (chT tn) (.row a so) (.row b sn) rp1 (.tuple ds) = if (ds.length : Int) > b then .ref rp1 "most" else rowEnd (rowDue (fun p e => dueC (chT to) (chT tn) so sn p e) rp1 0 ds) := by
        rw [dueC_x hok1]
        show (if (ds.length : Int) > b then Rs.ref rp1 "most" else rowEnd (rowDue (fun p e => dueX (dueC (chT to) (chT tn)) (chT to) (chT tn) so sn p e) rp1 0 ds)) = _
        rw [rowDue_congr (g := fun p e => dueC (chT to) (chT tn) so sn p e) fun e he p => (dueC_x (hin e he)).symm]
      refine iteT ⟨_, rfl, .ref pt, _, rfl, .inr ⟨_, hpt, rfl⟩, _, rfl, pn, _, 1, _, rfl, rfl, hpn, at1, _, b, rfl, rfl, ?_⟩
      rw [hztl]
      by_cases hb : (ds.length : Int) > b
      · exact ⟨_, rfl, iteY hb ⟨_, rfl, by show 3 ≤ sizeLine; decide, fun t ht => refd H3 "most" sL (hdu.trans (if_pos hb)) t ht⟩⟩
      refine ⟨_, rfl, iteN hb ?_⟩
      refine ⟨_, rfl, po, _, 0, _, rfl, rfl, hpo, at0, rfl, _, rfl, iteN (sne (show ("row" : Str) ≠ "choice" by decide +kernel)) ?_⟩
      rw [hdu.trans (if_neg hb)] at q
      refine ⟨_, rfl, po, _, 0, _, rfl, rfl, hpo, at0, rfl, _, rfl, iteNY rfl ?_⟩
      refine ⟨by show 0 ≤ sizeLine; decide, fun D hD => ?_⟩
      have sD := same_upd (o := .lst []) hD
      refine ⟨_, rfl, pt, zt, rfl, KeepT.same sD _ _ hpt, ?_⟩
      obtain ⟨pp1, zp1, rfl, hpp1, hzp1⟩ := tp3.row
      have hzl1 := hzp1.len
      rw [List.length_reverse] at hzl1
      refine for_it (walk_enC (K := K) (a := pt) (xs := zt) (c := 0) (b := true)) (fun i σ H' => ∃ (y6 y7 y8 : Option V) (acc : List V) (vs : List PyData), σ = [some (.ref wl), some (.ref pp1), some (.ref po), some (.ref pn), some (.ref pt), some (.ref D), y6, y7, y8] ∧ Same H3 H' ∧ H' D = some (.lst acc) ∧ Tds K H' acc (plainlyL vs) ∧ acc.length = i ∧ rowDue (fun p e => dueC (chT to) (chT tn) so sn p e) rp1 0 ds = match rowDue (fun p e => dueC (chT to) (chT tn) so sn p e) rp1 i (ds.drop i) with | .inl ws => .inl (vs ++ ws) | .inr e => .inr e) ⟨none, none, none, [], [], rfl, sD, upd_same, .nil, rfl, ?_⟩ (fun i σ H' _ h => ?_) ?_ ?_
      · rw [List.drop_zero]
        cases rowDue (fun p e => dueC (chT to) (chT tn) so sn p e) rp1 0 ds <;> rfl
      · obtain ⟨_, _, _, _, _, _, h1, _⟩ := h
        exact KeepT.same h1 _ _ hpt
      · rintro i x σ H5 H6 hi ⟨y6, y7, y8, acc, vs, rfl, s5, hD5, hacc, hvl, hrow⟩ ⟨T1, v1, v2, rfl, hT, rfl, e1, e2⟩
        cases e1
        obtain ⟨e, he, hde⟩ := Tcs.at_ hzt3 e2
        have hem := hin e (List.mem_of_getElem? he)
        have hil : i < 6 := by omega
        have sT := same_upd (o := .tup [.int (0 + (i : Nat)), v2]) hT
        refine ⟨T1, _, rfl, SqT.of upd_same, rfl, _, _, rfl, _, _, rfl, rfl, ?_⟩
        refine ⟨_, rfl, _, rfl, _, rfl, by show 1 ≤ sizeLine; decide, fun g hg => ?_⟩
        have sg := same_upd (o := .tup [V.int (0 + (i : Nat))]) hg
        have s6 := (s5.trans sT).trans sg
        refine ⟨pp1, g, zp1, _, rfl, rfl, KeepT.same s6 _ _ hpp1, SqT.of upd_same, List.cons_ne_nil _ _, by rw [hzl1, sizeLine_eq]; show _ + 1 ≤ _; omega, fun H8 t s8 ht8 => ?_⟩
        have s7 := s6.trans s8
        have htp : Td K H8 (.ref t) (.tuple ((.int (i : Int) :: rp1).reverse)) := by
          rw [List.reverse_cons]
          refine .tup ht8 (Tds.append (hzp1.keep (KeepT.same s7)) (.cons ?_ .nil))
          rw [show (0 : Int) + (i : Nat) = (i : Int) by omega]
          exact .int _
        refine ⟨_, rfl, po, _, 2, _, rfl, rfl, KeepT.same s7 _ _ hpo, at2, _, rfl, pn, _, 2, _, rfl, rfl, KeepT.same s7 _ _ hpn, at2, _, rfl, wl, .ref t, u2, w2, v2, so, sn, e, .int (i : Int) :: rp1, to, tn, rfl, hW3.same s7, oko, okn, htp, by rw [List.length_cons]; omega, g4.keep (KeepT.same s7), g2.keep (KeepT.same s7), hde.keep (KeepC.same s7), ho1.row.1, hz1.2.2, hbz1, hbd, hem, hsn e (List.mem_of_getElem? he), by omega, fun H9 u s9 hu => ?_⟩
        have s39 := s7.trans s9
        have s59 := ((sT.trans sg).trans s8).trans s9
        cases hr : dueC (chT to) (chT tn) so sn (.int (i : Int) :: rp1) e with
        | told v =>
          rw [hr] at hu
          obtain ⟨pu, a1, a2, rfl, hpu, ha1, ha2⟩ := Td.pair (show Td K H9 u (.tuple [.str "told", plainly v]) from hu)
          obtain rfl := ha1.toStr
          refine ⟨_, rfl, pu, _, 0, _, rfl, rfl, hpu, at0, rfl, _, rfl, iteN (sne (show ("told" : Str) ≠ "refused" by decide +kernel)) ?_⟩
          have hD9 := s59 _ _ hD5
          have kD := keepT_lst (K := K) (ys := acc ++ [a2]) hD9
          refine ⟨_, rfl, .inl ⟨rfl, _, SqL.of hD9⟩, _, rfl, pu, _, 1, _, rfl, rfl, hpu, at1, D, acc, _, rfl, rfl, hD9, by rw [hvl, sizeLine_eq]; omega, ?_⟩
          refine ⟨_, _, _, acc ++ [a2], vs ++ [v], rfl, same_new s39 hD, upd_same, ?_, by rw [List.length_append, hvl]; rfl, rowDue_step hrow he hr⟩
          rw [plainlyL_snoc]
          exact Tds.append ((hacc.keep (KeepT.same s59)).keep kD) (.cons (ha2.keep kD) .nil)
        | ref p1 w1' =>
          rw [hr] at hu
          obtain ⟨pu, zu, rfl, hpu, hzu⟩ := Td.row (show Td K H9 u (.tuple [.str "refused", .tuple p1.reverse, .str w1']) from hu)
          obtain ⟨a1, a2, a3, rfl, ha1, _⟩ := hzu.c3
          obtain rfl := ha1.toStr
          refine ⟨_, rfl, pu, _, 0, _, rfl, rfl, hpu, at0, rfl, _, rfl, iteY rfl ?_⟩
          refine ⟨_, rfl, q _ (.ref pu) (s3.trans s39) ?_⟩
          rw [rowDue_stop hrow he hr]
          exact hu
      · rintro σ H5 ⟨y6, y7, y8, acc, vs, rfl, s5, hD5, hacc, hvl, hrow⟩
        rw [List.drop_of_length_le (by omega)] at hrow
        refine ⟨_, rfl, D, acc, rfl, .inl ⟨SqL.of hD5, fun t ht => ⟨by show 2 ≤ sizeLine; decide, fun t2 ht2 => ?_⟩⟩⟩
        have s6 := (same_upd (o := .tup acc) ht)
        have s7 := same_upd (o := .tup [V.str "told", .ref t]) ht2
        refine q _ (.ref t2) (s3.trans ((s5.trans s6).trans s7)) ?_
        rw [hrow]
        show Td K _ (.ref t2) (.tuple [.str "told", plainly (.tuple (vs ++ []))])
        rw [List.append_nil, plainly]
        exact .tup (SqT.of upd_same) (.cons (.str _) (.cons (.tup (KeepT.same s7 _ _ (SqT.of upd_same)) ((hacc.keep (KeepT.same s6)).keep (KeepT.same s7))) .nil))
theorem ok_due0 {CC f : Addr} {fd : FuncData} (F : Fun K "_law_due" "_law_due" s__law_due f fd) : FnOk P w K mg base CX0 1 f fd ["_law_world", "_law_path", "_law_old", "_law_new", "_law_thing_here"] (spDue K CC 0) := by
  refine F.ok sc__law_due (fun vs H Q E h => ?_) (fun cdv A outer s H vs Q E hr h => ?_)
  · obtain ⟨wl, x1, x2, x3, x4, o, z, d, rp, to, tn, rfl, hW, oko, okn, t1, hl, t2, t3, t4, ho, hz, hbz, hbd, hok, hsc, hn, q⟩ := h
    exact hsc.elim
  · obtain ⟨wl, x1, x2, x3, x4, o, z, d, rp, to, tn, rfl, hW, oko, okn, t1, hl, t2, t3, t4, ho, hz, hbz, hbd, hok, hsc, hn, q⟩ := h
    exact hsc.elim
theorem ok_due {CC f f2 : Addr} {fd fd2 : FuncData} (F : Fun K "_law_due" "_law_due" s__law_due f fd) (F2 : Fun K "_law_case" "_law_case" s__law_case f2 fd2) (T : Bu mg) (I : CaI K mg CC)
    (hm : mg "_law_due" = some (.ref f)) (kp : PySem.W.keepIn K (.ref f) = true) (b : Binds K fd ["_law_world", "_law_path", "_law_old", "_law_new", "_law_thing_here"] [])
    (hm2 : mg "_law_case" = some (.ref f2)) (kp2 : PySem.W.keepIn K (.ref f2) = true) (b2 : Binds K fd2 ["_law_world", "_law_path", "_law_old", "_law_new", "_law_thing_here"] []) : ∀ n, FnOk P w K mg base CX0 (1 + 2 * n) f fd ["_law_world", "_law_path", "_law_old", "_law_new", "_law_thing_here"] (spDue K CC n)
  | 0 => ok_due0 F
  | n + 1 => by
    have h := ok_due F F2 T I hm kp b hm2 kp2 b2 n
    have c : Cal P w K mg base (1 + 2 * n) "_law_due" ["_law_world", "_law_path", "_law_old", "_law_new", "_law_thing_here"] (spDue K CC n) := ⟨f, fd, h, hm, kp, b⟩
    exact (ok_due_step F T ⟨f2, fd2, ok_case_step F2 T I c, hm2, kp2, b2⟩ c).mono (by omega)
end
end K22
set_option maxHeartbeats 2000000
namespace K22
open PySem PySem.Spec PyProof.Rows L2 Tw Sb LamX
/-- what a step does to the jobs and to what was made -/
structure Stepc (TO TN : Ch) (cn : List Str) (js : List Jc) (ms : List PyData) (js' : List Jc) (ms' : List PyData) : Prop where
  ev : evc TO TN js ms = evc TO TN js' ms'
  lt : wtsC js' < wtsC js
  le : wtsC js' + ms'.length ≤ wtsC js + ms.length
  ok : (∀ j ∈ js, JOkc TO cn j) → ∀ j ∈ js', JOkc TO cn j
  n : okNc js ms.length → okNc js' ms'.length
section
variable {TO TN : Ch} {cn : List Str}
theorem stepc_made {o n : So} {d e : PyData} {rp : List PyData} {js : List Jc} {ms : List PyData} (h : dueC TO TN o n rp d = .told e) : Stepc TO TN cn (.turn o n d rp :: js) ms js (ms ++ [e]) := by
  have hw := wt_pos d
  refine ⟨?_, ?_, ?_, fun h j hj => h j (List.mem_cons_of_mem _ hj), fun h => ?_⟩
  · show (match dueC TO TN o n rp d with | .told v => evc TO TN js (ms ++ [v]) | .ref p w => .ref p w) = _
    rw [h]
  · show wtsC js < (wt d + _ + _) + wtsC js
    omega
  · show wtsC js + (ms ++ [e]).length ≤ (wt d + _ + _) + wtsC js + ms.length
    rw [List.length_append]
    show wtsC js + (ms.length + 1) ≤ _
    omega
  · rw [List.length_append]
    exact h
theorem stepc_on {o n o' n' : So} {d : PyData} {rp rp' : List PyData} {js : List Jc} {ms : List PyData} (h : dueC TO TN o n rp d = dueC TO TN o' n' rp' d) (hw : (Jc.turn o' n' d rp').w < (Jc.turn o n d rp).w) (hk : JOkc TO cn (.turn o n d rp) → JOkc TO cn (.turn o' n' d rp')) : Stepc TO TN cn (.turn o n d rp :: js) ms (.turn o' n' d rp' :: js) ms := by
  refine ⟨?_, ?_, ?_, fun h j hj => ?_, fun h => h⟩
  · show (match dueC TO TN o n rp d with | .told v => evc TO TN js (ms ++ [v]) | .ref p w => .ref p w) = (match dueC TO TN o' n' rp' d with | .told v => evc TO TN js (ms ++ [v]) | .ref p w => .ref p w)
    rw [h]
  · show _ + wtsC js < _ + wtsC js
    omega
  · show _ + wtsC js + ms.length ≤ _ + wtsC js + ms.length
    omega
  · rcases List.mem_cons.mp hj with rfl | hj
    · exact hk (h _ List.mem_cons_self)
    · exact h j (List.mem_cons_of_mem _ hj)
theorem stepc_row {a b : Int} {s t : So} {ds : List PyData} {rp : List PyData} {js : List Jc} {ms : List PyData} (h : vfc (.row a s) (.row b t) (.tuple ds) = none) (hk : JOkc TO cn (.turn (.row a s) (.row b t) (.tuple ds) rp)) :
    Stepc TO TN cn (.turn (.row a s) (.row b t) (.tuple ds) rp :: js) ms (turnsC s t rp 0 ds ++ .row ds.length :: js) ms := by
  have ew : wt (.tuple ds) = 2 + wtL ds := by rw [wt]
  have e : wtsC (turnsC s t rp 0 ds ++ .row ds.length :: js) < wtsC (.turn (.row a s) (.row b t) (.tuple ds) rp :: js) := by
    have h1 := wtsC_turns (a := s) (b := t) (rp := rp) (ds := ds) (k := 0)
    rw [wtsC_app]
    show wtsC (turnsC s t rp 0 ds) + (1 + wtsC js) < (wt (.tuple ds) + _ + _) + wtsC js
    omega
  obtain ⟨k1, k2, k3, k4, k5⟩ := hk
  have k4 : rp.length + (wt (.tuple ds) + _ + _) ≤ 100000 := k4
  have hrow : ThX (ThF TO 11) TO (.row a s) (.tuple ds) := k3
  obtain ⟨ds', e1, _, hds⟩ := hrow.row
  injection e1 with e1
  subst e1
  refine ⟨?_, e, by omega, fun h j hj => ?_, fun h => okNc_row h⟩
  · rw [evc_row]
    show (match dueC TO TN (.row a s) (.row b t) rp (.tuple ds) with | .told v => evc TO TN js (ms ++ [v]) | .ref p w => .ref p w) = _
    rw [show dueC TO TN (.row a s) (.row b t) rp (.tuple ds) = rowEnd (rowDue (fun p e => dueC TO TN s t p e) rp 0 ds) from dueX_row h] <;> cases rowEnd (rowDue (fun p e => dueC TO TN s t p e) rp 0 ds) <;> rfl
  · rcases List.mem_append.mp hj with hj | hj
    · exact jokc_turns k1.row.1 k2.2.2 k5 (by omega) hds j hj
    · rcases List.mem_cons.mp hj with rfl | hj
      · exact True.intro
      · exact h j (List.mem_cons_of_mem _ hj)
theorem stepc_cas {c1 c2 w : Str} {c : PyData} {e f : En} {oi ni : So} {rp : List PyData} {js : List Jc} {ms : List PyData} (he : enName (TO c1) w = some e) (hf : enRead (TN c2) e.num = some f) (ho : e.of = some oi) (hn : f.of = some ni) (k1 : oi.okc) (k2 : ni.ok [] cn false) (kt : ThC TO (.cho c1) (caseP w c)) :
    Stepc TO TN cn (.turn (.cho c1) (.cho c2) (caseP w c) rp :: js) ms (.turn oi ni c (caseS f.name :: rp) :: .cas f.name :: js) ms := by
  have ew := wt_case (w := w) (c := c)
  have b1 := b01_le (b := oi.isMay)
  have b2 := b01_le (b := ni.isMay)
  have e : wtsC (.turn oi ni c (caseS f.name :: rp) :: .cas f.name :: js) < wtsC (.turn (.cho c1) (.cho c2) (caseP w c) rp :: js) := by
    show (wt c + b01 oi.isMay + b01 ni.isMay) + (1 + wtsC js) < (wt (caseP w c) + _ + _) + wtsC js
    omega
  refine ⟨?_, e, by omega, fun h j hj => ?_, fun h => ?_⟩
  · rw [evc_cas]
    show (match dueC TO TN (.cho c1) (.cho c2) rp (caseP w c) with | .told v => evc TO TN js (ms ++ [v]) | .ref p w => .ref p w) = _
    rw [due_goC kt he hf ho hn] <;> cases dueC TO TN oi ni (caseS f.name :: rp) c <;> rfl
  · rcases List.mem_cons.mp hj with rfl | hj
    · obtain ⟨_, _, _, k4, k5⟩ := h _ List.mem_cons_self
      have k4 : rp.length + (wt (caseP w c) + b01 _ + b01 _) ≤ 100000 := k4
      have hth : ThX (ThF TO 11) TO (.cho c1) (caseP w c) := kt
      obtain ⟨w', c', e', q1, q2, q3⟩ := hth.cho
      unfold caseP at q1
      injection q1 with q1
      injection q1 with q4 q5
      injection q4 with q4
      injection q5 with q5
      subst q4 q5
      rw [he] at q2
      cases q2
      rcases q3 with ⟨q3, _⟩ | ⟨s, q3, q6⟩
      · rw [q3] at ho
        cases ho
      · rw [q3] at ho
        cases ho
        refine ⟨k1, k2, ThC.in_ q6, ?_, by rw [plainL, k5]; rfl⟩
        show rp.length + 1 + (wt c + b01 oi.isMay + b01 ni.isMay) ≤ 100000
        omega
    · rcases List.mem_cons.mp hj with rfl | hj
      · exact True.intro
      · exact h j (List.mem_cons_of_mem _ hj)
  · exact And.intro (Nat.le_add_left _ _) h
end
theorem uF_no {J M D : Addr} {o n : V} {x : Str} (h1 : (x == ("jobs" : Str)) = false) (h2 : (x == ("made" : Str)) = false) (h3 : (x == ("old" : Str)) = false) (h4 : (x == ("new" : Str)) = false) (h5 : (x == ("nodes" : Str)) = false) : (uF J M D o n).lookup x = none := by
  unfold uF
  rw [List.lookup_cons, h1]
  dsimp only
  rw [List.lookup_cons, h2]
  dsimp only
  rw [List.lookup_cons, h3]
  dsimp only
  rw [List.lookup_cons, h4]
  dsimp only
  rw [List.lookup_cons, h5]
  rfl
theorem uF_O (J M D : Addr) (o n : V) : (uF J M D o n).lookup (("old" : Str)) = some o := by
  unfold uF
  rw [List.lookup_cons, show ((("old" : Str)) == ("jobs" : Str)) = false by decide +kernel]
  dsimp only
  rw [List.lookup_cons, show ((("old" : Str)) == ("made" : Str)) = false by decide +kernel]
  dsimp only
  rw [List.lookup_cons, show ((("old" : Str)) == ("old" : Str)) = true by decide +kernel]
theorem uF_N (J M D : Addr) (o n : V) : (uF J M D o n).lookup (("new" : Str)) = some n := by
  unfold uF
  rw [List.lookup_cons, show ((("new" : Str)) == ("jobs" : Str)) = false by decide +kernel]
  dsimp only
  rw [List.lookup_cons, show ((("new" : Str)) == ("made" : Str)) = false by decide +kernel]
  dsimp only
  rw [List.lookup_cons, show ((("new" : Str)) == ("old" : Str)) = false by decide +kernel]
  dsimp only
  rw [List.lookup_cons, show ((("new" : Str)) == ("new" : Str)) = true by decide +kernel]
theorem choices_get {u1 u2 rv : V} : ([((("kinds" : Str)), u1), (("choices" : Str), u2), (("root" : Str), rv)] : List (Str × V)).lookup (("choices" : Str)) = some u2 := by
  rw [List.lookup_cons, show ((("choices" : Str)) == ("kinds" : Str)) = false by decide +kernel]
  dsimp only
  rw [List.lookup_cons, show ((("choices" : Str)) == ("choices" : Str)) = true by decide +kernel]
section
variable {P : Program} {w : World} {K : PySem.W.Frag} {mg : Str → Option Value} {base : Heap}
theorem mat_push {CC CS C : Addr} {H H4 H5 : Hp} {p J M a b : Addr} {to tn : List TRow} {js L : List Jc} {ms : List PyData} {xs us : List V} (st : MAt K CC CS C H p J M a b to tn js ms) (s : Same H H4) (hJ : H J = some (.lst xs)) (k : ∀ b o, b ≠ J → H4 b = some o → H5 b = some o) (hJ5 : H5 J = some (.lst (xs ++ us.reverse))) (hT : Tcs K CC H4 us (L.map Jc.pd)) :
    MAt K CC CS C H5 p J M a b to tn (L ++ js) ms ∧ Fr2 J M H H5 := by
  obtain ⟨⟨dx, D, h1⟩, so, sn, ⟨xs0, h2, h3⟩, ⟨ys, h4, h5⟩, ne⟩ := st
  rw [hJ] at h2
  cases h2
  have f45 : Fr2 J M H4 H5 := fun b o nb _ e => k b o nb e
  have kt : KeepC K CC H4 H5 := f45.keep (s _ _ hJ) (s _ _ h4)
  have npJ : p ≠ J := ne_of h1 hJ (by intro z; cases z)
  have f : Fr2 J M H H5 := (Fr2.same s).trans f45
  refine ⟨⟨⟨dx, D, k _ _ npJ (s _ _ h1)⟩, so.fr f hJ h4, sn.fr f hJ h4, ⟨_, hJ5, ?_⟩, ⟨ys, k _ _ ne.symm (s _ _ h4), (h5.keep (KeepC.same s)).keep kt⟩, ne⟩, f⟩
  rw [List.map_append, List.reverse_append]
  exact Tcs.append ((h3.keep (KeepC.same s)).keep kt) ((Tcs.rev hT).keep kt)
theorem keepC_lst {CC : Addr} {H : Hp} {D : Addr} {xs ys : List V} (h : H D = some (.lst xs)) : KeepC K CC H (upd H D (.lst ys)) := ⟨keepT_lst h, fun a dx fs e => by
  rw [upd_ne (ne_of e h (by intro z; cases z))]
  exact e⟩
theorem mat_made {CC CS C : Addr} {H H1 : Hp} {p J M a b : Addr} {to tn : List TRow} {js : List Jc} {ms : List PyData} {ys : List V} {v : V} {d : PyData} (st : MAt K CC CS C H p J M a b to tn js ms) (s : Same H H1) (hM : H M = some (.lst ys)) (hv : Tc K CC H1 v d) :
    MAt K CC CS C (upd H1 M (.lst (ys ++ [v]))) p J M a b to tn js (ms ++ [d]) ∧ Fr2 J M H (upd H1 M (.lst (ys ++ [v]))) := by
  obtain ⟨⟨dx, D, h1⟩, so, sn, ⟨xs, h2, h3⟩, ⟨ys0, h4, h5⟩, ne⟩ := st
  rw [hM] at h4
  cases h4
  have kt : KeepC K CC H1 (upd H1 M (.lst (ys ++ [v]))) := keepC_lst (s _ _ hM)
  have npM : p ≠ M := ne_of h1 hM (by intro z; cases z)
  have f : Fr2 J M H (upd H1 M (.lst (ys ++ [v]))) := fun b u _ nb e => by
    rw [upd_ne nb]
    exact s _ _ e
  exact ⟨⟨⟨dx, D, by rw [upd_ne npM]; exact s _ _ h1⟩, so.fr f h2 hM, sn.fr f h2 hM, ⟨xs, by rw [upd_ne ne]; exact s _ _ h2, (h3.keep (KeepC.same s)).keep kt⟩, ⟨_, upd_same, Tcs.append ((h5.keep (KeepC.same s)).keep kt) (.cons (hv.keep kt) .nil)⟩, ne⟩, f⟩
/-- a choice's row, by the schema's own table -/
theorem ch_get {CS : Addr} {H : Hp} {a : Addr} {tb : List TRow} {c : Str} (h : ChAt K CS H a tb) (ok : ChOk tb) (hc : c ∈ tb.map Prod.fst) : ∃ (dx k2 : Addr) (u1 rv : V) (kv2 : List (Key × V)) (p : Addr) (xs : List V), H a = some (.ins CS dx [("kinds", u1), ("choices", .ref k2), ("root", rv)]) ∧ H k2 = some (.dK kv2) ∧ valV kv2 (.inr c) = some (.ref p) ∧ SqT K H p xs ∧ Tds K H xs ((sortEn (chT tb c)).map En.pd) ∧ RowOk false [] (tb.map Prod.fst) (chT tb c) := by
  obtain ⟨dx, k2, u1, rv, kv2, h1, h2, h3⟩ := h
  obtain ⟨r, hr, rfl, e, hk⟩ := ok.row hc
  have hn : ((sortT tb).map Prod.fst).Nodup := by
    unfold sortT
    rw [List.map_map]
    exact ok.n
  obtain ⟨p, xs, g1, g2, g3⟩ := val_row (r := (r.1, sortEn r.2)) h3 hn (List.mem_map.mpr ⟨r, hr, rfl⟩)
  rw [e]
  exact ⟨dx, k2, u1, rv, kv2, p, xs, h1, h2, g1, g2, g3, hk⟩
end
end K22
set_option maxHeartbeats 2000000
namespace K22
open PySem PySem.Spec PyProof.Rows L2 Tw Sb LamX
def spTC (K : PySem.W.Frag) (CC CS C CT : Addr) (to tn : List TRow) : Sp := fun vs H Q E => ∃ (p J M a b : Addr) (v u y : V) (c1 c2 w : Str) (c : PyData) (e : En) (rp : List PyData) (js : List Jc) (ms : List PyData), vs = [.ref p, v, u, y] ∧ Td K H v (.tuple [(So.cho c1).pd, (So.cho c2).pd]) ∧ Tc K CC H u (caseP w c) ∧ Td K H y (wayR rp) ∧ MAt K CC CS C H p J M a b to tn js ms ∧
  ThC (chT to) (.cho c1) (caseP w c) ∧ enName (chT to c1) w = some e ∧ c1 ∈ to.map Prod.fst ∧ c2 ∈ tn.map Prod.fst ∧ rp.length ≤ 100000 ∧ wtsC js + ms.length ≤ 100000 ∧
  (∀ z, caseNow e (chT tn c2) = some z → ∀ (H' : Hp) (dd : Addr) (pv : V), Same H H' → H dd = none → H' dd = some (.xd [(("why" : Str), .str z), (("path" : Str), pv)]) → Td K H' pv (.tuple rp.reverse) → E (.ref CT) (some dd) H') ∧
  (caseNow e (chT tn c2) = none → ∀ (H' : Hp) (js' : List Jc) (ms' : List PyData), Fr2 J M H H' → MAt K CC CS C H' p J M a b to tn js' ms' → Stepc (chT to) (chT tn) (tn.map Prod.fst) (.turn (.cho c1) (.cho c2) (caseP w c) rp :: js) ms js' ms' → Q .non H')
section
variable {P : Program} {w : World} {K : PySem.W.Frag} {mg : Str → Option Value} {base : Heap}
theorem ok_turn_case {CC CS C CT fI f : Addr} {fd fd1 : FuncData} {to tn : List TRow} (F : Fun K "turn_case" "Turner.turn_case" s_Turner_turn_case f fd) (T : Bu mg) (cl : ClU K C) (cs : ClS K CS) (cc : CaC K CC) (N : NtC K mg "NoTurn" CT fI) (F1 : FnOk P w K mg base CX0 1 fI fd1 ["self", "path", "why"] (spNtInit CT)) (b1 : Binds K fd1 ["self", "path", "why"] [])
    (c_by_name : Cal P w K mg base 1 "by_name" ["row", "name"] (spByName K)) (c_case_read : Cal P w K mg base 2 "case_read" ["row", "number"] (spCRead K)) (c_path_along : Cal P w K mg base 1 "path_along" ["way"] (spPath K)) (m_do_next : MCal P w K mg base C 1 "do_next" ["self", "jobs"] (spNext C))
    (m_ca1 : MkPD P w K mg base CC 1 "Case" ["self", "word", "content"] [.non] (spCInit CC)) (oko : ChOk to) (okn : ChOk tn) :
    FnOk P w K mg base (L2.CX P w) 3 f fd ["self", "pair", "case", "way"] (spTC K CC CS C CT to tn) := by
  refine F.okX sc_Turner_turn_case (fun vs H Q E h => ?_) (fun cdv A outer s H vs Q E hr h => ?_)
  · obtain ⟨p, J, M, a, b, v, u, y, c1, c2, w, c, e, rp, js, ms, rfl, _⟩ := h
    rfl
  · obtain ⟨p, J, M, a, b, v, u, y, c1, c2, w, c, e, rp, js, ms, rfl, hv, hu0, hy, st, hth, he, hc1, hc2, hrl, hz, qe, q⟩ := h
    have hu := hu_of hr
    refine ⟨_, (pss_cons (ps_asg (pe_cal c_by_name hr (by decide) (by rfl) (pa_cons (pe_dget hu (pe_fld (pe_fld (pv 0) rfl) rfl) (pe_ix (r := rIxT K) ix_tup (pe_ix (r := rIxT K) ix_tup (pv 1) pe_int (fun _ _ => rfl)) pe_int (fun _ _ => rfl)) (fun _ _ => rfl)) (pa_cons (pe_fld (pv 2) rfl) pa_nil))) (pg_tup rfl (pgs_cons (pg_name (i := 4) sc_Turner_turn_case.nd rfl (.inl rfl)) (pgs_cons (pg_name (i := 5) sc_Turner_turn_case.nd rfl (.inl rfl)) (pgs_cons (pg_name (i := 6) sc_Turner_turn_case.nd rfl (.inl rfl)) pgs_nil)))))
      (pss_cons (ps_set (i := 7) sc_Turner_turn_case.nd rfl (.inl rfl) (pe_cal c_case_read hr (by decide) (by rfl) (pa_cons (pe_dget hu (pe_fld (pe_fld (pv 0) rfl) rfl) (pe_ix (r := rIxT K) ix_tup (pe_ix (r := rIxT K) ix_tup (pv 1) pe_int (fun _ _ => rfl)) pe_int (fun _ _ => rfl)) (fun _ _ => rfl)) (pa_cons (pv 4) pa_nil))))
      (pss_cons (ps_if (pt_cmpR op_isN (pv 7) pe_non (nomark _))
        (pss_one (ps_raise rfl (takes_of rfl rfl rfl rfl) (pmk_oex N.oex N.iC N.tI F1 hr b1 .nil pass0 (by rfl) N.g (pa_cons (pe_cal c_path_along hr (by decide) (by rfl) (pa_cons (pv 3) pa_nil)) (pa_cons pe_str pa_nil)))))
        pss_nil)
      (pss_cons (ps_asg (pv 7) (pg_tup rfl (pgs_cons (pg_name (i := 5) sc_Turner_turn_case.nd rfl (.inl rfl)) (pgs_cons (pg_name (i := 8) sc_Turner_turn_case.nd rfl (.inl rfl)) (pgs_cons (pg_name (i := 9) sc_Turner_turn_case.nd rfl (.inl rfl)) pgs_nil)))))
      (pss_one (ps_if (pt_cmpR op_isN (pv 9) pe_non (nomark _))
        (pss_one (ps_expr (pe_bm PySem.F.plainAttrs_list PySem.F.slot_list_append PySem.F.type_list_append mt_append (pe_fld (pv 0) rfl) (pa_cons (pe_mkPD m_ca1 hr (by decide) (by rfl) (pa_cons (pv 8) pa_nil)) pa_nil))))
        (pss_one (ps_if (pt_cmpR op_isN (pv 6) pe_non (nomark _))
          (pss_one (ps_raise rfl (takes_of rfl rfl rfl rfl) (pmk_oex N.oex N.iC N.tI F1 hr b1 .nil pass0 (by rfl) N.g (pa_cons (pe_cal c_path_along hr (by decide) (by rfl) (pa_cons (pv 3) pa_nil)) (pa_cons pe_str pa_nil)))))
          (pss_one (ps_expr (pe_mcal m_do_next cl.cl hr (by decide) (pv 0) (pa_cons (pe_lst (pa_cons (pe_tup (pa_cons pe_str (pa_cons (pe_tup (pa_cons (pv 6) (pa_cons (pv 9) pa_nil))) (pa_cons (pe_fld (pv 2) rfl) (pa_cons (pe_tup (pa_cons (pv 3) (pa_cons (pe_tup (pa_cons pe_str (pa_cons (pv 8) pa_nil))) pa_nil))) pa_nil))))) (pa_cons (pe_tup (pa_cons pe_str (pa_cons (pv 8) pa_nil))) pa_nil))) pa_nil)))))))))))), ?_⟩
    obtain ⟨pt, x1, x2, rfl, hpt, hx1, hx2⟩ := hv.pair
    obtain ⟨p1, z1, rfl, hp1, hz1⟩ := hx1.sort
    obtain ⟨y1, rfl, hy1⟩ := Tds.c1 (d1 := .str c1) hz1
    obtain rfl := hy1.toStr
    obtain ⟨p2, z2, rfl, hp2, hz2⟩ := hx2.sort
    obtain ⟨y2, rfl, hy2⟩ := Tds.c1 (d1 := .str c2) hz2
    obtain rfl := hy2.toStr
    obtain ⟨pc, dxc, uc, rfl, hpc, huc⟩ := hu0.case
    obtain ⟨⟨dx, D, hp⟩, so, sn, ⟨xs, hJ, hxs⟩, ⟨ys, hM, hys⟩, nJM⟩ := id st
    obtain ⟨dxa, ka, ua, ra, kva, pa, xa, ha1, ha2, ha3, ha4, ha5, oka⟩ := ch_get so oko hc1
    obtain ⟨dxb, kb, ub, rb, kvb, pb, xb, hb1, hb2, hb3, hb4, hb5, okb⟩ := ch_get sn okn hc2
    obtain ⟨hem, hen⟩ := enName_mem he
    refine ⟨_, rfl, p, C, dx, _, _, rfl, hp, cl.cl, cl.nO, uF_O _ _ _ _ _, a, CS, dxa, _, _, rfl, ha1, cs.cl, cs.nC, choices_get, _, rfl, pt, _, 0, _, rfl, rfl, hpt, at0, p1, _, 1, _, rfl, rfl, hp1, at1, ka, _, rfl, .inl ⟨kva, .inr c1, .inl ha2, rfl, ha3.symm⟩, ?_⟩
    refine ⟨_, rfl, pc, CC, dxc, _, _, rfl, hpc, cc.cl, cc.nW, caF_w, pa, xa, _, w, rfl, ha4, ha5, fun r hr' => ?_⟩
    rw [oka.name, he] at hr'
    obtain ⟨le, oke⟩ := oka.at_ hem
    obtain ⟨pr, ur, rr, rfl, hpr, hur, hrr⟩ := en_row hr'
    rw [ch_left oke] at hrr
    obtain rfl : rr = [] := by cases hrr; rfl
    refine ⟨pr, _, rfl, hpr, rfl, _, _, rfl, _, _, rfl, _, _, rfl, rfl, ?_⟩
    refine ⟨_, rfl, p, C, dx, _, _, rfl, hp, cl.cl, cl.nN, uF_N _ _ _ _ _, b, CS, dxb, _, _, rfl, hb1, cs.cl, cs.nC, choices_get, _, rfl, pt, _, 1, _, rfl, rfl, hpt, at1, p2, _, 1, _, rfl, rfl, hp2, at1, kb, _, rfl, .inl ⟨kvb, .inr c2, .inl hb2, rfl, hb3.symm⟩, ?_⟩
    refine ⟨_, rfl, pb, xb, _, e.num, rfl, hb4, hb5, fun g hg => ?_⟩
    rw [okb.read] at hg
    cases hrd : enRead (chT tn c2) e.num with
    | none =>
      rw [hrd] at hg
      obtain rfl : g = .non := hg
      have hn : caseNow e (chT tn c2) = some ("case" : Str) := by
        unfold caseNow
        rw [hrd]
      refine ⟨_, rfl, rfl, _, rfl, iteY rfl ?_⟩
      refine ⟨_, rfl, y, rp, rfl, hy, by omega, fun H2 t s2 ht2 => ⟨by show 2 ≤ 1000; decide, fun aa ha => ⟨aa, .ref t, .str "case", rfl, upd_same, fun dd g1 g2 => ⟨rfl, dd, [(("why" : Str), .str "case"), (("path" : Str), .ref t)], ?_, upd_same, ?_, ?_⟩⟩⟩⟩
      · rw [upd_ne (Ne.symm g2), upd_same]
      · rw [upd_ne g2] at g1
        exact g1
      · have g10 : H2 dd = none := by
          rw [upd_ne g2] at g1
          exact g1
        refine qe _ hn _ dd (.ref t) ?_ (s2.free g10) upd_same ?_
        · refine s2.trans fun c u e => ?_
          have n1 : c ≠ dd := ne_of_none e g10
          have n2 : c ≠ aa := ne_of_none e ha
          rw [upd_ne n1, del_ne n2, upd_ne n1, upd_ne n2, upd_ne n1, upd_ne n2]
          exact e
        · refine ht2.keep (KeepT.same fun c u e => ?_)
          have n1 : c ≠ dd := ne_of_none e g10
          have n2 : c ≠ aa := ne_of_none e ha
          rw [upd_ne n1, del_ne n2, upd_ne n1, upd_ne n2, upd_ne n1, upd_ne n2]
          exact e
    | some f =>
      rw [hrd] at hg
      obtain ⟨lf, okf⟩ := okb.at_ (enRead_mem hrd)
      obtain ⟨pf, uf, rf, rfl, hpf, huf, hrf⟩ := en_row hg
      rw [ch_left okf] at hrf
      obtain rfl : rf = [] := by cases hrf; rfl
      refine ⟨_, rfl, rfl, _, rfl, iteN (fun z => nomatch z) ?_⟩
      refine ⟨_, rfl, pf, _, rfl, hpf, rfl, _, _, rfl, _, _, rfl, _, _, rfl, rfl, ?_⟩
      cases hof : f.of with
      | none =>
        rw [hof] at huf
        obtain rfl := huf.toNone
        refine ⟨_, rfl, rfl, _, rfl, iteY rfl ?_⟩
        have hn : caseNow e (chT tn c2) = none := by
          unfold caseNow
          rw [hrd]
          dsimp only
          rw [hof]
        refine ⟨_, rfl, p, C, dx, _, _, rfl, hp, cl.cl, cl.nM, uF_M _ _ _ _ _, .inl ⟨rfl, _, SqL.of hM⟩, ?_⟩
        refine ⟨_, rfl, fun x0 dx0 hx0 hdx0 nd0 => ca_new hx0 hdx0 nd0 fun H2 s2 h2 => ⟨rfl, M, ys, _, rfl, rfl, s2 _ _ hM, by rw [hys.len, sizeLine_eq]; omega, ?_⟩⟩
        obtain ⟨st5, f5⟩ := mat_made st s2 hM (.cas h2 .non)
        exact q hn _ _ _ f5 st5 (stepc_made (due_plainC hth he hrd hof))
      | some ni =>
        rw [hof] at huf
        obtain ⟨pn, zn, rfl, hpn, hzn⟩ := Td.sort huf
        refine ⟨_, rfl, rfl, _, rfl, iteN (fun z => nomatch z) ?_⟩
        cases hoe : e.of with
        | none =>
          rw [hoe] at hur
          obtain rfl := hur.toNone
          have hn : caseNow e (chT tn c2) = some ("sort" : Str) := by
            unfold caseNow
            rw [hrd]
            dsimp only
            rw [hof]
            dsimp only
            rw [hoe]
          refine ⟨_, rfl, rfl, _, rfl, iteY rfl ?_⟩
          refine ⟨_, rfl, y, rp, rfl, hy, by omega, fun H2 t s2 ht2 => ⟨by show 2 ≤ 1000; decide, fun aa ha => ⟨aa, .ref t, .str "sort", rfl, upd_same, fun dd g1 g2 => ⟨rfl, dd, [(("why" : Str), .str "sort"), (("path" : Str), .ref t)], ?_, upd_same, ?_, ?_⟩⟩⟩⟩
          · rw [upd_ne (Ne.symm g2), upd_same]
          · rw [upd_ne g2] at g1
            exact g1
          · have g10 : H2 dd = none := by
              rw [upd_ne g2] at g1
              exact g1
            refine qe _ hn _ dd (.ref t) ?_ (s2.free g10) upd_same ?_
            · refine s2.trans fun c u e => ?_
              have n1 : c ≠ dd := ne_of_none e g10
              have n2 : c ≠ aa := ne_of_none e ha
              rw [upd_ne n1, del_ne n2, upd_ne n1, upd_ne n2, upd_ne n1, upd_ne n2]
              exact e
            · refine ht2.keep (KeepT.same fun c u e => ?_)
              have n1 : c ≠ dd := ne_of_none e g10
              have n2 : c ≠ aa := ne_of_none e ha
              rw [upd_ne n1, del_ne n2, upd_ne n1, upd_ne n2, upd_ne n1, upd_ne n2]
              exact e
        | some oi =>
          rw [hoe] at hur
          obtain ⟨po, zo, rfl, hpo, hzo⟩ := Td.sort hur
          have hn : caseNow e (chT tn c2) = none := by
            unfold caseNow
            rw [hrd]
            dsimp only
            rw [hof]
            dsimp only
            rw [hoe]
          refine ⟨_, rfl, rfl, _, rfl, iteN (fun z => nomatch z) ?_⟩
          refine ⟨_, rfl, p, dx, _, rfl, hp, uF_no (by decide +kernel) (by decide +kernel) (by decide +kernel) (by decide +kernel) (by decide +kernel), ?_⟩
          refine ⟨_, rfl, _, rfl, by show 2 ≤ sizeLine; decide, fun g1 hg1 => ?_⟩
          have s1 := same_upd (o := .tup [V.ref po, V.ref pn]) hg1
          refine ⟨_, rfl, pc, CC, dxc, _, _, rfl, s1 _ _ hpc, cc.cl, cc.nC, caF_c, ?_⟩
          refine ⟨_, rfl, _, rfl, by show 2 ≤ sizeLine; decide, fun g2 hg2 => ⟨by show 2 ≤ sizeLine; decide, fun g3 hg3 => ⟨by show 4 ≤ sizeLine; decide, fun g4 hg4 => ⟨_, rfl, by show 2 ≤ sizeLine; decide, fun g5 hg5 => ⟨by show 2 ≤ sizeLine; decide, fun L hL => ?_⟩⟩⟩⟩⟩
          have e2 := same_upd (o := .tup [V.str "case", .str f.name]) hg2
          have e3 := same_upd (o := .tup [y, .ref g2]) hg3
          have e4 := same_upd (o := .tup [V.str "turn", .ref g1, uc, .ref g3]) hg4
          have e5 := same_upd (o := .tup [V.str "case", .str f.name]) hg5
          have e6 := same_upd (o := .lst [V.ref g4, .ref g5]) hL
          have s2 := s1.trans e2
          have s3 := s2.trans e3
          have s4 := s3.trans e4
          have s5 := s4.trans e5
          have s6 := s5.trans e6
          have v1 : SqT K (upd (upd (upd (upd (upd (upd H g1 (.tup [V.ref po, V.ref pn])) g2 (.tup [V.str "case", .str f.name])) g3 (.tup [y, .ref g2])) g4 (.tup [V.str "turn", .ref g1, uc, .ref g3])) g5 (.tup [V.str "case", .str f.name])) L (.lst [V.ref g4, .ref g5])) g1 [V.ref po, V.ref pn] := SqT.of ((((e2.trans e3).trans (e4.trans e5)).trans e6) _ _ upd_same)
          have v2 : SqT K (upd (upd (upd (upd (upd (upd H g1 (.tup [V.ref po, V.ref pn])) g2 (.tup [V.str "case", .str f.name])) g3 (.tup [y, .ref g2])) g4 (.tup [V.str "turn", .ref g1, uc, .ref g3])) g5 (.tup [V.str "case", .str f.name])) L (.lst [V.ref g4, .ref g5])) g2 [V.str "case", .str f.name] := SqT.of (((e3.trans (e4.trans e5)).trans e6) _ _ upd_same)
          have v3 : SqT K (upd (upd (upd (upd (upd (upd H g1 (.tup [V.ref po, V.ref pn])) g2 (.tup [V.str "case", .str f.name])) g3 (.tup [y, .ref g2])) g4 (.tup [V.str "turn", .ref g1, uc, .ref g3])) g5 (.tup [V.str "case", .str f.name])) L (.lst [V.ref g4, .ref g5])) g3 [y, .ref g2] := SqT.of (((e4.trans e5).trans e6) _ _ upd_same)
          have v4 : SqT K (upd (upd (upd (upd (upd (upd H g1 (.tup [V.ref po, V.ref pn])) g2 (.tup [V.str "case", .str f.name])) g3 (.tup [y, .ref g2])) g4 (.tup [V.str "turn", .ref g1, uc, .ref g3])) g5 (.tup [V.str "case", .str f.name])) L (.lst [V.ref g4, .ref g5])) g4 [V.str "turn", .ref g1, uc, .ref g3] := SqT.of ((e5.trans e6) _ _ upd_same)
          have v5 : SqT K (upd (upd (upd (upd (upd (upd H g1 (.tup [V.ref po, V.ref pn])) g2 (.tup [V.str "case", .str f.name])) g3 (.tup [y, .ref g2])) g4 (.tup [V.str "turn", .ref g1, uc, .ref g3])) g5 (.tup [V.str "case", .str f.name])) L (.lst [V.ref g4, .ref g5])) g5 [V.str "case", .str f.name] := SqT.of (e6 _ _ upd_same)
          have hL6 : (upd (upd (upd (upd (upd (upd H g1 (.tup [V.ref po, V.ref pn])) g2 (.tup [V.str "case", .str f.name])) g3 (.tup [y, .ref g2])) g4 (.tup [V.str "turn", .ref g1, uc, .ref g3])) g5 (.tup [V.str "case", .str f.name])) L (.lst [V.ref g4, .ref g5])) L = some (.lst [V.ref g4, .ref g5]) := upd_same
          have nLJ : L ≠ J := fun z => by
            rw [z, s5 _ _ hJ] at hL
            cases hL
          show spNext C [.ref p, .ref L] _ (fun _ H' => Q .non H') E0
          generalize (upd (upd (upd (upd (upd (upd H g1 (.tup [V.ref po, V.ref pn])) g2 (.tup [V.str "case", .str f.name])) g3 (.tup [y, .ref g2])) g4 (.tup [V.str "turn", .ref g1, uc, .ref g3])) g5 (.tup [V.str "case", .str f.name])) L (.lst [V.ref g4, .ref g5])) = H6 at s6 v1 v2 v3 v4 v5 hL6 ⊢
          have k6 := KeepT.same (K := K) s6
          have hT : Tcs K CC H6 [.ref g4, .ref g5] ([Jc.turn oi ni c (caseS f.name :: rp), Jc.cas f.name].map Jc.pd) := by
            refine .cons (.tup v4 (.cons (.str _) (.cons (.tup v1 (.cons (Td.tc (hur.keep k6)) (.cons (Td.tc (huf.keep k6)) .nil))) (.cons (huc.keep (KeepC.same s6)) (.cons ?_ .nil))))) (.cons (.tup v5 (.cons (.str _) (.cons (.str _) .nil))) .nil)
            exact .tup v3 (.cons (Td.tc (hy.keep k6)) (.cons (.tup v2 (.cons (.str _) (.cons (.str _) .nil))) .nil))
          have hxl : xs.length ≤ 100000 := by
            have e1 := hxs.len
            rw [List.length_reverse, List.length_map] at e1
            have e2 := len_wtsC js
            omega
          refine ⟨p, dx, L, J, _, xs, _, rfl, s6 _ _ hp, uF_J _ _ _ _ _, s6 _ _ hJ, hL6, nLJ, by show xs.length + 2 ≤ 1000000; omega, fun H7 k7 hJ7 => ?_⟩
          obtain ⟨st5, f5⟩ := mat_push st s6 hJ k7 hJ7 hT
          exact q hn H7 _ _ f5 st5 (stepc_cas he hrd hoe hof ⟨_, (oke.some oi hoe).2.1⟩ (okf.some ni hof).2.1 hth)
end
end K22
set_option maxHeartbeats 2000000
namespace K22
open PySem PySem.Spec PyProof.Rows L2 Tw Sb LamX
def spBegin (K : PySem.W.Frag) (CC CS C CT : Addr) (to tn : List TRow) : Sp := fun vs H Q E => ∃ (p J M a0 b0 : Addr) (v : V) (o n : So) (d : PyData) (rp : List PyData) (js : List Jc) (ms : List PyData), vs = [.ref p, v] ∧ Tc K CC H v (Jc.turn o n d rp).pd ∧ MAt K CC CS C H p J M a0 b0 to tn js ms ∧ JOkc (chT to) (tn.map Prod.fst) (.turn o n d rp) ∧ wtsC js + ms.length ≤ 100000 ∧
  (∀ w, dueC (chT to) (chT tn) o n rp d = .ref rp w → ∀ (H' : Hp) (dd : Addr) (pv : V), Same H H' → H dd = none → H' dd = some (.xd [(("why" : Str), .str w), (("path" : Str), pv)]) → Td K H' pv (.tuple rp.reverse) → E (.ref CT) (some dd) H') ∧
  (∀ (H' : Hp) (js' : List Jc) (ms' : List PyData), Fr2 J M H H' → MAt K CC CS C H' p J M a0 b0 to tn js' ms' → Stepc (chT to) (chT tn) (tn.map Prod.fst) (.turn o n d rp :: js) ms js' ms' → Q .non H')
section
variable {P : Program} {w : World} {K : PySem.W.Frag} {mg : Str → Option Value} {base : Heap}
theorem ok_begin {CC CS C CT fI f : Addr} {fd fd1 : FuncData} {to tn : List TRow} (F : Fun K "begin" "Turner.begin" s_Turner_begin f fd) (T : Bu mg) (cl : ClU K C) (N : NtC K mg "NoTurn" CT fI) (F1 : FnOk P w K mg base CX0 1 fI fd1 ["self", "path", "why"] (spNtInit CT)) (b1 : Binds K fd1 ["self", "path", "why"] [])
    (c_pair_word : Cal P w K mg base 1 "pair_word" ["pair"] (spPW K)) (c_inner_pair : Cal P w K mg base 2 "inner_pair" ["pair"] (spInP K)) (c_value_fault : Cal P w K mg base 2 "value_fault" ["pair", "thing"] (spVF K CC (chT to))) (c_path_along : Cal P w K mg base 1 "path_along" ["way"] (spPath K)) (m_do_next : MCal P w K mg base C 1 "do_next" ["self", "jobs"] (spNext C)) (m_turn_case : MCalX P w K mg base C 3 "turn_case" ["self", "pair", "case", "way"] (spTC K CC CS C CT to tn)) (okn : ChOk tn) :
    FnOk P w K mg base (L2.CX P w) 4 f fd ["self", "job"] (spBegin K CC CS C CT to tn) := by
  refine F.okX sc_Turner_begin (fun vs H Q E h => ?_) (fun cdv A outer s H vs Q E hr h => ?_)
  · obtain ⟨p, J, M, a0, b0, v, o, n, d, rp, js, ms, rfl, _⟩ := h
    rfl
  · obtain ⟨p, J, M, a0, b0, v, o, n, d, rp, js, ms, rfl, ht, st, jk, hz, qe, q⟩ := h
    refine ⟨_, (pss_cons (ps_asg (pv 1) (pg_tup rfl (pgs_cons (pg_name (i := 2) sc_Turner_begin.nd rfl (.inl rfl)) (pgs_cons (pg_name (i := 3) sc_Turner_begin.nd rfl (.inr rfl)) (pgs_cons (pg_name (i := 4) sc_Turner_begin.nd rfl (.inl rfl)) (pgs_cons (pg_name (i := 5) sc_Turner_begin.nd rfl (.inr rfl)) pgs_nil))))))
      (pss_cons (ps_set (i := 6) sc_Turner_begin.nd rfl (.inl rfl) (pe_cal c_pair_word hr (by decide) (by rfl) (pa_cons (pv 3) pa_nil)))
      (pss_cons (ps_set (i := 7) sc_Turner_begin.nd rfl (.inl rfl) (pe_cal c_value_fault hr (by decide) (by rfl) (pa_cons (pv 3) (pa_cons (pv 4) pa_nil))))
      (pss_cons (ps_if (pt_cmpR op_notN (pv 7) pe_non (nomark _))
        (pss_one (ps_raise rfl (takes_of rfl rfl rfl rfl) (pmk_oex N.oex N.iC N.tI F1 (hr.mono (by decide)) b1 .nil pass0 (by rfl) N.g (pa_cons (pe_cal c_path_along hr (by decide) (by rfl) (pa_cons (pv 5) pa_nil)) (pa_cons (pv 7) pa_nil)))))
        pss_nil)
      (pss_one (ps_if (pt_cmpR op_eq (pv 6) pe_str (nomark _))
        (pss_cons (ps_setLc (i := 8) (own := [("at", 9), ("part", 10)]) (g := gTup K 2 (gCons (gName 9) (gCons (gName 10) gNil))) rfl sc_Turner_begin.nd rfl rfl (sw_true rfl rfl rfl (by decide +kernel)) (pi_en rfl T.n_enumerate (pa_cons (pv 4) pa_nil)) (blkOk_by (N := N_Turner_begin) (sc := defScope s_Turner_begin) (by decide +kernel)) (fun _ _ _ _ _ => (pg_tup rfl (pgs_cons (pg_name (i := 9) sc_Turner_begin.nd rfl (.inl rfl)) (pgs_cons (pg_name (i := 10) sc_Turner_begin.nd rfl (.inl rfl)) pgs_nil)))) (fun _ _ _ _ _ => pts_nil) (fun _ _ _ _ _ => (pe_tup (pa_cons pe_str (pa_cons (pe_cal c_inner_pair hr (by decide) (by rfl) (pa_cons (pv 3) pa_nil)) (pa_cons (pv 10) (pa_cons (pe_tup (pa_cons (pv 5) (pa_cons (pv 9) pa_nil))) pa_nil)))))))
        (pss_one (ps_expr (pe_mcal m_do_next cl.cl hr (by decide) (pv 0) (pa_cons (pe_lst (StX.pa_star (pv 8) (pa_cons (pe_tup (pa_cons pe_str (pa_cons (pe_callB call_len_seq (by rfl) T.n_len (by decide +kernel) (pa_cons (pv 8) pa_nil)) pa_nil))) pa_nil))) pa_nil)))))
        (pss_one (ps_if (pt_cmpR op_eq (pv 6) pe_str (nomark _))
          (pss_one (ps_expr (pe_mcalX m_turn_case cl.cl hr (by decide) (takes_of rfl rfl rfl rfl) (pv 0) (pa_cons (pv 3) (pa_cons (pv 4) (pa_cons (pv 5) pa_nil))))))
          (pss_one (ps_if (pt_cmpR op_eq (pv 6) pe_str (nomark _))
            pss_dead
            (pss_one (ps_if (pt_cmpR op_eq (pv 6) pe_str (nomark _))
              (pss_one (ps_expr (pe_mcal m_do_next cl.cl hr (by decide) (pv 0) (pa_cons (pe_lst (pa_cons (pe_tup (pa_cons pe_str (pa_cons (pe_cal c_inner_pair hr (by decide) (by rfl) (pa_cons (pv 3) pa_nil)) (pa_cons (pv 4) (pa_cons (pv 5) pa_nil))))) pa_nil)) pa_nil))))
              (pss_one (ps_if (PW.pt (pw_and (pt_cmpR op_in_seq (pv 6) (pe_tup (pa_cons pe_str (pa_cons pe_str pa_nil))) (by rfl)) (pw_and1 (pt_cmpR op_notN (pv 4) pe_non (nomark _)))))
                (pss_one (ps_expr (pe_mcal m_do_next cl.cl hr (by decide) (pv 0) (pa_cons (pe_lst (pa_cons (pe_tup (pa_cons pe_str (pa_cons (pe_cal c_inner_pair hr (by decide) (by rfl) (pa_cons (pv 3) pa_nil)) (pa_cons (pv 4) (pa_cons (pe_tup (pa_cons (pv 5) (pa_cons (pe_tup (pa_cons pe_str pa_nil)) pa_nil))) pa_nil))))) pa_nil)) pa_nil))))
                (pss_one (ps_expr (pe_bm PySem.F.plainAttrs_list PySem.F.slot_list_append PySem.F.type_list_append mt_append (pe_fld (pv 0) rfl) (pa_cons (pv 4) pa_nil)))))))))))))))))), ?_⟩
    obtain ⟨pt, zs, rfl, hpt, hzs⟩ := Tc.row (show Tc K CC H v (.tuple [.str "turn", .tuple [o.pd, n.pd], d, wayR rp]) from ht)
    obtain ⟨x1, x2, x3, x4, rfl, h1, h2, h3, h4⟩ := hzs.c4
    obtain rfl := h1.toStr
    obtain ⟨j1, j2, j3, j4, j5⟩ := jk
    have h2 := h2.td (plain_pair o n)
    have h4 := h4.td (plain_way j5)
    have jw := wt_pos d
    have j4' : rp.length ≤ 100000 := by omega
    have k := pkc_of j1 ⟨_, j2⟩
    refine ⟨_, rfl, pt, _, rfl, hpt, rfl, _, _, rfl, _, _, rfl, _, _, rfl, _, _, rfl, rfl, ?_⟩
    refine ⟨_, rfl, _, o, n, rfl, h2, ?_⟩
    refine ⟨_, rfl, _, rfl, x2, x3, o, n, d, rfl, h2, h3, j1, ⟨_, j2⟩, j3, fun H1 s1 => ?_⟩
    refine ⟨_, rfl, rfl, _, rfl, ?_⟩
    cases hvf : vfc o n d with
    | some w =>
      refine iteNN (fun z => nomatch z) ?_
      refine ⟨_, rfl, x4, rp, rfl, h4.keep (KeepT.same s1), by omega, fun H2 t s2 ht2 => ⟨_, rfl, by show 2 ≤ 1000; decide, fun a ha => ⟨a, .ref t, .str w, rfl, upd_same, fun dx g1 g2 => ⟨rfl, dx, [(("why" : Str), .str w), (("path" : Str), .ref t)], ?_, upd_same, ?_, ?_⟩⟩⟩⟩
      · rw [upd_ne (Ne.symm g2), upd_same]
      · rw [upd_ne g2] at g1
        exact g1
      · have g10 : H2 dx = none := by
          rw [upd_ne g2] at g1
          exact g1
        refine qe w (due_vfC k j3 hvf) _ dx (.ref t) ?_ ((s1.trans s2).free g10) upd_same ?_
        · refine (s1.trans s2).trans fun c u e => ?_
          have n1 : c ≠ dx := ne_of_none e g10
          have n2 : c ≠ a := ne_of_none e ha
          rw [upd_ne n1, del_ne n2, upd_ne n1, upd_ne n2, upd_ne n1, upd_ne n2]
          exact e
        · refine ht2.keep (KeepT.same fun c u e => ?_)
          have n1 : c ≠ dx := ne_of_none e g10
          have n2 : c ≠ a := ne_of_none e ha
          rw [upd_ne n1, del_ne n2, upd_ne n1, upd_ne n2, upd_ne n1, upd_ne n2]
          exact e
    | none =>
      refine iteNY rfl ?_
      obtain ⟨⟨dx, D, hp⟩, so, sn, ⟨xs, hJ, hxs⟩, ⟨ys, hM, hys⟩, nJM⟩ := id st
      have hxl : xs.length ≤ 100000 := by
        have e1 := hxs.len
        rw [List.length_reverse, List.length_map] at e1
        have e2 := len_wtsC js
        omega
      have hyl : ys.length ≤ 100000 := by
        have e1 := hys.len
        omega
      have hpn : ∀ D ov nv, (uF J M D ov nv).lookup (("do_next" : Str)) = none := fun D ov nv => uF_no (by decide +kernel) (by decide +kernel) (by decide +kernel) (by decide +kernel) (by decide +kernel)
      have push : ∀ (H4 : Hp) (L : Addr) (us : List V) (js' : List Jc), Same H H4 → H4 L = none → us.length ≤ 50 → Tcs K CC H4 us (js'.map Jc.pd) → Stepc (chT to) (chT tn) (tn.map Prod.fst) (.turn o n d rp :: js) ms (js' ++ js) ms → spNext C [.ref p, .ref L] (upd H4 L (.lst us)) (fun _ H' => Q .non H') E0 := fun H4 L us js' s4 hL hul hT hst => by
        have s5 := s4.trans (same_upd (o := .lst us) hL)
        refine ⟨p, dx, L, J, _, xs, us, rfl, s5 _ _ hp, uF_J _ _ _ _ _, s5 _ _ hJ, upd_same, (fun z => by rw [z, s4 _ _ hJ] at hL; cases hL), by omega, fun H5 k5 hJ5 => ?_⟩
        obtain ⟨st5, f5⟩ := mat_push st s5 hJ k5 hJ5 (hT.keep (KeepC.same (same_upd hL)))
        exact q H5 _ _ f5 st5 hst
      have mk : ∀ H2, Same H H2 → dueC (chT to) (chT tn) o n rp d = .told d → Q .non (upd H2 M (.lst (ys ++ [x3]))) := fun H2 s2 hd => by
        obtain ⟨st5, f5⟩ := mat_made st s2 hM (h3.keep (KeepC.same s2))
        exact q _ _ _ f5 st5 (stepc_made hd)
      generalize hW : pwS o n = W at k ⊢
      cases k with
      | num a b c e =>
        refine ⟨_, rfl, rfl, _, rfl, iteN (sne (show ("number" : Str) ≠ "row" by decide +kernel)) ?_⟩
        refine ⟨_, rfl, rfl, _, rfl, iteN (sne (show ("number" : Str) ≠ "choice" by decide +kernel)) ?_⟩
        refine ⟨_, rfl, rfl, _, rfl, iteN (sne (show ("number" : Str) ≠ "node" by decide +kernel)) ?_⟩
        refine ⟨_, rfl, rfl, _, rfl, iteN (sne (show ("number" : Str) ≠ "wrap" by decide +kernel)) ?_⟩
        refine ⟨_, rfl, by show 2 ≤ sizeLine; decide, fun t ht => ⟨t, _, rfl, .inr (SqT.of upd_same), rfl, rfl, _, rfl, ?_⟩⟩
        rw [show inV (.str ("number" : Str)) [V.str ("maybe" : Str), V.str ("force" : Str)] = false by decide +kernel]
        have s12 := s1.trans (same_upd (o := .tup [V.str ("maybe" : Str), V.str ("force" : Str)]) ht)
        generalize upd H1 t (.tup [V.str ("maybe" : Str), V.str ("force" : Str)]) = H2 at s12 ⊢
        refine iteF ?_
        exact ⟨_, rfl, p, C, dx, _, _, rfl, s12 _ _ hp, cl.cl, cl.nM, uF_M _ _ _ _ _, .inl ⟨rfl, _, SqL.of (s12 _ _ hM)⟩, _, rfl, M, ys, _, rfl, rfl, s12 _ _ hM, by rw [sizeLine_eq]; omega, mk _ s12 (due_leafC (.num a b c e) j3 hvf (by decide +kernel))⟩
      | tru =>
        refine ⟨_, rfl, rfl, _, rfl, iteN (sne (show ("truth" : Str) ≠ "row" by decide +kernel)) ?_⟩
        refine ⟨_, rfl, rfl, _, rfl, iteN (sne (show ("truth" : Str) ≠ "choice" by decide +kernel)) ?_⟩
        refine ⟨_, rfl, rfl, _, rfl, iteN (sne (show ("truth" : Str) ≠ "node" by decide +kernel)) ?_⟩
        refine ⟨_, rfl, rfl, _, rfl, iteN (sne (show ("truth" : Str) ≠ "wrap" by decide +kernel)) ?_⟩
        refine ⟨_, rfl, by show 2 ≤ sizeLine; decide, fun t ht => ⟨t, _, rfl, .inr (SqT.of upd_same), rfl, rfl, _, rfl, ?_⟩⟩
        rw [show inV (.str ("truth" : Str)) [V.str ("maybe" : Str), V.str ("force" : Str)] = false by decide +kernel]
        have s12 := s1.trans (same_upd (o := .tup [V.str ("maybe" : Str), V.str ("force" : Str)]) ht)
        generalize upd H1 t (.tup [V.str ("maybe" : Str), V.str ("force" : Str)]) = H2 at s12 ⊢
        refine iteF ?_
        exact ⟨_, rfl, p, C, dx, _, _, rfl, s12 _ _ hp, cl.cl, cl.nM, uF_M _ _ _ _ _, .inl ⟨rfl, _, SqL.of (s12 _ _ hM)⟩, _, rfl, M, ys, _, rfl, rfl, s12 _ _ hM, by rw [sizeLine_eq]; omega, mk _ s12 (due_leafC (.tru) j3 hvf (by decide +kernel))⟩
      | txt a b =>
        refine ⟨_, rfl, rfl, _, rfl, iteN (sne (show ("text" : Str) ≠ "row" by decide +kernel)) ?_⟩
        refine ⟨_, rfl, rfl, _, rfl, iteN (sne (show ("text" : Str) ≠ "choice" by decide +kernel)) ?_⟩
        refine ⟨_, rfl, rfl, _, rfl, iteN (sne (show ("text" : Str) ≠ "node" by decide +kernel)) ?_⟩
        refine ⟨_, rfl, rfl, _, rfl, iteN (sne (show ("text" : Str) ≠ "wrap" by decide +kernel)) ?_⟩
        refine ⟨_, rfl, by show 2 ≤ sizeLine; decide, fun t ht => ⟨t, _, rfl, .inr (SqT.of upd_same), rfl, rfl, _, rfl, ?_⟩⟩
        rw [show inV (.str ("text" : Str)) [V.str ("maybe" : Str), V.str ("force" : Str)] = false by decide +kernel]
        have s12 := s1.trans (same_upd (o := .tup [V.str ("maybe" : Str), V.str ("force" : Str)]) ht)
        generalize upd H1 t (.tup [V.str ("maybe" : Str), V.str ("force" : Str)]) = H2 at s12 ⊢
        refine iteF ?_
        exact ⟨_, rfl, p, C, dx, _, _, rfl, s12 _ _ hp, cl.cl, cl.nM, uF_M _ _ _ _ _, .inl ⟨rfl, _, SqL.of (s12 _ _ hM)⟩, _, rfl, M, ys, _, rfl, rfl, s12 _ _ hM, by rw [sizeLine_eq]; omega, mk _ s12 (due_leafC (.txt a b) j3 hvf (by decide +kernel))⟩
      | cho c1 c2 =>
        obtain ⟨w0, c0, e0, rfl, he0, _⟩ := ThC.cho j3
        have hc2 : c2 ∈ tn.map Prod.fst := And.right j2
        obtain ⟨r0, hr0, hr1, _⟩ := chT_row (enName_mem he0).1
        have hc1 : c1 ∈ to.map Prod.fst := List.mem_map.mpr ⟨r0, hr0, hr1⟩
        refine ⟨_, rfl, rfl, _, rfl, iteN (sne (show ("choice" : Str) ≠ "row" by decide +kernel)) ?_⟩
        refine ⟨_, rfl, rfl, _, rfl, iteY rfl ?_⟩
        refine ⟨_, rfl, p, dx, _, rfl, s1 _ _ hp, uF_no (by decide +kernel) (by decide +kernel) (by decide +kernel) (by decide +kernel) (by decide +kernel), ?_⟩
        refine ⟨_, rfl, _, rfl, _, rfl, p, J, M, a0, b0, x2, x3, x4, c1, c2, w0, c0, e0, rp, js, ms, rfl, h2.keep (KeepT.same s1), h3.keep (KeepC.same s1), h4.keep (KeepT.same s1), st.same s1, j3, he0, hc1, hc2, j4', hz, fun z hz' H' dd pv s' g1 g2 g3 => ?_, fun _ H' js' ms' f' st' sp => ?_⟩
        · exact qe z (due_now j3 he0 hz') H' dd pv (s1.trans s') (s1.free g1) g2 g3
        · exact q H' js' ms' ((Fr2.same s1).trans f') st' sp
      | bad o n g1 g2 g3 =>
        rw [vfc_bad g1 g2 g3] at hvf
        cases hvf
      | wrap o b ho =>
        refine ⟨_, rfl, rfl, _, rfl, iteN (sne (show ("wrap" : Str) ≠ "row" by decide +kernel)) ?_⟩
        refine ⟨_, rfl, rfl, _, rfl, iteN (sne (show ("wrap" : Str) ≠ "choice" by decide +kernel)) ?_⟩
        refine ⟨_, rfl, rfl, _, rfl, iteN (sne (show ("wrap" : Str) ≠ "node" by decide +kernel)) ?_⟩
        refine ⟨_, rfl, rfl, _, rfl, iteY rfl ?_⟩
        refine ⟨_, rfl, p, dx, _, rfl, s1 _ _ hp, hpn _ _ _, ?_⟩
        refine ⟨_, rfl, _, o, .may b, rfl, h2.keep (KeepT.same s1), j1, ⟨_, j2⟩, .inr (.inr (.inr hW)), fun H2 t s2 ht2 => ?_⟩
        refine ⟨_, rfl, _, rfl, by show 4 ≤ sizeLine; decide, fun g hg => ⟨by show 1 ≤ sizeLine; decide, fun L hL => ?_⟩⟩
        have sg := (s1.trans s2).trans (same_upd (o := .tup [V.str "turn", .ref t, x3, x4]) hg)
        have e1 : inO o (.may b) = o := by cases o <;> first | rfl | exact absurd ho (show ¬ (true = false) by decide)
        have e2 : inN o (.may b) = b := by cases o <;> rfl
        rw [e1, e2] at ht2
        have jb := okn_may j2
        refine push _ L _ [.turn o b d rp] sg hL (by show 1 ≤ 50; decide) (.cons ?_ .nil) (stepc_on ?_ ?_ fun _ => ⟨j1, jb.1, j3, ?_, j5⟩)
        · exact .tup (SqT.of upd_same) (.cons (.str _) (.cons (Td.tc (ht2.keep (KeepT.same (same_upd hg)))) (.cons (h3.keep (KeepC.same sg)) (.cons (Td.tc (h4.keep (KeepT.same sg))) .nil))))
        · exact due_wrapC j3 ho jb.2
        · show wt d + b01 o.isMay + b01 b.isMay < wt d + b01 o.isMay + 1
          rw [jb.2]
          exact Nat.lt_succ_self _
        · have j4 : rp.length + (wt d + b01 o.isMay + 1) ≤ 100000 := j4
          show rp.length + (wt d + b01 o.isMay + b01 b.isMay) ≤ 100000
          rw [jb.2]
          show rp.length + (wt d + b01 o.isMay + 0) ≤ 100000
          omega
      | may a b =>
        refine ⟨_, rfl, rfl, _, rfl, iteN (sne (show ("maybe" : Str) ≠ "row" by decide +kernel)) ?_⟩
        refine ⟨_, rfl, rfl, _, rfl, iteN (sne (show ("maybe" : Str) ≠ "choice" by decide +kernel)) ?_⟩
        refine ⟨_, rfl, rfl, _, rfl, iteN (sne (show ("maybe" : Str) ≠ "node" by decide +kernel)) ?_⟩
        refine ⟨_, rfl, rfl, _, rfl, iteN (sne (show ("maybe" : Str) ≠ "wrap" by decide +kernel)) ?_⟩
        refine ⟨_, rfl, by show 2 ≤ sizeLine; decide, fun t ht => ⟨t, _, rfl, .inr (SqT.of upd_same), rfl, rfl, _, rfl, ?_⟩⟩
        rw [show inV (.str ("maybe" : Str)) [V.str ("maybe" : Str), V.str ("force" : Str)] = true by decide +kernel]
        have s12 := s1.trans (same_upd (o := .tup [V.str ("maybe" : Str), V.str ("force" : Str)]) ht)
        generalize upd H1 t (.tup [V.str ("maybe" : Str), V.str ("force" : Str)]) = H2 at s12 ⊢
        by_cases hno : d = .none
        · subst hno
          obtain rfl := h3.toNone
          refine iteT ⟨_, rfl, rfl, _, rfl, iteNY rfl ?_⟩
          exact ⟨_, rfl, p, C, dx, _, _, rfl, s12 _ _ hp, cl.cl, cl.nM, uF_M _ _ _ _ _, .inl ⟨rfl, _, SqL.of (s12 _ _ hM)⟩, _, rfl, M, ys, _, rfl, rfl, s12 _ _ hM, by rw [sizeLine_eq]; omega, mk _ s12 (due_may0 j3)⟩
        · have hx3 : x3 ≠ .non := fun z => hno (by rw [z] at h3; cases h3; rfl)
          refine iteT ⟨_, rfl, rfl, _, rfl, iteNN hx3 ?_⟩
          refine ⟨_, rfl, p, dx, _, rfl, s12 _ _ hp, hpn _ _ _, ?_⟩
          refine ⟨_, rfl, _, .may a, .may b, rfl, h2.keep (KeepT.same s12), j1, ⟨_, j2⟩, .inr (.inl hW), fun H3 t s3 ht3 => ?_⟩
          refine ⟨_, rfl, _, rfl, by show 1 ≤ sizeLine; decide, fun g1 hg1 => ⟨by show 2 ≤ sizeLine; decide, fun g2 hg2 => ⟨by show 4 ≤ sizeLine; decide, fun g hg => ⟨by show 1 ≤ sizeLine; decide, fun L hL => ?_⟩⟩⟩⟩
          have sa := s12.trans s3
          have sb := sa.trans (same_upd (o := .tup [V.str "inside"]) hg1)
          have sc := sb.trans (same_upd (o := .tup [x4, .ref g1]) hg2)
          have sg := sc.trans (same_upd (o := .tup [V.str "turn", .ref t, x3, .ref g2]) hg)
          have d1 : Td K (upd H3 g1 (.tup [V.str "inside"])) (.ref g1) insideD := .tup (SqT.of upd_same) (.cons (.str _) .nil)
          have d2 : Td K (upd (upd H3 g1 (.tup [V.str "inside"])) g2 (.tup [x4, .ref g1])) (.ref g2) (wayR (insideD :: rp)) := .tup (SqT.of upd_same) (.cons (h4.keep (KeepT.same sc)) (.cons (d1.keep (KeepT.same (same_upd hg2))) .nil))
          have d3 := (((ht3.keep (KeepT.same (same_upd (o := .tup [V.str "inside"]) hg1))).keep (KeepT.same (same_upd (o := .tup [x4, .ref g1]) hg2))).keep (KeepT.same (same_upd (o := .tup [V.str "turn", .ref t, x3, .ref g2]) hg)))
          have ja := j1.may
          have hn0 : isNone d = false := by cases d <;> first | rfl | exact absurd rfl hno
          have e2 : True := True.intro
          refine push _ L _ [.turn a b d (insideD :: rp)] sg hL (by show 1 ≤ 50; decide) (.cons ?_ .nil) (stepc_on (due_mayC j3 hno) ?_ fun _ => ⟨ja.1, ?_, (j3.may).resolve_left hno, ?_, by rw [plainL, j5]; rfl⟩)
          · exact .tup (SqT.of upd_same) (.cons (.str _) (.cons (Td.tc d3) (.cons (h3.keep (KeepC.same sg)) (.cons (Td.tc (d2.keep (KeepT.same (same_upd hg)))) .nil))))
          · show wt d + b01 a.isMay + b01 b.isMay < wt d + 1 + 1
            rw [(okn_may j2).2, ja.2]
            show wt d + 0 + 0 < _
            omega
          · exact (okn_may j2).1
          · have j4 : rp.length + (wt d + 1 + 1) ≤ 100000 := j4
            show rp.length + 1 + (wt d + b01 a.isMay + b01 b.isMay) ≤ 100000
            rw [(okn_may j2).2, ja.2]
            show rp.length + 1 + (wt d + 0 + 0) ≤ 100000
            omega
      | force a n hn =>
        refine ⟨_, rfl, rfl, _, rfl, iteN (sne (show ("force" : Str) ≠ "row" by decide +kernel)) ?_⟩
        refine ⟨_, rfl, rfl, _, rfl, iteN (sne (show ("force" : Str) ≠ "choice" by decide +kernel)) ?_⟩
        refine ⟨_, rfl, rfl, _, rfl, iteN (sne (show ("force" : Str) ≠ "node" by decide +kernel)) ?_⟩
        refine ⟨_, rfl, rfl, _, rfl, iteN (sne (show ("force" : Str) ≠ "wrap" by decide +kernel)) ?_⟩
        refine ⟨_, rfl, by show 2 ≤ sizeLine; decide, fun t ht => ⟨t, _, rfl, .inr (SqT.of upd_same), rfl, rfl, _, rfl, ?_⟩⟩
        rw [show inV (.str ("force" : Str)) [V.str ("maybe" : Str), V.str ("force" : Str)] = true by decide +kernel]
        have s12 := s1.trans (same_upd (o := .tup [V.str ("maybe" : Str), V.str ("force" : Str)]) ht)
        generalize upd H1 t (.tup [V.str ("maybe" : Str), V.str ("force" : Str)]) = H2 at s12 ⊢
        by_cases hno : d = .none
        · subst hno
          obtain rfl := h3.toNone
          refine iteT ⟨_, rfl, rfl, _, rfl, iteNY rfl ?_⟩
          rw [vfc_force hn] at hvf
          cases hvf
        · have hx3 : x3 ≠ .non := fun z => hno (by rw [z] at h3; cases h3; rfl)
          refine iteT ⟨_, rfl, rfl, _, rfl, iteNN hx3 ?_⟩
          refine ⟨_, rfl, p, dx, _, rfl, s12 _ _ hp, hpn _ _ _, ?_⟩
          refine ⟨_, rfl, _, .may a, n, rfl, h2.keep (KeepT.same s12), j1, ⟨_, j2⟩, .inr (.inr (.inl hW)), fun H3 t s3 ht3 => ?_⟩
          refine ⟨_, rfl, _, rfl, by show 1 ≤ sizeLine; decide, fun g1 hg1 => ⟨by show 2 ≤ sizeLine; decide, fun g2 hg2 => ⟨by show 4 ≤ sizeLine; decide, fun g hg => ⟨by show 1 ≤ sizeLine; decide, fun L hL => ?_⟩⟩⟩⟩
          have sa := s12.trans s3
          have sb := sa.trans (same_upd (o := .tup [V.str "inside"]) hg1)
          have sc := sb.trans (same_upd (o := .tup [x4, .ref g1]) hg2)
          have sg := sc.trans (same_upd (o := .tup [V.str "turn", .ref t, x3, .ref g2]) hg)
          have d1 : Td K (upd H3 g1 (.tup [V.str "inside"])) (.ref g1) insideD := .tup (SqT.of upd_same) (.cons (.str _) .nil)
          have d2 : Td K (upd (upd H3 g1 (.tup [V.str "inside"])) g2 (.tup [x4, .ref g1])) (.ref g2) (wayR (insideD :: rp)) := .tup (SqT.of upd_same) (.cons (h4.keep (KeepT.same sc)) (.cons (d1.keep (KeepT.same (same_upd hg2))) .nil))
          have d3 := (((ht3.keep (KeepT.same (same_upd (o := .tup [V.str "inside"]) hg1))).keep (KeepT.same (same_upd (o := .tup [x4, .ref g1]) hg2))).keep (KeepT.same (same_upd (o := .tup [V.str "turn", .ref t, x3, .ref g2]) hg)))
          have ja := j1.may
          have hn0 : isNone d = false := by cases d <;> first | rfl | exact absurd rfl hno
          have e2 : inN (.may a) n = n := by cases n <;> first | rfl | exact absurd hn (show ¬ (true = false) by decide)
          rw [e2] at d3
          refine push _ L _ [.turn a n d (insideD :: rp)] sg hL (by show 1 ≤ 50; decide) (.cons ?_ .nil) (stepc_on ((due_mayC j3 hno).trans (by rw [strip_of hn])) ?_ fun _ => ⟨ja.1, ?_, (j3.may).resolve_left hno, ?_, by rw [plainL, j5]; rfl⟩)
          · exact .tup (SqT.of upd_same) (.cons (.str _) (.cons (Td.tc d3) (.cons (h3.keep (KeepC.same sg)) (.cons (Td.tc (d2.keep (KeepT.same (same_upd hg)))) .nil))))
          · show wt d + b01 a.isMay + b01 n.isMay < wt d + 1 + b01 n.isMay
            rw [ja.2]
            show wt d + 0 + _ < _
            omega
          · exact j2
          · have j4 : rp.length + (wt d + 1 + b01 n.isMay) ≤ 100000 := j4
            show rp.length + 1 + (wt d + b01 a.isMay + b01 n.isMay) ≤ 100000
            rw [ja.2]
            show rp.length + 1 + (wt d + 0 + b01 n.isMay) ≤ 100000
            omega
      | row a sa b sb =>
        obtain ⟨ds, rfl, hd6, _⟩ := ThC.row j3
        obtain ⟨pr, zr, rfl, hpr, hzr⟩ := h3.row
        have hzl := hzr.len
        refine ⟨_, rfl, rfl, _, rfl, iteY rfl ?_⟩
        have hpr1 := KeepT.same s1 _ _ hpr
        refine ⟨_, rfl, pr, zr, rfl, .inr hpr1, fun bt hb1 hb0 L hL => lc_it (walk_enC (K := K) (a := pr) (xs := zr) (c := 0) (b := bt)) (fun i H' => Same H1 H' ∧ ∃ acc, H' L = some (.lst acc) ∧ Tcs K CC H' acc ((turnsC sa sb rp 0 (ds.take i)).map Jc.pd)) ⟨same_upd hL, [], upd_same, .nil⟩ (fun i H' _ h => ?_) ?_ ?_⟩
        · cases bt with
          | true => exact Same.tupq h.1 (hb1 rfl)
          | false => exact h.1.seq (hb0 rfl)
        · rintro i x H2 H3 hi ⟨hs, acc, hL2, hacc⟩ ⟨T1, x1, y1, rfl, hT, rfl, e1, e2⟩
          cases e1
          obtain ⟨e, he, hde⟩ := Tcs.at_ hzr e2
          have nL : L ≠ T1 := ne_of_none hL2 hT
          have sT := same_upd (o := .tup [.int (0 + (i : Nat)), y1]) hT
          have s13 := (s1.trans hs).trans sT
          have hal := hacc.len
          rw [List.length_map, turnsC_len, List.length_take] at hal
          refine ⟨T1, _, rfl, SqT.of upd_same, rfl, _, _, rfl, _, _, rfl, rfl, ?_⟩
          refine ⟨rfl, _, rfl, _, .row a sa, .row b sb, rfl, h2.keep (KeepT.same s13), j1, ⟨_, j2⟩, .inl hW, fun H4 t s4 ht4 => ?_⟩
          refine ⟨_, rfl, _, rfl, _, rfl, by show 2 ≤ sizeLine; decide, fun g2 hg2 => ⟨by show 4 ≤ sizeLine; decide, fun g hg => ?_⟩⟩
          have s14 := s13.trans s4
          have sc := s14.trans (same_upd (o := .tup [x4, .int (0 + (i : Nat))]) hg2)
          have s24 := (hs.trans sT).trans s4
          have s25 := s24.trans (same_upd (o := .tup [x4, .int (0 + (i : Nat))]) hg2)
          have s2g := (sT.trans s4).trans (same_upd (o := .tup [x4, .int (0 + (i : Nat))]) hg2)
          have sg := sc.trans (same_upd (o := .tup [V.str "turn", .ref t, y1, .ref g2]) hg)
          have s2h := s2g.trans (same_upd (o := .tup [V.str "turn", .ref t, y1, .ref g2]) hg)
          have d2 : Td K (upd H4 g2 (.tup [x4, .int (0 + (i : Nat))])) (.ref g2) (wayR (.int (0 + (i : Nat)) :: rp)) := .tup (SqT.of upd_same) (.cons (h4.keep (KeepT.same sc)) (.cons (.int _) .nil))
          have d3 := (ht4.keep (KeepT.same (same_upd (o := .tup [x4, .int (0 + (i : Nat))]) hg2))).keep (KeepT.same (same_upd (o := .tup [V.str "turn", .ref t, y1, .ref g2]) hg))
          refine ⟨acc, s2h _ _ hL2, by rw [hal, sizeLine_eq]; omega, same_new ((hs.trans s2h)) hL, _, upd_same, ?_⟩
          have kL : KeepC K CC H2 (upd (upd (upd H4 g2 (.tup [x4, .int (0 + (i : Nat))])) g (.tup [V.str "turn", .ref t, y1, .ref g2])) L (.lst (acc ++ [.ref g]))) := (KeepC.same s2h).trans (keepC_lst (s2h _ _ hL2))
          have kG := keepC_lst (K := K) (CC := CC) (ys := acc ++ [V.ref g]) (s2h _ _ hL2)
          rw [show ds.take (i + 1) = ds.take i ++ [e] by rw [List.take_add_one, he]; rfl, turnsC_snoc, List.map_append]
          refine Tcs.append (hacc.keep kL) (.cons (Tc.keep kG ?_) .nil)
          have ei : ((0 + (ds.take i).length : Nat) : Int) = 0 + (i : Nat) := by
            rw [List.length_take]
            omega
          rw [ei]
          exact .tup (SqT.of upd_same) (.cons (.str _) (.cons (Td.tc d3) (.cons (hde.keep (KeepC.same sg)) (.cons (Td.tc (d2.keep (KeepT.same (same_upd hg)))) .nil))))
        · rintro H2 ⟨hs, acc, hL2, hacc⟩
          rw [List.take_of_length_le (by omega)] at hacc
          have hal := hacc.len
          rw [List.length_map, turnsC_len] at hal
          have s12 := s1.trans hs
          refine ⟨_, rfl, p, dx, _, rfl, s12 _ _ hp, hpn _ _ _, ?_⟩
          refine ⟨_, rfl, L, acc, rfl, .inr (SqL.of hL2), _, rfl, L, acc, rfl, .inl (SqL.of hL2), by show 2 ≤ sizeLine; decide, fun g hg => ⟨by rw [List.length_append, hal, sizeLine_eq]; show _ + 1 ≤ _; omega, fun L2 hL3 => ?_⟩⟩
          have sg := same_upd (o := .tup [V.str "row", .int (acc.length : Nat)]) hg
          have st2 := stepc_row (TN := chT tn) (js := js) (ms := ms) hvf ⟨j1, j2, j3, j4, j5⟩
          refine push _ L2 _ (turnsC sa sb rp 0 ds ++ [.row ds.length]) (s12.trans sg) hL3 (by rw [List.length_append, hal]; show _ + 1 ≤ 50; omega) ?_ (by rw [List.append_assoc]; exact st2)
          rw [List.map_append]
          refine Tcs.append (hacc.keep (KeepC.same sg)) (.cons ?_ .nil)
          refine .tup (SqT.of upd_same) (.cons (.str _) (.cons ?_ .nil))
          rw [hal]
          exact .int _
end
end K22
set_option maxHeartbeats 2000000
namespace K22
open PySem PySem.Spec PyProof.Rows L2 Tw Sb LamX
def spRun (K : PySem.W.Frag) (CC CS C CT : Addr) (to tn : List TRow) : Sp := fun vs H Q E => ∃ (p J M a0 b0 : Addr) (js : List Jc) (ms : List PyData), vs = [.ref p] ∧ MAt K CC CS C H p J M a0 b0 to tn js ms ∧ (∀ j ∈ js, JOkc (chT to) (tn.map Prod.fst) j) ∧ okNc js ms.length ∧ wtsC js + ms.length ≤ 100000 ∧
  (∀ d, evc (chT to) (chT tn) js ms = .told d → ∀ (H' : Hp) (v : V), Fr2 J M H H' → Tc K CC H' v d → Q v H') ∧
  (∀ rp w, evc (chT to) (chT tn) js ms = .ref rp w → ∀ (H' : Hp) (dd : Addr) (pv : V), Fr2 J M H H' → H dd = none → H' dd = some (.xd [(("why" : Str), .str w), (("path" : Str), pv)]) → Td K H' pv (.tuple rp.reverse) → E (.ref CT) (some dd) H')
section
variable {P : Program} {w : World} {K : PySem.W.Frag} {mg : Str → Option Value} {base : Heap}
theorem Fr2.free {J M b : Addr} {H H' : Hp} (f : Fr2 J M H H') (hJ : H' J ≠ none) (hM : H' M ≠ none) (e : H' b = none) : H b = none := by
  cases h : H b with
  | none => rfl
  | some o =>
    have n1 : b ≠ J := fun z => hJ (z ▸ e)
    have n2 : b ≠ M := fun z => hM (z ▸ e)
    rw [f b o n1 n2 h] at e
    cases e
theorem evc_turn_ref {TO TN : Ch} {o n : So} {d : PyData} {rp rp' : List PyData} {w : Str} {js : List Jc} {ms : List PyData} (h : dueC TO TN o n rp d = .ref rp' w) : evc TO TN (.turn o n d rp :: js) ms = .ref rp' w := by
  show (match dueC TO TN o n rp d with | .told v => evc TO TN js (ms ++ [v]) | .ref p w => .ref p w) = _
  rw [h]
theorem evc_row1 {TO TN : Ch} {k : Nat} {js : List Jc} {ms : List PyData} : evc TO TN (.row k :: js) ms = evc TO TN js (ms.take (ms.length - k) ++ [.tuple (ms.drop (ms.length - k))]) := rfl
theorem getLast_at {d : PyData} : ∀ {ms : List PyData}, ms[ms.length - 1]? = some d → ms.getLastD .none = d := by
  intro ms h
  rw [← List.getLast?_eq_getElem?] at h
  rw [List.getLastD_eq_getLast?, h]
  rfl
theorem ok_run {CC CS C CT f : Addr} {fd : FuncData} {to tn : List TRow} (F : Fun K "run" "Builder.run" s_Builder_run f fd) (T : Bu mg) (cl : ClU K C) (m_begin : MCalX P w K mg base C 4 "begin" ["self", "job"] (spBegin K CC CS C CT to tn)) (m_taken : MCal P w K mg base C 1 "taken" ["self", "many"] (spTaken C)) (m_ca2 : MkPD P w K mg base CC 1 "Case" ["self", "word", "content"] [] (spCInit CC)) : FnOk P w K mg base (L2.CX P w) 5 f fd ["self"] (spRun K CC CS C CT to tn) := by
  refine F.okX sc_Builder_run (fun vs H Q E h => ?_) (fun cdv A outer s H vs Q E hr h => ?_)
  · obtain ⟨p, J, M, a0, b0, js, ms, rfl, _⟩ := h
    rfl
  · obtain ⟨p, J, M, a0, b0, js, ms, rfl, st, jk, kn, hz, qt, qe⟩ := h
    refine ⟨_, (pss_cons (ps_while (passes_of rfl) (pt_truth (pe_fld (pv 0) rfl) (by intro _; rfl))
        (pss_cons (ps_set (i := 1) sc_Builder_run.nd rfl (.inl rfl) (pe_bm0 PySem.F.plainAttrs_list PySem.F.slot_list_pop PySem.F.type_list_pop mt_pop (pe_fld (pv 0) rfl)))
        (pss_cons (ps_set (i := 2) sc_Builder_run.nd rfl (.inl rfl) (pe_ix (r := rIxT K) ix_tup (pv 1) pe_int (fun _ _ => rfl)))
        (pss_one (ps_if (pt_cmpR op_eq (pv 2) pe_str (nomark _))
          (pss_one (ps_expr (pe_bm PySem.F.plainAttrs_list PySem.F.slot_list_append PySem.F.type_list_append mt_append (pe_fld (pv 0) rfl) (pa_cons (pe_ix (r := rIxT K) ix_tup (pv 1) pe_int (fun _ _ => rfl)) pa_nil))))
          (pss_one (ps_if (pt_cmpR op_eq (pv 2) pe_str (nomark _))
            (pss_one (ps_expr (pe_bm PySem.F.plainAttrs_list PySem.F.slot_list_append PySem.F.type_list_append mt_append (pe_fld (pv 0) rfl) (pa_cons (pe_callTy (T := "tuple") (r := rTupOf K) cr_tupK (by rfl) T.n_tuple (by decide +kernel) (pa_cons (pe_mcal m_taken cl.cl hr (by decide) (pv 0) (pa_cons (pe_ix (r := rIxT K) ix_tup (pv 1) pe_int (fun _ _ => rfl)) pa_nil)) pa_nil)) pa_nil))))
            (pss_one (ps_if (pt_cmpR op_eq (pv 2) pe_str (nomark _))
              (pss_one (ps_expr (pe_bm PySem.F.plainAttrs_list PySem.F.slot_list_append PySem.F.type_list_append mt_append (pe_fld (pv 0) rfl) (pa_cons (pe_mkPD m_ca2 hr (by decide) (by rfl) (pa_cons (pe_ix (r := rIxT K) ix_tup (pv 1) pe_int (fun _ _ => rfl)) (pa_cons (pe_bm0 PySem.F.plainAttrs_list PySem.F.slot_list_pop PySem.F.type_list_pop mt_pop (pe_fld (pv 0) rfl)) pa_nil))) pa_nil))))
              (pss_one (ps_if (pt_cmpR op_eq (pv 2) pe_str (nomark _))
                pss_dead
                (pss_one (ps_expr (pe_mcalX m_begin cl.cl hr (by decide) (takes_of rfl rfl rfl rfl) (pv 0) (pa_cons (pv 1) pa_nil)))))))))))))))
      (pss_one (ps_ret (pe_bm0 PySem.F.plainAttrs_list PySem.F.slot_list_pop PySem.F.type_list_pop mt_pop (pe_fld (pv 0) rfl))))), ?_⟩
    refine ⟨fun m σ H' => ∃ (y1 y2 : Option V) (js' : List Jc) (ms' : List PyData), m = wtsC js' ∧ σ = [some (.ref p), y1, y2] ∧ Fr2 J M H H' ∧ MAt K CC CS C H' p J M a0 b0 to tn js' ms' ∧ evc (chT to) (chT tn) js ms = evc (chT to) (chT tn) js' ms' ∧ (∀ j ∈ js', JOkc (chT to) (tn.map Prod.fst) j) ∧ okNc js' ms'.length ∧ wtsC js' + ms'.length ≤ 100000, ⟨_, none, none, js, ms, rfl, rfl, Fr2.same (Same.refl _), st, rfl, jk, kn, hz⟩, ?_⟩
    rintro m σ H1 ⟨y1, y2, js1, ms1, rfl, rfl, f1, st1, ev1, jk1, kn1, hz1⟩
    obtain ⟨⟨dx, D, hp⟩, so1, sn1, ⟨xs, hJ, hxs⟩, ⟨ys, hM, hys⟩, nJM⟩ := id st1
    refine ⟨_, rfl, p, C, dx, _, _, rfl, hp, cl.cl, cl.nJ, uF_J _ _ _ _ _, ?_⟩
    refine ⟨!xs.isEmpty, .inl ⟨xs, SqL.of hJ, rfl⟩, ?_⟩
    cases js1 with
    | nil =>
      obtain rfl : xs = [] := by
        cases hxs
        rfl
      refine iteF ?_
      have hyl := hys.len
      have k1 : 1 ≤ ms1.length := kn1
      obtain ⟨y, hy⟩ : ∃ y, ys[ys.length - 1]? = some y := ⟨_, List.getElem?_eq_getElem (by omega)⟩
      obtain ⟨d, hd, htd⟩ := Tcs.at_ hys hy
      rw [hyl] at hd
      refine ⟨_, rfl, p, C, dx, _, _, rfl, hp, cl.cl, cl.nM, uF_M _ _ _ _ _, .inl ⟨rfl, _, SqL.of hM⟩, M, ys, y, rfl, rfl, hM, hy, ?_⟩
      refine qt d (ev1.trans (congrArg Rs.told (getLast_at hd))) _ y (f1.trans fun b o nb nM e => ?_) (htd.keep (keepC_lst hM))
      rw [upd_ne nM]
      exact e
    | cons j js1 =>
      rw [List.map_cons, List.reverse_cons] at hxs
      obtain ⟨xs0, jv, rfl, hxs0, hjv⟩ := Tcs.last hxs
      rw [show (!(xs0 ++ [jv]).isEmpty) = true by cases xs0 <;> rfl]
      refine iteT ⟨_, fun _ _ h => h, ?_⟩
      have npJ : p ≠ J := ne_of hp hJ (by intro z; cases z)
      have npM : p ≠ M := ne_of hp hM (by intro z; cases z)
      refine ⟨_, rfl, p, C, dx, _, _, rfl, hp, cl.cl, cl.nJ, uF_J _ _ _ _ _, .inl ⟨rfl, _, SqL.of hJ⟩, J, _, jv, rfl, rfl, hJ, by rw [List.length_append]; exact List.getElem?_concat_length, ?_⟩
      rw [List.dropLast_concat]
      have kt := keepC_lst (K := K) (CC := CC) (ys := xs0) hJ
      have f12 : Fr2 J M H1 (upd H1 J (.lst xs0)) := fun b o nb _ e => by rw [upd_ne nb]; exact e
      have st2 : MAt K CC CS C (upd H1 J (.lst xs0)) p J M a0 b0 to tn js1 ms1 := ⟨⟨dx, D, by rw [upd_ne npJ]; exact hp⟩, so1.fr f12 hJ hM, sn1.fr f12 hJ hM, ⟨xs0, upd_same, hxs0.keep kt⟩, ⟨ys, by rw [upd_ne nJM.symm]; exact hM, hys.keep kt⟩, nJM⟩
      have hjv2 := hjv.keep kt
      generalize upd H1 J (.lst xs0) = H2 at f12 st2 hjv2 ⊢
      obtain ⟨⟨dx, D, hp2⟩, so2, sn2, ⟨xs', hJ2, hxs2⟩, ⟨ys', hM2, hys2⟩, _⟩ := id st2
      have f2 := f1.trans f12
      cases j with
      | turn o n d rp =>
        obtain ⟨pj, zs, rfl, hpj, hzs⟩ := Tc.row (show Tc K CC H2 jv (.tuple [.str "turn", .tuple [o.pd, n.pd], d, wayR rp]) from hjv2)
        obtain ⟨x1, x2, x3, x4, rfl, h1, _⟩ := hzs.c4
        obtain rfl := h1.toStr
        refine ⟨_, rfl, pj, _, 0, _, rfl, rfl, hpj, at0, ?_⟩
        refine ⟨_, rfl, rfl, _, rfl, iteN (sne (show ("turn" : Str) ≠ "keep" by decide +kernel)) ?_⟩
        refine ⟨_, rfl, rfl, _, rfl, iteN (sne (show ("turn" : Str) ≠ "row" by decide +kernel)) ?_⟩
        refine ⟨_, rfl, rfl, _, rfl, iteN (sne (show ("turn" : Str) ≠ "case" by decide +kernel)) ?_⟩
        refine ⟨_, rfl, rfl, _, rfl, iteN (sne (show ("turn" : Str) ≠ "fill" by decide +kernel)) ?_⟩
        have hz2 : wtsC (Jc.turn o n d rp :: js1) = wt d + b01 o.isMay + b01 n.isMay + wtsC js1 := rfl
        have hjk := jk1 _ List.mem_cons_self
        refine ⟨_, rfl, p, dx, _, rfl, hp2, uF_no (by decide +kernel) (by decide +kernel) (by decide +kernel) (by decide +kernel) (by decide +kernel), _, rfl, ?_⟩
        refine ⟨p, J, M, a0, b0, _, o, n, d, rp, js1, ms1, rfl, hjv2, st2, hjk, by omega, fun w hw H' dd pv s' hd hx ht => ?_, fun H' js' ms' f' st' sp => ?_⟩
        · exact qe rp w (ev1.trans (evc_turn_ref hw)) H' dd pv (f2.trans (Fr2.same s')) (f2.free (by rw [hJ2]; exact fun z => nomatch z) (by rw [hM2]; exact fun z => nomatch z) hd) hx ht
        · exact ⟨wtsC js', sp.lt, _, _, js', ms', rfl, rfl, f2.trans f', st', ev1.trans sp.ev, sp.ok jk1, sp.n kn1, Nat.le_trans sp.le hz1⟩
      | row k =>
        obtain ⟨pj, zs, rfl, hpj, hzs⟩ := Tc.row (show Tc K CC H2 jv (.tuple [.str "row", .int (k : Int)]) from hjv2)
        obtain ⟨x1, x2, rfl, h1, h2⟩ := hzs.c2
        obtain rfl := h1.toStr
        obtain rfl := h2.toInt
        have hyl := hys2.len
        obtain ⟨kk, kn2⟩ : k ≤ ms1.length ∧ okNc js1 (ms1.length - k + 1) := kn1
        refine ⟨_, rfl, pj, _, 0, _, rfl, rfl, hpj, at0, ?_⟩
        refine ⟨_, rfl, rfl, _, rfl, iteN (sne (show ("row" : Str) ≠ "keep" by decide +kernel)) ?_⟩
        refine ⟨_, rfl, rfl, _, rfl, iteY rfl ?_⟩
        have hw1 : wtsC (Jc.row k :: js1) = 1 + wtsC js1 := rfl
        refine ⟨_, rfl, p, C, dx, _, _, rfl, hp2, cl.cl, cl.nM, uF_M _ _ _ _ _, .inl ⟨rfl, _, SqL.of hM2⟩, ?_⟩
        refine ⟨_, rfl, p, dx, _, rfl, hp2, uF_no (by decide +kernel) (by decide +kernel) (by decide +kernel) (by decide +kernel) (by decide +kernel), _, rfl, pj, _, 1, _, rfl, rfl, hpj, at1, ?_⟩
        refine ⟨p, dx, M, _, ys', k, rfl, hp2, uF_M _ _ _ _ _, hM2, by omega, by omega, fun H3 t k3 ht hM3 hT3 => ?_⟩
        refine ⟨t, _, rfl, .inl ⟨SqL.of hT3, fun tp htp => ?_⟩⟩
        have nMtp : M ≠ tp := ne_of_none hM3 htp
        refine ⟨M, _, _, rfl, rfl, (by rw [upd_ne nMtp]; exact hM3), by rw [List.length_take, sizeLine_eq]; omega, ?_⟩
        have f25 : Fr2 J M H2 (upd (upd H3 tp (.tup (ys'.drop (ys'.length - k)))) M (.lst (ys'.take (ys'.length - k) ++ [.ref tp]))) := fun b o _ nM e => by
          have e3 := k3 b o nM e
          rw [upd_ne nM, upd_ne (ne_of_none e3 htp)]
          exact e3
        have npM2 : p ≠ M := ne_of hp2 hM2 (by intro z; cases z)
        have npJ2 : p ≠ J := ne_of hp2 hJ2 (by intro z; cases z)
        have kt5 : KeepC K CC H2 _ := f25.keep hJ2 hM2
        have hJ3 := k3 _ _ nJM hJ2
        refine ⟨wtsC js1, by omega, _, _, js1, ms1.take (ms1.length - k) ++ [.tuple (ms1.drop (ms1.length - k))], rfl, rfl, f2.trans f25, ⟨⟨dx, D, f25 _ _ npJ2 npM2 hp2⟩, so2.fr f25 hJ2 hM2, sn2.fr f25 hJ2 hM2, ⟨xs', ?_, hxs2.keep kt5⟩, ⟨_, upd_same, ?_⟩, nJM⟩, ev1.trans evc_row1, fun j hj => jk1 j (List.mem_cons_of_mem _ hj), ?_, ?_⟩
        · rw [upd_ne nJM, upd_ne (ne_of_none hJ3 htp)]
          exact hJ3
        · rw [hyl]
          rw [hyl] at kt5
          refine Tcs.append ((hys2.take _).keep kt5) (.cons (.tup (SqT.of ?_) ((hys2.drop _).keep kt5)) .nil)
          rw [upd_ne nMtp.symm, upd_same]
        · rw [List.length_append, List.length_take, Nat.min_eq_left (Nat.sub_le _ _)]
          exact kn2
        · rw [List.length_append, List.length_take]
          show wtsC js1 + (min (ms1.length - k) ms1.length + 1) ≤ 100000
          omega
      | cas z =>
        obtain ⟨pj, zs, rfl, hpj, hzs⟩ := Tc.row (show Tc K CC H2 jv (.tuple [.str "case", .str z]) from hjv2)
        obtain ⟨x1, x2, rfl, h1, h2⟩ := hzs.c2
        obtain rfl := h1.toStr
        obtain rfl := h2.toStr
        have hyl := hys2.len
        obtain ⟨kk, kn2⟩ : 1 ≤ ms1.length ∧ okNc js1 ms1.length := kn1
        refine ⟨_, rfl, pj, _, 0, _, rfl, rfl, hpj, at0, ?_⟩
        refine ⟨_, rfl, rfl, _, rfl, iteN (sne (show ("case" : Str) ≠ "keep" by decide +kernel)) ?_⟩
        refine ⟨_, rfl, rfl, _, rfl, iteN (sne (show ("case" : Str) ≠ "row" by decide +kernel)) ?_⟩
        refine ⟨_, rfl, rfl, _, rfl, iteY rfl ?_⟩
        have hw1 : wtsC (Jc.cas z :: js1) = 1 + wtsC js1 := rfl
        obtain ⟨y, hy⟩ : ∃ y, ys'[ys'.length - 1]? = some y := ⟨_, List.getElem?_eq_getElem (by omega)⟩
        obtain ⟨d, hd, htd⟩ := Tcs.at_ hys2 hy
        rw [hyl] at hd
        refine ⟨_, rfl, p, C, dx, _, _, rfl, hp2, cl.cl, cl.nM, uF_M _ _ _ _ _, .inl ⟨rfl, _, SqL.of hM2⟩, ?_⟩
        refine ⟨_, rfl, pj, _, 1, _, rfl, rfl, hpj, at1, ?_⟩
        refine ⟨_, rfl, p, C, dx, _, _, rfl, hp2, cl.cl, cl.nM, uF_M _ _ _ _ _, .inl ⟨rfl, _, SqL.of hM2⟩, M, ys', y, rfl, rfl, hM2, hy, ?_⟩
        have hM3 : (upd H2 M (.lst ys'.dropLast)) M = some (.lst ys'.dropLast) := upd_same
        refine fun x0 dx0 hx0 hdx0 nd0 => ca_new hx0 hdx0 nd0 fun H4 s4 h4 => ⟨rfl, M, _, _, rfl, rfl, s4 _ _ hM3, by rw [List.length_dropLast, sizeLine_eq]; omega, ?_⟩
        have npM2 : p ≠ M := ne_of hp2 hM2 (by intro z; cases z)
        have npJ2 : p ≠ J := ne_of hp2 hJ2 (by intro z; cases z)
        have f25 : Fr2 J M H2 (upd H4 M (.lst (ys'.dropLast ++ [.ref x0]))) := fun b o _ nM e => by
          rw [upd_ne nM]
          exact s4 _ _ (by rw [upd_ne nM]; exact e)
        have kt5 : KeepC K CC H2 _ := f25.keep hJ2 hM2
        have hx0M : x0 ≠ M := fun e => by
          rw [e, hM3] at hx0
          cases hx0
        have hJ5 : (upd H4 M (.lst (ys'.dropLast ++ [.ref x0]))) J = some (.lst xs') := by
          rw [upd_ne nJM]
          exact s4 _ _ (by rw [upd_ne nJM]; exact hJ2)
        have hxC : (upd H4 M (.lst (ys'.dropLast ++ [.ref x0]))) x0 = some (.ins CC dx0 (caF z y)) := by
          rw [upd_ne hx0M]
          exact h4
        have el : ms1.getLastD .none = d := getLast_at hd
        refine ⟨wtsC js1, by omega, _, _, js1, ms1.dropLast ++ [caseP z d], rfl, rfl, f2.trans f25, ⟨⟨dx, D, f25 _ _ npJ2 npM2 hp2⟩, so2.fr f25 hJ2 hM2, sn2.fr f25 hJ2 hM2, ⟨xs', hJ5, hxs2.keep kt5⟩, ⟨_, upd_same, ?_⟩, nJM⟩, ev1.trans ?_, fun j hj => jk1 j (List.mem_cons_of_mem _ hj), ?_, ?_⟩
        · rw [List.dropLast_eq_take, hyl] at kt5 hxC ⊢
          rw [List.dropLast_eq_take]
          exact Tcs.append ((hys2.take _).keep kt5) (.cons (.cas hxC (htd.keep kt5)) .nil)
        · show evc (chT to) (chT tn) js1 (ms1.dropLast ++ [caseP z (ms1.getLastD .none)]) = _
          rw [el]
        · rw [List.length_append, List.length_dropLast]
          show okNc js1 (ms1.length - 1 + 1)
          rw [Nat.sub_add_cancel kk]
          exact kn2
        · rw [List.length_append, List.length_dropLast]
          show wtsC js1 + (ms1.length - 1 + 1) ≤ 100000
          omega
end
end K22
set_option maxHeartbeats 2000000
namespace K22
open PySem PySem.Spec PyProof.Rows L2 Tw Sb LamX
/-- a schema's object: its choices, its root -/
def ScC (K : PySem.W.Frag) (CS : Addr) (H : Hp) (a : Addr) (tb : List TRow) (o : So) : Prop := ∃ (dx k2 : Addr) (u1 rv : V) (kv2 : List (Key × V)), H a = some (.ins CS dx [("kinds", u1), ("choices", .ref k2), ("root", rv)]) ∧ H k2 = some (.dK kv2) ∧ Paired (RowT K H) kv2 (sortT tb) ∧ Td K H rv o.pd
theorem ScC.keep {K : PySem.W.Frag} {CS : Addr} {H H' : Hp} {a : Addr} {tb : List TRow} {o : So} (h : ScC K CS H a tb o) (k : ∀ b u, H b = some u → (∀ C dx fs, u = .ins C dx fs → H' b = some u) ∧ (∀ kv, u = .dK kv → H' b = some u)) (kt : KeepT K H H') : ScC K CS H' a tb o := by
  obtain ⟨dx, k2, u1, rv, kv2, h1, h2, h3, h4⟩ := h
  exact ⟨dx, k2, u1, rv, kv2, (k _ _ h1).1 _ _ _ rfl, (k _ _ h2).2 _ rfl, pd_mono (fun _ _ h => RowT.keep kt h) h3, h4.keep kt⟩
theorem ScC.same {K : PySem.W.Frag} {CS : Addr} {H H' : Hp} {a : Addr} {tb : List TRow} {o : So} (h : ScC K CS H a tb o) (s : Same H H') : ScC K CS H' a tb o := h.keep (fun b o e => ⟨fun _ _ _ _ => s _ _ e, fun _ _ => s _ _ e⟩) (KeepT.same s)
theorem ScC.ch {K : PySem.W.Frag} {CS : Addr} {H : Hp} {a : Addr} {tb : List TRow} {o : So} (h : ScC K CS H a tb o) : ChAt K CS H a tb := by
  obtain ⟨dx, k2, u1, rv, kv2, h1, h2, h3, h4⟩ := h
  exact ⟨dx, k2, u1, rv, kv2, h1, h2, h3⟩
theorem root_get {u1 u2 rv : V} : ([((("kinds" : Str)), u1), (("choices" : Str), u2), (("root" : Str), rv)] : List (Str × V)).lookup (("root" : Str)) = some rv := by
  rw [List.lookup_cons, show ((("root" : Str)) == ("kinds" : Str)) = false by decide +kernel]
  dsimp only
  rw [List.lookup_cons, show ((("root" : Str)) == ("choices" : Str)) = false by decide +kernel]
  dsimp only
  rw [List.lookup_cons, show ((("root" : Str)) == ("root" : Str)) = true by decide +kernel]
def spTurned (K : PySem.W.Frag) (CC CS CT : Addr) : Sp := fun vs H Q E => ∃ (a b : Addr) (v : V) (o n : So) (d : PyData) (to tn : List TRow), vs = [.ref a, .ref b, v] ∧ ScC K CS H a to o ∧ ScC K CS H b tn n ∧ ChOk to ∧ ChOk tn ∧ Tc K CC H v d ∧ o.okc ∧ n.ok [] (tn.map Prod.fst) false ∧ ThC (chT to) o d ∧ wt d ≤ 99000 ∧
  (∀ d', dueC (chT to) (chT tn) o n [] d = .told d' → ∀ (H' : Hp) (u : V), Same H H' → Tc K CC H' u d' → Q u H') ∧
  (∀ rp w, dueC (chT to) (chT tn) o n [] d = .ref rp w → ∀ (H' : Hp) (dd : Addr) (pv : V), Same H H' → H dd = none → H' dd = some (.xd [(("why" : Str), .str w), (("path" : Str), pv)]) → Td K H' pv (.tuple rp.reverse) → E (.ref CT) (some dd) H')
section
variable {P : Program} {w : World} {K : PySem.W.Frag} {mg : Str → Option Value} {base : Heap}
theorem ok_turned {CC C CS CT f : Addr} {fd : FuncData} (F : Fun K "turned" "turned" s_turned f fd) (cl : ClU K C) (cs : ClS K CS) (m_mk : MkP P w K mg base C 2 "Turner" ["self", "old", "new"] (spTInit C)) (m_do_next : MCal P w K mg base C 1 "do_next" ["self", "jobs"] (spNext C)) (m_run : ∀ to tn, ChOk to → ChOk tn → MCalX P w K mg base C 5 "run" ["self"] (spRun K CC CS C CT to tn)) :
    FnOk P w K mg base (L2.CX P w) 6 f fd ["old", "new", "thing"] (spTurned K CC CS CT) := by
  refine F.okX sc_turned (fun vs H Q E h => ?_) (fun cdv A outer s H vs Q E hr h => ?_)
  · obtain ⟨a, b, v, o, n, d, to, tn, rfl, _⟩ := h
    rfl
  · obtain ⟨a, b, v, o, n, d, to, tn, rfl, ha, hb, oko, okn, hv, ho, hn, hd, hwt, qt, qe⟩ := h
    have m_run := m_run to tn oko okn
    refine ⟨_, (pss_cons (ps_set (i := 3) sc_turned.nd rfl (.inl rfl) (pe_mkP m_mk hr (by decide) (by rfl) (pa_cons (pv 0) (pa_cons (pv 1) pa_nil))))
      (pss_cons (ps_expr (pe_mcal m_do_next cl.cl hr (by decide) (pv 3) (pa_cons (pe_lst (pa_cons (pe_tup (pa_cons pe_str (pa_cons (pe_tup (pa_cons (pe_fld (pv 0) rfl) (pa_cons (pe_fld (pv 1) rfl) pa_nil))) (pa_cons (pv 2) (pa_cons pe_non pa_nil))))) pa_nil)) pa_nil)))
      (pss_one (ps_ret (pe_mcalX0 m_run cl.cl hr (by decide) (takes_of rfl rfl rfl rfl) (pv 3)))))), ?_⟩
    refine ⟨_, rfl, _, rfl, fun p dx hp hdx npx => ?_⟩
    have sp := (same_upd (o := .own p) hdx).trans (same_upd (o := .ins C dx []) (by rw [upd_ne npx.symm]; exact hp))
    refine ⟨p, dx, _, _, rfl, upd_same, fun H1 J M D k1 nJ nM nJM hJ1 hM1 hp1 => ⟨rfl, ?_⟩⟩
    have s1 : Same H H1 := fun c u e => k1 c u (ne_of_none e hp) (sp c u e)
    have nJp : J ≠ p := ne_of hJ1 hp1 (by intro z; cases z)
    have nMp : M ≠ p := ne_of hM1 hp1 (by intro z; cases z)
    have nJ0 : H J = none := sp.free nJ
    have nM0 : H M = none := sp.free nM
    obtain ⟨dxa, ka2, a1, ra, kva, ha1, _, _, ha2⟩ := ha.same s1
    obtain ⟨dxb, kb2, b1, rb, kvb, hb1, _, _, hb2⟩ := hb.same s1
    refine ⟨_, rfl, p, dx, _, rfl, hp1, uF_no (by decide +kernel) (by decide +kernel) (by decide +kernel) (by decide +kernel) (by decide +kernel), ?_⟩
    refine ⟨_, rfl, a, CS, dxa, _, ra, rfl, ha1, cs.cl, cs.nR, root_get, _, rfl, b, CS, dxb, _, rb, rfl, hb1, cs.cl, cs.nR, root_get, by show 2 ≤ sizeLine; decide, fun g1 hg1 => ⟨_, rfl, by show 4 ≤ sizeLine; decide, fun g2 hg2 => ⟨by show 1 ≤ sizeLine; decide, fun L hL => ?_⟩⟩⟩
    have s2 := (same_upd (o := .tup [ra, rb]) hg1).trans (same_upd (o := .tup [V.str "turn", .ref g1, v, .non]) hg2)
    have s3 := s2.trans (same_upd (o := .lst [V.ref g2]) hL)
    have hT : Tcs K CC (upd (upd H1 g1 (.tup [ra, rb])) g2 (.tup [V.str "turn", .ref g1, v, .non])) [.ref g2] ([Jc.turn o n d []].map Jc.pd) := by
      refine .cons (.tup (SqT.of upd_same) (.cons (.str _) (.cons ?_ (.cons ((hv.keep (KeepC.same s1)).keep (KeepC.same s2)) (.cons .non .nil))))) .nil
      exact .tup (SqT.of ((same_upd (o := .tup [V.str "turn", .ref g1, v, .non]) hg2) _ _ upd_same)) (.cons (Td.tc (ha2.keep (KeepT.same s2))) (.cons (Td.tc (hb2.keep (KeepT.same s2))) .nil))
    have nLJ : L ≠ J := fun z => by
      rw [z, s2 _ _ hJ1] at hL
      cases hL
    have st0 : MAt K CC CS C H1 p J M a b to tn [] [] := ⟨⟨dx, D, hp1⟩, (ha.same s1).ch, (hb.same s1).ch, ⟨[], hJ1, .nil⟩, ⟨[], hM1, .nil⟩, nJM⟩
    refine ⟨p, dx, L, J, _, [], [.ref g2], rfl, s3 _ _ hp1, uF_J _ _ _ _ _, s3 _ _ hJ1, upd_same, nLJ, by show 0 + 1 ≤ 1000000; decide, fun H5 k5 hJ5 => ?_⟩
    obtain ⟨st5, f5⟩ := mat_push st0 s3 hJ1 k5 hJ5 (hT.keep (KeepC.same (same_upd hL)))
    obtain ⟨⟨dx5, D5, hp5⟩, _, _, _, _, _⟩ := id st5
    have toS : ∀ H', Fr2 J M H5 H' → Same H H' := fun H' f c u e => by
      have n1 : c ≠ J := ne_of_none e nJ0
      have n2 : c ≠ M := ne_of_none e nM0
      exact f c u n1 n2 (f5 c u n1 n2 (s1 c u e))
    have b1' := b01_le (b := o.isMay)
    have b2' := b01_le (b := n.isMay)
    refine ⟨_, rfl, p, dx5, _, rfl, hp5, uF_no (by decide +kernel) (by decide +kernel) (by decide +kernel) (by decide +kernel) (by decide +kernel), ?_⟩
    have ev1 : evc (chT to) (chT tn) [Jc.turn o n d []] [] = match dueC (chT to) (chT tn) o n [] d with | .told v => .told v | .ref p w => .ref p w := by
      show (match dueC (chT to) (chT tn) o n [] d with | .told v => evc (chT to) (chT tn) [] ([] ++ [v]) | .ref p w => .ref p w) = _
      cases dueC (chT to) (chT tn) o n [] d <;> rfl
    refine ⟨p, J, M, a, b, [.turn o n d []] ++ [], [], rfl, st5, fun j hj => ?_, Nat.le_refl _, ?_, fun d' h H' u f t => ?_, fun rp w h H' dd pv f hd hx ht => ?_⟩
    · rw [List.append_nil, List.mem_singleton] at hj
      subst hj
      exact ⟨ho, hn, hd, (by show 0 + (wt d + b01 o.isMay + b01 n.isMay) ≤ 100000; omega), rfl⟩
    · show (wt d + b01 o.isMay + b01 n.isMay) + 0 + 0 ≤ 100000
      omega
    · rw [List.append_nil, ev1] at h
      refine qt d' ?_ H' u (toS H' f) t
      cases hdu : dueC (chT to) (chT tn) o n [] d with
      | told v => rw [hdu] at h; exact h
      | ref p w => rw [hdu] at h; cases h
    · rw [List.append_nil, ev1] at h
      refine qe rp w ?_ H' dd pv (toS H' f) ?_ hx ht
      · cases hdu : dueC (chT to) (chT tn) o n [] d with
        | told v => rw [hdu] at h; cases h
        | ref p w => rw [hdu] at h; exact h
      · refine s1.free (f5.free ?_ ?_ hd)
        · rw [hJ5]
          exact fun z => nomatch z
        · obtain ⟨_, _, _, _, ⟨ys, hy, _⟩, _⟩ := id st5
          rw [hy]
          exact fun z => nomatch z
end
end K22
set_option maxHeartbeats 2000000
namespace K22
open PySem PySem.Spec PyProof.Rows L2 Tw Sb LamX
/-- what the top says of NoTurn, for a suite that asks it -/
structure NtR (K : PySem.W.Frag) (mg : Str → Option Value) (CT CW : Addr) (c : List Addr) : Prop where
  xf : XfC K CT
  exc : ExcC K CT
  gW : mg "WireError" = some (.ref CW)
  gT : ∃ u, mg "NoTurn" = some u ∧ RelV (.ref CT) u
  nV : mg "ValueError" = none
  te : PySem.W.exmOne K (.ref CT) (.ref CW) = some true
  kT : PySem.W.kitOne K (.ref CT) (.ref CT) = some true
  kV : PySem.W.kitOne K (.ref CT) (.type "ValueError") = some true
  kO : PySem.W.kitAny K (.ref CT) (c.map Value.ref) = some false
  g1 : ∃ u, mg "NoBytes" = some u ∧ RelV (.ref (c.getD 0 0)) u
  g2 : ∃ u, mg "NoEdition" = some u ∧ RelV (.ref (c.getD 1 0)) u
  g3 : ∃ u, mg "NoLine" = some u ∧ RelV (.ref (c.getD 2 0)) u
  g4 : ∃ u, mg "NoMeeting" = some u ∧ RelV (.ref (c.getD 3 0)) u
  g5 : ∃ u, mg "NoQuestion" = some u ∧ RelV (.ref (c.getD 4 0)) u
  g6 : ∃ u, mg "NoSchema" = some u ∧ RelV (.ref (c.getD 5 0)) u
  g7 : ∃ u, mg "NoText" = some u ∧ RelV (.ref (c.getD 6 0)) u
  g8 : ∃ u, mg "NoThing" = some u ∧ RelV (.ref (c.getD 7 0)) u
  g9 : ∃ u, mg "NoWire" = some u ∧ RelV (.ref (c.getD 8 0)) u
  len : c.length = 9
def spFound (K : PySem.W.Frag) (CC CS : Addr) (m : Nat) : Sp := fun vs H Q _ => ∃ (a b : Addr) (v : V) (o z : So) (d : PyData) (to tn : List TRow), vs = [.ref a, .ref b, v] ∧ ScC K CS H a to o ∧ ScC K CS H b tn z ∧ ChOk to ∧ ChOk tn ∧ Tc K CC H v d ∧ o.okc ∧ z.ok [] (tn.map Prod.fst) false ∧ ThC (chT to) o d ∧ wt d ≤ 99000 ∧ (∀ d', dueC (chT to) (chT tn) o z [] d = .told d' → Sc m d') ∧ ∀ (H' : Hp) (u : V), Same H H' → Td K H' u (rsC (dueC (chT to) (chT tn) o z [] d)) → Q u H'
section
variable {P : Program} {w : World} {K : PySem.W.Frag} {mg : Str → Option Value} {base : Heap}
theorem nine : ∀ {c : List Addr}, c.length = 9 → ∃ a b c' d e f g h i : Addr, c = [a, b, c', d, e, f, g, h, i]
  | [_, _, _, _, _, _, _, _, _], _ => ⟨_, _, _, _, _, _, _, _, _, rfl⟩
theorem ok_found {CC CS CT CW fI f : Addr} {fd : FuncData} {c : List Addr} (F : Fun K "_law_found" "_law_found" s__law_found f fd) (T : Bu mg) (N : NtC K mg "NoTurn" CT fI) (R : NtR K mg CT CW c) (x_turned : CalX P w K mg base 6 "turned" ["old", "new", "thing"] (spTurned K CC CS CT)) (c__law_plainly : Cal P w K mg base 41 "_law_plainly" ["_law_thing_here"] (spPlain K CC 40)) :
    FnOk P w K mg base CX0 42 f fd ["_law_old", "_law_new", "_law_thing_here"] (spFound K CC CS 40) := by
  refine F.ok sc__law_found (fun vs H Q E h => ?_) (fun cdv A outer s H vs Q E hr h => ?_)
  · obtain ⟨a, b, v, o, n, d, to, tn, rfl, _⟩ := h
    rfl
  · obtain ⟨a, b, v, o, n, d, to, tn, rfl, ha, hb, oko, okn, hv, ho, hn, hd, hwt, hsc, q⟩ := h
    refine ⟨_, (pss_cons (ps_try_as (i := 4) (Wout := fun _ _ _ _ => False) rfl rfl sc__law_found.nd rfl rfl ⟨rfl, by decide, Or.inl R.gW⟩ L2.takes0 (fun W pn xe tk _ => pss_one (ps_set (i := 3) sc__law_found.nd rfl (.inl rfl) (pe_calX x_turned hr (by decide) (by rfl) tk (pa_cons (pv 0) (pa_cons (pv 1) (pa_cons (pv 2) pa_nil)))))) (fun a oe cls d pn hz hf => pss_cons (ps_set (i := 5) sc__law_found.nd rfl (.inl rfl) (pe_callB (id := "isinstance") (call_isXT R.exc hz hf) (by rfl) T.n_isinstance (by decide +kernel) (pa_cons (pv 4) (pa_cons (pe_tup (pa_cons (C8.pe_gc rfl R.g1) (pa_cons (C8.pe_gc rfl R.g2) (pa_cons (C8.pe_gc rfl R.g3) (pa_cons (C8.pe_gc rfl R.g4) (pa_cons (C8.pe_gc rfl R.g5) (pa_cons (C8.pe_gc rfl R.g6) (pa_cons (C8.pe_gc rfl R.g7) (pa_cons (C8.pe_gc rfl R.g8) (pa_cons (C8.pe_gc rfl R.g9) pa_nil)))))))))) pa_nil)))) (pss_cons (ps_if (PW.pt (pw_or (pt_val (pv 5)) (pw_or (pt_not (pt_val (pe_callB (id := "isinstance") (call_isX (X := (cxOf CX0 P w K mg base N__law_found "_law_found" (defScope s__law_found) f cdv A outer s H E).nox) (a := a) (pn := pn) R.exc hz hf) (by rfl) T.n_isinstance (by decide +kernel) (pa_cons (pv 4) (pa_cons (C8.pe_gc rfl R.gT) pa_nil))))) (pw_or1 (pt_not (pt_val (pe_callB (id := "isinstance") (call_isX (X := (cxOf CX0 P w K mg base N__law_found "_law_found" (defScope s__law_found) f cdv A outer s H E).nox) (a := a) (pn := pn) R.exc hz hf) (by rfl) T.n_isinstance (by decide +kernel) (pa_cons (pv 4) (pa_cons (pe_bltn (v := .ty "ValueError") rfl R.nV (by decide +kernel) rfl) pa_nil)))))))))  (pss_one (ps_ret (pe_tup (pa_cons pe_str (pa_cons pe_non pa_nil))))) pss_nil) (pss_one (ps_ret (pe_tup (pa_cons pe_str (pa_cons (pe_xf R.xf N.no hz hf (pv 4)) (pa_cons (pe_xf R.xf N.no2 hz hf (pv 4)) pa_nil)))))))))
      (pss_one (ps_ret (pe_tup (pa_cons pe_str (pa_cons (pe_cal c__law_plainly hr (by decide) (by rfl) (pa_cons (pv 3) pa_nil)) pa_nil)))))), ?_⟩
    refine ⟨_, rfl, _, rfl, _, rfl, a, b, v, o, n, d, to, tn, rfl, ha, hb, oko, okn, hv, ho, hn, hd, hwt, fun d' hdu H' u s' hu => ?_, fun rp w hdu H' dd pv s' hdd hx hpv => ?_⟩
    · rw [hdu] at q
      refine ⟨_, rfl, u, d', rfl, hu, hsc d' hdu, fun H2 v s2 hv => ⟨by show 2 ≤ sizeLine; decide, fun t ht => q _ (.ref t) (s'.trans (s2.trans (same_upd ht))) ?_⟩⟩
      exact .tup (SqT.of upd_same) (.cons (.str _) (.cons (hv.keep (KeepT.same (same_upd ht))) .nil))
    · rw [hdu] at q
      obtain ⟨c0, c1, c2, c3, c4, c5, c6, c7, c8, rfl⟩ := nine R.len
      refine ⟨true, R.te, fun _ a0 ha0 => ?_, fun z => nomatch z⟩
      refine ⟨_, rfl, by show 9 ≤ sizeLine; decide, fun tp htp => ?_⟩
      have sp := same_upd (o := .tup [V.ref c0, V.ref c1, V.ref c2, V.ref c3, V.ref c4, V.ref c5, V.ref c6, V.ref c7, V.ref c8]) htp
      refine ⟨tp, _, _, false, dd, _, rfl, rfl, rfl, sp _ _ hx, upd_same, .cons (.own _) (.cons (.own _) (.cons (.own _) (.cons (.own _) (.cons (.own _) (.cons (.own _) (.cons (.own _) (.cons (.own _) (.cons (.own _) .nil)))))))), R.kO, ?_⟩
      have hx2 := sp _ _ hx
      have hpv2 := hpv.keep (KeepT.same sp)
      refine ⟨_, rfl, false, rfl, iteF ?_⟩
      refine ⟨_, rfl, _, _, true, dd, _, rfl, rfl, rfl, hx2, fun u h => h, R.kT, true, rfl, iteF ?_⟩
      refine ⟨_, rfl, _, _, true, dd, _, rfl, rfl, rfl, hx2, fun u h => h, R.kV, true, rfl, ?_⟩
      refine ⟨_, rfl, rfl, rfl, dd, _, pv, rfl, hx2, (by first | rfl | decide +kernel), _, rfl, rfl, rfl, dd, _, .str w, rfl, hx2, (by first | rfl | decide +kernel), by show 3 ≤ sizeLine; decide, fun t ht => ?_⟩
      · exact q _ (.ref t) ((s'.trans sp).trans (same_upd ht)) (.tup (SqT.of upd_same) (.cons (.str _) (.cons (hpv2.keep (KeepT.same (same_upd ht))) (.cons (.str _) .nil))))
end
end K22
/-! TgE: != of two told things that are one. -/
namespace Tw
open PySem PySem.Spec PyProof.Rows L2
section
variable {K : PySem.W.Frag} {H : Hp}
mutual
theorem Td.plain : ∀ {v : V} {d : PyData}, Td K H v d → d.plain = true
  | _, _, .non => rfl
  | _, _, .bl b => rfl
  | _, _, .int n => rfl
  | _, _, .str s => rfl
  | _, _, .tup q r => by
    rw [PyData.plain]
    exact Tds.plain r
theorem Tds.plain : ∀ {vs : List V} {ds : List PyData}, Tds K H vs ds → PyData.plainAll ds = true
  | _, _, .nil => rfl
  | _, _, .cons h r => by
    rw [PyData.plainAll, Td.plain h, Tds.plain r]
    rfl
end
end
/-- a != b, of the same data -/
def rNeP (K : PySem.W.Frag) : R2 := fun x y H Q => ∃ d, Td K H x d ∧ Td K H y d ∧ PyData.depth d ≤ 60 ∧ Q (.bl false) H
theorem op_neP {X : Cx} (hu : X.A.units + 64 < cLine) : OpR X (compareOp .NotEq) (rNeP X.K) := by
  intro pins s σ H x y v u Q I rx ry h
  obtain ⟨d, hx, hy, hd, q⟩ := h
  obtain ⟨as, r1⟩ := Dp.reads I d x v hx.dp rx
  obtain ⟨bs, r2⟩ := Dp.reads I d y u hy.dp ry
  refine SeqAt.ne_plain r1 r2 hx.plain hx.plain (by rw [Nat.min_self]; omega) ⟨.bl false, H, I, ?_, q⟩
  show RelV (.bl false) (.bool (!PyData.eqv d d))
  rw [SeqAt.eqv_refl_plain d hx.plain]
  rfl
end Tw
set_option maxHeartbeats 2000000
namespace K22
open PySem PySem.Spec PyProof.Rows L2 Tw Sb LamX
theorem sc_mono : ∀ {n m : Nat} {d : PyData}, Sc n d → n ≤ m → Sc m d
  | 0, _, _, h, _ => h.elim
  | n + 1, 0, _, _, h => absurd h (by omega)
  | n + 1, m + 1, d, h, l => by
    rcases h with h | ⟨ds, e, h1, h2⟩ | ⟨w, c, e, h1⟩
    · exact .inl h
    · exact .inr (.inl ⟨ds, e, h1, fun x hx => sc_mono (h2 x hx) (by omega)⟩)
    · exact .inr (.inr ⟨w, c, e, sc_mono h1 (by omega)⟩)
theorem depthAll_le {n : Nat} : ∀ {ds : List PyData}, (∀ d ∈ ds, PyData.depth d ≤ n) → PyData.depthAll ds ≤ n
  | [], _ => Nat.zero_le _
  | d :: r, h => by
    rw [PyData.depthAll]
    exact Nat.max_le.mpr ⟨h d List.mem_cons_self, depthAll_le fun e he => h e (List.mem_cons_of_mem _ he)⟩
theorem plainlyL_mem : ∀ {ds : List PyData} {e : PyData}, e ∈ plainlyL ds → ∃ d ∈ ds, e = plainly d
  | [], e, h => by
    rw [plainlyL] at h
    exact nomatch h
  | d :: r, e, h => by
    rw [plainlyL] at h
    rcases List.mem_cons.mp h with rfl | h
    · exact ⟨d, List.mem_cons_self, rfl⟩
    · obtain ⟨x, hx, e⟩ := plainlyL_mem h
      exact ⟨x, List.mem_cons_of_mem _ hx, e⟩
theorem sc_depth : ∀ {n : Nat} {d : PyData}, Sc n d → PyData.depth (plainly d) ≤ n
  | 0, _, h => h.elim
  | n + 1, d, h => by
    rcases h with h | ⟨ds, rfl, h1, h2⟩ | ⟨w, c, rfl, h1⟩
    · cases d <;> first | exact Nat.zero_le _ | exact h.elim
    · rw [plainly]
      show PyData.depthAll (plainlyL ds) + 1 ≤ n + 1
      refine Nat.succ_le_succ (depthAll_le fun e he => ?_)
      obtain ⟨x, hx, rfl⟩ := plainlyL_mem he
      exact sc_depth (h2 x hx)
    · rw [plainly_case]
      show max 0 (max 0 (max (PyData.depth (plainly c)) 0)) + 1 ≤ n + 1
      have := sc_depth h1
      omega
def Pt (rp : List PyData) : Prop := ∀ e ∈ rp, PyData.depth e ≤ 1
def RsG (m : Nat) : Rs → Prop
  | .told d => Sc m d
  | .ref rp _ => Pt rp
theorem RsG.mono {n m : Nat} : ∀ {r : Rs}, RsG n r → n ≤ m → RsG m r
  | .told _, h, l => sc_mono h l
  | .ref _ _, h, _ => h
theorem rs_depth {m : Nat} (hm : 2 ≤ m) : ∀ {r : Rs}, RsG m r → PyData.depth (rsC r) ≤ m + 1
  | .told d, h => by
    have := sc_depth h
    show max 0 (max (PyData.depth (plainly d)) 0) + 1 ≤ m + 1
    omega
  | .ref rp w, h => by
    have := depthAll_le (n := 1) (ds := rp.reverse) fun e he => h e (List.mem_reverse.mp he)
    show max 0 (max (PyData.depthAll rp.reverse + 1) (max 0 0)) + 1 ≤ m + 1
    omega
theorem Pt.cons {rp : List PyData} {s : PyData} (h : Pt rp) (hs : PyData.depth s ≤ 1) : Pt (s :: rp) := fun e he => by
  rcases List.mem_cons.mp he with rfl | he
  · exact hs
  · exact h e he
/-- what cases may hold is not deep -/
def Flat (TO : Ch) : Prop := ∀ c, ∀ e ∈ TO c, ∀ s, e.of = some s → s.depth ≤ 1
section
variable {r1 : So → PyData → Prop} {rec : So → So → List PyData → PyData → Rs} {TO TN : Ch} {b : Nat}
theorem thX_sc (D : Flat TO) (hb : 1 ≤ b) (hr : ∀ s c, r1 s c → s.depth ≤ 1 → Sc b c) : ∀ {o : So} {d : PyData}, ThX r1 TO o d → Sc (b + 1 + o.depth) d
  | .num _ _, d, h => by
    obtain ⟨z, rfl⟩ := h.num
    exact sc_mono (n := 1) (.inl True.intro) (by omega)
  | .tru, d, h => by
    obtain ⟨z, rfl⟩ := h.tru
    exact sc_mono (n := 1) (.inl True.intro) (by omega)
  | .txt _, d, h => by
    obtain ⟨z, rfl, _⟩ := h.txt
    exact sc_mono (n := 1) (.inl True.intro) (by omega)
  | .row k s, d, h => by
    obtain ⟨ds, rfl, h1, h2⟩ := h.row
    exact (.inr (.inl ⟨ds, rfl, by omega, fun e he => thX_sc D hb hr (h2 e he)⟩) : Sc (b + 1 + s.depth + 1) (.tuple ds))
  | .may s, d, h => by
    rcases h.may with rfl | h
    · exact sc_mono (n := 1) (.inl True.intro) (by omega)
    · exact sc_mono (thX_sc D hb hr h) (show b + 1 + s.depth ≤ b + 1 + (s.depth + 1) by omega)
  | .nod _, d, h => by cases d <;> exact h.elim
  | .cho a, d, h => by
    obtain ⟨w, c, e, rfl, h1, h2⟩ := h.cho
    refine (.inr (.inr ⟨w, c, rfl, ?_⟩) : Sc (b + 1) (caseP w c))
    rcases h2 with ⟨_, rfl⟩ | ⟨s, hs, h2⟩
    · exact sc_mono (n := 1) (.inl True.intro) hb
    · exact hr s c h2 (D a e (enName_mem h1).1 s hs)
theorem rowDue_sc {f : List PyData → PyData → Rs} {rp : List PyData} {n : Nat} (hp : Pt rp) : ∀ {ds : List PyData} {k : Nat}, (∀ d ∈ ds, ∀ i : Int, RsG n (f (.int i :: rp) d)) → match rowDue f rp k ds with
    | .inl vs => vs.length = ds.length ∧ ∀ v ∈ vs, Sc n v
    | .inr e => Pt e.1
  | [], k, h => And.intro rfl fun v hv => nomatch hv
  | d :: r, k, h => by
    have h0 := h d List.mem_cons_self (k : Int)
    have ih := rowDue_sc (f := f) (rp := rp) (n := n) hp (ds := r) (k := k + 1) fun e he => h e (List.mem_cons_of_mem _ he)
    unfold rowDue
    cases hd : f (.int (k : Int) :: rp) d with
    | ref p w =>
      rw [hd] at h0
      exact h0
    | told v =>
      rw [hd] at h0
      cases hq : rowDue f rp (k + 1) r with
      | inr e =>
        rw [hq] at ih
        exact ih
      | inl vs =>
        rw [hq] at ih
        refine And.intro (by rw [List.length_cons, List.length_cons, ih.1]) fun u hu => ?_
        rcases List.mem_cons.mp hu with rfl | hu
        · exact h0
        · exact ih.2 u hu
theorem dueX_sc (D : Flat TO) (hb : 1 ≤ b) (hr : ∀ s c n rp, r1 s c → s.depth ≤ 1 → Pt rp → RsG b (rec s n rp c)) : ∀ {o n : So} {rp : List PyData} {d : PyData}, ThX r1 TO o d → Pt rp → RsG (b + 1 + o.depth) (dueX rec TO TN o n rp d)
  | .num lo hi, n, rp, d, h, hp => by
    have R : ∀ w, RsG (b + 1 + 0) (.ref rp w) := fun w => hp
    obtain ⟨z, rfl⟩ := h.num
    unfold dueX
    cases n.strip with
    | num a c =>
      show RsG (b + 1 + 0) (if withinB z a c = true then Rs.told (.int z) else .ref rp "bounds")
      by_cases g : withinB z a c = true
      · rw [if_pos g]
        exact sc_mono (n := 1) (.inl True.intro) (by omega)
      · rw [if_neg g]
        exact R _
    | _ => exact R _
  | .tru, n, rp, d, h, hp => by
    have R : ∀ w, RsG (b + 1 + 0) (.ref rp w) := fun w => hp
    obtain ⟨z, rfl⟩ := h.tru
    unfold dueX
    cases n.strip with
    | tru => exact (sc_mono (n := 1) (.inl True.intro) (by omega) : Sc (b + 1 + 0) (.bool z))
    | _ => exact R _
  | .txt k, n, rp, d, h, hp => by
    have R : ∀ w, RsG (b + 1 + 0) (.ref rp w) := fun w => hp
    obtain ⟨z, rfl, _⟩ := h.txt
    unfold dueX
    cases n.strip with
    | txt a =>
      show RsG (b + 1 + 0) (if (z.length : Int) > a then Rs.ref rp "most" else .told (.str z))
      by_cases g : (z.length : Int) > a
      · rw [if_pos g]
        exact R _
      · rw [if_neg g]
        exact sc_mono (n := 1) (.inl True.intro) (by omega)
    | _ => exact R _
  | .row k s, n, rp, d, h, hp => by
    have R : ∀ w, RsG (b + 1 + (s.depth + 1)) (.ref rp w) := fun w => hp
    obtain ⟨ds, rfl, h1, h2⟩ := h.row
    unfold dueX
    cases n.strip with
    | row a t =>
      show RsG (b + 1 + (s.depth + 1)) (if (ds.length : Int) > a then Rs.ref rp "most" else rowEnd (rowDue (fun p e => dueX rec TO TN s t p e) rp 0 ds))
      by_cases g : (ds.length : Int) > a
      · rw [if_pos g]
        exact R _
      · rw [if_neg g]
        have ih := rowDue_sc (f := fun p e => dueX rec TO TN s t p e) (n := b + 1 + s.depth) hp (ds := ds) (k := 0) fun d hd i => dueX_sc D hb hr (h2 d hd) (hp.cons (Nat.zero_le _))
        cases hq : rowDue (fun p e => dueX rec TO TN s t p e) rp 0 ds with
        | inl vs =>
          rw [hq] at ih
          exact (.inr (.inl ⟨vs, rfl, by have := ih.1; omega, ih.2⟩) : Sc (b + 1 + s.depth + 1) (.tuple vs))
        | inr e =>
          rw [hq] at ih
          exact ih
    | _ => exact R _
  | .may s, n, rp, d, h, hp => by
    show RsG (b + 1 + (s.depth + 1)) (if isNone d = true then (if n.isMay = true then Rs.told .none else .ref rp "nothing") else dueX rec TO TN s n.strip (insideD :: rp) d)
    by_cases g : isNone d = true
    · rw [if_pos g]
      by_cases g2 : n.isMay = true
      · rw [if_pos g2]
        exact (sc_mono (n := 1) (.inl True.intro) (by omega) : Sc (b + 1 + (s.depth + 1)) .none)
      · rw [if_neg g2]
        exact hp
    · rw [if_neg g]
      exact RsG.mono (dueX_sc D hb hr (h.may.resolve_left fun q => g (by rw [q] <;> rfl)) (hp.cons (Nat.le_refl _))) (by omega)
  | .nod k, n, rp, d, h, hp => by cases d <;> exact h.elim
  | .cho a, n, rp, d, h, hp => by
    have R : ∀ w, RsG (b + 1 + 0) (.ref rp w) := fun w => hp
    obtain ⟨w, c, e, rfl, h1, h2⟩ := h.cho
    show RsG (b + 1 + 0) (match n.strip, caseP w c with | .cho b, .list [.str w, c] => caseC rec (TO a) (TN b) rp w c | _, _ => .ref rp "sort")
    cases n.strip with
    | cho t =>
      show RsG (b + 1 + 0) (caseC rec (TO a) (TN t) rp w c)
      unfold caseC
      rw [h1]
      dsimp only
      cases enRead (TN t) e.num with
      | none => exact R _
      | some f =>
        dsimp only
        cases f.of with
        | none => exact (.inr (.inr ⟨f.name, .none, rfl, sc_mono (n := 1) (.inl True.intro) hb⟩) : Sc (b + 1) _)
        | some ni =>
          dsimp only
          rcases h2 with ⟨h2, _⟩ | ⟨s, h2, h3⟩
          · rw [h2]
            exact R _
          · rw [h2]
            dsimp only
            have hg := hr s c ni (caseS f.name :: rp) h3 (D a e (enName_mem h1).1 s h2) (hp.cons (Nat.le_refl _))
            cases hd : rec s ni (caseS f.name :: rp) c with
            | told v =>
              rw [hd] at hg
              exact (.inr (.inr ⟨f.name, v, rfl, hg⟩) : Sc (b + 1) _)
            | ref p x =>
              rw [hd] at hg
              exact hg
    | _ => exact R _
end
theorem thF_sc {TO : Ch} (D : Flat TO) : ∀ {k : Nat} {o : So} {d : PyData}, ThF TO k o d → Sc (3 * k + o.depth) d
  | 0, _, _, h => h.elim
  | k + 1, o, d, h => sc_mono (thX_sc (r1 := ThF TO k) (b := 3 * k + 1) D (by omega) (fun s c h hs => sc_mono (thF_sc D h) (by omega)) h) (by omega)
theorem dueF_sc {TO TN : Ch} (D : Flat TO) : ∀ {k : Nat} {o n : So} {rp : List PyData} {d : PyData}, ThF TO k o d → Pt rp → RsG (3 * k + o.depth) (dueF TO TN k o n rp d)
  | 0, _, _, _, _, h, _ => h.elim
  | k + 1, o, n, rp, d, h, hp => RsG.mono (dueX_sc (r1 := ThF TO k) (rec := dueF TO TN k) (b := 3 * k + 1) D (by omega) (fun s c n rp h hs hp => RsG.mono (dueF_sc D h hp) (by omega)) h hp) (by omega)
end K22
/-! TwD2: is a dict empty (by ==); an instance made by keywords. -/
namespace Tw
open PySem PySem.Spec PyProof.Rows L2
def rEqE : R2 := fun x y H Q => ∃ (a b : Addr) (ks : List (Key × V)), x = .ref a ∧ y = .ref b ∧ H a = some (.dK ks) ∧ H b = some (.dK []) ∧ Q (.bl (decide (ks = []))) H
theorem op_eqE {X : Cx} (hu : X.A.units + 64 < cLine) : OpR X (compareOp .Eq) rEqE := by
  intro pins s σ H x y v u Q I rx ry ⟨a, b, ks, ex, ey, ha, hb, q⟩
  subst ex ey
  obtain rfl : v = Value.ref a := rx
  obtain rfl : u = Value.ref b := ry
  obtain ⟨_, na, va, ra, da⟩ := (show ObjOk X.prog X.w H s.heap a (.dK ks) from I.hok a _ ha)
  obtain ⟨_, nb, vb, rb, db⟩ := (show ObjOk X.prog X.w H s.heap b (.dK []) from I.hok b _ hb)
  obtain rfl : vb = [] := List.eq_nil_of_length_eq_zero rb.length.symm
  refine PySem.W.rcP_dicts (knd := mixKind X.prog X.w) (r := true) na nb da db (by omega) (fun h => ?_) _ _ ?_
  · obtain rfl : va = [] := List.eq_nil_of_length_eq_zero h
    exact .nil
  · refine ⟨.bl _, H, I, ?_, q⟩
    have e := ra.length
    cases ks with
    | nil =>
      obtain rfl : va = [] := List.eq_nil_of_length_eq_zero e.symm
      rfl
    | cons k r =>
      cases va with
      | nil => cases e
      | cons => rfl
structure MkK (P : Program) (w : World) (K : PySem.W.Frag) (mg : Str → Option Value) (base : Heap) (C : Addr) (k : Nat) (x : Str) (n : Nat) (ks : List Str) (gV : List V → List V → List V) (sp : Sp) : Prop where
  ex : ∃ (f : Addr) (fd : FuncData) (ps : List Str) (g : List Value → List Value → List Value), Mk K C f ∧ FnOk P w K mg base CX0 k f fd ps sp ∧ KBn K fd ps (n + 1) ks g gV
  gC : mg x = some (.ref C)
section
variable {X : Cx} {j k n : Nat} {C : Addr} {x : Str} {ks : List Str} {gV : List V → List V → List V} {sp : Sp} {e : Expr} {es : List Expr} {kws : List Keyword} {t tk : TA} {pos p : Pos}
theorem pe_mkK (M : MkK X.prog X.w X.K X.mg X.base C k x n ks gV sp) (hr : Room j X.A) (hk : k + 1 ≤ j) (hg : Gl X x) (ha : PA X (e :: es) t) (hkw : PK X kws tk)
    (hall : (backToKw pos (keywordEach kws X.env)).all (·.1.isSome) = true := by rfl) (hks : (backToKw pos (keywordEach kws X.env)).filterMap (·.1) = ks := by rfl) (hdb : (x == ("__debug__" : Str)) = false := by decide)
    (he : starEach (e :: es) X.env = (false, eval e X.env) :: starEach es X.env := by rfl) (hpl : ((backTo pos (starEach (e :: es) X.env)).any (·.1) || (backToKw pos (keywordEach kws X.env)).any (·.1.isNone)) = false := by rfl) :
    PE X (.Call (.Name x p) (e :: es) kws pos) (tMakeK C n ks.length sp gV E0 t tk) := by
  obtain ⟨f, fd, ps, g, hm, F, b⟩ := M.ex
  exact pe_makeK hm F (hr.mono hk) hg M.gC b pass0 ha hkw hall hks hdb he hpl
theorem pe_mkK0 (M : MkK X.prog X.w X.K X.mg X.base C k x 0 ks gV sp) (hr : Room j X.A) (hk : k + 1 ≤ j) (hg : Gl X x) (hkw : PK X kws tk)
    (hall : (backToKw pos (keywordEach kws X.env)).all (·.1.isSome) = true := by rfl) (hks : (backToKw pos (keywordEach kws X.env)).filterMap (·.1) = ks := by rfl) (hdb : (x == ("__debug__" : Str)) = false := by decide)
    (hpl : ((backTo pos (starEach [] X.env)).any (·.1) || (backToKw pos (keywordEach kws X.env)).any (·.1.isNone)) = false := by rfl) :
    PE X (.Call (.Name x p) [] kws pos) (tMakeK C 0 ks.length sp gV E0 tNil tk) := by
  obtain ⟨f, fd, ps, g, hm, F, b⟩ := M.ex
  exact pe_makeK0 hm F (hr.mono hk) hg M.gC b pass0 hkw hall hks hdb hpl
end
end Tw
set_option maxHeartbeats 4000000
/-! TwLst: a list that may be looked at only, and a list, as one. -/
namespace Tw
open PySem PySem.Spec PySem.P PyProof.Rows L2 Sb
theorem join_any (p q : Addr) (us ws : Array Value) (i j : Nat) (o1 o2 : Array (Option Value)) (hz : us.size + ws.size ≤ sizeLine) :
    Meets (Builtin.«list.__add__» ⟨[.ref p, .ref q], []⟩) fun _ R s =>
      s.heap.get? p = some ⟨.type "list", none, .seq us i, o1⟩ ∧ s.heap.get? q = some ⟨.type "list", none, .seq ws j, o2⟩ ∧
        R (.ok (.ret (Value.ref s.heap.objs.size))) { s with heap := s.heap.push { cls := Value.type "list", data := Data.seq (us ++ ws) }, toks := s.toks } :=
  .of_wp fun prog w A R s h => by
    obtain ⟨hp, g, d, tk, os⟩ := s
    obtain ⟨e1, e2, h⟩ := h
    have f2 := sub_list_list
    wp_walk using wpAny_loadPart' e1, wpAny_loadPart' e2
    exact ⟨_, rfl, h⟩
def rCatL (K : PySem.W.Frag) : R2 := fun x y H Q => ∃ l b xs zs, x = .ref l ∧ y = .ref b ∧ SqL K H l xs ∧ H b = some (.lst zs) ∧ xs.length + zs.length ≤ sizeLine ∧ ∀ p, H p = none → Q (.ref p) (upd H p (.lst (xs ++ zs)))
theorem op_catL {X : Cx} : OpR X (binaryOp .Add) (rCatL X.K) := by
  intro pins s σ H x y v u Q I rx ry h
  obtain ⟨l, b, xs, zs, rfl, rfl, hH, hB, hz, q⟩ := h
  cases rx
  cases ry
  obtain ⟨us, r1, p1, _⟩ := I.list hH
  obtain ⟨ws, r2, p2, _⟩ := I.list (SqL.of hB)
  obtain ⟨⟨c1, d1, t1, o1⟩, n1, e1, k1, m1, w1⟩ := p1
  obtain ⟨⟨c2, d2, t2, o2⟩, n2, e2, k2, m2, w2⟩ := p2
  simp only at k1 m1 w1 k2 m2 w2
  subst k1 m1 w1 k2 m2 w2
  refine concat_meets ⟨_, e1, rfl⟩ ⟨_, e2, rfl⟩ noFill_list_add seq_list_add PySem.F.slot_list_add PySem.F.entry_list_add (PySem.F.args_list_add_2 _ _) (join_any l b us.toArray ws.toArray n1 n2 o1 o2 (by rw [List.size_toArray, List.size_toArray, ← r1.length, ← r2.length]; exact hz)) ⟨e1, e2, ?_⟩
  rw [show us.toArray ++ ws.toArray = (us ++ ws).toArray by simp]
  exact ⟨.ref _, _, I.lnew (t' := s.toks) (r1.append r2) (by rw [List.length_append]; omega), rfl, q _ I.fresh⟩
end Tw
set_option maxHeartbeats 4000000
namespace K22
open PySem PySem.Spec PyProof.Rows L2 Tw Sb LamX
def spLaw2 (K : PySem.W.Frag) (TS : List (Addr × Str)) : Sp := fun vs H Q _ => ∃ (a : Addr) (ns : List Int), vs = [.ref a] ∧ SqL K H a (ns.map V.int) ∧ ns.length ≤ 63 ∧ Tabs TS H ∧ ∀ H', Q (.bl true) H'
def mkV3 : List V → List V → List V := fun vs zs => vs ++ zs
theorem SqL.keep_ {K : PySem.W.Frag} {H H' : Hp} {a : Addr} {xs : List V} (h : SqL K H a xs) (s : Same H H') : SqL K H' a xs := by
  rcases h with (h | ⟨o, h⟩) | h
  · exact .inl (.inl (s _ _ h))
  · exact .inl (.inr ⟨o, s _ _ h⟩)
  · exact .inr h
/-- one of four -/
def pickV {α : Type} (r : Int) (a b c d : α) : α := if r = 1 then b else if r = 2 then c else if r = 0 then a else d
theorem pick4 {r : Int} {a b c d : V} (h0 : 0 ≤ r) (h1 : r < 4) : atI [a, b, c, d] r = some (pickV r a b c d) := by
  obtain rfl | rfl | rfl | rfl : r = ((0 : Nat) : Int) ∨ r = ((1 : Nat) : Int) ∨ r = ((2 : Nat) : Int) ∨ r = ((3 : Nat) : Int) := by omega
  · exact atI_nat rfl
  · exact atI_nat rfl
  · exact atI_nat rfl
  · exact atI_nat rfl
theorem pick_of {α : Type} {P : α → Prop} {r : Int} {a b c d : α} (ha : P a) (hb : P b) (hc : P c) (hd : P d) : P (pickV r a b c d) := by
  unfold pickV
  split
  · exact hb
  split
  · exact hc
  split
  · exact ha
  · exact hd
theorem pick_map {α β : Type} {f : α → β} {r : Int} {a b c d : α} : f (pickV r a b c d) = pickV r (f a) (f b) (f c) (f d) := by
  unfold pickV
  split
  · rfl
  split
  · rfl
  split
  · rfl
  · rfl
/-- what a schema's root is -/
def rootS (r : Int) (c : Str) : So := pickV r (.cho c) (.row 6 (.cho c)) (.may (.cho c)) (.cho c)
/-- the thing that is turned -/
def rootD (r : Int) (x y : PyData) : PyData := pickV r x (.tuple [x, y]) x x
theorem rootS_ok {r : Int} {c : Str} {cs : List Str} (hn : isNm c = true) (hc : c ∈ cs) : (rootS r c).ok [] cs false := pick_of (P := fun s : So => s.ok [] cs false) (And.intro hn hc) (And.intro (by decide) (And.intro (by decide) (And.intro hn hc))) (And.intro rfl (And.intro hn hc)) (And.intro hn hc)
theorem rootS_bnd {r : Int} {c : Str} : So.bnd (rootS r c) := pick_of (P := So.bnd) True.intro True.intro True.intro True.intro
theorem rootS_depth {r : Int} {c : Str} : (rootS r c).depth ≤ 1 := pick_of (P := fun s : So => s.depth ≤ 1) (Nat.zero_le _) (Nat.le_refl _) (Nat.le_refl _) (Nat.zero_le _)
theorem top_th {TO : Ch} {r : Int} {c w : Str} {d e : PyData} (h1 : ThF TO 11 (.cho c) (caseP w d)) (h2 : ThF TO 11 (.cho c) e) : ThC TO (rootS r c) (rootD r (caseP w d) e) := by
  refine ThC.in_ ?_
  unfold rootS rootD pickV
  split
  · exact And.intro (by show 2 ≤ 6; decide) fun x hx => by
      rcases List.mem_cons.mp hx with rfl | hx
      · exact h1
      · rw [List.mem_singleton.mp hx]
        exact h2
  split
  · exact (.inr h1 : caseP w d = .none ∨ _)
  split
  · exact h1
  · exact h1
theorem top_wt {r : Int} {x y : PyData} {n : Nat} (h1 : wt x ≤ n) (h2 : wt y ≤ n) : wt (rootD r x y) ≤ 2 * n + 6 := by
  refine pick_of (P := fun d => wt d ≤ 2 * n + 6) (by omega) ?_ (by omega) (by omega)
  have e : wt (.tuple [x, y]) = 2 + (wt x + 2 + (wt y + 2 + 0)) := by rw [wt, wtL, wtL, wtL]
  omega
theorem top_tc {K : PySem.W.Frag} {C : Addr} {H : Hp} {r : Int} {x y : PyData} {u v t : V} (h1 : Tc K C H u x) (h2 : Tc K C H t (.tuple [x, y])) : Tc K C H (pickV r u t u u) (rootD r x y) := by
  unfold rootD pickV
  split
  · exact h2
  split
  · exact h1
  split
  · exact h1
  · exact h1
theorem top_td {K : PySem.W.Frag} {H : Hp} {r : Int} {c : Str} {u t v : V} (h1 : Td K H u (So.cho c).pd) (h2 : Td K H t (So.row 6 (.cho c)).pd) (h3 : Td K H v (So.may (.cho c)).pd) : Td K H (pickV r u t v u) (rootS r c).pd := by
  unfold rootS pickV
  split
  · exact h2
  split
  · exact h3
  split
  · exact h1
  · exact h1
theorem cf_flat {other : Str} {s : So} (h : Cf other (some s)) : s.depth ≤ 1 := by
  cases h with
  | num => exact Nat.zero_le _
  | tru => exact Nat.zero_le _
  | txt => exact Nat.zero_le _
  | row => exact Nat.le_refl _
  | may => exact Nat.le_refl _
theorem cf_no {other c : Str} (h : Cf other (some (.cho c))) : False := by cases h
theorem OkO.flat {to : List TRow} (h : OkO to) : Flat (chT to) := fun c e he s hs => by
  obtain ⟨r, hr, rfl, e2⟩ := chT_row he
  rw [e2] at he
  obtain ⟨ns, _, _, _, ch⟩ := h.2 r hr
  have g := (ch.of e he).2.1
  rw [hs] at g
  exact cf_flat g
theorem OkN.bnd {m1 m2 : Str} {tn : List TRow} (h : OkN m1 m2 tn) : Bnd tn := fun c e he s hs => by
  obtain ⟨r, hr, rfl, e2⟩ := chT_row he
  rw [e2] at he
  obtain ⟨ns, t, _, _, _, _, ch⟩ := h.2.2 r hr
  have g := (ch.of e he).2.1
  rw [hs] at g
  exact g.2.2
theorem fwd_no {tb : List TRow} (h : ∀ r ∈ tb, ∀ e ∈ r.2, ∀ c, e.of ≠ some (.cho c)) : Fwd (sortT tb) := ⟨fun _ => 0, fun r hr e he c hc => by
  obtain ⟨q, hq, rfl⟩ := List.mem_map.mp hr
  exact absurd hc (h q hq e ((mem_sortEn e).mp (List.mem_of_getElem? he)) c)⟩
theorem OkO.fwd {to : List TRow} (h : OkO to) : Fwd (sortT to) := fwd_no fun r hr e he c hc => by
  obtain ⟨ns, _, _, _, ch⟩ := h.2 r hr
  have g := (ch.of e he).2.1
  rw [hc] at g
  exact cf_no g
theorem OkN.fwd {m1 m2 : Str} {tn : List TRow} (h : OkN m1 m2 tn) : Fwd (sortT tn) := fwd_no fun r hr e he c hc => by
  obtain ⟨ns, t, _, _, _, _, ch⟩ := h.2.2 r hr
  have g := (ch.of e he).2.1
  rw [hc] at g
  exact g.2.1 c rfl
theorem sc_ok {tb : List TRow} {s : So} (h : ChOk tb) (hl : tb.length = 2) (hf : Fwd (sortT tb)) (hs : s.ok [] (tb.map Prod.fst) false) : ScOk [] tb s := ⟨fun r h => (nomatch h), h.t, .nil, h.n, Nat.zero_le _, by omega, hs, hf⟩
theorem ScC.fvN {K : PySem.W.Frag} {CS : Addr} {H H' : Hp} {a b : Addr} {tb : List TRow} {o : So} (h : ScC K CS H b tb o) (w : IsW2 H a) (f : FvN a H H') : ScC K CS H' b tb o := by
  have wa : ∀ {b : Addr} {u : HO}, H b = some u → (∀ xs, u ≠ .lst xs) → b ≠ a := fun e n q => by
    obtain ⟨x, y, hw⟩ := w
    rw [q, hw] at e
    exact n _ (Option.some.inj e).symm
  exact h.keep (fun b u e => ⟨fun C dx fs q => f.1 _ _ (wa e (by rw [q]; exact fun _ z => nomatch z)) e (by rw [q]; exact fun _ z => nomatch z), fun kv q => f.1 _ _ (wa e (by rw [q]; exact fun _ z => nomatch z)) e (by rw [q]; exact fun _ z => nomatch z)⟩) (f.keepC (K := K) (C := 0) w).t
theorem Olds.wld {K : PySem.W.Frag} {a d1 d2 wl : Addr} {to tn : List TRow} {H : Hp} (h1 : Olds K a d1 to H) (h2 : Olds K a d2 tn H) (hw : SqT K H wl [.ref d1, .ref d2]) : Wld K H wl to tn := by
  obtain ⟨kv1, e1, p1⟩ := h1
  obtain ⟨kv2, e2, p2⟩ := h2
  exact ⟨d1, d2, kv1, kv2, hw, e1, e2, pd_mono (fun _ _ g => RowO.mono (fun _ _ _ _ => trivial) g) p1, pd_mono (fun _ _ g => RowO.mono (fun _ _ _ _ => trivial) g) p2⟩
theorem rowO_is {K : PySem.W.Frag} {N : Addr → Prop} {H : Hp} {kv : Key × V} {r : TRow} (h : RowO K N H kv r) : RowIs K H kv r := by
  obtain ⟨e, b, xs, e2, _, hb, hx⟩ := h
  exact ⟨e, b, xs, e2, .inl (SqL.of hb), hx⟩
theorem mk_step {K : PySem.W.Frag} {C : Addr} {TS : List (Addr × Str)} {H : Hp} {v : V} {s : So} {a d2 : Addr} {tb : List TRow} {R : VK} {E : XK} {D x dx : Addr} (hv : Td K H v s.pd) (hs : ScOk [] tb s) (hT : Tabs TS H) (hO : Olds K a d2 tb H) (hD : H D = none) (hx : (upd H D (.dK [])) x = none) (hdx : (upd H D (.dK [])) dx = none) (nd : dx ≠ x)
    (q : ∀ H', ExtN H H' → H x = none → Tabs TS H' → ScC K C H' x tb s → R .non H') : spSInit K C TS (mkV3 [.ref x, .ref D] [.ref d2, v]) (upd (upd (upd H D (.dK [])) dx (.own x)) x (.ins C dx [])) R E := by
  obtain ⟨kv, hd, hr⟩ := hO
  have s1 : Same H (upd H D (.dK [])) := same_upd hD
  have hxH : H x = none := by
    cases e : H x with
    | none => rfl
    | some o =>
      rw [s1 _ _ e] at hx
      cases hx
  have hDv : (upd H D (.dK [])) D = some (.dK []) := upd_same
  have hT1 := hT.ext s1
  generalize upd H D (.dK []) = H1 at hx hdx s1 hDv hT1 ⊢
  have s2 : Same H1 (upd H1 dx (.own x)) := same_upd hdx
  have hx2 : (upd H1 dx (.own x)) x = none := by rw [upd_ne nd.symm]; exact hx
  have s3 := s2.trans (same_upd (o := .ins C dx []) hx2)
  refine ⟨x, dx, D, .ref d2, v, [], [], tb, s, rfl, upd_same, s3 _ _ hDv, .nil, .inr ⟨d2, kv, rfl, (s1.trans s3) _ _ hd, pd_mono (fun _ _ g => RowIs.extN (.of (s1.trans s3)) (rowO_is g)) hr⟩, hv.keep (KeepT.same (s1.trans s3)), hs, hT1.ext s3, fun H' b t S => ?_⟩
  obtain ⟨dx', k1, k2, kv1, kv2, rv, _, _, h1, _, _, h4, h5, h2⟩ := S
  refine q H' (fun c o e n => b _ _ (fun z => ?_) ((s1.trans s3) _ _ e) n) hxH t ⟨dx', k2, _, rv, kv2, h1, h4, h5, h2⟩
  rw [z, hxH] at e
  cases e
section
variable {P : Program} {w : World} {K : PySem.W.Frag} {mg : Str → Option Value} {base : Heap}
theorem ok_law {CC C f : Addr} {fd : FuncData} {TS : List (Addr × Str)} (F : Fun K "law" "law" s_law f fd) (T : Bu mg) (c__law_choices : Cal P w K mg base 4 "_law_choices" ["_law_well"] (spChoices K)) (c__law_draw : Cal P w K mg base 1 "_law_draw" ["_law_well", "_law_many"] spDraw2)
    (c__law_thing : Cal P w K mg base 13 "_law_thing" ["_law_well", "_law_old", "_law_sort", "_law_deep"] (spThing K CC TS 10)) (c__law_due : Cal P w K mg base 81 "_law_due" ["_law_world", "_law_path", "_law_old", "_law_new", "_law_thing_here"] (spDue K CC 40)) (c__law_found : Cal P w K mg base 42 "_law_found" ["_law_old", "_law_new", "_law_thing_here"] (spFound K CC C 40))
    (m_ca2 : MkPD P w K mg base CC 1 "Case" ["self", "word", "content"] [] (spCInit CC)) (m_3 : MkK P w K mg base C 7 "Schema" 1 ["choices", "root"] mkV3 (spSInit K C TS)) : FnOk P w K mg base CX0 82 f fd ["_law_script"] (spLaw2 K TS) := by
  refine F.ok sc_law (fun vs H Q E h => ?_) (fun cdv A outer s H vs Q E hr h => ?_)
  · obtain ⟨a, ns, rfl, _⟩ := h
    rfl
  · obtain ⟨a0, ns, rfl, hS, hlen, hT, q⟩ := h
    have hu := hu_of hr
    refine ⟨_, (pss_cons (ps_for PassesOwn.never rfl (pi_list (pe_slice (r := rSlL K) sl_list (pe_op op_catL (pv 0) (pe_lst (pa_cons pe_int pa_nil))) po_none (po_some pe_int))) (pg_name (i := 1) sc_law.nd rfl (.inl rfl))
        (pss_cons (ps_set (i := 2) sc_law.nd rfl (.inl rfl) (pe_lst (pa_cons (pv 1) (pa_cons pe_int pa_nil))))
        (pss_cons (ps_asg (pe_cal c__law_choices hr (by decide) (by rfl) (pa_cons (pv 2) pa_nil)) (pg_tup rfl (pgs_cons (pg_name (i := 3) sc_law.nd rfl (.inl rfl)) (pgs_cons (pg_name (i := 4) sc_law.nd rfl (.inl rfl)) (pgs_cons (pg_name (i := 5) sc_law.nd rfl (.inl rfl)) pgs_nil)))))
        (pss_cons (ps_set (i := 6) sc_law.nd rfl (.inl rfl) (pe_cal c__law_draw hr (by decide) (by rfl) (pa_cons (pv 2) (pa_cons pe_int pa_nil))))
        (pss_cons (ps_set (i := 7) sc_law.nd rfl (.inl rfl) (pe_lst pa_nil))
        (pss_cons (ps_for PassesOwn.never rfl (pi_list (pe_lst (pa_cons pe_str (pa_cons (pe_ix (r := rIxT K) ix_tup (pv 5) pe_int (fun _ _ => rfl)) pa_nil)))) (pg_name (i := 8) sc_law.nd rfl (.inl rfl))
          (pss_cons (ps_set (i := 9) sc_law.nd rfl (.inl rfl) (pe_tup (pa_cons pe_str (pa_cons (pv 8) pa_nil))))
          (pss_one (ps_expr (pe_bm PySem.F.plainAttrs_list PySem.F.slot_list_append PySem.F.type_list_append mt_append (pv 7) (pa_cons (pe_ix (r := rIxL K) ix_list (pe_lst (pa_cons (pv 9) (pa_cons (pe_tup (pa_cons pe_str (pa_cons pe_int (pa_cons (pv 9) pa_nil)))) (pa_cons (pe_tup (pa_cons pe_str (pa_cons (pv 9) pa_nil))) (pa_cons (pv 9) pa_nil))))) (pv 6) (fun _ _ => rfl)) pa_nil))))))
        (pss_cons (ps_set (i := 10) sc_law.nd rfl (.inl rfl) (pe_mkK m_3 hr (by decide) (by rfl) (pa_cons pe_dnewK pa_nil) (pk_cons (pv 3) (pk_cons (pe_ix (r := rIxL K) ix_list (pv 7) pe_int (fun _ _ => rfl)) pk_nil))))
        (pss_cons (ps_set (i := 11) sc_law.nd rfl (.inl rfl) (pe_mkK m_3 hr (by decide) (by rfl) (pa_cons pe_dnewK pa_nil) (pk_cons (pv 4) (pk_cons (pe_ix (r := rIxL K) ix_list (pv 7) pe_int (fun _ _ => rfl)) pk_nil))))
        (pss_one (ps_for PassesOwn.never rfl (pi_list (pe_dget hu (pv 3) pe_str (fun _ _ => rfl))) (pg_tup rfl (pgs_cons (pg_name (i := 12) sc_law.nd rfl (.inl rfl)) (pgs_cons (pg_name (i := 13) sc_law.nd rfl (.inl rfl)) (pgs_cons (pg_name (i := 14) sc_law.nd rfl (.inl rfl)) pgs_nil))))
          (pss_cons (ps_set (i := 15) sc_law.nd rfl (.inl rfl) (pe_mkPD m_ca2 hr (by decide) (by rfl) (pa_cons (pv 13) (pa_cons (pe_cal c__law_thing hr (by decide) (by rfl) (pa_cons (pv 2) (pa_cons (pv 3) (pa_cons (pv 14) (pa_cons pe_int pa_nil))))) pa_nil))))
          (pss_cons (ps_set (i := 16) sc_law.nd rfl (.inl rfl) (pe_cal c__law_thing hr (by decide) (by rfl) (pa_cons (pv 2) (pa_cons (pv 3) (pa_cons (pe_tup (pa_cons pe_str (pa_cons pe_str pa_nil))) (pa_cons pe_int pa_nil))))))
          (pss_cons (ps_set (i := 15) sc_law.nd rfl (.inl rfl) (pe_ix (r := rIxL K) ix_list (pe_lst (pa_cons (pv 15) (pa_cons (pe_tup (pa_cons (pv 15) (pa_cons (pv 16) pa_nil))) (pa_cons (pv 15) (pa_cons (pv 15) pa_nil))))) (pv 6) (fun _ _ => rfl)))
          (pss_cons (ps_set (i := 17) sc_law.nd rfl (.inl rfl) (pe_cal c__law_due hr (by decide) (by rfl) (pa_cons (pe_tup (pa_cons (pv 3) (pa_cons (pv 4) pa_nil))) (pa_cons (pe_tup pa_nil) (pa_cons (pe_ix (r := rIxL K) ix_list (pv 7) pe_int (fun _ _ => rfl)) (pa_cons (pe_ix (r := rIxL K) ix_list (pv 7) pe_int (fun _ _ => rfl)) (pa_cons (pv 15) pa_nil)))))))
          (pss_one (ps_if (PW.pt (pw_or (pt_cmpR (op_neP hr.units) (pe_cal c__law_found hr (by decide) (by rfl) (pa_cons (pv 10) (pa_cons (pv 11) (pa_cons (pv 15) pa_nil)))) (pv 17) (nomark _)) (pw_or1 (pt_cmpR (op_neP hr.units) (pe_cal c__law_found hr (by decide) (by rfl) (pa_cons (pv 10) (pa_cons (pv 11) (pa_cons (pv 15) pa_nil)))) (pv 17) (nomark _)))))
            (pss_one (ps_ret pe_bl))
            pss_nil))))))))))))))))
      (pss_one (ps_ret pe_bl))), ?_⟩
    refine ⟨_, rfl, by show 1 ≤ sizeLine; decide, fun Z hZ => ?_⟩
    have sZ : Same H (upd H Z (.lst [.int 0])) := same_upd hZ
    have hSZ := SqL.keep_ hS sZ
    have hTZ := hT.ext sZ
    have hZv : (upd H Z (.lst [.int 0])) Z = some (.lst [.int 0]) := upd_same
    generalize upd H Z (.lst [.int 0]) = H1 at hSZ hTZ hZv ⊢
    have e1 : ns.map V.int ++ [V.int 0] = (ns ++ [0]).map V.int := by rw [List.map_append] <;> rfl
    have hci : ∃ ms : List Int, cutV ((ns ++ [0]).map V.int) none (some 8) = ms.map V.int := by
      unfold cutV
      rw [← List.map_drop, ← List.map_take]
      exact ⟨_, rfl⟩
    obtain ⟨cells, hms⟩ := hci
    refine ⟨a0, Z, _, _, rfl, rfl, hSZ, hZv, ?_, fun Y hY => ?_⟩
    · rw [List.length_map]
      exact Nat.le_trans (Nat.add_le_add_right hlen _) (by decide)
    rw [e1]
    have sY : Same H1 (upd H1 Y (.lst ((ns ++ [0]).map V.int))) := same_upd hY
    have hTY := hTZ.ext sY
    refine ⟨_, rfl, Y, _, rfl, SqL.of upd_same, fun L hL => ⟨L, rfl, ⟨_, SqL.of upd_same⟩, ?_⟩⟩
    have hT5 := hTY.ext (same_upd (o := .lst (cutV ((ns ++ [0]).map V.int) none (some 8))) hL)
    have hLv : (upd (upd H1 Y (.lst ((ns ++ [0]).map V.int))) L (.lst (cutV ((ns ++ [0]).map V.int) none (some 8)))) L = some (.lst (cutV ((ns ++ [0]).map V.int) none (some 8))) := upd_same
    rw [hms] at hT5 hLv ⊢
    generalize upd (upd H1 Y (.lst ((ns ++ [0]).map V.int))) L (.lst (cells.map V.int)) = H5 at hLv hT5 ⊢
    refine for_it (walk_list (K := K) (a := L) (xs := cells.map V.int)) (fun i σ H' => ∃ (y1 y2 y3 y4 y5 y6 y7 y8 y9 y10 y11 y12 y13 y14 y15 y16 y17 : Option V), σ = [some (.ref a0), y1, y2, y3, y4, y5, y6, y7, y8, y9, y10, y11, y12, y13, y14, y15, y16, y17] ∧ Tabs TS H' ∧ H' L = some (.lst (cells.map V.int))) ⟨_, _, _, _, _, _, _, _, _, _, _, _, _, _, _, _, _, rfl, hT5, hLv⟩ ?_ ?_ ?_
    · rintro i σ H' _ ⟨_, _, _, _, _, _, _, _, _, _, _, _, _, _, _, _, _, _, _, h⟩
      exact SqL.of h
    · rintro i x σ H2 H3 hi ⟨y1, y2, y3, y4, y5, y6, y7, y8, y9, y10, y11, y12, y13, y14, y15, y16, y17, rfl, T2, hL2⟩ ⟨rfl, hx⟩
      obtain ⟨n, rfl⟩ : ∃ n, x = V.int n := by
        rw [List.getElem?_map] at hx
        obtain ⟨n, _, h⟩ := Option.map_eq_some_iff.mp hx
        exact ⟨n, h.symm⟩
      refine ⟨_, rfl, by show 2 ≤ sizeLine; decide, fun a ha => ?_⟩
      have w4 : IsW2 (upd H3 a (.lst [.int n, .int 0])) a := ⟨n, 0, upd_same⟩
      have s4 : Same H3 (upd H3 a (.lst [.int n, .int 0])) := same_upd ha
      have T4 := T2.ext s4
      have L4 := s4 _ _ hL2
      have nL : L ≠ a := fun e => by
        rw [e, ha] at hL2
        cases hL2
      generalize upd H3 a (.lst [.int n, .int 0]) = H4 at w4 s4 T4 L4 ⊢
      refine ⟨_, rfl, a, rfl, w4, fun t d1 d2 p3 kv1 kv2 to tn m1 m2 H5 ht hd1 hd2 fd1 fd2 n12 hp3 h2 hr1 hr2 e1 e2 gO gN f5 => ?_⟩
      have okO : OkO to := ⟨e1, gO⟩
      have okN : OkN m1 m2 tn := ⟨h2, e2, gN⟩
      refine ⟨t, _, rfl, ht, rfl, _, _, rfl, _, _, rfl, _, _, rfl, rfl, ?_⟩
      refine ⟨_, rfl, a, 4, rfl, f5.2, by decide, by decide, fun r H6 r0 r1 f6 => ?_⟩
      have T6 := tabs_fv T4 w4 (f5.trans f6)
      have L6 := (f5.trans f6).1 _ _ nL L4
      have w6 := f6.2
      have O1 : Olds K a d1 to H6 := Olds.fvN ⟨kv1, hd1, hr1⟩ f5.2 (FvN.of f6)
      have O2 : Olds K a d2 tn H6 := Olds.fvN ⟨kv2, hd2, hr2⟩ f5.2 (FvN.of f6)
      obtain ⟨p3, zs, rfl, hp3, hz3⟩ := Td.row (hp3.keep (f6.keepT (K := K) f5.2))
      obtain ⟨z1, z2, rfl, hz1, hz2⟩ := hz3.c2
      obtain rfl := hz1.toStr
      obtain rfl := hz2.toStr
      clear f6 f5 hd1 hd2 hr1 hr2 ht fd1 fd2 hz3 T4 L4 w4 s4 hz1 hz2
      refine ⟨by show 0 ≤ sizeLine; decide, fun D hD => ?_⟩
      have sD := same_upd (o := .lst []) hD
      refine ⟨_, rfl, p3, _, 0, _, rfl, rfl, KeepT.same sD _ _ hp3, at0, by show 2 ≤ sizeLine; decide, fun M hM => ⟨M, rfl, ⟨_, SqL.of upd_same⟩, ?_⟩⟩
      have sM := same_upd (o := .lst [V.str "up", .str m1]) hM
      have nMD : M ≠ D := fun e => by
        rw [e, upd_same] at hM
        cases hM
      refine for_it (walk_list (K := K) (a := M) (xs := [V.str "up", .str m1])) (fun i σ H' => ∃ (y8 y9 y10 y11 y12 y13 y14 y15 y16 y17 : Option V) (acc : List V), σ = [some (.ref a0), some (.int n), some (.ref a), some (.ref d1), some (.ref d2), some (.ref p3), some (.int r), some (.ref D), y8, y9, y10, y11, y12, y13, y14, y15, y16, y17] ∧ Same H6 H' ∧ H' M = some (.lst [V.str "up", .str m1]) ∧ H' D = some (.lst acc) ∧ acc.length = i ∧ Tds K H' acc (([("up" : Str), m1].take i).map fun c => (rootS r c).pd)) ⟨_, _, _, _, _, _, _, _, _, _, [], rfl, sD.trans sM, upd_same, sM _ _ upd_same, rfl, .nil⟩ ?_ ?_ ?_
      · rintro i σ H' _ ⟨_, _, _, _, _, _, _, _, _, _, _, _, _, h, _⟩
        exact SqL.of h
      · rintro i x σ H7 H8 hi ⟨y8, y9, y10, y11, y12, y13, y14, y15, y16, y17, acc, rfl, s7, hM7, hD7, hal, hacc⟩ ⟨rfl, hx⟩
        obtain ⟨c, hc, rfl⟩ : ∃ c, [("up" : Str), m1][i]? = some c ∧ x = V.str c := by
          rw [show [V.str ("up" : Str), V.str m1] = [("up" : Str), m1].map V.str from rfl, List.getElem?_map] at hx
          obtain ⟨c, h1, h2⟩ := Option.map_eq_some_iff.mp hx
          exact ⟨c, h1, h2.symm⟩
        refine ⟨_, rfl, by show 2 ≤ sizeLine; decide, fun t1 ht1 => ?_⟩
        have hi2 : i < 2 := hi
        have a1 := same_upd (o := .tup [V.str "choice", .str c]) ht1
        refine ⟨_, rfl, .inl ⟨rfl, _, SqL.of (a1 _ _ hD7)⟩, _, rfl, _, rfl, by show 3 ≤ sizeLine; decide, fun t2 ht2 => ⟨_, rfl, by show 2 ≤ sizeLine; decide, fun t3 ht3 => ⟨_, rfl, by show 4 ≤ sizeLine; decide, fun G hG => ?_⟩⟩⟩
        have a2 := same_upd (o := .tup [V.str "row", .int 6, .ref t1]) ht2
        have a3 := same_upd (o := .tup [V.str "maybe", .ref t1]) ht3
        have a4 := same_upd (o := .lst [V.ref t1, .ref t2, .ref t3, .ref t1]) hG
        have v1 : Td K _ (.ref t1) (So.cho c).pd := .tup (SqT.of (a4 _ _ (a3 _ _ (a2 _ _ upd_same)))) (.cons (.str _) (.cons (.str _) .nil))
        have v2 : Td K _ (.ref t2) (So.row 6 (.cho c)).pd := .tup (SqT.of (a4 _ _ (a3 _ _ upd_same))) (.cons (.str _) (.cons (.int _) (.cons v1 .nil)))
        have v3 : Td K _ (.ref t3) (So.may (.cho c)).pd := .tup (SqT.of (a4 _ _ upd_same)) (.cons (.str _) (.cons v1 .nil))
        have aa := ((a1.trans a2).trans a3).trans a4
        refine ⟨_, rfl, G, _, r, _, rfl, rfl, SqL.of upd_same, pick4 r0 r1, D, acc, _, rfl, rfl, aa _ _ hD7, by rw [hal, sizeLine_eq]; omega, ?_⟩
        have kD := keepT_lst (K := K) (ys := acc ++ [pickV r (V.ref t1) (.ref t2) (.ref t3) (.ref t1)]) (aa _ _ hD7)
        refine ⟨_, _, _, _, _, _, _, _, _, _, _, rfl, same_new (s7.trans aa) hD, ?_, upd_same, by rw [List.length_append, hal]; rfl, ?_⟩
        · rw [upd_ne nMD]
          exact aa _ _ hM7
        · rw [List.take_add_one, hc, List.map_append]
          exact Tds.append ((hacc.keep (KeepT.same aa)).keep kD) (.cons ((top_td v1 v2 v3).keep kD) .nil)
      · rintro σ H7 ⟨y8, y9, y10, y11, y12, y13, y14, y15, y16, y17, acc, rfl, s7, _, hD7, _, hacc⟩
        obtain ⟨v1, v2, rfl, hv1, hv2⟩ := Tds.c2 (show Tds K H7 acc [(rootS r "up").pd, (rootS r m1).pd] from hacc)
        have T7 := T6.ext s7
        have L7 := s7 _ _ L6
        have w7 := w6.same s7
        have f67 : FvN a H6 H7 := ⟨fun b o _ e _ => s7 _ _ e, w7⟩
        have O1 := O1.fvN w6 f67
        have O2 := O2.fvN w6 f67
        have nD : D ≠ a := w6.ne hD
        have hu_ : isNm ("up" : Str) = true := by decide +kernel
        have so1 : (rootS r "up").ok [] (to.map Prod.fst) false := rootS_ok hu_ (by rw [e1]; exact List.mem_cons_self)
        have so2 : (rootS r m1).ok [] (tn.map Prod.fst) false := rootS_ok (h2.nm m1 List.mem_cons_self) (by rw [e2]; exact List.mem_cons_self)
        have l1 : to.length = 2 := by rw [← List.length_map (f := Prod.fst), e1]; rfl
        have l2 : tn.length = 2 := by rw [← List.length_map (f := Prod.fst), e2]; rfl
        clear hacc s7 f67 T6 L6 w6 hp3
        refine fun D1 hD1 => ⟨_, rfl, _, rfl, D, _, 0, _, rfl, rfl, SqL.of ((same_upd hD1) _ _ hD7), at0, rfl, rfl, fun x dx hx0 hdx nd => mk_step hv1 (sc_ok okO.ch l1 okO.fwd so1) T7 O1 hD1 hx0 hdx nd fun H8 e8 hx7 T8 sc1 => ⟨rfl, ?_⟩⟩
        have f8 : FvN a H7 H8 := FvN.ext (FvN.of (Fv.refl w7)) e8
        have O1 := O1.fvN w7 f8
        have O2 := O2.fvN w7 f8
        have L8 := e8 _ _ L7 (fun _ z => nomatch z)
        have D8 := e8 _ _ hD7 (fun _ z => nomatch z)
        have hv1 := hv1.keep (KeepT.extN e8)
        have hv2 := hv2.keep (KeepT.extN e8)
        have w8 := f8.2
        refine fun D2 hD2 => ⟨_, rfl, _, rfl, D, _, 1, _, rfl, rfl, SqL.of ((same_upd hD2) _ _ D8), at1, rfl, rfl, fun y dx hx0 hdx nd => mk_step hv2 (sc_ok okN.ch l2 okN.fwd so2) T8 O2 hD2 hx0 hdx nd fun H9 e9 hy8 T9 sc2 => ⟨rfl, ?_⟩⟩
        have f9 : FvN a H8 H9 := FvN.ext (FvN.of (Fv.refl w8)) e9
        have O1 := O1.fvN w8 f9
        have O2 := O2.fvN w8 f9
        have L9 := e9 _ _ L8 (fun _ z => nomatch z)
        have D9 := e9 _ _ D8 (fun _ z => nomatch z)
        have hv1 := hv1.keep (KeepT.extN e9)
        have hv2 := hv2.keep (KeepT.extN e9)
        have w9 := f9.2
        have sc1 := sc1.fvN w8 f9
        clear f8 f9 e8 e9 L8 L7 D8 hD7 T7 T8 w7 w8
        obtain ⟨rr, hrr, hrn, e3, ok3⟩ := okO.ch.row (c := "up") (by rw [e1]; exact List.mem_cons_self)
        obtain ⟨kv, hd9, hrw9⟩ := id O1
        obtain ⟨b, xs, hval, hba, hb, hxs⟩ := valO hrw9 okO.ch.n hrr
        rw [hrn] at hval
        refine ⟨_, rfl, d1, _, rfl, .inl ⟨kv, .inr "up", .inl hd9, rfl, hval.symm⟩, b, rfl, ⟨_, SqL.of hb⟩, ?_⟩
        refine for_it (walk_list (K := K) (a := b) (xs := xs)) (fun j σ H' => ∃ (y12 y13 y14 y15 y16 y17 : Option V), σ = [some (.ref a0), some (.int n), some (.ref a), some (.ref d1), some (.ref d2), some (.ref p3), some (.int r), some (.ref D), y8, y9, some (.ref x), some (.ref y), y12, y13, y14, y15, y16, y17] ∧ FvN a H9 H' ∧ Tabs TS H') ⟨_, _, _, _, _, _, rfl, FvN.of (Fv.refl w9), T9⟩ ?_ ?_ ?_
        · rintro j σ H' _ ⟨_, _, _, _, _, _, _, h, _⟩
          exact SqL.of (h.1 _ _ hba hb (fun _ z => nomatch z))
        · rintro j z σ H10 H11 hj ⟨y12, y13, y14, y15, y16, y17, rfl, f10, T10⟩ ⟨rfl, hz⟩
          obtain ⟨e, he, hte⟩ := en_at hxs hz
          have hem := List.mem_of_getElem? he
          obtain ⟨ns', okn, _, _, ch⟩ := gO rr hrr
          obtain ⟨g1, g2, g3⟩ := ch.of e hem
          have k10 := f10.keepC (K := K) (C := CC) w9
          obtain ⟨pe, ue, re, rfl, hpe, hue, hre⟩ := en_row (hte.keep k10.t)
          rw [g1] at hre
          obtain rfl : re = [] := by cases hre; rfl
          refine ⟨pe, _, rfl, hpe, rfl, _, _, rfl, _, _, rfl, _, _, rfl, rfl, ?_⟩
          have P1 := O1.fvN w9 f10
          refine ⟨_, rfl, _, rfl, _, rfl, _, rfl, a, d1, ue, e.of, 0, to, rfl, f10.2, P1, okO, hue, .con (by rw [okO.1]; exact otherO_in rr.1) g2 (by omega), by omega, by omega, T10, fun u d H12 tc th wd f12 T12 => ?_⟩
          refine fun cx cdx hx hdx nd => ca_new hx hdx nd fun H13 s13 h13 => ⟨rfl, ?_⟩
          have f13 : FvN a H9 H13 := (f10.trans f12).same s13
          have T13 := T12.ext s13
          have th1 : ThF (chT to) 11 (.cho "up") (caseP e.name d) := by
            show ThX (ThF (chT to) 10) (chT to) (.cho "up") (.list [.str e.name, d])
            refine ⟨e, by rw [e3]; exact en_name ok3 hem, ?_⟩
            cases ho : e.of with
            | none =>
              rw [ho] at th
              exact .inl ⟨rfl, th⟩
            | some s =>
              rw [ho] at th
              exact .inr ⟨s, rfl, th⟩
          have tc1 : Tc K CC H13 (.ref cx) (caseP e.name d) := .cas h13 (tc.keep (KeepC.same s13))
          have wt1 : wt (caseP e.name d) ≤ 20000 := by rw [wt_case]; exact Nat.le_trans (Nat.add_le_add_right wd 7) (by decide)
          have P1 := O1.fvN w9 f13
          clear tc th wd f12 T12 s13 h13 f10 T10
          refine ⟨_, rfl, _, rfl, by show 2 ≤ sizeLine; decide, fun tt htt => ?_⟩
          have st := same_upd (o := .tup [V.str "choice", .str "up"]) htt
          refine ⟨a, d1, .ref tt, some (.cho "up"), 0, to, rfl, f13.2.same st, Olds.fvN P1 f13.2 ((FvN.of (Fv.refl f13.2)).same st), okO, .tup (SqT.of upd_same) (.cons (.str _) (.cons (.str _) .nil)), .cho (by rw [okO.1]; exact List.mem_cons_self) (by omega), by omega, by omega, T13.ext st, fun u2 d2' H14 tc2 th2 wd2 f14 T14 => ?_⟩
          have f1 : FvN a H13 H14 := ((FvN.of (Fv.refl f13.2)).same st).trans f14
          have f14' := f13.trans f1
          have tc1 := tc1.keep (f1.keepC (K := K) (C := CC) f13.2)
          have th2 : ThF (chT to) 11 (.cho "up") d2' := ThF.succ th2
          have wt2 : wt d2' ≤ 20000 := Nat.le_trans wd2 (by decide)
          clear f1 f14 st htt f13 T13 P1
          refine ⟨_, rfl, _, rfl, _, rfl, by show 2 ≤ sizeLine; decide, fun t1 ht1 => ⟨_, rfl, _, rfl, by show 4 ≤ sizeLine; decide, fun G hG => ?_⟩⟩
          have a1 := same_upd (o := .tup [V.ref cx, u2]) ht1
          have a2 := same_upd (o := .lst [V.ref cx, .ref t1, .ref cx, .ref cx]) hG
          have aa := a1.trans a2
          have tcT := top_tc (r := r) (v := .non) (tc1.keep (KeepC.same aa)) (.tup (SqT.of (a2 _ _ upd_same)) (.cons (tc1.keep (KeepC.same aa)) (.cons (tc2.keep (KeepC.same aa)) .nil)))
          refine ⟨_, rfl, G, _, r, _, rfl, rfl, SqL.of upd_same, pick4 r0 r1, ?_⟩
          have thT := top_th (r := r) th1 th2
          have wtT := top_wt (r := r) wt1 wt2
          have f15 := f14'.same aa
          have T15 := T14.ext aa
          generalize upd (upd H14 t1 (.tup [V.ref cx, u2])) G (.lst [V.ref cx, .ref t1, .ref cx, .ref cx]) = H15 at tcT f15 T15 ⊢
          generalize pickV r (V.ref cx) (.ref t1) (.ref cx) (.ref cx) = vT at tcT ⊢
          generalize rootD r (caseP e.name d) d2' = dT at tcT thT wtT
          clear tc1 tc2 th1 th2 wt1 wt2 a1 a2 aa f14' T14
          have k15 := (f15.keepC (K := K) (C := CC) w9).t
          have D15 := f15.1 _ _ nD D9 (fun _ z => nomatch z)
          have Q1 := O1.fvN w9 f15
          have Q2 := O2.fvN w9 f15
          have fr : FvN a H15 H15 := FvN.of (Fv.refl f15.2)
          have hFl := okO.flat
          have hRs : RsG 40 (dueC (chT to) (chT tn) (rootS r "up") (rootS r m1) [] dT) := RsG.mono (dueF_sc (k := 12) hFl thT (fun e h => nomatch h)) (by have := rootS_depth (r := r) (c := "up"); omega)
          have hSc : Sc 40 dT := sc_mono (thF_sc (k := 12) hFl thT) (by have := rootS_depth (r := r) (c := "up"); omega)
          have hdep := rs_depth (by decide) hRs
          refine ⟨_, rfl, _, rfl, by show 2 ≤ sizeLine; decide, fun W hW => ⟨by show 0 ≤ sizeLine; decide, fun ee hee => ?_⟩⟩
          have b1 := same_upd (o := .tup [V.ref d1, .ref d2]) hW
          have b2 := same_upd (o := .tup []) hee
          have bb := b1.trans b2
          refine ⟨_, rfl, D, _, 0, _, rfl, rfl, SqL.of (bb _ _ D15), at0, _, rfl, D, _, 1, _, rfl, rfl, SqL.of (bb _ _ D15), at1, _, rfl, W, .ref ee, v1, v2, vT, rootS r "up", rootS r m1, dT, [], to, tn, rfl, Olds.wld (Q1.fvN f15.2 (fr.same bb)) (Q2.fvN f15.2 (fr.same bb)) (SqT.of (b2 _ _ upd_same)), okO.ch, okN.ch, .tup (SqT.of upd_same) .nil, by decide, (hv1.keep k15).keep (KeepT.same bb), (hv2.keep k15).keep (KeepT.same bb), tcT.keep (KeepC.same bb), ⟨_, so1⟩, so2, rootS_bnd, okN.bnd, thT, hSc, by decide, fun H16 u3 s16 hu3 => ?_⟩
          have s156 := bb.trans s16
          have f16 := f15.same s156
          have T16 := T15.ext s156
          have tcT := tcT.keep (KeepC.same s156)
          have hcs : ∀ d', dueC (chT to) (chT tn) (rootS r "up") (rootS r m1) [] dT = .told d' → Sc 40 d' := fun d' h => by
            rw [h] at hRs
            exact hRs
          refine ⟨_, rfl, _, rfl, _, rfl, x, y, vT, rootS r "up", rootS r m1, dT, to, tn, rfl, sc1.fvN w9 f16, sc2.fvN w9 f16, okO.ch, okN.ch, tcT, ⟨_, so1⟩, so2, thT, by omega, hcs, fun H17 u4 s17 hu4 => ?_⟩
          refine ⟨_, rfl, _, hu4, hu3.keep (KeepT.same s17), by omega, false, rfl, iteF ?_⟩
          have f17 := f16.same s17
          have tcT := tcT.keep (KeepC.same s17)
          refine ⟨_, rfl, _, rfl, _, rfl, x, y, vT, rootS r "up", rootS r m1, dT, to, tn, rfl, sc1.fvN w9 f17, sc2.fvN w9 f17, okO.ch, okN.ch, tcT, ⟨_, so1⟩, so2, thT, by omega, hcs, fun H18 u5 s18 hu5 => ?_⟩
          refine ⟨_, rfl, _, hu5, hu3.keep (KeepT.same (s17.trans s18)), by omega, false, rfl, iteF ?_⟩
          exact ⟨_, _, _, _, _, _, rfl, f17.same s18, (T16.ext s17).ext s18⟩
        · rintro σ H10 ⟨y12, y13, y14, y15, y16, y17, rfl, f10, T10⟩
          exact ⟨_, _, _, _, _, _, _, _, _, _, _, _, _, _, _, _, _, rfl, T10, f10.1 _ _ nL L9 (fun _ z => nomatch z)⟩
    · rintro σ H6 _
      exact q _
end
end K22
namespace K22
open PySem PySem.Spec PyProof.Rows L2 Tw Sb LamX
theorem two_all {α : Type} {p q : α} {F : α → Prop} (a : F p) (b : F q) : ∀ x ∈ [p, q], F x := fun x hx => by
  rcases List.mem_cons.mp hx with rfl | hx
  · exact a
  · rw [List.mem_singleton.mp hx]
    exact b
theorem vals_app {zs : List V} {ws : List Value} (h2 : Vals zs ws) : ∀ {xs : List V} {us : List Value}, Vals xs us → Vals (xs ++ zs) (us ++ ws)
  | _, _, .nil => h2
  | _, _, .cons h r => .cons h (vals_app h2 r)
/-- a method with one default, as the top left it -/
def MethD (K : PySem.W.Frag) (C : Addr) (m q : Str) (st : Stmt) (T : Addr) (dv : Value) : Prop := ∃ (f : Addr) (oc : Value) (od an : Option Addr) (osl : Array (Option Value)) (kV dc pm cd ct : Value) (cT : Value) (dT : Option Addr) (n : Nat) (sT : Array (Option Value)),
  PySem.W.findIn K (.ref C) m = some (some (.ref f)) ∧ PySem.W.isFn K (.ref f) = true ∧ K.lookup f = some ⟨oc, od, .func (PySem.W.fnOf m q (defArgs st) (defBody st) (defScope st) (.ref T) kV dc pm an cd ct), osl⟩ ∧ PySem.W.codeIn K cd q = true ∧ PySem.W.keepIn K (.ref f) = true ∧ K.lookup T = some ⟨cT, dT, .seq #[dv] n, sT⟩
theorem methD_mk {K : PySem.W.Frag} {C : Addr} {m q : Str} {st : Stmt} {T : Addr} {dv : Value} {f : Addr} {oc : Value} {od an : Option Addr} {osl : Array (Option Value)} {kV dc pm cd ct : Value} {cT : Value} {dT : Option Addr} {n : Nat} {sT : Array (Option Value)} (a : PySem.W.findIn K (.ref C) m = some (some (.ref f))) (i : PySem.W.isFn K (.ref f) = true)
    (l : K.lookup f = some ⟨oc, od, .func (PySem.W.fnOf m q (defArgs st) (defBody st) (defScope st) (.ref T) kV dc pm an cd ct), osl⟩) (c : PySem.W.codeIn K cd q = true) (kp : PySem.W.keepIn K (.ref f) = true) (lT : K.lookup T = some ⟨cT, dT, .seq #[dv] n, sT⟩) : MethD K C m q st T dv := ⟨f, oc, od, an, osl, kV, dc, pm, cd, ct, cT, dT, n, sT, a, i, l, c, kp, lT⟩
theorem kit_tyN {K : PySem.W.Frag} {t : String} {S : Addr} (h2 : PySem.W.isClsIn K S = true) (h3 : PySem.W.typeIn K (.ref S) = some (.type "type")) (h4 : PySem.W.subIn K (.type t) (.ref S) = some false) : PySem.W.kitOne K (.type t) (.ref S) = some false := by
  unfold PySem.W.kitOne
  rw [if_neg (by simp)]
  have h2' : (PySem.W.clsIn K S).isSome = true := h2
  show (if ((PySem.W.clsIn K S).isSome && PySem.W.typeIn K (.ref S) == some (.type "type")) = true then PySem.W.subIn K (.type t) (.ref S) else none) = some false
  rw [if_pos (by rw [h2', h3] <;> rfl)]
  exact h4
section
variable {P : Program} {w : World} {K : PySem.W.Frag} {mg : Str → Option Value} {base : Heap}
abbrev initF (kV doc pm : Value) (an : Option Addr) (cd ct : Value) : FuncData := PySem.W.fnOf "__init__" "Schema.__init__" (defArgs s_Schema___init__) (defBody s_Schema___init__) (defScope s_Schema___init__) .none kV doc pm an cd ct
theorem mk_kb3 {kV doc pm cd ct : Value} {an : Option Addr} : KBn K (initF kV doc pm an cd ct) ["self", "kinds", "choices", "root"] 2 ["choices", "root"] (fun us ws => us ++ ws) mkV3 :=
  ⟨fun s us ws _ h1 h2 => .of_eq (match us, h1, ws, h2 with | [_, _], _, [_, _], _ => rfl), fun r1 r2 => vals_app r2 r1⟩
theorem ca_mk {C T : Addr} (c : ClIn K C "Case") (g : mg "Case" = some (.ref C)) (cc : CaC K C) (D : MethD K C "__init__" "Case.__init__" s_Case___init__ T .none) :
    MkPD P w K mg base C 1 "Case" ["self", "word", "content"] [.non] (spCInit C) ∧ MkPD P w K mg base C 1 "Case" ["self", "word", "content"] [] (spCInit C) := by
  obtain ⟨f, oc, od, an, osl, kV, dc, pm, cd, ct, cT, dT, n, sT, a, i, l, co, kp, lT⟩ := D
  have F : FunD K "__init__" "Case.__init__" (defArgs s_Case___init__) (defBody s_Case___init__) (defScope s_Case___init__) [.non] [] f (PySem.W.fnOf "__init__" "Case.__init__" (defArgs s_Case___init__) (defBody s_Case___init__) (defScope s_Case___init__) (.ref T) kV dc pm an cd ct) :=
    ⟨⟨oc, od, .ref T, kV, dc, pm, an, cd, ct, osl, rfl, l, co, .inr ⟨(fun z => nomatch z), T, _, [.none], n, rfl, lT, rfl, .cons rfl .nil⟩, .inl rfl⟩, kp⟩
  refine ⟨⟨⟨f, _, [.none], ⟨c.mks, a, i, c.kc⟩, ok_cinit F cc, ?_, .cons rfl .nil⟩, g⟩, ⟨⟨f, _, [], ⟨c.mks, a, i, c.kc⟩, ok_cinit F cc, ?_, .nil⟩, g⟩⟩
  · intro s us hin hl
    have hl2 : us.length = 2 := by
      have h : (us ++ _).length = 3 := hl
      rw [List.length_append] at h
      exact Nat.succ.inj h
    match us, hl2 with
    | [_, _], _ => exact .of_defaults rfl (hin _ _ lT) rfl rfl rfl
  · intro s us hin hl
    have hl2 : us.length = 3 := by
      have h : (us ++ []).length = 3 := hl
      rw [List.append_nil] at h
      exact h
    match us, hl2 with
    | [_, _, _], _ => exact .of_defaults rfl (hin _ _ lT) rfl rfl rfl
end
end K22
set_option maxHeartbeats 4000000
namespace K22
open PySem PySem.Spec PyProof.Rows L2 Tw Sb LamX
theorem all_mk {l : PySem.W.OpenLaw} {w : World} {K : PySem.W.Frag} {h : Heap} {mg : Str → Option Value} {fa C_Schema C_Turner C_Case fB cB PB fL cL PL fI kD C_NoTurn C_WireError fN C_Builder fb T_Case C_NoBytes C_NoEdition C_NoLine C_NoMeeting C_NoQuestion C_NoSchema C_NoText C_NoThing C_NoWire : Addr} {t_MOST_LETTERS t_FIRST_SIGN t_LAST_SIGN t_PERCENT_SIGN t_GREATEST_NUMBER t_MOST_SIGNS t_MOST_IN_ROW t_LAST_NUMBER : Tok} {Bq1 Bq3 Bq4 Bq5 Bq7 Br1 : Value} {Bq2 Bq6 Br2 : Option Addr} {Bq8 Br3 : Array (Option Value)} {Bvs : Array Value} {Lq1 Lq3 Lq4 Lq5 Lq7 Lr1 : Value} {Lq2 Lq6 Lr2 : Option Addr} {Lq8 Lr3 : Array (Option Value)} {Lvs : Array Value} {tLet : Tok} {iq1 iq4 iq5 iq7 iq9 : Value} {iq2 iq6 : Option Addr} {iq8 : Array (Option Value)} {jq1 jq3 jq4 jq5 jq7 jq9 : Value} {jq2 jq6 : Option Addr} {jq8 : Array (Option Value)} (X : K.In h) (G : h.Ns mainGlobals mg) (hfa : mg "law" = some (.ref fa))
    (d_is_whole : DefIn K "is_whole" s_is_whole)
    (d_is_row : DefIn K "is_row" s_is_row)
    (d_is_name : DefIn K "is_name" s_is_name)
    (d_is_code : DefIn K "is_code" s_is_code)
    (d_keeps_bounds : DefIn K "keeps_bounds" s_keeps_bounds)
    (d_keeps_figures : DefIn K "keeps_figures" s_keeps_figures)
    (d__is_most : DefIn K "_is_most" s__is_most)
    (d__are_bounds : DefIn K "_are_bounds" s__are_bounds)
    (d__first_word : DefIn K "_first_word" s__first_word)
    (d_is_text : DefIn K "is_text" s_is_text)
    (d__is_inmost : DefIn K "_is_inmost" s__is_inmost)
    (d_is_sort : DefIn K "is_sort" s_is_sort)
    (d__is_default : DefIn K "_is_default" s__is_default)
    (d__fault : DefIn K "_fault" s__fault)
    (d__names : DefIn K "_names" s__names)
    (d__refuse_rows : DefIn K "_refuse_rows" s__refuse_rows)
    (d__refuse_comings_back : DefIn K "_refuse_comings_back" s__refuse_comings_back)
    (d_pair_word : DefIn K "pair_word" s_pair_word)
    (d_inner_pair : DefIn K "inner_pair" s_inner_pair)
    (d_value_fault : DefIn K "value_fault" s_value_fault)
    (d_path_along : DefIn K "path_along" s_path_along)
    (d_by_number : DefIn K "by_number" s_by_number)
    (d_by_name : DefIn K "by_name" s_by_name)
    (d_case_read : DefIn K "case_read" s_case_read)
    (d_turned : DefIn K "turned" s_turned)
    (d__law_draw : DefIn K "_law_draw" s__law_draw)
    (d__law_content : DefIn K "_law_content" s__law_content)
    (d__law_numbers : DefIn K "_law_numbers" s__law_numbers)
    (d__law_near : DefIn K "_law_near" s__law_near)
    (d__law_near_sort : DefIn K "_law_near_sort" s__law_near_sort)
    (d__law_cases : DefIn K "_law_cases" s__law_cases)
    (d__law_choices : DefIn K "_law_choices" s__law_choices)
    (d__law_plainly : DefIn K "_law_plainly" s__law_plainly)
    (d__law_due : DefIn K "_law_due" s__law_due)
    (d__law_case : DefIn K "_law_case" s__law_case)
    (d__law_found : DefIn K "_law_found" s__law_found)
    (d_law : DefIn K "law" s_law)
    (cl_Schema : ClIn K C_Schema "Schema")
    (cl_Turner : ClIn K C_Turner "Turner")
    (cl_Case : ClIn K C_Case "Case")
    (m_Turner___init__ : MethIn K C_Turner "__init__" "Turner.__init__" s_Turner___init__)
    (m_Turner_begin : MethIn K C_Turner "begin" "Turner.begin" s_Turner_begin)
    (m_Turner_turn_case : MethIn K C_Turner "turn_case" "Turner.turn_case" s_Turner_turn_case)
    (m_Turner_run : MethIn K C_Turner "run" "Builder.run" s_Builder_run)
    (m_Turner_do_next : MethIn K C_Turner "do_next" "Builder.do_next" s_Builder_do_next)
    (m_Turner_taken : MethIn K C_Turner "taken" "Builder.taken" s_Builder_taken)
    (m_NoTurn___init__ : MethIn K C_NoTurn "__init__" "NoTurn.__init__" s_NoTurn___init__)
    (na_Schema_kinds : PySem.W.findIn K (.ref C_Schema) "kinds" = some none)
    (na_Schema_choices : PySem.W.findIn K (.ref C_Schema) "choices" = some none)
    (na_Schema_root : PySem.W.findIn K (.ref C_Schema) "root" = some none)
    (na_Turner_jobs : PySem.W.findIn K (.ref C_Turner) "jobs" = some none)
    (na_Turner_made : PySem.W.findIn K (.ref C_Turner) "made" = some none)
    (na_Turner_old : PySem.W.findIn K (.ref C_Turner) "old" = some none)
    (na_Turner_new : PySem.W.findIn K (.ref C_Turner) "new" = some none)
    (na_Turner_nodes : PySem.W.findIn K (.ref C_Turner) "nodes" = some none)
    (na_NoTurn_path : PySem.W.findIn K (.ref C_NoTurn) "path" = some none)
    (na_NoTurn_why : PySem.W.findIn K (.ref C_NoTurn) "why" = some none)
    (na_Case_word : PySem.W.findIn K (.ref C_Case) "word" = some none)
    (na_Case_content : PySem.W.findIn K (.ref C_Case) "content" = some none)
    (g_MOST_LETTERS : PySem.W.nsIn K mainGlobals "MOST_LETTERS" = some (some (.int 8 t_MOST_LETTERS)))
    (g_FIRST_SIGN : PySem.W.nsIn K mainGlobals "FIRST_SIGN" = some (some (.int 32 t_FIRST_SIGN)))
    (g_LAST_SIGN : PySem.W.nsIn K mainGlobals "LAST_SIGN" = some (some (.int 126 t_LAST_SIGN)))
    (g_PERCENT_SIGN : PySem.W.nsIn K mainGlobals "PERCENT_SIGN" = some (some (.int 37 t_PERCENT_SIGN)))
    (g_GREATEST_NUMBER : PySem.W.nsIn K mainGlobals "GREATEST_NUMBER" = some (some (.int 999999999999999999999999999999999999999999999999999999999999 t_GREATEST_NUMBER)))
    (g_MOST_SIGNS : PySem.W.nsIn K mainGlobals "MOST_SIGNS" = some (some (.int 40 t_MOST_SIGNS)))
    (g_MOST_IN_ROW : PySem.W.nsIn K mainGlobals "MOST_IN_ROW" = some (some (.int 20 t_MOST_IN_ROW)))
    (g_LAST_NUMBER : PySem.W.nsIn K mainGlobals "LAST_NUMBER" = some (some (.int 99 t_LAST_NUMBER)))
    (z_isinstance : PySem.W.nsIn K mainGlobals "isinstance" = some none)
    (z_int : PySem.W.nsIn K mainGlobals "int" = some none)
    (z_bool : PySem.W.nsIn K mainGlobals "bool" = some none)
    (z_str : PySem.W.nsIn K mainGlobals "str" = some none)
    (z_list : PySem.W.nsIn K mainGlobals "list" = some none)
    (z_tuple : PySem.W.nsIn K mainGlobals "tuple" = some none)
    (z_len : PySem.W.nsIn K mainGlobals "len" = some none)
    (z_all : PySem.W.nsIn K mainGlobals "all" = some none)
    (z_sum : PySem.W.nsIn K mainGlobals "sum" = some none)
    (z_range : PySem.W.nsIn K mainGlobals "range" = some none)
    (z_zip : PySem.W.nsIn K mainGlobals "zip" = some none)
    (z_enumerate : PySem.W.nsIn K mainGlobals "enumerate" = some none)
    (z_abs : PySem.W.nsIn K mainGlobals "abs" = some none)
    (z_ord : PySem.W.nsIn K mainGlobals "ord" = some none)
    (z_sorted : PySem.W.nsIn K mainGlobals "sorted" = some none)
    (z_min : PySem.W.nsIn K mainGlobals "min" = some none)
    (z_dict : PySem.W.nsIn K mainGlobals "dict" = some none)
    (n_B : PySem.W.nsIn K mainGlobals "_by_numbers" = some (some (.ref fB)))
    (l_B : K.lookup fB = some ⟨Bq1, Bq2, .func (PySem.W.fnOf "_by_numbers" "_by_numbers" (defArgs s__by_numbers) (defBody s__by_numbers) (defScope s__by_numbers) .none Bq3 Bq4 Bq5 Bq6 (.ref cB) Bq7), Bq8⟩)
    (c_B : PySem.W.codeIn K (.ref cB) "_by_numbers" = true)
    (kp_B : PySem.W.keepIn K (.ref fB) = true)
    (k_B : K.lookup cB = some ⟨Br1, Br2, .fields Bvs, Br3⟩)
    (v_B : Bvs[11]? = some (.ref PB))
    (h_B : PySem.W.codeHdIn K cB PB = true)
    (p_B : K.lookup PB = none)
    (t_B : h.get? PB = some { cls := .none, data := .fields #[] })
    (n_L : PySem.W.nsIn K mainGlobals "_law_thing" = some (some (.ref fL)))
    (l_L : K.lookup fL = some ⟨Lq1, Lq2, .func (PySem.W.fnOf "_law_thing" "_law_thing" (defArgs s__law_thing) (defBody s__law_thing) (defScope s__law_thing) .none Lq3 Lq4 Lq5 Lq6 (.ref cL) Lq7), Lq8⟩)
    (c_L : PySem.W.codeIn K (.ref cL) "_law_thing" = true)
    (kp_L : PySem.W.keepIn K (.ref fL) = true)
    (k_L : K.lookup cL = some ⟨Lr1, Lr2, .fields Lvs, Lr3⟩)
    (v_L : Lvs[11]? = some (.ref PL))
    (h_L : PySem.W.codeHdIn K cL PL = true)
    (p_L : K.lookup PL = none)
    (t_L : h.get? PL = some { cls := .none, data := .fields #[] })
    (ne_T : PB ≠ PL)
    (g_LET : PySem.W.nsIn K mainGlobals "LETTERS" = some (some (.str alpha tLet)))
    (i_a : PySem.W.findIn K (.ref C_Schema) "__init__" = some (some (.ref fI)))
    (i_i : PySem.W.isFn K (.ref fI) = true)
    (i_l : K.lookup fI = some ⟨iq1, iq2, .func (initF (.ref kD) iq4 iq5 iq6 iq9 iq7), iq8⟩)
    (i_c : PySem.W.codeIn K iq9 "Schema.__init__" = true)
    (i_k : PySem.W.keepIn K (.ref fI) = true)
    (b_g : PySem.W.nsIn K mainGlobals "Builder" = some (some (.ref C_Builder)))
    (b_r : PySem.W.readsIn K C_Builder (.type "type") = true)
    (b_s : PySem.W.specialIn K (.ref C_Builder) "__getattribute__" = some (some (.builtin "type.__getattribute__")))
    (b_a : PySem.W.findCls K (.ref C_Builder) (.type "type") "__init__" = some (.val (.ref fb)))
    (b_l : K.lookup fb = some ⟨jq1, jq2, .func (PySem.W.fnOf "__init__" "Builder.__init__" (defArgs s_Builder___init__) (defBody s_Builder___init__) (defScope s_Builder___init__) .none jq3 jq4 jq5 jq6 jq9 jq7), jq8⟩)
    (b_c : PySem.W.codeIn K jq9 "Builder.__init__" = true)
    (b_k : PySem.W.keepIn K (.ref fb) = true)
    (q_a : PySem.W.findIn K (.ref C_Case) "__class__" = some (some (.builtin "object.__class__")))
    (q_n : PySem.W.specialIn K (.builtin "object.__class__") "__get__" = some (some (.builtin "getset_descriptor.__get__")))
    (q_t : PySem.W.takesIn K (.builtin "object.__class__") = some true)
    (q_m : PySem.W.mroIn K C_Case (.type "object") = some true)
    (q_c : PySem.W.isClsIn K C_Case = true)
    (q_y : PySem.W.typeIn K (.ref C_Case) = some (.type "type"))
    (q_sNoneType : PySem.W.subIn K (.type "NoneType") (.ref C_Case) = some false)
    (q_sbool : PySem.W.subIn K (.type "bool") (.ref C_Case) = some false)
    (q_sint : PySem.W.subIn K (.type "int") (.ref C_Case) = some false)
    (q_sstr : PySem.W.subIn K (.type "str") (.ref C_Case) = some false)
    (q_stuple : PySem.W.subIn K (.type "tuple") (.ref C_Case) = some false)
    (e_iC : PySem.W.findIn K (.ref C_NoTurn) "__init__" = some (some (.ref fN)))
    (e_tI : PySem.W.typeIn K (.ref fN) = some (.type "function"))
    (e_g : PySem.W.nsIn K mainGlobals "NoTurn" = some (some (.ref C_NoTurn)))
    (e_gW : PySem.W.nsIn K mainGlobals "WireError" = some (some (.ref C_WireError)))
    (e_nV : PySem.W.nsIn K mainGlobals "ValueError" = some none)
    (e_cB : PySem.W.isClsIn K C_NoTurn = true)
    (e_tB : PySem.W.typeIn K (.ref C_NoTurn) = some (.type "type"))
    (e_sB : PySem.W.subIn K (.ref C_NoTurn) (.ref C_NoTurn) = some true)
    (e_xB : PySem.W.subIn K (.ref C_NoTurn) (.type "BaseException") = some true)
    (e_cW : PySem.W.isClsIn K C_WireError = true)
    (e_tW : PySem.W.typeIn K (.ref C_WireError) = some (.type "type"))
    (e_sW : PySem.W.subIn K (.ref C_NoTurn) (.ref C_WireError) = some true)
    (e_sV : PySem.W.subIn K (.ref C_NoTurn) (.type "ValueError") = some true)
    (e_xW : PySem.W.subIn K (.ref C_WireError) (.type "BaseException") = some true)
    (o_gNoBytes : PySem.W.nsIn K mainGlobals "NoBytes" = some (some (.ref C_NoBytes)))
    (o_nNoBytes : (Value.ref C_NoTurn == Value.ref C_NoBytes) = false)
    (o_cNoBytes : PySem.W.isClsIn K C_NoBytes = true)
    (o_tNoBytes : PySem.W.typeIn K (.ref C_NoBytes) = some (.type "type"))
    (o_sNoBytes : PySem.W.subIn K (.ref C_NoTurn) (.ref C_NoBytes) = some false)
    (o_gNoEdition : PySem.W.nsIn K mainGlobals "NoEdition" = some (some (.ref C_NoEdition)))
    (o_nNoEdition : (Value.ref C_NoTurn == Value.ref C_NoEdition) = false)
    (o_cNoEdition : PySem.W.isClsIn K C_NoEdition = true)
    (o_tNoEdition : PySem.W.typeIn K (.ref C_NoEdition) = some (.type "type"))
    (o_sNoEdition : PySem.W.subIn K (.ref C_NoTurn) (.ref C_NoEdition) = some false)
    (o_gNoLine : PySem.W.nsIn K mainGlobals "NoLine" = some (some (.ref C_NoLine)))
    (o_nNoLine : (Value.ref C_NoTurn == Value.ref C_NoLine) = false)
    (o_cNoLine : PySem.W.isClsIn K C_NoLine = true)
    (o_tNoLine : PySem.W.typeIn K (.ref C_NoLine) = some (.type "type"))
    (o_sNoLine : PySem.W.subIn K (.ref C_NoTurn) (.ref C_NoLine) = some false)
    (o_gNoMeeting : PySem.W.nsIn K mainGlobals "NoMeeting" = some (some (.ref C_NoMeeting)))
    (o_nNoMeeting : (Value.ref C_NoTurn == Value.ref C_NoMeeting) = false)
    (o_cNoMeeting : PySem.W.isClsIn K C_NoMeeting = true)
    (o_tNoMeeting : PySem.W.typeIn K (.ref C_NoMeeting) = some (.type "type"))
    (o_sNoMeeting : PySem.W.subIn K (.ref C_NoTurn) (.ref C_NoMeeting) = some false)
    (o_gNoQuestion : PySem.W.nsIn K mainGlobals "NoQuestion" = some (some (.ref C_NoQuestion)))
    (o_nNoQuestion : (Value.ref C_NoTurn == Value.ref C_NoQuestion) = false)
    (o_cNoQuestion : PySem.W.isClsIn K C_NoQuestion = true)
    (o_tNoQuestion : PySem.W.typeIn K (.ref C_NoQuestion) = some (.type "type"))
    (o_sNoQuestion : PySem.W.subIn K (.ref C_NoTurn) (.ref C_NoQuestion) = some false)
    (o_gNoSchema : PySem.W.nsIn K mainGlobals "NoSchema" = some (some (.ref C_NoSchema)))
    (o_nNoSchema : (Value.ref C_NoTurn == Value.ref C_NoSchema) = false)
    (o_cNoSchema : PySem.W.isClsIn K C_NoSchema = true)
    (o_tNoSchema : PySem.W.typeIn K (.ref C_NoSchema) = some (.type "type"))
    (o_sNoSchema : PySem.W.subIn K (.ref C_NoTurn) (.ref C_NoSchema) = some false)
    (o_gNoText : PySem.W.nsIn K mainGlobals "NoText" = some (some (.ref C_NoText)))
    (o_nNoText : (Value.ref C_NoTurn == Value.ref C_NoText) = false)
    (o_cNoText : PySem.W.isClsIn K C_NoText = true)
    (o_tNoText : PySem.W.typeIn K (.ref C_NoText) = some (.type "type"))
    (o_sNoText : PySem.W.subIn K (.ref C_NoTurn) (.ref C_NoText) = some false)
    (o_gNoThing : PySem.W.nsIn K mainGlobals "NoThing" = some (some (.ref C_NoThing)))
    (o_nNoThing : (Value.ref C_NoTurn == Value.ref C_NoThing) = false)
    (o_cNoThing : PySem.W.isClsIn K C_NoThing = true)
    (o_tNoThing : PySem.W.typeIn K (.ref C_NoThing) = some (.type "type"))
    (o_sNoThing : PySem.W.subIn K (.ref C_NoTurn) (.ref C_NoThing) = some false)
    (o_gNoWire : PySem.W.nsIn K mainGlobals "NoWire" = some (some (.ref C_NoWire)))
    (o_nNoWire : (Value.ref C_NoTurn == Value.ref C_NoWire) = false)
    (o_cNoWire : PySem.W.isClsIn K C_NoWire = true)
    (o_tNoWire : PySem.W.typeIn K (.ref C_NoWire) = some (.type "type"))
    (o_sNoWire : PySem.W.subIn K (.ref C_NoTurn) (.ref C_NoWire) = some false)
    (oex : OexC K C_NoTurn)
    (xfc : XfC K C_NoTurn)
    (exc : ExcC K C_NoTurn)
    (dC : MethD K C_Case "__init__" "Case.__init__" s_Case___init__ T_Case .none) :
    LawAtS l w K CX0 82 63 "_law_script" mg fa h := by
  have T : Bt mg := bt_mk X G (by
    intro x hx
    simp only [List.mem_cons, List.not_mem_nil, or_false] at hx
    rcases hx with rfl | rfl | rfl | rfl | rfl | rfl | rfl | rfl | rfl | rfl | rfl | rfl
    · exact z_isinstance
    · exact z_int
    · exact z_bool
    · exact z_str
    · exact z_list
    · exact z_tuple
    · exact z_len
    · exact z_all
    · exact z_sum
    · exact z_range
    · exact z_zip
    · exact z_enumerate)
  obtain ⟨f, oc, od, an, osl, kV, dc, pm, cd, ct, a, lk, c, kp⟩ := d_law
  have e := hfa.symm.trans (PySem.W.mg_of X G a)
  cases e
  refine ⟨PySem.W.fnOf "law" "law" (defArgs s_law) (defBody s_law) (defScope s_law) .none kV dc pm an cd ct, [(cB, PB), (cL, PL)], spLaw2 K [(PB, ("_by_numbers.<locals>.<lambda>" : Str)), (PL, ("_law_thing.<locals>.<lambda>" : Str))], (two_all (t_B) (t_L)), (two_all (p_B) (p_L)), (two_all (PySem.W.codeHd_of_K X h_B) (PySem.W.codeHd_of_K X h_L)), fun s v => .of_eq rfl, fun H a ns hl _ hP hS => ⟨a, ns, rfl, hS, hl, (two_all (TabS.nil (hP (cB, PB) (.head _))) (TabS.nil (hP (cL, PL) (.tail _ (.head _))))), fun _ => rfl⟩, fun base _ _ hTB => ?_⟩
  have U : Bu mg := ⟨T, PySem.W.mg_none_of X G z_abs, PySem.W.mg_none_of X G z_ord, PySem.W.mg_none_of X G z_sorted, PySem.W.mg_none_of X G z_min, PySem.W.mg_none_of X G z_dict⟩
  have cl : ClS K C_Schema := ⟨cl_Schema.cls, na_Schema_kinds, na_Schema_choices, na_Schema_root⟩
  have ct : ClU K C_Turner := ⟨cl_Turner.cls, na_Turner_jobs, na_Turner_made, na_Turner_old, na_Turner_new, na_Turner_nodes⟩
  have cc : CaC K C_Case := ⟨cl_Case.cls, na_Case_word, na_Case_content⟩
  have gC : mg "Case" = some (.ref C_Case) := PySem.W.mg_of X G cl_Case.g
  have CI : CaI K mg C_Case := ⟨cc, ⟨_, gC, rfl⟩, q_a, q_n, q_t, q_m, kit_tyN q_c q_y q_sNoneType, kit_tyN q_c q_y q_sbool, kit_tyN q_c q_y q_sint, kit_tyN q_c q_y q_sstr, kit_tyN q_c q_y q_stuple⟩
  obtain ⟨ca1, ca2⟩ := ca_mk (P := l.prog) (w := w) (base := base) cl_Case gC cc dC
  have gLet : ∃ u, mg "LETTERS" = some u ∧ RelV (.str alpha) u := ⟨_, PySem.W.mg_of X G g_LET, _, rfl⟩
  have TBB := hTB (cB, PB) (.head _)
  have TBL := hTB (cL, PL) (.tail _ (.head _))
  have uB : ∀ p ∈ [(PB, ("_by_numbers.<locals>.<lambda>" : Str)), (PL, ("_law_thing.<locals>.<lambda>" : Str))], p.1 = PB → p.2 = ("_by_numbers.<locals>.<lambda>" : Str) := fun p hp e => by
    rcases List.mem_cons.mp hp with rfl | hp
    · rfl
    · rw [List.mem_singleton.mp hp] at e
      exact absurd e.symm ne_T
  have uL : ∀ p ∈ [(PB, ("_by_numbers.<locals>.<lambda>" : Str)), (PL, ("_law_thing.<locals>.<lambda>" : Str))], p.1 = PL → p.2 = ("_law_thing.<locals>.<lambda>" : Str) := fun p hp e => by
    rcases List.mem_cons.mp hp with rfl | hp
    · exact absurd e ne_T
    · rw [List.mem_singleton.mp hp]
  have c1 : Cal l.prog w K mg base 1 "is_whole" ["thing"] (spWhole K) := cal_mk d_is_whole X G (fun _ _ _ _ _ _ us hl => match us, hl with | [_], _ => rfl) fun f fd F => ok_is_whole F T
  have c2 : Cal l.prog w K mg base 1 "is_row" ["thing"] (spRow K) := cal_mk d_is_row X G (fun _ _ _ _ _ _ us hl => match us, hl with | [_], _ => rfl) fun f fd F => ok_is_row F T
  have c3 : Cal l.prog w K mg base 1 "is_name" ["thing"] (spName K) := cal_mk d_is_name X G (fun _ _ _ _ _ _ us hl => match us, hl with | [_], _ => rfl) fun f fd F => ok_is_name F T gLet (gi_mk X G g_MOST_LETTERS)
  have c4 : Cal l.prog w K mg base 1 "is_code" ["code"] spCode := cal_mk d_is_code X G (fun _ _ _ _ _ _ us hl => match us, hl with | [_], _ => rfl) fun f fd F => ok_is_code F (gi_mk X G g_FIRST_SIGN) (gi_mk X G g_LAST_SIGN) (gi_mk X G g_PERCENT_SIGN)
  have c5 : Cal l.prog w K mg base 1 "keeps_bounds" ["number", "low", "high"] spKB := cal_mk d_keeps_bounds X G (fun _ _ _ _ _ _ us hl => match us, hl with | [_, _, _], _ => rfl) fun f fd F => ok_keeps_bounds F
  have c6 : Cal l.prog w K mg base 1 "keeps_figures" ["number"] spKF := cal_mk d_keeps_figures X G (fun _ _ _ _ _ _ us hl => match us, hl with | [_], _ => rfl) fun f fd F => ok_keeps_figures F U (gi_mk X G g_GREATEST_NUMBER)
  have c7 : Cal l.prog w K mg base 2 "_is_most" ["most", "limit"] spMost := cal_mk d__is_most X G (fun _ _ _ _ _ _ us hl => match us, hl with | [_, _], _ => rfl) fun f fd F => ok_is_most F c1
  have c8 : Cal l.prog w K mg base 2 "_are_bounds" ["low", "high"] spBounds := cal_mk d__are_bounds X G (fun _ _ _ _ _ _ us hl => match us, hl with | [_, _], _ => rfl) fun f fd F => ok_are_bounds F c1
  have c9 : Cal l.prog w K mg base 1 "_first_word" ["of"] (spFirst K) := cal_mk d__first_word X G (fun _ _ _ _ _ _ us hl => match us, hl with | [_], _ => rfl) fun f fd F => ok_first_word F U
  have cA : Cal l.prog w K mg base 2 "is_text" ["thing"] spText := cal_mk d_is_text X G (fun _ _ _ _ _ _ us hl => match us, hl with | [_], _ => rfl) fun f fd F => ok_is_text F U c4
  have cB9 : Cal l.prog w K mg base 3 "_is_inmost" ["word", "of", "kinds", "choices"] (spInmost K) := cal_mk d__is_inmost X G (fun _ _ _ _ _ _ us hl => match us, hl with | [_, _, _, _], _ => rfl) fun f fd F => ok_is_inmost F U (gi_mk X G g_MOST_SIGNS) c3 c7 c8
  have cC : Cal l.prog w K mg base 4 "is_sort" ["of", "kinds", "choices"] (spSort K) := cal_mk d_is_sort X G (fun _ _ _ _ _ _ us hl => match us, hl with | [_, _, _], _ => rfl) fun f fd F => ok_is_sort F U (gi_mk X G g_MOST_IN_ROW) c9 c7 cB9
  have cD : Cal l.prog w K mg base 3 "_is_default" ["of", "default"] (spDeflt K) := cal_mk d__is_default X G (fun _ _ _ _ _ _ us hl => match us, hl with | [_, _], _ => rfl) fun f fd F => ok_is_default F U c1 c5 c6 cA
  have cE : Cal l.prog w K mg base 5 "_fault" ["word", "entry", "earlier", "kinds", "choices"] (spFault K) := cal_mk d__fault X G (fun _ _ _ _ _ _ us hl => match us, hl with | [_, _, _, _, _], _ => rfl) fun f fd F => ok_fault F U (gi_mk X G g_LAST_NUMBER) c3 c1 cC cD
  have cF : Cal l.prog w K mg base 2 "_names" ["rows"] spNames := cal_mk d__names X G (fun _ _ _ _ _ _ us hl => match us, hl with | [_], _ => rfl) fun f fd F => ok_names F U c3
  have cG : Cal l.prog w K mg base 6 "_refuse_rows" ["word", "rows", "kinds", "choices"] (spRows K) := cal_mk d__refuse_rows X G (fun _ _ _ _ _ _ us hl => match us, hl with | [_, _, _, _], _ => rfl) fun f fd F => ok_refuse_rows F U c3 c2 cE
  have cH : Cal l.prog w K mg base 1 "_refuse_comings_back" ["choices"] (spBack K) := cal_mk d__refuse_comings_back X G (fun _ _ _ _ _ _ us hl => match us, hl with | [_], _ => rfl) fun f fd F => ok_back F
  have cI : Cal l.prog w K mg base 4 "_by_numbers" ["rows"] (spByN K [(PB, ("_by_numbers.<locals>.<lambda>" : Str)), (PL, ("_law_thing.<locals>.<lambda>" : Str))]) := ⟨fB, _, ok_by_numbers l_B c_B U TBB (.head _) uB, PySem.W.mg_of X G n_B, kp_B, (fun_mk (st := s__by_numbers) l_B c_B kp_B).binds (fun _ _ _ _ _ _ us hl => match us, hl with | [_], _ => rfl)⟩
  have okI : FnOk l.prog w K mg base CX0 7 fI (initF (.ref kD) iq4 iq5 iq6 iq9 iq7) ["self", "kinds", "choices", "root"] (spSInit K C_Schema [(PB, ("_by_numbers.<locals>.<lambda>" : Str)), (PL, ("_law_thing.<locals>.<lambda>" : Str))]) := ok_sinit (fun_mk (st := s_Schema___init__) i_l i_c i_k) cl cF cG cC cI cH
  have MK : Mk K C_Schema fI := ⟨cl_Schema.mks, i_a, i_i, cl_Schema.kc⟩
  have m3 : MkK l.prog w K mg base C_Schema 7 "Schema" 1 ["choices", "root"] mkV3 (spSInit K C_Schema [(PB, ("_by_numbers.<locals>.<lambda>" : Str)), (PL, ("_law_thing.<locals>.<lambda>" : Str))]) := ⟨⟨fI, _, _, _, MK, okI, mk_kb3⟩, PySem.W.mg_of X G cl_Schema.g⟩
  have FB := fun_mk (st := s_Builder___init__) b_l b_c b_k
  have bi : BCal l.prog w K mg base C_Builder "Builder" 1 "__init__" ["self"] (spBInit C_Turner) := ⟨⟨fb, _, .type "type", ⟨b_r, b_s⟩, ⟨b_a, rfl⟩, b_k, ok_binit FB ct, FB.binds (fun _ _ _ _ _ _ us hl => match us, hl with | [_], _ => rfl)⟩, PySem.W.mg_of X G b_g⟩
  have ti : MkP l.prog w K mg base C_Turner 2 "Turner" ["self", "old", "new"] (spTInit C_Turner) := mkP_mk X G cl_Turner.g m_Turner___init__ cl_Turner.mks cl_Turner.kc (fun _ _ _ _ _ _ us hl => match us, hl with | [_, _, _], _ => rfl) fun f fd F => ok_tinit F ct bi
  have N : NtC K mg "NoTurn" C_NoTurn fN := ⟨oex, PySem.W.mg_of X G e_g, e_iC, e_tI, na_NoTurn_path, na_NoTurn_why⟩
  have no9 : PySem.W.kitAny K (.ref C_NoTurn) ([C_NoBytes, C_NoEdition, C_NoLine, C_NoMeeting, C_NoQuestion, C_NoSchema, C_NoText, C_NoThing, C_NoWire].map Value.ref) = some false := kit_noneOf (kit_refN o_nNoBytes o_cNoBytes o_tNoBytes o_sNoBytes) (kit_noneOf (kit_refN o_nNoEdition o_cNoEdition o_tNoEdition o_sNoEdition) (kit_noneOf (kit_refN o_nNoLine o_cNoLine o_tNoLine o_sNoLine) (kit_noneOf (kit_refN o_nNoMeeting o_cNoMeeting o_tNoMeeting o_sNoMeeting) (kit_noneOf (kit_refN o_nNoQuestion o_cNoQuestion o_tNoQuestion o_sNoQuestion) (kit_noneOf (kit_refN o_nNoSchema o_cNoSchema o_tNoSchema o_sNoSchema) (kit_noneOf (kit_refN o_nNoText o_cNoText o_tNoText o_sNoText) (kit_noneOf (kit_refN o_nNoThing o_cNoThing o_tNoThing o_sNoThing) (kit_noneOf (kit_refN o_nNoWire o_cNoWire o_tNoWire o_sNoWire) rfl))))))))
  have R : NtR K mg C_NoTurn C_WireError [C_NoBytes, C_NoEdition, C_NoLine, C_NoMeeting, C_NoQuestion, C_NoSchema, C_NoText, C_NoThing, C_NoWire] := ⟨xfc, exc, PySem.W.mg_of X G e_gW, ⟨_, PySem.W.mg_of X G e_g, rfl⟩, PySem.W.mg_none_of X G e_nV, Tw.exm_of e_xW e_cW e_tW e_sW, Tw.kit_ref e_cB e_tB e_sB, Tw.kit_bltn (by decide +kernel) e_sV, no9, ⟨_, PySem.W.mg_of X G o_gNoBytes, rfl⟩, ⟨_, PySem.W.mg_of X G o_gNoEdition, rfl⟩, ⟨_, PySem.W.mg_of X G o_gNoLine, rfl⟩, ⟨_, PySem.W.mg_of X G o_gNoMeeting, rfl⟩, ⟨_, PySem.W.mg_of X G o_gNoQuestion, rfl⟩, ⟨_, PySem.W.mg_of X G o_gNoSchema, rfl⟩, ⟨_, PySem.W.mg_of X G o_gNoText, rfl⟩, ⟨_, PySem.W.mg_of X G o_gNoThing, rfl⟩, ⟨_, PySem.W.mg_of X G o_gNoWire, rfl⟩, rfl⟩
  obtain ⟨fI1, oc1, od1, an1, osl1, kV1, dc1, pm1, cd1, ct1, a1, i1, l1, k1, kp1⟩ := m_NoTurn___init__
  have eI := N.iC.symm.trans a1
  cases eI
  have F1 := fun_mk (st := s_NoTurn___init__) l1 k1 kp1
  have b1 := F1.binds (ps := ["self", "path", "why"]) (fun _ _ _ _ _ _ us hl => match us, hl with | [_, _, _], _ => rfl)
  have t1 : Cal l.prog w K mg base 1 "pair_word" ["pair"] (spPW K) := cal_mk d_pair_word X G (fun _ _ _ _ _ _ us hl => match us, hl with | [_], _ => rfl) fun f fd F => ok_pair_word F
  have t2 : Cal l.prog w K mg base 2 "inner_pair" ["pair"] (spInP K) := cal_mk d_inner_pair X G (fun _ _ _ _ _ _ us hl => match us, hl with | [_], _ => rfl) fun f fd F => ok_inner_pair F t1
  have t3 : Cal l.prog w K mg base 1 "keeps_bounds" ["number", "low", "high"] spKBb := cal_mk d_keeps_bounds X G (fun _ _ _ _ _ _ us hl => match us, hl with | [_, _, _], _ => rfl) fun f fd F => ok_keeps_boundsB F
  have t5 : Cal l.prog w K mg base 1 "path_along" ["way"] (spPath K) := cal_mk d_path_along X G (fun _ _ _ _ _ _ us hl => match us, hl with | [_], _ => rfl) fun f fd F => ok_path_along F U
  have n1 : Cal l.prog w K mg base 1 "by_number" ["row", "number"] (spByNum K) := cal_mk d_by_number X G (fun _ _ _ _ _ _ us hl => match us, hl with | [_, _], _ => rfl) fun f fd F => ok_by_number F
  have n2 : Cal l.prog w K mg base 1 "by_name" ["row", "name"] (spByName K) := cal_mk d_by_name X G (fun _ _ _ _ _ _ us hl => match us, hl with | [_, _], _ => rfl) fun f fd F => ok_by_name F U
  have n3 : Cal l.prog w K mg base 2 "case_read" ["row", "number"] (spCRead K) := cal_mk d_case_read X G (fun _ _ _ _ _ _ us hl => match us, hl with | [_, _], _ => rfl) fun f fd F => ok_case_read F n1
  have t6 : MCal l.prog w K mg base C_Turner 1 "do_next" ["self", "jobs"] (spNext C_Turner) := mcal_mk m_Turner_do_next (fun _ _ _ _ _ _ us hl => match us, hl with | [_, _], _ => rfl) fun f fd F => ok_do_next F ct
  have t7 : MCal l.prog w K mg base C_Turner 1 "taken" ["self", "many"] (spTaken C_Turner) := mcal_mk m_Turner_taken (fun _ _ _ _ _ _ us hl => match us, hl with | [_, _], _ => rfl) fun f fd F => ok_taken F U ct
  have t9 : ∀ (to tn : List TRow), ChOk to → ChOk tn → MCalX l.prog w K mg base C_Turner 5 "run" ["self"] (spRun K C_Case C_Schema C_Turner C_NoTurn to tn) := by
    intro to tn oko okn
    have t4 : Cal l.prog w K mg base 2 "value_fault" ["pair", "thing"] (spVF K C_Case (chT to)) := cal_mk d_value_fault X G (fun _ _ _ _ _ _ us hl => match us, hl with | [_, _], _ => rfl) fun f fd F => ok_value_fault F U t1 t3
    have tc : MCalX l.prog w K mg base C_Turner 3 "turn_case" ["self", "pair", "case", "way"] (spTC K C_Case C_Schema C_Turner C_NoTurn to tn) := mcalX_mk m_Turner_turn_case (fun _ _ _ _ _ _ us hl => match us, hl with | [_, _, _, _], _ => rfl) fun f fd F => ok_turn_case F U ct cl cc N (ok_ntinit F1 N) b1 n2 n3 t5 t6 ca1 oko okn
    have t8 : MCalX l.prog w K mg base C_Turner 4 "begin" ["self", "job"] (spBegin K C_Case C_Schema C_Turner C_NoTurn to tn) := mcalX_mk m_Turner_begin (fun _ _ _ _ _ _ us hl => match us, hl with | [_, _], _ => rfl) fun f fd F => ok_begin F U ct N (ok_ntinit F1 N) b1 t1 t2 t4 t5 t6 tc okn
    have tz : MCalX l.prog w K mg base C_Turner 5 "run" ["self"] (spRun K C_Case C_Schema C_Turner C_NoTurn to tn) := mcalX_mk m_Turner_run (fun _ _ _ _ _ _ us hl => match us, hl with | [_], _ => rfl) fun f fd F => ok_run F U ct t8 t7 ca2
    exact tz
  have tA : CalX l.prog w K mg base 6 "turned" ["old", "new", "thing"] (spTurned K C_Case C_Schema C_NoTurn) := calX_mk d_turned X G (fun _ _ _ _ _ _ us hl => match us, hl with | [_, _, _], _ => rfl) fun f fd F => ok_turned F ct cl ti t6 t9
  have d1 : Cal l.prog w K mg base 1 "_law_draw" ["_law_well", "_law_many"] spDraw2 := cal_mk d__law_draw X G (fun _ _ _ _ _ _ us hl => match us, hl with | [_, _], _ => rfl) fun f fd F => ok_draw F U
  have d2 : Cal l.prog w K mg base 2 "_law_content" ["_law_well", "_law_other"] (spCtn K) := cal_mk d__law_content X G (fun _ _ _ _ _ _ us hl => match us, hl with | [_, _], _ => rfl) fun f fd F => ok_content F d1
  have d3 : Cal l.prog w K mg base 2 "_law_numbers" ["_law_well"] (spNums K) := cal_mk d__law_numbers X G (fun _ _ _ _ _ _ us hl => match us, hl with | [_], _ => rfl) fun f fd F => ok_numbers F U d1
  have d4 : Cal l.prog w K mg base 3 "_law_near" ["_law_well", "_law_numbers_here"] (spNear K) := cal_mk d__law_near X G (fun _ _ _ _ _ _ us hl => match us, hl with | [_, _], _ => rfl) fun f fd F => ok_near F U d1 d3
  have d5 : Cal l.prog w K mg base 3 "_law_near_sort" ["_law_well", "_law_sort", "_law_other"] (spNs K) := cal_mk d__law_near_sort X G (fun _ _ _ _ _ _ us hl => match us, hl with | [_, _, _], _ => rfl) fun f fd F => ok_near_sort F d1 d2
  have d6 : Cal l.prog w K mg base 3 "_law_cases" ["_law_well", "_law_numbers_here", "_law_words", "_law_other"] (spCases K) := cal_mk d__law_cases X G (fun _ _ _ _ _ _ us hl => match us, hl with | [_, _, _, _], _ => rfl) fun f fd F => ok_cases F U d1 d2
  have d7 : Cal l.prog w K mg base 4 "_law_choices" ["_law_well"] (spChoices K) := cal_mk d__law_choices X G (fun _ _ _ _ _ _ us hl => match us, hl with | [_], _ => rfl) fun f fd F => ok_choices F U d1 d3 d4 d5 d6
  have bL := (fun_mk (st := s__law_thing) l_L c_L kp_L).binds (ps := ["_law_well", "_law_old", "_law_sort", "_law_deep"]) (fun _ _ _ _ _ _ us hl => match us, hl with | [_, _, _, _], _ => rfl)
  have d8 : Cal l.prog w K mg base 13 "_law_thing" ["_law_well", "_law_old", "_law_sort", "_law_deep"] (spThing K C_Case [(PB, ("_by_numbers.<locals>.<lambda>" : Str)), (PL, ("_law_thing.<locals>.<lambda>" : Str))] 10) := ⟨fL, _, ok_thing l_L c_L U TBL (.tail _ (.head _)) uL d1 ca2 (PySem.W.mg_of X G n_L) kp_L bL 10, PySem.W.mg_of X G n_L, kp_L, bL⟩
  obtain ⟨fSp, ocSp, odSp, anSp, oslSp, kVSp, dcSp, pmSp, cdSp, ctSp, aSp, lkSp, cSp, kpSp⟩ := d__law_plainly
  have FSp := fun_mk (st := s__law_plainly) lkSp cSp kpSp
  have bSp := FSp.binds (ps := ["_law_thing_here"]) (fun _ _ _ _ _ _ us hl => match us, hl with | [_], _ => rfl)
  have d9 : Cal l.prog w K mg base 41 "_law_plainly" ["_law_thing_here"] (spPlain K C_Case 40) := ⟨fSp, _, ok_plainly FSp U CI (PySem.W.mg_of X G aSp) kpSp bSp 40, PySem.W.mg_of X G aSp, kpSp, bSp⟩
  obtain ⟨fSd, ocSd, odSd, anSd, oslSd, kVSd, dcSd, pmSd, cdSd, ctSd, aSd, lkSd, cSd, kpSd⟩ := d__law_due
  have FSd := fun_mk (st := s__law_due) lkSd cSd kpSd
  have bSd := FSd.binds (ps := ["_law_world", "_law_path", "_law_old", "_law_new", "_law_thing_here"]) (fun _ _ _ _ _ _ us hl => match us, hl with | [_, _, _, _, _], _ => rfl)
  obtain ⟨fSc, ocSc, odSc, anSc, oslSc, kVSc, dcSc, pmSc, cdSc, ctSc, aSc, lkSc, cSc, kpSc⟩ := d__law_case
  have FSc := fun_mk (st := s__law_case) lkSc cSc kpSc
  have bSc := FSc.binds (ps := ["_law_world", "_law_path", "_law_old", "_law_new", "_law_thing_here"]) (fun _ _ _ _ _ _ us hl => match us, hl with | [_, _, _, _, _], _ => rfl)
  have dA : Cal l.prog w K mg base 81 "_law_due" ["_law_world", "_law_path", "_law_old", "_law_new", "_law_thing_here"] (spDue K C_Case 40) := ⟨fSd, _, ok_due FSd FSc U CI (PySem.W.mg_of X G aSd) kpSd bSd (PySem.W.mg_of X G aSc) kpSc bSc 40, PySem.W.mg_of X G aSd, kpSd, bSd⟩
  have dB : Cal l.prog w K mg base 42 "_law_found" ["_law_old", "_law_new", "_law_thing_here"] (spFound K C_Case C_Schema 40) := cal_mk d__law_found X G (fun _ _ _ _ _ _ us hl => match us, hl with | [_, _, _], _ => rfl) fun f fd F => ok_found F U N R tA d9
  exact ok_law (fun_mk (st := s_law) lk c kp) U d7 d1 d8 dA dB ca2 m3
end K22
open PySem PySem.W PyProof.Rows
set_option maxHeartbeats 0 in
theorem PySem.Challenge.cw_thingwires_k22_cases_turned_holds : PySem.Challenge.rw_thingwires_k22_cases_turned.Holds := by
  w_on; o_law; k_head; (case hw => w_witness2)
  k_fill
  refine LamX.walk_ofTs (l := PySem.Challenge.rw_thingwires_k22_cases_turned) (n := 63) (k := 82) (x := "_law_script") (CX := fun _ => L2.CX0) rfl (by decide) rfl ⟨rfl, by decide, by decide⟩ (fun w h Y => PySem.W.km_in_of Y) ?F (fun _ _ _ _ _ h => h)
  case F =>
    intro w mg fa h Y KX G hmg
    refine' K22.all_mk KX G hmg (Tw.defIn_mk ?twa0 ?twl0 ?twc0 ?twk0) (Tw.defIn_mk ?twa1 ?twl1 ?twc1 ?twk1) (Tw.defIn_mk ?twa2 ?twl2 ?twc2 ?twk2) (Tw.defIn_mk ?twa3 ?twl3 ?twc3 ?twk3) (Tw.defIn_mk ?twa4 ?twl4 ?twc4 ?twk4) (Tw.defIn_mk ?twa5 ?twl5 ?twc5 ?twk5) (Tw.defIn_mk ?twa6 ?twl6 ?twc6 ?twk6) (Tw.defIn_mk ?twa7 ?twl7 ?twc7 ?twk7) (Tw.defIn_mk ?twa8 ?twl8 ?twc8 ?twk8) (Tw.defIn_mk ?twa9 ?twl9 ?twc9 ?twk9) (Tw.defIn_mk ?twa10 ?twl10 ?twc10 ?twk10) (Tw.defIn_mk ?twa11 ?twl11 ?twc11 ?twk11) (Tw.defIn_mk ?twa12 ?twl12 ?twc12 ?twk12) (Tw.defIn_mk ?twa13 ?twl13 ?twc13 ?twk13) (Tw.defIn_mk ?twa14 ?twl14 ?twc14 ?twk14) (Tw.defIn_mk ?twa15 ?twl15 ?twc15 ?twk15) (Tw.defIn_mk ?twa16 ?twl16 ?twc16 ?twk16) (Tw.defIn_mk ?twa17 ?twl17 ?twc17 ?twk17) (Tw.defIn_mk ?twa18 ?twl18 ?twc18 ?twk18) (Tw.defIn_mk ?twa19 ?twl19 ?twc19 ?twk19) (Tw.defIn_mk ?twa20 ?twl20 ?twc20 ?twk20) (Tw.defIn_mk ?twa21 ?twl21 ?twc21 ?twk21) (Tw.defIn_mk ?twa22 ?twl22 ?twc22 ?twk22) (Tw.defIn_mk ?twa23 ?twl23 ?twc23 ?twk23) (Tw.defIn_mk ?twa24 ?twl24 ?twc24 ?twk24) (Tw.defIn_mk ?twa25 ?twl25 ?twc25 ?twk25) (Tw.defIn_mk ?twa26 ?twl26 ?twc26 ?twk26) (Tw.defIn_mk ?twa27 ?twl27 ?twc27 ?twk27) (Tw.defIn_mk ?twa28 ?twl28 ?twc28 ?twk28) (Tw.defIn_mk ?twa29 ?twl29 ?twc29 ?twk29) (Tw.defIn_mk ?twa30 ?twl30 ?twc30 ?twk30) (Tw.defIn_mk ?twa31 ?twl31 ?twc31 ?twk31) (Tw.defIn_mk ?twa32 ?twl32 ?twc32 ?twk32) (Tw.defIn_mk ?twa33 ?twl33 ?twc33 ?twk33) (Tw.defIn_mk ?twa34 ?twl34 ?twc34 ?twk34) (Tw.defIn_mk ?twa35 ?twl35 ?twc35 ?twk35) (Tw.defIn_mk ?twa36 ?twl36 ?twc36 ?twk36) (Tw.ClIn.mk ?twxg0 ?twxp0 ?twxh0 ?twxo0 ?twxs0 ?twxm0 ?twxk0) (Tw.ClIn.mk ?twxg1 ?twxp1 ?twxh1 ?twxo1 ?twxs1 ?twxm1 ?twxk1) (Tw.ClIn.mk ?twxg2 ?twxp2 ?twxh2 ?twxo2 ?twxs2 ?twxm2 ?twxk2) (Tw.methIn_mk ?twya0 ?twyi0 ?twyl0 ?twyc0 ?twyk0) (Tw.methIn_mk ?twya1 ?twyi1 ?twyl1 ?twyc1 ?twyk1) (Tw.methIn_mk ?twya2 ?twyi2 ?twyl2 ?twyc2 ?twyk2) (Tw.methIn_mk ?twya3 ?twyi3 ?twyl3 ?twyc3 ?twyk3) (Tw.methIn_mk ?twya4 ?twyi4 ?twyl4 ?twyc4 ?twyk4) (Tw.methIn_mk ?twya5 ?twyi5 ?twyl5 ?twyc5 ?twyk5) (Tw.methIn_mk ?twya6 ?twyi6 ?twyl6 ?twyc6 ?twyk6) ?twn0 ?twn1 ?twn2 ?twn3 ?twn4 ?twn5 ?twn6 ?twn7 ?twn8 ?twn9 ?twn10 ?twn11 ?twg0 ?twg1 ?twg2 ?twg3 ?twg4 ?twg5 ?twg6 ?twg7 ?twz0 ?twz1 ?twz2 ?twz3 ?twz4 ?twz5 ?twz6 ?twz7 ?twz8 ?twz9 ?twz10 ?twz11 ?twz12 ?twz13 ?twz14 ?twz15 ?twz16 ?twe0 ?twe1 ?twe2 ?twe3 ?twe4 ?twe5 ?twe6 ?twe7 ?twe8 ?twe9 ?twe10 ?twe11 ?twe12 ?twe13 ?twe14 ?twe15 ?twe16 ?twe17 ?twe18 ?twe19 ?twe20 ?twe21 ?twe22 ?twe23 ?twe24 ?twe25 ?twe26 ?twe27 ?twe28 ?twe29 ?twe30 ?twe31 ?twe32 ?twe33 ?twe34 ?twe35 ?twe36 ?twe37 ?twe38 ?twe39 ?twe40 ?twe41 ?twe42 ?twe43 ?twe44 ?twe45 ?twe46 ?twe47 ?twe48 ?twe49 ?twe50 ?twe51 ?twe52 ?twe53 ?twe54 ?twe55 ?twe56 ?twe57 ?twe58 ?twe59 ?twe60 ?twe61 ?twe62 ?twe63 ?twe64 ?twe65 ?twe66 ?twe67 ?twe68 ?twe69 ?twe70 ?twe71 ?twe72 ?twe73 ?twe74 ?twe75 ?twe76 ?twe77 ?twe78 ?twe79 ?twe80 ?twe81 ?twe82 ?twe83 ?twe84 ?twe85 ?twe86 ?twe87 ?twe88 ?twe89 ?twe90 ?twe91 ?twe92 ?twe93 ?twe94 ?twe95 ?twe96 ?twe97 ?twe98 ?twe99 ?twe100 ?twe101 (Tw.oexC_mk ?tws0x0 ?tws0x1 ?tws0x2 ?tws0x3 ?tws0x4 ?tws0x5) (L2.XfC.mk ?tws1x0 ?tws1x1 ?tws1x2 ?tws1x3) (L2.ExcC.mk ?tws2x0 ?tws2x1 ?tws2x2 ?tws2x3 ?tws2x4 ?tws2x5 ?tws2x6 ?tws2x7) (K22.methD_mk ?tws3x0 ?tws3x1 ?tws3x2 ?tws3x3 ?tws3x4 ?tws3x5)
    (case twe45 => k_is)
    (case twe46 => k_is)
    (case twe43 => k_is)
    (case twe57 => k_is)
    (case twe62 => k_is)
    (case twe67 => k_is)
    (case twe72 => k_is)
    (case twe77 => k_is)
    (case twe82 => k_is)
    (case twe87 => k_is)
    (case twe92 => k_is)
    (case twe97 => k_is)
    (case twa0 => k_is)
    (case twl0 => k_is)
    (case twc0 => k_is)
    (case twk0 => k_is)
    (case twa1 => k_is)
    (case twl1 => k_is)
    (case twc1 => k_is)
    (case twk1 => k_is)
    (case twa2 => k_is)
    (case twl2 => k_is)
    (case twc2 => k_is)
    (case twk2 => k_is)
    (case twa3 => k_is)
    (case twl3 => k_is)
    (case twc3 => k_is)
    (case twk3 => k_is)
    (case twa4 => k_is)
    (case twl4 => k_is)
    (case twc4 => k_is)
    (case twk4 => k_is)
    (case twa5 => k_is)
    (case twl5 => k_is)
    (case twc5 => k_is)
    (case twk5 => k_is)
    (case twa6 => k_is)
    (case twl6 => k_is)
    (case twc6 => k_is)
    (case twk6 => k_is)
    (case twa7 => k_is)
    (case twl7 => k_is)
    (case twc7 => k_is)
    (case twk7 => k_is)
    (case twa8 => k_is)
    (case twl8 => k_is)
    (case twc8 => k_is)
    (case twk8 => k_is)
    (case twa9 => k_is)
    (case twl9 => k_is)
    (case twc9 => k_is)
    (case twk9 => k_is)
    (case twa10 => k_is)
    (case twl10 => k_is)
    (case twc10 => k_is)
    (case twk10 => k_is)
    (case twa11 => k_is)
    (case twl11 => k_is)
    (case twc11 => k_is)
    (case twk11 => k_is)
    (case twa12 => k_is)
    (case twl12 => k_is)
    (case twc12 => k_is)
    (case twk12 => k_is)
    (case twa13 => k_is)
    (case twl13 => k_is)
    (case twc13 => k_is)
    (case twk13 => k_is)
    (case twa14 => k_is)
    (case twl14 => k_is)
    (case twc14 => k_is)
    (case twk14 => k_is)
    (case twa15 => k_is)
    (case twl15 => k_is)
    (case twc15 => k_is)
    (case twk15 => k_is)
    (case twa16 => k_is)
    (case twl16 => k_is)
    (case twc16 => k_is)
    (case twk16 => k_is)
    (case twa17 => k_is)
    (case twl17 => k_is)
    (case twc17 => k_is)
    (case twk17 => k_is)
    (case twa18 => k_is)
    (case twl18 => k_is)
    (case twc18 => k_is)
    (case twk18 => k_is)
    (case twa19 => k_is)
    (case twl19 => k_is)
    (case twc19 => k_is)
    (case twk19 => k_is)
    (case twa20 => k_is)
    (case twl20 => k_is)
    (case twc20 => k_is)
    (case twk20 => k_is)
    (case twa21 => k_is)
    (case twl21 => k_is)
    (case twc21 => k_is)
    (case twk21 => k_is)
    (case twa22 => k_is)
    (case twl22 => k_is)
    (case twc22 => k_is)
    (case twk22 => k_is)
    (case twa23 => k_is)
    (case twl23 => k_is)
    (case twc23 => k_is)
    (case twk23 => k_is)
    (case twa24 => k_is)
    (case twl24 => k_is)
    (case twc24 => k_is)
    (case twk24 => k_is)
    (case twa25 => k_is)
    (case twl25 => k_is)
    (case twc25 => k_is)
    (case twk25 => k_is)
    (case twa26 => k_is)
    (case twl26 => k_is)
    (case twc26 => k_is)
    (case twk26 => k_is)
    (case twa27 => k_is)
    (case twl27 => k_is)
    (case twc27 => k_is)
    (case twk27 => k_is)
    (case twa28 => k_is)
    (case twl28 => k_is)
    (case twc28 => k_is)
    (case twk28 => k_is)
    (case twa29 => k_is)
    (case twl29 => k_is)
    (case twc29 => k_is)
    (case twk29 => k_is)
    (case twa30 => k_is)
    (case twl30 => k_is)
    (case twc30 => k_is)
    (case twk30 => k_is)
    (case twa31 => k_is)
    (case twl31 => k_is)
    (case twc31 => k_is)
    (case twk31 => k_is)
    (case twa32 => k_is)
    (case twl32 => k_is)
    (case twc32 => k_is)
    (case twk32 => k_is)
    (case twa33 => k_is)
    (case twl33 => k_is)
    (case twc33 => k_is)
    (case twk33 => k_is)
    (case twa34 => k_is)
    (case twl34 => k_is)
    (case twc34 => k_is)
    (case twk34 => k_is)
    (case twa35 => k_is)
    (case twl35 => k_is)
    (case twc35 => k_is)
    (case twk35 => k_is)
    (case twa36 => k_is)
    (case twl36 => k_is)
    (case twc36 => k_is)
    (case twk36 => k_is)
    (case twxg0 => k_is)
    (case twxp0 => k_is)
    (case twxh0 => k_is)
    (case twxo0 => k_is)
    (case twxs0 => k_is)
    (case twxm0 => k_is)
    (case twxk0 => k_is)
    (case twxg1 => k_is)
    (case twxp1 => k_is)
    (case twxh1 => k_is)
    (case twxo1 => k_is)
    (case twxs1 => k_is)
    (case twxm1 => k_is)
    (case twxk1 => k_is)
    (case twxg2 => k_is)
    (case twxp2 => k_is)
    (case twxh2 => k_is)
    (case twxo2 => k_is)
    (case twxs2 => k_is)
    (case twxm2 => k_is)
    (case twxk2 => k_is)
    (case twya0 => k_is)
    (case twyi0 => k_is)
    (case twyl0 => k_is)
    (case twyc0 => k_is)
    (case twyk0 => k_is)
    (case twya1 => k_is)
    (case twyi1 => k_is)
    (case twyl1 => k_is)
    (case twyc1 => k_is)
    (case twyk1 => k_is)
    (case twya2 => k_is)
    (case twyi2 => k_is)
    (case twyl2 => k_is)
    (case twyc2 => k_is)
    (case twyk2 => k_is)
    (case twya3 => k_is)
    (case twyi3 => k_is)
    (case twyl3 => k_is)
    (case twyc3 => k_is)
    (case twyk3 => k_is)
    (case twya4 => k_is)
    (case twyi4 => k_is)
    (case twyl4 => k_is)
    (case twyc4 => k_is)
    (case twyk4 => k_is)
    (case twya5 => k_is)
    (case twyi5 => k_is)
    (case twyl5 => k_is)
    (case twyc5 => k_is)
    (case twyk5 => k_is)
    (case twya6 => k_is)
    (case twyi6 => k_is)
    (case twyl6 => k_is)
    (case twyc6 => k_is)
    (case twyk6 => k_is)
    (case twn0 => k_is)
    (case twn1 => k_is)
    (case twn2 => k_is)
    (case twn3 => k_is)
    (case twn4 => k_is)
    (case twn5 => k_is)
    (case twn6 => k_is)
    (case twn7 => k_is)
    (case twn8 => k_is)
    (case twn9 => k_is)
    (case twn10 => k_is)
    (case twn11 => k_is)
    (case twg0 => k_is)
    (case twg1 => k_is)
    (case twg2 => k_is)
    (case twg3 => k_is)
    (case twg4 => k_is)
    (case twg5 => k_is)
    (case twg6 => k_is)
    (case twg7 => k_is)
    (case twz0 => k_is)
    (case twz1 => k_is)
    (case twz2 => k_is)
    (case twz3 => k_is)
    (case twz4 => k_is)
    (case twz5 => k_is)
    (case twz6 => k_is)
    (case twz7 => k_is)
    (case twz8 => k_is)
    (case twz9 => k_is)
    (case twz10 => k_is)
    (case twz11 => k_is)
    (case twz12 => k_is)
    (case twz13 => k_is)
    (case twz14 => k_is)
    (case twz15 => k_is)
    (case twz16 => k_is)
    (case twe0 => k_is)
    (case twe1 => k_is)
    (case twe2 => k_is)
    (case twe3 => k_is)
    (case twe4 => k_is)
    (case twe5 => exact rfl)
    (case twe6 => kernel_rfl)
    (case twe7 => kernel_rfl)
    (case twe8 => exact PySem.W.km_tabs_of Y _ (by decide))
    (case twe9 => k_is)
    (case twe10 => k_is)
    (case twe11 => k_is)
    (case twe12 => k_is)
    (case twe13 => k_is)
    (case twe14 => exact rfl)
    (case twe15 => kernel_rfl)
    (case twe16 => kernel_rfl)
    (case twe17 => exact PySem.W.km_tabs_of Y _ (by decide))
    (case twe18 => decide)
    (case twe19 => k_is)
    (case twe20 => k_is)
    (case twe21 => k_is)
    (case twe22 => k_is)
    (case twe23 => k_is)
    (case twe24 => k_is)
    (case twe25 => k_is)
    (case twe26 => k_is)
    (case twe27 => k_is)
    (case twe28 => k_is)
    (case twe29 => k_is)
    (case twe30 => k_is)
    (case twe31 => k_is)
    (case twe32 => k_is)
    (case twe33 => k_is)
    (case twe34 => k_is)
    (case twe35 => k_is)
    (case twe36 => k_is)
    (case twe37 => k_is)
    (case twe38 => k_is)
    (case twe39 => k_is)
    (case twe40 => k_is)
    (case twe41 => k_is)
    (case twe42 => k_is)
    (case twe44 => k_is)
    (case twe47 => k_is)
    (case twe48 => k_is)
    (case twe49 => k_is)
    (case twe50 => k_is)
    (case twe51 => k_is)
    (case twe52 => k_is)
    (case twe53 => k_is)
    (case twe54 => k_is)
    (case twe55 => k_is)
    (case twe56 => k_is)
    (case twe58 => decide +kernel)
    (case twe59 => k_is)
    (case twe60 => k_is)
    (case twe61 => k_is)
    (case twe63 => decide +kernel)
    (case twe64 => k_is)
    (case twe65 => k_is)
    (case twe66 => k_is)
    (case twe68 => decide +kernel)
    (case twe69 => k_is)
    (case twe70 => k_is)
    (case twe71 => k_is)
    (case twe73 => decide +kernel)
    (case twe74 => k_is)
    (case twe75 => k_is)
    (case twe76 => k_is)
    (case twe78 => decide +kernel)
    (case twe79 => k_is)
    (case twe80 => k_is)
    (case twe81 => k_is)
    (case twe83 => decide +kernel)
    (case twe84 => k_is)
    (case twe85 => k_is)
    (case twe86 => k_is)
    (case twe88 => decide +kernel)
    (case twe89 => k_is)
    (case twe90 => k_is)
    (case twe91 => k_is)
    (case twe93 => decide +kernel)
    (case twe94 => k_is)
    (case twe95 => k_is)
    (case twe96 => k_is)
    (case twe98 => decide +kernel)
    (case twe99 => k_is)
    (case twe100 => k_is)
    (case twe101 => k_is)
    (case tws0x0 => k_is)
    (case tws0x1 => decide +kernel)
    (case tws0x2 => k_is)
    (case tws0x3 => k_is)
    (case tws0x4 => k_is)
    (case tws0x5 => k_is)
    (case tws1x0 => k_is)
    (case tws1x1 => k_is)
    (case tws1x2 => k_is)
    (case tws1x3 => k_is)
    (case tws2x0 => k_is)
    (case tws2x1 => k_is)
    (case tws2x2 => k_is)
    (case tws2x3 => k_is)
    (case tws2x4 => k_is)
    (case tws2x5 => k_is)
    (case tws2x6 => k_is)
    (case tws2x7 => k_is)
    (case tws3x0 => k_is)
    (case tws3x1 => k_is)
    (case tws3x2 => k_is)
    (case tws3x3 => k_is)
    (case tws3x4 => k_is)
    (case tws3x5 => k_is)
