import PyProof.Rows.All
import Wide.All
import OpenK.AllK
import Wide.FinOn
import HandS.ForMost
import HandS.IsInst
import HandS.Walk
import HandS.Defaults
import HandS.Codes
import PySem.Sem
import KE.GoesEnumKw
import HandS.Star
import HandS.SortKw
import HandS.Wide
import HandS.ListItems
import HandS.TupAny
import PyProof.AutoSeq1
import HandS.ExcInit
import HandS.ExcOwn
import HandS.ExcField
import HandS.WordsExc
import HandS.ExcIs
import KE.KExcIs
import HandS.Lambda
import HandS.ClsMeth
import KE.SortKeyHeap
import PyProof.Rows.TupSub
import PyProof.TupleOfSeq
import HandS.Iter
import HandS.DictComp
import HandS.MakeKwOnly
import HandS.Replace
import HandS.StrMore
import HandS.TryOnly
import HandS.TupMul
import HandS.Dict
import HandS.DeepEq
import HandS.Finally
import HandS.Style
import HandS.EndTab
import PySem.Challenge.RW_thingwires_k02_schemas_made
set_option Elab.async false
set_option linter.all false
set_option maxRecDepth 100000
/-! TwKit: what all our proofs share: defs that may be called, the well of numbers, frames. -/
namespace Tw
open PySem PySem.Spec PyProof.Rows L2

/-! ### a def of the text, as the top has left it -/
def DefIn (K : PySem.W.Frag) (x : Str) (st : Stmt) : Prop := ∃ (f : Addr) (oc : Value) (od an : Option Addr) (osl : Array (Option Value)) (kV dc pm cd ct : Value),
  PySem.W.nsIn K mainGlobals x = some (some (.ref f)) ∧ K.lookup f = some ⟨oc, od, .func (PySem.W.fnOf x x (defArgs st) (defBody st) (defScope st) .none kV dc pm an cd ct), osl⟩ ∧ PySem.W.codeIn K cd x = true ∧ PySem.W.keepIn K (.ref f) = true

section
variable {P : Program} {w : World} {K : PySem.W.Frag} {mg : Str → Option Value} {base : Heap}
theorem defIn_mk {x : Str} {st : Stmt} {f : Addr} {oc : Value} {od an : Option Addr} {osl : Array (Option Value)} {kV dc pm cd ct : Value} (a : PySem.W.nsIn K mainGlobals x = some (some (.ref f)))
    (l : K.lookup f = some ⟨oc, od, .func (PySem.W.fnOf x x (defArgs st) (defBody st) (defScope st) .none kV dc pm an cd ct), osl⟩) (c : PySem.W.codeIn K cd x = true) (k : PySem.W.keepIn K (.ref f) = true) : DefIn K x st :=
  ⟨f, oc, od, an, osl, kV, dc, pm, cd, ct, a, l, c, k⟩
/-- a def by its name: a promise that is kept, called by place -/
structure Cal (P : Program) (w : World) (K : PySem.W.Frag) (mg : Str → Option Value) (base : Heap) (k : Nat) (x : Str) (ps : List Str) (sp : Sp) : Prop where
  ex : ∃ (f : Addr) (fd : FuncData), FnOk P w K mg base CX0 k f fd ps sp ∧ mg x = some (.ref f) ∧ PySem.W.keepIn K (.ref f) = true ∧ Binds K fd ps []
/-- .. by keywords alone, in the order ks; gV puts their values into the parameters' order -/
structure CalK (P : Program) (w : World) (K : PySem.W.Frag) (mg : Str → Option Value) (base : Heap) (k : Nat) (x : Str) (n : Nat) (ks : List Str) (gV : List V → List V → List V) (sp : Sp) : Prop where
  ex : ∃ (f : Addr) (fd : FuncData) (ps : List Str) (g : List Value → List Value → List Value), FnOk P w K mg base CX0 k f fd ps sp ∧ mg x = some (.ref f) ∧ PySem.W.keepIn K (.ref f) = true ∧ KBn K fd ps n ks g gV

theorem cal_mk {x : Str} {st : Stmt} {ps : List Str} {k : Nat} {sp : Sp} {h : Heap} (D : DefIn K x st) (X : K.In h) (G : h.Ns mainGlobals mg)
    (b : ∀ (kV doc pm : Value) (an : Option Addr) (cdv ct : Value) (us : List Value), us.length = ps.length → bindArgs (PySem.W.fnOf x x (defArgs st) (defBody st) (defScope st) .none kV doc pm an cdv ct) ⟨us, []⟩ = pure (ps.zip us))
    (ok : ∀ (f : Addr) (fd : FuncData), Fun K x x st f fd → FnOk P w K mg base CX0 k f fd ps sp) : Cal P w K mg base k x ps sp := by
  obtain ⟨f, oc, od, an, osl, kV, dc, pm, cd, ct, a, l, c, kp⟩ := D
  have F := fun_mk (st := st) l c kp
  exact ⟨f, _, ok f _ F, PySem.W.mg_of X G a, kp, F.binds b⟩
theorem calK_mk {x : Str} {st : Stmt} {ps : List Str} {k n : Nat} {ks : List Str} {sp : Sp} {h : Heap} (g : {α : Type} → List α → List α → List α) (D : DefIn K x st) (X : K.In h) (G : h.Ns mainGlobals mg)
    (b : ∀ (kV doc pm : Value) (an : Option Addr) (cdv ct : Value) (us ws : List Value), us.length = n → ws.length = ks.length → bindArgs (PySem.W.fnOf x x (defArgs st) (defBody st) (defScope st) .none kV doc pm an cdv ct) ⟨us, ks.zip ws⟩ = pure (ps.zip (g us ws)))
    (hrel : ∀ {vs : List V} {us : List Value} {zs : List V} {ws : List Value}, Vals vs us → Vals zs ws → Vals (g vs zs) (g us ws))
    (ok : ∀ (f : Addr) (fd : FuncData), Fun K x x st f fd → FnOk P w K mg base CX0 k f fd ps sp) : CalK P w K mg base k x n ks g sp := by
  obtain ⟨f, oc, od, an, osl, kV, dc, pm, cd, ct, a, l, c, kp⟩ := D
  have F := fun_mk (st := st) l c kp
  exact ⟨f, _, ps, g, ok f _ F, PySem.W.mg_of X G a, kp, fun s us ws _ h1 h2 => .of_eq (b _ _ _ _ _ _ us ws h1 h2), hrel⟩
end

section
variable {X : Cx} {k j n : Nat} {x : Str} {ps ks : List Str} {sp : Sp} {gV : List V → List V → List V} {p pos : Pos} {e : Expr} {es : List Expr} {kws : List Keyword} {t tk : TA}
theorem pe_cal (c : Cal X.prog X.w X.K X.mg X.base k x ps sp) (hr : Room j X.A) (hk : k ≤ j) (hg : Gl X x) (ha : PA X (e :: es) t)
    (hdb : (x == ("__debug__" : Str)) = false := by decide) (he : starEach (e :: es) X.env = (false, eval e X.env) :: starEach es X.env := by rfl) (hpl : (backTo pos (starEach es X.env)).any (·.1) = false := by rfl) :
    PE X (.Call (.Name x p) (e :: es) [] pos) (tCall sp [] E0 t) := by
  obtain ⟨f, fd, F, hm, kp, b⟩ := c.ex
  exact pe_call F (hr.mono hk) hg hm kp b .nil pass0 ha hdb he hpl
theorem pe_cal0 (c : Cal X.prog X.w X.K X.mg X.base k x ps sp) (hr : Room j X.A) (hk : k ≤ j) (hg : Gl X x) (hdb : (x == ("__debug__" : Str)) = false := by decide) :
    PE X (.Call (.Name x p) [] [] pos) (tCall sp [] E0 tNil) := by
  obtain ⟨f, fd, F, hm, kp, b⟩ := c.ex
  exact pe_call0 F (hr.mono hk) hg hm kp b .nil pass0 hdb
/-- f(a, .., k = v, ..) -/
theorem pe_calN (c : CalK X.prog X.w X.K X.mg X.base k x n ks gV sp) (hr : Room j X.A) (hk : k ≤ j) (hg : Gl X x) (ha : PA X (e :: es) t) (hkw : PK X kws tk) (hall : (backToKw pos (keywordEach kws X.env)).all (·.1.isSome) = true := by rfl) (hks : (backToKw pos (keywordEach kws X.env)).filterMap (·.1) = ks := by rfl)
    (hdb : (x == ("__debug__" : Str)) = false := by decide) (he : starEach (e :: es) X.env = (false, eval e X.env) :: starEach es X.env := by rfl)
    (hpl : ((backTo pos (starEach (e :: es) X.env)).any (·.1) || (backToKw pos (keywordEach kws X.env)).any (·.1.isNone)) = false := by rfl) :
    PE X (.Call (.Name x p) (e :: es) kws pos) (tCallN n ks.length sp gV E0 t tk) := by
  obtain ⟨f, fd, ps, g, F, hm, kp, b⟩ := c.ex
  exact pe_callN F (hr.mono hk) hg hm kp b pass0 ha hkw hall hks hdb he hpl
/-- f(k = v, ..) -/
theorem pe_calN0 (c : CalK X.prog X.w X.K X.mg X.base k x 0 ks gV sp) (hr : Room j X.A) (hk : k ≤ j) (hg : Gl X x) (hkw : PK X kws tk) (hall : (backToKw pos (keywordEach kws X.env)).all (·.1.isSome) = true := by rfl) (hks : (backToKw pos (keywordEach kws X.env)).filterMap (·.1) = ks := by rfl)
    (hdb : (x == ("__debug__" : Str)) = false := by decide) (hpl : ((backTo pos (starEach [] X.env)).any (·.1) || (backToKw pos (keywordEach kws X.env)).any (·.1.isNone)) = false := by rfl) :
    PE X (.Call (.Name x p) [] kws pos) (tCallN 0 ks.length sp gV E0 tNil tk) := by
  obtain ⟨f, fd, ps, g, F, hm, kp, b⟩ := c.ex
  refine ⟨fun pins s σ H Q I h => ?_⟩
  refine wpAny_Call_Name_kw (ld_glob I hg hm ?_ hdb)
  refine PySem.W.callWith_KW0 (h₀ := X.base) I.ok.mod.kin kp hall ?_ hpl
  refine thn (hkw.run pos pins s σ H _ I h) fun ws s2 ⟨zs, H2, I2, rz, l1, l2, q2⟩ => ⟨I2.kIn, ?_⟩
  rw [hks]
  exact run_fnN (us := []) (vs := []) F (hr.mono hk) b pass0 I2 .nil rz rfl l2 q2
end

/-! ### heaps -/
theorem same_upd {H : Hp} {p : Addr} {o : HO} (h : H p = none) : Same H (upd H p o) := fun b x e => by
  rw [upd_ne (ne_of_none e h)]
  exact e
theorem Same.tupq {K : PySem.W.Frag} {H H' : Hp} {a : Addr} {xs : List V} (e : Same H H') (h : SqT K H a xs) : SqT K H' a xs := by
  rcases h with (h | ⟨o, h⟩) | h
  · exact .inl (.inl (e _ _ h))
  · exact .inl (.inr ⟨o, e _ _ h⟩)
  · exact .inr h

/-- the well at a: a list of three numbers -/
def IsWl (H : Hp) (a : Addr) : Prop := ∃ x y z : Int, H a = some (.lst [.int x, .int y, .int z])
/-- all but the well at a stays; that is a well again -/
def Fw (a : Addr) (H H' : Hp) : Prop := (∀ b o, b ≠ a → H b = some o → H' b = some o) ∧ IsWl H' a
theorem IsWl.same {H H' : Hp} {a : Addr} (h : IsWl H a) (s : Same H H') : IsWl H' a := by
  obtain ⟨x, y, z, e⟩ := h
  exact ⟨x, y, z, s _ _ e⟩
theorem Fw.refl {H : Hp} {a : Addr} (h : IsWl H a) : Fw a H H := ⟨fun _ _ _ e => e, h⟩
theorem Fw.trans {a : Addr} {H H1 H2 : Hp} (f : Fw a H H1) (g : Fw a H1 H2) : Fw a H H2 := ⟨fun b o n e => g.1 b o n (f.1 b o n e), g.2⟩
theorem Fw.same {a : Addr} {H H1 H2 : Hp} (f : Fw a H H1) (g : Same H1 H2) : Fw a H H2 := ⟨fun b o n e => g b o (f.1 b o n e), f.2.same g⟩
theorem Fw.of_same {a : Addr} {H H1 : Hp} (h : IsWl H a) (g : Same H H1) : Fw a H H1 := (Fw.refl h).same g
theorem Fw.free {a : Addr} {H H' : Hp} (f : Fw a H H') (h : IsWl H a) {p : Addr} (e : H' p = none) : H p = none := by
  cases q : H p with
  | none => rfl
  | some o =>
    by_cases hp : p = a
    · subst hp
      obtain ⟨_, _, _, z⟩ := f.2
      rw [z] at e
      cases e
    · rw [f.1 p o hp q] at e
      cases e
theorem IsWl.ne {H : Hp} {a p : Addr} (h : IsWl H a) (e : H p = none) : p ≠ a := fun q => by
  obtain ⟨_, _, _, z⟩ := h
  rw [q, z] at e
  cases e
/-- the draw's promise: any number below many -/
def spDraw : Sp := fun vs H Q _ => ∃ (a : Addr) (m : Int), vs = [.ref a, .int m] ∧ IsWl H a ∧ 0 < m ∧ m < 1073741824 ∧ ∀ (r : Int) (H' : Hp), 0 ≤ r → r < m → Fw a H H' → Q (.int r) H'

theorem iteB {c : Bool} {A B : Prop} (h1 : c = true → A) (h2 : c = false → B) : if c = true then A else B := by
  cases c
  · exact iteF (h2 rfl)
  · exact iteT (h1 rfl)

/-! ### plain texts -/
/-- a text of at most n signs below 128 -/
structure Asc (n : Nat) (z : Str) : Prop where
  le : z.length ≤ n
  lt : ∀ c ∈ z.cps.toList, c < 128
theorem len_toList (z : Str) : z.length = z.cps.toList.length := by
  show z.cps.size = _
  simp
theorem Asc.mono {m n : Nat} {z : Str} (h : Asc m z) (e : m ≤ n) : Asc n z := ⟨Nat.le_trans h.le e, h.lt⟩
theorem Asc.nil {n : Nat} : Asc n ⟨#[]⟩ := ⟨Nat.zero_le _, fun c h => by simp at h⟩
theorem Asc.one {c : Nat} (h : c < 128) : Asc 1 ⟨#[c]⟩ := ⟨Nat.le_refl _, fun d hd => by
  have e : d = c := by simpa using hd
  omega⟩
theorem toList_append (a b : Str) : (a ++ b).cps.toList = a.cps.toList ++ b.cps.toList := TL.tl_append a b
theorem Asc.append {m n : Nat} {a b : Str} (ha : Asc m a) (hb : Asc n b) : Asc (m + n) (a ++ b) := by
  refine ⟨?_, fun c hc => ?_⟩
  · have h1 := ha.le
    have h2 := hb.le
    rw [len_toList] at h1 h2 ⊢
    rw [toList_append, List.length_append]
    omega
  · rw [toList_append] at hc
    rcases List.mem_append.mp hc with h | h
    · exact ha.lt c h
    · exact hb.lt c h
theorem Asc.cut {n : Nat} {a : Str} (ha : Asc n a) (lo hi : Option Int) : Asc n (cutS a lo hi) := by
  refine ⟨Nat.le_trans (cutS_length a lo hi) ha.le, fun c hc => ha.lt c ?_⟩
  have e : c ∈ (a.cps.toList.drop (HT.sIx a.length 0 lo)).take (HT.sIx a.length a.length hi - HT.sIx a.length 0 lo) := hc
  exact List.mem_of_mem_drop (List.mem_of_mem_take e)
theorem Asc.ok {n : Nat} {z : Str} (h : Asc n z) : PyData.strOk z = true := by
  unfold PyData.strOk
  rw [← Array.all_toList, List.all_eq_true]
  intro c hc
  exact decide_eq_true (Nat.lt_trans (h.lt c hc) (by decide))
theorem asc_toList {l : List Nat} {n : Nat} (h : l.length ≤ n) (k : ∀ c ∈ l, c < 128) : Asc n ⟨l.toArray⟩ := ⟨by rw [len_toList]; simpa using h, fun c hc => k c (by simpa using hc)⟩
/-- written texts -/
def ascB (n : Nat) (z : Str) : Bool := decide (z.length ≤ n) && z.cps.toList.all fun c => decide (c < 128)
theorem Asc.of {n : Nat} {z : Str} (h : ascB n z = true) : Asc n z := by
  unfold ascB at h
  simp only [Bool.and_eq_true, decide_eq_true_eq, List.all_eq_true] at h
  exact ⟨h.1, h.2⟩
theorem Asc.at {n : Nat} {z : Str} (h : Asc n z) {i : Nat} (hi : i < z.length) : ∃ c, atI z.cps.toList (i : Int) = some c ∧ c < 128 := by
  have e : i < z.cps.toList.length := by rw [← len_toList]; exact hi
  exact ⟨z.cps.toList[i], atI_nat (List.getElem?_eq_getElem e), h.lt _ (List.getElem_mem e)⟩
theorem Asc.atZ {n : Nat} {z : Str} (h : Asc n z) {i : Int} (h0 : 0 ≤ i) (hi : i < z.length) : ∃ c, atI z.cps.toList i = some c ∧ c < 128 := by
  obtain ⟨c, e, l⟩ := h.at (i := i.toNat) (by omega)
  rw [Int.toNat_of_nonneg h0] at e
  exact ⟨c, e, l⟩
end Tw
/-! Sb: what the streams tell, on lists of numbers alone (no Python here). -/
namespace Sb
def By (xs : List Int) : Prop := ∀ b ∈ xs, 0 ≤ b ∧ b ≤ 255
def NZ (xs : List Int) : Prop := ∀ b ∈ xs, b ≠ 0
theorem By.nil : By [] := fun _ h => by cases h
theorem By.append {xs ys : List Int} (h : By xs) (k : By ys) : By (xs ++ ys) := fun b hb => (List.mem_append.mp hb).elim (h b) (k b)
theorem By.cons {x : Int} {xs : List Int} (h0 : 0 ≤ x) (h1 : x ≤ 255) (k : By xs) : By (x :: xs) := fun b hb => by
  rcases List.mem_cons.mp hb with rfl | h
  · exact ⟨h0, h1⟩
  · exact k b h
theorem By.one {x : Int} (h0 : 0 ≤ x) (h1 : x ≤ 255) : By [x] := By.cons h0 h1 .nil
theorem By.take {xs : List Int} (h : By xs) (n : Nat) : By (xs.take n) := fun b hb => h b (List.mem_of_mem_take hb)
theorem By.drop {xs : List Int} (h : By xs) (n : Nat) : By (xs.drop n) := fun b hb => h b (List.mem_of_mem_drop hb)
theorem By.left {xs ys : List Int} (h : By (xs ++ ys)) : By xs := fun b hb => h b (List.mem_append_left _ hb)
theorem By.right {xs ys : List Int} (h : By (xs ++ ys)) : By ys := fun b hb => h b (List.mem_append_right _ hb)
theorem By.rep {x : Int} (n : Nat) (h0 : 0 ≤ x) (h1 : x ≤ 255) : By (List.replicate n x) := fun b hb => by
  rw [(List.mem_replicate.mp hb).2]
  exact ⟨h0, h1⟩
theorem NZ.nil : NZ [] := fun _ h => by cases h
theorem NZ.append {xs ys : List Int} (h : NZ xs) (k : NZ ys) : NZ (xs ++ ys) := fun b hb => (List.mem_append.mp hb).elim (h b) (k b)
theorem NZ.take {xs : List Int} (h : NZ xs) (n : Nat) : NZ (xs.take n) := fun b hb => h b (List.mem_of_mem_take hb)
theorem NZ.drop {xs : List Int} (h : NZ xs) (n : Nat) : NZ (xs.drop n) := fun b hb => h b (List.mem_of_mem_drop hb)

/-! ### zeros -/
def zs (off : Nat) : List Int → List Nat
  | [] => []
  | b :: r => if b = 0 then off :: zs (off + 1) r else zs (off + 1) r
theorem zs_append (off : Nat) (xs ys : List Int) : zs off (xs ++ ys) = zs off xs ++ zs (off + xs.length) ys := by
  induction xs generalizing off with
  | nil => rfl
  | cons b r ih =>
    have e : off + (b :: r).length = off + 1 + r.length := by rw [List.length_cons]; omega
    rw [e]
    by_cases h : b = 0
    · simp only [List.cons_append, zs, if_pos h, ih]
    · simp only [List.cons_append, zs, if_neg h, ih]
theorem zs_nz {xs : List Int} (h : NZ xs) (off : Nat) : zs off xs = [] := by
  induction xs generalizing off with
  | nil => rfl
  | cons b r ih =>
    have h1 : b ≠ 0 := h b (List.mem_cons_self ..)
    simp only [zs, if_neg h1]
    exact ih (fun c hc => h c (List.mem_cons_of_mem _ hc)) _
theorem zs_length (off : Nat) (xs : List Int) : (zs off xs).length ≤ xs.length := by
  induction xs generalizing off with
  | nil => exact Nat.le_refl _
  | cons b r ih =>
    have := ih (off + 1)
    by_cases h : b = 0
    · simp only [zs, if_pos h, List.length_cons]; omega
    · simp only [zs, if_neg h, List.length_cons]; omega
theorem nz_of_zs {xs : List Int} {off : Nat} (h : zs off xs = []) : NZ xs := by
  induction xs generalizing off with
  | nil => exact .nil
  | cons b r ih =>
    by_cases hb : b = 0
    · simp [zs, hb] at h
    · simp only [zs, if_neg hb] at h
      intro c hc
      rcases List.mem_cons.mp hc with rfl | q
      · exact hb
      · exact ih h c q
/-- the first zero: ahead of it none -/
theorem zs_cons {xs : List Int} {off z : Nat} {t : List Nat} (h : zs off xs = z :: t) : ∃ seg r, xs = seg ++ 0 :: r ∧ NZ seg ∧ z = off + seg.length ∧ t = zs (z + 1) r := by
  induction xs generalizing off with
  | nil => cases h
  | cons b r ih =>
    by_cases hb : b = 0
    · simp only [zs, if_pos hb] at h
      cases h
      exact ⟨[], r, by rw [hb]; rfl, .nil, rfl, rfl⟩
    · simp only [zs, if_neg hb] at h
      obtain ⟨seg, r', e, hn, ez, et⟩ := ih h
      refine ⟨b :: seg, r', by rw [e]; rfl, fun c hc => ?_, by rw [ez, List.length_cons]; omega, et⟩
      rcases List.mem_cons.mp hc with rfl | q
      · exact hb
      · exact hn c q
theorem zs_take_succ {xs : List Int} {i : Nat} {b : Int} (h : xs[i]? = some b) (off : Nat) : zs off (xs.take (i + 1)) = zs off (xs.take i) ++ if b = 0 then [off + i] else [] := by
  have hi : i < xs.length := (List.getElem?_eq_some_iff.mp h).1
  rw [List.take_add_one, h, zs_append]
  have e : (xs.take i).length = i := by rw [List.length_take]; omega
  rw [e]
  by_cases hb : b = 0
  · simp [zs, hb]
  · simp [zs, hb]

/-! ### the check -/
def wsum (k : Int) : List Int → Int
  | [] => 0
  | b :: r => k * b + wsum (k + 1) r
def check (p : List Int) : List Int := [p.sum % 65521 / 256, p.sum % 65521 % 256, wsum 1 p % 65521 / 256, wsum 1 p % 65521 % 256]
theorem wsum_append (k : Int) (xs ys : List Int) : wsum k (xs ++ ys) = wsum k xs + wsum (k + (xs.length : Int)) ys := by
  induction xs generalizing k with
  | nil => simp [wsum]
  | cons b r ih =>
    have e : k + ((b :: r).length : Int) = k + 1 + (r.length : Int) := by rw [List.length_cons]; push_cast; omega
    rw [e, List.cons_append]
    simp only [wsum, ih]
    omega
theorem check_length (p : List Int) : (check p).length = 4 := rfl
theorem check_by (p : List Int) : By (check p) := by
  intro b hb
  have h1 : 0 ≤ p.sum % 65521 ∧ p.sum % 65521 < 65521 := by omega
  have h2 : 0 ≤ wsum 1 p % 65521 ∧ wsum 1 p % 65521 < 65521 := by omega
  simp only [check, List.mem_cons, List.not_mem_nil, or_false] at hb
  rcases hb with rfl | rfl | rfl | rfl <;> omega

/-! ### runs undone -/
/-- by fuel: what is made, what is left -/
def undo : Nat → List Int → List Int → Option (List Int)
  | 0, acc, _ => some acc
  | _ + 1, acc, [] => some acc
  | f + 1, acc, n :: r =>
    if r.length + 1 < n.toNat then none
    else undo f (acc ++ r.take (n.toNat - 1) ++ if n < 255 ∧ n.toNat < r.length + 1 then [0] else []) ((n :: r).drop n.toNat)
def unrun (p : List Int) : Option (List Int) := undo p.length [] p
theorem undo_nil (f : Nat) (acc : List Int) : undo f acc [] = some acc := by cases f <;> rfl
theorem undo_length {f : Nat} {acc p w : List Int} (hp : ∀ b ∈ p, 1 ≤ b) (h : undo f acc p = some w) : w.length ≤ acc.length + p.length := by
  induction f generalizing acc p with
  | zero => simp only [undo, Option.some.injEq] at h; subst h; omega
  | succ f ih =>
    cases p with
    | nil => simp only [undo, Option.some.injEq] at h; subst h; simp
    | cons n r =>
      simp only [undo] at h
      split at h
      · cases h
      · rename_i hn
        have h1 := hp n (List.mem_cons_self ..)
        have q := ih (fun b hb => hp b (List.mem_of_mem_drop hb)) h
        have e : ((n :: r).drop n.toNat).length = r.length + 1 - n.toNat := by rw [List.length_drop, List.length_cons]
        rw [e, List.length_append, List.length_append, List.length_take] at q
        rw [List.length_cons]
        have e2 : (if n < 255 ∧ n.toNat < r.length + 1 then [(0 : Int)] else []).length ≤ 1 := by split <;> simp
        omega
theorem undo_by {f : Nat} {acc p w : List Int} (ha : By acc) (hp : By p) (h : undo f acc p = some w) : By w := by
  induction f generalizing acc p with
  | zero => simp only [undo, Option.some.injEq] at h; subst h; exact ha
  | succ f ih =>
    cases p with
    | nil => simp only [undo, Option.some.injEq] at h; subst h; exact ha
    | cons n r =>
      simp only [undo] at h
      split at h
      · cases h
      · refine ih ?_ (hp.drop _) h
        refine (ha.append (By.take (fun b hb => hp b (List.mem_cons_of_mem _ hb)) _)).append ?_
        split
        · exact .one (by omega) (by omega)
        · exact .nil
theorem unrun_length {p w : List Int} (hp : ∀ b ∈ p, 1 ≤ b) (h : unrun p = some w) : w.length ≤ p.length := by
  have := undo_length hp h
  simpa using this
theorem unrun_by {p w : List Int} (hp : By p) (h : unrun p = some w) : By w := undo_by .nil hp h

/-! ### what is told -/
inductive Tell where
  | part (pl : Nat) (bs : List Int)
  | torn (pl n : Nat)
deriving DecidableEq
def tell (pl : Nat) (p : List Int) : Tell :=
  match unrun p with
  | some w => if 4 ≤ w.length ∧ w.drop (w.length - 4) = check (w.take (w.length - 4)) then .part pl (w.take (w.length - 4)) else .torn pl p.length
  | none => .torn pl p.length
def goes : List Int → Nat → List Int → List Tell × List Int × Nat
  | pc, pl, [] => ([], pc, pl)
  | pc, pl, b :: r => if b = 0 then ((if pc = [] then [] else [tell pl pc]) ++ (goes [] (pl + pc.length + 1) r).1, (goes [] (pl + pc.length + 1) r).2) else goes (pc ++ [b]) pl r
def rests (pc : List Int) (pl : Nat) : List Tell := if pc = [] then [] else [.torn pl pc.length]
def unstr (xs : List Int) : List Tell := (goes [] 0 xs).1 ++ rests (goes [] 0 xs).2.1 (goes [] 0 xs).2.2
theorem goes_nz {seg : List Int} (h : NZ seg) (pc : List Int) (pl : Nat) : goes pc pl seg = ([], pc ++ seg, pl) := by
  induction seg generalizing pc with
  | nil => simp [goes]
  | cons b r ih =>
    have hb : b ≠ 0 := h b (List.mem_cons_self ..)
    simp only [goes, if_neg hb]
    rw [ih (fun c hc => h c (List.mem_cons_of_mem _ hc))]
    simp
theorem goes_append (pc : List Int) (pl : Nat) (xs ys : List Int) : goes pc pl (xs ++ ys) = ((goes pc pl xs).1 ++ (goes (goes pc pl xs).2.1 (goes pc pl xs).2.2 ys).1, (goes (goes pc pl xs).2.1 (goes pc pl xs).2.2 ys).2) := by
  induction xs generalizing pc pl with
  | nil => simp [goes]
  | cons b r ih =>
    by_cases hb : b = 0
    · simp only [List.cons_append, goes, if_pos hb, ih, List.append_assoc]
    · simp only [List.cons_append, goes, if_neg hb, ih]
theorem goes_zero {seg : List Int} (h : NZ seg) (pc : List Int) (pl : Nat) (r : List Int) :
    goes pc pl (seg ++ 0 :: r) = ((if pc ++ seg = [] then [] else [tell pl (pc ++ seg)]) ++ (goes [] (pl + (pc ++ seg).length + 1) r).1, (goes [] (pl + (pc ++ seg).length + 1) r).2) := by
  rw [goes_append, goes_nz h]
  simp only [goes, if_true, List.nil_append]
/-- the piece kept is of none but bytes, without zeros -/
theorem goes_keeps {pc xs : List Int} {pl : Nat} (h1 : By pc) (h2 : NZ pc) (hx : By xs) : By (goes pc pl xs).2.1 ∧ NZ (goes pc pl xs).2.1 ∧ (goes pc pl xs).2.1.length ≤ pc.length + xs.length := by
  induction xs generalizing pc pl with
  | nil => exact ⟨h1, h2, Nat.le_add_right _ _⟩
  | cons b r ih =>
    have hb := hx b (List.mem_cons_self ..)
    have hr : By r := fun c hc => hx c (List.mem_cons_of_mem _ hc)
    by_cases h0 : b = 0
    · simp only [goes, if_pos h0]
      obtain ⟨a, c, d⟩ := ih (pl := pl + pc.length + 1) By.nil NZ.nil hr
      refine ⟨a, c, ?_⟩
      rw [List.length_cons]
      have e : ([] : List Int).length = 0 := rfl
      omega
    · simp only [goes, if_neg h0]
      obtain ⟨a, c, d⟩ := ih (pc := pc ++ [b]) (pl := pl) (h1.append (.one hb.1 hb.2)) (h2.append fun c hc => by
        have e : c = b := by simpa using hc
        rw [e]; exact h0) hr
      refine ⟨a, c, ?_⟩
      rw [List.length_append] at d
      rw [List.length_cons]
      have e : [b].length = 1 := rfl
      omega
theorem goes_many (pc : List Int) (pl : Nat) (xs : List Int) : (goes pc pl xs).1.length ≤ xs.length := by
  induction xs generalizing pc pl with
  | nil => exact Nat.le_refl _
  | cons b r ih =>
    by_cases h0 : b = 0
    · simp only [goes, if_pos h0, List.length_append, List.length_cons]
      have := ih [] (pl + pc.length + 1)
      have e : (if pc = [] then [] else [tell pl pc]).length ≤ 1 := by split <;> simp
      omega
    · simp only [goes, if_neg h0, List.length_cons]
      have := ih (pc ++ [b]) pl
      omega
theorem undo_at {ns acc : List Int} {a k f : Nat} (h : ns[a]? = some (k : Int)) (hk : 1 ≤ k) (hf : ns.length - a ≤ f) :
    ∃ f', ns.length - (a + k) ≤ f' ∧ undo f acc (ns.drop a) = if ns.length < a + k then none else undo f' (acc ++ (ns.drop (a + 1)).take (k - 1) ++ if (k : Int) < 255 ∧ a + k < ns.length then [0] else []) (ns.drop (a + k)) := by
  have ha : a < ns.length := (List.getElem?_eq_some_iff.mp h).1
  have e : ns.drop a = (k : Int) :: ns.drop (a + 1) := by
    rw [List.drop_eq_getElem_cons ha]
    have := (List.getElem?_eq_some_iff.mp h).2
    rw [this]
  cases f with
  | zero => omega
  | succ f =>
    refine ⟨f, by omega, ?_⟩
    have e2 : ((k : Int) :: ns.drop (a + 1)).drop k = ns.drop (a + k) := by
      rw [← e, List.drop_drop]
    rw [e]
    simp only [undo, Int.toNat_natCast]
    rw [e2, List.length_drop]
    by_cases c : ns.length < a + k
    · rw [if_pos c, if_pos (by omega)]
    · rw [if_neg c, if_neg (by omega)]
      have e3 : (if (k : Int) < 255 ∧ k < ns.length - (a + 1) + 1 then [(0 : Int)] else []) = if (k : Int) < 255 ∧ a + k < ns.length then [0] else [] := by
        by_cases d : (k : Int) < 255 ∧ a + k < ns.length
        · rw [if_pos d, if_pos ⟨d.1, by omega⟩]
        · rw [if_neg d, if_neg (fun q => d ⟨q.1, by omega⟩)]
      rw [e3]
theorem byte_nat {ns : List Int} (hB : By ns) (hN : NZ ns) {a : Nat} {b : Int} (h : ns[a]? = some b) : ∃ k : Nat, b = (k : Int) ∧ 1 ≤ k ∧ k ≤ 255 := by
  have hm := List.mem_of_getElem? h
  have h1 := hB b hm
  have h2 := hN b hm
  exact ⟨b.toNat, by omega, by omega, by omega⟩
end Sb
/-! TwS: rules that we lack elsewhere: a statement that is never come to; enumerate over rows, counted from any number; the sum of a row. -/
namespace Tw
open PySem PySem.Spec PyProof.Rows L2

section
variable {X : Cx} {st : Stmt} {sts : List Stmt}
theorem ps_dead : PS X st (fun _ _ _ => False) := ⟨fun _ _ _ _ _ _ no => no.elim⟩
theorem pss_dead : PSs X sts (fun _ _ _ => False) := ⟨fun _ _ _ _ _ _ no => no.elim⟩
/-- a statement and what follows, by a word M that stands between -/
def tMid (t u : TS) : TS := fun D σ H => ∃ M : L2.St → Hp → Prop, t { D with nx := M } σ H ∧ ∀ σ1 H1, M σ1 H1 → u D σ1 H1
theorem pss_mid {t u : TS} (h1 : PS X st t) (h2 : PSs X sts u) : PSs X (st :: sts) (tMid t u) := by
  refine ⟨fun pins sh σ H D I hh => ?_⟩
  obtain ⟨M, ht, hu⟩ := hh
  refine wpAny_execs_cons (thn (h1.run pins sh σ H { D with nx := M } I ht) fun fl s1 q => ?_)
  cases fl with
  | next => exact q.elim fun σ1 q => q.elim fun H1 q => h2.run pins s1 σ1 H1 D q.1 (hu σ1 H1 q.2)
  | _ => exact q
end

/-! ### a built-in class called with keywords -/
section
variable {Mo : Model} {Ar : Around} {Ex : Value → Shared → Prop} {sh : Shared} {en : Env}
theorem tyCall_kw {ps : Pos} {T : String} {a : Expr} {as : List Expr} {ks : List Keyword} {Qv : Value → Shared → Prop}
    (go : wpAny Mo Ar (spliced (backTo ps (starEach (a :: as) en))) (fun us s1 => wpAny Mo Ar (evalAll ((backToKw ps (keywordEach ks en)).map (·.2))) (fun ws s2 => wpAny Mo Ar (call (.type T) us (((backToKw ps (keywordEach ks en)).filterMap (·.1)).zip ws)) Qv Ex s2) Ex s1) Ex sh)
    (e1 : backTo ps (starEach (a :: as) en) = (false, eval a en) :: backTo ps (starEach as en) := by rfl) (e2 : (backTo ps (starEach (a :: as) en)).any (·.1) = false := by rfl)
    (e3 : (backToKw ps (keywordEach ks en)).all (·.1.isSome) = true := by rfl) (e4 : (backToKw ps (keywordEach ks en)).any (·.1.isNone) = false := by rfl) :
    wpAny Mo Ar (callWith ps (.type T) [] (backTo ps (starEach (a :: as) en)) (backToKw ps (keywordEach ks en))) Qv Ex sh := by
  have ev : wpAny Mo Ar (evalArgs (.type T) true (backTo ps (starEach (a :: as) en)) (backToKw ps (keywordEach ks en))) (fun g s1 => wpAny Mo Ar (call (.type T) ([] ++ g.pos) g.kw) Qv Ex s1) Ex sh := by
    rw [e1] at go ⊢
    exact evalArgs_kwB e3 go
  unfold callWith
  refine wpAny_bind (wpAny_holding (wpAny_mono ev (fun g s1 hg => wpAny_bind (wpAny_standAt ?_)) fun _ _ z => z))
  simp only [e2, e4, Bool.or_false]
  exact wpAny_bind (wpAny_pure (wpAny_bind (wpAny_mono hg (fun r s2 hr => wpAny_bind (wpAny_holding (wpAny_point (wpAny_pure hr)))) fun _ _ z => z)))
end

/-! ### enumerate from c on -/
/-- the list at a, counted from c -/
def IteC (K : PySem.W.Frag) (a : Addr) (c : Int) : It where
  go := fun i H => ∃ (ys : List V) (y : V), SqL K H a ys ∧ ys[i]? = some y
  yld := fun i H v H' => ∃ T y, v = .ref T ∧ H T = none ∧ H' = upd H T (.tup [.int (c + (i : Nat)), y]) ∧ ∀ ys, SqL K H a ys → ys[i]? = some y
  stop := fun i H => ∃ ys : List V, SqL K H a ys ∧ ys.length = i
/-- the tuple at a -/
def ItuC (K : PySem.W.Frag) (a : Addr) (c : Int) : It where
  go := fun i H => ∃ (ys : List V) (y : V), SqT K H a ys ∧ ys[i]? = some y
  yld := fun i H v H' => ∃ T y, v = .ref T ∧ H T = none ∧ H' = upd H T (.tup [.int (c + (i : Nat)), y]) ∧ ∀ ys, SqT K H a ys → ys[i]? = some y
  stop := fun i H => ∃ ys : List V, SqT K H a ys ∧ ys.length = i

theorem turn_enC {P : Program} {w : World} {K : PySem.W.Frag} {es : List Expr} {kx : Nat} {tp : Pos} (a e it : Addr) (c : Int) :
    Turn P w K (.Tuple es kx tp) (IteC K a c) [e, it] e (fun i h => (∃ old, IsEnum h e it (c + (i : Nat)) old) ∧ h.IsListIter it a i ∧ e ≠ it) where
  mem := by simp
  obj := by
    rintro i h ⟨⟨old, h1⟩, ⟨o, h2, _, h3⟩, _⟩ b hb
    rcases (show b = e ∨ b = it by simpa using hb) with rfl | rfl
    · exact ⟨_, h1, fun v q => nomatch q⟩
    · exact ⟨o, h2, fun v q => by rw [h3] at q; cases q⟩
  keep := by
    rintro i h h' ⟨⟨old, h1⟩, h2, h3⟩ k
    exact ⟨⟨old, k e (by simp) _ h1⟩, h2.at fun o q => k it (by simp) o q, h3⟩
  item := by
    rintro X rfl rfl rfl cm i pins s σ H E I ff ⟨⟨old, h1⟩, h2, h3⟩ ⟨ys, y, h4, h5⟩
    obtain ⟨us, rv, pl, hz⟩ := I.list h4
    obtain ⟨u, hu, ru⟩ := rv.get h5
    have le : e < s.heap.objs.size := Heap.lt_size h1
    have li : it < s.heap.objs.size := by obtain ⟨_, q, _⟩ := h2; exact Heap.lt_size q
    have na : a ≠ it := fun z => by
      obtain ⟨o, q, q2, _⟩ := h2
      obtain ⟨o3, q3, q4, _⟩ := pl.isList
      rw [← z, q3] at q
      cases q
      rw [q4] at q2
      injection q2 with q2
      exact absurd q2 (by decide)
    have nea : e ≠ a := fun z => by
      obtain ⟨o3, q3, q4, _⟩ := pl.isList
      rw [← z, show s.heap.get? e = _ from h1] at q3
      cases q3
      injection q4 with q4
      exact absurd q4 (by decide)
    have ul : i < us.toArray.size := by
      have := (List.getElem?_eq_some_iff.mp hu).1
      simpa using this
    refine wpAny_pyNext_enum_itemC (Draws.list (A := X.A.in1) (I.ok.hd cm) it a na us.toArray) h1 ⟨h2, pl.isList⟩ ul h3 (fun q => ?_) fun x h' tk hx ho st hT hsz hk => ?_
    · rcases (show e = it ∨ e = a by simpa using q) with q | q
      · exact h3 q
      · exact nea q
    obtain rfl : x = u := by
      have q : us.toArray[i]? = some x := hx
      rw [List.getElem?_toArray, hu] at q
      cases q
      rfl
    refine ⟨_, rfl, wpAny_letOwnedTupleGo_enum (s := { s with heap := h', toks := tk + 1 }) ho fun h'' he' sb => ?_⟩
    have hT2 : h''.get? s.heap.objs.size = some { cls := .type "tuple", data := .seq #[.int (c + (i : Nat)) tk, x] } := (sb.2 _ (Nat.ne_of_gt le)).trans hT
    have nw : ObjOk X.prog X.w (upd H s.heap.objs.size (.tup [.int (c + (i : Nat)), y])) h'' s.heap.objs.size (.tup [.int (c + (i : Nat)), y]) :=
      ⟨by show 2 ≤ sizeLine; decide, [.int (c + (i : Nat)) tk, x], .cons ⟨_, rfl⟩ (.cons ru .nil), ⟨_, hT2, rfl, _, rfl⟩⟩
    have I1 : Inv X pins σ (upd H s.heap.objs.size (.tup [.int (c + (i : Nat)), y])) { s with heap := h'', toks := tk + 1 } :=
      I.turnedNew (ch := [e, it]) (fun b ob hb q => (sb.2 b (fun z => hb (by simp [z]))).trans (hk b ob (fun z => hb (by simp [z])) (fun z => hb (by simp [z])) q)) ff (Nat.le_refl _) nw
    refine ⟨.ref s.heap.objs.size, _, I1, rfl, ⟨_, y, rfl, I.hok.fresh (Nat.le_refl _), rfl, fun zs hz' => by rw [I.list_inj hz' h4]; exact h5⟩, ⟨⟨x, ?_⟩, st.1.at fun o q => (sb.2 it h3.symm).trans q, h3⟩, fun b hb => ?_⟩
    · rw [show (c + ((i + 1 : Nat) : Int)) = c + (i : Int) + 1 by omega]
      exact he'
    · have lb : b < s.heap.objs.size := by
        rcases (show b = e ∨ b = it by simpa using hb) with rfl | rfl
        · exact le
        · exact li
      rw [upd_ne (Nat.ne_of_lt lb)]
      exact (ff b hb).1
  done := by
    rintro X rfl rfl rfl cm i pins s σ H E I ff ⟨⟨old, h1⟩, h2, h3⟩ ⟨ys, h4, h5⟩
    obtain ⟨us, rv, pl, hz⟩ := I.list h4
    obtain ⟨f0, f1, f2, f3, f4, f5⟩ := ff it (by simp)
    have na : a ≠ it := fun z => by
      obtain ⟨o, q, q2, _⟩ := h2
      obtain ⟨o3, q3, q4, _⟩ := pl.isList
      rw [← z, q3] at q
      cases q
      rw [q4] at q2
      injection q2 with q2
      exact absurd q2 (by decide)
    have hl := rv.length
    have hn : us.toArray.size = i := by
      rw [List.size_toArray]
      omega
    have h2' : s.heap.IsListIter it a us.toArray.size := by
      rw [hn]
      exact h2
    exact wpAny_pyNext_enum_endD (Draws.list (A := X.A.in1) (I.ok.hd cm) it a na us.toArray) h1 ⟨h2', pl.isList⟩ fun h' eb => ⟨rfl, I.turned (t' := s.toks) (fun b o hb q => eb b o hb q) f0 f1 f3 f4 f5⟩
  self := by
    rintro A i s Q E ⟨⟨old, h1⟩, _⟩ h
    exact wpAny_pyIter_enum h1 h
theorem turn_enT {P : Program} {w : World} {K : PySem.W.Frag} {es : List Expr} {kx : Nat} {tp : Pos} (a e it : Addr) (c : Int) :
    Turn P w K (.Tuple es kx tp) (ItuC K a c) [e, it] e (fun i h => (∃ old, IsEnum h e it (c + (i : Nat)) old) ∧ h.IsTupleIter it a i ∧ e ≠ it) where
  mem := by simp
  obj := by
    rintro i h ⟨⟨old, h1⟩, ⟨o, h2, _, h3⟩, _⟩ b hb
    rcases (show b = e ∨ b = it by simpa using hb) with rfl | rfl
    · exact ⟨_, h1, fun v q => nomatch q⟩
    · exact ⟨o, h2, fun v q => by rw [h3] at q; cases q⟩
  keep := by
    rintro i h h' ⟨⟨old, h1⟩, h2, h3⟩ k
    exact ⟨⟨old, k e (by simp) _ h1⟩, h2.at fun o q => k it (by simp) o q, h3⟩
  item := by
    rintro X rfl rfl rfl cm i pins s σ H E I ff ⟨⟨old, h1⟩, h2, h3⟩ ⟨ys, y, h4, h5⟩
    obtain ⟨us, rv, pl, hz⟩ := I.tuple h4
    obtain ⟨u, hu, ru⟩ := rv.get h5
    have le : e < s.heap.objs.size := Heap.lt_size h1
    have li : it < s.heap.objs.size := by obtain ⟨_, q, _⟩ := h2; exact Heap.lt_size q
    have na : a ≠ it := fun z => by
      obtain ⟨o, q, q2, _⟩ := h2
      obtain ⟨o3, q3, q4, _⟩ := pl
      rw [← z, q3] at q
      cases q
      rw [q4] at q2
      injection q2 with q2
      exact absurd q2 (by decide)
    have nea : e ≠ a := fun z => by
      obtain ⟨o3, q3, q4, _⟩ := pl
      rw [← z, show s.heap.get? e = _ from h1] at q3
      cases q3
      injection q4 with q4
      exact absurd q4 (by decide)
    have ul : i < us.toArray.size := by
      have := (List.getElem?_eq_some_iff.mp hu).1
      simpa using this
    refine wpAny_pyNext_enum_itemC (Draws.tuple (A := X.A.in1) (I.ok.hd cm) it a na us.toArray) h1 ⟨h2, pl⟩ ul h3 (fun q => ?_) fun x h' tk hx ho st hT hsz hk => ?_
    · rcases (show e = it ∨ e = a by simpa using q) with q | q
      · exact h3 q
      · exact nea q
    obtain rfl : x = u := by
      have q : us.toArray[i]? = some x := hx
      rw [List.getElem?_toArray, hu] at q
      cases q
      rfl
    refine ⟨_, rfl, wpAny_letOwnedTupleGo_enum (s := { s with heap := h', toks := tk + 1 }) ho fun h'' he' sb => ?_⟩
    have hT2 : h''.get? s.heap.objs.size = some { cls := .type "tuple", data := .seq #[.int (c + (i : Nat)) tk, x] } := (sb.2 _ (Nat.ne_of_gt le)).trans hT
    have nw : ObjOk X.prog X.w (upd H s.heap.objs.size (.tup [.int (c + (i : Nat)), y])) h'' s.heap.objs.size (.tup [.int (c + (i : Nat)), y]) :=
      ⟨by show 2 ≤ sizeLine; decide, [.int (c + (i : Nat)) tk, x], .cons ⟨_, rfl⟩ (.cons ru .nil), ⟨_, hT2, rfl, _, rfl⟩⟩
    have I1 : Inv X pins σ (upd H s.heap.objs.size (.tup [.int (c + (i : Nat)), y])) { s with heap := h'', toks := tk + 1 } :=
      I.turnedNew (ch := [e, it]) (fun b ob hb q => (sb.2 b (fun z => hb (by simp [z]))).trans (hk b ob (fun z => hb (by simp [z])) (fun z => hb (by simp [z])) q)) ff (Nat.le_refl _) nw
    refine ⟨.ref s.heap.objs.size, _, I1, rfl, ⟨_, y, rfl, I.hok.fresh (Nat.le_refl _), rfl, fun zs hz' => by rw [I.tuple_inj hz' h4]; exact h5⟩, ⟨⟨x, ?_⟩, st.1.at fun o q => (sb.2 it h3.symm).trans q, h3⟩, fun b hb => ?_⟩
    · rw [show (c + ((i + 1 : Nat) : Int)) = c + (i : Int) + 1 by omega]
      exact he'
    · have lb : b < s.heap.objs.size := by
        rcases (show b = e ∨ b = it by simpa using hb) with rfl | rfl
        · exact le
        · exact li
      rw [upd_ne (Nat.ne_of_lt lb)]
      exact (ff b hb).1
  done := by
    rintro X rfl rfl rfl cm i pins s σ H E I ff ⟨⟨old, h1⟩, h2, h3⟩ ⟨ys, h4, h5⟩
    obtain ⟨us, rv, pl, hz⟩ := I.tuple h4
    obtain ⟨f0, f1, f2, f3, f4, f5⟩ := ff it (by simp)
    have na : a ≠ it := fun z => by
      obtain ⟨o, q, q2, _⟩ := h2
      obtain ⟨o3, q3, q4, _⟩ := pl
      rw [← z, q3] at q
      cases q
      rw [q4] at q2
      injection q2 with q2
      exact absurd q2 (by decide)
    have hl := rv.length
    have hn : us.toArray.size = i := by
      rw [List.size_toArray]
      omega
    have h2' : s.heap.IsTupleIter it a us.toArray.size := by
      rw [hn]
      exact h2
    exact wpAny_pyNext_enum_endD (Draws.tuple (A := X.A.in1) (I.ok.hd cm) it a na us.toArray) h1 ⟨h2', pl⟩ fun h' eb => ⟨rfl, I.turned (t' := s.toks) (fun b o hb q => eb b o hb q) f0 f1 f3 f4 f5⟩
  self := by
    rintro A i s Q E ⟨⟨old, h1⟩, _⟩ h
    exact wpAny_pyIter_enum h1 h

/-! ### enumerate(v), enumerate(v, start=k): how the walk begins -/
set_option maxHeartbeats 1000000 in
theorem meets_en1 {v : Value} {o : Obj} {Hh : Heap → Prop} (B : Begins v o Hh) :
    Meets (Builtin.«enumerate.__new__» ⟨[.type "enumerate", v], []⟩) (fun _ R z => Hh z.heap ∧
      R (.ok (.ret (.ref (z.heap.push o).objs.size))) { z with heap := (z.heap.push o).push { cls := .type "enumerate", data := .fields #[.none, .bool false, .ref z.heap.objs.size, rawInt 0, .none, .none] } }) := by
  refine .of_wp fun pg wo Ar R z hz => ?_
  obtain ⟨hp, g, d, tk, os⟩ := z
  obtain ⟨h1, h⟩ := hz
  have hsub := sub_enumerate
  have begin1 : ∀ {A' : Around} {E' : Value → Shared → Prop} {Q' : Value → Shared → Prop}, Q' (.ref hp.objs.size) ⟨hp.push o, g, d, tk, os⟩ → wpAny (model pg wo) A' (pyIter v) Q' E' ⟨hp, g, d, tk, os⟩ :=
    fun q => B.iter pg wo _ _ ⟨hp, g, d, tk, os⟩ _ h1 q
  wp_walk using begin1
  refine wpAny_stack_any fun stk => wpAny_pure ?_
  split
  · rename_i c _ _ _ _ _
    cases hc : (c == Value.type "enumerate") <;> (wp_walk using begin1; exact ⟨_, rfl, h⟩)
  · wp_walk using begin1
    exact ⟨_, rfl, h⟩
section
variable {pg : Program} {wo : World} {Ar : Around} {Ex : Value → Shared → Prop} {sh : Shared}
theorem en1_begins {v : Value} {o : Obj} {Hh : Heap → Prop} {Q : Value → Shared → Prop} (B : Begins v o Hh) (h1 : Hh sh.heap)
    (h : ∀ h', IsEnum h' (sh.heap.objs.size + 1) sh.heap.objs.size 0 .none → h'.get? sh.heap.objs.size = some o → (∀ b u, sh.heap.get? b = some u → h'.get? b = some u) → Q (.ref (sh.heap.objs.size + 1)) { sh with heap := h' }) :
    wpAny (model pg wo) Ar (call (.type "enumerate") [v]) Q Ex sh := by
  refine callType_new F.called_enumerate (by decide) (F.typeCall_enumerate_1 _) (F.newCall_enumerate_1 _) (fun obj => F.args_object_init_2 obj _) F.entry_enumerate_new (meets_en1 B) ⟨h1, ?_⟩
  have sz : (sh.heap.push o).objs.size = sh.heap.objs.size + 1 := Heap.size_push ..
  show _ ∧ _
  rw [sz]
  have ie : IsEnum ((sh.heap.push o).push { cls := .type "enumerate", data := .fields #[.none, .bool false, .ref sh.heap.objs.size, rawInt 0, .none, .none] }) (sh.heap.objs.size + 1) sh.heap.objs.size 0 .none := by
    have q := Heap.get?_push_size (sh.heap.push o) (o := { cls := .type "enumerate", data := .fields #[.none, .bool false, .ref sh.heap.objs.size, rawInt 0, .none, .none] }) rfl
    rw [sz] at q
    exact q
  exact ⟨⟨_, ie, rfl⟩, h _ ie (Heap.get?_push_of_some _ (Heap.get?_push_size _ B.free)) fun b u x => Heap.get?_push_of_some _ (Heap.get?_push_of_some _ x)⟩
end

/-- a row at a, list or tuple -/
def SqR (K : PySem.W.Frag) (H : Hp) (a : Addr) (xs : List V) : Prop := SqL K H a xs ∨ SqT K H a xs
theorem SqR.same {K : PySem.W.Frag} {H H' : Hp} {a : Addr} {xs : List V} (e : Same H H') (h : SqR K H a xs) : SqR K H' a xs := by
  rcases h with h | h
  · exact .inl (e.seq h)
  · exact .inr (Same.tupq e h)
/-- enumerate of a list or a tuple, counted from c: as one iterator -/
def ItrC (K : PySem.W.Frag) (a : Addr) (c : Int) (tup : Bool) : It := if tup = true then ItuC K a c else IteC K a c
def iEnC (K : PySem.W.Frag) (ta : TA) : TI := fun σ H R => ta σ H fun vs H1 => ∃ a xs, vs = [.ref a] ∧ SqR K H1 a xs ∧ ∀ b, (b = true → SqT K H1 a xs) → (b = false → SqL K H1 a xs) → R (ItrC K a 0 b) H1
def iEnK (K : PySem.W.Frag) (ta tk : TA) : TI := fun σ H R => ta σ H fun vs H1 => tk σ H1 fun zs H2 => ∃ a c xs, vs = [.ref a] ∧ zs = [.int c] ∧ (-(2 ^ 63) ≤ c ∧ c < 2 ^ 63) ∧ SqR K H2 a xs ∧ ∀ b, (b = true → SqT K H2 a xs) → (b = false → SqL K H2 a xs) → R (ItrC K a c b) H2
section
variable {X : Cx} {pins : List (Addr × Obj)} {σ : L2.St} {H : Hp} {s : Shared} {R : It → Hp → Prop} {es : List Expr} {kx : Nat} {tp : Pos}
theorem en_pie {a : Addr} {c : Int} {b : Bool} {h' : Heap} (I : Inv X pins σ H s) (hne : a < s.heap.objs.size)
    (he : IsEnum h' (s.heap.objs.size + 1) s.heap.objs.size c .none) (hi : if b = true then h'.IsTupleIter s.heap.objs.size a 0 else h'.IsListIter s.heap.objs.size a 0) (hk : ∀ z u, s.heap.get? z = some u → h'.get? z = some u)
    (q : R (ItrC X.K a c b) H) : wpAny (model X.prog X.w) X.A (pyIter (.ref (s.heap.objs.size + 1))) (PIE X pins σ (.Tuple es kx tp) R) X.xe { s with heap := h' } := by
  refine wpAny_pyIter_enum he ?_
  have I2 : Inv X pins σ H { s with heap := h' } := I.kept (t' := s.toks) hk
  have fp : ∀ z ∈ [s.heap.objs.size + 1, s.heap.objs.size], FpOk X pins H z := fun z hz => by
    have le : s.heap.objs.size ≤ z := by
      rcases (show z = s.heap.objs.size + 1 ∨ z = s.heap.objs.size by simpa using hz) with r | r <;> omega
    exact I.fpOk le (I.hok.fresh le)
  have he0 : IsEnum h' (s.heap.objs.size + 1) s.heap.objs.size (c + ((0 : Nat) : Int)) .none := by
    rw [show c + ((0 : Nat) : Int) = c by omega]
    exact he
  cases b with
  | true => exact ⟨s.heap.objs.size + 1, [s.heap.objs.size + 1, s.heap.objs.size], _, ItuC X.K a c, H, rfl, I2, turn_enT a _ _ c, ⟨⟨.none, he0⟩, hi, Nat.succ_ne_self _⟩, fp, q⟩
  | false => exact ⟨s.heap.objs.size + 1, [s.heap.objs.size + 1, s.heap.objs.size], _, IteC X.K a c, H, rfl, I2, turn_enC a _ _ c, ⟨⟨.none, he0⟩, hi, Nat.succ_ne_self _⟩, fp, q⟩
theorem pi_en {e : Expr} {ta : TA} {p pos : Pos} (hg : Gl X "enumerate") (hm : X.mg "enumerate" = none) (ha : PA X [e] ta) (hs : starEach [e] X.env = [(false, eval e X.env)] := by rfl) :
    PI X (.Tuple es kx tp) (.Call (.Name "enumerate" p) [e] [] pos) (iEnC X.K ta) := by
  refine ⟨fun pins s σ H R I h => Call_ (ld_blt I hg hm boot_enumerate (PyProof.Rows.callWith_type1 (thn (ha.run pos pins s σ H _ I h) fun us s1 hh => ?_) hs rfl))⟩
  obtain ⟨vs, H1, I1, rv, a, xs, rfl, hr, q⟩ := hh
  rw [Vals.ref1 rv]
  rcases hr with hr | hr
  · obtain ⟨its, _, pl, _⟩ := I1.list hr
    have lt : a < s1.heap.objs.size := by obtain ⟨_, z, _⟩ := pl.isList; exact Heap.lt_size z
    exact en1_begins (begins_list a its.toArray) pl.isList fun h' he hi hk => en_pie (b := false) I1 lt he ⟨_, hi, rfl, rfl⟩ hk (q false (fun z => nomatch z) fun _ => hr)
  · obtain ⟨its, _, pl, _⟩ := I1.tuple hr
    have lt : a < s1.heap.objs.size := by obtain ⟨_, z, _⟩ := pl; exact Heap.lt_size z
    exact en1_begins (begins_tuple a its.toArray) pl fun h' he hi hk => en_pie (b := true) I1 lt he ⟨_, hi, rfl, rfl⟩ hk (q true (fun _ => hr) fun z => nomatch z)
theorem pi_enK {e : Expr} {ta tk : TA} {p pos : Pos} {kws : List Keyword} (hg : Gl X "enumerate") (hm : X.mg "enumerate" = none) (ha : PA X [e] ta) (hk : PK X kws tk) (hks : (backToKw pos (keywordEach kws X.env)).filterMap (·.1) = [Str.ofString "start"] := by rfl)
    (e1 : backTo pos (starEach [e] X.env) = (false, eval e X.env) :: backTo pos (starEach [] X.env) := by rfl) (e2 : (backTo pos (starEach [e] X.env)).any (·.1) = false := by rfl)
    (e3 : (backToKw pos (keywordEach kws X.env)).all (·.1.isSome) = true := by rfl) (e4 : (backToKw pos (keywordEach kws X.env)).any (·.1.isNone) = false := by rfl) :
    PI X (.Tuple es kx tp) (.Call (.Name "enumerate" p) [e] kws pos) (iEnK X.K ta tk) := by
  refine ⟨fun pins s σ H R I h => wpAny_Call_Name_kw (ld_blt I hg hm boot_enumerate (tyCall_kw (thn (ha.run pos pins s σ H _ I h) fun us s1 ⟨vs, H1, I1, r1, q1⟩ => thn (hk.run pos pins s1 σ H1 _ I1 q1) fun ws s2 hh => ?_) e1 e2 e3 e4))⟩
  obtain ⟨zs, H2, I2, r2, a, c, xs, rfl, rfl, hc, hr, q⟩ := hh
  rw [hks, Vals.ref1 r1]
  cases r2 with
  | cons r rr =>
    cases rr
    obtain ⟨t, rfl⟩ := r
    show wpAny _ _ (call (.type "enumerate") [.ref a] [(Str.ofString "start", .int c t)]) _ _ _
    rcases hr with hr | hr
    · obtain ⟨its, _, pl, _⟩ := I2.list hr
      have lt : a < s2.heap.objs.size := by obtain ⟨_, z, _⟩ := pl.isList; exact Heap.lt_size z
      exact enum_begins_start (begins_list a its.toArray) pl.isList hc.1 hc.2 fun h' he hi _ hk => en_pie (b := false) I2 lt he ⟨_, hi, rfl, rfl⟩ hk (q false (fun z => nomatch z) fun _ => hr)
    · obtain ⟨its, _, pl, _⟩ := I2.tuple hr
      have lt : a < s2.heap.objs.size := by obtain ⟨_, z, _⟩ := pl; exact Heap.lt_size z
      exact enum_begins_start (begins_tuple a its.toArray) pl hc.1 hc.2 fun h' he hi _ hk => en_pie (b := true) I2 lt he ⟨_, hi, rfl, rfl⟩ hk (q true (fun _ => hr) fun z => nomatch z)
end
theorem walk_enC {K : PySem.W.Frag} {a : Addr} {xs : List V} {c : Int} {b : Bool} : Walk (ItrC K a c b) xs.length (fun H => if b = true then SqT K H a xs else SqL K H a xs) (YPair (fun i => some (.int (c + (i : Nat)))) (fun i => xs[i]?)) := by
  cases b with
  | true =>
    refine ⟨fun i _ hi q => ⟨xs, xs[i], q, by simp [hi]⟩, fun _ q => ⟨xs, q, rfl⟩, fun i H v H' _ q y => ?_⟩
    obtain ⟨T, x, y1, y2, y3, y4⟩ := y
    exact ⟨T, .int (c + (i : Nat)), x, y1, y2, y3, rfl, y4 xs q⟩
  | false =>
    refine ⟨fun i _ hi q => ⟨xs, xs[i], q, by simp [hi]⟩, fun _ q => ⟨xs, q, rfl⟩, fun i H v H' _ q y => ?_⟩
    obtain ⟨T, x, y1, y2, y3, y4⟩ := y
    exact ⟨T, .int (c + (i : Nat)), x, y1, y2, y3, rfl, y4 xs q⟩

/-! ### sum of a row -/
def rSumR (K : PySem.W.Frag) : List V → Hp → VK → Prop := fun vs H Q => ∃ (a : Addr) (ns : List Int), vs = [V.ref a] ∧ SqR K H a (ns.map V.int) ∧ Q (.int ns.sum) H
section
variable {X : Cx}
theorem tup_sum {pg : Program} {wo : World} {Ar : Around} {Ex : Value → Shared → Prop} {sh : Shared} {l : Addr} {its : List Value} {ns : List Int} {Q : Value → Shared → Prop} (hh : Ar.handled = none) (hl : sh.heap.IsTuple l its.toArray) (hi : IntsAre its ns)
    (h : ∀ h' tk t', (∀ b o, sh.heap.get? b = some o → h'.get? b = some o) → Q (.int ns.sum t') { sh with heap := h', toks := tk }) : wpAny (model pg wo) Ar (call (.builtin "sum") [.ref l]) Q Ex sh := by
  obtain ⟨xs, e⟩ := hi.allInts.items
  have hn : numsOf (intItems xs).toList = ns := by
    rw [← e]
    exact hi.numsOf
  rw [nums_intItems] at hn
  rw [e] at hl
  have lt : l < sh.heap.objs.size := by obtain ⟨_, z, _⟩ := hl; exact Heap.lt_size z
  refine call_sum_walkG (wpAny_pyIter_tuple hl ?_)
  have t1 : (sh.heap.push { cls := .type "tuple_iterator", data := .fields #[.ref l, .int 0 0] }).IsTupleIter sh.heap.objs.size l 0 := ⟨_, Heap.get?_push_size _ rfl, rfl, rfl⟩
  refine ⟨_, [_, l], [_], _, _, _, numAt xs, rfl, Walks.tuple (A := Ar.in1) hh _ l (Nat.ne_of_lt lt) (intItems xs), ⟨t1, hl.push _⟩, fun b hb => ?_, fun _ _ => intItems_at, fun h' tk t' hk => ?_⟩
  · show b < (sh.heap.push _).objs.size
    rw [Heap.size_push]
    rcases (show b = sh.heap.objs.size ∨ b = l by simpa using hb) with r | r
    · rw [r]; exact Nat.lt_succ_self _
    · rw [r]; exact Nat.lt_succ_of_lt lt
  · have kept : ∀ b o, sh.heap.get? b = some o → h'.get? b = some o := fun b o q => by
      refine hk b o (fun m => ?_) (Heap.get?_push_of_some _ q)
      have z : b = sh.heap.objs.size := by simpa using m
      exact absurd (z ▸ Heap.lt_size q) (Nat.lt_irrefl _)
    have fin := h h' tk t' kept
    rw [preSum_eq]
    have e3 : (intItems xs).size = xs.size := by simp [intItems]
    rw [e3, List.take_of_length_le (by simp), hn]
    exact fin
theorem cr_sumR (cm : X.calm = true) : CallR X (.builtin "sum") (rSumR X.K) := by
  rintro pins s σ H vs us Q I r ⟨a, ns, rfl, hs, q⟩
  rw [Vals.ref1 r]
  rcases hs with hs | hs
  · obtain ⟨its, rv, hl, _⟩ := I.list hs
    exact sum_raw (I.ok.hd cm) hl.isList rv.ints fun h' tk t' hk => ⟨.int _, H, I.kept hk, ⟨_, rfl⟩, q⟩
  · obtain ⟨its, rv, hl, _⟩ := I.tuple hs
    exact tup_sum (I.ok.hd cm) hl rv.ints fun h' tk t' hk => ⟨.int _, H, I.kept hk, ⟨_, rfl⟩, q⟩
end
end Tw
/-! TwO: methods and makings by name; rows; the law's state of draws; what is told of a stream, in the heap. -/
namespace Tw
open PySem PySem.Spec PyProof.Rows L2 Sb

/-- no built-in's name is the module's own -/
structure Bt (mg : Str → Option Value) : Prop where
  n_isinstance : mg "isinstance" = none
  n_int : mg "int" = none
  n_bool : mg "bool" = none
  n_str : mg "str" = none
  n_list : mg "list" = none
  n_tuple : mg "tuple" = none
  n_len : mg "len" = none
  n_all : mg "all" = none
  n_sum : mg "sum" = none
  n_range : mg "range" = none
  n_zip : mg "zip" = none
  n_enumerate : mg "enumerate" = none
def NoB (K : PySem.W.Frag) : Prop := ∀ x ∈ (["isinstance", "int", "bool", "str", "list", "tuple", "len", "all", "sum", "range", "zip", "enumerate"] : List Str), PySem.W.nsIn K mainGlobals x = some none
theorem bt_mk {K : PySem.W.Frag} {h : Heap} {mg : Str → Option Value} (X : K.In h) (G : h.Ns mainGlobals mg) (n : NoB K) : Bt mg := by
  constructor <;> exact PySem.W.mg_none_of X G (n _ (by simp))

/-! ### methods -/
def MethIn (K : PySem.W.Frag) (C : Addr) (m q : Str) (st : Stmt) : Prop := ∃ (f : Addr) (oc : Value) (od an : Option Addr) (osl : Array (Option Value)) (kV dc pm cd ct : Value),
  PySem.W.findIn K (.ref C) m = some (some (.ref f)) ∧ PySem.W.isFn K (.ref f) = true ∧ K.lookup f = some ⟨oc, od, .func (PySem.W.fnOf m q (defArgs st) (defBody st) (defScope st) .none kV dc pm an cd ct), osl⟩ ∧ PySem.W.codeIn K cd q = true ∧ PySem.W.keepIn K (.ref f) = true
section
variable {P : Program} {w : World} {K : PySem.W.Frag} {mg : Str → Option Value} {base : Heap} {C : Addr} {m q : Str} {st : Stmt} {ps : List Str} {k : Nat} {sp : Sp}
theorem methIn_mk {f : Addr} {oc : Value} {od an : Option Addr} {osl : Array (Option Value)} {kV dc pm cd ct : Value} (a : PySem.W.findIn K (.ref C) m = some (some (.ref f))) (i : PySem.W.isFn K (.ref f) = true)
    (l : K.lookup f = some ⟨oc, od, .func (PySem.W.fnOf m q (defArgs st) (defBody st) (defScope st) .none kV dc pm an cd ct), osl⟩) (c : PySem.W.codeIn K cd q = true) (kp : PySem.W.keepIn K (.ref f) = true) : MethIn K C m q st := ⟨f, oc, od, an, osl, kV, dc, pm, cd, ct, a, i, l, c, kp⟩
structure MCal (P : Program) (w : World) (K : PySem.W.Frag) (mg : Str → Option Value) (base : Heap) (C : Addr) (k : Nat) (m : Str) (ps : List Str) (sp : Sp) : Prop where
  ex : ∃ (f : Addr) (fd : FuncData), Meth K C m f ∧ FnOk P w K mg base CX0 k f fd ps sp ∧ Binds K fd ps []
theorem mcal_mk (D : MethIn K C m q st) (b : ∀ (kV doc pm : Value) (an : Option Addr) (cdv ct : Value) (us : List Value), us.length = ps.length → bindArgs (PySem.W.fnOf m q (defArgs st) (defBody st) (defScope st) .none kV doc pm an cdv ct) ⟨us, []⟩ = pure (ps.zip us))
    (ok : ∀ (f : Addr) (fd : FuncData), Fun K m q st f fd → FnOk P w K mg base CX0 k f fd ps sp) : MCal P w K mg base C k m ps sp := by
  obtain ⟨f, oc, od, an, osl, kV, dc, pm, cd, ct, a, i, l, c, kp⟩ := D
  have F := fun_mk (st := st) l c kp
  exact ⟨f, _, ⟨a, i, kp⟩, ok f _ F, F.binds b⟩
/-- C(), C's __init__ with self alone -/
structure MkC (P : Program) (w : World) (K : PySem.W.Frag) (mg : Str → Option Value) (base : Heap) (C : Addr) (k : Nat) (x : Str) (sp : Sp) : Prop where
  ex : ∃ (f : Addr) (fd : FuncData), Mk K C f ∧ FnOk P w K mg base CX0 k f fd ["self"] sp ∧ Binds K fd ["self"] []
  gC : mg x = some (.ref C)
theorem mkC_mk {h : Heap} {x : Str} (X : K.In h) (G : h.Ns mainGlobals mg) (g : PySem.W.nsIn K mainGlobals x = some (some (.ref C))) (D : MethIn K C "__init__" q st) (mk : PySem.W.makesIn K C = true) (kc : PySem.W.keepIn K (.ref C) = true)
    (b : ∀ (kV doc pm : Value) (an : Option Addr) (cdv ct : Value) (us : List Value), us.length = (["self"] : List Str).length → bindArgs (PySem.W.fnOf "__init__" q (defArgs st) (defBody st) (defScope st) .none kV doc pm an cdv ct) ⟨us, []⟩ = pure ((["self"] : List Str).zip us))
    (ok : ∀ (f : Addr) (fd : FuncData), Fun K "__init__" q st f fd → FnOk P w K mg base CX0 k f fd ["self"] sp) : MkC P w K mg base C k x sp := by
  obtain ⟨f, oc, od, an, osl, kV, dc, pm, cd, ct, a, i, l, c, kp⟩ := D
  have F := fun_mk (st := st) l c kp
  exact ⟨⟨f, _, ⟨mk, a, i, kc⟩, ok f _ F, F.binds b⟩, PySem.W.mg_of X G g⟩
end
section
variable {X : Cx} {j k : Nat} {C : Addr} {m x : Str} {ps : List Str} {sp : Sp} {o e : Expr} {es : List Expr} {to : TE} {t : TA} {pos apos p : Pos}
theorem pe_mcal {pl : Sem Bool} (M : MCal X.prog X.w X.K X.mg X.base C k m ps sp) (c : Cls X.K C) (hr : Room j X.A) (hk : k ≤ j) (ho : PE X o to) (ha : PA X (e :: es) t)
    (hst : starEach (e :: es) X.env = (false, eval e X.env) :: starEach es X.env := by rfl) (hpl : (backTo pos (starEach es X.env)).any (·.1) = false := by rfl)
    (ht : eval (.Call (.Attribute o m apos) (e :: es) [] pos) X.env = (do
      let ov ← eval o X.env
      standAt apos.atName
      let (f, first) ← holding [ov] (getMethod ov m pl)
      callWith pos f first (backTo pos (starEach (e :: es) X.env)) (backToKw pos (keywordEach [] X.env))) := by rfl) : PE X (.Call (.Attribute o m apos) (e :: es) [] pos) (tMeth C m sp [] E0 to t) := by
  obtain ⟨f, fd, hm, F, b⟩ := M.ex
  exact pe_meth ho c hm F (hr.mono hk) b .nil pass0 ha hst hpl ht
theorem pe_mcal0 {pl : Sem Bool} (M : MCal X.prog X.w X.K X.mg X.base C k m ps sp) (c : Cls X.K C) (hr : Room j X.A) (hk : k ≤ j) (ho : PE X o to)
    (ht : eval (.Call (.Attribute o m apos) [] [] pos) X.env = (do
      let ov ← eval o X.env
      standAt apos.atName
      let (f, first) ← holding [ov] (getMethod ov m pl)
      callWith pos f first (backTo pos (starEach [] X.env)) (backToKw pos (keywordEach [] X.env))) := by rfl) : PE X (.Call (.Attribute o m apos) [] [] pos) (tMeth C m sp [] E0 to tNil) := by
  obtain ⟨f, fd, hm, F, b⟩ := M.ex
  exact pe_meth0 ho c hm F (hr.mono hk) b .nil pass0 ht
theorem pe_mk0 (M : MkC X.prog X.w X.K X.mg X.base C k x sp) (hr : Room j X.A) (hk : k + 1 ≤ j) (hg : Gl X x) (hdb : (x == ("__debug__" : Str)) = false := by decide) : PE X (.Call (.Name x p) [] [] pos) (tMake C sp [] E0 tNil) := by
  obtain ⟨f, fd, hm, F, b⟩ := M.ex
  exact pe_make0 hm F (hr.mono hk) hg M.gC b .nil pass0 hdb
/-- either of two readings of what is walked -/
theorem pi_or {tg l : Expr} {a b : TI} (ha : PI X tg l a) (hb : PI X tg l b) : PI X tg l (fun σ H R => a σ H R ∨ b σ H R) := ⟨fun pins s σ H R I h => h.elim (ha.run pins s σ H R I) (hb.run pins s σ H R I)⟩
theorem pe_or2 {l : Expr} {a b : TE} (ha : PE X l a) (hb : PE X l b) : PE X l (fun σ H Q => a σ H Q ∨ b σ H Q) := ⟨fun pins s σ H Q I h => h.elim (ha.run pins s σ H Q I) (hb.run pins s σ H Q I)⟩
end

/-! ### rows -/
abbrev iV (xs : List Int) : List V := xs.map V.int
/-- the row at a -/
def Rw (H : Hp) (a : Addr) (xs : List V) : Prop := H a = some (.lst xs) ∨ H a = some (.tup xs)
theorem Rw.sq {K : PySem.W.Frag} {H : Hp} {a : Addr} {xs : List V} (h : Rw H a xs) : SqR K H a xs := h.elim (fun h => .inl (SqL.of h)) (fun h => .inr (SqT.of h))
theorem Rw.same {H H' : Hp} {a : Addr} {xs : List V} (h : Rw H a xs) (s : Same H H') : Rw H' a xs := h.elim (fun h => .inl (s _ _ h)) (fun h => .inr (s _ _ h))
theorem iV_len (xs : List Int) : (iV xs).length = xs.length := by simp
theorem iV_at {xs : List Int} {i : Nat} {v : V} (h : (iV xs)[i]? = some v) : ∃ b, xs[i]? = some b ∧ v = .int b := by
  rw [List.getElem?_map] at h
  cases e : xs[i]? with
  | none => rw [e] at h; cases h
  | some b => rw [e] at h; cases h; exact ⟨b, rfl, rfl⟩
theorem iV_atI {xs : List Int} {i : Nat} {b : Int} (h : xs[i]? = some b) : atI (iV xs) (i : Int) = some (.int b) := atI_nat (by rw [List.getElem?_map, h]; rfl)
theorem iV_append (xs ys : List Int) : iV (xs ++ ys) = iV xs ++ iV ys := List.map_append
theorem dp_ints {K : PySem.W.Frag} {H : Hp} : ∀ xs : List Int, DpAll K H (iV xs) (xs.map PyData.int)
  | [] => .nil
  | x :: r => .cons (.int x) (dp_ints r)
theorem lay_ints : ∀ xs : List Int, PyData.canLayAll0 (xs.map PyData.int) = true
  | [] => rfl
  | x :: r => by
    show (true && PyData.canLayAll0 (r.map PyData.int)) = true
    rw [lay_ints r]
    rfl
theorem dep_ints : ∀ xs : List Int, PyData.depthAll (xs.map PyData.int) = 0
  | [] => rfl
  | x :: r => by
    show max 0 (PyData.depthAll (r.map PyData.int)) = 0
    rw [dep_ints r]
    rfl
theorem sh_ints (xs : List Int) : SeqAt.shaped (.list (xs.map PyData.int)) = true := by
  unfold SeqAt.shaped
  rw [Bool.and_eq_true]
  refine ⟨lay_ints xs, decide_eq_true ?_⟩
  show PyData.depthAll _ + 1 ≤ 64
  rw [dep_ints]
  decide
theorem eqv_ints : ∀ xs ys : List Int, PyData.eqv (.list (xs.map PyData.int)) (.list (ys.map PyData.int)) = decide (xs = ys) := by
  have go : ∀ xs ys : List Int, PyData.eqvAll (xs.map PyData.int) (ys.map PyData.int) = decide (xs = ys) := by
    intro xs
    induction xs with
    | nil =>
      intro ys
      cases ys with
      | nil => rfl
      | cons y r => simp [PyData.eqvAll]
    | cons x r ih =>
      intro ys
      cases ys with
      | nil => simp [PyData.eqvAll]
      | cons y t =>
        simp only [List.map_cons, PyData.eqvAll, ih]
        by_cases e : x = y
        · subst e
          simp [PyData.eqv]
        · simp [PyData.eqv, e]
  intro xs ys
  have e := go xs ys
  simpa only [PyData.eqv] using e
theorem dpL {K : PySem.W.Frag} {H : Hp} {a : Addr} {xs : List Int} (h : H a = some (.lst (iV xs))) : Dp K H (.ref a) (.list (xs.map PyData.int)) := .lst (SqL.of h) (dp_ints xs)

/-! ### the law's state: a list of the numbers that are left, and three numbers -/
structure IsSt (H : Hp) (a b : Addr) : Prop where
  ne : a ≠ b
  ex : ∃ (ns : List Int) (x y z : Int), H a = some (.lst [.ref b, .int x, .int y, .int z]) ∧ H b = some (.lst (iV ns))
/-- all but the state stays -/
structure Fs (a b : Addr) (H H' : Hp) : Prop where
  keep : ∀ c o, c ≠ a → c ≠ b → H c = some o → H' c = some o
  st : IsSt H' a b
theorem IsSt.same {H H' : Hp} {a b : Addr} (h : IsSt H a b) (s : Same H H') : IsSt H' a b := by
  obtain ⟨ne, ns, x, y, z, e, f⟩ := h
  exact ⟨ne, ns, x, y, z, s _ _ e, s _ _ f⟩
theorem Fs.refl {H : Hp} {a b : Addr} (h : IsSt H a b) : Fs a b H H := ⟨fun _ _ _ _ e => e, h⟩
theorem Fs.trans {a b : Addr} {H H1 H2 : Hp} (f : Fs a b H H1) (g : Fs a b H1 H2) : Fs a b H H2 := ⟨fun c o n m e => g.keep c o n m (f.keep c o n m e), g.st⟩
theorem Fs.same {a b : Addr} {H H1 H2 : Hp} (f : Fs a b H H1) (g : Same H1 H2) : Fs a b H H2 := ⟨fun c o n m e => g c o (f.keep c o n m e), f.st.same g⟩
theorem Fs.of_same {a b : Addr} {H H1 : Hp} (h : IsSt H a b) (g : Same H H1) : Fs a b H H1 := (Fs.refl h).same g
theorem IsSt.na {H : Hp} {a b p : Addr} (h : IsSt H a b) (e : H p = none) : p ≠ a ∧ p ≠ b := by
  obtain ⟨_, _, _, _, _, e1, e2⟩ := h
  constructor
  · intro q
    rw [q, e1] at e
    cases e
  · intro q
    rw [q, e2] at e
    cases e
theorem Fs.free {a b p : Addr} {H H' : Hp} (f : Fs a b H H') (h : IsSt H a b) (e : H' p = none) : H p = none := by
  obtain ⟨n1, n2⟩ := f.st.na e
  cases q : H p with
  | none => rfl
  | some o =>
    rw [f.keep p o n1 n2 q] at e
    cases e
/-- a new thing at p, written later -/
theorem Fs.upd {a b p : Addr} {H H' : Hp} {o : HO} (f : Fs a b H H') (n1 : p ≠ a) (n2 : p ≠ b) (hp : H p = none) : Fs a b H (upd H' p o) := by
  obtain ⟨k, ne, ns, x, y, z, e1, e2⟩ := f
  refine ⟨fun c u m1 m2 e => ?_, ne, ns, x, y, z, ?_, ?_⟩
  · rw [upd_ne (ne_of_none e hp)]
    exact k c u m1 m2 e
  · rw [upd_ne n1.symm]
    exact e1
  · rw [upd_ne n2.symm]
    exact e2
/-- the draw's promise: any number below many -/
def spTake : Sp := fun vs H Q _ => ∃ (a b : Addr) (m : Int), vs = [.ref a, .int m] ∧ IsSt H a b ∧ 0 < m ∧ m < 1180591620717411303424 ∧ ∀ (r : Int) (H' : Hp), 0 ≤ r → r < m → Fs a b H H' → Q (.int r) H'

theorem Fs.kp {a b p : Addr} {H H1 H2 : Hp} {o : HO} (f : Fs a b H1 H2) (h : IsSt H a b) (hp : H p = none) (e : H1 p = some o) : H2 p = some o := f.keep p o (h.na hp).1 (h.na hp).2 e
/-- a list of bytes, new behind H -/
structure Nw (H H' : Hp) (r : Addr) (xs : List Int) : Prop where
  new : H r = none
  at_ : H' r = some (.lst (iV xs))
theorem Nw.st {a b r : Addr} {H H1 H2 : Hp} {xs : List Int} (n : Nw H H1 r xs) (h : IsSt H a b) (f : Fs a b H1 H2) : Nw H H2 r xs := ⟨n.new, f.kp h n.new n.at_⟩
theorem Nw.same {r : Addr} {H H1 H2 : Hp} {xs : List Int} (n : Nw H H1 r xs) (s : Same H1 H2) : Nw H H2 r xs := ⟨n.new, s _ _ n.at_⟩
/-- a function of the state alone that tells a new list of bytes, of at most N -/
def spGen (N : Nat) : Sp := fun vs H Q _ => ∃ (a b : Addr), vs = [.ref a] ∧ IsSt H a b ∧ ∀ (H' : Hp) (r : Addr) (xs : List Int), Fs a b H H' → Nw H H' r xs → By xs → xs.length ≤ N → Q (.ref r) H'
theorem rep_one {α : Type} (n : Nat) (x : α) : (List.replicate n [x]).flatten = List.replicate n x := by
  induction n with
  | zero => rfl
  | succ n ih => rw [List.replicate_succ, List.flatten_cons, ih, List.replicate_succ]; rfl
theorem iV_rep (n : Nat) (x : Int) : iV (List.replicate n x) = List.replicate n (V.int x) := List.map_replicate

/-! ### what is told -/
/-- t stands at v, all of it new behind H0 -/
def TlAt (H0 H : Hp) : Tell → V → Prop
  | .part pl bs, v => ∃ a l, v = .ref a ∧ H a = some (.tup [.str "part", .int (pl : Nat), .ref l]) ∧ H l = some (.lst (iV bs)) ∧ H0 a = none ∧ H0 l = none
  | .torn pl n, v => ∃ a, v = .ref a ∧ H a = some (.tup [.str "torn", .int (pl : Nat), .int (n : Nat)]) ∧ H0 a = none
abbrev Tls (H0 H : Hp) (ts : List Tell) (vs : List V) : Prop := Paired (TlAt H0 H) ts vs
theorem TlAt.keep {H0 H H' : Hp} {t : Tell} {v : V} (h : TlAt H0 H t v) (k : ∀ b o, H0 b = none → H b = some o → H' b = some o) : TlAt H0 H' t v := by
  cases t with
  | part pl bs =>
    obtain ⟨a, l, e, h1, h2, h3, h4⟩ := h
    exact ⟨a, l, e, k _ _ h3 h1, k _ _ h4 h2, h3, h4⟩
  | torn pl n =>
    obtain ⟨a, e, h1, h2⟩ := h
    exact ⟨a, e, k _ _ h2 h1, h2⟩
theorem TlAt.old {H0 H1 H : Hp} {t : Tell} {v : V} (h : TlAt H1 H t v) (k : ∀ b, H1 b = none → H0 b = none) : TlAt H0 H t v := by
  cases t with
  | part pl bs =>
    obtain ⟨a, l, e, h1, h2, h3, h4⟩ := h
    exact ⟨a, l, e, h1, h2, k _ h3, k _ h4⟩
  | torn pl n =>
    obtain ⟨a, e, h1, h2⟩ := h
    exact ⟨a, e, h1, k _ h2⟩
theorem pd_mono {α β : Type} {F G : α → β → Prop} (i : ∀ a b, F a b → G a b) : ∀ {xs : List α} {ys : List β}, Paired F xs ys → Paired G xs ys
  | _, _, .nil => .nil
  | _, _, .cons h t => .cons (i _ _ h) (pd_mono i t)
theorem pd_append {α β : Type} {F : α → β → Prop} : ∀ {xs zs : List α} {ys ws : List β}, Paired F xs ys → Paired F zs ws → Paired F (xs ++ zs) (ys ++ ws)
  | _, _, _, _, .nil, t => t
  | _, _, _, _, .cons h r, t => .cons h (pd_append r t)
theorem Tls.keep {H0 H H' : Hp} {ts : List Tell} {vs : List V} (h : Tls H0 H ts vs) (k : ∀ b o, H0 b = none → H b = some o → H' b = some o) : Tls H0 H' ts vs := pd_mono (fun _ _ q => q.keep k) h
theorem Tls.same {H0 H H' : Hp} {ts : List Tell} {vs : List V} (h : Tls H0 H ts vs) (s : Same H H') : Tls H0 H' ts vs := h.keep fun b o _ e => s b o e
theorem Tls.old {H0 H1 H : Hp} {ts : List Tell} {vs : List V} (h : Tls H1 H ts vs) (k : ∀ b, H1 b = none → H0 b = none) : Tls H0 H ts vs := pd_mono (fun _ _ q => q.old k) h
/-- .. as data -/
def Tell.pd : Tell → PyData
  | .part pl bs => .tuple [.str "part", .int (pl : Nat), .list (bs.map PyData.int)]
  | .torn pl n => .tuple [.str "torn", .int (pl : Nat), .int (n : Nat)]
theorem TlAt.dp {K : PySem.W.Frag} {H0 H : Hp} {t : Tell} {v : V} (h : TlAt H0 H t v) : Dp K H v (Tell.pd t) := by
  cases t with
  | part pl bs =>
    obtain ⟨a, l, e, h1, h2, _⟩ := h
    rw [e]
    exact .tup (SqT.of h1) (.cons (.str _) (.cons (.int _) (.cons (dpL h2) .nil)))
  | torn pl n =>
    obtain ⟨a, e, h1, _⟩ := h
    rw [e]
    exact .tup (SqT.of h1) (.cons (.str _) (.cons (.int _) (.cons (.int _) .nil)))
theorem Tls.dp {K : PySem.W.Frag} {H0 H : Hp} : ∀ {ts : List Tell} {vs : List V}, Tls H0 H ts vs → DpAll K H vs (ts.map Tell.pd)
  | _, _, .nil => .nil
  | _, _, .cons h t => .cons h.dp (Tls.dp t)
theorem tell_lay (t : Tell) : PyData.canLay0 (Tell.pd t) = true ∧ PyData.depth (Tell.pd t) ≤ 2 := by
  cases t with
  | part pl bs =>
    constructor
    · show (PyData.strOk "part" && (true && (PyData.canLayAll0 (bs.map PyData.int) && true))) = true
      rw [lay_ints, show PyData.strOk ("part" : Str) = true from by decide +kernel]
      rfl
    · show max 0 (max 0 (max (PyData.depthAll (bs.map PyData.int) + 1) 0)) + 1 ≤ 2
      rw [dep_ints]
      decide
  | torn pl n =>
    constructor
    · show (PyData.strOk "torn" && (true && (true && true))) = true
      rw [show PyData.strOk ("torn" : Str) = true from by decide +kernel]
      rfl
    · show max 0 (max 0 (max 0 0)) + 1 ≤ 2
      decide
theorem sh_tells (ts : List Tell) : SeqAt.shaped (.list (ts.map Tell.pd)) = true := by
  have h : PyData.canLayAll0 (ts.map Tell.pd) = true ∧ PyData.depthAll (ts.map Tell.pd) ≤ 2 := by
    induction ts with
    | nil => exact ⟨rfl, by decide⟩
    | cons t r ih =>
      obtain ⟨h1, h2⟩ := tell_lay t
      constructor
      · show (PyData.canLay0 (Tell.pd t) && PyData.canLayAll0 (r.map Tell.pd)) = true
        rw [h1, ih.1]
        rfl
      · show max (PyData.depth (Tell.pd t)) (PyData.depthAll (r.map Tell.pd)) ≤ 2
        have := ih.2
        omega
  unfold SeqAt.shaped
  rw [Bool.and_eq_true]
  refine ⟨h.1, decide_eq_true ?_⟩
  have := h.2
  show PyData.depthAll _ + 1 ≤ 64
  omega
end Tw
namespace K02
open PySem PySem.Spec PyProof.Rows L2 Tw
def topS (i : Nat) : Stmt := PySem.Challenge.pw_thingwires_k02_schemas_made.main.body.getD i (.Pass ⟨0, 0, 0, 0⟩)
abbrev s__wall : Stmt := topS 0
abbrev N__wall : List Str := ["k"]
theorem sc__wall : FnScope N__wall ["k"] (defScope s__wall) := ⟨rfl, rfl, rfl, by decide +kernel, rfl, by decide +kernel, by decide +kernel⟩
abbrev s_is_whole : Stmt := topS 6
abbrev N_is_whole : List Str := ["thing"]
theorem sc_is_whole : FnScope N_is_whole ["thing"] (defScope s_is_whole) := ⟨rfl, rfl, rfl, by decide +kernel, rfl, by decide +kernel, by decide +kernel⟩
abbrev s_is_code : Stmt := topS 7
abbrev N_is_code : List Str := ["code"]
theorem sc_is_code : FnScope N_is_code ["code"] (defScope s_is_code) := ⟨rfl, rfl, rfl, by decide +kernel, rfl, by decide +kernel, by decide +kernel⟩
abbrev s_is_text : Stmt := topS 8
abbrev N_is_text : List Str := ["thing", "sign"]
theorem sc_is_text : FnScope N_is_text ["thing"] (defScope s_is_text) := ⟨rfl, rfl, rfl, by decide +kernel, rfl, by decide +kernel, by decide +kernel⟩
abbrev s_is_row : Stmt := topS 9
abbrev N_is_row : List Str := ["thing"]
theorem sc_is_row : FnScope N_is_row ["thing"] (defScope s_is_row) := ⟨rfl, rfl, rfl, by decide +kernel, rfl, by decide +kernel, by decide +kernel⟩
abbrev s_keeps_bounds : Stmt := topS 10
abbrev N_keeps_bounds : List Str := ["number", "low", "high"]
theorem sc_keeps_bounds : FnScope N_keeps_bounds ["number", "low", "high"] (defScope s_keeps_bounds) := ⟨rfl, rfl, rfl, by decide +kernel, rfl, by decide +kernel, by decide +kernel⟩
abbrev s_keeps_figures : Stmt := topS 11
abbrev N_keeps_figures : List Str := ["number"]
theorem sc_keeps_figures : FnScope N_keeps_figures ["number"] (defScope s_keeps_figures) := ⟨rfl, rfl, rfl, by decide +kernel, rfl, by decide +kernel, by decide +kernel⟩
abbrev s_is_name : Stmt := topS 21
abbrev N_is_name : List Str := ["thing", "letter"]
theorem sc_is_name : FnScope N_is_name ["thing"] (defScope s_is_name) := ⟨rfl, rfl, rfl, by decide +kernel, rfl, by decide +kernel, by decide +kernel⟩
abbrev s__names : Stmt := topS 23
abbrev N__names : List Str := ["rows", "name"]
theorem sc__names : FnScope N__names ["rows"] (defScope s__names) := ⟨rfl, rfl, rfl, by decide +kernel, rfl, by decide +kernel, by decide +kernel⟩
abbrev s__by_numbers : Stmt := topS 24
abbrev N__by_numbers : List Str := ["rows", "name", "row"]
theorem sc__by_numbers : FnScope N__by_numbers ["rows"] (defScope s__by_numbers) := ⟨rfl, rfl, rfl, by decide +kernel, rfl, by decide +kernel, by decide +kernel⟩
abbrev s__refuse_rows : Stmt := topS 25
abbrev N__refuse_rows : List Str := ["word", "rows", "kinds", "choices", "name", "row", "at", "entry", "why"]
theorem sc__refuse_rows : FnScope N__refuse_rows ["word", "rows", "kinds", "choices"] (defScope s__refuse_rows) := ⟨rfl, rfl, rfl, by decide +kernel, rfl, by decide +kernel, by decide +kernel⟩
abbrev s__fault : Stmt := topS 26
abbrev N__fault : List Str := ["word", "entry", "earlier", "kinds", "choices", "number", "name", "of", "least", "other"]
theorem sc__fault : FnScope N__fault ["word", "entry", "earlier", "kinds", "choices"] (defScope s__fault) := ⟨rfl, rfl, rfl, by decide +kernel, rfl, by decide +kernel, by decide +kernel⟩
abbrev s_is_sort : Stmt := topS 27
abbrev N_is_sort : List Str := ["of", "kinds", "choices", "is_inside", "word"]
theorem sc_is_sort : FnScope N_is_sort ["of", "kinds", "choices"] (defScope s_is_sort) := ⟨rfl, rfl, rfl, by decide +kernel, rfl, by decide +kernel, by decide +kernel⟩
abbrev s__first_word : Stmt := topS 28
abbrev N__first_word : List Str := ["of"]
theorem sc__first_word : FnScope N__first_word ["of"] (defScope s__first_word) := ⟨rfl, rfl, rfl, by decide +kernel, rfl, by decide +kernel, by decide +kernel⟩
abbrev s__is_inmost : Stmt := topS 29
abbrev N__is_inmost : List Str := ["word", "of", "kinds", "choices"]
theorem sc__is_inmost : FnScope N__is_inmost ["word", "of", "kinds", "choices"] (defScope s__is_inmost) := ⟨rfl, rfl, rfl, by decide +kernel, rfl, by decide +kernel, by decide +kernel⟩
abbrev s__is_most : Stmt := topS 30
abbrev N__is_most : List Str := ["most", "limit"]
theorem sc__is_most : FnScope N__is_most ["most", "limit"] (defScope s__is_most) := ⟨rfl, rfl, rfl, by decide +kernel, rfl, by decide +kernel, by decide +kernel⟩
abbrev s__are_bounds : Stmt := topS 31
abbrev N__are_bounds : List Str := ["low", "high"]
theorem sc__are_bounds : FnScope N__are_bounds ["low", "high"] (defScope s__are_bounds) := ⟨rfl, rfl, rfl, by decide +kernel, rfl, by decide +kernel, by decide +kernel⟩
abbrev s__is_default : Stmt := topS 32
abbrev N__is_default : List Str := ["of", "default", "word"]
theorem sc__is_default : FnScope N__is_default ["of", "default"] (defScope s__is_default) := ⟨rfl, rfl, rfl, by decide +kernel, rfl, by decide +kernel, by decide +kernel⟩
abbrev s__refuse_comings_back : Stmt := topS 33
abbrev N__refuse_comings_back : List Str := ["choices", "name", "at", "_", "content"]
theorem sc__refuse_comings_back : FnScope N__refuse_comings_back ["choices"] (defScope s__refuse_comings_back) := ⟨rfl, rfl, rfl, by decide +kernel, rfl, by decide +kernel, by decide +kernel⟩
abbrev s__law_well : Stmt := topS 35
abbrev N__law_well : List Str := ["_law_cell"]
theorem sc__law_well : FnScope N__law_well ["_law_cell"] (defScope s__law_well) := ⟨rfl, rfl, rfl, by decide +kernel, rfl, by decide +kernel, by decide +kernel⟩
abbrev s__law_draw : Stmt := topS 36
abbrev N__law_draw : List Str := ["_law_well_here", "_law_many", "_law_found", "_law_number_here"]
theorem sc__law_draw : FnScope N__law_draw ["_law_well_here", "_law_many"] (defScope s__law_draw) := ⟨rfl, rfl, rfl, by decide +kernel, rfl, by decide +kernel, by decide +kernel⟩
abbrev s__law_names : Stmt := topS 37
abbrev N__law_names : List Str := ["_law_well_here", "_law_many", "_law_letters", "_law_found", "_law_k", "_law_size", "_law_name", "_law_j"]
theorem sc__law_names : FnScope N__law_names ["_law_well_here", "_law_many"] (defScope s__law_names) := ⟨rfl, rfl, rfl, by decide +kernel, rfl, by decide +kernel, by decide +kernel⟩
abbrev s__law_number : Stmt := topS 38
abbrev N__law_number : List Str := ["_law_well_here", "_law_great", "_law_k", "_law_small"]
theorem sc__law_number : FnScope N__law_number ["_law_well_here"] (defScope s__law_number) := ⟨rfl, rfl, rfl, by decide +kernel, rfl, by decide +kernel, by decide +kernel⟩
abbrev s__law_sort : Stmt := topS 39
abbrev N__law_sort : List Str := ["_law_well_here", "_law_nodes", "_law_some", "_law_deep", "_law_lot", "_law_low", "_law_high", "_law_inner"]
theorem sc__law_sort : FnScope N__law_sort ["_law_well_here", "_law_nodes", "_law_some", "_law_deep"] (defScope s__law_sort) := ⟨rfl, rfl, rfl, by decide +kernel, rfl, by decide +kernel, by decide +kernel⟩
abbrev s__law_left : Stmt := topS 40
abbrev N__law_left : List Str := ["_law_well_here", "_law_of", "_law_ends", "_law_found", "_law_low", "_law_high", "_law_signs", "_law_at", "_law_word", "_law_end"]
theorem sc__law_left : FnScope N__law_left ["_law_well_here", "_law_of"] (defScope s__law_left) := ⟨rfl, rfl, rfl, by decide +kernel, rfl, by decide +kernel, by decide +kernel⟩
abbrev s__law_fields : Stmt := topS 41
abbrev N__law_fields : List Str := ["_law_well_here", "_law_nodes", "_law_some", "_law_found", "_law_numbers", "_law_name", "_law_number_here", "_law_of"]
theorem sc__law_fields : FnScope N__law_fields ["_law_well_here", "_law_nodes", "_law_some"] (defScope s__law_fields) := ⟨rfl, rfl, rfl, by decide +kernel, rfl, by decide +kernel, by decide +kernel⟩
abbrev s__law_cases : Stmt := topS 42
abbrev N__law_cases : List Str := ["_law_well_here", "_law_nodes", "_law_some", "_law_k", "_law_found", "_law_numbers", "_law_name", "_law_number_here", "_law_of", "_law_least"]
theorem sc__law_cases : FnScope N__law_cases ["_law_well_here", "_law_nodes", "_law_some", "_law_k"] (defScope s__law_cases) := ⟨rfl, rfl, rfl, by decide +kernel, rfl, by decide +kernel, by decide +kernel⟩
abbrev s__law_parts : Stmt := topS 43
abbrev N__law_parts : List Str := ["_law_well_here", "_law_nodes", "_law_some", "_law_boxes", "_law_picks", "_law_name", "_law_k"]
theorem sc__law_parts : FnScope N__law_parts ["_law_well_here"] (defScope s__law_parts) := ⟨rfl, rfl, rfl, by decide +kernel, rfl, by decide +kernel, by decide +kernel⟩
abbrev s__law_formed : Stmt := topS 44
abbrev N__law_formed : List Str := ["_law_well_here", "_law_table", "_law_name", "_law_row"]
theorem sc__law_formed : FnScope N__law_formed ["_law_well_here", "_law_table"] (defScope s__law_formed) := ⟨rfl, rfl, rfl, by decide +kernel, rfl, by decide +kernel, by decide +kernel⟩
abbrev s__law_copied : Stmt := topS 45
abbrev N__law_copied : List Str := ["_law_handed", "_law_table", "_law_name", "_law_row"]
theorem sc__law_copied : FnScope N__law_copied ["_law_handed"] (defScope s__law_copied) := ⟨rfl, rfl, rfl, by decide +kernel, rfl, by decide +kernel, by decide +kernel⟩
abbrev s__law_sorted : Stmt := topS 46
abbrev N__law_sorted : List Str := ["_law_table", "_law_name", "_law_row"]
theorem sc__law_sorted : FnScope N__law_sorted ["_law_table"] (defScope s__law_sorted) := ⟨rfl, rfl, rfl, by decide +kernel, rfl, by decide +kernel, by decide +kernel⟩
abbrev s__law_right : Stmt := topS 47
abbrev N__law_right : List Str := ["_law_schema", "_law_parts_here"]
theorem sc__law_right : FnScope N__law_right ["_law_schema", "_law_parts_here"] (defScope s__law_right) := ⟨rfl, rfl, rfl, by decide +kernel, rfl, by decide +kernel, by decide +kernel⟩
abbrev s_law : Stmt := topS 48
abbrev N_law : List Str := ["_law_script", "_law_kept", "_law_cell", "_law_well_here", "_law_parts_here", "_law_handed", "_law_form", "_law_lot", "_law_schema", "_law_table", "_law_row"]
theorem sc_law : FnScope N_law ["_law_script"] (defScope s_law) := ⟨rfl, rfl, rfl, by decide +kernel, rfl, by decide +kernel, by decide +kernel⟩
abbrev s_NoSchema___init__ : Stmt := inClass (topS 14) 0
abbrev N_NoSchema___init__ : List Str := ["self", "path", "why"]
theorem sc_NoSchema___init__ : FnScope N_NoSchema___init__ ["self", "path", "why"] (defScope s_NoSchema___init__) := ⟨rfl, rfl, rfl, by decide +kernel, rfl, by decide +kernel, by decide +kernel⟩
abbrev s_Schema___init__ : Stmt := inClass (topS 22) 0
abbrev N_Schema___init__ : List Str := ["self", "kinds", "choices", "root", "given", "kind_names", "choice_names"]
theorem sc_Schema___init__ : FnScope N_Schema___init__ ["self", "kinds", "choices", "root"] (defScope s_Schema___init__) := ⟨rfl, rfl, rfl, by decide +kernel, rfl, by decide +kernel, by decide +kernel⟩
abbrev s_Schema_check : Stmt := inClass (topS 22) 1
abbrev N_Schema_check : List Str := ["self", "thing"]
theorem sc_Schema_check : FnScope N_Schema_check ["self", "thing"] (defScope s_Schema_check) := ⟨rfl, rfl, rfl, by decide +kernel, rfl, by decide +kernel, by decide +kernel⟩
end K02
/-! TwP: what the streams' defs promise. -/
namespace Tw
open PySem PySem.Spec PyProof.Rows L2 Sb
theorem TyX.same {K : PySem.W.Frag} {H H' : Hp} {v : V} {t : Value} (s : Same H H') (h : TyX K H v t) : TyX K H' v t := by
  cases h with
  | base b =>
    refine .base ?_
    cases b with
    | non => exact .non
    | bl y => exact .bl y
    | int i => exact .int i
    | str y => exact .str y
    | flt y => exact .flt y
    | lst e => exact .lst (s _ _ e)
    | frz e => exact .frz (s _ _ e)
    | tup e => exact .tup (s _ _ e)
    | dK e => exact .dK (s _ _ e)
    | dT e => exact .dT (s _ _ e)
    | ins e c h1 h2 h3 h4 => exact .ins (s _ _ e) c h1 h2 h3 h4
  | byt b => exact .byt b
  | set e => exact .set (s _ _ e)
  | kList e c => exact .kList e c
  | kTuple e c => exact .kTuple e c
  | kDict e c => exact .kDict e c
  | fTuple e => exact .fTuple (s _ _ e)
  | fDict e => exact .fDict (s _ _ e)
theorem Rw.ty {K : PySem.W.Frag} {H : Hp} {a : Addr} {xs : List V} (h : Rw H a xs) : ∃ t, TyX K H (.ref a) t ∧ PySem.W.kitAny K t [.type "list", .type "tuple"] = some true := by
  rcases h with h | h
  · exact ⟨.type "list", .base (.lst h), kitAny_cons (b := true) (kit_ty (by decide +kernel)) (fun z => nomatch z) fun _ => rfl⟩
  · exact ⟨.type "tuple", .base (.tup h), kitAny_cons (b := false) (kit_ty (by decide +kernel)) (fun _ => kitAny_cons (b := true) (kit_ty (by decide +kernel)) (fun z => nomatch z) fun _ => rfl) fun z => nomatch z⟩
/-- a module's number -/
abbrev Gi (mg : Str → Option Value) (x : Str) (n : Int) : Prop := ∃ u, mg x = some u ∧ RelV (.int n) u
abbrev big : Nat := 4000000
def spWhole (K : PySem.W.Frag) : Sp := fun vs H Q _ => ∃ (v : V) (t : Value) (b1 b2 : Bool), vs = [v] ∧ TyX K H v t ∧ PySem.W.kitOne K t (.type "int") = some b1 ∧ (b1 = true → PySem.W.kitOne K t (.type "bool") = some b2) ∧ Q (.bl (b1 && !b2)) H
def spRow (K : PySem.W.Frag) : Sp := fun vs H Q _ => ∃ (v : V) (t : Value) (b : Bool), vs = [v] ∧ TyX K H v t ∧ PySem.W.kitAny K t [.type "list", .type "tuple"] = some b ∧ ∀ H', Same H H' → Q (.bl b) H'
/-- rows of bytes are asked of alone -/
def spBytes : Sp := fun vs H Q _ => ∃ (a : Addr) (ns : List Int), vs = [.ref a] ∧ Rw H a (iV ns) ∧ By ns ∧ ns.length ≤ big ∧ ∀ H', Same H H' → Q (.bl true) H'
def spRefuse : Sp := fun vs H Q _ => ∃ (a : Addr) (ns : List Int), vs = [.ref a] ∧ Rw H a (iV ns) ∧ By ns ∧ ns.length ≤ big ∧ ∀ H', Same H H' → Q .non H'
def spZeros : Sp := fun vs H Q _ => ∃ (a : Addr) (ns : List Int), vs = [.ref a] ∧ Rw H a (iV ns) ∧ ns.length ≤ big ∧ ∀ (H' : Hp) (p : Addr), Same H H' → H p = none → H' p = some (.lst ((zs 0 ns).map fun (i : Nat) => V.int i)) → Q (.ref p) H'
def spCheck : Sp := fun vs H Q _ => ∃ (a : Addr) (ns : List Int), vs = [.ref a] ∧ Rw H a (iV ns) ∧ By ns ∧ ns.length ≤ big ∧ ∀ (H' : Hp) (p : Addr), Same H H' → H p = none → H' p = some (.lst (iV (check ns))) → Q (.ref p) H'
def optL (H0 H : Hp) : Option (List Int) → V → Prop
  | none, v => v = .non
  | some w, v => ∃ p, v = .ref p ∧ H0 p = none ∧ H p = some (.lst (iV w))
/-- runs undone, of pieces without zeros -/
def spWithZ : Sp := fun vs H Q _ => ∃ (a : Addr) (ns : List Int), vs = [.ref a] ∧ H a = some (.lst (iV ns)) ∧ By ns ∧ NZ ns ∧ ns.length ≤ big ∧ ∀ (H' : Hp) (v : V), Same H H' → optL H H' (unrun ns) v → Q v H'
def spRead : Sp := fun vs H Q _ => ∃ (a : Addr) (pl : Nat) (ns : List Int), vs = [.int (pl : Nat), .ref a] ∧ H a = some (.lst (iV ns)) ∧ By ns ∧ NZ ns ∧ ns.length ≤ big ∧ ∀ (H' : Hp) (v : V), Same H H' → TlAt H H' (tell pl ns) v → Q v H'

/-! ### cuts by natural places -/
theorem sIx_natV (n d k : Nat) : HT.sIx n d (some (k : Int)) = min k n := HT.sIx_nat n d k
theorem cut_nn (xs : List V) (i j : Nat) : cutV xs (some (i : Int)) (some (j : Int)) = (xs.drop i).take (j - i) := by
  unfold cutV
  rw [sIx_natV, sIx_natV]
  by_cases h : i ≤ xs.length
  · rw [Nat.min_eq_left h]
    by_cases h2 : j ≤ xs.length
    · rw [Nat.min_eq_left h2]
    · rw [Nat.min_eq_right (show xs.length ≤ j by omega), List.take_of_length_le (by rw [List.length_drop]; omega), List.take_of_length_le (by rw [List.length_drop]; omega)]
  · rw [Nat.min_eq_right (show xs.length ≤ i by omega), List.drop_of_length_le (Nat.le_refl _), List.drop_of_length_le (show xs.length ≤ i by omega)]
    simp
theorem cut_n0 (xs : List V) (i : Nat) : cutV xs (some (i : Int)) none = xs.drop i := by
  unfold cutV
  rw [sIx_natV, show HT.sIx xs.length xs.length none = xs.length from HT.sIx_none _ _]
  by_cases h : i ≤ xs.length
  · rw [Nat.min_eq_left h, List.take_of_length_le (by rw [List.length_drop]; omega)]
  · rw [Nat.min_eq_right (show xs.length ≤ i by omega), List.drop_of_length_le (Nat.le_refl _), List.drop_of_length_le (show xs.length ≤ i by omega)]
    simp
theorem cut_0n (xs : List V) (j : Nat) : cutV xs none (some (j : Int)) = xs.take j := by
  unfold cutV
  rw [sIx_natV, show HT.sIx xs.length 0 none = 0 from HT.sIx_none _ _, List.drop_zero, Nat.sub_zero]
  by_cases h : j ≤ xs.length
  · rw [Nat.min_eq_left h]
  · rw [Nat.min_eq_right (show xs.length ≤ j by omega), List.take_of_length_le (Nat.le_refl _), List.take_of_length_le (show xs.length ≤ j by omega)]
/-- a negative place, counted from the end -/
theorem sIx_neg (n d k : Nat) (h0 : 1 ≤ k) (hk : k ≤ n) : HT.sIx n d (some (-(k : Int))) = n - k := by
  unfold HT.sIx
  simp only
  split <;> omega
theorem cut_0m (xs : List V) (k : Nat) (h0 : 1 ≤ k) (hk : k ≤ xs.length) : cutV xs none (some (-(k : Int))) = xs.take (xs.length - k) := by
  unfold cutV
  rw [sIx_neg _ _ _ h0 hk, show HT.sIx xs.length 0 none = 0 from HT.sIx_none _ _, List.drop_zero, Nat.sub_zero]
theorem cut_m0 (xs : List V) (k : Nat) (h0 : 1 ≤ k) (hk : k ≤ xs.length) : cutV xs (some (-(k : Int))) none = xs.drop (xs.length - k) := by
  unfold cutV
  rw [sIx_neg _ _ _ h0 hk, show HT.sIx xs.length xs.length none = xs.length from HT.sIx_none _ _, List.take_of_length_le (by rw [List.length_drop]; omega)]
theorem iV_take (xs : List Int) (n : Nat) : iV (xs.take n) = (iV xs).take n := List.map_take
theorem iV_drop (xs : List Int) (n : Nat) : iV (xs.drop n) = (iV xs).drop n := List.map_drop
theorem iV_snoc (xs : List Int) (b : Int) : iV (xs ++ [b]) = iV xs ++ [V.int b] := iV_append xs [b]
theorem iteNF {c A B : Prop} [Decidable c] (hc : ¬ c) (h : A) : if (!decide c) = true then A else B := by
  rw [decide_eq_false hc]
  exact iteT h

/-! ### the feeder -/
theorem rest_place : ¬ (("rest" : Str) = "place") := by decide +kernel
theorem place_rest : ¬ (("place" : Str) = "rest") := by decide +kernel
abbrev fdF (l : Addr) (n : Int) : List (Str × V) := [("rest", .ref l), ("place", .int n)]
theorem fd_init (l : Addr) (n : Int) : putF "place" (.int n) (putF "rest" (.ref l) []) = fdF l n := by
  show (if ("rest" : Str) = "place" then _ else (("rest" : Str), V.ref l) :: putF "place" (.int n) []) = _
  rw [if_neg rest_place]
  rfl
theorem fd_rest (l m : Addr) (n : Int) : putF "rest" (.ref m) (fdF l n) = fdF m n := by
  show (if ("rest" : Str) = "rest" then (("rest" : Str), V.ref m) :: [(("place" : Str), V.int n)] else _) = _
  rw [if_pos rfl]
theorem fd_place (l : Addr) (n k : Int) : putF "place" (.int k) (fdF l n) = fdF l k := by
  show (if ("rest" : Str) = "place" then _ else (("rest" : Str), V.ref l) :: (if ("place" : Str) = "place" then [(("place" : Str), V.int k)] else _)) = _
  rw [if_neg rest_place, if_pos rfl]
theorem fd_get_rest (l : Addr) (n : Int) : (fdF l n).lookup ("rest" : Str) = some (.ref l) := by simp [fdF, List.lookup]
theorem fd_get_place (l : Addr) (n : Int) : (fdF l n).lookup ("place" : Str) = some (.int n) := by
  have e : (("place" : Str) == ("rest" : Str)) = false := by decide +kernel
  simp [fdF, List.lookup, e]
theorem fd_no (l : Addr) (n : Int) {m : Str} (h1 : (m == ("rest" : Str)) = false) (h2 : (m == ("place" : Str)) = false) : (fdF l n).lookup m = none := by simp [fdF, List.lookup, h1, h2]
/-- a feeder at p that holds rest, in the list at l, from the place pl on -/
def FdAt (C : Addr) (H : Hp) (p l : Addr) (rest : List Int) (pl : Nat) : Prop := ∃ dx, H p = some (.ins C dx (fdF l (pl : Nat))) ∧ H l = some (.lst (iV rest))
structure ClF (K : PySem.W.Frag) (C : Addr) : Prop where
  cl : Cls K C
  nR : NoAttr K C "rest"
  nP : NoAttr K C "place"
theorem FdAt.ne {C : Addr} {H : Hp} {p l : Addr} {r : List Int} {n : Nat} (h : FdAt C H p l r n) : p ≠ l := by
  obtain ⟨dx, h1, h2⟩ := h
  exact ne_of h1 h2 (by intro z; cases z)
theorem FdAt.keep {C : Addr} {H H' : Hp} {p l : Addr} {r : List Int} {n : Nat} (h : FdAt C H p l r n) (s : Same H H') : FdAt C H' p l r n := by
  obtain ⟨dx, h1, h2⟩ := h
  exact ⟨dx, s _ _ h1, s _ _ h2⟩
/-- all but two places stay -/
def But (p l : Addr) (H H' : Hp) : Prop := ∀ b o, b ≠ p → b ≠ l → H b = some o → H' b = some o
theorem But.refl {p l : Addr} {H : Hp} : But p l H H := fun _ _ _ _ e => e
theorem But.trans {p l : Addr} {H H1 H2 : Hp} (h : But p l H H1) (k : But p l H1 H2) : But p l H H2 := fun b o n m e => k b o n m (h b o n m e)
theorem But.same {p l : Addr} {H H1 H2 : Hp} (h : But p l H H1) (k : Same H1 H2) : But p l H H2 := fun b o n m e => k b o (h b o n m e)
def spFInit (C : Addr) : Sp := fun vs H Q _ => ∃ (p dx : Addr), vs = [.ref p] ∧ H p = some (.ins C dx []) ∧ ∀ (H' : Hp) (l : Addr), (∀ b o, b ≠ p → H b = some o → H' b = some o) → H l = none → FdAt C H' p l [] 0 → Q .non H'
def spFDone (C : Addr) : Sp := fun vs H Q _ => ∃ (p l : Addr) (rest : List Int) (pl : Nat), vs = [.ref p] ∧ FdAt C H p l rest pl ∧ rest.length ≤ big ∧
  ∀ (H' : Hp) (l' r : Addr) (ws : List V), (∀ b o, b ≠ p → H b = some o → H' b = some o) → H l' = none → FdAt C H' p l' [] 0 → H r = none → r ≠ l' → H' r = some (.lst ws) → Tls (upd H r (.lst [])) H' (rests rest pl) ws → Q (.ref r) H'
def spFFeed (C : Addr) : Sp := fun vs H Q _ => ∃ (p d l : Addr) (rest xs : List Int) (pl : Nat), vs = [.ref p, .ref d] ∧ FdAt C H p l rest pl ∧ H d = some (.lst (iV xs)) ∧ d ≠ l ∧ By rest ∧ NZ rest ∧ By xs ∧ rest.length + xs.length ≤ big ∧
  ∀ (H' : Hp) (l' r : Addr) (ws : List V), But p l H H' → FdAt C H' p l' (goes rest pl xs).2.1 (goes rest pl xs).2.2 → (l' = l ∨ H l' = none) → H r = none → r ≠ l' → H' r = some (.lst ws) → Tls (upd H r (.lst [])) H' (goes rest pl xs).1 ws → Q (.ref r) H'
def spUnst : Sp := fun vs H Q _ => ∃ (d : Addr) (xs : List Int), vs = [.ref d] ∧ H d = some (.lst (iV xs)) ∧ By xs ∧ xs.length ≤ big ∧ ∀ (H' : Hp) (r : Addr) (ws : List V), Same H H' → H r = none → H' r = some (.lst ws) → Tls (upd H r (.lst [])) H' (unstr xs) ws → Q (.ref r) H'
theorem Tls.more {H0 H : Hp} {x : Addr} {o : HO} (hx : H x = none) : ∀ {ts : List Tell} {ws : List V}, Tls H0 H ts ws → Tls (upd H0 x o) H ts ws := by
  have go : ∀ (t : Tell) (v : V), TlAt H0 H t v → TlAt (upd H0 x o) H t v := by
    intro t v h
    cases t with
    | part pl bs =>
      obtain ⟨a, l, e, h1, h2, h3, h4⟩ := h
      exact ⟨a, l, e, h1, h2, by rw [upd_ne (ne_of_none h1 hx)]; exact h3, by rw [upd_ne (ne_of_none h2 hx)]; exact h4⟩
    | torn pl n =>
      obtain ⟨a, e, h1, h2⟩ := h
      exact ⟨a, e, h1, by rw [upd_ne (ne_of_none h1 hx)]; exact h2⟩
  intro ts ws h
  exact pd_mono go h
theorem upd_none {H0 : Hp} {x b : Addr} {o : HO} (h : upd H0 x o b = none) : b ≠ x ∧ H0 b = none := by
  have n : b ≠ x := fun z => by rw [z, upd_same] at h; cases h
  rw [upd_ne n] at h
  exact ⟨n, h⟩
theorem none_upd {H0 : Hp} {x b : Addr} {o : HO} (n : b ≠ x) (h : H0 b = none) : upd H0 x o b = none := by
  rw [upd_ne n]
  exact h
theorem pd_len {α β : Type} {F : α → β → Prop} : ∀ {xs : List α} {ys : List β}, Paired F xs ys → xs.length = ys.length
  | _, _, .nil => rfl
  | _, _, .cons _ t => by rw [List.length_cons, List.length_cons, pd_len t]
theorem seq0 {α : Type} {x : α} {xs : List α} (f : α → V) : seqIndex? 0 ((x :: xs).map f).length = some 0 := by
  rw [List.length_map, List.length_cons]
  unfold seqIndex?
  simp
theorem iV_at0 {xs : List Int} {i : Nat} {b : Int} (h : xs[i]? = some b) : atI (iV xs) (0 + (i : Int)) = some (.int b) := by
  rw [show (0 : Int) + (i : Int) = (i : Int) by omega]
  exact iV_atI h
theorem cutB {xs : List Int} (h : By xs) (lo hi : Option Int) : ∃ ys, cutV (iV xs) lo hi = iV ys ∧ By ys ∧ ys.length ≤ xs.length := by
  refine ⟨(xs.drop (HT.sIx (iV xs).length 0 lo)).take (HT.sIx (iV xs).length (iV xs).length hi - HT.sIx (iV xs).length 0 lo), ?_, (h.drop _).take _, ?_⟩
  · unfold cutV
    rw [iV_take, iV_drop]
  · rw [List.length_take, List.length_drop]
    omega
/-- the check of a list -/
def spCheckL : Sp := fun vs H Q _ => ∃ (a : Addr) (ns : List Int), vs = [.ref a] ∧ H a = some (.lst (iV ns)) ∧ By ns ∧ ns.length ≤ big ∧ ∀ (H' : Hp) (p : Addr), Same H H' → Nw H H' p (check ns) → Q (.ref p) H'
/-- some new list of bytes, of at most twice as many and two -/
def spRunsL : Sp := fun vs H Q _ => ∃ (a : Addr) (ns : List Int), vs = [.ref a] ∧ H a = some (.lst (iV ns)) ∧ By ns ∧ ns.length ≤ 100000 ∧ ∀ (H' : Hp) (p : Addr) (xs : List Int), Same H H' → Nw H H' p xs → By xs → xs.length ≤ 2 * ns.length + 1 → Q (.ref p) H'
/-- what the law undoes -/
def spUndoneL : Sp := fun vs H Q _ => ∃ (a : Addr) (ns : List Int), vs = [.ref a] ∧ H a = some (.lst (iV ns)) ∧ By ns ∧ NZ ns ∧ ns.length ≤ big ∧ ∀ (H' : Hp) (v : V), Same H H' → optL H H' (unrun ns) v → Q v H'
theorem ixN_at {v : Int} {n : Nat} (h0 : 0 ≤ v) (h : v.toNat < n) : ixN n v = some v.toNat := by
  unfold ixN
  rw [if_pos h0, if_pos (by omega)]
theorem By.set {xs : List Int} (h : By xs) (i : Nat) {y : Int} (h0 : 0 ≤ y) (h1 : y ≤ 255) : By (xs.set i y) := fun b hb => by
  rcases List.mem_or_eq_of_mem_set hb with q | q
  · exact h b q
  · rw [q]
    exact ⟨h0, h1⟩
theorem iV_set (xs : List Int) (i : Nat) (y : Int) : (iV xs).set i (.int y) = iV (xs.set i y) := List.map_set.symm
/-- what the law tells of a piece -/
def spToldL : Sp := fun vs H Q _ => ∃ (a : Addr) (pl : Nat) (en : Bool) (ns : List Int), vs = [.ref a, .int (pl : Nat), .bl en] ∧ H a = some (.lst (iV ns)) ∧ By ns ∧ NZ ns ∧ ns.length ≤ big ∧ ∀ (H' : Hp) (v : V), Same H H' → TlAt H H' (if en = true then tell pl ns else .torn pl ns.length) v → Q v H'
/-- what is due of a stream -/
def spDueL : Sp := fun vs H Q _ => ∃ (d : Addr) (xs : List Int), vs = [.ref d] ∧ H d = some (.lst (iV xs)) ∧ By xs ∧ xs.length ≤ big ∧ ∀ (H' : Hp) (r : Addr) (ws : List V), Same H H' → H r = none → H' r = some (.lst ws) → Tls H H' (unstr xs) ws → Q (.ref r) H'
theorem pd_at {α β : Type} {F : α → β → Prop} : ∀ {xs : List α} {ys : List β} {i : Nat} {y : β}, Paired F xs ys → ys[i]? = some y → ∃ x, xs[i]? = some x ∧ F x y
  | _, _, 0, _, .cons h _, e => by
    cases e
    exact ⟨_, rfl, h⟩
  | _, _, i + 1, _, .cons _ t, e => by
    obtain ⟨x, h1, h2⟩ := pd_at (i := i) t (by simpa using e)
    exact ⟨x, by simpa using h1, h2⟩
theorem cutI (xs : List Int) (lo hi : Option Int) : ∃ ys, cutV (iV xs) lo hi = iV ys ∧ ys.length ≤ xs.length := by
  refine ⟨(xs.drop (HT.sIx (iV xs).length 0 lo)).take (HT.sIx (iV xs).length (iV xs).length hi - HT.sIx (iV xs).length 0 lo), ?_, ?_⟩
  · unfold cutV
    rw [iV_take, iV_drop]
  · rw [List.length_take, List.length_drop]
    omega
theorem eqv_int_refl (xs : List Int) : PyData.eqv (.list (xs.map PyData.int)) (.list (xs.map PyData.int)) = true := by
  rw [eqv_ints]
  exact decide_eq_true rfl
theorem tell_refl (t : Tell) : PyData.eqv (Tell.pd t) (Tell.pd t) = true := by
  cases t with
  | part pl bs =>
    have e := eqv_int_refl bs
    simp only [Tell.pd, PyData.eqv, PyData.eqvAll] at e ⊢
    simp [e]
  | torn pl n => simp [Tell.pd, PyData.eqv, PyData.eqvAll]
theorem tells_refl (ts : List Tell) : PyData.eqv (.list (ts.map Tell.pd)) (.list (ts.map Tell.pd)) = true := by
  have go : ∀ ts : List Tell, PyData.eqvAll (ts.map Tell.pd) (ts.map Tell.pd) = true := by
    intro ts
    induction ts with
    | nil => rfl
    | cons t r ih =>
      simp only [List.map_cons, PyData.eqvAll, tell_refl t, ih, Bool.and_self]
  have e := go ts
  simpa only [PyData.eqv] using e
def spLaw (K : PySem.W.Frag) : Sp := fun vs H Q _ => ∃ (a : Addr) (ns : List Int), vs = [.ref a] ∧ SqL K H a (ns.map V.int) ∧ ns.length ≤ 63 ∧ ∀ H', Q (.bl true) H'
/-- the facts of a class at C with __init__, as the top left it -/
structure ClIn (K : PySem.W.Frag) (C : Addr) (x : Str) : Prop where
  g : PySem.W.nsIn K mainGlobals x = some (some (.ref C))
  pg : PySem.W.plainGet K C Str.empty = true
  hd : PySem.W.hasDictIn K C = true
  po : PySem.W.plainOver K C = true
  sa : PySem.W.findIn K (.ref C) "__setattr__" = some (some (.builtin "object.__setattr__"))
  mks : PySem.W.makesIn K C = true
  kc : PySem.W.keepIn K (.ref C) = true
theorem ClIn.cls {K : PySem.W.Frag} {C : Addr} {x : Str} (c : ClIn K C x) : Cls K C := ⟨c.pg, c.hd, c.po, c.sa⟩
theorem gi_mk {K : PySem.W.Frag} {h : Heap} {mg : Str → Option Value} {x : Str} {n : Int} {t : Tok} (X : K.In h) (G : h.Ns mainGlobals mg) (g : PySem.W.nsIn K mainGlobals x = some (some (.int n t))) : Gi mg x n := ⟨_, PySem.W.mg_of X G g, _, rfl⟩
/-! ### list(x), tuple(x), in comprehensions too -/
def rListOf (K : PySem.W.Frag) : List V → Hp → VK → Prop := fun xs H Q => ∃ p ys, xs = [.ref p] ∧ (SqL K H p ys ∨ SqT K H p ys) ∧ ∀ l, H l = none → Q (.ref l) (upd H l (.lst ys))
def rTupOf (K : PySem.W.Frag) : List V → Hp → VK → Prop := fun xs H Q => ∃ p ys, xs = [.ref p] ∧ ((SqL K H p ys ∧ ∀ l, H l = none → Q (.ref l) (upd H l (.tup ys))) ∨ (SqT K H p ys ∧ Q (.ref p) H))
theorem cr_listK {X : Cx} : CallR X (.type "list") (rListOf X.K) := call_list_of
theorem cr_tupK {X : Cx} : CallR X (.type "tuple") (rTupOf X.K) := call_tuple_of
end Tw
/-! Sw: how a part is written, and that it is read back. -/
namespace Sb
/-- a stretch without zeros in runs -/
def encS (last : Bool) (seg : List Int) : List Int :=
  if 254 < seg.length ∨ (seg.length = 254 ∧ last = false) then 255 :: (seg.take 254 ++ encS last (seg.drop 254)) else (((seg.length : Nat) : Int) + 1) :: seg
termination_by seg.length
decreasing_by
  rw [List.length_drop]
  omega
theorem encS_full {last : Bool} {seg : List Int} (h : 254 < seg.length ∨ (seg.length = 254 ∧ last = false)) : encS last seg = 255 :: (seg.take 254 ++ encS last (seg.drop 254)) := by
  rw [encS, if_pos h]
theorem encS_end {last : Bool} {seg : List Int} (h : ¬ (254 < seg.length ∨ (seg.length = 254 ∧ last = false))) : encS last seg = (((seg.length : Nat) : Int) + 1) :: seg := by
  rw [encS, if_neg h]
theorem encS_ne (last : Bool) (seg : List Int) : encS last seg ≠ [] := by
  rw [encS]
  split <;> simp
/-- behind the stretch seg -/
def enc (seg : List Int) : List Int → List Int
  | [] => encS true seg
  | b :: r => if b = 0 then encS false seg ++ enc [] r else enc (seg ++ [b]) r
theorem enc_ne (seg xs : List Int) : enc seg xs ≠ [] := by
  cases xs with
  | nil => exact encS_ne _ _
  | cons b r =>
    by_cases h : b = 0
    · simp only [enc, if_pos h]
      intro e
      exact encS_ne _ _ (List.append_eq_nil_iff.mp e).1
    · simp only [enc, if_neg h]
      exact enc_ne (seg ++ [b]) r
theorem enc_nz {seg : List Int} (pre : List Int) (h : NZ seg) (r : List Int) : enc pre (seg ++ 0 :: r) = encS false (pre ++ seg) ++ enc [] r := by
  induction seg generalizing pre with
  | nil => simp [enc]
  | cons b t ih =>
    have hb : b ≠ 0 := h b (List.mem_cons_self ..)
    simp only [List.cons_append, enc, if_neg hb]
    rw [ih _ fun c hc => h c (List.mem_cons_of_mem _ hc)]
    simp
theorem enc_end {seg : List Int} (pre : List Int) (h : NZ seg) : enc pre seg = encS true (pre ++ seg) := by
  induction seg generalizing pre with
  | nil => simp [enc]
  | cons b t ih =>
    have hb : b ≠ 0 := h b (List.mem_cons_self ..)
    simp only [enc, if_neg hb]
    rw [ih _ fun c hc => h c (List.mem_cons_of_mem _ hc)]
    simp
theorem encS_len (last : Bool) (seg : List Int) : (encS last seg).length ≤ seg.length + seg.length / 254 + 1 := by
  rw [encS]
  split
  · rename_i h
    have l := encS_len last (seg.drop 254)
    rw [List.length_cons, List.length_append, List.length_take]
    rw [List.length_drop] at l
    omega
  · rw [List.length_cons]
    omega
termination_by seg.length
decreasing_by
  rw [List.length_drop]
  omega
theorem enc_len (seg xs : List Int) : (enc seg xs).length ≤ 2 * (seg.length + xs.length) + 1 := by
  induction xs generalizing seg with
  | nil =>
    have := encS_len true seg
    simp only [enc]
    have e : ([] : List Int).length = 0 := rfl
    omega
  | cons b r ih =>
    by_cases h : b = 0
    · simp only [enc, if_pos h, List.length_append, List.length_cons]
      have := encS_len false seg
      have := ih []
      have e : ([] : List Int).length = 0 := rfl
      omega
    · simp only [enc, if_neg h, List.length_cons]
      have := ih (seg ++ [b])
      rw [List.length_append] at this
      have e : [b].length = 1 := rfl
      omega
/-- bytes, none of them 0 -/
def Ps (xs : List Int) : Prop := ∀ b ∈ xs, 1 ≤ b ∧ b ≤ 255
theorem Ps.by {xs : List Int} (h : Ps xs) : By xs := fun b hb => by
  have := h b hb
  omega
theorem Ps.nz {xs : List Int} (h : Ps xs) : NZ xs := fun b hb => by
  have := h b hb
  omega
theorem Ps.of {xs : List Int} (h : By xs) (k : NZ xs) : Ps xs := fun b hb => by
  have := h b hb
  have := k b hb
  omega
theorem Ps.append {xs ys : List Int} (h : Ps xs) (k : Ps ys) : Ps (xs ++ ys) := fun b hb => (List.mem_append.mp hb).elim (h b) (k b)
theorem Ps.cons {x : Int} {xs : List Int} (h0 : 1 ≤ x ∧ x ≤ 255) (k : Ps xs) : Ps (x :: xs) := fun b hb => by
  rcases List.mem_cons.mp hb with rfl | h
  · exact h0
  · exact k b h
theorem Ps.take {xs : List Int} (h : Ps xs) (n : Nat) : Ps (xs.take n) := fun b hb => h b (List.mem_of_mem_take hb)
theorem Ps.drop {xs : List Int} (h : Ps xs) (n : Nat) : Ps (xs.drop n) := fun b hb => h b (List.mem_of_mem_drop hb)
theorem Ps.nil : Ps [] := fun _ h => by cases h
theorem encS_ps {last : Bool} {seg : List Int} (h : Ps seg) : Ps (encS last seg) := by
  rw [encS]
  split
  · exact .cons ⟨by decide, by decide⟩ ((h.take _).append (encS_ps (h.drop _)))
  · rename_i k
    exact .cons ⟨by omega, by omega⟩ h
termination_by seg.length
decreasing_by
  rw [List.length_drop]
  omega
theorem enc_ps {seg xs : List Int} (h : Ps seg) (k : By xs) : Ps (enc seg xs) := by
  induction xs generalizing seg with
  | nil => exact encS_ps h
  | cons b r ih =>
    have hb := k b (List.mem_cons_self ..)
    have hr : By r := fun c hc => k c (List.mem_cons_of_mem _ hc)
    by_cases e : b = 0
    · simp only [enc, if_pos e]
      exact (encS_ps h).append (ih .nil hr)
    · simp only [enc, if_neg e]
      exact ih (h.append (.cons ⟨by omega, by omega⟩ .nil)) hr

/-! ### undone again -/
/-- as undo, and refused where a run of none stands at the end behind a full one -/
def undoA : Nat → Int → List Int → List Int → Option (List Int)
  | 0, _, acc, _ => some acc
  | _ + 1, _, acc, [] => some acc
  | f + 1, ah, acc, n :: r =>
    if r.length + 1 < n.toNat then none
    else if n = 1 ∧ ah = 255 ∧ r = [] then none
    else undoA f n (acc ++ r.take (n.toNat - 1) ++ if n < 255 ∧ n.toNat < r.length + 1 then [0] else []) ((n :: r).drop n.toNat)
theorem undoA_nil (f : Nat) (ah : Int) (acc : List Int) : undoA f ah acc [] = some acc := by cases f <;> rfl
/-- where undoA tells something, undo tells it -/
theorem undo_of {f : Nat} {ah : Int} {acc p w : List Int} (h : undoA f ah acc p = some w) : undo f acc p = some w := by
  induction f generalizing ah acc p with
  | zero => exact h
  | succ f ih =>
    cases p with
    | nil => exact h
    | cons n r =>
      simp only [undoA] at h
      simp only [undo]
      split at h
      · cases h
      · rename_i h1
        rw [if_neg h1]
        split at h
        · cases h
        · exact ih h
/-- a written run, behind it something -/
theorem undoA_run {f : Nat} {ah n : Int} {acc seg t : List Int} (hn : n = ((seg.length : Nat) : Int) + 1) (hl : seg.length ≤ 254) (hz : ¬ (n = 1 ∧ ah = 255 ∧ t = [])) :
    undoA (f + 1) ah acc (n :: (seg ++ t)) = undoA f n (acc ++ seg ++ if n < 255 ∧ t ≠ [] then [0] else []) t := by
  have en : n.toNat = seg.length + 1 := by omega
  have e1 : ¬ ((seg ++ t).length + 1 < n.toNat) := by rw [List.length_append, en]; omega
  have e2 : ¬ (n = 1 ∧ ah = 255 ∧ seg ++ t = []) := fun q => hz ⟨q.1, q.2.1, (List.append_eq_nil_iff.mp q.2.2).2⟩
  have e3 : (seg ++ t).take (n.toNat - 1) = seg := by rw [en, Nat.add_sub_cancel, List.take_left']; rfl
  have e4 : (n :: (seg ++ t)).drop n.toNat = t := by
    rw [en, List.drop_succ_cons, List.drop_left']
    rfl
  have e5 : (if n < 255 ∧ n.toNat < (seg ++ t).length + 1 then [(0 : Int)] else []) = if n < 255 ∧ t ≠ [] then [0] else [] := by
    rw [List.length_append, en]
    cases t with
    | nil => simp
    | cons x t => simp
  simp only [undoA]
  rw [if_neg e1, if_neg e2, e3, e4, e5]
theorem undoA_encS {last : Bool} {seg : List Int} {f : Nat} {ah : Int} {acc t : List Int} (ht : last = true ↔ t = []) (ha : seg = [] → last = true → ah ≠ 255) (hf : (encS last seg ++ t).length ≤ f) :
    ∃ f' ah', t.length ≤ f' ∧ (last = false → ah' ≠ 255) ∧ undoA f ah acc (encS last seg ++ t) = undoA f' ah' (acc ++ seg ++ if t = [] then [] else [0]) t := by
  by_cases h : 254 < seg.length ∨ (seg.length = 254 ∧ last = false)
  · have el : (seg.take 254).length = 254 := by rw [List.length_take]; omega
    rw [encS_full h] at hf ⊢
    cases f with
    | zero => simp at hf
    | succ f =>
      have e0 : (255 :: (seg.take 254 ++ encS last (seg.drop 254))) ++ t = 255 :: (seg.take 254 ++ (encS last (seg.drop 254) ++ t)) := by simp
      rw [e0] at hf ⊢
      rw [undoA_run (by rw [el]; rfl) (by rw [el]; exact Nat.le_refl _) (fun q => absurd q.1 (by decide))]
      rw [if_neg (fun q => absurd q.1 (by decide)), List.append_nil]
      have hf2 : (encS last (seg.drop 254) ++ t).length ≤ f := by
        rw [List.length_cons, List.length_append] at hf
        omega
      obtain ⟨f', ah', h1, h2, h3⟩ := undoA_encS (seg := seg.drop 254) (ah := 255) (acc := acc ++ seg.take 254) ht (fun e l => by
        have := congrArg List.length e
        rw [List.length_drop] at this
        rcases h with h | h
        · simp at this
          omega
        · rw [h.2] at l
          cases l) hf2
      refine ⟨f', ah', h1, h2, ?_⟩
      rw [h3, List.append_assoc acc, List.take_append_drop]
  · rw [encS_end h] at hf ⊢
    cases f with
    | zero => simp at hf
    | succ f =>
      have hl : seg.length ≤ 254 := by omega
      have e0 : ((((seg.length : Nat) : Int) + 1) :: seg) ++ t = (((seg.length : Nat) : Int) + 1) :: (seg ++ t) := rfl
      rw [e0] at hf ⊢
      have hz : ¬ (((seg.length : Nat) : Int) + 1 = 1 ∧ ah = 255 ∧ t = []) := fun q => ha (List.length_eq_zero_iff.mp (by omega)) (ht.mpr q.2.2) q.2.1
      rw [undoA_run rfl hl hz]
      have e6 : (if ((seg.length : Nat) : Int) + 1 < 255 ∧ t ≠ [] then [(0 : Int)] else []) = if t = [] then [] else [0] := by
        by_cases c : t = []
        · rw [if_pos c, if_neg fun q => q.2 c]
        · have l : last = false := by
            cases hq : last with
            | false => rfl
            | true => exact absurd (ht.mp hq) c
          have : ¬ seg.length = 254 := fun e => h (.inr ⟨e, l⟩)
          rw [if_neg c, if_pos ⟨by omega, c⟩]
      rw [e6]
      refine ⟨f, ((seg.length : Nat) : Int) + 1, ?_, fun l => ?_, rfl⟩
      · rw [List.length_cons, List.length_append] at hf
        omega
      · intro e
        exact h (.inr ⟨by omega, l⟩)
termination_by seg.length
decreasing_by
  rw [List.length_drop]
  omega
theorem undoA_enc {seg xs : List Int} {f : Nat} {ah : Int} {acc : List Int} (ha : ah ≠ 255) (hf : (enc seg xs).length ≤ f) : undoA f ah acc (enc seg xs) = some (acc ++ seg ++ xs) := by
  induction xs generalizing seg f ah acc with
  | nil =>
    simp only [enc] at hf ⊢
    have hf' : (encS true seg ++ []).length ≤ f := by rw [List.append_nil]; exact hf
    obtain ⟨f', ah', h1, h2, h3⟩ := undoA_encS (acc := acc) (t := []) (by simp) (fun _ _ => ha) hf'
    rw [List.append_nil] at h3
    rw [h3, undoA_nil]
    simp
  | cons b r ih =>
    by_cases h : b = 0
    · simp only [enc, if_pos h] at hf ⊢
      obtain ⟨f', ah', h1, h2, h3⟩ := undoA_encS (acc := acc) (t := enc [] r) (by
        constructor
        · intro q
          cases q
        · intro q
          exact absurd q (enc_ne _ _)) (fun _ q => by cases q) hf
      rw [h3, ih (h2 rfl) h1, if_neg (enc_ne _ _), h]
      simp
    · simp only [enc, if_neg h] at hf ⊢
      rw [ih ha hf]
      simp
theorem unrun_enc (xs : List Int) : unrun (enc [] xs) = some xs := by
  have h := undoA_enc (seg := []) (xs := xs) (ah := 0) (acc := []) (by decide) (Nat.le_refl _)
  have := undo_of h
  simpa [unrun] using this

/-! ### streams -/
def whole (p : List Int) : List Int := p ++ check p
def piece (p : List Int) : List Int := enc [] (whole p)
def strm (ps : List (List Int)) : List Int := (ps.map fun p => piece p ++ [0]).flatten
theorem whole_by {p : List Int} (h : By p) : By (whole p) := h.append (check_by p)
theorem whole_len (p : List Int) : (whole p).length = p.length + 4 := by
  unfold whole
  rw [List.length_append, check_length]
theorem piece_ps {p : List Int} (h : By p) : Ps (piece p) := enc_ps .nil (whole_by h)
theorem piece_ne (p : List Int) : piece p ≠ [] := enc_ne _ _
theorem piece_len (p : List Int) : (piece p).length ≤ 2 * p.length + 9 := by
  have := enc_len [] (whole p)
  rw [whole_len] at this
  have e : ([] : List Int).length = 0 := rfl
  unfold piece
  omega
theorem strm_append (ps qs : List (List Int)) : strm (ps ++ qs) = strm ps ++ strm qs := by simp [strm]
theorem strm_cons (p : List Int) (ps : List (List Int)) : strm (p :: ps) = piece p ++ 0 :: strm ps := by simp [strm]
theorem strm_one (p : List Int) : strm [p] = piece p ++ [0] := by simp [strm]
theorem strm_by {ps : List (List Int)} (h : ∀ p ∈ ps, By p) : By (strm ps) := by
  induction ps with
  | nil => exact .nil
  | cons p r ih =>
    rw [strm_cons]
    refine ((piece_ps (h p (List.mem_cons_self ..))).by).append (.cons (by decide) (by decide) (ih fun q hq => h q (List.mem_cons_of_mem _ hq)))
/-- a written part is told whole -/
theorem tell_piece (pl : Nat) (p : List Int) : tell pl (piece p) = .part pl p := by
  unfold tell piece
  rw [unrun_enc]
  have e1 : (whole p).length - 4 = p.length := by rw [whole_len]; omega
  have e2 : (whole p).take p.length = p := by unfold whole; rw [List.take_left']; rfl
  have e3 : (whole p).drop p.length = check p := by unfold whole; rw [List.drop_left']; rfl
  show (if 4 ≤ (whole p).length ∧ _ then _ else _) = _
  rw [e1, e2, e3, if_pos ⟨by rw [whole_len]; omega, rfl⟩]
theorem goes_piece (pl : Nat) {p : List Int} (h : By p) (r : List Int) : goes [] pl (piece p ++ 0 :: r) = (.part pl p :: (goes [] (pl + (piece p).length + 1) r).1, (goes [] (pl + (piece p).length + 1) r).2) := by
  rw [goes_zero (piece_ps h).nz, List.nil_append, if_neg (piece_ne p), tell_piece]
  rfl
theorem undoA_at {ns acc : List Int} {a k f : Nat} {ah : Int} (h : ns[a]? = some (k : Int)) (hk : 1 ≤ k) (hf : ns.length - a ≤ f) :
    ∃ f', ns.length - (a + k) ≤ f' ∧ undoA f ah acc (ns.drop a) = if ns.length < a + k then none else if k = 1 ∧ ah = 255 ∧ a + 1 = ns.length then none else
      undoA f' (k : Int) (acc ++ (ns.drop (a + 1)).take (k - 1) ++ if (k : Int) < 255 ∧ a + k < ns.length then [0] else []) (ns.drop (a + k)) := by
  have ha : a < ns.length := (List.getElem?_eq_some_iff.mp h).1
  have e : ns.drop a = (k : Int) :: ns.drop (a + 1) := by
    rw [List.drop_eq_getElem_cons ha]
    have := (List.getElem?_eq_some_iff.mp h).2
    rw [this]
  cases f with
  | zero => omega
  | succ f =>
    refine ⟨f, by omega, ?_⟩
    have e2 : ((k : Int) :: ns.drop (a + 1)).drop k = ns.drop (a + k) := by
      rw [← e, List.drop_drop]
    rw [e]
    simp only [undoA, Int.toNat_natCast]
    rw [e2, List.length_drop]
    by_cases c : ns.length < a + k
    · rw [if_pos c, if_pos (by omega)]
    · rw [if_neg c, if_neg (by omega)]
      have e4 : ((k : Int) = 1 ∧ ah = 255 ∧ ns.drop (a + 1) = []) ↔ (k = 1 ∧ ah = 255 ∧ a + 1 = ns.length) := by
        constructor
        · rintro ⟨h1, h2, h3⟩
          have := congrArg List.length h3
          rw [List.length_drop] at this
          simp at this
          exact ⟨by omega, h2, by omega⟩
        · rintro ⟨h1, h2, h3⟩
          exact ⟨by omega, h2, List.drop_of_length_le (by omega)⟩
      by_cases d2 : k = 1 ∧ ah = 255 ∧ a + 1 = ns.length
      · rw [if_pos d2, if_pos (e4.mpr d2)]
      · rw [if_neg d2, if_neg (fun q => d2 (e4.mp q))]
        have e3 : (if (k : Int) < 255 ∧ k < ns.length - (a + 1) + 1 then [(0 : Int)] else []) = if (k : Int) < 255 ∧ a + k < ns.length then [0] else [] := by
          by_cases d : (k : Int) < 255 ∧ a + k < ns.length
          · rw [if_pos d, if_pos ⟨d.1, by omega⟩]
          · rw [if_neg d, if_neg (fun q => d ⟨q.1, by omega⟩)]
        rw [e3]
theorem undoA_piece (p : List Int) : undoA (piece p).length 0 [] (piece p) = some (whole p) := by
  have h := undoA_enc (seg := []) (xs := whole p) (ah := 0) (acc := []) (by decide) (Nat.le_refl _)
  simpa [piece] using h
/-- cut at the zeros: the pieces that a zero ends, and what is left -/
def cutz : List Int → List Int → List (List Int) × List Int
  | pc, [] => ([], pc)
  | pc, b :: r => if b = 0 then (pc :: (cutz [] r).1, (cutz [] r).2) else cutz (pc ++ [b]) r
theorem cutz_zero {seg : List Int} (h : NZ seg) (pc r : List Int) : cutz pc (seg ++ 0 :: r) = ((pc ++ seg) :: (cutz [] r).1, (cutz [] r).2) := by
  induction seg generalizing pc with
  | nil => simp [cutz]
  | cons b t ih =>
    have hb : b ≠ 0 := h b (List.mem_cons_self ..)
    simp only [List.cons_append, cutz, if_neg hb]
    rw [ih fun c hc => h c (List.mem_cons_of_mem _ hc)]
    simp
theorem cutz_strm {ps : List (List Int)} (h : ∀ p ∈ ps, By p) : cutz [] (strm ps) = (ps.map piece, []) := by
  induction ps with
  | nil => rfl
  | cons p r ih =>
    rw [strm_cons, cutz_zero (piece_ps (h p (List.mem_cons_self ..))).nz, ih fun q hq => h q (List.mem_cons_of_mem _ hq)]
    rfl
end Sb
/-! TwR: a row walked, list or tuple; what writing streams promises. -/
namespace Tw
open PySem PySem.Spec PyProof.Rows L2 Sb
def ItR (K : PySem.W.Frag) (a : Addr) (b : Bool) : It := if b = true then Itt K a else Itl K a
def iRow (K : PySem.W.Frag) (tl : TE) : TI := fun σ H R => tl σ H fun x H1 => ∃ a xs, x = .ref a ∧ SqR K H1 a xs ∧ ∀ b, (b = true → SqT K H1 a xs) → (b = false → SqL K H1 a xs) → R (ItR K a b) H1
theorem pi_row {X : Cx} {tg l : Expr} {tl : TE} (he : PE X l tl) : PI X tg l (iRow X.K tl) := by
  refine ⟨fun pins s σ H R I h => thn (he.run pins s σ H _ I h) fun v s1 hh => ?_⟩
  obtain ⟨x, H1, I1, rx, a, xs, rfl, hr, q⟩ := hh
  cases rx
  have fp : ∀ b ∈ [s1.heap.objs.size], FpOk X pins H1 b := fun b hb => by
    have e : b = s1.heap.objs.size := by simpa using hb
    rw [e]
    exact I1.fpOk (Nat.le_refl _) (I1.hok.fresh (Nat.le_refl _))
  rcases hr with hr | hr
  · obtain ⟨its, _, pl, _⟩ := I1.list hr
    exact wpAny_pyIter_list pl.isList ⟨s1.heap.objs.size, [s1.heap.objs.size], _, Itl X.K a, H1, rfl, I1.kept (t' := s1.toks) fun b o e => Heap.get?_push_of_some _ e, turn_list a _, ⟨_, Heap.get?_push_size _ rfl, rfl, rfl⟩, fp, q false (fun z => nomatch z) fun _ => hr⟩
  · obtain ⟨its, _, pl, _⟩ := I1.tuple hr
    exact wpAny_pyIter_tuple (show s1.heap.IsTuple a its.toArray from pl) ⟨s1.heap.objs.size, [s1.heap.objs.size], _, Itt X.K a, H1, rfl, I1.kept (t' := s1.toks) fun b o e => Heap.get?_push_of_some _ e, turn_tuple a _, ⟨_, Heap.get?_push_size _ rfl, rfl, rfl⟩, fp, q true (fun _ => hr) fun z => nomatch z⟩
theorem walk_row {K : PySem.W.Frag} {a : Addr} {xs : List V} {b : Bool} : Walk (ItR K a b) xs.length (fun H => if b = true then SqT K H a xs else SqL K H a xs) (YAt xs) := by
  cases b with
  | true => exact walk_tup
  | false => exact walk_list
theorem SqR.star {K : PySem.W.Frag} {H : Hp} {a : Addr} {xs : List V} (h : Rw H a xs) : SqT K H a xs ∨ SqL K H a xs := h.elim (fun h => .inr (SqL.of h)) (fun h => .inl (SqT.of h))
/-- the runs of a whole -/
def spWz : Sp := fun vs H Q _ => ∃ (a : Addr) (xs : List Int), vs = [.ref a] ∧ H a = some (.lst (iV xs)) ∧ By xs ∧ xs.length ≤ 200000 ∧ ∀ (H' : Hp) (p : Addr), Same H H' → Nw H H' p (enc [] xs) → Q (.ref p) H'
/-- rows of bytes -/
def PartAt (H : Hp) (p : List Int) (v : V) : Prop := ∃ r, v = .ref r ∧ Rw H r (iV p) ∧ By p ∧ p.length ≤ 100000
theorem PartAt.same {H H' : Hp} {p : List Int} {v : V} (h : PartAt H p v) (s : Same H H') : PartAt H' p v := by
  obtain ⟨r, e, h1, h2, h3⟩ := h
  exact ⟨r, e, h1.same s, h2, h3⟩
def spStrm : Sp := fun vs H Q _ => ∃ (a : Addr) (ps : List (List Int)) (ws : List V), vs = [.ref a] ∧ Rw H a ws ∧ Paired (PartAt H) ps ws ∧ (strm ps).length ≤ big ∧ ∀ (H' : Hp) (r : Addr), Same H H' → Nw H H' r (strm ps) → Q (.ref r) H'
theorem strm_take_len (ps : List (List Int)) (k : Nat) : (strm (ps.take k)).length ≤ (strm ps).length := by
  have e := congrArg List.length (strm_append (ps.take k) (ps.drop k))
  rw [List.take_append_drop, List.length_append] at e
  omega
theorem SqT.at_ {K : PySem.W.Frag} {H H' : Hp} {a : Addr} {xs : List V} (k : ∀ o, H a = some o → H' a = some o) (h : SqT K H a xs) : SqT K H' a xs := by
  rcases h with (h | ⟨o, h⟩) | h
  · exact .inl (.inl (k _ h))
  · exact .inl (.inr ⟨o, k _ h⟩)
  · exact .inr h
theorem SqL.at_ {K : PySem.W.Frag} {H H' : Hp} {a : Addr} {xs : List V} (k : ∀ o, H a = some o → H' a = some o) (h : SqL K H a xs) : SqL K H' a xs := by
  rcases h with (h | ⟨o, h⟩) | h
  · exact .inl (.inl (k _ h))
  · exact .inl (.inr ⟨o, k _ h⟩)
  · exact .inr h
/-- what stands at a row's place stays while the row stays -/
theorem Rw.keeps {H H0 H' : Hp} {a : Addr} {xs : List V} (h : Rw H a xs) (s : Same H H0) (s' : Same H H') : ∀ o, H0 a = some o → H' a = some o := fun o e => by
  rcases h with h | h
  · rw [s _ _ h] at e
    rw [← e]
    exact s' _ _ h
  · rw [s _ _ h] at e
    rw [← e]
    exact s' _ _ h
end Tw
/-! TwX: a list grows by a row; slices of rows. -/
namespace Tw
open PySem PySem.Spec PyProof.Rows L2 Sb
open AutoSeq1 (wpAny_loadPart')
section
theorem ext_tup (l : Addr) (ia : Array Value) (n : Nat) (b : Addr) (ib : Array Value) (m : Nat) (dd : Option Addr) (ss : Array (Option Value)) (h0 : ¬(!ia.isEmpty && Builtin.List.listTooLong (ia.size + ib.size)) = true) (h1 : ia.size ≤ sizeLine) (h2 : ia.size + ib.size ≤ sizeLine + 1) :
    Meets (Builtin.«list.extend» ⟨[.ref l, .ref b], []⟩) (fun _ R z => z.heap.get? l = some { cls := .type "list", dict := none, data := .seq ia n, slots := #[] } ∧ z.heap.get? b = some { cls := .type "tuple", dict := dd, data := .seq ib m, slots := ss } ∧
      R (.ok (.ret Value.none)) { z with heap := z.heap.update l (Obj.mapSeq fun x => x ++ ib), toks := z.toks }) := by
  refine .of_wp fun pg wo Ar R z hz => ?_
  obtain ⟨hp, g, d, tk, os⟩ := z
  obtain ⟨hl, hb, h⟩ := hz
  have k1 := AutoSeq1.idx_int
  have k2 := AutoSeq1.sub_tuple_tuple
  have k3 := AutoSeq1.sub_list_list
  have k4 := AutoSeq1.sub_tuple_list
  have k5 := AutoSeq1.sub_list_tuple
  have k6 : (ia ++ ib).size ≤ sizeLine + 1 := by
    rw [Array.size_append]
    exact h2
  wp_walk using (PySem.wpAny_updateSeq hl rfl (hz := h1) (_hz' := k6)), wpAny_loadPart' hl, wpAny_loadPart' hb
  exact ⟨_, rfl, h⟩
end
def rExtR : V → List V → Hp → VK → Prop := fun x vs H Q => ∃ l b xs zs, x = .ref l ∧ vs = [.ref b] ∧ H l = some (.lst xs) ∧ Rw H b zs ∧ xs.length + zs.length ≤ sizeLine ∧ Q .non (upd H l (.lst (xs ++ zs)))
theorem mt_extR {X : Cx} : MtM X "list.extend" rExtR := by
  rintro pins s σ H x vs v us Q I rx rv ⟨l, b, xs, zs, rfl, rfl, hH, hB, hz, q⟩
  rcases hB with hB | hB
  · exact mt_extend pins s σ H (.ref l) [.ref b] v us Q I rx rv ⟨l, b, xs, zs, rfl, rfl, hH, hB, hz, q⟩
  · cases rx
    obtain ⟨u, rfl, ru⟩ := rv.one
    cases ru
    obtain ⟨z, its, n, r, hl, e⟩ := I.lstM hH
    obtain ⟨its2, r2, ⟨⟨c2, d2, dt2, sl2⟩, e2, hc2, m, hd2⟩, _⟩ := I.tuple (SqT.of (K := X.K) hB)
    replace hc2 : c2 = .type "tuple" := hc2
    replace hd2 : dt2 = .seq its2.toArray m := hd2
    subst hc2 hd2
    have l2 := r2.length
    have sz : its.toArray.size + its2.toArray.size ≤ sizeLine := by
      rw [List.size_toArray, List.size_toArray]
      omega
    have lg : ¬ (!its.toArray.isEmpty && Builtin.List.listTooLong (its.toArray.size + its2.toArray.size)) = true := by
      rw [notLongL sz, Bool.and_false]
      exact Bool.false_ne_true
    refine call_meets F.slot_list_extend ⟨_, e, rfl⟩ F.entry_list_extend (F.args_list_extend_2 _ _) (ext_tup l its.toArray n b its2.toArray m d2 sl2 lg (by rw [List.size_toArray]; omega) (by omega)) ⟨e, e2, .non, _, I.lset (its' := its ++ its2) hH e (by simp) (r.append r2) ?_, rfl, q⟩
    rw [List.length_append]
    omega
/-- a slice of a row is a row -/
def rSlR : V → Option Int → Option Int → Hp → VK → Prop := fun x lo hi H Q => ∃ a xs, x = .ref a ∧ Rw H a xs ∧ ∀ (H' : Hp) (t : Addr), Same H H' → Rw H' t (cutV xs lo hi) → Q (.ref t) H'
theorem sl_row {X : Cx} : SlR X rSlR := by
  intro pins s σ H x v vl vu lo hi sl Q I rx hs pl pu h
  refine SlR.or (sl_list (X := X)) (sl_tupA (X := X)) pins s σ H x v vl vu lo hi sl Q I rx hs pl pu ?_
  obtain ⟨a, xs, rfl, hr, q⟩ := h
  rcases hr with hr | hr
  · exact .inl ⟨a, xs, rfl, SqL.of hr, fun p hp => q _ p (same_upd hp) (.inl upd_same)⟩
  · refine .inr ⟨a, xs, rfl, SqT.of hr, fun e => q H a (Same.refl _) ?_, fun _ p hp => q _ p (same_upd hp) (.inr upd_same)⟩
    have c : cutV xs lo hi = xs := by
      unfold cutV
      rw [e.1, e.2, List.drop_zero, Nat.sub_zero, List.take_length]
    rw [c]
    exact .inr hr
def spFFeedR (C : Addr) : Sp := fun vs H Q _ => ∃ (p d l : Addr) (rest xs : List Int) (pl : Nat), vs = [.ref p, .ref d] ∧ FdAt C H p l rest pl ∧ Rw H d (iV xs) ∧ d ≠ l ∧ By rest ∧ NZ rest ∧ By xs ∧ rest.length + xs.length ≤ big ∧
  ∀ (H' : Hp) (l' r : Addr) (ws : List V), But p l H H' → FdAt C H' p l' (goes rest pl xs).2.1 (goes rest pl xs).2.2 → (l' = l ∨ H l' = none) → H r = none → r ≠ l' → H' r = some (.lst ws) → Tls (upd (upd H r (.lst [])) l' (.lst [])) H' (goes rest pl xs).1 ws → Q (.ref r) H'
def spUnstR : Sp := fun vs H Q _ => ∃ (d : Addr) (xs : List Int), vs = [.ref d] ∧ Rw H d (iV xs) ∧ By xs ∧ xs.length ≤ big ∧ ∀ (H' : Hp) (r : Addr) (ws : List V), Same H H' → H r = none → H' r = some (.lst ws) → Tls (upd H r (.lst [])) H' (unstr xs) ws → Q (.ref r) H'
theorem Rw.ne {H : Hp} {a p : Addr} {xs : List V} {o : HO} (h : Rw H a xs) (e : H p = some o) (n1 : ∀ ys, o ≠ .lst ys) (n2 : ∀ ys, o ≠ .tup ys) : a ≠ p := fun w => by
  rcases h with h | h
  · rw [w, e] at h
    exact n1 _ (Option.some.inj h)
  · rw [w, e] at h
    exact n2 _ (Option.some.inj h)
theorem Rw.at_ {H H' : Hp} {a : Addr} {xs : List V} (h : Rw H a xs) (k : ∀ o, H a = some o → H' a = some o) : Rw H' a xs := h.elim (fun h => .inl (k _ h)) (fun h => .inr (k _ h))
theorem Rw.some {H : Hp} {a : Addr} {xs : List V} (h : Rw H a xs) (e : H a = none) : False := by
  rcases h with h | h
  · rw [h] at e
    cases e
  · rw [h] at e
    cases e
end Tw
/-! TwE: what is no bytes; the error that is raised of it. -/
namespace Tw
open PySem PySem.Spec PyProof.Rows L2 Sb
/-- a thing out of a row: is it a byte? -/
inductive ElT (H : Hp) : V → Bool → Prop
  | int (n : Int) : ElT H (.int n) (decide (0 ≤ n) && decide (n ≤ 255))
  | bl (c : Bool) : ElT H (.bl c) false
  | non : ElT H .non false
  | str (s : Str) : ElT H (.str s) false
  | row {a : Addr} {xs : List V} : Rw H a xs → ElT H (.ref a) false
theorem ElT.same {H H' : Hp} {x : V} {b : Bool} (h : ElT H x b) (s : Same H H') : ElT H' x b := by
  cases h with
  | int n => exact .int n
  | bl c => exact .bl c
  | non => exact .non
  | str z => exact .str z
  | row h => exact .row (h.same s)
/-- a thing: is it a row of bytes? -/
inductive ByT (H : Hp) : V → Bool → Prop
  | row {a : Addr} {xs : List V} {bs : List Bool} : Rw H a xs → Paired (ElT H) xs bs → xs.length ≤ big → ByT H (.ref a) (bs.all id)
  | int (n : Int) : ByT H (.int n) false
  | bl (c : Bool) : ByT H (.bl c) false
  | non : ByT H .non false
  | str (s : Str) : ByT H (.str s) false
theorem ByT.same {H H' : Hp} {x : V} {b : Bool} (h : ByT H x b) (s : Same H H') : ByT H' x b := by
  cases h with
  | row h p l => exact .row (h.same s) (pd_mono (fun _ _ q => q.same s) p) l
  | int n => exact .int n
  | bl c => exact .bl c
  | non => exact .non
  | str z => exact .str z
def spBytesG : Sp := fun vs H Q _ => ∃ (v : V) (b : Bool), vs = [v] ∧ ByT H v b ∧ ∀ H', Same H H' → Q (.bl b) H'
/-- the error of the class at C, told why -/
def spRefuseX (C : Addr) : Sp := fun vs H Q E => ∃ (v : V) (b : Bool), vs = [v] ∧ ByT H v b ∧ (b = true → ∀ H', Same H H' → Q .non H') ∧
  (b = false → ∀ (H' : Hp) (d : Addr), Same H H' → H d = none → H' d = some (.xd [(("why" : Str), .str "wire")]) → E (.ref C) (some d) H')
def spNbInit (C : Addr) : Sp := fun vs H Q _ => ∃ (a : Addr) (y : V), vs = [.ref a, y] ∧ H a = some (exo a C none) ∧ ∀ dx, H dx = none → dx ≠ a → Q .non (upd (upd H dx (exd dx [(("why" : Str), y)])) a (exo a C (some dx)))
/-- what the top says of the error's class -/
structure NbC (K : PySem.W.Frag) (mg : Str → Option Value) (x : Str) (C fI : Addr) : Prop where
  oex : OexC K C
  g : mg x = some (.ref C)
  iC : PySem.W.findIn K (.ref C) "__init__" = some (some (.ref fI))
  tI : PySem.W.typeIn K (.ref fI) = some (.type "function")
  no : PySem.W.findIn K (.ref C) "why" = some none
end Tw
/-! TwF: calls that may raise, inside of a try or out of a def; isinstance of a caught error that has fields. -/
namespace Tw
open PySem PySem.Spec PyProof.Rows L2 Sb
section
variable {X : Cx} {CX : CXT} {k j : Nat} {f C : Addr} {fd : FuncData} {ps : List Str} {sp : Sp} {E : L2.St → XK} {x m : Str} {p pos apos : Pos} {e o : Expr} {es : List Expr} {to : TE} {t : TA}
/-- the reading of o.m(..), what it lets out told at the slots -/
def tMethA (C : Addr) (m : Str) (sp : Sp) (E : L2.St → XK) (to : TE) (t : TA) : TE := fun σ H Q => to σ H fun x H1 => ∃ a dx fs, x = .ref a ∧ H1 a = some (.ins C dx fs) ∧ fs.lookup m = none ∧ t σ H1 fun vs H2 => sp (x :: vs) H2 Q (E σ)
theorem pe_methA {pl : Sem Bool} (ho : PE X o to) (c : Cls X.K C) (hm : Meth X.K C m f) (F : FnOk X.prog X.w X.K X.mg X.base CX k f fd ps sp) (hr : Room k X.A) (hb : Binds X.K fd ps []) (hx : ∀ σ, PassesAt CX X σ (E σ)) (ha : PA X (e :: es) t)
    (hst : starEach (e :: es) X.env = (false, eval e X.env) :: starEach es X.env := by rfl) (hpl : (backTo pos (starEach es X.env)).any (·.1) = false := by rfl)
    (ht : eval (.Call (.Attribute o m apos) (e :: es) [] pos) X.env = (do
      let ov ← eval o X.env
      standAt apos.atName
      let (f, first) ← holding [ov] (getMethod ov m pl)
      callWith pos f first (backTo pos (starEach (e :: es) X.env)) (backToKw pos (keywordEach [] X.env))) := by rfl) :
    PE X (.Call (.Attribute o m apos) (e :: es) [] pos) (tMethA C m sp E to t) := ⟨fun pins s σ H Q I h =>
  PySem.W.methodCall_KW (pl := pl) (thn (ho.run pins s σ H _ I h) fun u s1 z => by
    obtain ⟨y, H1, I1, ry, a, dx, fs, rfl, ea, l, q⟩ := z
    obtain rfl : u = Value.ref a := ry
    exact getmeth_ok I1 ea c hm l (PySem.W.callWith_K (first := [.ref a]) (h₀ := X.base) I.ok.mod.kin hm.kp (thn (ha.run pos pins s1 σ H1 _ I1 q) fun us s2 z2 => by
      obtain ⟨vs, H2, I2, r, q2⟩ := z2
      exact ⟨I2.kIn, run_fnS (us := .ref a :: us) (vs := .ref a :: vs) F hr hb (hx σ) I2 (.cons rfl r) q2⟩) hst hpl)) ht⟩
/-- a def of the module that may raise -/
structure CalX (P : Program) (w : World) (K : PySem.W.Frag) (mg : Str → Option Value) (base : Heap) (k : Nat) (x : Str) (ps : List Str) (sp : Sp) : Prop where
  ex : ∃ (f : Addr) (fd : FuncData), FnOk P w K mg base (L2.CX P w) k f fd ps sp ∧ mg x = some (.ref f) ∧ PySem.W.keepIn K (.ref f) = true ∧ Binds K fd ps []
theorem pe_calX {W : WX} (c : CalX X.prog X.w X.K X.mg X.base k x ps sp) (hr : Room j X.A) (hk : k ≤ j) (hg : Gl X x) (tk : Takes X W) (ha : PA X (e :: es) t)
    (hdb : (x == ("__debug__" : Str)) = false := by decide) (he : starEach (e :: es) X.env = (false, eval e X.env) :: starEach es X.env := by rfl) (hpl : (backTo pos (starEach es X.env)).any (·.1) = false := by rfl) :
    PE X (.Call (.Name x p) (e :: es) [] pos) (tCallS sp (WE W) t) := by
  obtain ⟨f, fd, F, hm, kp, b⟩ := c.ex
  exact pe_callS F (hr.mono hk) hg hm kp b (fun σ => passAt tk σ) ha hdb he hpl
theorem calX_mk {P : Program} {w : World} {K : PySem.W.Frag} {mg : Str → Option Value} {base h : Heap} {st : Stmt} (D : DefIn K x st) (X : K.In h) (G : h.Ns mainGlobals mg)
    (b : ∀ (kV doc pm : Value) (an : Option Addr) (cdv ct : Value) (us : List Value), us.length = ps.length → bindArgs (PySem.W.fnOf x x (defArgs st) (defBody st) (defScope st) .none kV doc pm an cdv ct) ⟨us, []⟩ = pure (ps.zip us))
    (ok : ∀ (f : Addr) (fd : FuncData), Fun K x x st f fd → FnOk P w K mg base (L2.CX P w) k f fd ps sp) : CalX P w K mg base k x ps sp := by
  obtain ⟨f, oc, od, an, osl, kV, dc, pm, cd, ct, a, l, c, kp⟩ := D
  have F := fun_mk (st := st) l c kp
  exact ⟨f, _, ok f _ F, PySem.W.mg_of X G a, kp, F.binds b⟩
/-- a method that may raise -/
structure MCalX (P : Program) (w : World) (K : PySem.W.Frag) (mg : Str → Option Value) (base : Heap) (C : Addr) (k : Nat) (m : Str) (ps : List Str) (sp : Sp) : Prop where
  ex : ∃ (f : Addr) (fd : FuncData), Meth K C m f ∧ FnOk P w K mg base (L2.CX P w) k f fd ps sp ∧ Binds K fd ps []
theorem mcalX_mk {P : Program} {w : World} {K : PySem.W.Frag} {mg : Str → Option Value} {base : Heap} {q : Str} {st : Stmt} (D : MethIn K C m q st) (b : ∀ (kV doc pm : Value) (an : Option Addr) (cdv ct : Value) (us : List Value), us.length = ps.length → bindArgs (PySem.W.fnOf m q (defArgs st) (defBody st) (defScope st) .none kV doc pm an cdv ct) ⟨us, []⟩ = pure (ps.zip us))
    (ok : ∀ (f : Addr) (fd : FuncData), Fun K m q st f fd → FnOk P w K mg base (L2.CX P w) k f fd ps sp) : MCalX P w K mg base C k m ps sp := by
  obtain ⟨f, oc, od, an, osl, kV, dc, pm, cd, ct, a, i, l, c, kp⟩ := D
  have F := fun_mk (st := st) l c kp
  exact ⟨f, _, ⟨a, i, kp⟩, ok f _ F, F.binds b⟩
theorem pe_mcalX {W : WX} {pl : Sem Bool} (M : MCalX X.prog X.w X.K X.mg X.base C k m ps sp) (c : Cls X.K C) (hr : Room j X.A) (hk : k ≤ j) (tk : Takes X W) (ho : PE X o to) (ha : PA X (e :: es) t)
    (hst : starEach (e :: es) X.env = (false, eval e X.env) :: starEach es X.env := by rfl) (hpl : (backTo pos (starEach es X.env)).any (·.1) = false := by rfl)
    (ht : eval (.Call (.Attribute o m apos) (e :: es) [] pos) X.env = (do
      let ov ← eval o X.env
      standAt apos.atName
      let (f, first) ← holding [ov] (getMethod ov m pl)
      callWith pos f first (backTo pos (starEach (e :: es) X.env)) (backToKw pos (keywordEach [] X.env))) := by rfl) : PE X (.Call (.Attribute o m apos) (e :: es) [] pos) (tMethA C m sp (WE W) to t) := by
  obtain ⟨f, fd, hm, F, b⟩ := M.ex
  exact pe_methA ho c hm F (hr.mono hk) b (fun σ => passAt tk σ) ha hst hpl ht
end
/-- isinstance(e, c), e the error that the suite holds: of the class at D, its fields in a dict -/
def rIsX (K : PySem.W.Frag) (D a : Addr) (cls : Value) (d : Option Addr) : List V → Hp → VK → Prop := fun xs H Q => ∃ (c : V) (cv : Value) (b : Bool) (dd : Addr) (fs : List (Str × V)), xs = [.ref a, c] ∧ cls = .ref D ∧ d = some dd ∧ H dd = some (.xd fs) ∧ (∀ u, RelV c u → u = cv) ∧ PySem.W.kitOne K (.ref D) cv = some b ∧ Q (.bl b) H
theorem call_isX {X : Cx} {a D : Addr} {oe : Obj} {cls : Value} {d : Option Addr} {pn : List (Addr × Obj)} (C : ExcC X.K D) (hz : Zc cls d oe) (hf : ∃ vs, oe.data = .fields vs) : CallR (X.suite a ((a, oe) :: pn)) (.builtin "isinstance") (rIsX X.K D a cls d) := by
  rintro pins s σ H xs us Q I r ⟨c, cv, b, dd, fs, rfl, rfl, rfl, hdd, hcv, e, q⟩
  obtain ⟨u1, u2, rfl, rx, rt⟩ : ∃ u1 u2, us = [u1, u2] ∧ RelV (.ref a) u1 ∧ RelV c u2 := by
    cases r with
    | cons rx rr =>
      cases rr with
      | cons rt rr =>
        cases rr
        exact ⟨_, _, rfl, rx, rt⟩
  cases rx
  obtain rfl := hcv _ rt
  have at_ : s.heap.get? a = some oe := (I.pin (a, oe) (List.mem_append_left _ List.mem_cons_self)).1
  have hx : ObjOk X.prog X.w H s.heap dd (.xd fs) := I.hok dd _ hdd
  obtain ⟨mA, hns, _⟩ := hx
  obtain ⟨od, ho, _⟩ := lookIn_ns hns
  obtain ⟨vs, hv⟩ := hf
  have J : PySem.W.InstAt s.heap a oe D (some od) := ⟨at_, hz.1, by unfold PySem.W.notCls; rw [hv] <;> rfl, by rw [hz.2]; exact ho⟩
  have hcl : (PySem.W.clsIn X.K D).isSome = true := by
    obtain ⟨cd, hc, _⟩ := PySem.W.any_some C.hd
    rw [hc]
    rfl
  exact PySem.W.kia_one (PySem.W.kitx_exc hcl C.hg C.hk C.hs C.ha C.hn C.ht C.hm) I.kIn J e (fun z => nomatch z) fun tk => ⟨.bl b, H, I.kept (t' := tk) fun _ _ z => z, rfl, q⟩
end Tw
namespace Tw
open PySem PySem.Spec PyProof.Rows L2 Sb
theorem oexC_mk {K : PySem.W.Frag} {C : Addr} {nm q : Str} {N : Addr} {bs bm : List Value} {sn : List Str} {sub : List Value} {ab : Bool} {col : Option Bool} {dd : Option Addr} {k0 k1 k2 k3 k5 : Option Value}
    (ox : K.lookup C = some (excClassObj nm q C N bs bm true sn sub ab col dd k0 k1 k2 k3 k5 "ValueError.__new__")) (orf : PySem.HandSPX.refsVE bm = true) (sa : PySem.W.findIn K (.ref C) "__setattr__" = some (some (.builtin "object.__setattr__"))) (ex : PySem.W.subIn K (.ref C) (.type "BaseException") = some true)
    (ty : PySem.W.typeIn K (.ref C) = some (.type "type")) (kC : PySem.W.keepIn K (.ref C) = true) : OexC K C := ⟨⟨nm, q, N, bs, bm, sn, sub, ab, col, dd, k0, k1, k2, k3, k5, ox, orf⟩, sa, ex, ty, kC⟩
end Tw
namespace Tw
open PySem PySem.Spec PyProof.Rows L2 Sb
theorem kit_ref {K : PySem.W.Frag} {B S : Addr} (h2 : PySem.W.isClsIn K S = true) (h3 : PySem.W.typeIn K (.ref S) = some (.type "type")) (h4 : PySem.W.subIn K (.ref B) (.ref S) = some true) : PySem.W.kitOne K (.ref B) (.ref S) = some true := by
  unfold PySem.W.kitOne
  split
  · rfl
  · have h2' : (PySem.W.clsIn K S).isSome = true := h2
    show (if ((PySem.W.clsIn K S).isSome && PySem.W.typeIn K (.ref S) == some (.type "type")) = true then PySem.W.subIn K (.ref B) (.ref S) else none) = some true
    rw [if_pos (by rw [h2', h3] <;> rfl)]
    exact h4
theorem kit_bltn {K : PySem.W.Frag} {B : Addr} {t : String} (h : PySem.W.kitMeta t = true) (h4 : PySem.W.subIn K (.ref B) (.type t) = some true) : PySem.W.kitOne K (.ref B) (.type t) = some true := by
  unfold PySem.W.kitOne
  split
  · rfl
  · show (if PySem.W.kitMeta t = true then PySem.W.subIn K (.ref B) (.type t) else none) = some true
    rw [if_pos h]
    exact h4
theorem exm_of {K : PySem.W.Frag} {B S : Addr} (h1 : PySem.W.subIn K (.ref S) (.type "BaseException") = some true) (h2 : PySem.W.isClsIn K S = true) (h3 : PySem.W.typeIn K (.ref S) = some (.type "type")) (h4 : PySem.W.subIn K (.ref B) (.ref S) = some true) : PySem.W.exmOne K (.ref B) (.ref S) = some true := by
  have h2' : (PySem.W.clsIn K S).isSome = true := h2
  show (if (PySem.W.subIn K (.ref S) (.type "BaseException") == some true) = true then (if ((PySem.W.clsIn K S).isSome && PySem.W.typeIn K (.ref S) == some (.type "type")) = true then PySem.W.subIn K (.ref B) (.ref S) else none) else none) = some true
  rw [if_pos (by rw [h1] <;> rfl), if_pos (by rw [h2', h3] <;> rfl)]
  exact h4
end Tw
set_option maxHeartbeats 2000000
/-! TwLam: a lambda of one parameter handed to a def, which calls it. -/
namespace Tw
open PySem PySem.Spec PyProof.Rows L2 Sb LamX
/-! ### what a function made in X captures -/
/-- each captured name is a cell of the maker's -/
def Caps (outer names : List (Str × NameKind)) : Prop := ∀ y ∈ names, y.2 = .free → outer.lookup y.1 = some .cell ∨ outer.lookup y.1 = some .free
theorem Caps.cells {X : Cx} {names : List (Str × NameKind)} (C : Caps X.env.scope.names names) (ok : X.Ok) (y : Str × NameKind) (hy : y ∈ names) (e : y.2 = .free) : ∃ c, X.env.cells.lookup y.1 = some c :=
  ok.has y.1 (C y hy e)
theorem Caps.sub {X : Cx} {names : List (Str × NameKind)} (C : Caps X.env.scope.names names) (ok : X.Ok) {y : Str} {c : Addr} (e : (cloFrom X.env.cells names []).lookup y = some c) : X.env.cells.lookup y = some c := by
  cases cloFrom_mem (PySem.mem_of_lookup e) with
  | inl m => cases m
  | inr m =>
    obtain ⟨d, k⟩ := C.cells ok (y, .free) m.1 rfl
    have k : X.env.cells.lookup y = some d := k
    have : c = d := by simpa [k] using m.2
    exact this ▸ k
theorem Caps.got {X : Cx} {names : List (Str × NameKind)} (C : Caps X.env.scope.names names) (ok : X.Ok) {y : Str} (e : names.lookup y = some .free) : ∃ c, (cloFrom X.env.cells names []).lookup y = some c ∧ X.env.cells.lookup y = some c :=
  let ⟨c, q⟩ := mem_lookup (cloFrom_has (cells := X.env.cells) (acc := []) (PySem.mem_of_lookup e))
  ⟨c, q, C.sub ok q⟩
/-- what the maker knows of a captured name stands in its cell -/
theorem Caps.val {X : Cx} {names : List (Str × NameKind)} {pins : List (Addr × Obj)} {σ : L2.St} {H : Hp} {s : Shared} (C : Caps X.env.scope.names names) (I : Inv X pins σ H s) {i : Nat} {y : Str} {v : V} (e : names.lookup y = some .free) (hN : X.N[i]? = some y) (hs : σ[i]? = some (some v)) :
    ∃ u c, RelV v u ∧ (cloFrom X.env.cells names []).lookup y = some c ∧ H c = none ∧ s.heap.IsCell c (some u) := by
  have no : X.env.kindOf y ≠ some .local := fun z => by
    have z : X.env.scope.names.lookup y = some .local := z
    cases C _ (PySem.mem_of_lookup e) rfl with
    | inl k => exact absurd (z.symm.trans k) (by simp)
    | inr k => exact absurd (z.symm.trans k) (by simp)
  obtain ⟨c, k1, k2⟩ := C.got I.ok e
  obtain ⟨m, _, known⟩ := I.loc
  obtain ⟨u, r, at_⟩ := known i y v hN hs ((C _ (PySem.mem_of_lookup e) rfl).elim (.inr ∘ .inl) (.inr ∘ .inr))
  cases at_ with
  | inl l => exact absurd l.1 no
  | inr l =>
    obtain ⟨_, d, k3, k4⟩ := l
    cases k2.symm.trans k3
    exact ⟨u, c, r, k1, I.freeC y c k2, k4⟩
/-- one parameter p, no other name of its own -/
structure LamS1 (sc scope : Scope) (p : Str) : Prop where
  fn : scope.kind = .function ∧ scope.isCoroutine = false ∧ scope.isGenerator = false
  own : ∀ y ∈ scope.names, y.2 ≠ .cell ∧ (y.2 = .local → y.1 = p)
  par : scope.names.lookup p = some .local
  caps : Caps sc.names scope.names
/-- the context of the lambda's body: the maker's names, and behind them the parameter -/
def lamCx1 (X : Cx) (A : Around) (outer : List Env) (s : Shared) (H : Hp) (E : XK) (scope : Scope) (f c' : Addr) (p : Str) : Cx :=
  { lamCx X A outer s H E scope f c' with N := X.N ++ [p] }
section
variable {X : Cx} {pins : List (Addr × Obj)} {σ : L2.St} {H HZ : Hp} {s s1 : Shared}
/-- a cell that stood there holds the same behind what a call may touch -/
theorem cell_stays {h₁ : Heap} {fs : List Addr} {c : Addr} {v : Option Value} (un : Un fs [] H HZ s.heap s1.heap) (kp : ∀ b o, s1.heap.get? b = some o → h₁.get? b = some o) (n : H c = none) (z : s.heap.IsCell c v) : HZ c = none ∧ h₁.IsCell c v :=
  let ⟨o, ho, hd⟩ := z
  let ⟨_, q⟩ := un.any ho n List.not_mem_nil
  ⟨un.free c o ho n List.not_mem_nil, _, kp _ _ q, hd⟩
theorem lam_ok1 {A : Around} {outer : List Env} {E : XK} {scope : Scope} {f c' : Addr} {p : Str} (I : Inv X pins σ H s) (L : LamS1 X.env.scope scope p) (e0 : Env0 X.prog X.w X.K X.mg X.base A outer s1 HZ) (hd : A.handled = none) : (lamCx1 X A outer s1 HZ E scope f c' p).Ok where
  mod := e0.mod
  kind := L.fn.1
  glob := rfl
  blt := rfl
  above := Nat.le_refl _
  inj := fun y z c h1 h2 => I.ok.inj y z c (L.caps.sub I.ok h1) (L.caps.sub I.ok h2)
  has := fun y hy => by
    cases hy with
    | inl k => exact absurd rfl (L.own (y, .cell) (PySem.mem_of_lookup k)).1
    | inr k => exact let ⟨c, q, _⟩ := L.caps.got I.ok k; ⟨c, q⟩
  cab := fun _ _ z => absurd z Bool.false_ne_true
  hd := fun _ => hd
  frames := Around.frames_deeper e0.frames
  stk := Or.inr ⟨rfl, rfl⟩
  exf := fun _ z => nomatch (show _ ∈ ([] : List Addr) from z)
  bs := e0.bs
  bsz := e0.bsz
  noex := fun _ _ _ => List.not_mem_nil
  exfs := fun _ z => nomatch (show _ ∈ ([] : List Addr) from z)
  funs := e0.funs
  frf := e0.frf
theorem lam_start1 {A : Around} {outer : List Env} {E : XK} {scope : Scope} {f c' : Addr} {h₁ : Heap} {tk : Nat} {p : Str} {v : V} {u : Value} (I : Inv X pins σ H s) (L : LamS1 X.env.scope scope p) (hp : p ∉ X.N) (rv : RelV v u) (e0 : Env0 X.prog X.w X.K X.mg X.base A outer s1 HZ) (hd : A.handled = none)
    (un : Un (frs X.stack) [] H HZ s.heap s1.heap) (hns : h₁.Ns s1.heap.objs.size fun y => ([(p, u)] : List (Str × Value)).reverse.lookup y) (kp : ∀ b o, s1.heap.get? b = some o → h₁.get? b = some o) :
    Inv (lamCx1 X A outer s1 HZ E scope f c' p) [] (σ ++ [some v]) HZ { s1 with heap := h₁, toks := tk } where
  ok := lam_ok1 I L e0 hd
  os := rfl
  bare := e0.bare
  base := Un.kept kp
  loc := ⟨_, hns, fun i y w hN hs vis => by
    have hN : (X.N ++ [p])[i]? = some y := hN
    rcases Nat.lt_or_ge i X.N.length with hi | hi
    · rw [List.getElem?_append_left hi] at hN
      rw [List.getElem?_append_left (I.len ▸ hi)] at hs
      have hf : scope.names.lookup y = some .free := by
        rcases (show Vis scope y from vis) with k | k | k
        · exact absurd ((L.own (y, .local) (PySem.mem_of_lookup k)).2 rfl ▸ List.mem_of_getElem? hN) hp
        · exact absurd rfl (L.own (y, .cell) (PySem.mem_of_lookup k)).1
        · exact k
      obtain ⟨u', c, r, k1, k2, k3⟩ := L.caps.val I hf hN hs
      exact ⟨u', r, .inr ⟨.inr hf, c, k1, (cell_stays un kp k2 k3).2⟩⟩
    · have h0 : i - X.N.length = 0 := by
        have := (List.getElem?_eq_some_iff.mp hN).1
        rw [List.length_append] at this
        simp at this
        omega
      rw [List.getElem?_append_right hi, h0] at hN
      rw [List.getElem?_append_right (by rw [I.len]; exact hi), I.len, h0] at hs
      cases hN
      cases hs
      exact ⟨u, rv, .inl ⟨L.par, by simp⟩⟩⟩
  cell := fun y c e => let ⟨w, z⟩ := I.cell y c (L.caps.sub I.ok e)
    ⟨w, (cell_stays un kp (I.freeC y c (L.caps.sub I.ok e)) z).2⟩
  free := e0.hok.fresh (Nat.le_refl _)
  freeC := fun y c e => let ⟨_, z⟩ := I.cell y c (L.caps.sub I.ok e)
    (cell_stays un kp (I.freeC y c (L.caps.sub I.ok e)) z).1
  pin := fun q hq => nomatch (show q ∈ ([] : List (Addr × Obj)) from hq)
  hok := e0.hok.kept kp
  len := by
    show (σ ++ [some v]).length = (X.N ++ [p]).length
    rw [List.length_append, List.length_append, I.len] <;> rfl
/-- the lambda at f, called with u from the frames outer -/
theorem lam_run {A : Around} {outer : List Env} {f c' : Addr} {pm ctv : Value} {params : Arguments} {body : Expr} {scope : Scope} {k : Nat} {pr : Str} {E : XK} {t : TE} {v : V} {u : Value} {H2 : Hp} {s2 : Shared} {Q : VK}
    (I : Inv X pins σ H s) (L : LamS1 X.env.scope scope pr) (hpr : pr ∉ X.N) (un : Un (frs X.stack) [] H H2 s.heap s2.heap) (nl : s2.heap.NoLimit) (e0 : Env0 X.prog X.w X.K X.mg X.base A outer s2 H2) (hr : Room (k + 1) A)
    (hf : s2.heap.get? f = some (PySem.W.kla_obj "<lambda>" (X.env.qual ++ "<lambda>") params body scope (cloFrom X.env.cells scope.names []) pm c' ctv)) (hc : H2 c' = some (CodeO c' (X.env.qual ++ "<lambda>")))
    (hbind : bindArgs (PySem.W.kla_fn "<lambda>" (X.env.qual ++ "<lambda>") params body scope (cloFrom X.env.cells scope.names []) pm (.ref c') ctv) ⟨[u], []⟩ = pure [(pr, u)]) (rv : RelV v u)
    (hbody : Room k (A.deeper (lamEnv X scope s2.heap.objs.size f c')) → PE (lamCx1 X A outer s2 H2 E scope f c' pr) body t) (ht : t (σ ++ [some v]) H2 Q) :
    codeAny (model X.prog X.w) A (.call (.ref f) ⟨[u], []⟩) (CR (L2.CX X.prog X.w) outer X.prog X.w H2 s2 Q E) s2 := by
  have known : ∃ (oc : Obj) (vs : Array Value) (t : Tok), s2.heap.get? c' = some oc ∧ oc.data = .fields vs ∧ vs[1]? = some (.str (X.env.qual ++ "<lambda>") t) := (e0.hok c' _ hc).1
  obtain ⟨oc, vs, tq, k1, k2, k3⟩ := known
  apply PySem.W.kla_callFunE hr.depth hf rfl L.fn.2.1 L.fn.2.2 rfl ⟨c', oc, vs, tq, rfl, k1, k2, k3⟩
  rw [hbind]
  apply wpAny_pure
  refine wpAny_newFunctionEnv (fun y hy => (L.own y hy).1) (fun y hy => by rw [List.mem_singleton.mp hy]; exact L.par) (fun h₁ hns hsb => ?_) L.fn.1
  refine ⟨nl.fresh _ hsb, ?_⟩
  have old : ∀ b o, s2.heap.get? b = some o → h₁.get? b = some o := fun b o e => hsb.extBut b o (Nat.ne_of_lt (Heap.lt_size e)) (Heap.get?_push_of_some _ e)
  have J := lam_start1 (E := E) (f := f) (c' := c') (tk := s2.toks + ([(pr, u)] : List (Str × Value)).length) I L hpr rv e0 hr.hd un hns old
  exact PySem.W.kla_codeExpr (wpAny_mono ((hbody (hr.deeper _)).run [] _ _ H2 Q J ht) (fun _ _ ⟨w, H', Z, r, q⟩ => ⟨w, H', Z.os, Z.bare, Z.base, Z.hok, r, q⟩) fun _ _ x => x)
/-- a(e), in the def that got the lambda as a: Z is that def's context, entered at s -/
theorem pe_act1 {CXg : CXT} {Eg : XK} {Ng : List Str} {qg : Str} {sg : Scope} {g f c' : Addr} {cdg pm ctv : Value} {params : Arguments} {body : Expr} {scope : Scope} {k i : Nat} {a pr : Str} {pn : List (Addr × Obj)} {xe : Value → Shared → Prop} {W : WX} {tb : XK → TE} {p1 p2 : Pos} {e : Expr} {t : TA} {Z : Cx}
    (hZ : Z = (cxOf CXg X.prog X.w X.K X.mg X.base Ng qg sg g cdg X.A X.stack s H Eg).tr pn xe)
    (I : Inv X pins σ H s) (L : LamS1 X.env.scope scope pr) (hpr : pr ∉ X.N) (hf : s.heap.get? f = some (PySem.W.kla_obj "<lambda>" (X.env.qual ++ "<lambda>") params body scope (cloFrom X.env.cells scope.names []) pm c' ctv)) (hfn : H f = none) (hfr : f ∉ frs X.stack)
    (hbind : ∀ u, bindArgs (PySem.W.kla_fn "<lambda>" (X.env.qual ++ "<lambda>") params body scope (cloFrom X.env.cells scope.names []) pm (.ref c') ctv) ⟨[u], []⟩ = pure [(pr, u)])
    (tk : Takes Z W) (hr : Room (k + 1) (X.A.deeper (envOfC qg sg s.heap.objs.size g cdg)))
    (hbody : ∀ (A : Around) (outer : List Env) (s : Shared) (H : Hp) (E : XK), Room k (A.deeper (lamEnv X scope s.heap.objs.size f c')) → PE (lamCx1 X A outer s H E scope f c' pr) body (tb E))
    (ha : PA Z [e] t) (hN : Ng[i]? = some a) (hv : Vis sg a) (h1 : (a == ("__debug__" : Str)) = false) (h2 : (a == ("__classdict__" : Str)) = false) (hst : starEach [e] Z.env = (false, eval e Z.env) :: starEach [] Z.env) :
    PE Z (.Call (.Name a p1) [e] [] p2) (fun σZ HZ Q => σZ[i]? = some (some (.ref f)) ∧ t σZ HZ fun vs H2 => ∃ v, vs = [v] ∧ H2 c' = some (CodeO c' (X.env.qual ++ "<lambda>")) ∧ tb (WE W σZ) (σ ++ [some v]) H2 Q) := by
  subst hZ
  have stays : ∀ {pz σz Hz sz}, Inv ((cxOf CXg X.prog X.w X.K X.mg X.base Ng qg sg g cdg X.A X.stack s H Eg).tr pn xe) pz σz Hz sz → sz.heap.get? f = some (PySem.W.kla_obj "<lambda>" (X.env.qual ++ "<lambda>") params body scope (cloFrom X.env.cells scope.names []) pm c' ctv) :=
    fun J => J.base.keep f _ hf hfn hfr List.not_mem_nil
  constructor
  intro pz sz σz Hz Q J ⟨hs, ht⟩
  refine wpAny_Call_Name_kw (thn ((pe_var (pos := p1) (i := i) hN hv h1 h2).run pz sz σz Hz (fun w H1 => w = .ref f ∧ H1 = Hz) J ⟨.ref f, hs, rfl, rfl⟩) ?_)
  rintro _ s1 ⟨_, _, J1, r1, rfl, rfl⟩
  cases r1
  refine PySem.W.callWith_F ⟨_, _, _, _, stays J1⟩ (thn (ha.run p2 pz s1 σz _ _ J1 ht) ?_) hst
  rintro us s2 ⟨_, H2, J2, rvs, v, rfl, hc, hb⟩
  obtain ⟨u, rfl, rv⟩ : ∃ u, us = [u] ∧ RelV v u := by
    cases rvs with
    | cons r z =>
      cases z
      exact ⟨_, rfl, r⟩
  have go := lam_run (Q := Q) (E := WE W σz) I L hpr J2.base J2.nolimit J2.env0 hr (stays J2) hc (hbind u) rv (hbody _ _ s2 H2 (WE W σz)) hb
  exact ⟨⟨_, _, _, _, stays J2⟩, wpAny_call (codeAny_mono go fun
    | .error x, s', q => passAt tk σz pz H2 s2 x s' J2 q
    | .ok (.ret _), _, q => J2.after q
    | .ok .next, _, q => q.elim
    | .ok .brk, _, q => q.elim
    | .ok .cont, _, q => q.elim)⟩
/-- f, made and known to nothing, is pinned -/
theorem pin_lam (I : Inv X pins σ H s) {f : Addr} {o : Obj} (hst : ∀ b, b = X.env.locals ∨ b ∈ X.fs → b ∈ frs X.stack) (hf : s.heap.get? f = some o) (hfn : H f = none) (hfr : f ∉ frs X.stack) (hc : ∀ v, o.data ≠ .cell v) : Inv X ((f, o) :: pins) σ H s := by
  apply I.pins_of
  intro q m
  cases m with
  | head => exact ⟨hf, hfn, fun z => hfr (hst _ (.inl z)), fun z => hfr (hst _ (.inr z)), hc⟩
  | tail _ m => exact I.pin q (List.mem_append_right _ m)
end
/-- what the def's caller a(b) reads: it got f as a -/
def tAct (f : Addr) (W : WX) (tl : V → XK → Hp → VK → Prop) : TE := fun σZ HZ Q => σZ[0]? = some (some (.ref f)) ∧ ∃ v, σZ[1]? = some (some v) ∧ tl v (WE W σZ) HZ Q
/-- a context in which a(b) is read so -/
def ActOk (Z : Cx) (a b : Str) (f : Addr) (tl : V → XK → Hp → VK → Prop) : Prop :=
  ∀ (W : WX) (pn : List (Addr × Obj)) (xe : Value → Shared → Prop) (p1 p2 p3 : Pos), Takes (Z.tr pn xe) W → PE (Z.tr pn xe) (.Call (.Name a p1) [.Name b p3] [] p2) (tAct f W tl)
/-- the def x(a, b) that calls a(b): TT is what it makes of a's reading, of what it was handed as b -/
def GivesD (P : Program) (w : World) (K : PySem.W.Frag) (mg : Str → Option Value) (base : Heap) (Ng : List Str) (x : Str) (sg : Scope) (bg : List Stmt) (a b : Str) (TT : (V → XK → Hp → VK → Prop) → V → Hp → VK → Prop) : Prop :=
  ∀ (CX : CXT) (EX : XK) (A : Around) (outer : List Env) (g : Addr) (cdg : Value) (f : Addr) (hv : V) (s : Shared) (H : Hp) (Q : VK) (tl : V → XK → Hp → VK → Prop),
    ActOk (cxOf CX P w K mg base Ng x sg g cdg A outer s H EX) a b f tl → TT tl hv H Q →
    ∃ t, PSs (cxOf CX P w K mg base Ng x sg g cdg A outer s H EX).nox bg t ∧ t { nx := fun _ H' => Q .non H', rt := Q } (L2.start Ng [.ref f, hv]) H
def tLam1 (T : List (Addr × Str)) (q : Str) (j : Nat) (TT : (V → XK → Hp → VK → Prop) → V → Hp → VK → Prop) (t : XK → TE) : TE := fun σ H Q =>
  Tabs T H ∧ ∃ hv, σ[j]? = some (some hv) ∧ ∀ (c' : Addr) (H1 : Hp), ExtN H H1 → Tabs T H1 → H1 c' = some (CodeO c' q) → TT (fun v E H' Q' => H' c' = some (CodeO c' q) ∧ t E (σ ++ [some v]) H' Q') hv H1 Q
section
variable {X : Cx}
/-- x(lambda pr: body, y) -/
theorem pe_lamcall1 {T : List (Addr × Str)} {TT : (V → XK → Hp → VK → Prop) → V → Hp → VK → Prop} {x a b y pr : Str} {g c P : Addr} {k j : Nat} {pg : Arguments} {bg : List Stmt} {sg : Scope} {dV kV doc pm cdv ct oc : Value} {an od : Option Addr} {osl : Array (Option Value)} {Ng : List Str}
    {params : Arguments} {body : Expr} {scope : Scope} {t : XK → TE} {p lpos py pos : Pos} (hg : Gl X x) (hm : X.mg x = some (.ref g)) (hk : PySem.W.keepIn X.K (.ref g) = true)
    (lk : X.K.lookup g = some ⟨oc, od, .func (PySem.W.fnOf x x pg bg sg dV kV doc pm an cdv ct), osl⟩) (hcg : PySem.W.codeIn X.K cdv x = true) (hb : L2.Binds X.K (PySem.W.fnOf x x pg bg sg dV kV doc pm an cdv ct) [a, b] []) (Sg : FnScope Ng [a, b] sg) (hNa : Ng[0]? = some a) (hNb : Ng[1]? = some b) (hva : Vis sg a) (hvb : Vis sg b)
    (hG : GivesD X.prog X.w X.K X.mg X.base Ng x sg bg a b TT) (hNy : X.N[j]? = some y) (hvy : Vis X.env.scope y)
    (TB : TabB X.base X.mg c P) (hcode : X.env.code = .ref c) (hmT : (P, X.env.qual ++ "<lambda>") ∈ T) (hu : ∀ p ∈ T, p.1 = P → p.2 = X.env.qual ++ "<lambda>") (hr : Room (k + 2) X.A) (L : LamS1 X.env.scope scope pr) (hpr : pr ∉ X.N) (hdef : defaultsOf params X.env = ([], []))
    (hst : ∀ b, b = X.env.locals ∨ b ∈ X.fs → b ∈ frs X.stack)
    (hbind : ∀ (q : Str) (cl : List (Str × Addr)) (pm cv ctv u : Value), bindArgs (PySem.W.kla_fn "<lambda>" q params body scope cl pm cv ctv) ⟨[u], []⟩ = pure [(pr, u)])
    (hbody : ∀ (A : Around) (outer : List Env) (s : Shared) (H : Hp) (E : XK) (f c' : Addr), Room k (A.deeper (lamEnv X scope s.heap.objs.size f c')) → PE (lamCx1 X A outer s H E scope f c' pr) body (t E))
    (hdb : (x == ("__debug__" : Str)) = false := by decide) (n1 : (a == ("__debug__" : Str)) = false := by decide) (n2 : (a == ("__classdict__" : Str)) = false := by decide)
    (n3 : (b == ("__debug__" : Str)) = false := by decide) (n4 : (b == ("__classdict__" : Str)) = false := by decide) (n5 : (y == ("__debug__" : Str)) = false := by decide) (n6 : (y == ("__classdict__" : Str)) = false := by decide) :
    PE X (.Call (.Name x p) [.Lambda params body scope lpos, .Name y py] [] pos) (tLam1 T (X.env.qual ++ "<lambda>") j TT t) := by
  constructor
  intro pins s σ H Q I ⟨hT, hv, hy, h⟩
  apply wpAny_Call_Name_kw
  refine ld_glob I hg hm ?_ hdb
  apply PySem.W.callWith_K (h₀ := X.base) I.mod.kin hk (he := rfl) (hplain := rfl)
  show wpAny _ _ (spliced ((false, eval (.Lambda params body scope lpos) X.env) :: backTo pos (starEach [.Name y py] X.env))) _ _ s
  apply Calls.spliced_cons
  apply lam_make2 I TB hcode hmT hu hT hdef (L.caps.cells I.ok)
  intro f c' _ _ H1 s' I1 eN T1 hf hfn hfr hco
  have P1 := pin_lam I1 hst hf hfn hfr (fun v z => nomatch z)
  refine thn ((pa_cons (pe_var (pos := py) hNy hvy n5 n6) pa_nil).run pos _ s' σ H1 (fun vs H2 => vs = [hv] ∧ H2 = H1) P1 ⟨hv, hy, rfl, rfl⟩) ?_
  rintro us s2 ⟨_, H2, P2, rvs, rfl, rfl⟩
  obtain ⟨u, rfl, ru⟩ : ∃ u, us = [u] ∧ RelV hv u := by
    cases rvs with
    | cons r z =>
      cases z
      exact ⟨_, rfl, r⟩
  have I2 := ClX.unpin P2
  have act : ActOk (cxOf C8.CX0 X.prog X.w X.K X.mg X.base Ng x sg g cdv X.A X.stack s2 H2 C8.E0) a b f (fun v E H' Q' => H' c' = some (CodeO c' (X.env.qual ++ "<lambda>")) ∧ t E (σ ++ [some v]) H' Q') ∨ ¬ Room (k + 1) (X.A.deeper (envOfC x sg s2.heap.objs.size g cdv)) := by
    by_cases hr' : Room (k + 1) (X.A.deeper (envOfC x sg s2.heap.objs.size g cdv))
    · refine .inl fun W pn xe p1 p2 p3 tk => ⟨fun pz sz σz Hz Q' J hz => ?_⟩
      obtain ⟨z1, v, z3, z2, z4⟩ := hz
      exact (pe_act1 (i := 0) rfl I2 L hpr (ClX.pin_at P2) (ClX.pin_un P2) hfr (hbind _ _ _ _ _) tk hr' (fun A o s H E r => hbody A o s H E f c' r) (pa_cons (pe_var (pos := p3) hNb hvb n3 n4) pa_nil) hNa hva n1 n2 rfl).run pz sz σz Hz Q' J ⟨z1, v, z3, v, rfl, z2, z4⟩
    · exact .inr hr'
  refine ⟨I2.kIn, wpAny_call (codeAny_mono (run_ofS (CX := C8.CX0) (E := C8.E0) (Q := Q) (N := Ng) (ps := [a, b]) (us := [.ref f, u]) (vs := [.ref f, hv]) lk hcg Sg hr I2.env0 (hb s2 [.ref f, u] I2.kIn rfl) (.cons rfl (.cons ru .nil)) rfl fun hr' => ?_) fun
    | .error _, _, q => q.elim
    | .ok (.ret _), _, q => I2.after q
    | .ok .next, _, q => q.elim
    | .ok .brk, _, q => q.elim
    | .ok .cont, _, q => q.elim)⟩
  cases act with
  | inr z => exact absurd hr' z
  | inl act => exact let ⟨t', d, q⟩ := hG C8.CX0 C8.E0 X.A X.stack g cdv f hv s2 H2 Q _ act (h c' H2 eN T1 hco); ⟨t', d.nox, q⟩
/-- a(b), a known function handed as a -/
theorem act_fn {k : Nat} {f : Addr} {fd : FuncData} {ps : List Str} {sp : Sp} {a b : Str} (F : FnOk X.prog X.w X.K X.mg X.base (L2.CX X.prog X.w) k f fd ps sp) (hr : Room k X.A) (hk : PySem.W.keepIn X.K (.ref f) = true) (hb : L2.Binds X.K fd ps [])
    (hNa : X.N[0]? = some a) (hNb : X.N[1]? = some b) (hva : Vis X.env.scope a) (hvb : Vis X.env.scope b)
    (n1 : (a == ("__debug__" : Str)) = false := by decide) (n2 : (a == ("__classdict__" : Str)) = false := by decide) (n3 : (b == ("__debug__" : Str)) = false := by decide) (n4 : (b == ("__classdict__" : Str)) = false := by decide) :
    ActOk X a b f (fun v E H Q => sp [v] H Q E) := fun W pn xe p1 p2 p3 tk => ⟨fun pins s σ H Q I ⟨h1, v, h2, h3⟩ => by
  apply wpAny_Call_Name_kw
  refine thn ((pe_var (X := X.tr pn xe) (pos := p1) (i := 0) hNa hva n1 n2).run pins s σ H (fun w H1 => w = .ref f ∧ H1 = H) I ⟨.ref f, h1, rfl, rfl⟩) ?_
  rintro _ s1 ⟨_, _, I1, r1, rfl, rfl⟩
  cases r1
  apply PySem.W.callWith_K (h₀ := X.base) I1.mod.kin hk (he := rfl) (hplain := rfl)
  refine thn ((pa_cons (pe_var (X := X.tr pn xe) (pos := p3) hNb hvb n3 n4) pa_nil).run p2 pins s1 σ _ (fun vs H2 => vs = [v] ∧ H2 = _) I1 ⟨v, h2, rfl, rfl⟩) ?_
  rintro us s2 ⟨_, _, I2, r, rfl, rfl⟩
  exact ⟨I2.kIn, run_fnS (X := X.tr pn xe) F hr hb (passAt tk σ) I2 r h3⟩⟩
end
end Tw
set_option maxHeartbeats 2000000
/-! TwSort: sorted(row, key=lambda p: p[0]), the row a list or a tuple of tuples whose first things are ints. -/
namespace Tw
open PySem PySem.Spec PyProof.Rows L2 Sb LamX
/-- p[0] -/
def FirstOf (pr : Str) (body : Expr) : Prop := ∃ p1 p2 p3 j, body = .Subscript (.Name pr p1) (.Constant (.int 0) j p2) p3
/-- the lambda of one parameter and no other name -/
structure LamF (scope : Scope) (pr : Str) (body : Expr) : Prop where
  fn : scope.kind = .function ∧ scope.isCoroutine = false ∧ scope.isGenerator = false
  names : scope.names = [(pr, .local)]
  body : FirstOf pr body
  d1 : (pr == ("__debug__" : Str)) = false
theorem lam_first {prog : Program} {w : World} {A : Around} {s : Shared} {f c' a : Addr} {q : Str} {params : Arguments} {body : Expr} {scope : Scope} {cl : List (Str × Addr)} {pm ctv : Value} {pr : Str} {items : Array Value} {n : Int} {t : Tok} (hroom : A.depth < recursionLimit) (L : LamF scope pr body)
    (hf : s.heap.get? f = some (PySem.W.kla_obj "<lambda>" q params body scope cl pm c' ctv)) (hc : ∃ (oc : Obj) (vs : Array Value) (t : Tok), s.heap.get? c' = some oc ∧ oc.data = .fields vs ∧ vs[1]? = some (.str q t))
    (hb : bindArgs (PySem.W.kla_fn "<lambda>" q params body scope cl pm (.ref c') ctv) ⟨[.ref a], []⟩ = pure [(pr, .ref a)]) (ht : IsTup s.heap a items) (h0 : items[0]? = some (.int n t)) (nl : s.heap.NoLimit) :
    wpAny (model prog w) A (call (.ref f) [.ref a]) (PySem.W.KeyPure (.int n) s) (fun _ _ => False) s := by
  obtain ⟨p1, p2, p3, j, rfl⟩ := L.body
  obtain ⟨oc, vs, tq, k1, k2, k3⟩ := hc
  apply wpAny_call
  apply PySem.W.kla_callFunE hroom hf rfl L.fn.2.1 L.fn.2.2 rfl ⟨c', oc, vs, tq, rfl, k1, k2, k3⟩
  rw [hb]
  apply wpAny_pure
  refine wpAny_newFunctionEnv (fun y hy => ?_) (fun y hy => ?_) (fun h₁ hns hsb => ?_) L.fn.1
  · rw [L.names, List.mem_singleton] at hy
    rw [hy]
    exact fun z => nomatch z
  · rw [List.mem_singleton.mp hy, L.names]
    simp
  refine ⟨nl.fresh _ hsb, ?_⟩
  have old : ∀ b o, s.heap.get? b = some o → h₁.get? b = some o := fun b o e => hsb.extBut b o (Nat.ne_of_lt (Heap.lt_size e)) (Heap.get?_push_of_some _ e)
  obtain ⟨ot, e1, e2, e3⟩ := ht
  apply PySem.W.kla_codeExpr
  apply Subscript_
  refine wpAny_Name (wpAny_loadName_local L.fn.1 (show scope.names.lookup pr = some .local by rw [L.names]; simp) hns (show List.lookup pr [(pr, Value.ref a)].reverse = some (.ref a) by simp) ?_) L.d1
  apply wpAny_Constant_int
  refine subscriptTail_builtinR (x := .int n t) (IsTup.typeIs ⟨ot, old _ _ e1, e2, e3⟩) slot_tuple_getitem.lookup (getItem_tuple (j := 0) (x := .int n t) ⟨ot, old _ _ e1, e2, e3⟩ (by decide) (by decide) ?_ h0 ⟨rfl, ?_⟩) (by rfl)
  · have : 0 < items.size := by
      rcases Nat.eq_zero_or_pos items.size with z | z
      · rw [Array.getElem?_eq_none (by omega)] at h0
        cases h0
      · exact z
    exact seqIndex_of (by decide) (by omega)
  · exact ⟨h₁, _, rfl, old, .int n t⟩
theorem SqL.extN {K : PySem.W.Frag} {H H' : Hp} {a : Addr} {xs : List V} (h : SqL K H a xs) (e : ExtN H H') : SqL K H' a xs := by
  rcases h with (h | ⟨o, h⟩) | h
  · exact .inl (.inl (e _ _ h fun _ z => nomatch z))
  · exact .inl (.inr ⟨o, e _ _ h fun _ z => nomatch z⟩)
  · exact .inr h
theorem SqT.extN {K : PySem.W.Frag} {H H' : Hp} {a : Addr} {xs : List V} (h : SqT K H a xs) (e : ExtN H H') : SqT K H' a xs := by
  rcases h with (h | ⟨o, h⟩) | h
  · exact .inl (.inl (e _ _ h fun _ z => nomatch z))
  · exact .inl (.inr ⟨o, e _ _ h fun _ z => nomatch z⟩)
  · exact .inr h
/-- sorted(row, key=f): what f tells of a thing is its key -/
theorem sorted_by {prog : Program} {w : World} {A : Around} {E : Value → Shared → Prop} {s : Shared} {β : Type} {R : Value → β → Prop} {l f : Addr} {o : Obj} {S : String} {its : Array Value} {n : Nat} {bs : List β} {key : β → Int} {Q : Value → Shared → Prop}
    (hS : S = "list" ∨ S = "tuple") (ho : s.heap.get? l = some o) (hc : o.cls = .type S) (hd : o.data = .seq its n) (e : PySem.W.EachIs R its.toList bs) (hL : bs.length ≤ sizeLine) (hu : A.units + 2 < cLine)
    (turn : ∀ (v : Value) (x : β), R v x → x ∈ bs → ∀ (h : Heap) (tk : Nat), (∀ b o, s.heap.get? b = some o → h.get? b = some o) → wpAny (model prog w) A.in1.in1 (call (.ref f) [v]) (PySem.W.KeyPure (.int (key x)) { s with heap := h, toks := tk }) (fun _ _ => False) { s with heap := h, toks := tk })
    (q : ∀ (out : List Value) (c tk : Nat) (h1 h' : Heap) (r : Addr), (∀ b o, s.heap.get? b = some o → h1.get? b = some o) → (∀ b o, h1.get? b = some o → h'.get? b = some o) → h1.objs.size ≤ r → h'.get? r = some (seqObj "list" out.toArray c) → PySem.W.EachIs R out (bs.mergeSort fun a b => decide (key a ≤ key b)) → Q (.ref r) { s with heap := h', toks := tk }) :
    wpAny (model prog w) A (call (.builtin "sorted") [.ref l] [(Str.ofString "key", .ref f)]) Q E s := by
  have hz : its.size = bs.length := by
    have := e.length
    rw [← this, Array.length_toList]
  apply call_function_entry_kw kind_sorted plain_sorted entry_sorted (ksk_s1 _ _)
  unfold Builtin.«sorted»
  apply wpAny_bind (m := checkCount "sorted" 1 1 _)
  apply wpAny_pure
  apply wpAny_bind
  refine wpAny_collect_seq l hS ho hc hd (fun h1 k1 => ?_) (by omega)
  apply wpAny_bind
  refine wpAny_newList ?_ (by rw [Array.length_toList]; omega)
  have up : ∀ {h : Heap}, PySem.W.KeepsBut h1.objs.size (h1.push { cls := .type "list", data := .seq its.toList.toArray }) h → ∀ b o, s.heap.get? b = some o → h.get? b = some o := fun k b o z =>
    k b o (Nat.ne_of_lt (Heap.lt_size (k1 b o z))) (Heap.get?_push_of_some _ (k1 b o z))
  apply wpAny_bind
  apply wpAny_holding
  refine PySem.W.list_sort_key_data (R := R) (bs := bs) (vs := its.toList) (n := 0) (b := false) (fun x => .int (key x)) (Heap.get?_push_size _ rfl) e ?_ ?_ hL ?_ (ksk_l1 _ _) (ksk_t1 _ _) ?_ ?_
  · rintro d hd d' hd'
    obtain ⟨x, _, rfl⟩ := List.mem_map.mp hd
    obtain ⟨y, _, rfl⟩ := List.mem_map.mp hd'
    rfl
  · refine .inr fun d hd => ?_
    obtain ⟨x, _, rfl⟩ := List.mem_map.mp hd
    constructor
    · intro z
      cases z
    · intro _ z
      cases z
  · intro x _
    show A.units + 1 + 1 + 0 < cLine
    omega
  · intro v x hR hx h tk kp
    exact turn v x hR hx h tk (up kp)
  · intro out c h' tk kp hat _ ho2
    apply wpAny_pure
    rw [PySem.W.dataLe_int] at ho2
    exact ⟨_, rfl, q out c tk h1 h' _ k1 (fun b o z => kp b o (Nat.ne_of_lt (Heap.lt_size z)) (Heap.get?_push_of_some _ z)) (Nat.le_refl _) hat ho2⟩
theorem each_of_vals : ∀ {ps : List (V × Int)} {us : List Value}, Vals (ps.map Prod.fst) us → PySem.W.EachIs (fun u p => RelV p.1 u) us ps
  | [], _, r => by
    cases r
    exact .nil
  | p :: ps, _, r => by
    cases r with
    | cons h r => exact .cons h (each_of_vals r)
theorem vals_of_each : ∀ {ps : List (V × Int)} {us : List Value}, PySem.W.EachIs (fun u p => RelV p.1 u) us ps → Vals (ps.map Prod.fst) us
  | _, _, .nil => .nil
  | _, _, .cons h r => .cons h (vals_of_each r)
/-- the things sorted by their keys, as they stood where two are alike -/
def byKey (ps : List (V × Int)) : List (V × Int) := ps.mergeSort fun a b => decide (a.2 ≤ b.2)
def tSortLam (K : PySem.W.Frag) (T : List (Addr × Str)) (tx : TE) : TE := fun σ H Q => tx σ H fun x H1 => ∃ (l : Addr) (ps : List (V × Int)), x = .ref l ∧ SqR K H1 l (ps.map Prod.fst) ∧ (∀ p ∈ ps, ∃ (a : Addr) (ys : List V), p.1 = .ref a ∧ SqT K H1 a (.int p.2 :: ys)) ∧ Tabs T H1 ∧
  ∀ (H2 : Hp) (r : Addr), ExtN H1 H2 → Tabs T H2 → H2 r = none → Q (.ref r) (upd H2 r (.lst ((byKey ps).map Prod.fst)))
section
variable {X : Cx}
theorem pe_sortLam (Kk : PySem.W.Frag) {T : List (Addr × Str)} {c P : Addr} {pr : Str} {params : Arguments} {body : Expr} {scope : Scope} {e : Expr} {tx : TE} {p lpos kp pos : Pos} (hg : Gl X "sorted") (hm : X.mg "sorted" = none) (hx : PE X e tx)
    (TB : TabB X.base X.mg c P) (hcode : X.env.code = .ref c) (hmT : (P, X.env.qual ++ "<lambda>") ∈ T) (hu : ∀ p ∈ T, p.1 = P → p.2 = X.env.qual ++ "<lambda>") (hr : Room 1 X.A) (L : LamF scope pr body) (hdef : defaultsOf params X.env = ([], []))
    (hbind : ∀ (q : Str) (cl : List (Str × Addr)) (pm cv ctv u : Value), bindArgs (PySem.W.kla_fn "<lambda>" q params body scope cl pm cv ctv) ⟨[u], []⟩ = pure [(pr, u)])
    (he : backTo pos (starEach [e] X.env) = (false, eval e X.env) :: backTo pos (starEach [] X.env) := by rfl) (hpl : (backTo pos (starEach [e] X.env)).any (·.1) = false := by rfl) (hKk : X.K = Kk := by rfl) :
    PE X (.Call (.Name "sorted" p) [e] [⟨some "key", .Lambda params body scope lpos, kp⟩] pos) (tSortLam Kk T tx) := by
  subst hKk
  constructor
  intro pins s σ H Q I h
  apply wpAny_Call_Name_kw
  refine ld_blt I hg hm (u := .builtin "sorted") (by decide +kernel) ?_ (by decide) (by decide)
  apply callWith_kw (he := he) (hplain := hpl) (hall := rfl) (hkw := rfl)
  rw [he]
  apply Calls.spliced_cons
  refine thn (hx.run pins s σ H _ I h) ?_
  rintro u s1 ⟨x, H1, I1, rx, l, ps, rfl, hq, hk, hT, q⟩
  cases rx
  apply Calls.spliced_nil
  apply kws_cons
  apply lam_make2 I1 TB hcode hmT hu hT hdef (fun y hy z => by rw [L.names, List.mem_singleton] at hy; rw [hy] at z; cases z)
  intro f c' pm ctv H2 s2 I2 eN T2 hf hfn hfr hco
  apply kws_nil
  show wpAny _ _ (call (.builtin "sorted") [.ref l] [(Str.ofString "key", .ref f)]) _ _ _
  obtain ⟨S, o, its, n, hS, ho, hc, hd, r, hz⟩ : ∃ (S : String) (o : Obj) (its : Array Value) (n : Nat), (S = "list" ∨ S = "tuple") ∧ s2.heap.get? l = some o ∧ o.cls = .type S ∧ o.data = .seq its n ∧ Vals (ps.map Prod.fst) its.toList ∧ (ps.map Prod.fst).length ≤ sizeLine := by
    rcases hq with hq | hq
    · obtain ⟨its, r, ⟨o, n, z1, z2, z3, z4⟩, hz⟩ := I2.list (SqL.extN hq eN)
      exact ⟨"list", o, _, n, .inl rfl, z1, z2, z4, by simpa using r, hz⟩
    · obtain ⟨its, r, ⟨o, z1, z2, n, z4⟩, hz⟩ := I2.tuple (SqT.extN hq eN)
      exact ⟨"tuple", o, _, n, .inr rfl, z1, z2, z4, by simpa using r, hz⟩
  have hdep : X.A.depth < recursionLimit := hr.depth
  rw [List.length_map] at hz
  refine sorted_by (R := fun u (p : V × Int) => RelV p.1 u) (bs := ps) (key := Prod.snd) hS ho hc hd (each_of_vals r) hz (by have := hr.un; omega) (fun v x rv hx h tk kp => ?_) (fun out c tk h1 h' r k1 kp hsz hat ho2 => ?_)
  · obtain ⟨x, n⟩ := x
    obtain ⟨a, ys, ex, hy⟩ := hk _ hx
    have ex : x = .ref a := ex
    subst ex
    cases (show RelV (.ref a) v from rv)
    have hy : SqT X.K H1 a (.int n :: ys) := hy
    obtain ⟨it2, r2, ⟨ot, y1, y2, y3⟩, _⟩ := I2.tuple (SqT.extN hy eN)
    obtain ⟨w0, rr, rfl, t0, rfl⟩ : ∃ w0 rr, it2 = w0 :: rr ∧ ∃ t, w0 = Value.int n t := by
      cases r2 with
      | cons z1 z2 => exact ⟨_, _, rfl, z1⟩
    obtain ⟨⟨oc, vs, tq, c1, c2, c3⟩, _⟩ := I2.hok c' _ hco
    refine lam_first (t := t0) hdep L (kp _ _ hf) ⟨oc, vs, tq, kp _ _ c1, c2, c3⟩ (hbind _ _ _ _ _ _) ⟨ot, kp _ _ y1, y2, y3⟩ (by simp) ?_
    exact I2.nolimit.keeps kp
  · have I3 := I2.kept (t' := s2.toks) k1
    have fr := I3.hok.fresh hsz
    refine ⟨.ref r, upd H2 r (.lst ((byKey ps).map Prod.fst)), I3.laid kp hsz ⟨?_, _, c, vals_of_each ho2, hat⟩, rfl, q H2 r eN T2 fr⟩
    unfold byKey
    rw [List.length_map, List.length_mergeSort]
    exact hz
end
end Tw
/-! TwT: data of tuples alone (they stay, whatever else is changed); names; sorts; entries of a schema's rows. -/
namespace Tw
open PySem PySem.Spec PyProof.Rows L2 Sb LamX
/-! ### data of tuples -/
mutual
inductive Td (K : PySem.W.Frag) (H : Hp) : V → PyData → Prop
  | non : Td K H .non .none
  | bl (b : Bool) : Td K H (.bl b) (.bool b)
  | int (n : Int) : Td K H (.int n) (.int n)
  | str (s : Str) : Td K H (.str s) (.str s)
  | tup {a : Addr} {xs : List V} {ds : List PyData} : SqT K H a xs → Tds K H xs ds → Td K H (.ref a) (.tuple ds)
inductive Tds (K : PySem.W.Frag) (H : Hp) : List V → List PyData → Prop
  | nil : Tds K H [] []
  | cons {x : V} {xs : List V} {d : PyData} {ds : List PyData} : Td K H x d → Tds K H xs ds → Tds K H (x :: xs) (d :: ds)
end
/-- what stands of tuples, stands -/
def KeepT (K : PySem.W.Frag) (H H' : Hp) : Prop := ∀ a xs, SqT K H a xs → SqT K H' a xs
theorem KeepT.same {K : PySem.W.Frag} {H H' : Hp} (s : Same H H') : KeepT K H H' := fun a xs h => by
  rcases h with (h | ⟨o, h⟩) | h
  · exact .inl (.inl (s _ _ h))
  · exact .inl (.inr ⟨o, s _ _ h⟩)
  · exact .inr h
theorem KeepT.extN {K : PySem.W.Frag} {H H' : Hp} (s : ExtN H H') : KeepT K H H' := fun _ _ h => SqT.extN h s
/-- all but some objects that are no tuples stay -/
theorem KeepT.but {K : PySem.W.Frag} {H H' : Hp} (k : ∀ b o, H b = some o → (∀ xs, o = .tup xs → H' b = some o) ∧ (∀ q xs, o = .frz q (.tup xs) → H' b = some o)) : KeepT K H H' := fun a xs h => by
  rcases h with (h | ⟨o, h⟩) | h
  · exact .inl (.inl ((k _ _ h).1 _ rfl))
  · exact .inl (.inr ⟨o, (k _ _ h).2 _ _ rfl⟩)
  · exact .inr h
theorem KeepT.trans {K : PySem.W.Frag} {H H1 H2 : Hp} (a : KeepT K H H1) (b : KeepT K H1 H2) : KeepT K H H2 := fun c xs h => b c xs (a c xs h)
mutual
theorem Td.keep {K : PySem.W.Frag} {H H' : Hp} (k : KeepT K H H') : ∀ {v : V} {d : PyData}, Td K H v d → Td K H' v d
  | _, _, .non => .non
  | _, _, .bl b => .bl b
  | _, _, .int n => .int n
  | _, _, .str s => .str s
  | _, _, .tup h r => .tup (k _ _ h) (Tds.keep k r)
theorem Tds.keep {K : PySem.W.Frag} {H H' : Hp} (k : KeepT K H H') : ∀ {v : List V} {d : List PyData}, Tds K H v d → Tds K H' v d
  | _, _, .nil => .nil
  | _, _, .cons h r => .cons (Td.keep k h) (Tds.keep k r)
end
mutual
theorem Td.dp {K : PySem.W.Frag} {H : Hp} : ∀ {v : V} {d : PyData}, Td K H v d → Dp K H v d
  | _, _, .non => .non
  | _, _, .bl b => .bl b
  | _, _, .int n => .int n
  | _, _, .str s => .str s
  | _, _, .tup h r => .tup h (Tds.dp r)
theorem Tds.dp {K : PySem.W.Frag} {H : Hp} : ∀ {v : List V} {d : List PyData}, Tds K H v d → DpAll K H v d
  | _, _, .nil => .nil
  | _, _, .cons h r => .cons (Td.dp h) (Tds.dp r)
end
theorem Td.row {K : PySem.W.Frag} {H : Hp} {v : V} {ds : List PyData} (h : Td K H v (.tuple ds)) : ∃ a xs, v = .ref a ∧ SqT K H a xs ∧ Tds K H xs ds := by
  cases h with
  | tup q r => exact ⟨_, _, rfl, q, r⟩
theorem Td.toInt {K : PySem.W.Frag} {H : Hp} {v : V} {n : Int} (h : Td K H v (.int n)) : v = .int n := by cases h; rfl
theorem Td.toStr {K : PySem.W.Frag} {H : Hp} {v : V} {s : Str} (h : Td K H v (.str s)) : v = .str s := by cases h; rfl
theorem Td.toBool {K : PySem.W.Frag} {H : Hp} {v : V} {b : Bool} (h : Td K H v (.bool b)) : v = .bl b := by cases h; rfl
theorem Td.toNone {K : PySem.W.Frag} {H : Hp} {v : V} (h : Td K H v .none) : v = .non := by cases h; rfl
theorem Tds.len {K : PySem.W.Frag} {H : Hp} : ∀ {xs : List V} {ds : List PyData}, Tds K H xs ds → xs.length = ds.length
  | _, _, .nil => rfl
  | _, _, .cons _ r => congrArg (· + 1) (Tds.len r)
theorem Tds.append {K : PySem.W.Frag} {H : Hp} : ∀ {xs ys : List V} {ds es : List PyData}, Tds K H xs ds → Tds K H ys es → Tds K H (xs ++ ys) (ds ++ es)
  | _, _, _, _, .nil, t => t
  | _, _, _, _, .cons h r, t => .cons h (Tds.append r t)
theorem SqT.ty {K : PySem.W.Frag} {H : Hp} {a : Addr} {xs : List V} (h : SqT K H a xs) : TyX K H (.ref a) (.type "tuple") := by
  rcases h with (h | ⟨o, h⟩) | ⟨o, its, n, h, c, _⟩
  · exact .base (.tup h)
  · exact .fTuple h
  · exact .kTuple h c
theorem Td.ty {K : PySem.W.Frag} {H : Hp} {v : V} {ds : List PyData} (h : Td K H v (.tuple ds)) : TyX K H v (.type "tuple") := by
  cases h with
  | tup q r => exact SqT.ty q
/-- a bound, as data and as a value -/
def oI : Option Int → PyData
  | none => .none
  | some n => .int n
def oV : Option Int → V
  | none => .non
  | some n => .int n
/-! ### more of the built-ins' names -/
structure Bu (mg : Str → Option Value) extends Bt mg where
  n_abs : mg "abs" = none
  n_ord : mg "ord" = none
  n_sorted : mg "sorted" = none
  n_min : mg "min" = none
  n_dict : mg "dict" = none
theorem oV_none : decide (oV none = V.non) = true := decide_eq_true rfl
theorem oV_some (n : Int) : decide (oV (some n) = V.non) = false := decide_eq_false (fun z => nomatch z)
theorem iteY {p : Prop} [Decidable p] {A B : Prop} (h : p) (a : A) : if decide p = true then A else B := by
  rw [if_pos (decide_eq_true h)]
  exact a
theorem iteN {p : Prop} [Decidable p] {A B : Prop} (h : ¬ p) (b : B) : if decide p = true then A else B := by
  rw [if_neg (fun z => h (of_decide_eq_true z))]
  exact b
theorem iteNY {p : Prop} [Decidable p] {A B : Prop} (h : p) (b : B) : if (!decide p) = true then A else B := by
  rw [decide_eq_true h]
  exact b
theorem iteNN {p : Prop} [Decidable p] {A B : Prop} (h : ¬ p) (a : A) : if (!decide p) = true then A else B := by
  rw [decide_eq_false h]
  exact a
theorem sne {x y : Str} (h : x ≠ y) : ¬ V.str x = V.str y := fun z => h (V.str.inj z)
theorem ine {x y : Int} (h : x ≠ y) : ¬ V.int x = V.int y := fun z => h (V.int.inj z)
theorem at0 {a : V} {r : List V} : atI (a :: r) 0 = some a := atI_nat (xs := a :: r) (j := 0) rfl
theorem at1 {a b : V} {r : List V} : atI (a :: b :: r) 1 = some b := atI_nat (xs := a :: b :: r) (j := 1) rfl
theorem at2 {a b c : V} {r : List V} : atI (a :: b :: c :: r) 2 = some c := atI_nat (xs := a :: b :: c :: r) (j := 2) rfl
theorem at3 {a b c d : V} {r : List V} : atI (a :: b :: c :: d :: r) 3 = some d := atI_nat (xs := a :: b :: c :: d :: r) (j := 3) rfl
/-! ### names -/
def alpha : Str := "abcdefghijklmnopqrstuvwxyz"
def isLow (c : Nat) : Bool := decide (97 ≤ c ∧ c ≤ 122)
def isNm (z : Str) : Bool := decide (1 ≤ z.length) && decide (z.length ≤ 8) && z.cps.toList.all isLow
def nmV : V → Bool
  | .str z => isNm z
  | _ => false
theorem mem_alpha (c : Nat) : decide (c ∈ alpha.cps.toList) = isLow c := by
  have e : alpha.cps.toList = (List.range 26).map (· + 97) := by decide +kernel
  rw [e]
  unfold isLow
  simp only [List.mem_map, List.mem_range]
  by_cases h : 97 ≤ c ∧ c ≤ 122
  · rw [decide_eq_true h]
    exact decide_eq_true ⟨c - 97, by omega, by omega⟩
  · rw [decide_eq_false h]
    refine decide_eq_false ?_
    rintro ⟨a, h1, h2⟩
    omega
theorem nm_asc {z : Str} (h : isNm z = true) : Asc 8 z := by
  unfold isNm at h
  simp only [Bool.and_eq_true, decide_eq_true_eq, List.all_eq_true] at h
  refine ⟨h.1.2, fun c hc => ?_⟩
  have := h.2 c hc
  unfold isLow at this
  have := of_decide_eq_true this
  omega
/-- what is_name is asked of: any value whose kind is known; a text of at most a thousand signs -/
def spName (K : PySem.W.Frag) : Sp := fun vs H Q _ => ∃ (v : V) (t : Value) (b : Bool), vs = [v] ∧ TyX K H v t ∧ PySem.W.kitOne K t (.type "str") = some b ∧ (b = true → ∃ z, v = .str z ∧ Asc 1000 z) ∧ (b = false → nmV v = false) ∧ ∀ H', Same H H' → Q (.bl (nmV v)) H'
/-- a name handed to it -/
theorem name_yes {K : PySem.W.Frag} {H : Hp} {z : Str} (h : isNm z = true) {Q : VK} {E : XK} (q : ∀ H', Same H H' → Q (.bl true) H') : spName K [.str z] H Q E :=
  ⟨.str z, .type "str", true, rfl, .base (.str z), kit_ty (by decide +kernel), fun _ => ⟨z, rfl, (nm_asc h).mono (by decide)⟩, (fun z => nomatch z), fun H' s => by
    rw [show nmV (.str z) = isNm z from rfl, h]
    exact q H' s⟩
/-! ### sorts -/
inductive So
  | num (lo hi : Option Int)
  | tru
  | txt (n : Int)
  | row (n : Int) (s : So)
  | may (s : So)
  | nod (k : Str)
  | cho (c : Str)
def So.word : So → Str
  | num _ _ => "number"
  | tru => "truth"
  | txt _ => "text"
  | row _ _ => "row"
  | may _ => "maybe"
  | nod _ => "node"
  | cho _ => "choice"
def So.rest : So → List PyData
  | num lo hi => [oI lo, oI hi]
  | tru => []
  | txt n => [.int n]
  | row n s => [.int n, .tuple (.str s.word :: s.rest)]
  | may s => [.tuple (.str s.word :: s.rest)]
  | nod k => [.str k]
  | cho c => [.str c]
/-- the sort as data -/
def So.pd (s : So) : PyData := .tuple (.str s.word :: s.rest)
def loHi : Option Int → Option Int → Prop
  | some a, some b => a ≤ b
  | _, _ => True
def So.ok (ks cs : List Str) : Bool → So → Prop
  | _, num lo hi => loHi lo hi
  | _, tru => True
  | _, txt n => 0 ≤ n ∧ n ≤ 40
  | _, row n s => 0 ≤ n ∧ n ≤ 20 ∧ s.ok ks cs false
  | i, may s => i = false ∧ s.ok ks cs true
  | _, nod k => isNm k = true ∧ k ∈ ks
  | _, cho c => isNm c = true ∧ c ∈ cs
def So.depth : So → Nat
  | row _ s => s.depth + 1
  | may s => s.depth + 1
  | _ => 0
def So.inmost : So → Prop
  | row _ _ => False
  | may _ => False
  | _ => True
theorem Td.oV {K : PySem.W.Frag} {H : Hp} {v : V} {o : Option Int} (h : Td K H v (oI o)) : v = Tw.oV o := by
  cases o with
  | none => exact h.toNone
  | some n => exact h.toInt
/-- a text of plain signs -/
def plainC (c : Nat) : Bool := decide (32 ≤ c ∧ c ≤ 126 ∧ c ≠ 37)
def figs : Int := 999999999999999999999999999999999999999999999999999999999999
/-- what may stand as a default of a sort -/
def DefOk : So → PyData → Prop
  | .num lo hi, .int n => (∀ a, lo = some a → a ≤ n) ∧ (∀ b, hi = some b → n ≤ b) ∧ -figs ≤ n ∧ n ≤ figs
  | .tru, .bool _ => True
  | .txt m, .str z => (z.length : Int) ≤ m ∧ z.cps.toList.all plainC = true ∧ z.length ≤ 40
  | .row _ _, .tuple [] => True
  | .may _, .none => True
  | _, _ => False
/-! ### entries -/
structure En where
  num : Int
  name : Str
  of : Option So
  left : Option PyData
def En.pd (e : En) : PyData := .tuple ([.int e.num, .str e.name, e.of.elim .none So.pd] ++ e.left.toList)
/-- an entry that may stand in a kind's row (k) or in a choice's, behind the earlier ones -/
structure EnOk (k : Bool) (ks cs : List Str) (earlier : List En) (e : En) : Prop where
  name : isNm e.name = true
  newN : e.name ∉ earlier.map En.name
  lo : (if k = true then 1 else 0) ≤ e.num
  hi : e.num ≤ 99
  newI : e.num ∉ earlier.map En.num
  none : e.of = none → k = false ∧ e.left = none
  some : ∀ s, e.of = some s → e.num ≠ 0 ∧ s.ok ks cs false ∧ (∀ d, e.left = some d → k = true ∧ DefOk s d)
/-- the rows of a schema: each kind's (choice's) entries -/
def RowOk (k : Bool) (ks cs : List Str) (es : List En) : Prop := ∀ i e, es[i]? = some e → EnOk k ks cs (es.take i) e
/-- a row at a, a list or a tuple -/
def EnRow (K : PySem.W.Frag) (H : Hp) (es : List En) (v : V) : Prop := ∃ a xs, v = .ref a ∧ SqR K H a xs ∧ Tds K H xs (es.map En.pd)
theorem Tds.at_ {K : PySem.W.Frag} {H : Hp} : ∀ {xs : List V} {ds : List PyData} {i : Nat} {x : V}, Tds K H xs ds → xs[i]? = some x → ∃ d, ds[i]? = some d ∧ Td K H x d
  | _, _, 0, _, .cons h _, e => ⟨_, rfl, by cases e; exact h⟩
  | _, _, i + 1, _, .cons _ r, e => Tds.at_ (i := i) r e
theorem Tds.take {K : PySem.W.Frag} {H : Hp} : ∀ {xs : List V} {ds : List PyData} (i : Nat), Tds K H xs ds → Tds K H (xs.take i) (ds.take i)
  | _, _, 0, _ => .nil
  | _, _, _ + 1, .nil => .nil
  | _, _, i + 1, .cons h r => .cons h (Tds.take i r)
theorem Tds.drop {K : PySem.W.Frag} {H : Hp} : ∀ {xs : List V} {ds : List PyData} (i : Nat), Tds K H xs ds → Tds K H (xs.drop i) (ds.drop i)
  | _, _, 0, h => h
  | _, _, _ + 1, .nil => .nil
  | _, _, i + 1, .cons _ r => Tds.drop i r
/-- a list of names -/
def NmL (H : Hp) (a : Addr) (ks : List Str) : Prop := H a = some (.lst (ks.map V.str))
theorem NmL.same {H H' : Hp} {a : Addr} {ks : List Str} (h : NmL H a ks) (s : Same H H') : NmL H' a ks := s _ _ h
theorem flat_strs : ∀ ks : List Str, (ks.map V.str).all flatV = true
  | [] => rfl
  | _ :: r => flat_strs r
theorem in_strs {k : Str} : ∀ {ks : List Str}, k ∈ ks → inV (.str k) (ks.map V.str) = true
  | a :: r, h => by
    show ((a == k) || inV (.str k) (r.map V.str)) = true
    rcases List.mem_cons.mp h with rfl | h
    · simp
    · rw [in_strs h, Bool.or_true]
theorem nin_strs {k : Str} : ∀ {ks : List Str}, k ∉ ks → inV (.str k) (ks.map V.str) = false
  | [], _ => rfl
  | a :: r, h => by
    show ((a == k) || inV (.str k) (r.map V.str)) = false
    rw [nin_strs (fun z => h (List.mem_cons_of_mem _ z)), Bool.or_false]
    exact beq_eq_false_iff_ne.mpr fun e => h (e ▸ List.mem_cons_self)
theorem flat_ints : ∀ ks : List Int, (ks.map V.int).all flatV = true
  | [] => rfl
  | _ :: r => flat_ints r
theorem nin_ints {k : Int} : ∀ {ks : List Int}, k ∉ ks → inV (.int k) (ks.map V.int) = false
  | [], _ => rfl
  | a :: r, h => by
    show ((a == k) || inV (.int k) (r.map V.int)) = false
    rw [nin_ints (fun z => h (List.mem_cons_of_mem _ z)), Bool.or_false]
    exact beq_eq_false_iff_ne.mpr fun e => h (e ▸ List.mem_cons_self)
theorem So.word_row : ∀ {s : So}, s.inmost → s.word ≠ "row" ∧ s.word ≠ "maybe"
  | .num _ _, _ => ⟨show ("number" : Str) ≠ "row" by decide +kernel, show ("number" : Str) ≠ "maybe" by decide +kernel⟩
  | .tru, _ => ⟨show ("truth" : Str) ≠ "row" by decide +kernel, show ("truth" : Str) ≠ "maybe" by decide +kernel⟩
  | .txt _, _ => ⟨show ("text" : Str) ≠ "row" by decide +kernel, show ("text" : Str) ≠ "maybe" by decide +kernel⟩
  | .nod _, _ => ⟨show ("node" : Str) ≠ "row" by decide +kernel, show ("node" : Str) ≠ "maybe" by decide +kernel⟩
  | .cho _, _ => ⟨show ("choice" : Str) ≠ "row" by decide +kernel, show ("choice" : Str) ≠ "maybe" by decide +kernel⟩
  | .row _ _, h => h.elim
  | .may _, h => h.elim
theorem So.rest_len : ∀ s : So, s.rest.length ≤ 2
  | .num _ _ => Nat.le_refl _
  | .tru => Nat.zero_le _
  | .txt _ => by show 1 ≤ 2; decide
  | .nod _ => by show 1 ≤ 2; decide
  | .cho _ => by show 1 ≤ 2; decide
  | .row _ _ => Nat.le_refl _
  | .may _ => by show 1 ≤ 2; decide
theorem cut3 (a b c : V) (ys : List V) : cutV (a :: b :: c :: ys) none (some 3) = [a, b, c] := by
  unfold cutV
  rw [HT.sIx_none, show (some (3 : Int)) = some ((3 : Nat) : Int) from rfl, HT.sIx_nat]
  show List.take (min 3 (ys.length + 3) - 0) (a :: b :: c :: ys) = _
  rw [Nat.min_eq_left (by omega)]
  rfl
theorem whole3 {a b c : V} {ys : List V} (h : HT.sIx (a :: b :: c :: ys).length (a :: b :: c :: ys).length (some 3) = (a :: b :: c :: ys).length) : ys = [] := by
  rw [show (some (3 : Int)) = some ((3 : Nat) : Int) from rfl, HT.sIx_nat] at h
  simp only [List.length_cons] at h
  exact List.length_eq_zero_iff.mp (by omega)
/-! ### a dict while it is walked -/
theorem unlock {H H' : Hp} {d : Addr} {u : HO} {od : Obj} (hd : H d = some u) (s : Same (upd H d (.frz od u)) H') : Same H (upd H' d u) := fun b o e => by
  by_cases hb : b = d
  · subst hb
    rw [upd_same, ← hd, e]
  · rw [upd_ne hb]
    exact s b o (by rw [upd_ne hb]; exact e)
theorem lock_keep {K : PySem.W.Frag} {H : Hp} {d : Addr} {kvs : List (Key × V)} {od : Obj} (hd : H d = some (.dK kvs)) : KeepT K H (upd H d (.frz od (.dK kvs))) := KeepT.but fun b o e => by
  have nb : (∀ k, o ≠ .dK k) → b ≠ d := fun n w => by
    rw [w, hd] at e
    exact n _ (Option.some.inj e).symm
  refine ⟨fun xs w => ?_, fun q xs w => ?_⟩
  · rw [upd_ne (nb fun k z => by rw [w] at z; cases z)]
    exact e
  · rw [upd_ne (nb fun k z => by rw [w] at z; cases z)]
    exact e
theorem lock_list {K : PySem.W.Frag} {H : Hp} {d a : Addr} {kvs : List (Key × V)} {xs : List V} {od : Obj} (hd : H d = some (.dK kvs)) (h : SqL K H a xs) : SqL K (upd H d (.frz od (.dK kvs))) a xs := by
  have nb : ∀ {b : Addr} {o : HO}, H b = some o → (∀ k, o ≠ .dK k) → b ≠ d := fun e n w => by
    rw [w, hd] at e
    exact n _ (Option.some.inj e).symm
  rcases h with (h | ⟨o, h⟩) | h
  · exact .inl (.inl (by rw [upd_ne (nb h fun k z => nomatch z)]; exact h))
  · exact .inl (.inr ⟨o, by rw [upd_ne (nb h fun k z => nomatch z)]; exact h⟩)
  · exact .inr h
theorem unlock_keep {K : PySem.W.Frag} {H : Hp} {d : Addr} {kvs : List (Key × V)} {od : Obj} (hd : H d = some (.frz od (.dK kvs))) : KeepT K H (upd H d (.dK kvs)) := KeepT.but fun b o e => by
  have nb : (∀ q k, o ≠ .frz q (.dK k)) → b ≠ d := fun n w => by
    rw [w, hd] at e
    exact n _ _ (Option.some.inj e).symm
  refine ⟨fun xs w => ?_, fun q xs w => ?_⟩
  · rw [upd_ne (nb fun q k z => by rw [w] at z; cases z)]
    exact e
  · rw [upd_ne (nb fun q k z => by rw [w] at z; cases z)]
    exact e
/-! ### a schema's rows by their names -/
abbrev TRow := Str × List En
/-- the entries of a dict, name by name -/
def RowIs (K : PySem.W.Frag) (H : Hp) (kv : Key × V) (r : TRow) : Prop := kv.1 = .inr r.1 ∧ EnRow K H r.2 kv.2
def TabOk (k : Bool) (ks cs : List Str) (tb : List TRow) : Prop := ∀ r ∈ tb, isNm r.1 = true ∧ RowOk k ks cs r.2 ∧ r.2.length ≤ 100 ∧ (k = false → r.2 ≠ [])
theorem rows_keys {K : PySem.W.Frag} {H : Hp} : ∀ {kvs : List (Key × V)} {tb : List TRow}, Paired (RowIs K H) kvs tb → kvs.map Prod.fst = (tb.map Prod.fst).map Sum.inr
  | _, _, .nil => rfl
  | _, _, .cons h r => by rw [List.map_cons, List.map_cons, List.map_cons, h.1, rows_keys r]
theorem pd_atL {α β : Type} {F : α → β → Prop} : ∀ {xs : List α} {ys : List β} {i : Nat} {x : α}, Paired F xs ys → xs[i]? = some x → ∃ y, ys[i]? = some y ∧ F x y
  | _, _, 0, _, .cons h _, e => ⟨_, rfl, by cases e; exact h⟩
  | _, _, i + 1, _, .cons _ r, e => pd_atL (i := i) r e
theorem key_at {kvs : List (Key × V)} {ks : List Str} (h : kvs.map Prod.fst = ks.map Sum.inr) {i : Nat} {k : Key} {v : V} (e : kvs[i]? = some (k, v)) : ∃ z, ks[i]? = some z ∧ k = .inr z := by
  have e1 : (kvs.map Prod.fst)[i]? = some k := by rw [List.getElem?_map, e] <;> rfl
  rw [h, List.getElem?_map] at e1
  obtain ⟨z, hz, rfl⟩ := Option.map_eq_some_iff.mp e1
  exact ⟨z, hz, rfl⟩
/-- a slice of a row, list or tuple, is a row -/
def rSlQ (K : PySem.W.Frag) : V → Option Int → Option Int → Hp → VK → Prop := fun x lo hi H Q => ∃ a xs, x = .ref a ∧ SqR K H a xs ∧ ∀ (H' : Hp) (t : Addr), Same H H' → SqR K H' t (cutV xs lo hi) → Q (.ref t) H'
theorem sl_sqr {X : Cx} : SlR X (rSlQ X.K) := by
  intro pins s σ H x v vl vu lo hi sl Q I rx hs pl pu ⟨a, xs, e, hr, q⟩
  subst e
  apply SlR.or (sl_list (X := X)) (sl_tupA (X := X)) pins s σ H _ v vl vu lo hi sl Q I rx hs pl pu
  cases hr with
  | inl h => exact .inl ⟨a, xs, rfl, h, fun p hp => q _ p (same_upd hp) (.inl (SqL.of upd_same))⟩
  | inr h =>
    refine .inr ⟨a, xs, rfl, h, fun w => q H a (Same.refl _) (.inr ?_), fun _ p hp => q _ p (same_upd hp) (.inr (SqT.of upd_same))⟩
    unfold cutV
    rw [w.1, w.2, List.drop_zero, Nat.sub_zero, List.take_length]
    exact h
theorem cut_take (xs : List V) (n : Nat) (h : n ≤ xs.length) : cutV xs none (some (n : Int)) = xs.take n := by
  unfold cutV
  rw [HT.sIx_none, HT.sIx_nat, List.drop_zero, Nat.sub_zero, Nat.min_eq_left h]
theorem SqL.ty {K : PySem.W.Frag} {H : Hp} {a : Addr} {xs : List V} (h : SqL K H a xs) : TyX K H (.ref a) (.type "list") := by
  rcases h with (h | ⟨o, h⟩) | ⟨o, its, n, h, c, _⟩
  · exact .base (.lst h)
  · exact .base (.frz h)
  · exact .kList h c
theorem SqR.ty {K : PySem.W.Frag} {H : Hp} {a : Addr} {xs : List V} (h : SqR K H a xs) : ∃ t, TyX K H (.ref a) t ∧ PySem.W.kitAny K t [.type "list", .type "tuple"] = some true := by
  cases h with
  | inl h => exact ⟨_, SqL.ty h, kitAny_cons (b := true) (kit_ty (by decide +kernel)) (fun z => nomatch z) fun _ => rfl⟩
  | inr h => exact ⟨_, SqT.ty h, kitAny_cons (b := false) (kit_ty (by decide +kernel)) (fun _ => kitAny_cons (b := true) (kit_ty (by decide +kernel)) (fun z => nomatch z) fun _ => rfl) fun z => nomatch z⟩
theorem SqR.len {K : PySem.W.Frag} {H : Hp} {a : Addr} {xs : List V} (h : SqR K H a xs) : LenV K (.ref a) H xs.length := h.elim (fun h => .inl ⟨xs, h, rfl⟩) fun h => .inr ⟨xs, h, rfl⟩
theorem TabOk.at {k : Bool} {ks cs : List Str} {tb : List TRow} (h : TabOk k ks cs tb) {i : Nat} {r : TRow} (e : tb[i]? = some r) : isNm r.1 = true ∧ RowOk k ks cs r.2 ∧ r.2.length ≤ 100 ∧ (k = false → r.2 ≠ []) := h r (List.mem_of_getElem? e)
/-! ### a row sorted by its numbers -/
def sortEn (es : List En) : List En := es.mergeSort fun a b => decide (a.num ≤ b.num)
theorem zip_fst {α β : Type} : ∀ {xs : List α} {ys : List β}, xs.length = ys.length → (xs.zip ys).map Prod.fst = xs
  | [], [], _ => rfl
  | x :: xs, y :: ys, h => by
    show x :: (xs.zip ys).map Prod.fst = _
    rw [zip_fst (Nat.succ.inj h)]
theorem zip_snd {α β : Type} : ∀ {xs : List α} {ys : List β}, xs.length = ys.length → (xs.zip ys).map Prod.snd = ys
  | [], [], _ => rfl
  | x :: xs, y :: ys, h => by
    show y :: (xs.zip ys).map Prod.snd = _
    rw [zip_snd (Nat.succ.inj h)]
theorem Tds.of_zip {K : PySem.W.Frag} {H : Hp} : ∀ {ps : List (V × En)}, (∀ p ∈ ps, Td K H p.1 p.2.pd) → Tds K H (ps.map Prod.fst) ((ps.map Prod.snd).map En.pd)
  | [], _ => .nil
  | p :: ps, h => .cons (h p List.mem_cons_self) (Tds.of_zip fun q hq => h q (List.mem_cons_of_mem _ hq))
theorem Tds.zip {K : PySem.W.Frag} {H : Hp} : ∀ {xs : List V} {es : List En}, Tds K H xs (es.map En.pd) → ∀ p ∈ xs.zip es, Td K H p.1 p.2.pd
  | [], _, _, _, hp => by simp at hp
  | _ :: _, [], _, _, hp => by simp at hp
  | x :: xs, e :: es, .cons h r, p, hp => by
    rcases List.mem_cons.mp hp with rfl | hp
    · exact h
    · exact Tds.zip r p hp
/-- .. as sorted by a lambda's keys -/
theorem sort_row {K : PySem.W.Frag} {H : Hp} {xs : List V} {es : List En} (h : Tds K H xs (es.map En.pd)) : ∃ ps : List (V × Int), ps.map Prod.fst = xs ∧ (∀ p ∈ ps, ∃ (a : Addr) (ys : List V), p.1 = .ref a ∧ SqT K H a (.int p.2 :: ys)) ∧ (∀ H', KeepT K H H' → Tds K H' ((byKey ps).map Prod.fst) ((sortEn es).map En.pd)) ∧ (byKey ps).length = es.length := by
  have hl : xs.length = es.length := by rw [h.len, List.length_map]
  refine ⟨(xs.zip es).map fun p => (p.1, p.2.num), ?_, ?_, ?_, ?_⟩
  · rw [List.map_map]
    exact zip_fst hl
  · intro p hp
    obtain ⟨q, hq, rfl⟩ := List.mem_map.mp hp
    obtain ⟨a, xs', e, h1, h2⟩ := Td.row (show Td K H q.1 (.tuple (.int q.2.num :: _)) from h.zip q hq)
    cases h2 with
    | cons t1 t2 =>
      cases t1
      exact ⟨a, _, e, h1⟩
  · intro H' k
    have e1 : byKey ((xs.zip es).map fun p => (p.1, p.2.num)) = ((xs.zip es).mergeSort fun a b => decide (a.2.num ≤ b.2.num)).map fun p => (p.1, p.2.num) := by
      unfold byKey
      exact (List.map_mergeSort (r := fun a b : V × En => decide (a.2.num ≤ b.2.num)) (s := fun a b : V × Int => decide (a.2 ≤ b.2)) (f := fun p : V × En => (p.1, p.2.num)) (fun _ _ _ _ => rfl)).symm
    have e2 : sortEn es = ((xs.zip es).mergeSort fun a b => decide (a.2.num ≤ b.2.num)).map Prod.snd := by
      rw [List.map_mergeSort (r := fun a b : V × En => decide (a.2.num ≤ b.2.num)) (s := fun a b : En => decide (a.num ≤ b.num)) (f := Prod.snd) (fun _ _ _ _ => rfl), zip_snd hl] <;> rfl
    rw [e1, e2, List.map_map]
    exact Tds.of_zip fun p hp => (h.zip p (List.mem_mergeSort.mp hp)).keep k
  · unfold byKey
    rw [List.length_mergeSort, List.length_map, List.length_zip, hl, Nat.min_self]
/-- the rows as a schema has them: tuples, by rising numbers -/
def RowT (K : PySem.W.Frag) (H : Hp) (kv : Key × V) (r : TRow) : Prop := kv.1 = .inr r.1 ∧ ∃ a xs, kv.2 = .ref a ∧ SqT K H a xs ∧ Tds K H xs (r.2.map En.pd)
def sortT (tb : List TRow) : List TRow := tb.map fun r => (r.1, sortEn r.2)
theorem RowT.keep {K : PySem.W.Frag} {H H' : Hp} (k : KeepT K H H') {kv : Key × V} {r : TRow} (h : RowT K H kv r) : RowT K H' kv r := by
  obtain ⟨e, a, xs, e2, h1, h2⟩ := h
  exact ⟨e, a, xs, e2, k _ _ h1, h2.keep k⟩
/-! ### the tables stay where other things are changed -/
/-- no table, no code object -/
def NoTab (o : HO) : Prop := (∀ ps, o ≠ .tbl ps) ∧ ∀ c q, o ≠ CodeO c q
theorem tabs_put {T : List (Addr × Str)} {H : Hp} {d : Addr} {o1 : HO} (h : Tabs T H) (hd : ∀ o, H d = some o → NoTab o) : Tabs T (upd H d o1) := fun p hp => by
  obtain ⟨ps, h1, h2, h3⟩ := h p hp
  refine ⟨ps, ?_, h2, fun pos cv hc => ?_⟩
  · rw [upd_ne (show p.1 ≠ d from fun w => (hd _ (by rw [← w]; exact h1)).1 ps rfl)]
    exact h1
  · obtain ⟨c, e1, e2⟩ := h3 pos cv hc
    refine ⟨c, e1, ?_⟩
    rw [upd_ne (show c ≠ d from fun w => (hd _ (by rw [← w]; exact e2)).2 c p.2 rfl)]
    exact e2
theorem tabs_new {T : List (Addr × Str)} {H : Hp} {d : Addr} {o1 : HO} (h : Tabs T H) (hd : H d = none) : Tabs T (upd H d o1) := tabs_put h fun o e => by rw [hd] at e; cases e
theorem NoTab.dK {kvs : List (Key × V)} : NoTab (.dK kvs) := And.intro (fun _ z => nomatch z) (fun c q (z : HO.dK kvs = CodeO c q) => by unfold CodeO at z; cases z)
theorem NoTab.frz {o : Obj} {u : HO} : NoTab (.frz o u) := And.intro (fun _ z => nomatch z) (fun c q (z : HO.frz o u = CodeO c q) => by unfold CodeO at z; cases z)
theorem NoTab.lst {xs : List V} : NoTab (.lst xs) := And.intro (fun _ z => nomatch z) (fun c q (z : HO.lst xs = CodeO c q) => by unfold CodeO at z; cases z)
theorem NoTab.ins {C dx : Addr} {fs : List (Str × V)} : NoTab (.ins C dx fs) := And.intro (fun _ z => nomatch z) (fun c q (z : HO.ins C dx fs = CodeO c q) => by unfold CodeO at z; cases z)
theorem extN_new {H H' : Hp} {d : Addr} {o : HO} (e : ExtN H H') (hd : H d = none) : ExtN H (upd H' d o) := fun b u q n => by
  rw [upd_ne (ne_of_none q hd)]
  exact e b u q n
theorem putK_new {kvs : List (Key × V)} {k : Key} {v : V} (h : k ∉ kvs.map Prod.fst) : putK kvs k v = kvs ++ [(k, v)] := by
  unfold putK
  rw [if_neg]
  intro hh
  obtain ⟨x, hx, hk⟩ := List.any_eq_true.mp hh
  exact h (List.mem_map.mpr ⟨x, hx, of_decide_eq_true hk⟩)
theorem rowsT_keys {K : PySem.W.Frag} {H : Hp} : ∀ {kvs : List (Key × V)} {tb : List TRow}, Paired (RowT K H) kvs tb → kvs.map Prod.fst = (tb.map Prod.fst).map Sum.inr
  | _, _, .nil => rfl
  | _, _, .cons h r => by rw [List.map_cons, List.map_cons, List.map_cons, h.1, rowsT_keys r]
/-- the row of a name -/
theorem val_row {K : PySem.W.Frag} {H : Hp} {r : TRow} : ∀ {kvs : List (Key × V)} {tb : List TRow}, Paired (RowT K H) kvs tb → (tb.map Prod.fst).Nodup → r ∈ tb → ∃ a xs, valV kvs (.inr r.1) = some (.ref a) ∧ SqT K H a xs ∧ Tds K H xs (r.2.map En.pd)
  | [], [], .nil, _, hm => nomatch hm
  | (k, v) :: kvs, r0 :: tb, .cons h hr, nd, hm => by
    rw [List.map_cons, List.nodup_cons] at nd
    obtain ⟨hk, a, xs, e, h1, h2⟩ := h
    have hk : k = .inr r0.1 := hk
    have e : v = .ref a := e
    subst hk e
    rcases List.mem_cons.mp hm with rfl | hm
    · exact ⟨a, xs, by simp [valV], h1, h2⟩
    · obtain ⟨a', xs', g1, g2⟩ := val_row hr nd.2 hm
      have ne : (Sum.inr r0.1 : Key) ≠ .inr r.1 := fun z => nd.1 (List.mem_map.mpr ⟨r, hm, (Sum.inr.inj z).symm⟩)
      refine ⟨a', xs', ?_, g2⟩
      unfold valV at g1 ⊢
      rw [List.find?_cons, decide_eq_false ne]
      exact g1
/-- no choice comes back to itself by its first cases -/
def Fwd (tb : List TRow) : Prop := ∃ rank : Str → Nat, ∀ r ∈ tb, ∀ e, r.2[0]? = some e → ∀ c, e.of = some (.cho c) → rank r.1 < rank c ∧ c ∈ tb.map Prod.fst
/-! ### a schema's object -/
structure ClS (K : PySem.W.Frag) (C : Addr) : Prop where
  cl : Cls K C
  nK : NoAttr K C "kinds"
  nC : NoAttr K C "choices"
  nR : NoAttr K C "root"
/-- all but the object at p and the tables stay -/
def ButN (p : Addr) (H H' : Hp) : Prop := ∀ b o, b ≠ p → H b = some o → (∀ ps, o ≠ .tbl ps) → H' b = some o
theorem ButN.of {p : Addr} {H H' : Hp} (e : ExtN H H') : ButN p H H' := fun b o _ => e b o
theorem ButN.trans {p : Addr} {H H1 H2 : Hp} (a : ButN p H H1) (b : ButN p H1 H2) : ButN p H H2 := fun c o h e n => b c o h (a c o h e n) n
theorem ButN.put {p : Addr} {H H' : Hp} {o : HO} (a : ButN p H H') : ButN p H (upd H' p o) := fun c u h e n => by
  rw [upd_ne h]
  exact a c u h e n
theorem keepT_ins {K : PySem.W.Frag} {H : Hp} {p C dx : Addr} {fs fs' : List (Str × V)} (h : H p = some (.ins C dx fs)) : KeepT K H (upd H p (.ins C dx fs')) := KeepT.but fun b o e => by
  have nb : (∀ fs, o ≠ .ins C dx fs) → b ≠ p := fun n w => by
    rw [w, h] at e
    exact n _ (Option.some.inj e).symm
  exact ⟨fun xs w => by rw [upd_ne (nb fun k z => by rw [w] at z; cases z)]; exact e, fun q xs w => by rw [upd_ne (nb fun k z => by rw [w] at z; cases z)]; exact e⟩
/-- nothing but a table stands there -/
def New (H : Hp) (b : Addr) : Prop := ∀ o, H b = some o → ∃ ps, o = .tbl ps
/-- the schema at p: its rows (their tables out of N), its root -/
def ScAt (K : PySem.W.Frag) (C : Addr) (N : Addr → Prop) (H : Hp) (p : Addr) (tb1 tb2 : List TRow) (s : So) : Prop := ∃ (dx k1 k2 : Addr) (kv1 kv2 : List (Key × V)) (rv : V), N k1 ∧ N k2 ∧ H p = some (.ins C dx [("kinds", .ref k1), ("choices", .ref k2), ("root", rv)]) ∧ H k1 = some (.dK kv1) ∧ Paired (RowT K H) kv1 (sortT tb1) ∧ H k2 = some (.dK kv2) ∧ Paired (RowT K H) kv2 (sortT tb2) ∧ Td K H rv s.pd
/-- what makes a schema -/
structure ScOk (tb1 tb2 : List TRow) (s : So) : Prop where
  t1 : TabOk true (tb1.map Prod.fst) (tb2.map Prod.fst) tb1
  t2 : TabOk false (tb1.map Prod.fst) (tb2.map Prod.fst) tb2
  n1 : (tb1.map Prod.fst).Nodup
  n2 : (tb2.map Prod.fst).Nodup
  l1 : tb1.length ≤ 1000
  l2 : tb2.length ≤ 1000
  ok : s.ok (tb1.map Prod.fst) (tb2.map Prod.fst) false
  fwd : Fwd (sortT tb2)
end Tw
namespace K02
open PySem PySem.Spec PyProof.Rows L2 Tw Sb LamX
section
variable {P : Program} {w : World} {K : PySem.W.Frag} {mg : Str → Option Value} {base : Heap}
theorem ok_is_whole {f : Addr} {fd : FuncData} (F : Fun K "is_whole" "is_whole" s_is_whole f fd) (T : Bt mg) : FnOk P w K mg base CX0 1 f fd ["thing"] (spWhole K) := by
  refine F.ok sc_is_whole (fun vs H Q E h => ?_) (fun cdv A outer s H vs Q E hr h => ?_)
  · obtain ⟨v, t, b1, b2, rfl, _⟩ := h
    rfl
  · obtain ⟨v, t, b1, b2, rfl, hT, h1, h2, q⟩ := h
    refine ⟨_, (pss_one (ps_ret (pe_and (pe_callB (id := "isinstance") (r := rIsi K) call_isi (by rfl) T.n_isinstance (by decide +kernel) (pa_cons (pv 0) (pa_cons (pe_bltn (v := .ty "int") rfl T.n_int (by decide +kernel) rfl) pa_nil))) (pe_one (pe_not (pe_callB (id := "isinstance") (r := rIsi K) call_isi (by rfl) T.n_isinstance (by decide +kernel) (pa_cons (pv 0) (pa_cons (pe_bltn (v := .ty "bool") rfl T.n_bool (by decide +kernel) rfl) pa_nil)))))))), ?_⟩
    refine ⟨v, rfl, v, .ty "int", t, .type "int", b1, rfl, .ty "int", hT, h1, b1, rfl, ?_⟩
    cases b1 with
    | true => exact ⟨v, rfl, v, .ty "bool", t, .type "bool", b2, rfl, .ty "bool", hT, h2 rfl, b2, rfl, q⟩
    | false => exact q
theorem ok_is_row {f : Addr} {fd : FuncData} (F : Fun K "is_row" "is_row" s_is_row f fd) (T : Bt mg) : FnOk P w K mg base CX0 1 f fd ["thing"] (spRow K) := by
  refine F.ok sc_is_row (fun vs H Q E h => ?_) (fun cdv A outer s H vs Q E hr h => ?_)
  · obtain ⟨v, t, b, rfl, _⟩ := h
    rfl
  · obtain ⟨v, t, b, rfl, hT, h1, q⟩ := h
    refine ⟨_, (pss_one (ps_ret (pe_callB (id := "isinstance") (r := rIsiT K) call_isiT (by rfl) T.n_isinstance (by decide +kernel) (pa_cons (pv 0) (pa_cons (pe_tup (pa_cons (pe_bltn (v := .ty "list") rfl T.n_list (by decide +kernel) rfl) (pa_cons (pe_bltn (v := .ty "tuple") rfl T.n_tuple (by decide +kernel) rfl) pa_nil))) pa_nil))))), ?_⟩
    refine ⟨v, rfl, by show 2 ≤ sizeLine; decide, fun p hp => ?_⟩
    exact ⟨v, p, _, t, _, b, rfl, upd_same, .cons (.ty _) (.cons (.ty _) .nil), TyX.same (same_upd hp) hT, h1, q _ (same_upd hp)⟩
theorem ok_is_name {f : Addr} {fd : FuncData} (F : Fun K "is_name" "is_name" s_is_name f fd) (T : Bt mg) (g_LETTERS : ∃ u, mg "LETTERS" = some u ∧ RelV (.str alpha) u) (g_MOST_LETTERS : Gi mg "MOST_LETTERS" 8) : FnOk P w K mg base CX0 1 f fd ["thing"] (spName K) := by
  refine F.ok sc_is_name (fun vs H Q E h => ?_) (fun cdv A outer s H vs Q E hr h => ?_)
  · obtain ⟨v, t, b, rfl, _⟩ := h
    rfl
  · obtain ⟨v, t, b, rfl, hT, hk, h1, h0, q⟩ := h
    refine ⟨_, (pss_cons (ps_if (PW.pt (pw_or (pt_not (pt_val (pe_callB (id := "isinstance") (r := rIsi K) call_isi (by rfl) T.n_isinstance (by decide +kernel) (pa_cons (pv 0) (pa_cons (pe_bltn (v := .ty "str") rfl T.n_str (by decide +kernel) rfl) pa_nil))))) (pw_or1 (pt_not (pt_chain op_le op_le pe_int (pe_callB call_len_str (by rfl) T.n_len (by decide +kernel) (pa_cons (pv 0) pa_nil)) (C8.pe_gc rfl g_MOST_LETTERS))))))
        (pss_one (ps_ret pe_bl))
        pss_nil)
      (pss_one (ps_ret (pe_callB (cr_all rfl) (by rfl) T.n_all (by decide +kernel) (pa_cons (pe_lc (own := [("letter", 1)]) rfl sc_is_name.nd (pi_str (pv 0)) (blkOk_by (N := N_is_name) (sc := defScope s_is_name) (by decide +kernel)) (fun _ _ _ _ _ => (pg_name (i := 1) sc_is_name.nd rfl (.inl rfl))) (fun _ _ _ _ _ => pts_nil) (fun _ _ _ _ _ => (pe_cmpR op_in_sign (pv 1) (C8.pe_gc rfl g_LETTERS) (by rfl)))) pa_nil))))), ?_⟩
    refine ⟨v, rfl, v, .ty "str", t, .type "str", b, rfl, .ty "str", hT, hk, b, rfl, ?_⟩
    cases b with
    | false =>
      refine iteT ?_
      have e := h0 rfl
      rw [e] at q
      exact q _ (Same.refl _)
    | true =>
      obtain ⟨z, rfl, hz⟩ := h1 rfl
      have hzl : z.length ≤ sizeLine := Nat.le_trans hz.le (by decide)
      refine iteF ?_
      refine ⟨.str z, rfl, z, rfl, hzl, 1, (z.length : Int), rfl, rfl, _, rfl, ?_⟩
      refine ite2 (fun g1 => ?_) (fun g1 => ?_)
      · refine ⟨_, _, rfl, rfl, _, rfl, ?_⟩
        refine ite2 (fun g2 => ?_) (fun g2 => ?_)
        · have e8 : ¬ (z.length : Int) ≤ 8 := by simpa using g2
          have e : nmV (.str z) = false := by
            show isNm z = false
            unfold isNm
            rw [decide_eq_false (show ¬ z.length ≤ 8 by omega)]
            simp
          rw [e] at q
          exact q _ (Same.refl _)
        · have e8 : (z.length : Int) ≤ 8 := by simpa using g2
          have e1 : 1 ≤ (z.length : Int) := by simpa using g1
          have hsz : z.cps.size = z.cps.toList.length := by simp
          refine ⟨.str z, rfl, z, rfl, fun D hD => lc_it walk_str (fun i H' => Same H H' ∧ H' D = some (.lst ((z.cps.toList.take i).map fun c => V.bl (isLow c)))) ⟨same_upd hD, upd_same⟩ (fun _ _ _ _ => trivial) ?_ ?_⟩
          · rintro i x H1 H2 hi ⟨hs, hl⟩ ⟨rfl, c, hc, rfl⟩
            refine ⟨rfl, _, rfl, c, alpha, rfl, rfl, _, hl, ?_, ?_, ?_⟩
            · rw [List.length_map, List.length_take]
              exact Nat.lt_of_le_of_lt (Nat.min_le_left _ _) (small1000 (by have e : z.cps.size = z.length := rfl; omega))
            · intro b o e
              have n : b ≠ D := ne_of_none e hD
              rw [upd_ne n]
              exact hs b o e
            · rw [upd_same, mem_alpha]
              have hc' : z.cps.toList[i]? = some c := by simpa using hc
              rw [List.take_add_one, hc', List.map_append]
              rfl
          · rintro H1 ⟨hs, hl⟩
            rw [hsz, List.take_length] at hl
            refine ⟨D, z.cps.toList.map isLow, rfl, .inl (.inl (by rw [hl, List.map_map]; rfl)), ?_⟩
            have e : nmV (.str z) = (z.cps.toList.map isLow).all id := by
              show isNm z = _
              unfold isNm
              rw [decide_eq_true (show 1 ≤ z.length by omega), decide_eq_true (show z.length ≤ 8 by omega), List.all_map]
              rfl
            rw [← e]
            exact q _ hs
      · refine ⟨_, rfl, ?_⟩
        have e1 : ¬ 1 ≤ (z.length : Int) := by simpa using g1
        have e : nmV (.str z) = false := by
          show isNm z = false
          unfold isNm
          rw [decide_eq_false (show ¬ 1 ≤ z.length by omega)]
          rfl
        rw [e] at q
        exact q _ (Same.refl _)
end
end K02
namespace K02
open PySem PySem.Spec PyProof.Rows L2 Tw Sb LamX
def spCode : Sp := fun vs H Q _ => ∃ (c : Nat), vs = [.int c] ∧ plainC c = true ∧ Q (.bl true) H
def spText : Sp := fun vs H Q _ => ∃ (z : Str), vs = [.str z] ∧ z.cps.toList.all plainC = true ∧ z.length ≤ 1000 ∧ ∀ H', Same H H' → Q (.bl true) H'
def spKB : Sp := fun vs H Q _ => ∃ (n : Int) (lo hi : Option Int), vs = [.int n, oV lo, oV hi] ∧ (∀ a, lo = some a → a ≤ n) ∧ (∀ b, hi = some b → n ≤ b) ∧ Q (.bl true) H
def spKF : Sp := fun vs H Q _ => ∃ (n : Int), vs = [.int n] ∧ -figs ≤ n ∧ n ≤ figs ∧ Q (.bl true) H
def spMost : Sp := fun vs H Q _ => ∃ (m l : Int), vs = [.int m, .int l] ∧ 0 ≤ m ∧ m ≤ l ∧ Q (.bl true) H
def spBounds : Sp := fun vs H Q _ => ∃ (lo hi : Option Int), vs = [oV lo, oV hi] ∧ loHi lo hi ∧ Q (.bl true) H
def spFirst (K : PySem.W.Frag) : Sp := fun vs H Q _ => ∃ (v : V) (s : Str) (r : List PyData), vs = [v] ∧ Td K H v (.tuple (.str s :: r)) ∧ r.length ≤ 1000 ∧ Q (.str s) H
section
variable {P : Program} {w : World} {K : PySem.W.Frag} {mg : Str → Option Value} {base : Heap}
theorem ok_is_code {f : Addr} {fd : FuncData} (F : Fun K "is_code" "is_code" s_is_code f fd) (g_FIRST_SIGN : Gi mg "FIRST_SIGN" 32) (g_LAST_SIGN : Gi mg "LAST_SIGN" 126) (g_PERCENT_SIGN : Gi mg "PERCENT_SIGN" 37) : FnOk P w K mg base CX0 1 f fd ["code"] spCode := by
  refine F.ok sc_is_code (fun vs H Q E h => ?_) (fun cdv A outer s H vs Q E hr h => ?_)
  · obtain ⟨c, rfl, _⟩ := h
    rfl
  · obtain ⟨c, rfl, hc, q⟩ := h
    refine ⟨_, (pss_one (ps_ret (pe_and (pe_chain op_le op_le (C8.pe_gc rfl g_FIRST_SIGN) (pv 0) (C8.pe_gc rfl g_LAST_SIGN)) (pe_one (pe_cmpR op_ne (pv 0) (C8.pe_gc rfl g_PERCENT_SIGN) (nomark _)))))), ?_⟩
    unfold plainC at hc
    have hc := of_decide_eq_true hc
    refine ⟨_, rfl, 32, c, rfl, rfl, _, rfl, ?_⟩
    rw [decide_eq_true (show (32 : Int) ≤ c by omega)]
    refine ⟨c, 126, rfl, rfl, ?_⟩
    dsimp only
    rw [decide_eq_true (show (c : Int) ≤ 126 by omega)]
    refine ⟨_, rfl, _, rfl, rfl, ?_⟩
    rw [decide_eq_false (show ¬ V.int (c : Int) = V.int 37 from fun z => by have := V.int.inj z; omega)]
    exact q
theorem ok_keeps_bounds {f : Addr} {fd : FuncData} (F : Fun K "keeps_bounds" "keeps_bounds" s_keeps_bounds f fd) : FnOk P w K mg base CX0 1 f fd ["number", "low", "high"] spKB := by
  refine F.ok sc_keeps_bounds (fun vs H Q E h => ?_) (fun cdv A outer s H vs Q E hr h => ?_)
  · obtain ⟨n, lo, hi, rfl, _⟩ := h
    rfl
  · obtain ⟨n, lo, hi, rfl, h1, h2, q⟩ := h
    refine ⟨_, (pss_cons (ps_if (PW.pt (pw_and (pt_cmpR op_notN (pv 1) pe_non (nomark _)) (pw_and1 (pt_cmpR op_lt (pv 0) (pv 1) (nomark _)))))
        (pss_one (ps_ret pe_bl))
        pss_nil)
      (pss_one (ps_ret (pe_or (pe_cmpR op_isN (pv 2) pe_non (nomark _)) (pe_one (pe_cmpR op_le (pv 0) (pv 2) (nomark _))))))), ?_⟩
    have fin : (tRet (tOrV (tOp (fun x y H Q => y = V.non ∧ Q (V.bl (decide (x = V.non))) H) (tVar 2) (tC V.non)) (tOp (rI0 fun i j => V.bl (decide (i ≤ j))) (tVar 0) (tVar 2)))) { nx := fun x H' => Q V.non H', rt := Q } (L2.start N_keeps_bounds [V.int n, oV lo, oV hi]) H := by
      refine ⟨_, rfl, rfl, _, rfl, ?_⟩
      cases hi with
      | none =>
        rw [oV_none]
        exact q
      | some b =>
        rw [oV_some]
        refine ⟨_, rfl, _, rfl, n, b, rfl, rfl, ?_⟩
        dsimp only
        rw [decide_eq_true (h2 b rfl)]
        exact q
    refine ⟨_, rfl, rfl, _, rfl, ?_⟩
    cases lo with
    | none =>
      rw [oV_none]
      exact iteF fin
    | some a =>
      rw [oV_some]
      refine ⟨_, rfl, _, rfl, n, a, rfl, rfl, _, rfl, ?_⟩
      rw [decide_eq_false (show ¬ n < a by have := h1 a rfl; omega)]
      exact iteF fin
theorem ok_keeps_figures {f : Addr} {fd : FuncData} (F : Fun K "keeps_figures" "keeps_figures" s_keeps_figures f fd) (T : Bu mg) (g_GREATEST_NUMBER : Gi mg "GREATEST_NUMBER" figs) : FnOk P w K mg base CX0 1 f fd ["number"] spKF := by
  refine F.ok sc_keeps_figures (fun vs H Q E h => ?_) (fun cdv A outer s H vs Q E hr h => ?_)
  · obtain ⟨n, rfl, _⟩ := h
    rfl
  · obtain ⟨n, rfl, h1, h2, q⟩ := h
    refine ⟨_, (pss_one (ps_ret (pe_cmpR op_le (pe_callB call_abs (by rfl) T.n_abs (by decide +kernel) (pa_cons (pv 0) pa_nil)) (C8.pe_gc rfl g_GREATEST_NUMBER) (nomark _)))), ?_⟩
    refine ⟨_, rfl, n, rfl, _, figs, rfl, rfl, ?_⟩
    dsimp only
    rw [decide_eq_true (show (if n < 0 then -n else n) ≤ figs by split <;> omega)]
    exact q
theorem ok_is_most {f : Addr} {fd : FuncData} (F : Fun K "_is_most" "_is_most" s__is_most f fd) (c_is_whole : Cal P w K mg base 1 "is_whole" ["thing"] (spWhole K)) : FnOk P w K mg base CX0 2 f fd ["most", "limit"] spMost := by
  refine F.ok sc__is_most (fun vs H Q E h => ?_) (fun cdv A outer s H vs Q E hr h => ?_)
  · obtain ⟨m, l, rfl, _⟩ := h
    rfl
  · obtain ⟨m, l, rfl, h1, h2, q⟩ := h
    refine ⟨_, (pss_one (ps_ret (pe_and (pe_cal c_is_whole hr (by decide) (by rfl) (pa_cons (pv 0) pa_nil)) (pe_one (pe_chain op_le op_le pe_int (pv 0) (pv 1)))))), ?_⟩
    refine ⟨_, rfl, .int m, .type "int", true, false, rfl, .base (.int m), kit_ty (by decide +kernel), fun _ => kit_ty (by decide +kernel), ?_⟩
    refine ⟨_, rfl, _, rfl, 0, m, rfl, rfl, ?_⟩
    dsimp only
    rw [decide_eq_true h1]
    refine ⟨_, rfl, ?_⟩
    refine iteT ⟨_, rfl, m, l, rfl, rfl, ?_⟩
    dsimp only
    rw [decide_eq_true h2]
    exact q
theorem ok_are_bounds {f : Addr} {fd : FuncData} (F : Fun K "_are_bounds" "_are_bounds" s__are_bounds f fd) (c_is_whole : Cal P w K mg base 1 "is_whole" ["thing"] (spWhole K)) : FnOk P w K mg base CX0 2 f fd ["low", "high"] spBounds := by
  refine F.ok sc__are_bounds (fun vs H Q E h => ?_) (fun cdv A outer s H vs Q E hr h => ?_)
  · obtain ⟨lo, hi, rfl, _⟩ := h
    rfl
  · obtain ⟨lo, hi, rfl, h1, q⟩ := h
    refine ⟨_, (pss_cons (ps_if (PW.pt (pw_and (pt_cmpR op_notN (pv 0) pe_non (nomark _)) (pw_and1 (pt_not (pt_val (pe_cal c_is_whole hr (by decide) (by rfl) (pa_cons (pv 0) pa_nil)))))))
        (pss_one (ps_ret pe_bl))
        pss_nil)
      (pss_cons (ps_if (PW.pt (pw_and (pt_cmpR op_notN (pv 1) pe_non (nomark _)) (pw_and1 (pt_not (pt_val (pe_cal c_is_whole hr (by decide) (by rfl) (pa_cons (pv 1) pa_nil)))))))
        (pss_one (ps_ret pe_bl))
        pss_nil)
      (pss_one (ps_ret (pe_or (pe_cmpR op_isN (pv 0) pe_non (nomark _)) (pe_or (pe_cmpR op_isN (pv 1) pe_non (nomark _)) (pe_one (pe_cmpR op_le (pv 0) (pv 1) (nomark _))))))))), ?_⟩
    have fin : (tRet (tOrV (tOp (fun x y H Q => y = V.non ∧ Q (V.bl (decide (x = V.non))) H) (tVar 0) (tC V.non)) (tOrV (tOp (fun x y H Q => y = V.non ∧ Q (V.bl (decide (x = V.non))) H) (tVar 1) (tC V.non)) (tOp (rI0 fun i j => V.bl (decide (i ≤ j))) (tVar 0) (tVar 1))))) { nx := fun x H' => Q V.non H', rt := Q } (L2.start N__are_bounds [oV lo, oV hi]) H := by
      refine ⟨_, rfl, rfl, _, rfl, ?_⟩
      cases lo with
      | none =>
        rw [oV_none]
        exact q
      | some a =>
        rw [oV_some]
        refine ⟨_, rfl, rfl, _, rfl, ?_⟩
        cases hi with
        | none =>
          rw [oV_none]
          exact q
        | some b =>
          rw [oV_some]
          refine ⟨_, rfl, _, rfl, a, b, rfl, rfl, ?_⟩
          dsimp only
          rw [decide_eq_true (show a ≤ b from h1)]
          exact q
    have fin2 : (tSeq (tIfS (tAnd (tTest (tOp (fun x y H Q => y = V.non ∧ Q (V.bl !decide (x = V.non)) H) (tVar 1) (tC V.non))) (tNot (tB (tCall (spWhole K) [] E0 (tCons (tVar 1) tNil))))) (tRet (tC (V.bl false))) tNext) (tRet (tOrV (tOp (fun x y H Q => y = V.non ∧ Q (V.bl (decide (x = V.non))) H) (tVar 0) (tC V.non)) (tOrV (tOp (fun x y H Q => y = V.non ∧ Q (V.bl (decide (x = V.non))) H) (tVar 1) (tC V.non)) (tOp (rI0 fun i j => V.bl (decide (i ≤ j))) (tVar 0) (tVar 1)))))) { nx := fun x H' => Q V.non H', rt := Q } (L2.start N__are_bounds [oV lo, oV hi]) H := by
      refine ⟨_, rfl, rfl, _, rfl, ?_⟩
      cases hi with
      | none =>
        rw [oV_none]
        exact iteF fin
      | some a =>
        rw [oV_some]
        exact ⟨_, rfl, .int a, .type "int", true, false, rfl, .base (.int a), kit_ty (by decide +kernel), fun _ => kit_ty (by decide +kernel), true, rfl, iteF fin⟩
    refine ⟨_, rfl, rfl, _, rfl, ?_⟩
    cases lo with
    | none =>
      rw [oV_none]
      exact iteF fin2
    | some a =>
      rw [oV_some]
      exact ⟨_, rfl, .int a, .type "int", true, false, rfl, .base (.int a), kit_ty (by decide +kernel), fun _ => kit_ty (by decide +kernel), true, rfl, iteF fin2⟩
theorem ok_first_word {f : Addr} {fd : FuncData} (F : Fun K "_first_word" "_first_word" s__first_word f fd) (T : Bu mg) : FnOk P w K mg base CX0 1 f fd ["of"] (spFirst K) := by
  refine F.ok sc__first_word (fun vs H Q E h => ?_) (fun cdv A outer s H vs Q E hr h => ?_)
  · obtain ⟨v, s, r, rfl, _⟩ := h
    rfl
  · obtain ⟨v, z, r, rfl, h1, hl, q⟩ := h
    refine ⟨_, (pss_cons (ps_if (PW.pt (pw_and (pt_val (pe_callB (id := "isinstance") (r := rIsi K) call_isi (by rfl) T.n_isinstance (by decide +kernel) (pa_cons (pv 0) (pa_cons (pe_bltn (v := .ty "tuple") rfl T.n_tuple (by decide +kernel) rfl) pa_nil)))) (pw_and (pt_cmpR op_gt (pe_callB call_len_seq (by rfl) T.n_len (by decide +kernel) (pa_cons (pv 0) pa_nil)) pe_int (nomark _)) (pw_and1 (pt_val (pe_callB (id := "isinstance") (r := rIsi K) call_isi (by rfl) T.n_isinstance (by decide +kernel) (pa_cons (pe_ix (r := rIxT K) ix_tup (pv 0) pe_int (fun _ _ => rfl)) (pa_cons (pe_bltn (v := .ty "str") rfl T.n_str (by decide +kernel) rfl) pa_nil))))))))
        (pss_one (ps_ret (pe_ix (r := rIxT K) ix_tup (pv 0) pe_int (fun _ _ => rfl))))
        pss_nil)
      (pss_one (ps_ret pe_str))), ?_⟩
    obtain ⟨a, xs, rfl, hq, ht⟩ := h1.row
    cases ht with
    | cons hx hr' =>
      cases hx
      refine ⟨_, rfl, .ref a, .ty "tuple", .type "tuple", .type "tuple", true, rfl, .ty "tuple", SqT.ty hq, kit_ty (by decide +kernel), true, rfl, ?_⟩
      refine ⟨_, rfl, a, _, rfl, .inr hq, _, 0, rfl, rfl, _, rfl, ?_⟩
      dsimp only
      rw [decide_eq_true (show (0 : Int) < ((V.str z :: _ : List V).length : Nat) by simp only [List.length_cons]; omega)]
      refine iteT ⟨_, rfl, a, _, 0, .str z, rfl, rfl, hq, at0, .str z, .ty "str", .type "str", .type "str", true, rfl, .ty "str", .base (.str z), kit_ty (by decide +kernel), true, rfl, ?_⟩
      exact iteT ⟨_, rfl, a, _, 0, .str z, rfl, rfl, hq, at0, q⟩
end
end K02
namespace K02
open PySem PySem.Spec PyProof.Rows L2 Tw Sb LamX
def spInmost (K : PySem.W.Frag) : Sp := fun vs H Q _ => ∃ (v : V) (s : So) (i : Bool) (a b : Addr) (ks cs : List Str), vs = [.str s.word, v, .ref a, .ref b] ∧ Td K H v s.pd ∧ NmL H a ks ∧ NmL H b cs ∧ s.inmost ∧ s.ok ks cs i ∧ ∀ H', Same H H' → Q (.bl true) H'
def spSort (K : PySem.W.Frag) : Sp := fun vs H Q _ => ∃ (v : V) (s : So) (a b : Addr) (ks cs : List Str), vs = [v, .ref a, .ref b] ∧ Td K H v s.pd ∧ NmL H a ks ∧ NmL H b cs ∧ s.ok ks cs false ∧ ∀ H', Same H H' → Q (.bl true) H'
def spDeflt (K : PySem.W.Frag) : Sp := fun vs H Q _ => ∃ (v u : V) (s : So) (d : PyData), vs = [v, u] ∧ Td K H v s.pd ∧ Td K H u d ∧ DefOk s d ∧ ∀ H', Same H H' → Q (.bl true) H'
section
variable {P : Program} {w : World} {K : PySem.W.Frag} {mg : Str → Option Value} {base : Heap}
theorem ok_is_text {f : Addr} {fd : FuncData} (F : Fun K "is_text" "is_text" s_is_text f fd) (T : Bu mg) (c_is_code : Cal P w K mg base 1 "is_code" ["code"] spCode) : FnOk P w K mg base CX0 2 f fd ["thing"] spText := by
  refine F.ok sc_is_text (fun vs H Q E h => ?_) (fun cdv A outer s H vs Q E hr h => ?_)
  · obtain ⟨z, rfl, _⟩ := h
    rfl
  · obtain ⟨z, rfl, hp, hl, q⟩ := h
    refine ⟨_, (pss_one (ps_ret (pe_and (pe_callB (id := "isinstance") (r := rIsi K) call_isi (by rfl) T.n_isinstance (by decide +kernel) (pa_cons (pv 0) (pa_cons (pe_bltn (v := .ty "str") rfl T.n_str (by decide +kernel) rfl) pa_nil))) (pe_one (pe_callB (cr_all rfl) (by rfl) T.n_all (by decide +kernel) (pa_cons (pe_lc (own := [("sign", 1)]) rfl sc_is_text.nd (pi_str (pv 0)) (blkOk_by (N := N_is_text) (sc := defScope s_is_text) (by decide +kernel)) (fun _ _ _ _ _ => (pg_name (i := 1) sc_is_text.nd rfl (.inl rfl))) (fun _ _ _ _ _ => pts_nil) (fun _ _ _ _ _ => (pe_cal c_is_code hr (by decide) (by rfl) (pa_cons (pe_callB call_ord (by rfl) T.n_ord (by decide +kernel) (pa_cons (pv 1) pa_nil)) pa_nil)))) pa_nil)))))), ?_⟩
    refine ⟨_, rfl, .str z, .ty "str", .type "str", .type "str", true, rfl, .ty "str", .base (.str z), kit_ty (by decide +kernel), true, rfl, ?_⟩
    refine iteT ⟨.str z, rfl, z, rfl, fun D hD => lc_it walk_str (fun i H' => Same H H' ∧ H' D = some (.lst (List.replicate i (.bl true)))) ⟨same_upd hD, upd_same⟩ (fun _ _ _ _ => trivial) ?_ ?_⟩
    · rintro i x H1 H2 hi ⟨hs, hL⟩ ⟨rfl, c, hc, rfl⟩
      have hc' : c ∈ z.cps.toList := List.mem_of_getElem? (by simpa using hc)
      refine ⟨rfl, _, rfl, ⟨#[c]⟩, rfl, rfl, c, rfl, List.all_eq_true.mp hp c hc', _, hL, ?_, fun b o e => ?_, ?_⟩
      · rw [List.length_replicate]
        exact small1000 (by have e : z.cps.size = z.length := rfl; omega)
      · rw [upd_ne (ne_of_none e hD)]
        exact hs b o e
      · rw [upd_same, List.replicate_succ']
    · rintro H1 ⟨hs, hL⟩
      refine ⟨D, List.replicate z.cps.size true, rfl, .inl (.inl (by rw [hL, List.map_replicate])), ?_⟩
      rw [show (List.replicate z.cps.size true).all id = true by simp]
      exact q _ hs
theorem ok_is_inmost {f : Addr} {fd : FuncData} (F : Fun K "_is_inmost" "_is_inmost" s__is_inmost f fd) (T : Bu mg) (g_MOST_SIGNS : Gi mg "MOST_SIGNS" 40) (c_is_name : Cal P w K mg base 1 "is_name" ["thing"] (spName K)) (c__is_most : Cal P w K mg base 2 "_is_most" ["most", "limit"] spMost) (c__are_bounds : Cal P w K mg base 2 "_are_bounds" ["low", "high"] spBounds) :
    FnOk P w K mg base CX0 3 f fd ["word", "of", "kinds", "choices"] (spInmost K) := by
  refine F.ok sc__is_inmost (fun vs H Q E h => ?_) (fun cdv A outer s H vs Q E hr h => ?_)
  · obtain ⟨v, z, i, a, b, ks, cs, rfl, _⟩ := h
    rfl
  · obtain ⟨v, z, i, a, b, ks, cs, rfl, hT, hk, hc, hm, ho, q⟩ := h
    refine ⟨_, (pss_cons (ps_if (pt_cmpR op_eq (pv 0) pe_str (nomark _))
        (pss_one (ps_ret (pe_and (pe_cmpR op_eq (pe_callB call_len_seq (by rfl) T.n_len (by decide +kernel) (pa_cons (pv 1) pa_nil)) pe_int (nomark _)) (pe_one (pe_cal c__are_bounds hr (by decide) (by rfl) (pa_cons (pe_ix (r := rIxT K) ix_tup (pv 1) pe_int (fun _ _ => rfl)) (pa_cons (pe_ix (r := rIxT K) ix_tup (pv 1) pe_int (fun _ _ => rfl)) pa_nil)))))))
        pss_nil)
      (pss_cons (ps_if (pt_cmpR op_eq (pv 0) pe_str (nomark _))
        (pss_one (ps_ret (pe_cmpR op_eq (pe_callB call_len_seq (by rfl) T.n_len (by decide +kernel) (pa_cons (pv 1) pa_nil)) pe_int (nomark _))))
        pss_nil)
      (pss_cons (ps_if (pt_cmpR op_eq (pv 0) pe_str (nomark _))
        (pss_one (ps_ret (pe_and (pe_cmpR op_eq (pe_callB call_len_seq (by rfl) T.n_len (by decide +kernel) (pa_cons (pv 1) pa_nil)) pe_int (nomark _)) (pe_one (pe_cal c__is_most hr (by decide) (by rfl) (pa_cons (pe_ix (r := rIxT K) ix_tup (pv 1) pe_int (fun _ _ => rfl)) (pa_cons (C8.pe_gc rfl g_MOST_SIGNS) pa_nil)))))))
        pss_nil)
      (pss_cons (ps_if (pt_cmpR op_eq (pv 0) pe_str (nomark _))
        (pss_one (ps_ret (pe_and (pe_cmpR op_eq (pe_callB call_len_seq (by rfl) T.n_len (by decide +kernel) (pa_cons (pv 1) pa_nil)) pe_int (nomark _)) (pe_and (pe_cal c_is_name hr (by decide) (by rfl) (pa_cons (pe_ix (r := rIxT K) ix_tup (pv 1) pe_int (fun _ _ => rfl)) pa_nil)) (pe_one (pe_cmpR op_in_seq (pe_ix (r := rIxT K) ix_tup (pv 1) pe_int (fun _ _ => rfl)) (pv 2) (by rfl)))))))
        pss_nil)
      (pss_cons (ps_if (pt_cmpR op_eq (pv 0) pe_str (nomark _))
        (pss_one (ps_ret (pe_and (pe_cmpR op_eq (pe_callB call_len_seq (by rfl) T.n_len (by decide +kernel) (pa_cons (pv 1) pa_nil)) pe_int (nomark _)) (pe_and (pe_cal c_is_name hr (by decide) (by rfl) (pa_cons (pe_ix (r := rIxT K) ix_tup (pv 1) pe_int (fun _ _ => rfl)) pa_nil)) (pe_one (pe_cmpR op_in_seq (pe_ix (r := rIxT K) ix_tup (pv 1) pe_int (fun _ _ => rfl)) (pv 3) (by rfl)))))))
        pss_nil)
      (pss_one (ps_ret pe_bl))))))), ?_⟩
    obtain ⟨p, xs, rfl, hq, ht⟩ := hT.row
    have len : ∀ {ds : List PyData}, Tds K H xs ds → xs.length = ds.length := fun h => h.len
    cases z with
    | row n s => exact hm.elim
    | may s => exact hm.elim
    | num lo hi =>
      refine ⟨_, rfl, rfl, _, rfl, iteY rfl ?_⟩
      refine ⟨_, rfl, p, _, rfl, .inr hq, rfl, _, rfl, ?_⟩
      rw [len ht]
      obtain ⟨x0, x1, x2, rfl, h1, h2⟩ : ∃ x0 x1 x2, xs = [x0, x1, x2] ∧ x1 = oV lo ∧ x2 = oV hi := by
        cases ht with
        | cons t0 t1 =>
          cases t1 with
          | cons t1 t2 =>
            cases t2 with
            | cons t2 t3 =>
              cases t3
              exact ⟨_, _, _, rfl, t1.oV, t2.oV⟩
      subst h1 h2
      refine iteY rfl ⟨_, rfl, p, _, 1, oV lo, rfl, rfl, hq, at1, _, rfl, p, _, 2, oV hi, rfl, rfl, hq, at2, lo, hi, rfl, ho, ?_⟩
      exact q _ (Same.refl _)
    | tru =>
      refine ⟨_, rfl, rfl, _, rfl, iteN (sne (show ("truth" : Str) ≠ "number" by decide +kernel)) ?_⟩
      refine ⟨_, rfl, rfl, _, rfl, iteY rfl ?_⟩
      refine ⟨_, rfl, p, _, rfl, .inr hq, rfl, ?_⟩
      rw [len ht]
      exact q _ (Same.refl _)
    | txt n =>
      refine ⟨_, rfl, rfl, _, rfl, iteN (sne (show ("text" : Str) ≠ "number" by decide +kernel)) ?_⟩
      refine ⟨_, rfl, rfl, _, rfl, iteN (sne (show ("text" : Str) ≠ "truth" by decide +kernel)) ?_⟩
      refine ⟨_, rfl, rfl, _, rfl, iteY rfl ?_⟩
      refine ⟨_, rfl, p, _, rfl, .inr hq, rfl, _, rfl, ?_⟩
      rw [len ht]
      obtain ⟨x0, x1, rfl, h1⟩ : ∃ x0 x1, xs = [x0, x1] ∧ x1 = .int n := by
        cases ht with
        | cons t0 t1 =>
          cases t1 with
          | cons t1 t2 =>
            cases t2
            exact ⟨_, _, rfl, t1.toInt⟩
      subst h1
      refine iteY rfl ⟨_, rfl, p, _, 1, .int n, rfl, rfl, hq, at1, n, 40, rfl, ho.1, ho.2, ?_⟩
      exact q _ (Same.refl _)
    | nod k =>
      refine ⟨_, rfl, rfl, _, rfl, iteN (sne (show ("node" : Str) ≠ "number" by decide +kernel)) ?_⟩
      refine ⟨_, rfl, rfl, _, rfl, iteN (sne (show ("node" : Str) ≠ "truth" by decide +kernel)) ?_⟩
      refine ⟨_, rfl, rfl, _, rfl, iteN (sne (show ("node" : Str) ≠ "text" by decide +kernel)) ?_⟩
      refine ⟨_, rfl, rfl, _, rfl, iteY rfl ?_⟩
      refine ⟨_, rfl, p, _, rfl, .inr hq, rfl, _, rfl, ?_⟩
      rw [len ht]
      obtain ⟨x0, x1, rfl, h1⟩ : ∃ x0 x1, xs = [x0, x1] ∧ x1 = .str k := by
        cases ht with
        | cons t0 t1 =>
          cases t1 with
          | cons t1 t2 =>
            cases t2
            exact ⟨_, _, rfl, t1.toStr⟩
      subst h1
      refine iteY rfl ⟨_, rfl, p, _, 1, .str k, rfl, rfl, hq, at1, .str k, .type "str", true, rfl, .base (.str k), kit_ty (by decide +kernel), fun _ => ⟨k, rfl, (nm_asc ho.1).mono (by decide)⟩, (fun z => nomatch z), fun H1 s1 => ⟨true, congrArg V.bl ho.1, iteT ?_⟩⟩
      refine ⟨_, rfl, p, _, 1, .str k, rfl, rfl, KeepT.same s1 _ _ hq, at1, _, rfl, a, _, rfl, .inl (SqL.of (s1 _ _ hk)), rfl, flat_strs ks, ?_⟩
      rw [in_strs ho.2]
      exact q _ s1
    | cho k =>
      refine ⟨_, rfl, rfl, _, rfl, iteN (sne (show ("choice" : Str) ≠ "number" by decide +kernel)) ?_⟩
      refine ⟨_, rfl, rfl, _, rfl, iteN (sne (show ("choice" : Str) ≠ "truth" by decide +kernel)) ?_⟩
      refine ⟨_, rfl, rfl, _, rfl, iteN (sne (show ("choice" : Str) ≠ "text" by decide +kernel)) ?_⟩
      refine ⟨_, rfl, rfl, _, rfl, iteN (sne (show ("choice" : Str) ≠ "node" by decide +kernel)) ?_⟩
      refine ⟨_, rfl, rfl, _, rfl, iteY rfl ?_⟩
      refine ⟨_, rfl, p, _, rfl, .inr hq, rfl, _, rfl, ?_⟩
      rw [len ht]
      obtain ⟨x0, x1, rfl, h1⟩ : ∃ x0 x1, xs = [x0, x1] ∧ x1 = .str k := by
        cases ht with
        | cons t0 t1 =>
          cases t1 with
          | cons t1 t2 =>
            cases t2
            exact ⟨_, _, rfl, t1.toStr⟩
      subst h1
      refine iteY rfl ⟨_, rfl, p, _, 1, .str k, rfl, rfl, hq, at1, .str k, .type "str", true, rfl, .base (.str k), kit_ty (by decide +kernel), fun _ => ⟨k, rfl, (nm_asc ho.1).mono (by decide)⟩, (fun z => nomatch z), fun H1 s1 => ⟨true, congrArg V.bl ho.1, iteT ?_⟩⟩
      refine ⟨_, rfl, p, _, 1, .str k, rfl, rfl, KeepT.same s1 _ _ hq, at1, _, rfl, b, _, rfl, .inl (SqL.of (s1 _ _ hc)), rfl, flat_strs cs, ?_⟩
      rw [in_strs ho.2]
      exact q _ s1
theorem ok_is_sort {f : Addr} {fd : FuncData} (F : Fun K "is_sort" "is_sort" s_is_sort f fd) (T : Bu mg) (g_MOST_IN_ROW : Gi mg "MOST_IN_ROW" 20) (c__first_word : Cal P w K mg base 1 "_first_word" ["of"] (spFirst K)) (c__is_most : Cal P w K mg base 2 "_is_most" ["most", "limit"] spMost) (c__is_inmost : Cal P w K mg base 3 "_is_inmost" ["word", "of", "kinds", "choices"] (spInmost K)) :
    FnOk P w K mg base CX0 4 f fd ["of", "kinds", "choices"] (spSort K) := by
  refine F.ok sc_is_sort (fun vs H Q E h => ?_) (fun cdv A outer s H vs Q E hr h => ?_)
  · obtain ⟨v, z, a, b, ks, cs, rfl, _⟩ := h
    rfl
  · obtain ⟨v, z, a, b, ks, cs, rfl, hT, hk, hc, ho, q⟩ := h
    refine ⟨_, (pss_cons (ps_set (i := 3) sc_is_sort.nd rfl (.inl rfl) pe_bl)
      (pss_one (ps_while PassesOwn.never (pt_val pe_bl)
        (pss_cons (ps_set (i := 4) sc_is_sort.nd rfl (.inl rfl) (pe_cal c__first_word hr (by decide) (by rfl) (pa_cons (pv 0) pa_nil)))
        (pss_one (ps_if (PW.pt (pw_and (pt_cmpR op_eq (pv 4) pe_str (nomark _)) (pw_and (pt_cmpR op_eq (pe_callB call_len_seq (by rfl) T.n_len (by decide +kernel) (pa_cons (pv 0) pa_nil)) pe_int (nomark _)) (pw_and1 (pt_val (pe_cal c__is_most hr (by decide) (by rfl) (pa_cons (pe_ix (r := rIxT K) ix_tup (pv 0) pe_int (fun _ _ => rfl)) (pa_cons (C8.pe_gc rfl g_MOST_IN_ROW) pa_nil))))))))
          (pss_cons (ps_set (i := 0) sc_is_sort.nd rfl (.inl rfl) (pe_ix (r := rIxT K) ix_tup (pv 0) pe_int (fun _ _ => rfl)))
          (pss_one (ps_set (i := 3) sc_is_sort.nd rfl (.inl rfl) pe_bl)))
          (pss_one (ps_if (PW.pt (pw_and (pt_cmpR op_eq (pv 4) pe_str (nomark _)) (pw_and (pt_cmpR op_eq (pe_callB call_len_seq (by rfl) T.n_len (by decide +kernel) (pa_cons (pv 0) pa_nil)) pe_int (nomark _)) (pw_and1 (pt_not (pt_val (pv 3)))))))
            (pss_cons (ps_set (i := 0) sc_is_sort.nd rfl (.inl rfl) (pe_ix (r := rIxT K) ix_tup (pv 0) pe_int (fun _ _ => rfl)))
            (pss_one (ps_set (i := 3) sc_is_sort.nd rfl (.inl rfl) pe_bl)))
            (pss_one (ps_ret (pe_cal c__is_inmost hr (by decide) (by rfl) (pa_cons (pv 4) (pa_cons (pv 0) (pa_cons (pv 1) (pa_cons (pv 2) pa_nil))))))))))))))), ?_⟩
    refine ⟨fun m σ H' => ∃ (v : V) (z : So) (i : Bool) (y : Option V), σ = [some v, some (.ref a), some (.ref b), some (.bl i), y] ∧ Td K H v z.pd ∧ z.ok ks cs i ∧ H = H' ∧ z.depth = m, ⟨z.depth, v, z, false, none, rfl, hT, ho, rfl, rfl⟩, ?_⟩
    rintro m σ H' ⟨v, z, i, y, rfl, hT, ho, rfl, rfl⟩
    refine ⟨true, rfl, iteT ?_⟩
    refine ⟨fun σ' H' => ∃ m', m' < z.depth ∧ ∃ (v : V) (z : So) (i : Bool) (y : Option V), σ' = [some v, some (.ref a), some (.ref b), some (.bl i), y] ∧ Td K H v z.pd ∧ z.ok ks cs i ∧ H = H' ∧ z.depth = m', fun σ' H' h => h, ?_⟩
    refine ⟨_, rfl, v, z.word, z.rest, rfl, hT, Nat.le_trans z.rest_len (by decide), ?_⟩
    obtain ⟨p, xs, rfl, hq, ht⟩ := hT.row
    by_cases him : z.inmost
    · obtain ⟨n1, n2⟩ := So.word_row him
      refine ⟨_, rfl, rfl, _, rfl, iteN (sne n1) ?_⟩
      refine ⟨_, rfl, rfl, _, rfl, iteN (sne n2) ?_⟩
      exact ⟨_, rfl, _, rfl, _, rfl, _, rfl, _, z, i, a, b, ks, cs, rfl, hT, hk, hc, him, ho, q⟩
    cases z with
    | row n z =>
      obtain ⟨x0, x1, x2, rfl, h1, h2⟩ : ∃ x0 x1 x2, xs = [x0, x1, x2] ∧ x1 = .int n ∧ Td K H x2 z.pd := by
        cases ht with
        | cons t0 t1 =>
          cases t1 with
          | cons t1 t2 =>
            cases t2 with
            | cons t2 t3 =>
              cases t3
              exact ⟨_, _, _, rfl, t1.toInt, t2⟩
      subst h1
      refine ⟨_, rfl, rfl, _, rfl, iteY rfl ?_⟩
      refine ⟨_, rfl, p, _, rfl, .inr hq, rfl, _, rfl, iteY rfl ?_⟩
      refine ⟨_, rfl, p, _, 1, .int n, rfl, rfl, hq, at1, n, 20, rfl, ho.1, ho.2.1, true, rfl, iteT ?_⟩
      refine ⟨_, rfl, p, _, 2, x2, rfl, rfl, hq, at2, ?_⟩
      exact ⟨z.depth, Nat.lt_succ_self _, x2, z, false, _, rfl, h2, ho.2.2, rfl, rfl⟩
    | may z =>
      obtain ⟨x0, x1, rfl, h1⟩ : ∃ x0 x1, xs = [x0, x1] ∧ Td K H x1 z.pd := by
        cases ht with
        | cons t0 t1 =>
          cases t1 with
          | cons t1 t2 =>
            cases t2
            exact ⟨_, _, rfl, t1⟩
      obtain ⟨rfl, ho⟩ := ho
      refine ⟨_, rfl, rfl, _, rfl, iteN (sne (show ("maybe" : Str) ≠ "row" by decide +kernel)) ?_⟩
      refine ⟨_, rfl, rfl, _, rfl, iteY rfl ?_⟩
      refine ⟨_, rfl, p, _, rfl, .inr hq, rfl, _, rfl, iteY rfl ?_⟩
      refine ⟨_, rfl, false, rfl, iteT ?_⟩
      refine ⟨_, rfl, p, _, 1, x1, rfl, rfl, hq, at1, ?_⟩
      exact ⟨z.depth, Nat.lt_succ_self _, x1, z, true, _, rfl, h1, ho, rfl, rfl⟩
    | num lo hi => exact absurd trivial him
    | tru => exact absurd trivial him
    | txt n => exact absurd trivial him
    | nod k => exact absurd trivial him
    | cho k => exact absurd trivial him
end
end K02
namespace K02
open PySem PySem.Spec PyProof.Rows L2 Tw Sb LamX
/-- the word of a kind's row, of a choice's -/
def wordB (k : Bool) : Str := if k = true then "kind" else "choice"
def spFault (K : PySem.W.Frag) : Sp := fun vs H Q _ => ∃ (k : Bool) (v : V) (e : En) (es : List En) (r a b : Addr) (xs : List V) (ks cs : List Str), vs = [.str (wordB k), v, .ref r, .ref a, .ref b] ∧ Td K H v e.pd ∧ SqR K H r xs ∧ Tds K H xs (es.map En.pd) ∧ es.length ≤ 1000 ∧ NmL H a ks ∧ NmL H b cs ∧ EnOk k ks cs es e ∧ ∀ H', Same H H' → Q .non H'
theorem ifK {k : Bool} {A B : Prop} (h1 : k = true → A) (h2 : k = false → B) : if decide (V.str (wordB k) = V.str "kind") = true then A else B := by
  cases k with
  | true => exact iteY rfl (h1 rfl)
  | false => exact iteN (sne (show ("choice" : Str) ≠ "kind" by decide +kernel)) (h2 rfl)
theorem Tds.entry {K : PySem.W.Frag} {H : Hp} {v : V} {e : En} (h : Td K H v e.pd) : ∃ (p : Addr) (x2 : V) (ys : List V), v = .ref p ∧ SqT K H p (.int e.num :: .str e.name :: x2 :: ys) ∧ Td K H x2 (e.of.elim .none So.pd) ∧ Tds K H ys e.left.toList := by
  obtain ⟨p, xs, rfl, hq, ht⟩ := h.row
  cases ht with
  | cons t0 t1 =>
    cases t1 with
    | cons t1 t2 =>
      cases t2 with
      | cons t2 t3 =>
        cases t0
        cases t1
        exact ⟨p, _, _, rfl, hq, t2, t3⟩
section
variable {P : Program} {w : World} {K : PySem.W.Frag} {mg : Str → Option Value} {base : Heap}
theorem ok_is_default {f : Addr} {fd : FuncData} (F : Fun K "_is_default" "_is_default" s__is_default f fd) (T : Bu mg) (c_is_whole : Cal P w K mg base 1 "is_whole" ["thing"] (spWhole K)) (c_keeps_bounds : Cal P w K mg base 1 "keeps_bounds" ["number", "low", "high"] spKB) (c_keeps_figures : Cal P w K mg base 1 "keeps_figures" ["number"] spKF) (c_is_text : Cal P w K mg base 2 "is_text" ["thing"] spText) :
    FnOk P w K mg base CX0 3 f fd ["of", "default"] (spDeflt K) := by
  refine F.ok sc__is_default (fun vs H Q E h => ?_) (fun cdv A outer s H vs Q E hr h => ?_)
  · obtain ⟨v, u, z, d, rfl, _⟩ := h
    rfl
  · obtain ⟨v, u, z, d, rfl, hT, hU, hd, q⟩ := h
    refine ⟨_, (pss_cons (ps_set (i := 2) sc__is_default.nd rfl (.inl rfl) (pe_ix (r := rIxT K) ix_tup (pv 0) pe_int (fun _ _ => rfl)))
      (pss_cons (ps_if (pt_cmpR op_eq (pv 2) pe_str (nomark _))
        (pss_one (ps_ret (pe_and (pe_cal c_is_whole hr (by decide) (by rfl) (pa_cons (pv 1) pa_nil)) (pe_and (pe_cal c_keeps_bounds hr (by decide) (by rfl) (pa_cons (pv 1) (pa_cons (pe_ix (r := rIxT K) ix_tup (pv 0) pe_int (fun _ _ => rfl)) (pa_cons (pe_ix (r := rIxT K) ix_tup (pv 0) pe_int (fun _ _ => rfl)) pa_nil)))) (pe_one (pe_cal c_keeps_figures hr (by decide) (by rfl) (pa_cons (pv 1) pa_nil)))))))
        pss_nil)
      (pss_cons (ps_if (pt_cmpR op_eq (pv 2) pe_str (nomark _))
        (pss_one (ps_ret (pe_callB (id := "isinstance") (r := rIsi K) call_isi (by rfl) T.n_isinstance (by decide +kernel) (pa_cons (pv 1) (pa_cons (pe_bltn (v := .ty "bool") rfl T.n_bool (by decide +kernel) rfl) pa_nil)))))
        pss_nil)
      (pss_cons (ps_if (pt_cmpR op_eq (pv 2) pe_str (nomark _))
        (pss_one (ps_ret (pe_and (pe_cal c_is_text hr (by decide) (by rfl) (pa_cons (pv 1) pa_nil)) (pe_one (pe_cmpR op_le (pe_callB call_len (by rfl) T.n_len (by decide +kernel) (pa_cons (pv 1) pa_nil)) (pe_ix (r := rIxT K) ix_tup (pv 0) pe_int (fun _ _ => rfl)) (nomark _))))))
        pss_nil)
      (pss_cons (ps_if (pt_cmpR op_eq (pv 2) pe_str (nomark _))
        (pss_one (ps_ret (pe_and (pe_callB (id := "isinstance") (r := rIsi K) call_isi (by rfl) T.n_isinstance (by decide +kernel) (pa_cons (pv 1) (pa_cons (pe_bltn (v := .ty "tuple") rfl T.n_tuple (by decide +kernel) rfl) pa_nil))) (pe_one (pe_cmpR op_eq (pe_callB call_len (by rfl) T.n_len (by decide +kernel) (pa_cons (pv 1) pa_nil)) pe_int (nomark _))))))
        pss_nil)
      (pss_one (ps_ret (pe_and (pe_cmpR op_eq (pv 2) pe_str (nomark _)) (pe_one (pe_cmpR op_isN (pv 1) pe_non (nomark _))))))))))), ?_⟩
    obtain ⟨p, xs, rfl, hq, ht⟩ := hT.row
    obtain ⟨ys, rfl, hr'⟩ : ∃ ys, xs = .str z.word :: ys ∧ Tds K H ys z.rest := by
      cases ht with
      | cons t0 t1 =>
        cases t0
        exact ⟨_, rfl, t1⟩
    refine ⟨_, rfl, p, _, 0, .str z.word, rfl, rfl, hq, at0, ?_⟩
    cases z with
    | num lo hi =>
      cases d with
      | int n =>
        obtain rfl := hU.toInt
        obtain ⟨d1, d2, d3, d4⟩ := hd
        obtain ⟨x1, x2, rfl, h1, h2⟩ : ∃ x1 x2, ys = [x1, x2] ∧ x1 = oV lo ∧ x2 = oV hi := by
          cases hr' with
          | cons t1 t2 =>
            cases t2 with
            | cons t2 t3 =>
              cases t3
              exact ⟨_, _, rfl, t1.oV, t2.oV⟩
        subst h1 h2
        refine ⟨_, rfl, rfl, _, rfl, iteY rfl ?_⟩
        refine ⟨_, rfl, .int n, .type "int", true, false, rfl, .base (.int n), kit_ty (by decide +kernel), fun _ => kit_ty (by decide +kernel), true, rfl, iteT ?_⟩
        refine ⟨_, rfl, _, rfl, p, _, 1, oV lo, rfl, rfl, hq, at1, _, rfl, p, _, 2, oV hi, rfl, rfl, hq, at2, n, lo, hi, rfl, d1, d2, true, rfl, iteT ?_⟩
        exact ⟨_, rfl, n, rfl, d3, d4, q _ (Same.refl _)⟩
      | _ => exact hd.elim
    | tru =>
      cases d with
      | bool b =>
        obtain rfl := hU.toBool
        refine ⟨_, rfl, rfl, _, rfl, iteN (sne (show ("truth" : Str) ≠ "number" by decide +kernel)) ?_⟩
        refine ⟨_, rfl, rfl, _, rfl, iteY rfl ?_⟩
        exact ⟨_, rfl, .bl b, .ty "bool", .type "bool", .type "bool", true, rfl, .ty "bool", .base (.bl b), kit_ty (by decide +kernel), q _ (Same.refl _)⟩
      | _ => exact hd.elim
    | txt m =>
      cases d with
      | str z =>
        obtain rfl := hU.toStr
        obtain ⟨d1, d2, d3⟩ := hd
        obtain ⟨x1, rfl, h1⟩ : ∃ x1, ys = [x1] ∧ x1 = .int m := by
          cases hr' with
          | cons t1 t2 =>
            cases t2
            exact ⟨_, rfl, t1.toInt⟩
        subst h1
        refine ⟨_, rfl, rfl, _, rfl, iteN (sne (show ("text" : Str) ≠ "number" by decide +kernel)) ?_⟩
        refine ⟨_, rfl, rfl, _, rfl, iteN (sne (show ("text" : Str) ≠ "truth" by decide +kernel)) ?_⟩
        refine ⟨_, rfl, rfl, _, rfl, iteY rfl ?_⟩
        refine ⟨_, rfl, z, rfl, d2, by omega, fun H1 s1 => ⟨true, rfl, iteT ?_⟩⟩
        refine ⟨_, rfl, .str z, _, rfl, ⟨Nat.le_trans d3 (by decide), rfl⟩, _, rfl, p, _, 1, .int m, rfl, rfl, KeepT.same s1 _ _ hq, at1, z.length, m, rfl, rfl, ?_⟩
        dsimp only
        rw [decide_eq_true d1]
        exact q _ s1
      | _ => exact hd.elim
    | row m z =>
      cases d with
      | tuple ds =>
        cases ds with
        | cons d ds => exact hd.elim
        | nil =>
          obtain ⟨a, us, rfl, hua, hus⟩ := hU.row
          cases hus
          refine ⟨_, rfl, rfl, _, rfl, iteN (sne (show ("row" : Str) ≠ "number" by decide +kernel)) ?_⟩
          refine ⟨_, rfl, rfl, _, rfl, iteN (sne (show ("row" : Str) ≠ "truth" by decide +kernel)) ?_⟩
          refine ⟨_, rfl, rfl, _, rfl, iteN (sne (show ("row" : Str) ≠ "text" by decide +kernel)) ?_⟩
          refine ⟨_, rfl, rfl, _, rfl, iteY rfl ?_⟩
          refine ⟨_, rfl, .ref a, .ty "tuple", .type "tuple", .type "tuple", true, rfl, .ty "tuple", SqT.ty hua, kit_ty (by decide +kernel), true, rfl, iteT ?_⟩
          exact ⟨_, rfl, _, 0, rfl, .inr ⟨_, hua, rfl⟩, rfl, q _ (Same.refl _)⟩
      | _ => exact hd.elim
    | may z =>
      cases d with
      | none =>
        obtain rfl := hU.toNone
        refine ⟨_, rfl, rfl, _, rfl, iteN (sne (show ("maybe" : Str) ≠ "number" by decide +kernel)) ?_⟩
        refine ⟨_, rfl, rfl, _, rfl, iteN (sne (show ("maybe" : Str) ≠ "truth" by decide +kernel)) ?_⟩
        refine ⟨_, rfl, rfl, _, rfl, iteN (sne (show ("maybe" : Str) ≠ "text" by decide +kernel)) ?_⟩
        refine ⟨_, rfl, rfl, _, rfl, iteN (sne (show ("maybe" : Str) ≠ "row" by decide +kernel)) ?_⟩
        refine ⟨_, rfl, rfl, _, rfl, iteY rfl ?_⟩
        exact ⟨_, rfl, rfl, q _ (Same.refl _)⟩
      | _ => exact hd.elim
    | nod k => cases d <;> exact hd.elim
    | cho k => cases d <;> exact hd.elim
theorem ok_fault {f : Addr} {fd : FuncData} (F : Fun K "_fault" "_fault" s__fault f fd) (T : Bu mg) (g_LAST_NUMBER : Gi mg "LAST_NUMBER" 99) (c_is_name : Cal P w K mg base 1 "is_name" ["thing"] (spName K)) (c_is_whole : Cal P w K mg base 1 "is_whole" ["thing"] (spWhole K)) (c_is_sort : Cal P w K mg base 4 "is_sort" ["of", "kinds", "choices"] (spSort K)) (c__is_default : Cal P w K mg base 3 "_is_default" ["of", "default"] (spDeflt K)) :
    FnOk P w K mg base CX0 5 f fd ["word", "entry", "earlier", "kinds", "choices"] (spFault K) := by
  refine F.ok sc__fault (fun vs H Q E h => ?_) (fun cdv A outer s H vs Q E hr h => ?_)
  · obtain ⟨k, v, e, es, r, a, b, xs, ks, cs, rfl, _⟩ := h
    rfl
  · obtain ⟨k, v, e, es, r, a, b, xs, ks, cs, rfl, hT, hR, hX, hL, hk, hc, ok, q⟩ := h
    refine ⟨_, (pss_mid (ps_if (PW.pt (pw_or (pt_not (pt_val (pe_callB (id := "isinstance") (r := rIsi K) call_isi (by rfl) T.n_isinstance (by decide +kernel) (pa_cons (pv 1) (pa_cons (pe_bltn (v := .ty "tuple") rfl T.n_tuple (by decide +kernel) rfl) pa_nil))))) (pw_or1 (pt_cmpR op_notIn_seq (pe_callB call_len_seq (by rfl) T.n_len (by decide +kernel) (pa_cons (pv 1) pa_nil)) (pe_ifExp (pt_cmpR op_eq (pv 0) pe_str (nomark _)) (pe_tup (pa_cons pe_int (pa_cons pe_int pa_nil))) (pe_tup (pa_cons pe_int pa_nil))) (by rfl)))))
        (pss_one (ps_ret pe_str))
        pss_nil)
      (pss_mid (ps_asg (pe_slice (r := rSlA K) sl_tupA (pv 1) po_none (po_some pe_int)) (pg_tup rfl (pgs_cons (pg_name (i := 5) sc__fault.nd rfl (.inl rfl)) (pgs_cons (pg_name (i := 6) sc__fault.nd rfl (.inl rfl)) (pgs_cons (pg_name (i := 7) sc__fault.nd rfl (.inl rfl)) pgs_nil)))))
      (pss_mid (ps_if (PW.pt (pw_or (pt_not (pt_val (pe_cal c_is_name hr (by decide) (by rfl) (pa_cons (pv 6) pa_nil)))) (pw_or1 (pt_cmpR op_in_seq (pv 6) (pe_lc (own := [("other", 9)]) rfl sc__fault.nd (pi_or (pi_list (pv 2)) (pi_tup (pv 2))) (blkOk_by (N := N__fault) (sc := defScope s__fault) (by decide +kernel)) (fun _ _ _ _ _ => (pg_name (i := 9) sc__fault.nd rfl (.inl rfl))) (fun _ _ _ _ _ => pts_nil) (fun _ _ _ _ _ => (pe_ix (r := rIxT K) ix_tup (pv 9) pe_int (fun _ _ => rfl)))) (by rfl)))))
        (pss_one (ps_ret pe_str))
        pss_nil)
      (pss_mid (ps_set (i := 8) sc__fault.nd rfl (.inl rfl) (pe_ifExp (pt_cmpR op_eq (pv 0) pe_str (nomark _)) pe_int pe_int))
      (pss_mid (ps_if (PW.pt (pw_or (pt_not (pt_val (pe_cal c_is_whole hr (by decide) (by rfl) (pa_cons (pv 5) pa_nil)))) (pw_or (pt_not (pt_chain op_le op_le (pv 8) (pv 5) (C8.pe_gc rfl g_LAST_NUMBER))) (pw_or1 (pt_cmpR op_in_seq (pv 5) (pe_lc (own := [("other", 9)]) rfl sc__fault.nd (pi_or (pi_list (pv 2)) (pi_tup (pv 2))) (blkOk_by (N := N__fault) (sc := defScope s__fault) (by decide +kernel)) (fun _ _ _ _ _ => (pg_name (i := 9) sc__fault.nd rfl (.inl rfl))) (fun _ _ _ _ _ => pts_nil) (fun _ _ _ _ _ => (pe_ix (r := rIxT K) ix_tup (pv 9) pe_int (fun _ _ => rfl)))) (by rfl))))))
        (pss_one (ps_ret pe_str))
        pss_nil)
      (pss_mid (ps_if (PW.pt (pw_and (pt_cmpR op_eq (pv 0) pe_str (nomark _)) (pw_and1 (pt_cmpR op_isN (pv 7) pe_non (nomark _)))))
        (pss_one (ps_ret pe_non))
        pss_nil)
      (pss_cons (ps_if (PW.pt (pw_or (pt_cmpR op_eq (pv 5) pe_int (nomark _)) (pw_or1 (pt_not (pt_val (pe_cal c_is_sort hr (by decide) (by rfl) (pa_cons (pv 7) (pa_cons (pv 3) (pa_cons (pv 4) pa_nil)))))))))
        (pss_one (ps_ret pe_str))
        pss_nil)
      (pss_cons (ps_if (PW.pt (pw_and (pt_cmpR op_eq (pe_callB call_len_seq (by rfl) T.n_len (by decide +kernel) (pa_cons (pv 1) pa_nil)) pe_int (nomark _)) (pw_and1 (pt_not (pt_val (pe_cal c__is_default hr (by decide) (by rfl) (pa_cons (pv 7) (pa_cons (pe_ix (r := rIxT K) ix_tup (pv 1) pe_int (fun _ _ => rfl)) pa_nil))))))))
        (pss_one (ps_ret pe_str))
        pss_nil)
      (pss_one (ps_ret pe_non)))))))))), ?_⟩
    obtain ⟨p, x2, ys, rfl, hq, h2, hl⟩ := Tds.entry hT
    have hlen : ys.length = e.left.toList.length := hl.len
    have hleft : e.left.toList.length ≤ 1 := by cases e.left <;> simp
    refine ⟨fun σ H' => σ = L2.start N__fault [V.str (wordB k), V.ref p, V.ref r, V.ref a, V.ref b] ∧ Same H H', ?_, ?_⟩
    · refine ⟨_, rfl, .ref p, .ty "tuple", .type "tuple", .type "tuple", true, rfl, .ty "tuple", SqT.ty hq, kit_ty (by decide +kernel), true, rfl, iteF ?_⟩
      refine ⟨_, rfl, p, _, rfl, .inr hq, _, rfl, rfl, _, rfl, ifK (fun ek => ?_) (fun ek => ?_)⟩
      · refine ⟨by show 2 ≤ sizeLine; decide, fun t ht => ⟨t, _, rfl, .inr (SqT.of upd_same), rfl, rfl, _, rfl, ?_⟩⟩
        have e1 : inV (.int ((V.int e.num :: V.str e.name :: x2 :: ys).length : Nat)) [.int 3, .int 4] = true := by
          rcases ys with _ | ⟨y, _ | _⟩
          · rfl
          · rfl
          · exact absurd (hlen ▸ hleft) (by simp)
        rw [e1]
        exact iteF ⟨rfl, same_upd ht⟩
      · refine ⟨by show 1 ≤ sizeLine; decide, fun t ht => ⟨t, _, rfl, .inr (SqT.of upd_same), rfl, rfl, _, rfl, ?_⟩⟩
        have e0 : ys = [] := by
          have : e.left = none := by
            cases eo : e.of with
            | none => exact (ok.none eo).2
            | some z =>
              cases el : e.left with
              | none => rfl
              | some d =>
                rw [ek] at ok
                exact nomatch ((ok.some z eo).2.2 d el).1
          rw [this] at hlen
          exact List.length_eq_zero_iff.mp hlen
        subst e0
        rw [show inV (.int (([V.int e.num, V.str e.name, x2] : List V).length : Nat)) [.int 3] = true from rfl]
        exact iteF ⟨rfl, same_upd ht⟩
    rintro σ H1 ⟨rfl, s1⟩
    have hq1 := KeepT.same s1 _ _ hq
    have hR1 := hR.same s1
    have hX1 := hX.keep (KeepT.same s1)
    -- the three
    refine ⟨fun σ H' => σ = [some (.str (wordB k)), some (.ref p), some (.ref r), some (.ref a), some (.ref b), some (.int e.num), some (.str e.name), some x2, none, none] ∧ Same H H', ?_, ?_⟩
    · refine ⟨_, rfl, 3, rfl, p, _, rfl, hq1, fun hw => ?_, fun hw t ht => ?_⟩
      · have e0 := whole3 hw.2
        subst e0
        exact ⟨p, _, rfl, hq1, rfl, _, _, rfl, _, _, rfl, _, _, rfl, rfl, rfl, s1⟩
      · refine ⟨t, _, rfl, SqT.of upd_same, ?_, ?_⟩
        · rw [cut3] <;> rfl
        · rw [cut3]
          exact ⟨_, _, rfl, _, _, rfl, _, _, rfl, rfl, rfl, s1.trans (same_upd ht)⟩
    rintro σ H2 ⟨rfl, s2⟩
    -- the name
    have hlx : xs.length = es.length := by rw [hX.len, List.length_map]
    have part : ∀ {i : Nat} {x : V} {H4 : Hp}, Same H H4 → xs[i]? = some x → ∃ (e : En) (p : Addr) (x2 : V) (ys : List V), es[i]? = some e ∧ x = .ref p ∧ SqT K H4 p (.int e.num :: .str e.name :: x2 :: ys) := fun {i x H4} s4 hx => by
      obtain ⟨d, hd, td⟩ := hX.at_ hx
      rw [List.getElem?_map] at hd
      obtain ⟨e, he, rfl⟩ := Option.map_eq_some_iff.mp hd
      obtain ⟨p, x2, ys, rfl, hp, _⟩ := Tds.entry (td.keep (KeepT.same s4))
      exact ⟨e, p, x2, ys, he, rfl, hp⟩
    have s02 : Same H H2 := s2
    refine ⟨fun σ H' => σ = [some (.str (wordB k)), some (.ref p), some (.ref r), some (.ref a), some (.ref b), some (.int e.num), some (.str e.name), some x2, none, none] ∧ Same H H', ?_, ?_⟩
    · refine ⟨_, rfl, .str e.name, .type "str", true, rfl, .base (.str e.name), kit_ty (by decide +kernel), fun _ => ⟨e.name, rfl, (nm_asc ok.name).mono (by decide)⟩, (fun z => nomatch z), fun H3 s3 => ⟨true, congrArg V.bl ok.name, ?_⟩⟩
      have s03 := s02.trans s3
      refine iteF ⟨_, rfl, ?_⟩
      have turn : ∀ (D : Addr) (i : Nat) (x : V) (H4 : Hp), H3 D = none → xs[i]? = some x → Same H3 H4 → H4 D = some (.lst (((es.take i).map En.name).map V.str)) → ∃ (p : Addr) (zs : List V) (y : V), x = .ref p ∧ SqT K H4 p zs ∧ atI zs 1 = some y ∧ ∃ acc, H4 D = some (.lst acc) ∧ acc.length < sizeLine ∧ Same H3 (upd H4 D (.lst (acc ++ [y]))) ∧ (upd H4 D (.lst (acc ++ [y]))) D = some (.lst (((es.take (i + 1)).map En.name).map V.str)) := by
        intro D i x H4 hD hx hs hL'
        obtain ⟨e, p, x2, ys, he, rfl, hp⟩ := part (s03.trans hs) hx
        refine ⟨p, _, .str e.name, rfl, hp, at1, _, hL', ?_, fun b o q => ?_, ?_⟩
        · rw [List.length_map, List.length_map, List.length_take]
          exact small1000 (by omega)
        · rw [upd_ne (ne_of_none q hD)]
          exact hs b o q
        · rw [upd_same, List.take_add_one, he, List.map_append, List.map_append] <;> rfl
      have fin : ∀ (H4 : Hp), Same H3 H4 → (inV (.str e.name) (((es.take xs.length).map En.name).map V.str)) = false := fun H4 _ => nin_strs (by rw [hlx, List.take_length]; exact ok.newN)
      rcases hR.same s03 with hL' | hL'
      · refine .inl ⟨_, rfl, r, rfl, ⟨_, hL'⟩, fun D hD => lc_it walk_list (fun i H' => Same H3 H' ∧ H' D = some (.lst (((es.take i).map En.name).map V.str))) ⟨same_upd hD, upd_same⟩ (fun _ _ _ h => h.1.seq hL') ?_ ?_⟩
        · rintro i x H4 H5 hi ⟨hs, hD2⟩ ⟨rfl, hx⟩
          obtain ⟨p, zs, y, rfl, k1, k2, k3⟩ := turn D i x _ hD hx hs hD2
          exact ⟨rfl, _, rfl, p, zs, 1, y, rfl, rfl, k1, k2, k3⟩
        · rintro H4 ⟨hs, hD2⟩
          refine ⟨D, _, rfl, .inl (SqL.of hD2), rfl, flat_strs _, _, rfl, ?_⟩
          rw [fin H4 hs]
          exact iteF ⟨rfl, s03.trans hs⟩
      · refine .inr ⟨_, rfl, r, rfl, ⟨_, hL'⟩, fun D hD => lc_it walk_tup (fun i H' => Same H3 H' ∧ H' D = some (.lst (((es.take i).map En.name).map V.str))) ⟨same_upd hD, upd_same⟩ (fun _ _ _ h => KeepT.same h.1 _ _ hL') ?_ ?_⟩
        · rintro i x H4 H5 hi ⟨hs, hD2⟩ ⟨rfl, hx⟩
          obtain ⟨p, zs, y, rfl, k1, k2, k3⟩ := turn D i x _ hD hx hs hD2
          exact ⟨rfl, _, rfl, p, zs, 1, y, rfl, rfl, k1, k2, k3⟩
        · rintro H4 ⟨hs, hD2⟩
          refine ⟨D, _, rfl, .inl (SqL.of hD2), rfl, flat_strs _, _, rfl, ?_⟩
          rw [fin H4 hs]
          exact iteF ⟨rfl, s03.trans hs⟩
    rintro σ H3 ⟨rfl, s3⟩
    -- the least
    refine ⟨fun σ H' => ∃ l : Int, σ = [some (.str (wordB k)), some (.ref p), some (.ref r), some (.ref a), some (.ref b), some (.int e.num), some (.str e.name), some x2, some (.int l), none] ∧ l ≤ e.num ∧ Same H H', ?_, ?_⟩
    · refine ⟨_, rfl, rfl, _, rfl, ifK (fun ek => ?_) (fun ek => ?_)⟩
      · exact ⟨1, rfl, by have := ok.lo; rw [if_pos ek] at this; exact this, s3⟩
      · exact ⟨0, rfl, by have := ok.lo; rw [if_neg (by rw [ek]; decide)] at this; exact this, s3⟩
    rintro σ H4 ⟨l, rfl, hle, s4⟩
    -- the number
    refine ⟨fun σ H' => σ = [some (.str (wordB k)), some (.ref p), some (.ref r), some (.ref a), some (.ref b), some (.int e.num), some (.str e.name), some x2, some (.int l), none] ∧ Same H H', ?_, ?_⟩
    · refine ⟨_, rfl, .int e.num, .type "int", true, false, rfl, .base (.int e.num), kit_ty (by decide +kernel), fun _ => kit_ty (by decide +kernel), true, rfl, iteF ?_⟩
      refine ⟨_, rfl, _, rfl, l, e.num, rfl, rfl, _, rfl, iteY hle ⟨e.num, 99, rfl, rfl, _, rfl, iteNY ok.hi ?_⟩⟩
      refine ⟨_, rfl, ?_⟩
      have turn : ∀ (D : Addr) (i : Nat) (x : V) (H5 : Hp), H4 D = none → xs[i]? = some x → Same H4 H5 → H5 D = some (.lst (((es.take i).map En.num).map V.int)) → ∃ (p : Addr) (zs : List V) (y : V), x = .ref p ∧ SqT K H5 p zs ∧ atI zs 0 = some y ∧ ∃ acc, H5 D = some (.lst acc) ∧ acc.length < sizeLine ∧ Same H4 (upd H5 D (.lst (acc ++ [y]))) ∧ (upd H5 D (.lst (acc ++ [y]))) D = some (.lst (((es.take (i + 1)).map En.num).map V.int)) := by
        intro D i x H5 hD hx hs hL'
        obtain ⟨e, p, x2, ys, he, rfl, hp⟩ := part (s4.trans hs) hx
        refine ⟨p, _, .int e.num, rfl, hp, at0, _, hL', ?_, fun b o q => ?_, ?_⟩
        · rw [List.length_map, List.length_map, List.length_take]
          exact small1000 (by omega)
        · rw [upd_ne (ne_of_none q hD)]
          exact hs b o q
        · rw [upd_same, List.take_add_one, he, List.map_append, List.map_append] <;> rfl
      have fin : inV (.int e.num) (((es.take xs.length).map En.num).map V.int) = false := nin_ints (by rw [hlx, List.take_length]; exact ok.newI)
      rcases hR.same s4 with hL' | hL'
      · refine .inl ⟨_, rfl, r, rfl, ⟨_, hL'⟩, fun D hD => lc_it walk_list (fun i H' => Same H4 H' ∧ H' D = some (.lst (((es.take i).map En.num).map V.int))) ⟨same_upd hD, upd_same⟩ (fun _ _ _ h => h.1.seq hL') ?_ ?_⟩
        · rintro i x H5 H6 hi ⟨hs, hD2⟩ ⟨rfl, hx⟩
          obtain ⟨p, zs, y, rfl, k1, k2, k3⟩ := turn D i x _ hD hx hs hD2
          exact ⟨rfl, _, rfl, p, zs, 0, y, rfl, rfl, k1, k2, k3⟩
        · rintro H5 ⟨hs, hD2⟩
          refine ⟨D, _, rfl, .inl (SqL.of hD2), rfl, flat_ints _, _, rfl, ?_⟩
          rw [fin]
          exact iteF ⟨rfl, s4.trans hs⟩
      · refine .inr ⟨_, rfl, r, rfl, ⟨_, hL'⟩, fun D hD => lc_it walk_tup (fun i H' => Same H4 H' ∧ H' D = some (.lst (((es.take i).map En.num).map V.int))) ⟨same_upd hD, upd_same⟩ (fun _ _ _ h => KeepT.same h.1 _ _ hL') ?_ ?_⟩
        · rintro i x H5 H6 hi ⟨hs, hD2⟩ ⟨rfl, hx⟩
          obtain ⟨p, zs, y, rfl, k1, k2, k3⟩ := turn D i x _ hD hx hs hD2
          exact ⟨rfl, _, rfl, p, zs, 0, y, rfl, rfl, k1, k2, k3⟩
        · rintro H5 ⟨hs, hD2⟩
          refine ⟨D, _, rfl, .inl (SqL.of hD2), rfl, flat_ints _, _, rfl, ?_⟩
          rw [fin]
          exact iteF ⟨rfl, s4.trans hs⟩
    rintro σ H5 ⟨rfl, s5⟩
    have h25 := h2.keep (KeepT.same s5)
    have hl5 := hl.keep (KeepT.same s5)
    have hq5 := KeepT.same s5 _ _ hq
    refine ⟨fun σ H' => σ = [some (.str (wordB k)), some (.ref p), some (.ref r), some (.ref a), some (.ref b), some (.int e.num), some (.str e.name), some x2, some (.int l), none] ∧ H5 = H' ∧ e.of ≠ none, ?_, ?_⟩
    · cases eo : e.of with
      | none =>
        obtain ⟨rfl, _⟩ := ok.none eo
        rw [eo] at h25
        obtain rfl := h25.toNone
        exact ⟨_, rfl, rfl, _, rfl, iteY rfl ⟨_, rfl, rfl, _, rfl, iteY rfl (q _ s5)⟩⟩
      | some z =>
        rw [eo] at h25
        have nn : ¬ x2 = V.non := fun w => by
          obtain ⟨p, _, e, _⟩ := Td.row (show Td K H5 x2 (.tuple (.str z.word :: z.rest)) from h25)
          rw [w] at e
          cases e
        refine ⟨_, rfl, rfl, _, rfl, ?_⟩
        cases k with
        | true => exact iteN (sne (show ("kind" : Str) ≠ "choice" by decide +kernel)) ⟨rfl, rfl, fun w => nomatch w⟩
        | false => exact iteY rfl ⟨_, rfl, rfl, _, rfl, iteN nn ⟨rfl, rfl, fun w => nomatch w⟩⟩
    rintro σ H6 ⟨rfl, rfl, no⟩
    obtain ⟨z, eo⟩ := Option.ne_none_iff_exists'.mp no
    obtain ⟨n0, zok, dok⟩ := ok.some z eo
    rw [eo] at h25
    have h25 : Td K H5 x2 z.pd := h25
    refine ⟨_, rfl, rfl, _, rfl, iteN (ine n0) ?_⟩
    refine ⟨_, rfl, _, rfl, _, rfl, x2, z, a, b, ks, cs, rfl, h25, s5 _ _ hk, s5 _ _ hc, zok, fun H6 s6 => ⟨true, rfl, iteF ?_⟩⟩
    refine ⟨_, rfl, p, _, rfl, .inr (KeepT.same s6 _ _ hq5), rfl, _, rfl, ?_⟩
    have s06 := s5.trans s6
    cases el : e.left with
    | none =>
      have e0 : ys = [] := List.length_eq_zero_iff.mp (by rw [hlen, el]; rfl)
      subst e0
      exact iteN (ine (show (3 : Int) ≠ 4 by decide)) (q _ s06)
    | some d =>
      obtain ⟨_, hd⟩ := dok d el
      rw [el] at hl
      obtain ⟨y, rfl, hy⟩ : ∃ y, ys = [y] ∧ Td K H y d := by
        cases hl with
        | cons t1 t2 =>
          cases t2
          exact ⟨_, rfl, t1⟩
      refine iteY rfl ⟨_, rfl, _, rfl, p, _, 3, y, rfl, rfl, KeepT.same s6 _ _ hq5, at3, x2, y, z, d, rfl, h25.keep (KeepT.same s6), hy.keep (KeepT.same s06), hd, fun H7 s7 => ⟨true, rfl, iteF ?_⟩⟩
      exact q _ (s06.trans s7)
end
end K02
namespace K02
open PySem PySem.Spec PyProof.Rows L2 Tw Sb LamX
def spNames : Sp := fun vs H Q _ => ∃ (d : Addr) (kvs : List (Key × V)) (ks : List Str), vs = [.ref d] ∧ H d = some (.dK kvs) ∧ kvs.map Prod.fst = ks.map Sum.inr ∧ (∀ k ∈ ks, isNm k = true) ∧ ks.length ≤ 1000 ∧ ∀ (H' : Hp) (r : Addr), Same H H' → H r = none → NmL H' r ks → Q (.ref r) H'
def spRows (K : PySem.W.Frag) : Sp := fun vs H Q _ => ∃ (k : Bool) (d a b : Addr) (kvs : List (Key × V)) (tb : List TRow) (ks cs : List Str), vs = [.str (wordB k), .ref d, .ref a, .ref b] ∧ H d = some (.dK kvs) ∧ Paired (RowIs K H) kvs tb ∧ TabOk k ks cs tb ∧ NmL H a ks ∧ NmL H b cs ∧ ∀ H', Same H H' → Q .non H'
section
variable {P : Program} {w : World} {K : PySem.W.Frag} {mg : Str → Option Value} {base : Heap}
theorem ok_names {f : Addr} {fd : FuncData} (F : Fun K "_names" "_names" s__names f fd) (T : Bu mg) (c_is_name : Cal P w K mg base 1 "is_name" ["thing"] (spName K)) : FnOk P w K mg base CX0 2 f fd ["rows"] spNames := by
  refine F.ok sc__names (fun vs H Q E h => ?_) (fun cdv A outer s H vs Q E hr h => ?_)
  · obtain ⟨d, kvs, ks, rfl, _⟩ := h
    rfl
  · obtain ⟨d, kvs, ks, rfl, hd, hk, hn, hl, q⟩ := h
    refine ⟨_, (pss_one (ps_ret (pe_lock (pe_lc (own := [("name", 1)]) rfl sc__names.nd (pi_keys (pv 0)) (blkOk_by (N := N__names) (sc := defScope s__names) (by decide +kernel)) (fun _ _ _ _ _ => (pg_name (i := 1) sc__names.nd rfl (.inl rfl))) (fun _ _ _ _ _ => (pts_one (pt_val (pe_cal c_is_name hr (by decide) (by rfl) (pa_cons (pv 1) pa_nil))))) (fun _ _ _ _ _ => (pv 1)))))), ?_⟩
    refine ⟨d, _, hd, trivial, fun od => ?_⟩
    have hd1 : (upd H d (.frz od (.dK kvs))) d = some (.frz od (.dK kvs)) := upd_same
    refine ⟨_, rfl, d, od, rfl, .inl ⟨kvs, hd1, fun D hD => lc_it walk_keys (fun i H' => Same (upd H d (.frz od (.dK kvs))) H' ∧ H' D = some (.lst ((ks.take i).map V.str))) ⟨same_upd hD, upd_same⟩ (fun _ _ _ h => h.1 _ _ hd1) ?_ ?_⟩⟩
    · rintro i x H2 H3 hi ⟨hs, hD2⟩ ⟨rfl, k, v, hy, rfl⟩
      obtain ⟨z, hz, rfl⟩ := key_at hk hy
      have nz := hn z (List.mem_of_getElem? hz)
      refine ⟨rfl, _, rfl, .str z, .type "str", true, rfl, .base (.str z), kit_ty (by decide +kernel), fun _ => ⟨z, rfl, (nm_asc nz).mono (by decide)⟩, (fun z => nomatch z), fun H4 s4 => ⟨true, congrArg V.bl nz, iteT ⟨_, rfl, _, s4 _ _ hD2, ?_, fun b o e => ?_, ?_⟩⟩⟩
      · rw [List.length_map, List.length_take]
        exact small1000 (by have := (List.getElem?_eq_some_iff.mp hz).1; omega)
      · rw [upd_ne (ne_of_none e hD)]
        exact s4 _ _ (hs b o e)
      · rw [upd_same, List.take_add_one, hz, List.map_append] <;> rfl
    · rintro H2 ⟨hs, hD2⟩
      have hlen : kvs.length = ks.length := by
        have := congrArg List.length hk
        simpa using this
      rw [hlen, List.take_length] at hD2
      have hne : D ≠ d := fun w => by rw [w, hd1] at hD; cases hD
      refine ⟨hs _ _ hd1, q _ D (unlock hd hs) ?_ ?_⟩
      · rw [upd_ne hne] at hD
        exact hD
      · show upd H2 d (.dK kvs) D = _
        rw [upd_ne hne]
        exact hD2
theorem ok_refuse_rows {f : Addr} {fd : FuncData} (F : Fun K "_refuse_rows" "_refuse_rows" s__refuse_rows f fd) (T : Bu mg) (c_is_name : Cal P w K mg base 1 "is_name" ["thing"] (spName K)) (c_is_row : Cal P w K mg base 1 "is_row" ["thing"] (spRow K)) (c__fault : Cal P w K mg base 5 "_fault" ["word", "entry", "earlier", "kinds", "choices"] (spFault K)) :
    FnOk P w K mg base CX0 6 f fd ["word", "rows", "kinds", "choices"] (spRows K) := by
  refine F.ok sc__refuse_rows (fun vs H Q E h => ?_) (fun cdv A outer s H vs Q E hr h => ?_)
  · obtain ⟨k, d, a, b, kvs, tb, ks, cs, rfl, _⟩ := h
    rfl
  · obtain ⟨k, d, a, b, kvs, tb, ks, cs, rfl, hd, hp, ok, hk, hc, q⟩ := h
    refine ⟨_, (pss_one (ps_lock (ps_for PassesOwn.never rfl (pi_items (pv 1)) (pg_tup rfl (pgs_cons (pg_name (i := 4) sc__refuse_rows.nd rfl (.inl rfl)) (pgs_cons (pg_name (i := 5) sc__refuse_rows.nd rfl (.inl rfl)) pgs_nil)))
        (pss_cons (ps_if (pt_not (pt_val (pe_cal c_is_name hr (by decide) (by rfl) (pa_cons (pv 4) pa_nil))))
          (pss_one ps_dead)
          pss_nil)
        (pss_mid (ps_if (PW.pt (pw_or (pt_not (pt_val (pe_cal c_is_row hr (by decide) (by rfl) (pa_cons (pv 5) pa_nil)))) (pw_or1 (PW.pt (pw_and (pt_cmpR op_eq (pv 0) pe_str (nomark _)) (pw_and1 (pt_cmpR op_eq (pe_callB call_len (by rfl) T.n_len (by decide +kernel) (pa_cons (pv 5) pa_nil)) pe_int (nomark _))))))))
          (pss_one ps_dead)
          pss_nil)
        (pss_one (ps_for PassesOwn.never rfl (pi_en rfl T.n_enumerate (pa_cons (pv 5) pa_nil)) (pg_tup rfl (pgs_cons (pg_name (i := 6) sc__refuse_rows.nd rfl (.inl rfl)) (pgs_cons (pg_name (i := 7) sc__refuse_rows.nd rfl (.inl rfl)) pgs_nil)))
          (pss_cons (ps_set (i := 8) sc__refuse_rows.nd rfl (.inl rfl) (pe_cal c__fault hr (by decide) (by rfl) (pa_cons (pv 0) (pa_cons (pv 7) (pa_cons (pe_slice (r := rSlQ K) sl_sqr (pv 5) po_none (po_some (pv 6))) (pa_cons (pv 2) (pa_cons (pv 3) pa_nil)))))))
          (pss_one (ps_if (pt_cmpR op_notN (pv 8) pe_non (nomark _))
            (pss_one ps_dead)
            pss_nil)))))))))), ?_⟩
    refine ⟨d, _, hd, trivial, fun od => ?_⟩
    have hd1 : (upd H d (.frz od (.dK kvs))) d = some (.frz od (.dK kvs)) := upd_same
    have nl : ∀ {c : Addr} {xs : List V}, H c = some (.lst xs) → (upd H d (.frz od (.dK kvs))) c = some (.lst xs) := fun {c xs} e => by
      rw [upd_ne (ne_of e hd (by intro z; cases z))]
      exact e
    have hk1 := nl hk
    have hc1 := nl hc
    have hrow : ∀ {v : V} {es : List En}, EnRow K H es v → ∃ a xs, v = .ref a ∧ SqR K (upd H d (.frz od (.dK kvs))) a xs ∧ Tds K (upd H d (.frz od (.dK kvs))) xs (es.map En.pd) := fun ⟨a, xs, e, h1, h2⟩ =>
      ⟨a, xs, e, h1.elim (fun h => .inl (lock_list hd h)) (fun h => .inr (lock_keep hd _ _ h)), h2.keep (lock_keep hd)⟩
    generalize hH1 : upd H d (.frz od (.dK kvs)) = H1 at hd1 hk1 hc1 hrow ⊢
    refine ⟨_, rfl, d, od, kvs, rfl, hd1, ?_⟩
    refine for_it walk_items (fun i σ H' => ∃ (y4 y5 y6 y7 y8 : Option V), σ = [some (.str (wordB k)), some (.ref d), some (.ref a), some (.ref b), y4, y5, y6, y7, y8] ∧ Same H1 H') ⟨none, none, none, none, none, rfl, Same.refl _⟩ (fun _ _ _ _ ⟨_, _, _, _, _, _, s⟩ => s _ _ hd1) ?_ ?_
    · rintro i x σ H2 H3 hi ⟨y4, y5, y6, y7, y8, rfl, s2⟩ ⟨T1, kx, v, rfl, hT1, rfl, e1, e2⟩
      obtain ⟨⟨key, v'⟩, he, rfl⟩ := Option.map_eq_some_iff.mp e1
      have e2 : Option.map Prod.snd kvs[i]? = some v := e2
      rw [he] at e2
      cases e2
      obtain ⟨r, hr1, hk', hrw⟩ := pd_atL hp he
      have hk' : key = .inr r.1 := hk'
      subst hk'
      obtain ⟨rn, rok, rl, rne⟩ := ok.at hr1
      obtain ⟨p, xs, hvp, hR, hX⟩ := hrow hrw
      have hvp : v' = .ref p := hvp
      subst hvp
      have s3 := s2.trans (same_upd (o := .tup [kV (.inr r.1), .ref p]) hT1)
      refine ⟨T1, _, rfl, SqT.of upd_same, rfl, _, _, rfl, _, _, rfl, rfl, ?_⟩
      refine ⟨_, rfl, .str r.1, .type "str", true, rfl, .base (.str r.1), kit_ty (by decide +kernel), fun _ => ⟨r.1, rfl, (nm_asc rn).mono (by decide)⟩, (fun z => nomatch z), fun H4 s4 => ⟨true, congrArg V.bl rn, iteF ?_⟩⟩
      have s4 := s3.trans s4
      have hlx : xs.length = r.2.length := by rw [hX.len, List.length_map]
      refine ⟨fun σ H' => σ = [some (.str (wordB k)), some (.ref d), some (.ref a), some (.ref b), some (.str r.1), some (.ref p), y6, y7, y8] ∧ Same H1 H', ?_, ?_⟩
      · obtain ⟨ty, t1, t2⟩ := (hR.same s4).ty
        refine ⟨_, rfl, .ref p, ty, true, rfl, t1, t2, fun H5 s5 => ⟨true, rfl, iteF ?_⟩⟩
        have s5 := s4.trans s5
        refine ⟨_, rfl, rfl, _, rfl, ?_⟩
        cases k with
        | true => exact iteN (sne (show ("kind" : Str) ≠ "choice" by decide +kernel)) ⟨rfl, s5⟩
        | false =>
          have ne : r.2.length ≠ 0 := fun z => rne rfl (List.length_eq_zero_iff.mp z)
          exact iteY rfl ⟨_, rfl, _, _, rfl, (hR.same s5).len, rfl, _, rfl, iteN (ine (by omega)) ⟨rfl, s5⟩⟩
      rintro σ H5 ⟨rfl, s5⟩
      refine ⟨_, rfl, p, xs, rfl, hR.same s5, fun bt hb1 hb0 => ?_⟩
      refine for_it (walk_enC (K := K) (a := p) (xs := xs) (c := 0) (b := bt)) (fun j σ H' => ∃ (y6 y7 y8 : Option V), σ = [some (.str (wordB k)), some (.ref d), some (.ref a), some (.ref b), some (.str r.1), some (.ref p), y6, y7, y8] ∧ Same H5 H') ⟨y6, y7, y8, rfl, Same.refl _⟩ (fun _ _ _ _ h => ?_) ?_ ?_
      · obtain ⟨_, _, _, _, s⟩ := h
        cases bt with
        | true => exact KeepT.same s _ _ (hb1 rfl)
        | false => exact s.seq (hb0 rfl)
      · rintro j x σ H6 H7 hj ⟨y6, y7, y8, rfl, s6⟩ ⟨T2, x1, y1, rfl, hT2, rfl, e1, e2⟩
        cases e1
        obtain ⟨de, hde, td⟩ := hX.at_ e2
        rw [List.getElem?_map] at hde
        obtain ⟨e, he', rfl⟩ := Option.map_eq_some_iff.mp hde
        have s7 := (s5.trans s6).trans (same_upd (o := .tup [.int (0 + (j : Nat)), y1]) hT2)
        refine ⟨T2, _, rfl, SqT.of upd_same, rfl, _, _, rfl, _, _, rfl, rfl, ?_⟩
        refine ⟨_, rfl, _, rfl, _, rfl, _, rfl, 0 + (j : Nat), rfl, p, xs, rfl, hR.same s7, fun H8 t s8 ht => ?_⟩
        have s8' := s7.trans s8
        rw [show (0 + (j : Nat) : Int) = (j : Int) by omega, cut_take xs j (Nat.le_of_lt hj)] at ht
        refine ⟨_, rfl, _, rfl, k, y1, e, r.2.take j, t, a, b, xs.take j, ks, cs, rfl, td.keep (KeepT.same s8'), ht, ?_, ?_, s8' _ _ hk1, s8' _ _ hc1, rok j e he', fun H9 s9 => ?_⟩
        · have := (hX.keep (KeepT.same s8')).take j
          rw [← List.map_take] at this
          exact this
        · rw [List.length_take]
          omega
        refine ⟨_, rfl, rfl, _, rfl, iteNY rfl ?_⟩
        exact ⟨_, _, _, rfl, (s6.trans (same_upd (o := .tup [.int (0 + (j : Nat)), y1]) hT2)).trans (s8.trans s9)⟩
      · rintro σ H6 ⟨y6, y7, y8, rfl, s6⟩
        exact ⟨_, _, _, _, _, rfl, s5.trans s6⟩
    · rintro σ H2 ⟨y4, y5, y6, y7, y8, rfl, s2⟩
      subst hH1
      exact ⟨s2 _ _ hd1, q _ (unlock hd s2)⟩
end
end K02
namespace K02
open PySem PySem.Spec PyProof.Rows L2 Tw Sb LamX
def spByN (K : PySem.W.Frag) (TS : List (Addr × Str)) : Sp := fun vs H Q _ => ∃ (d : Addr) (kvs : List (Key × V)) (tb : List TRow), vs = [.ref d] ∧ H d = some (.dK kvs) ∧ Paired (RowIs K H) kvs tb ∧ (tb.map Prod.fst).Nodup ∧ tb.length ≤ 1000 ∧ Tabs TS H ∧
  ∀ (H' : Hp) (r : Addr) (kvs' : List (Key × V)), ExtN H H' → Tabs TS H' → H r = none → H' r = some (.dK kvs') → Paired (RowT K H') kvs' (sortT tb) → Q (.ref r) H'
section
variable {P : Program} {w : World} {K : PySem.W.Frag} {mg : Str → Option Value} {base : Heap}
theorem ok_by_numbers {c PT f : Addr} {oc kV doc pm ct : Value} {od an : Option Addr} {osl : Array (Option Value)} {TS : List (Addr × Str)} (lk : K.lookup f = some ⟨oc, od, .func (PySem.W.fnOf "_by_numbers" "_by_numbers" (defArgs s__by_numbers) (defBody s__by_numbers) (defScope s__by_numbers) .none kV doc pm an (.ref c) ct), osl⟩) (hcd : PySem.W.codeIn K (.ref c) "_by_numbers" = true)
    (T : Bu mg) (TB : TabB base mg c PT) (hB : (PT, ("_by_numbers.<locals>.<lambda>" : Str)) ∈ TS) (hu : ∀ p ∈ TS, p.1 = PT → p.2 = ("_by_numbers.<locals>.<lambda>" : Str)) :
    FnOk P w K mg base CX0 4 f (PySem.W.fnOf "_by_numbers" "_by_numbers" (defArgs s__by_numbers) (defBody s__by_numbers) (defScope s__by_numbers) .none kV doc pm an (.ref c) ct) ["rows"] (spByN K TS) := by
  refine fn_of lk hcd sc__by_numbers (fun vs H Q E h => ?_) fun A outer s H vs Q E hr h => ?_
  · obtain ⟨d, kvs, tb, rfl, _⟩ := h
    rfl
  · obtain ⟨d, kvs, tb, rfl, hd, hp, hnd, hl, hT, q⟩ := h
    have body : ∃ t, PSs ((cxOf CX0 P w K mg base N__by_numbers "_by_numbers" (defScope s__by_numbers) f (.ref c) A outer s H E).nox) (defBody s__by_numbers) t ∧ t { nx := fun _ H' => Q .non H', rt := Q } (L2.start N__by_numbers [.ref d]) H := by
     refine ⟨_, (pss_one (ps_ret (pe_lock (pe_dc (X := (cxOf CX0 P w K mg base N__by_numbers "_by_numbers" (defScope s__by_numbers) f (.ref c) A outer s H E).nox) (own := [("name", 1), ("row", 2)]) (g := gTup K 2 (gCons (gName 1) (gCons (gName 2) gNil))) rfl sc__by_numbers.nd (pi_items (pv 0)) (blkOk_by (N := N__by_numbers) (sc := defScope s__by_numbers) (by decide +kernel)) (fun _ _ _ _ _ => pg_tup rfl (pgs_cons (pg_name (i := 1) sc__by_numbers.nd rfl (.inl rfl)) (pgs_cons (pg_name (i := 2) sc__by_numbers.nd rfl (.inl rfl)) pgs_nil))) (fun _ _ _ _ _ => pts_nil) (fun _ _ _ _ _ => (pv 1)) (fun _ _ _ _ _ => pe_callTy (T := "tuple") (r := rTupOf K) cr_tupK (by rfl) T.n_tuple (by decide +kernel) (pa_cons (pe_sortLam K (T := TS) (pr := "entry") (by rfl) T.n_sorted (pv 2) TB rfl hB hu (hr.mono (show 1 ≤ 3 by decide)) ⟨⟨rfl, rfl, rfl⟩, rfl, ⟨_, _, _, _, rfl⟩, by decide⟩ rfl (fun _ _ _ _ _ _ => rfl)) pa_nil)))))), ?_⟩
     refine ⟨d, _, hd, trivial, fun od => ?_⟩
     have hd1 : (upd H d (.frz od (.dK kvs))) d = some (.frz od (.dK kvs)) := upd_same
     have hT1 : Tabs TS (upd H d (.frz od (.dK kvs))) := tabs_put hT fun o e => by rw [hd] at e; cases e; exact .dK
     have hback : ∀ H', ExtN (upd H d (.frz od (.dK kvs))) H' → ExtN H (upd H' d (.dK kvs)) := fun H' e b o q n => by
       by_cases hb : b = d
       · subst hb
         rw [upd_same, ← hd, q]
       · rw [upd_ne hb]
         exact e b o (by rw [upd_ne hb]; exact q) n
     have hrow : ∀ {v : V} {es : List En}, EnRow K H es v → ∃ a xs, v = .ref a ∧ SqR K (upd H d (.frz od (.dK kvs))) a xs ∧ Tds K (upd H d (.frz od (.dK kvs))) xs (es.map En.pd) := fun ⟨a, xs, e, h1, h2⟩ =>
       ⟨a, xs, e, h1.elim (fun h => .inl (lock_list hd h)) (fun h => .inr (lock_keep hd _ _ h)), h2.keep (lock_keep hd)⟩
     have hfree : ∀ {D : Addr}, (upd H d (.frz od (.dK kvs))) D = none → D ≠ d ∧ H D = none := fun {D} e => by
       have n : D ≠ d := fun w => by rw [w, upd_same] at e; cases e
       rw [upd_ne n] at e
       exact ⟨n, e⟩
     generalize upd H d (.frz od (.dK kvs)) = H1 at hd1 hT1 hback hrow hfree ⊢
     refine ⟨_, rfl, d, od, kvs, rfl, hd1, fun D hD => ?_⟩
     refine ⟨fun i m H' => m = kvs.length - i ∧ i ≤ kvs.length ∧ ExtN H1 H' ∧ Tabs TS H' ∧ ∃ kvs', H' D = some (.dK kvs') ∧ Paired (RowT K H') kvs' (sortT (tb.take i)), ⟨_, rfl, Nat.zero_le _, extN_new (.refl _) hD, tabs_new hT1 hD, [], upd_same, .nil⟩, ?_⟩
     rintro i m H' ⟨rfl, hi, e1, tT, kvs', hD', pr⟩
     have hd2 : H' d = some (.frz od (.dK kvs)) := e1 _ _ hd1 fun _ z => nomatch z
     by_cases hlt : i < kvs.length
     · refine .inr ⟨⟨hd2, hlt⟩, fun H' => i + 1 ≤ kvs.length ∧ ExtN H1 H' ∧ Tabs TS H' ∧ ∃ kvs', H' D = some (.dK kvs') ∧ Paired (RowT K H') kvs' (sortT (tb.take (i + 1))), fun H' h => ⟨kvs.length - (i + 1), by omega, rfl, h.1, h.2⟩, ?_⟩
       rintro x H2 ⟨T1, k, v, he, rfl, hT1', rfl⟩
       obtain ⟨r, hr1, hk', hrw⟩ := pd_atL hp he
       have hk' : k = .inr r.1 := hk'
       subst hk'
       obtain ⟨l, xs, hv, hR, hX⟩ := hrow hrw
       have hv : v = .ref l := hv
       subst hv
       obtain ⟨ps, p1, p2, p3, p4⟩ := sort_row hX
       have nTD : D ≠ T1 := ne_of_none hD' hT1'
       have e2 : ExtN H1 (upd H' T1 (.tup [L2.kV (.inr r.1), .ref l])) := fun b o q n => by
         rw [upd_ne (ne_of_none (e1 b o q n) hT1')]
         exact e1 b o q n
       refine ⟨T1, _, rfl, SqT.of upd_same, rfl, _, _, rfl, _, _, rfl, rfl, rfl, ?_⟩
       have k2 : KeepT K H1 (upd H' T1 (.tup [L2.kV (.inr r.1), .ref l])) := KeepT.extN e2
       have sq2 : SqR K (upd H' T1 (.tup [L2.kV (.inr r.1), .ref l])) l (ps.map Prod.fst) := by
         rw [p1]
         exact hR.elim (fun h => .inl (SqL.extN h e2)) fun h => .inr (SqT.extN h e2)
       have hD2 : (upd H' T1 (.tup [L2.kV (.inr r.1), .ref l])) D = some (.dK kvs') := by
         rw [upd_ne nTD]
         exact hD'
       have tT2 : Tabs TS (upd H' T1 (.tup [L2.kV (.inr r.1), .ref l])) := tabs_new tT hT1'
       have pr2 : Paired (RowT K (upd H' T1 (.tup [L2.kV (.inr r.1), .ref l]))) kvs' (sortT (tb.take i)) := pd_mono (fun _ _ h => h.keep (KeepT.same (same_upd hT1'))) pr
       generalize upd H' T1 (.tup [L2.kV (.inr r.1), .ref l]) = H2 at e2 k2 sq2 hD2 tT2 pr2 ⊢
       refine ⟨_, rfl, _, rfl, l, ps, rfl, sq2, fun p hp => ?_, tT2, fun H3 z eN T3 hz => ⟨z, _, rfl, .inl ⟨SqL.of upd_same, fun t ht => ?_⟩⟩⟩
       · obtain ⟨a, ys, e, h1⟩ := p2 p hp
         exact ⟨a, ys, e, k2 _ _ h1⟩
       have hD3 : H3 D = some (.dK kvs') := eN _ _ hD2 fun _ z => nomatch z
       have nDz : D ≠ z := ne_of_none hD3 hz
       have hD4 : (upd H3 z (.lst ((byKey ps).map Prod.fst))) D = some (.dK kvs') := by
         rw [upd_ne nDz]
         exact hD3
       have nDt : D ≠ t := ne_of_none hD4 ht
       have nk : (Sum.inr r.1 : Key) ∉ kvs'.map Prod.fst := by
         rw [rowsT_keys pr2]
         intro hm
         obtain ⟨n, hn, e⟩ := List.mem_map.mp hm
         cases e
         unfold sortT at hn
         rw [List.map_map] at hn
         obtain ⟨r', hr', e⟩ := List.mem_map.mp hn
         have e : r'.1 = r.1 := e
         obtain ⟨j, hj⟩ := List.getElem?_of_mem hr'
         have hji : j < i := by
           have := (List.getElem?_eq_some_iff.mp hj).1
           rw [List.length_take] at this
           omega
         rw [List.getElem?_take, if_pos hji] at hj
         have a1 : (tb.map Prod.fst)[j]? = some r.1 := by rw [List.getElem?_map, hj, ← e] <;> rfl
         have a2 : (tb.map Prod.fst)[i]? = some r.1 := by rw [List.getElem?_map, hr1] <;> rfl
         have := (List.getElem?_inj (List.getElem?_eq_some_iff.mp a1).1 hnd).mp (a1.trans a2.symm)
         omega
       have hll : kvs'.length = i := by
         have := pr2.length
         unfold sortT at this
         rw [List.length_map, List.length_take] at this
         have hi2 := (List.getElem?_eq_some_iff.mp hr1).1
         omega
       have hlt2 := (List.getElem?_eq_some_iff.mp hr1).1
       have s4 : Same H3 (upd (upd H3 z (.lst ((byKey ps).map Prod.fst))) t (.tup ((byKey ps).map Prod.fst))) := (same_upd hz).trans (same_upd ht)
       refine ⟨kvs', .inr r.1, rfl, by rw [upd_ne nDt]; exact hD4, small1000 (by omega), hlt, ?_, ?_, kvs' ++ [(.inr r.1, .ref t)], ?_, ?_⟩
       · refine extN_new ?_ hD
         exact (e2.trans eN).trans (.of s4)
       · refine tabs_put (T3.ext s4) fun o e => ?_
         rw [upd_ne nDt, hD4] at e
         cases e
         exact .dK
       · rw [upd_same, putK_new nk]
       · have k5 : KeepT K H2 (upd (upd (upd H3 z (.lst ((byKey ps).map Prod.fst))) t (.tup ((byKey ps).map Prod.fst))) D (.dK (putK kvs' (.inr r.1) (.ref t)))) := by
           refine ((KeepT.extN eN).trans (KeepT.same s4)).trans (KeepT.but fun b o e => ?_)
           have nb : (∀ k, o ≠ .dK k) → b ≠ D := fun n w => by
             rw [w, upd_ne nDt, hD4] at e
             exact n _ (Option.some.inj e).symm
           exact ⟨fun xs w => by rw [upd_ne (nb fun k z => by rw [w] at z; cases z)]; exact e, fun q xs w => by rw [upd_ne (nb fun k z => by rw [w] at z; cases z)]; exact e⟩
         unfold sortT
         rw [List.take_add_one, hr1, List.map_append]
         refine pd_append (pd_mono (fun _ _ h => h.keep k5) pr2) (.cons ⟨rfl, t, _, rfl, ?_, p3 _ (k2.trans k5)⟩ .nil)
         refine SqT.of ?_
         rw [upd_ne (Ne.symm nDt), upd_same]
     · have hie : i = kvs.length := by omega
       subst hie
       refine .inl ⟨⟨hd2, Nat.le_refl _⟩, hd2, ?_⟩
       have hlk : kvs.length = tb.length := hp.length
       rw [hlk, List.take_length] at pr
       obtain ⟨n1, n2⟩ := hfree hD
       refine q _ D kvs' (hback _ e1) (tabs_put tT fun o e => by rw [hd2] at e; cases e; exact .frz) n2 ?_ ?_
       · show upd H' d (.dK kvs) D = _
         rw [upd_ne n1]
         exact hD'
       · exact pd_mono (fun _ _ h => h.keep (unlock_keep hd2)) pr
    obtain ⟨t, dd, hq⟩ := body
    exact ⟨t, dd.nox, hq⟩
end
end K02
namespace K02
open PySem PySem.Spec PyProof.Rows L2 Tw Sb LamX
def spBack (K : PySem.W.Frag) : Sp := fun vs H Q _ => ∃ (d : Addr) (kvs : List (Key × V)) (tb : List TRow), vs = [.ref d] ∧ H d = some (.dK kvs) ∧ Paired (RowT K H) kvs tb ∧ (tb.map Prod.fst).Nodup ∧ (∀ r ∈ tb, r.2 ≠ []) ∧ Fwd tb ∧ ∀ H', Same H H' → Q .non H'
def spSInit (K : PySem.W.Frag) (C : Addr) (TS : List (Addr × Str)) : Sp := fun vs H Q _ => ∃ (p dx d1 : Addr) (cv rv : V) (kvs1 : List (Key × V)) (tb1 tb2 : List TRow) (s : So), vs = [.ref p, .ref d1, cv, rv] ∧ H p = some (.ins C dx []) ∧ H d1 = some (.dK kvs1) ∧ Paired (RowIs K H) kvs1 tb1 ∧
  ((cv = .non ∧ tb2 = []) ∨ ∃ d2 kvs2, cv = .ref d2 ∧ H d2 = some (.dK kvs2) ∧ Paired (RowIs K H) kvs2 tb2) ∧ Td K H rv s.pd ∧ ScOk tb1 tb2 s ∧ Tabs TS H ∧ ∀ H', ButN p H H' → Tabs TS H' → ScAt K C (New H) H' p tb1 tb2 s → Q .non H'
section
variable {P : Program} {w : World} {K : PySem.W.Frag} {mg : Str → Option Value} {base : Heap}
theorem ok_back {f : Addr} {fd : FuncData} (F : Fun K "_refuse_comings_back" "_refuse_comings_back" s__refuse_comings_back f fd) : FnOk P w K mg base CX0 1 f fd ["choices"] (spBack K) := by
  refine F.ok sc__refuse_comings_back (fun vs H Q E h => ?_) (fun cdv A outer s H vs Q E hr h => ?_)
  · obtain ⟨d, kvs, tb, rfl, _⟩ := h
    rfl
  · obtain ⟨d, kvs, tb, rfl, hd, hp, hnd, hne, ⟨rank, hrk⟩, q⟩ := h
    have hu := hu_of hr
    refine ⟨_, (pss_one (ps_lock (ps_for PassesOwn.never rfl (pi_keys (pv 0)) (pg_name (i := 1) sc__refuse_comings_back.nd rfl (.inl rfl))
        (pss_cons (ps_set (i := 2) sc__refuse_comings_back.nd rfl (.inl rfl) (pv 1))
        (pss_one (ps_for PassesOwn.never rfl (pi_keys (pv 0)) (pg_name (i := 3) sc__refuse_comings_back.nd rfl (.inl rfl))
          (pss_cons (ps_set (i := 4) sc__refuse_comings_back.nd rfl (.inl rfl) (pe_ix (r := rIxT K) ix_tup (pe_ix (r := rIxT K) ix_tup (pe_dget hu (pv 0) (pv 2) (fun _ _ => rfl)) pe_int (fun _ _ => rfl)) pe_int (fun _ _ => rfl)))
          (pss_cons (ps_if (PW.pt (pw_or (pt_cmpR op_isN (pv 4) pe_non (nomark _)) (pw_or1 (pt_cmpR op_ne (pe_ix (r := rIxT K) ix_tup (pv 4) pe_int (fun _ _ => rfl)) pe_str (nomark _)))))
            (pss_one ps_break)
            pss_nil)
          (pss_cons (ps_set (i := 2) sc__refuse_comings_back.nd rfl (.inl rfl) (pe_ix (r := rIxT K) ix_tup (pv 4) pe_int (fun _ _ => rfl)))
          (pss_one (ps_if (pt_cmpR op_eq (pv 2) (pv 1) (nomark _))
            (pss_one ps_dead)
            pss_nil))))))))))), ?_⟩
    refine ⟨d, _, hd, trivial, fun od => ?_⟩
    have hd1 : (upd H d (.frz od (.dK kvs))) d = some (.frz od (.dK kvs)) := upd_same
    have hp1 : Paired (RowT K (upd H d (.frz od (.dK kvs)))) kvs tb := pd_mono (fun _ _ h => h.keep (lock_keep hd)) hp
    have hback : Same H (upd (upd H d (.frz od (.dK kvs))) d (.dK kvs)) := unlock hd (Same.refl _)
    generalize upd H d (.frz od (.dK kvs)) = H1 at hd1 hp1 hback ⊢
    refine ⟨_, rfl, d, od, rfl, .inl ⟨kvs, hd1, ?_⟩⟩
    refine for_it walk_keys (fun i σ H' => ∃ (y1 y2 y3 y4 : Option V), σ = [some (.ref d), y1, y2, y3, y4] ∧ H1 = H') ⟨_, _, _, _, rfl, rfl⟩ (fun _ _ _ _ ⟨_, _, _, _, _, e⟩ => e ▸ hd1) ?_ ?_
    · rintro i x σ H2 H3 hi ⟨y1, y2, y3, y4, rfl, rfl⟩ ⟨eH, k, v, he, rfl⟩
      obtain rfl := eH.symm
      obtain ⟨z, hz, rfl⟩ := key_at (rowsT_keys hp1) he
      have hzm : z ∈ tb.map Prod.fst := List.mem_of_getElem? hz
      refine ⟨_, rfl, ?_⟩
      refine ⟨_, rfl, d, od, rfl, .inl ⟨kvs, hd1, ?_⟩⟩
      refine for_it walk_keys (fun j σ H' => ∃ (at_ : Str) (y3 y4 : Option V), σ = [some (.ref d), some (.str z), some (.str at_), y3, y4] ∧ H1 = H' ∧ at_ ∈ tb.map Prod.fst ∧ (at_ = z ∨ rank z < rank at_)) ⟨z, _, _, rfl, rfl, hzm, .inl rfl⟩ (fun _ _ _ _ ⟨_, _, _, _, e, _⟩ => e ▸ hd1) ?_ ?_
      · rintro j x σ H2 H3 hj ⟨at_, y3, y4, rfl, rfl, hm, hor⟩ ⟨eH, k2, v2, he2, rfl⟩
        obtain rfl := eH.symm
        obtain ⟨r, hrm, rfl⟩ := List.mem_map.mp hm
        obtain ⟨a, xs, g1, g2, g3⟩ := val_row hp1 hnd hrm
        obtain ⟨e, es, hes⟩ : ∃ e es, r.2 = e :: es := by
          cases hr2 : r.2 with
          | nil => exact absurd hr2 (hne r hrm)
          | cons e es => exact ⟨e, es, rfl⟩
        rw [hes] at g3
        obtain ⟨x0, xs', rfl, g4⟩ : ∃ x0 xs', xs = x0 :: xs' ∧ Td K H1 x0 e.pd := by
          cases g3 with
          | cons t1 t2 => exact ⟨_, _, rfl, t1⟩
        obtain ⟨p, x2, ys, rfl, hq, h2, _⟩ := Tds.entry g4
        have hrk1 := hrk r hrm e (by rw [hes] <;> rfl)
        refine ⟨_, rfl, _, rfl, d, _, rfl, .inl ⟨kvs, .inr r.1, .inr ⟨od, hd1⟩, rfl, g1.symm⟩, a, _, 0, .ref p, rfl, rfl, g2, at0, p, _, 2, x2, rfl, rfl, hq, at2, ?_⟩
        cases eo : e.of with
        | none =>
          rw [eo] at h2
          obtain rfl := h2.toNone
          exact ⟨_, rfl, rfl, _, rfl, iteY rfl ⟨_, _, _, _, rfl, rfl⟩⟩
        | some s =>
          rw [eo] at h2
          obtain ⟨pc, zs, rfl, hz, hzs⟩ := Td.row (show Td K H1 x2 (.tuple (.str s.word :: s.rest)) from h2)
          obtain ⟨zs', rfl, hzr⟩ : ∃ zs', zs = .str s.word :: zs' ∧ Tds K H1 zs' s.rest := by
            cases hzs with
            | cons t1 t2 =>
              cases t1
              exact ⟨_, rfl, t2⟩
          refine ⟨_, rfl, rfl, _, rfl, iteN (fun z => nomatch z) ?_⟩
          refine ⟨_, rfl, pc, _, 0, .str s.word, rfl, rfl, hz, at0, rfl, _, rfl, ?_⟩
          by_cases hc : ∃ c, s = .cho c
          · obtain ⟨c, rfl⟩ := hc
            obtain ⟨x1, rfl, h1⟩ : ∃ x1, zs' = [x1] ∧ x1 = .str c := by
              cases hzr with
              | cons t1 t2 =>
                cases t2
                exact ⟨_, rfl, t1.toStr⟩
            subst h1
            obtain ⟨r1, r2⟩ := hrk1 c eo
            have r3 : rank z < rank c := by
              rcases hor with w | w
              · rw [← w]
                exact r1
              · omega
            refine iteNY rfl ⟨_, rfl, pc, _, 1, .str c, rfl, rfl, hz, at1, ?_⟩
            refine ⟨_, rfl, _, rfl, rfl, _, rfl, iteN (sne fun w => ?_) ⟨c, _, _, rfl, rfl, r2, .inr r3⟩⟩
            rw [w] at r3
            omega
          · have nw : s.word ≠ "choice" := by
              cases s with
              | cho c => exact absurd ⟨c, rfl⟩ hc
              | num lo hi => exact (show ("number" : Str) ≠ "choice" by decide +kernel)
              | tru => exact (show ("truth" : Str) ≠ "choice" by decide +kernel)
              | txt n => exact (show ("text" : Str) ≠ "choice" by decide +kernel)
              | row n s => exact (show ("row" : Str) ≠ "choice" by decide +kernel)
              | may s => exact (show ("maybe" : Str) ≠ "choice" by decide +kernel)
              | nod k => exact (show ("node" : Str) ≠ "choice" by decide +kernel)
            exact iteNN (sne nw) ⟨_, _, _, _, rfl, rfl⟩
      · rintro σ H2 ⟨at_, y3, y4, rfl, rfl, _⟩
        exact ⟨_, _, _, _, rfl, rfl⟩
    · rintro σ H2 ⟨y1, y2, y3, y4, rfl, rfl⟩
      exact ⟨hd1, q _ hback⟩
theorem put1 {v : V} : putF "kinds" v [] = [(("kinds" : Str), v)] := rfl
theorem put2 {v u : V} : putF "choices" v [(("kinds" : Str), u)] = [(("kinds" : Str), u), (("choices" : Str), v)] := by
  show (if ("kinds" : Str) = "choices" then _ else (("kinds" : Str), u) :: putF "choices" v []) = _
  rw [if_neg (by decide +kernel)]
  rfl
theorem put3 {v u x : V} : putF "root" v [(("kinds" : Str), u), (("choices" : Str), x)] = [(("kinds" : Str), u), (("choices" : Str), x), (("root" : Str), v)] := by
  show (if ("kinds" : Str) = "root" then _ else (("kinds" : Str), u) :: (if ("choices" : Str) = "root" then _ else (("choices" : Str), x) :: putF "root" v [])) = _
  rw [if_neg (by decide +kernel), if_neg (by decide +kernel)]
  rfl
theorem sortT_keys (tb : List TRow) : (sortT tb).map Prod.fst = tb.map Prod.fst := by
  unfold sortT
  rw [List.map_map]
  rfl
theorem names_ok {k : Bool} {ks cs : List Str} {tb : List TRow} (h : TabOk k ks cs tb) : ∀ n ∈ tb.map Prod.fst, isNm n = true := fun n hn => by
  obtain ⟨r, hr, rfl⟩ := List.mem_map.mp hn
  exact (h r hr).1
theorem RowIs.extN {H H' : Hp} (e : ExtN H H') {kv : Key × V} {r : TRow} (h : RowIs K H kv r) : RowIs K H' kv r := by
  obtain ⟨h1, a, xs, h2, h3, h4⟩ := h
  exact ⟨h1, a, xs, h2, h3.elim (fun h => .inl (SqL.extN h e)) (fun h => .inr (SqT.extN h e)), h4.keep (KeepT.extN e)⟩
theorem RowIs.ins {H : Hp} {p C dx : Addr} {fs fs' : List (Str × V)} (hp : H p = some (.ins C dx fs)) {kv : Key × V} {r : TRow} (h : RowIs K H kv r) : RowIs K (upd H p (.ins C dx fs')) kv r := by
  obtain ⟨h1, a, xs, h2, h3, h4⟩ := h
  refine ⟨h1, a, xs, h2, h3.elim (fun h => .inl ?_) (fun h => .inr (keepT_ins hp _ _ h)), h4.keep (keepT_ins hp)⟩
  rcases h with (h | ⟨o, h⟩) | h
  · exact .inl (.inl (by rw [upd_ne (ne_of h hp (by intro z; cases z))]; exact h))
  · exact .inl (.inr ⟨o, by rw [upd_ne (ne_of h hp (by intro z; cases z))]; exact h⟩)
  · exact .inr h
theorem ok_sinit {C f : Addr} {fd : FuncData} {TS : List (Addr × Str)} (F : Fun K "__init__" "Schema.__init__" s_Schema___init__ f fd) (cl : ClS K C) (c__names : Cal P w K mg base 2 "_names" ["rows"] spNames) (c__refuse_rows : Cal P w K mg base 6 "_refuse_rows" ["word", "rows", "kinds", "choices"] (spRows K))
    (c_is_sort : Cal P w K mg base 4 "is_sort" ["of", "kinds", "choices"] (spSort K)) (c__by_numbers : Cal P w K mg base 4 "_by_numbers" ["rows"] (spByN K TS)) (c__refuse_comings_back : Cal P w K mg base 1 "_refuse_comings_back" ["choices"] (spBack K)) :
    FnOk P w K mg base CX0 7 f fd ["self", "kinds", "choices", "root"] (spSInit K C TS) := by
  refine F.ok sc_Schema___init__ (fun vs H Q E h => ?_) (fun cdv A outer s H vs Q E hr h => ?_)
  · obtain ⟨p, dx, d1, cv, rv, kvs1, tb1, tb2, s, rfl, _⟩ := h
    rfl
  · obtain ⟨p, dx, d1, cv, rv, kvs1, tb1, tb2, z, rfl, hp, hd1, hp1, hcv, hrv, ok, hT, q⟩ := h
    refine ⟨_, (pss_mid (ps_set (i := 4) sc_Schema___init__.nd rfl (.inl rfl) (pe_ifExp (pt_cmpR op_isN (pv 2) pe_non (nomark _)) pe_dnewK (pv 2)))
      (pss_cons (ps_set (i := 5) sc_Schema___init__.nd rfl (.inl rfl) (pe_cal c__names hr (by decide) (by rfl) (pa_cons (pv 1) pa_nil)))
      (pss_cons (ps_set (i := 6) sc_Schema___init__.nd rfl (.inl rfl) (pe_cal c__names hr (by decide) (by rfl) (pa_cons (pv 4) pa_nil)))
      (pss_cons (ps_expr (pe_cal c__refuse_rows hr (by decide) (by rfl) (pa_cons pe_str (pa_cons (pv 1) (pa_cons (pv 5) (pa_cons (pv 6) pa_nil))))))
      (pss_cons (ps_expr (pe_cal c__refuse_rows hr (by decide) (by rfl) (pa_cons pe_str (pa_cons (pv 4) (pa_cons (pv 5) (pa_cons (pv 6) pa_nil))))))
      (pss_cons (ps_if (pt_not (pt_val (pe_cal c_is_sort hr (by decide) (by rfl) (pa_cons (pv 3) (pa_cons (pv 5) (pa_cons (pv 6) pa_nil))))))
        (pss_one ps_dead)
        pss_nil)
      (pss_cons (ps_fld (pv 0) (pe_cal c__by_numbers hr (by decide) (by rfl) (pa_cons (pv 1) pa_nil)) rfl)
      (pss_cons (ps_fld (pv 0) (pe_cal c__by_numbers hr (by decide) (by rfl) (pa_cons (pv 4) pa_nil)) rfl)
      (pss_cons (ps_fld (pv 0) (pv 3) rfl)
      (pss_one (ps_expr (pe_cal c__refuse_comings_back hr (by decide) (by rfl) (pa_cons (pe_fld (pv 0) rfl) pa_nil))))))))))))), ?_⟩
    refine ⟨fun σ H' => ∃ (g : Addr) (kvs2 : List (Key × V)), σ = [some (.ref p), some (.ref d1), some cv, some rv, some (.ref g), none, none] ∧ Same H H' ∧ H' g = some (.dK kvs2) ∧ Paired (RowIs K H') kvs2 tb2, ?_, ?_⟩
    · rcases hcv with ⟨rfl, rfl⟩ | ⟨d2, kvs2, rfl, hd2, hp2⟩
      · refine ⟨_, rfl, rfl, _, rfl, iteY rfl fun g hg => ?_⟩
        exact ⟨g, [], rfl, same_upd hg, upd_same, .nil⟩
      · exact ⟨_, rfl, rfl, _, rfl, iteN (fun z => nomatch z) ⟨_, rfl, d2, kvs2, rfl, Same.refl _, hd2, hp2⟩⟩
    rintro σ H1 ⟨g, kvs2, rfl, s1, hg, hp2⟩
    have e1 : ExtN H H1 := .of s1
    have hp11 := pd_mono (fun _ _ h => RowIs.extN e1 h) hp1
    refine ⟨_, rfl, d1, kvs1, tb1.map Prod.fst, rfl, s1 _ _ hd1, rows_keys hp11, names_ok ok.t1, by rw [List.length_map]; exact ok.l1, fun H2 r1 s2 n1 m1 => ?_⟩
    have e2 : ExtN H1 H2 := .of s2
    have hp12 := pd_mono (fun _ _ h => RowIs.extN e2 h) hp11
    have hp22 := pd_mono (fun _ _ h => RowIs.extN e2 h) hp2
    refine ⟨_, rfl, g, kvs2, tb2.map Prod.fst, rfl, s2 _ _ hg, rows_keys hp22, names_ok ok.t2, by rw [List.length_map]; exact ok.l2, fun H3 r2 s3 n2 m2 => ?_⟩
    have e3 : ExtN H2 H3 := .of s3
    have hp13 := pd_mono (fun _ _ h => RowIs.extN e3 h) hp12
    have hp23 := pd_mono (fun _ _ h => RowIs.extN e3 h) hp22
    have s13 := (s1.trans s2).trans s3
    have hg3 := s3 _ _ (s2 _ _ hg)
    refine ⟨_, rfl, _, rfl, _, rfl, true, d1, r1, r2, kvs1, tb1, _, _, rfl, s13 _ _ hd1, hp13, ok.t1, s3 _ _ m1, m2, fun H4 s4 => ?_⟩
    have hp24 := pd_mono (fun _ _ h => RowIs.extN (.of s4) h) hp23
    have hp14 := pd_mono (fun _ _ h => RowIs.extN (.of s4) h) hp13
    refine ⟨_, rfl, _, rfl, _, rfl, false, g, r1, r2, kvs2, tb2, _, _, rfl, s4 _ _ hg3, hp24, ok.t2, s4 _ _ (s3 _ _ m1), s4 _ _ m2, fun H5 s5 => ?_⟩
    have s15 := (s13.trans s4).trans s5
    refine ⟨_, rfl, _, rfl, _, rfl, rv, z, r1, r2, _, _, rfl, hrv.keep (KeepT.same s15), s5 _ _ (s4 _ _ (s3 _ _ m1)), s5 _ _ (s4 _ _ m2), ok.ok, fun H6 s6 => ⟨true, rfl, iteF ?_⟩⟩
    have s16 := s15.trans s6
    have hp16 := pd_mono (fun _ _ h => RowIs.extN (.of (s5.trans s6)) h) hp14
    have hp26 := pd_mono (fun _ _ h => RowIs.extN (.of (s5.trans s6)) h) hp24
    have hg6 := s6 _ _ (s5 _ _ (s4 _ _ hg3))
    have hT6 := hT.ext s16
    refine ⟨_, rfl, d1, kvs1, tb1, rfl, s16 _ _ hd1, hp16, ok.n1, ok.l1, hT6, fun H7 k1 kv1 e7 T7 nk1 hk1 hq1 => ?_⟩
    have N1 : New H k1 := fun o e => by
      by_cases ht : ∃ ps, o = .tbl ps
      · exact ht
      · rw [s16 _ _ e] at nk1
        cases nk1
    have hp7 : H7 p = some (.ins C dx []) := e7 _ _ (s16 _ _ hp) fun _ z => nomatch z
    have hg7 := e7 _ _ hg6 fun _ z => nomatch z
    have ne7 : ∀ {b : Addr} {kv : List (Key × V)}, H7 b = some (.dK kv) → b ≠ p := fun e => ne_of e hp7 (by intro z; cases z)
    refine ⟨_, rfl, p, C, dx, [], rfl, hp7, cl.cl, cl.nK, by show 0 < 1000; decide, ?_⟩
    have hp8 : (upd H7 p (.ins C dx (putF "kinds" (.ref k1) []))) p = some (.ins C dx [("kinds", .ref k1)]) := by rw [upd_same, put1]
    have hg8 : (upd H7 p (.ins C dx (putF "kinds" (.ref k1) []))) g = some (.dK kvs2) := by rw [upd_ne (ne7 hg7)]; exact hg7
    have hk18 : (upd H7 p (.ins C dx (putF "kinds" (.ref k1) []))) k1 = some (.dK kv1) := by rw [upd_ne (ne7 hk1)]; exact hk1
    have T8 : Tabs TS (upd H7 p (.ins C dx (putF "kinds" (.ref k1) []))) := tabs_put T7 fun o e => by rw [hp7] at e; cases e; exact .ins
    have hp28 := pd_mono (fun _ _ h => RowIs.ins (fs' := putF "kinds" (.ref k1) []) hp7 (RowIs.extN e7 h)) hp26
    have hq18 := pd_mono (fun _ _ h => RowT.keep (keepT_ins (fs' := putF "kinds" (.ref k1) []) hp7) h) hq1
    have hrv8 : Td K (upd H7 p (.ins C dx (putF "kinds" (.ref k1) []))) rv z.pd := ((hrv.keep (KeepT.same s16)).keep (KeepT.extN e7)).keep (keepT_ins hp7)
    have b8 : ButN p H (upd H7 p (.ins C dx (putF "kinds" (.ref k1) []))) := ButN.put (.of ((ExtN.of s16).trans e7))
    generalize upd H7 p (.ins C dx (putF "kinds" (.ref k1) [])) = H8 at hp8 hg8 hk18 T8 hp28 hq18 hrv8 b8 ⊢
    refine ⟨_, rfl, g, kvs2, tb2, rfl, hg8, hp28, ok.n2, ok.l2, T8, fun H9 k2 kv2 e9 T9 nk2 hk2 hq2 => ?_⟩
    have N2 : New H k2 := fun o e => by
      by_cases ht : ∃ ps, o = .tbl ps
      · exact ht
      · by_cases hk : k2 = p
        · rw [hk, hp8] at nk2
          cases nk2
        · rw [b8 k2 o hk e fun ps h => ht ⟨ps, h⟩] at nk2
          cases nk2
    have hp9 : H9 p = some (.ins C dx [("kinds", .ref k1)]) := e9 _ _ hp8 fun _ z => nomatch z
    have hk19 := e9 _ _ hk18 fun _ z => nomatch z
    have hq19 := pd_mono (fun _ _ h => RowT.keep (KeepT.extN e9) h) hq18
    have ne9 : ∀ {b : Addr} {kv : List (Key × V)}, H9 b = some (.dK kv) → b ≠ p := fun e => ne_of e hp9 (by intro z; cases z)
    refine ⟨_, rfl, p, C, dx, _, rfl, hp9, cl.cl, cl.nC, by show 1 < 1000; decide, ?_⟩
    have hpA : (upd H9 p (.ins C dx (putF "choices" (.ref k2) [("kinds", .ref k1)]))) p = some (.ins C dx [("kinds", .ref k1), ("choices", .ref k2)]) := by rw [upd_same, put2]
    have hk1A : (upd H9 p (.ins C dx (putF "choices" (.ref k2) [("kinds", .ref k1)]))) k1 = some (.dK kv1) := by rw [upd_ne (ne9 hk19)]; exact hk19
    have hk2A : (upd H9 p (.ins C dx (putF "choices" (.ref k2) [("kinds", .ref k1)]))) k2 = some (.dK kv2) := by rw [upd_ne (ne9 hk2)]; exact hk2
    have TA : Tabs TS (upd H9 p (.ins C dx (putF "choices" (.ref k2) [("kinds", .ref k1)]))) := tabs_put T9 fun o e => by rw [hp9] at e; cases e; exact .ins
    have hq1A := pd_mono (fun _ _ h => RowT.keep (keepT_ins (fs' := putF "choices" (.ref k2) [("kinds", .ref k1)]) hp9) h) hq19
    have hq2A := pd_mono (fun _ _ h => RowT.keep (keepT_ins (fs' := putF "choices" (.ref k2) [("kinds", .ref k1)]) hp9) h) hq2
    have hrvA : Td K (upd H9 p (.ins C dx (putF "choices" (.ref k2) [("kinds", .ref k1)]))) rv z.pd := (hrv8.keep (KeepT.extN e9)).keep (keepT_ins hp9)
    have bA : ButN p H (upd H9 p (.ins C dx (putF "choices" (.ref k2) [("kinds", .ref k1)]))) := ButN.put (b8.trans (.of e9))
    generalize upd H9 p (.ins C dx (putF "choices" (.ref k2) [("kinds", .ref k1)])) = HA at hpA hk1A hk2A TA hq1A hq2A hrvA bA ⊢
    have neA : ∀ {b : Addr} {kv : List (Key × V)}, HA b = some (.dK kv) → b ≠ p := fun e => ne_of e hpA (by intro z; cases z)
    refine ⟨_, rfl, _, rfl, p, C, dx, _, rfl, hpA, cl.cl, cl.nR, by show 2 < 1000; decide, ?_⟩
    have hpB : (upd HA p (.ins C dx (putF "root" rv [("kinds", .ref k1), ("choices", .ref k2)]))) p = some (.ins C dx [("kinds", .ref k1), ("choices", .ref k2), ("root", rv)]) := by rw [upd_same, put3]
    have hk1B : (upd HA p (.ins C dx (putF "root" rv [("kinds", .ref k1), ("choices", .ref k2)]))) k1 = some (.dK kv1) := by rw [upd_ne (neA hk1A)]; exact hk1A
    have hk2B : (upd HA p (.ins C dx (putF "root" rv [("kinds", .ref k1), ("choices", .ref k2)]))) k2 = some (.dK kv2) := by rw [upd_ne (neA hk2A)]; exact hk2A
    have TB : Tabs TS (upd HA p (.ins C dx (putF "root" rv [("kinds", .ref k1), ("choices", .ref k2)]))) := tabs_put TA fun o e => by rw [hpA] at e; cases e; exact .ins
    have hq1B := pd_mono (fun _ _ h => RowT.keep (keepT_ins (fs' := putF "root" rv [("kinds", .ref k1), ("choices", .ref k2)]) hpA) h) hq1A
    have hq2B := pd_mono (fun _ _ h => RowT.keep (keepT_ins (fs' := putF "root" rv [("kinds", .ref k1), ("choices", .ref k2)]) hpA) h) hq2A
    have hrvB : Td K (upd HA p (.ins C dx (putF "root" rv [("kinds", .ref k1), ("choices", .ref k2)]))) rv z.pd := hrvA.keep (keepT_ins hpA)
    have bB : ButN p H (upd HA p (.ins C dx (putF "root" rv [("kinds", .ref k1), ("choices", .ref k2)]))) := ButN.put bA
    generalize upd HA p (.ins C dx (putF "root" rv [("kinds", .ref k1), ("choices", .ref k2)])) = HB at hpB hk1B hk2B TB hq1B hq2B hrvB bB ⊢
    refine ⟨_, rfl, p, C, dx, _, .ref k2, rfl, hpB, cl.cl, cl.nC, rfl, k2, kv2, sortT tb2, rfl, hk2B, hq2B, by rw [sortT_keys]; exact ok.n2, fun r hr0 => ?_, ok.fwd, fun HC sC => ?_⟩
    · unfold sortT at hr0
      obtain ⟨r', hr', rfl⟩ := List.mem_map.mp hr0
      intro w
      have w : sortEn r'.2 = [] := w
      have hl := congrArg List.length w
      unfold sortEn at hl
      rw [List.length_mergeSort] at hl
      exact (ok.t2 r' hr').2.2.2 rfl (List.length_eq_zero_iff.mp hl)
    · exact q HC (bB.trans (.of (.of sC))) (TB.ext sC) ⟨dx, k1, k2, kv1, kv2, rv, N1, N2, sC _ _ hpB, sC _ _ hk1B, pd_mono (fun _ _ h => RowT.keep (KeepT.same sC) h) hq1B, sC _ _ hk2B, pd_mono (fun _ _ h => RowT.keep (KeepT.same sC) h) hq2B, hrvB.keep (KeepT.same sC)⟩
end
end K02
namespace K02
open PySem PySem.Spec PyProof.Rows L2 Tw Sb LamX
def spWell : Sp := fun vs H Q _ => ∃ (n : Int), vs = [.int n] ∧ ∀ (a : Addr) (H' : Hp), H a = none → Same H H' → IsWl H' a → Q (.ref a) H'
/-- a number of at most sixty figures -/
def spNum : Sp := fun vs H Q _ => ∃ (a : Addr), vs = [.ref a] ∧ IsWl H a ∧ ∀ (r : Int) (H' : Hp), -figs ≤ r → r ≤ figs → Fw a H H' → Q (.int r) H'
section
variable {P : Program} {w : World} {K : PySem.W.Frag} {mg : Str → Option Value} {base : Heap}
theorem ok_well {f : Addr} {fd : FuncData} (F : Fun K "_law_well" "_law_well" s__law_well f fd) (T : Bu mg) : FnOk P w K mg base CX0 1 f fd ["_law_cell"] spWell := by
  refine F.ok sc__law_well (fun vs H Q E h => ?_) (fun cdv A outer s H vs Q E hr h => ?_)
  · obtain ⟨n, rfl, _⟩ := h
    rfl
  · obtain ⟨n, rfl, q⟩ := h
    refine ⟨_, (pss_one (ps_ret (pe_lst (pa_cons (pe_op op_mul (pv 0) (pe_callTy call_int1 (by rfl) T.n_int (by decide +kernel) (pa_cons (pe_cmpR op_ge (pv 0) (pe_op op_pow pe_int pe_int) (nomark _)) pa_nil))) (pa_cons (pe_op op_mod (pv 0) pe_int) (pa_cons pe_int pa_nil)))))), ?_⟩
    refine ⟨_, rfl, _, rfl, 10, 18, rfl, rfl, ⟨by decide, by decide, by decide⟩, _, _, rfl, rfl, .inr ⟨_, rfl, ?_⟩⟩
    refine ⟨_, _, rfl, rfl, .inr ?_, ?_⟩
    · split <;> decide
    · refine ⟨_, rfl, _, _, rfl, rfl, (by show (0 : Int) < 2147483647; decide), by show 3 ≤ sizeLine; decide, fun p hp => ?_⟩
      exact q p _ hp (same_upd hp) ⟨_, _, _, upd_same⟩
theorem ok_draw {f : Addr} {fd : FuncData} (F : Fun K "_law_draw" "_law_draw" s__law_draw f fd) (T : Bu mg) : FnOk P w K mg base CX0 1 f fd ["_law_well_here", "_law_many"] spDraw := by
  refine F.ok sc__law_draw (fun vs H Q E h => ?_) (fun cdv A outer s H vs Q E hr h => ?_)
  · obtain ⟨a, m, rfl, _⟩ := h
    rfl
  · obtain ⟨a, m, rfl, ⟨x, y, z, hw⟩, m0, mM, q⟩ := h
    refine ⟨_, (pss_cons (ps_if (pt_cmpR op_gt (pe_ix (r := rIxL K) ix_list (pv 0) pe_int (fun _ _ => rfl)) pe_int (nomark _))
        (pss_cons (ps_set (i := 2) sc__law_draw.nd rfl (.inl rfl) (pe_op op_mod (pe_ix (r := rIxL K) ix_list (pv 0) pe_int (fun _ _ => rfl)) (pv 1)))
        (pss_cons (ps_asg (pe_op op_fdivW (pe_ix (r := rIxL K) ix_list (pv 0) pe_int (fun _ _ => rfl)) (pv 1)) (pg_sub (pv 0) pe_int set_list))
        (pss_one (ps_ret (pv 2)))))
        pss_nil)
      (pss_cons (ps_asg (pe_op op_add (pe_ix (r := rIxL K) ix_list (pv 0) pe_int (fun _ _ => rfl)) pe_int) (pg_sub (pv 0) pe_int set_list))
      (pss_cons (ps_set (i := 3) sc__law_draw.nd rfl (.inl rfl) (pe_op op_mod (pe_op op_mul (pe_op op_add (pe_op op_add (pe_ix (r := rIxL K) ix_list (pv 0) pe_int (fun _ _ => rfl)) (pe_op op_mul pe_int (pe_ix (r := rIxL K) ix_list (pv 0) pe_int (fun _ _ => rfl)))) pe_int) pe_int) pe_int))
      (pss_cons (ps_set (i := 3) sc__law_draw.nd rfl (.inl rfl) (pe_op op_mod (pe_op op_mul (pv 3) (pe_op op_add (pe_op op_fdiv (pv 3) pe_int) pe_int)) pe_int))
      (pss_one (ps_ret (pe_op op_mod (pe_op op_mod (pe_op op_mul (pv 3) (pe_op op_add (pe_op op_fdiv (pv 3) pe_int) pe_int)) pe_int) (pv 1)))))))), ?_⟩
    have S0 : ∀ {H' : Hp} {x y z : Int}, H' a = some (.lst [.int x, .int y, .int z]) → SqL K H' a [.int x, .int y, .int z] := fun h => SqL.of h
    have em : ∀ v : Int, 0 ≤ v % m ∧ v % m < m := fun v => ⟨Int.emod_nonneg _ (by omega), Int.emod_lt_of_pos _ m0⟩
    refine ⟨.ref a, rfl, a, _, 0, .int x, rfl, rfl, S0 hw, rfl, x, 0, rfl, rfl, _, rfl, ?_⟩
    refine ite2 (fun g => ?_) (fun g => ?_)
    · refine ⟨.ref a, rfl, a, _, 0, .int x, rfl, rfl, S0 hw, rfl, _, rfl, x, m, rfl, rfl, m0, ?_⟩
      refine ⟨.ref a, rfl, a, _, 0, .int x, rfl, rfl, S0 hw, rfl, _, rfl, x, m, rfl, rfl, wide_div (b := 70) m0 (show m.natAbs < 1180591620717411303424 by omega) (by decide) (by decide), ?_⟩
      refine ⟨_, rfl, a, _, 0, 0, rfl, rfl, hw, rfl, _, rfl, ?_⟩
      exact q _ _ (em x).1 (em x).2 ⟨fun b o n e => by rw [upd_ne n]; exact e, _, _, _, upd_same⟩
    · refine ⟨.ref a, rfl, a, _, 2, .int z, rfl, rfl, S0 hw, rfl, z, 1, rfl, rfl, ?_⟩
      refine ⟨_, rfl, a, _, 2, 2, rfl, rfl, hw, rfl, ?_⟩
      have hw3 : (upd H a (.lst [.int x, .int y, .int (z + 1)])) a = some (.lst [.int x, .int y, .int (z + 1)]) := upd_same
      have f3 : Fw a H (upd H a (.lst [.int x, .int y, .int (z + 1)])) := ⟨fun b o n e => by rw [upd_ne n]; exact e, _, _, _, upd_same⟩
      refine ⟨.ref a, rfl, a, _, 1, .int y, rfl, rfl, S0 hw3, rfl, .ref a, rfl, a, _, 2, .int (z + 1), rfl, rfl, S0 hw3, rfl, 7919, z + 1, rfl, rfl, .inl ⟨by decide, by decide⟩, y, _, rfl, rfl, _, 1, rfl, rfl, _, 48271, rfl, rfl, .inr ⟨by decide, by decide⟩, _, 2147483647, rfl, rfl, (by show (0 : Int) < 2147483647; decide), ?_⟩
      dsimp only
      generalize hn1 : ((y + 7919 * (z + 1) + 1) * 48271 % 2147483647 : Int) = n1
      have b1 : 0 ≤ n1 ∧ n1 < 2147483647 := by
        rw [← hn1]
        exact ⟨Int.emod_nonneg _ (by decide), Int.emod_lt_of_pos _ (by decide)⟩
      refine ⟨_, rfl, _, rfl, n1, 1009, rfl, rfl, ⟨by decide, by decide⟩, _, 69621, rfl, rfl, n1, _, rfl, rfl, .inl ⟨by omega, by omega⟩, _, 2147483647, rfl, rfl, (by show (0 : Int) < 2147483647; decide), ?_⟩
      dsimp only
      generalize hn2 : (n1 * (n1 / 1009 + 69621) % 2147483647 : Int) = n2
      have b2 : 0 ≤ n2 ∧ n2 < 2147483647 := by
        rw [← hn2]
        exact ⟨Int.emod_nonneg _ (by decide), Int.emod_lt_of_pos _ (by decide)⟩
      refine ⟨_, rfl, _, rfl, n2, 2003, rfl, rfl, ⟨by decide, by decide⟩, _, 40692, rfl, rfl, n2, _, rfl, rfl, .inl ⟨by omega, by omega⟩, _, 2147483399, rfl, rfl, (by show (0 : Int) < 2147483399; decide), _, rfl, _, m, rfl, rfl, m0, ?_⟩
      exact q _ _ (em _).1 (em _).2 f3
theorem ok_number {f : Addr} {fd : FuncData} (F : Fun K "_law_number" "_law_number" s__law_number f fd) (T : Bu mg) (c__law_draw : Cal P w K mg base 1 "_law_draw" ["_law_well_here", "_law_many"] spDraw) : FnOk P w K mg base CX0 2 f fd ["_law_well_here"] spNum := by
  refine F.ok sc__law_number (fun vs H Q E h => ?_) (fun cdv A outer s H vs Q E hr h => ?_)
  · obtain ⟨a, rfl, _⟩ := h
    rfl
  · obtain ⟨a, rfl, hw, q⟩ := h
    refine ⟨_, (pss_cons (ps_set (i := 1) sc__law_number.nd rfl (.inl rfl) pe_int)
      (pss_cons (ps_for PassesOwn.never rfl (pi_range1 rfl T.n_range (pa_cons pe_int pa_nil)) (pg_name (i := 2) sc__law_number.nd rfl (.inl rfl))
        (pss_one (ps_set (i := 1) sc__law_number.nd rfl (.inl rfl) (pe_op op_add (pe_op op_mul (pv 1) (pe_op op_pow pe_int pe_int)) (pe_cal c__law_draw hr (by decide) (by rfl) (pa_cons (pv 0) (pa_cons (pe_op op_pow pe_int pe_int) pa_nil)))))))
      (pss_cons (ps_set (i := 3) sc__law_number.nd rfl (.inl rfl) (pe_op op_sub (pe_cal c__law_draw hr (by decide) (by rfl) (pa_cons (pv 0) (pa_cons pe_int pa_nil))) pe_int))
      (pss_one (ps_ret (pe_ix (r := rIxL K) ix_list (pe_lst (pa_cons (pv 3) (pa_cons (pv 3) (pa_cons pe_int (pa_cons (pv 1) (pa_cons (pe_op op_sub pe_int (pv 1)) (pa_cons (pe_op op_add (pe_op op_mul (pv 1) (pe_op op_pow pe_int pe_int)) pe_int) pa_nil))))))) (pe_cal c__law_draw hr (by decide) (by rfl) (pa_cons (pv 0) (pa_cons pe_int pa_nil))) (fun _ _ => rfl))))))), ?_⟩
    refine ⟨6, rfl, by decide, by decide, ?_⟩
    refine for_it (walk_range (lo := 0) (n := 6)) (fun i σ H' => ∃ (g : Int) (y : Option V), σ = [some (.ref a), some (.int g), y, none] ∧ Fw a H H' ∧ 0 ≤ g ∧ g < 1000000000 ^ i) ⟨0, none, rfl, .refl hw, by decide, by decide⟩ (fun _ _ _ _ _ => trivial) ?_ ?_
    · rintro i x σ H2 H3 hi ⟨g, y, rfl, f2, g0, g1⟩ ⟨rfl, rfl⟩
      refine ⟨_, rfl, 10, 9, rfl, rfl, ⟨by decide, by decide, by decide⟩, g, _, rfl, rfl, .inr ⟨by decide, by decide⟩, ?_⟩
      refine ⟨_, rfl, 10, 9, rfl, rfl, ⟨by decide, by decide, by decide⟩, a, _, rfl, f2.2, by decide, by decide, fun r H4 r0 r1 f4 => ⟨_, _, rfl, rfl, ?_⟩⟩
      refine ⟨_, _, rfl, f2.trans f4, ?_, ?_⟩
      · have e : (10 : Int) ^ (9 : Int).toNat = 1000000000 := by decide
        rw [e]
        omega
      · have e : (10 : Int) ^ (9 : Int).toNat = 1000000000 := by decide
        rw [e] at r1 ⊢
        rw [Int.pow_succ]
        omega
    · rintro σ H2 ⟨g, y, rfl, f2, g0, g1⟩
      have g6 : g < 1000000000000000000000000000000000000000000000000000000 := g1
      refine ⟨_, rfl, a, 19, rfl, f2.2, by decide, by decide, fun r H3 r0 r1 f3 => ⟨r, 9, rfl, rfl, ?_⟩⟩
      refine ⟨_, rfl, _, rfl, _, rfl, _, rfl, 0, g, rfl, rfl, _, rfl, 10, 5, rfl, rfl, ⟨by decide, by decide, by decide⟩, g, _, rfl, rfl, .inr ⟨by decide, by decide⟩, _, 7, rfl, rfl, by show 6 ≤ sizeLine; decide, fun L hL => ?_⟩
      have f23 := f2.trans f3
      have f4 := f23.same (same_upd (o := .lst [.int (r - 9), .int (r - 9), .int 0, .int g, .int (0 - g), .int (g * 10 ^ (5 : Int).toNat + 7)]) hL)
      have nL : L ≠ a := f23.2.ne hL
      refine ⟨_, rfl, a, 6, rfl, f4.2, by decide, by decide, fun i H5 i0 i1 f5 => ?_⟩
      have hL5 := f5.1 L _ nL upd_same
      have f45 := f4.trans f5
      have e5 : (10 : Int) ^ (5 : Int).toNat = 100000 := by decide
      have key : ∃ v : Int, atI [V.int (r - 9), V.int (r - 9), V.int 0, V.int g, V.int (0 - g), V.int (g * 10 ^ (5 : Int).toNat + 7)] i = some (.int v) ∧ -figs ≤ v ∧ v ≤ figs := by
        unfold figs
        obtain rfl | rfl | rfl | rfl | rfl | rfl : i = 0 ∨ i = 1 ∨ i = 2 ∨ i = 3 ∨ i = 4 ∨ i = 5 := by omega
        · exact ⟨_, rfl, by omega, by omega⟩
        · exact ⟨_, rfl, by omega, by omega⟩
        · exact ⟨_, rfl, by omega, by omega⟩
        · exact ⟨_, rfl, by omega, by omega⟩
        · exact ⟨_, rfl, by omega, by omega⟩
        · exact ⟨_, rfl, by rw [e5]; omega, by rw [e5]; omega⟩
      obtain ⟨v, hv, v0, v1⟩ := key
      exact ⟨L, _, i, .int v, rfl, rfl, SqL.of hL5, hv, q v H5 v0 v1 f45⟩
end
end K02
/-! Sn: texts of small letters, sign by sign. -/
namespace Tw
open PySem PySem.Spec PyProof.Rows L2
/-- the text's signs -/
abbrev sg (z : Str) : List Nat := z.cps.toList
def ofL (l : List Nat) : Str := ⟨l.toArray⟩
theorem sg_ofL (l : List Nat) : sg (ofL l) = l := by simp [sg, ofL]
theorem ofL_sg (z : Str) : ofL (sg z) = z := by
  unfold ofL sg
  cases z
  simp
theorem sg_inj {a b : Str} (h : sg a = sg b) : a = b := by rw [← ofL_sg a, ← ofL_sg b, h]
theorem sg_append (a b : Str) : sg (a ++ b) = sg a ++ sg b := toList_append a b
theorem sg_len (z : Str) : z.length = (sg z).length := len_toList z
/-- all small letters -/
def LowL (l : List Nat) : Prop := ∀ c ∈ l, 97 ≤ c ∧ c ≤ 122
theorem isNm_of {z : Str} (h1 : 1 ≤ (sg z).length) (h2 : (sg z).length ≤ 8) (h : LowL (sg z)) : isNm z = true := by
  unfold isNm
  rw [sg_len, decide_eq_true h1, decide_eq_true h2, Bool.true_and, Bool.true_and, List.all_eq_true]
  exact fun c hc => decide_eq_true (h c hc)
theorem isNm_to {z : Str} (h : isNm z = true) : 1 ≤ (sg z).length ∧ (sg z).length ≤ 8 ∧ LowL (sg z) := by
  unfold isNm at h
  simp only [Bool.and_eq_true, decide_eq_true_eq, List.all_eq_true] at h
  rw [sg_len] at h
  exact ⟨h.1.1, h.1.2, fun c hc => of_decide_eq_true (h.2 c hc)⟩
theorem sg_alpha : sg alpha = (List.range 26).map (· + 97) := by decide +kernel
theorem alpha_at {i : Int} (h0 : 0 ≤ i) (h1 : i < 26) : atI (sg alpha) i = some (97 + i.toNat) := by
  obtain ⟨n, rfl⟩ : ∃ n : Nat, i = n := ⟨i.toNat, by omega⟩
  apply atI_nat
  rw [sg_alpha, List.getElem?_map, List.getElem?_range (by omega)]
  show some (n + 97) = some (97 + n)
  rw [Nat.add_comm]
theorem alpha_index {c : Nat} (h0 : 97 ≤ c) (h1 : c ≤ 122) : ∃ rest, Builtin.Str.occurrences alpha (⟨#[c]⟩ : Str) 0 alpha.length 1 = (c - 97) :: rest := by
  have all : (List.range 26).all (fun i => (Builtin.Str.occurrences alpha (⟨#[i + 97]⟩ : Str) 0 alpha.length 1).head? == some i) = true := by decide +kernel
  have h := List.all_eq_true.mp all (c - 97) (List.mem_range.mpr (by omega))
  rw [show c - 97 + 97 = c by omega] at h
  have h : (Builtin.Str.occurrences alpha (⟨#[c]⟩ : Str) 0 alpha.length 1).head? = some (c - 97) := by simpa using h
  cases e : Builtin.Str.occurrences alpha (⟨#[c]⟩ : Str) 0 alpha.length 1 with
  | nil => rw [e] at h; cases h
  | cons x r =>
    rw [e] at h
    cases h
    exact ⟨r, rfl⟩
/-- signs joined -/
theorem sg_join {ys : List Str} : sg (Txt.join ⟨#[]⟩ ys) = (ys.map sg).flatten := by
  have e1 := congrArg TL.tl (TL.join_eq ⟨#[]⟩ ys)
  have e2 := TL.tl_join ⟨#[]⟩ ys
  have e3 : ∀ l : List (List Nat), TL.joinL [] l = l.flatten := by
    intro l
    induction l with
    | nil => rfl
    | cons x r ih =>
      cases r with
      | nil => simp [TL.joinL]
      | cons y r =>
        show x ++ ([] ++ TL.joinL [] (y :: r)) = _
        rw [ih]
        simp
  exact e1.trans (e2.trans (e3 _))
theorem ones_flat : ∀ {cs : List Nat}, ((cs.map fun c => (⟨#[c]⟩ : Str)).map sg).flatten = cs
  | [] => rfl
  | c :: r => by
    rw [List.map_cons, List.map_cons, List.flatten_cons, ones_flat] <;> rfl
/-- the last sign, and what stands ahead of it -/
theorem last_at {z : Str} {l : List Nat} {c : Nat} (h : sg z = l ++ [c]) : atI (sg z) (-1) = some c := by
  rw [h]
  unfold atI ixN
  rw [if_neg (by decide), if_pos (by rw [List.length_append]; simp; omega)]
  have e : ((-1 : Int) + ((l ++ [c]).length : Nat)).toNat = l.length := by
    rw [List.length_append]
    simp
    omega
  rw [e]
  simp
theorem init_at {z : Str} {l : List Nat} {c : Nat} (h : sg z = l ++ [c]) : cutS z none (some (-1)) = ofL l := by
  apply sg_inj
  rw [sg_ofL]
  have hl : z.length = l.length + 1 := by rw [sg_len, h, List.length_append]; rfl
  have e : HT.sIx z.length z.length (some (-1)) = l.length := by
    show (if (-1 : Int) < 0 then ((-1 : Int) + (z.length : Int)).toNat else min (-1 : Int).toNat z.length) = l.length
    rw [if_pos (by decide), hl]
    omega
  unfold cutS
  rw [HT.sIx_none, e]
  show ((sg z).drop 0).take (l.length - 0) = _
  rw [h, List.drop_zero, Nat.sub_zero, List.take_left]
theorem sg_cut7 (z : Str) : sg (cutS z none (some 7)) = (sg z).take (min 7 z.length) := by
  unfold cutS
  rw [HT.sIx_none, show (some (7 : Int)) = some ((7 : Nat) : Int) from rfl, HT.sIx_nat]
  show ((sg z).drop 0).take (min 7 z.length - 0) = _
  rw [List.drop_zero, Nat.sub_zero]
/-- a row without twins among others is no longer -/
theorem nodup_le {α : Type} [DecidableEq α] : ∀ {xs ys : List α}, xs.Nodup → (∀ x ∈ xs, x ∈ ys) → xs.length ≤ ys.length
  | [], _, _, _ => Nat.zero_le _
  | x :: xs, ys, h, k => by
    rw [List.nodup_cons] at h
    have hx := k x List.mem_cons_self
    have := nodup_le (ys := ys.erase x) h.2 fun y hy => (List.mem_erase_of_ne (fun e => h.1 (by rw [← e]; exact hy))).mpr (k y (List.mem_cons_of_mem _ hy))
    rw [List.length_erase_of_mem hx] at this
    have hp : 0 < ys.length := List.length_pos_of_mem hx
    simp only [List.length_cons]
    omega
/-- l with the letter j, the t-th behind it -/
def turnL (l : List Nat) (j t : Nat) : Str := ofL (l ++ [97 + (j + t) % 26])
theorem turnL_inj {l : List Nat} {j s t : Nat} (hs : s < 26) (ht : t < 26) (h : turnL l j s = turnL l j t) : s = t := by
  have e := congrArg sg h
  unfold turnL at e
  rw [sg_ofL, sg_ofL] at e
  have e := List.append_cancel_left e
  simp at e
  omega
/-- as long as the names met stand in the row, they are no more than the row has -/
theorem turns_le {l : List Nat} {j t : Nat} {found : List Str} (ht : t < 26) (h : ∀ s, s < t → turnL l j s ∈ found) : t ≤ found.length := by
  have n : ((List.range t).map (turnL l j)).Nodup := by
    refine List.pairwise_map.mpr ((List.nodup_range (n := t)).imp_of_mem fun {a b} ha hb ne e => ne (turnL_inj ?_ ?_ e))
    · have := List.mem_range.mp ha
      omega
    · have := List.mem_range.mp hb
      omega
  have := nodup_le n fun x hx => by
    obtain ⟨s, hs, rfl⟩ := List.mem_map.mp hx
    exact h s (List.mem_range.mp hs)
  rw [List.length_map, List.length_range] at this
  exact this
end Tw
namespace K02
open PySem PySem.Spec PyProof.Rows L2 Tw Sb LamX
/-- a new list of m different names -/
def spNames2 : Sp := fun vs H Q _ => ∃ (a : Addr) (m : Nat), vs = [.ref a, .int m] ∧ IsWl H a ∧ m ≤ 5 ∧ ∀ (b : Addr) (ks : List Str) (H' : Hp), H b = none → b ≠ a → NmL H' b ks → ks.length = m → ks.Nodup → (∀ k ∈ ks, isNm k = true) → Fw a H H' → Q (.ref b) H'
theorem dpNm {K : PySem.W.Frag} {H : Hp} {b : Addr} {ks : List Str} (h : NmL H b ks) : Dp K H (.ref b) (.list (ks.map PyData.str)) := by
  refine .lst (SqL.of h) ?_
  clear h
  induction ks with
  | nil => exact .nil
  | cons k r ih => exact .cons (.str k) ih
theorem eqvNm : ∀ ks : List Str, PyData.eqv (.list (ks.map PyData.str)) (.list []) = decide (ks = [])
  | [] => rfl
  | _ :: _ => rfl
theorem shNm (ks : List Str) (h : ∀ k ∈ ks, isNm k = true) : SeqAt.shaped (.list (ks.map PyData.str)) = true := by
  have e1 : PyData.canLayAll0 (ks.map PyData.str) = true := by
    induction ks with
    | nil => rfl
    | cons k r ih =>
      show (PyData.strOk k && PyData.canLayAll0 (r.map PyData.str)) = true
      rw [(nm_asc (h k List.mem_cons_self)).ok, ih fun z hz => h z (List.mem_cons_of_mem _ hz)] <;> rfl
  have e2 : PyData.depthAll (ks.map PyData.str) ≤ 1 := by
    clear h e1
    induction ks with
    | nil => exact Nat.zero_le _
    | cons k r ih =>
      show max _ (PyData.depthAll (r.map PyData.str)) ≤ 1
      exact Nat.max_le.mpr ⟨by first | exact Nat.zero_le _ | exact Nat.le_refl _ | decide, ih⟩
  show (PyData.canLayAll0 (ks.map PyData.str) && decide (PyData.depthAll (ks.map PyData.str) + 1 ≤ 64)) = true
  rw [e1, decide_eq_true (by omega)] <;> rfl
theorem fw_put {a D : Addr} {o : HO} {H H' : Hp} (f : Fw a H H') (n : D ≠ a) (h : H D = none) : Fw a H (upd H' D o) := by
  obtain ⟨g, x, y, z, e⟩ := f
  exact ⟨fun b u hb hu => by rw [upd_ne (ne_of_none hu h)]; exact g b u hb hu, x, y, z, by rw [upd_ne n.symm]; exact e⟩
section
variable {P : Program} {w : World} {K : PySem.W.Frag} {mg : Str → Option Value} {base : Heap}
theorem ok_names2 {f : Addr} {fd : FuncData} (F : Fun K "_law_names" "_law_names" s__law_names f fd) (T : Bu mg) (c__law_draw : Cal P w K mg base 1 "_law_draw" ["_law_well_here", "_law_many"] spDraw) : FnOk P w K mg base CX0 2 f fd ["_law_well_here", "_law_many"] spNames2 := by
  refine F.ok sc__law_names (fun vs H Q E h => ?_) (fun cdv A outer s H vs Q E hr h => ?_)
  · obtain ⟨a, m, rfl, _⟩ := h
    rfl
  · obtain ⟨a, m, rfl, hw, hm, q⟩ := h
    refine ⟨_, (pss_cons (ps_set (i := 2) sc__law_names.nd rfl (.inr rfl) pe_str)
      (pss_cons (ps_set (i := 3) sc__law_names.nd rfl (.inl rfl) (pe_lst pa_nil))
      (pss_cons (ps_for PassesOwn.never rfl (pi_range1 rfl T.n_range (pa_cons (pv 1) pa_nil)) (pg_name (i := 4) sc__law_names.nd rfl (.inl rfl))
        (pss_cons (ps_set (i := 5) sc__law_names.nd rfl (.inl rfl) (pe_op op_add pe_int (pe_cal c__law_draw hr (by decide) (by rfl) (pa_cons (pv 0) (pa_cons pe_int pa_nil)))))
        (pss_cons (ps_set (i := 6) sc__law_names.nd rfl (.inl rfl) (pe_join pe_str (pe_lc (own := [("_law_j", 7)]) rfl sc__law_names.nd (pi_range1 rfl T.n_range (pa_cons (pv 5) pa_nil)) (blkOk_by (N := N__law_names) (sc := defScope s__law_names) (by decide +kernel)) (fun _ _ _ _ _ => (pg_name (i := 7) sc__law_names.nd rfl (.inl rfl))) (fun _ _ _ _ _ => pts_nil) (fun _ _ _ _ _ => (pe_ix ix_str (pv 2) (pe_cal c__law_draw hr (by decide) (by rfl) (pa_cons (pv 0) (pa_cons pe_int pa_nil))) (fun _ _ => rfl))))))
        (pss_mid (ps_if (PW.pt (pw_and (pt_cmpR (op_neD hr.units) (pv 3) (pe_lst pa_nil) (nomark _)) (pw_and1 (pt_cmpR op_eq (pe_cal c__law_draw hr (by decide) (by rfl) (pa_cons (pv 0) (pa_cons pe_int pa_nil))) pe_int (nomark _)))))
          (pss_one (ps_set (i := 6) sc__law_names.nd rfl (.inl rfl) (pe_op op_add_str (pe_slice sl_str (pe_ix (r := rIxL K) ix_list (pv 3) (pe_un un_neg pe_int) (fun _ _ => rfl)) po_none (po_some pe_int)) (pe_ix ix_str (pv 2) (pe_cal c__law_draw hr (by decide) (by rfl) (pa_cons (pv 0) (pa_cons pe_int pa_nil))) (fun _ _ => rfl)))))
          pss_nil)
        (pss_cons (ps_while PassesOwn.never (pt_cmpR op_in_seq (pv 6) (pv 3) (by rfl))
          (pss_one (ps_set (i := 6) sc__law_names.nd rfl (.inl rfl) (pe_op op_add_str (pe_slice sl_str (pv 6) po_none (po_some (pe_un un_neg pe_int))) (pe_ix ix_str (pv 2) (pe_op op_mod (pe_op op_add (pe_bm PySem.F.plainAttrs_str PySem.F.slot_str_index PySem.F.type_str_index mt_sindex (pv 2) (pa_cons (pe_ix ix_str (pv 6) (pe_un un_neg pe_int) (fun _ _ => rfl)) pa_nil)) pe_int) pe_int) (fun _ _ => rfl))))))
        (pss_one (ps_expr (pe_bm PySem.F.plainAttrs_list PySem.F.slot_list_append PySem.F.type_list_append mt_append (pv 3) (pa_cons (pv 6) pa_nil)))))))))
      (pss_one (ps_ret (pv 3)))))), ?_⟩
    refine ⟨by show 0 ≤ sizeLine; decide, fun b hb => ?_⟩
    have nb : b ≠ a := hw.ne hb
    refine ⟨_, rfl, (m : Int), rfl, by omega, by omega, ?_⟩
    rw [show ((m : Int)).toNat = m from rfl]
    rw [show (Str.ofString "abcdefghijklmnopqrstuvwxyz") = alpha from rfl]
    refine for_it (walk_range (lo := 0) (n := m)) (fun i σ H' => ∃ (y4 y5 y6 : Option V) (ks : List Str), σ = [some (.ref a), some (.int m), some (.str alpha), some (.ref b), y4, y5, y6, none] ∧ Fw a H H' ∧ NmL H' b ks ∧ ks.length = i ∧ ks.Nodup ∧ ∀ k ∈ ks, isNm k = true) ⟨_, _, _, [], rfl, .of_same hw (same_upd hb), upd_same, rfl, .nil, fun k h => nomatch h⟩ (fun _ _ _ _ _ => trivial) ?_ ?_
    · rintro i x σ H2 H3 hi ⟨y4, y5, y6, ks, rfl, f2, hks, hlen, hnd, hnm⟩ ⟨rfl, rfl⟩
      refine ⟨_, rfl, a, 8, rfl, f2.2, by decide, by decide, fun r H4 r0 r1 f4 => ⟨1, r, rfl, rfl, ?_⟩⟩
      have hks4 : NmL H4 b ks := f4.1 b _ nb hks
      have f24 := f2.trans f4
      obtain ⟨R, rfl⟩ : ∃ R : Nat, r = (R : Int) := ⟨r.toNat, by omega⟩
      refine ⟨⟨_, rfl⟩, _, rfl, _, rfl, by omega, by omega, fun D hD => ?_⟩
      have nD : D ≠ a := f24.2.ne hD
      have hD0 := f24.free hw hD
      have nDb : D ≠ b := fun w => by
        rw [w, hks4] at hD
        cases hD
      have eR : ((1 : Int) + (R : Int)).toNat = 1 + R := by omega
      rw [eR]
      refine lc_it walk_range (fun j H' => Fw a H H' ∧ NmL H' b ks ∧ ∃ cs : List Nat, H' D = some (.lst ((cs.map fun c => (⟨#[c]⟩ : Str)).map V.str)) ∧ cs.length = j ∧ LowL cs) ⟨f24.same (same_upd hD), by unfold NmL; rw [upd_ne nDb.symm]; exact hks4, [], upd_same, rfl, fun _ h => by cases h⟩ (fun _ _ _ _ => trivial) ?_ ?_
      · rintro j x H5 H6 hj ⟨f5, hks5, cs, hcs, hl, hA⟩ ⟨rfl, rfl⟩
        refine ⟨rfl, _, rfl, _, rfl, a, 26, rfl, f5.2, by decide, by decide, fun i H7 i0 i1 f7 => ⟨alpha, i, _, rfl, rfl, by decide +kernel, alpha_at i0 i1, ?_⟩⟩
        have hcs7 := f7.1 D _ nD hcs
        refine ⟨_, hcs7, ?_, ?_⟩
        · rw [List.length_map, List.length_map]
          exact Nat.lt_of_le_of_lt (show cs.length ≤ 10 by omega) (by decide)
        · refine ⟨?_, ?_, cs ++ [97 + i.toNat], ?_, ?_, ?_⟩
          · exact fw_put (f5.trans f7) nD hD0
          · unfold NmL
            rw [upd_ne nDb.symm]
            exact f7.1 b _ nb hks5
          · rw [upd_same, List.map_append, List.map_append] <;> rfl
          · rw [List.length_append, hl] <;> rfl
          · intro c hc
            rcases List.mem_append.mp hc with h | h
            · exact hA c h
            · have e : c = 97 + i.toNat := by simpa using h
              omega
      · rintro H5 ⟨f5, hks5, cs, hcs, hl, hA⟩
        have hsum : ((cs.map fun c => (⟨#[c]⟩ : Str)).map (·.length)).sum ≤ cs.length := by
          clear hcs hl hA
          induction cs with
          | nil => exact Nat.le_refl _
          | cons c r ih =>
            show 1 + ((r.map fun c => (⟨#[c]⟩ : Str)).map (·.length)).sum ≤ r.length + 1
            omega
        refine ⟨_, D, cs.map fun c => (⟨#[c]⟩ : Str), rfl, rfl, .inl (SqL.of hcs), ?_, ?_⟩
        · show _ + _ * 0 ≤ _
          omega
        generalize hz : Txt.join (Str.ofString "") (cs.map fun c => (⟨#[c]⟩ : Str)) = z
        have sgz : sg z = cs := by
          rw [← hz]
          exact sg_join.trans ones_flat
        obtain ⟨l, c, rfl⟩ : ∃ l c, cs = l ++ [c] := by
          cases h : cs.reverse with
          | nil => rw [List.reverse_eq_nil_iff.mp h] at hl; simp at hl; omega
          | cons c r => exact ⟨r.reverse, c, by rw [← List.reverse_reverse cs, h, List.reverse_cons]⟩
        rw [List.length_append] at hl
        refine ⟨fun σ H' => ∃ (y4 y5 : Option V) (z : Str) (l : List Nat) (c : Nat), σ = [some (.ref a), some (.int m), some (.str alpha), some (.ref b), y4, y5, some (.str z), none] ∧ Fw a H H' ∧ NmL H' b ks ∧ sg z = l ++ [c] ∧ l.length ≤ 7 ∧ LowL (l ++ [c]), ?_, ?_⟩
        · refine ⟨_, rfl, by show 0 ≤ sizeLine; decide, fun E1 hE1 => ⟨_, _, dpNm (NmL.same hks5 (same_upd hE1)), .lst (SqL.of upd_same) .nil, shNm ks hnm, rfl, _, rfl, ?_⟩⟩
          rw [eqvNm]
          have f6 := f5.same (same_upd (o := .lst []) hE1)
          have hks6 := NmL.same hks5 (same_upd (o := .lst []) hE1)
          by_cases hk : ks = []
          · rw [decide_eq_true hk]
            exact ⟨_, _, z, l, c, rfl, f6, hks6, sgz, by simp at hl; omega, hA⟩
          rw [decide_eq_false hk]
          refine ⟨_, rfl, a, 3, rfl, f6.2, by decide, by decide, fun i H7 i0 i1 f7 => ⟨rfl, _, rfl, ?_⟩⟩
          have f67 := f6.trans f7
          have hks7 := f7.1 b _ nb hks6
          refine iteB (fun g => ?_) (fun g => ⟨_, _, z, l, c, rfl, f67, hks7, sgz, by simp at hl; omega, hA⟩)
          obtain ⟨ks0, y, hy⟩ : ∃ ks0 y, ks = ks0 ++ [y] := by
            cases h : ks.reverse with
            | nil => exact absurd (List.reverse_eq_nil_iff.mp h) hk
            | cons c r => exact ⟨r.reverse, c, by rw [← List.reverse_reverse ks, h, List.reverse_cons]⟩
          have hl1 : atI (ks.map V.str) (-1) = some (.str y) := by
            rw [hy, List.map_append]
            unfold atI ixN
            rw [if_neg (by decide), if_pos (by rw [List.length_append]; simp; omega)]
            have e : ((-1 : Int) + ((ks0.map V.str ++ [y].map V.str).length : Nat)).toNat = (ks0.map V.str).length := by
              rw [List.length_append]
              simp
              omega
            rw [e]
            simp
          obtain ⟨v1, v2, v3⟩ := isNm_to (hnm y (by rw [hy]; simp))
          have hyl : y.length ≤ 8 := by rw [sg_len]; exact v2
          refine ⟨_, rfl, _, rfl, b, _, -1, _, rfl, rfl, SqL.of hks7, hl1, _, rfl, y, rfl, Nat.le_trans hyl (show 8 ≤ sizeLine by decide), ?_⟩
          refine ⟨_, rfl, _, rfl, a, 26, rfl, f67.2, by decide, by decide, fun i H8 i0 i1 f8 => ⟨alpha, i, _, rfl, rfl, by decide +kernel, alpha_at i0 i1, ?_⟩⟩
          have hc7 := sg_cut7 y
          have hcl : (cutS y none (some 7)).length ≤ 7 := by
            rw [sg_len, hc7, List.length_take]
            omega
          refine ⟨_, _, rfl, rfl, Nat.le_trans (Nat.add_le_add_right hcl _) (by show 7 + 1 ≤ sizeLine; decide), ?_⟩
          refine ⟨_, _, _, sg (cutS y none (some 7)), 97 + i.toNat, rfl, f67.trans f8, f8.1 b _ nb hks7, sg_append _ _, by rw [← sg_len]; exact hcl, fun c hc => ?_⟩
          rcases List.mem_append.mp hc with h | h
          · rw [hc7] at h
            exact v3 c (List.mem_of_mem_take h)
          · have e : c = 97 + i.toNat := by simpa using h
            omega
        · rintro σ H6 ⟨y4, y5, z, l, c, rfl, f6, hks6, hz, hl, hA⟩
          have hc := hA c (by simp)
          refine ⟨fun n σ H' => ∃ t : Nat, n = ks.length - t ∧ t ≤ ks.length ∧ σ = [some (.ref a), some (.int m), some (.str alpha), some (.ref b), y4, y5, some (.str (turnL l (c - 97) t)), none] ∧ Fw a H H' ∧ NmL H' b ks ∧ ∀ s, s < t → turnL l (c - 97) s ∈ ks, ⟨_, 0, rfl, Nat.zero_le _, ?_, f6, hks6, fun s h => absurd h (Nat.not_lt_zero s)⟩, ?_⟩
          · have e : turnL l (c - 97) 0 = z := by
              apply sg_inj
              unfold turnL
              rw [sg_ofL, hz, show 97 + (c - 97 + 0) % 26 = c by omega]
            rw [e]
          rintro n σ H7 ⟨t, rfl, ht, rfl, f7, hks7, hin⟩
          refine ⟨_, rfl, _, rfl, b, _, rfl, .inl (SqL.of hks7), rfl, flat_strs ks, _, rfl, ?_⟩
          have sgt : sg (turnL l (c - 97) t) = l ++ [97 + (c - 97 + t) % 26] := sg_ofL _
          have hlt : (turnL l (c - 97) t).length = l.length + 1 := by rw [sg_len, sgt, List.length_append]; rfl
          by_cases hm : turnL l (c - 97) t ∈ ks
          · rw [in_strs hm]
            have ht1 : t + 1 ≤ ks.length := turns_le (l := l) (j := c - 97) (by omega) fun s hs => by
              by_cases e : s = t
              · rw [e]
                exact hm
              · exact hin s (by omega)
            refine ⟨fun σ H' => σ = [some (.ref a), some (.int m), some (.str alpha), some (.ref b), y4, y5, some (.str (turnL l (c - 97) (t + 1))), none] ∧ H7 = H', ?_, ?_⟩
            · rintro σ' H' ⟨rfl, rfl⟩
              refine ⟨_, ?_, t + 1, rfl, ht1, rfl, f7, hks7, fun s hs => ?_⟩
              · omega
              · by_cases e : s = t
                · rw [e]
                  exact hm
                · exact hin s (by omega)
            · refine ⟨_, rfl, _, rfl, _, rfl, _, rfl, Nat.le_trans (Nat.le_of_eq hlt) (by show l.length + 1 ≤ 16777216; omega), ?_⟩
              rw [init_at sgt]
              have hcc : 97 ≤ 97 + (c - 97 + t) % 26 ∧ 97 + (c - 97 + t) % 26 ≤ 122 := by omega
              obtain ⟨rest, hocc⟩ := alpha_index hcc.1 hcc.2
              refine ⟨_, rfl, _, rfl, rfl, _, rfl, _, rfl, _, _, _, rfl, rfl, Nat.le_trans (Nat.le_of_eq hlt) (by show l.length + 1 ≤ 16777216; omega), last_at sgt, _, _, _, _, rfl, rfl, hocc, _, _, rfl, rfl, ?_⟩
              refine ⟨_, _, rfl, rfl, (by show (0 : Int) < 26; decide), alpha, _, _, rfl, rfl, by decide +kernel, alpha_at (by omega) (by omega), ?_⟩
              refine ⟨_, _, rfl, rfl, ?_, ?_⟩
              · show (ofL l).length + 1 ≤ 16777216
                rw [sg_len, sg_ofL]
                omega
              · refine ⟨?_, rfl⟩
                have e : ofL l ++ (⟨#[97 + ((((97 + (c - 97 + t) % 26 - 97 : Nat) : Int) + 1) % 26).toNat]⟩ : Str) = turnL l (c - 97) (t + 1) := by
                  apply sg_inj
                  unfold turnL
                  rw [sg_append, sg_ofL, sg_ofL]
                  show l ++ [_] = _
                  have e2 : 97 + ((((97 + (c - 97 + t) % 26 - 97 : Nat) : Int) + 1) % 26).toNat = 97 + (c - 97 + (t + 1)) % 26 := by omega
                  rw [e2]
                rw [e]
                rfl
          · rw [nin_strs hm]
            refine ⟨_, rfl, .inl ⟨rfl, _, SqL.of hks7⟩, _, rfl, b, _, _, rfl, rfl, hks7, ?_, ?_⟩
            · rw [List.length_map]
              exact Nat.lt_of_le_of_lt (show ks.length ≤ 5 by omega) (by decide)
            · refine ⟨_, _, _, ks ++ [turnL l (c - 97) t], rfl, fw_put f7 nb hb, ?_, ?_, ?_, ?_⟩
              · unfold NmL
                rw [upd_same, List.map_append] <;> rfl
              · rw [List.length_append, hlen] <;> rfl
              · refine List.nodup_append.mpr ⟨hnd, List.pairwise_singleton _ _, fun x hx y hy e => ?_⟩
                rw [List.mem_singleton] at hy
                exact hm (by rw [← hy, ← e]; exact hx)
              · intro k hk
                rcases List.mem_append.mp hk with h | h
                · exact hnm k h
                · rw [List.mem_singleton.mp h]
                  refine isNm_of (by rw [sgt, List.length_append]; simp) (by rw [sgt, List.length_append]; simp; omega) ?_
                  rw [sgt]
                  intro d hd
                  rcases List.mem_append.mp hd with h | h
                  · exact hA d (List.mem_append.mpr (.inl h))
                  · rw [List.mem_singleton.mp h]
                    omega
    · rintro σ H2 ⟨y4, y5, y6, ks, rfl, f2, hks, hlen, hnd, hnm⟩
      exact ⟨_, rfl, q b ks H2 hb nb hks hlen hnd hnm f2⟩
end
end K02
namespace K02
open PySem PySem.Spec PyProof.Rows L2 Tw Sb LamX
def fig1 : Option Int → Prop
  | none => True
  | some n => -figs ≤ n ∧ n ≤ figs
/-- bounds of at most sixty figures -/
def Fig : So → Prop
  | .num lo hi => fig1 lo ∧ fig1 hi
  | .row _ s => Fig s
  | .may s => Fig s
  | _ => True
theorem ok_in {ks cs : List Str} : ∀ {s : So}, s.ok ks cs false → s.word ≠ "maybe" → s.ok ks cs true
  | .num _ _, h, _ => h
  | .tru, h, _ => h
  | .txt _, h, _ => h
  | .row _ _, h, _ => h
  | .may _, _, n => absurd rfl n
  | .nod _, h, _ => h
  | .cho _, h, _ => h
/-- what the draws make of names: a sort of depth less than n -/
def spMk (K : PySem.W.Frag) (n : Nat) : Sp := fun vs H Q _ => ∃ (a b1 b2 : Addr) (d : Nat) (ks cs : List Str), vs = [.ref a, .ref b1, .ref b2, .int d] ∧ d < n ∧ n ≤ 3 ∧ IsWl H a ∧ NmL H b1 ks ∧ NmL H b2 cs ∧ (∀ k ∈ ks, isNm k = true) ∧ (∀ k ∈ cs, isNm k = true) ∧ b1 ≠ a ∧ b2 ≠ a ∧ ks.length ≤ 5 ∧ cs.length ≤ 5 ∧
  ∀ (v : V) (s : So) (H' : Hp), Td K H' v s.pd → s.ok ks cs false → Fig s → s.depth ≤ d → Fw a H H' → Q v H'
theorem fw_keepT {K : PySem.W.Frag} {a : Addr} {H H' : Hp} (f : Fw a H H') (w : IsWl H a) : KeepT K H H' := KeepT.but fun b o e => by
  obtain ⟨x, y, z, hw⟩ := w
  have nb : o ≠ .lst [.int x, .int y, .int z] → b ≠ a := fun n q => by
    rw [q, hw] at e
    exact n (Option.some.inj e).symm
  exact ⟨fun xs q => f.1 b o (nb (by rw [q]; intro h; cases h)) e, fun _ xs q => f.1 b o (nb (by rw [q]; intro h; cases h)) e⟩
theorem td_word {K : PySem.W.Frag} {H : Hp} {v : V} {s : So} (h : Td K H v s.pd) : ∃ p xs, v = .ref p ∧ SqT K H p (.str s.word :: xs) ∧ Tds K H xs s.rest := by
  obtain ⟨p, xs, rfl, h1, h2⟩ := Td.row (show Td K H v (.tuple (.str s.word :: s.rest)) from h)
  cases h2 with
  | cons t1 t2 =>
    cases t1
    exact ⟨p, _, rfl, h1, t2⟩
theorem three {u v x : Int} {i : Int} {p : Int → Prop} (i0 : 0 ≤ i) (i1 : i < 3) (h1 : p u) (h2 : p v) (h3 : p x) : ∃ n, atI [V.int u, V.int v, V.int x] i = some (.int n) ∧ p n := by
  obtain rfl | rfl | rfl : i = 0 ∨ i = 1 ∨ i = 2 := by omega
  · exact ⟨_, at0, h1⟩
  · exact ⟨_, at1, h2⟩
  · exact ⟨_, at2, h3⟩
/-- a name out of a row of names -/
theorem one_nm {ks : List Str} {i : Int} (i0 : 0 ≤ i) (i1 : i < (ks.map V.str).length) : ∃ k, atI (ks.map V.str) i = some (.str k) ∧ k ∈ ks := by
  obtain ⟨n, rfl⟩ : ∃ n : Nat, i = n := ⟨i.toNat, by omega⟩
  rw [List.length_map] at i1
  have hn : n < ks.length := by omega
  exact ⟨ks[n], atI_nat (by rw [List.getElem?_map, List.getElem?_eq_getElem hn] <;> rfl), List.getElem_mem hn⟩
theorem perm2 {x y : Int} {ns : List Int} (h : ns.Perm [x, y]) (s : ns.Pairwise (· ≤ ·)) : ∃ p q, ns = [p, q] ∧ p ≤ q ∧ (p = x ∨ p = y) ∧ (q = x ∨ q = y) := by
  have hl := h.length_eq
  match ns, hl with
  | [p, q], _ =>
    refine ⟨p, q, rfl, ?_, ?_, ?_⟩
    · simpa using s
    · have := h.mem_iff.mp (List.mem_cons_self (a := p) (l := [q]))
      simpa using this
    · have := h.mem_iff.mp (show q ∈ [p, q] by simp)
      simpa using this
section
variable {P : Program} {w : World} {K : PySem.W.Frag} {mg : Str → Option Value} {base : Heap}
theorem ok_msort_step {n : Nat} {f : Addr} {fd : FuncData} (F : Fun K "_law_sort" "_law_sort" s__law_sort f fd) (T : Bu mg) (c__law_draw : Cal P w K mg base 1 "_law_draw" ["_law_well_here", "_law_many"] spDraw) (c__law_number : Cal P w K mg base 2 "_law_number" ["_law_well_here"] spNum)
    (c__law_sort : Cal P w K mg base (3 + n) "_law_sort" ["_law_well_here", "_law_nodes", "_law_some", "_law_deep"] (spMk K n)) : FnOk P w K mg base CX0 (4 + n) f fd ["_law_well_here", "_law_nodes", "_law_some", "_law_deep"] (spMk K (n + 1)) := by
  refine (show FnOk P w K mg base CX0 ((3 + n) + 1) f fd ["_law_well_here", "_law_nodes", "_law_some", "_law_deep"] (spMk K (n + 1)) from F.ok sc__law_sort (fun vs H Q E h => ?_) (fun cdv A outer s H vs Q E hr h => ?_)).mono (by omega)
  · obtain ⟨a, b1, b2, d, ks, cs, rfl, _⟩ := h
    rfl
  · obtain ⟨a, b1, b2, d, ks, cs, rfl, hd, hn, hw, hk1, hk2, nm1, nm2, na1, na2, l1, l2, q⟩ := h
    refine ⟨_, (pss_cons (ps_set (i := 4) sc__law_sort.nd rfl (.inl rfl) (pe_cal c__law_draw hr (by omega) (by rfl) (pa_cons (pv 0) (pa_cons pe_int pa_nil))))
      (pss_cons (ps_asg (pe_callB cr_sorted (by rfl) T.n_sorted (by decide +kernel) (pa_cons (pe_lst (pa_cons (pe_cal c__law_number hr (by omega) (by rfl) (pa_cons (pv 0) pa_nil)) (pa_cons (pe_cal c__law_number hr (by omega) (by rfl) (pa_cons (pv 0) pa_nil)) pa_nil))) pa_nil)) (pg_lst rfl (pgs_cons (pg_name (i := 5) sc__law_sort.nd rfl (.inl rfl)) (pgs_cons (pg_name (i := 6) sc__law_sort.nd rfl (.inl rfl)) pgs_nil))))
      (pss_cons (ps_if (pt_cmpR op_lt (pv 4) pe_int (nomark _))
        (pss_one (ps_ret (pe_tup (pa_cons pe_str (pa_cons (pe_ix (r := rIxL K) ix_list (pe_lst (pa_cons pe_non (pa_cons (pv 5) pa_nil))) (pe_cal c__law_draw hr (by omega) (by rfl) (pa_cons (pv 0) (pa_cons pe_int pa_nil))) (fun _ _ => rfl)) (pa_cons (pe_ix (r := rIxL K) ix_list (pe_lst (pa_cons pe_non (pa_cons (pv 6) (pa_cons (pv 5) pa_nil)))) (pe_cal c__law_draw hr (by omega) (by rfl) (pa_cons (pv 0) (pa_cons pe_int pa_nil))) (fun _ _ => rfl)) pa_nil))))))
        pss_nil)
      (pss_cons (ps_if (pt_cmpR op_eq (pv 4) pe_int (nomark _))
        (pss_one (ps_ret (pe_tup (pa_cons pe_str (pa_cons (pe_ix (r := rIxL K) ix_list (pe_lst (pa_cons pe_int (pa_cons pe_int (pa_cons (pe_cal c__law_draw hr (by omega) (by rfl) (pa_cons (pv 0) (pa_cons pe_int pa_nil))) pa_nil)))) (pe_cal c__law_draw hr (by omega) (by rfl) (pa_cons (pv 0) (pa_cons pe_int pa_nil))) (fun _ _ => rfl)) pa_nil)))))
        pss_nil)
      (pss_mid (ps_if (PW.pt (pw_and (pt_cmpR op_eq (pv 4) pe_int (nomark _)) (pw_and1 (pt_cmpR (op_neD hr.units) (pv 2) (pe_lst pa_nil) (nomark _)))))
        (pss_one (ps_ret (pe_tup (pa_cons pe_str (pa_cons (pe_ix (r := rIxL K) ix_list (pv 2) (pe_cal c__law_draw hr (by omega) (by rfl) (pa_cons (pv 0) (pa_cons (pe_callB call_len_seq (by rfl) T.n_len (by decide +kernel) (pa_cons (pv 2) pa_nil)) pa_nil))) (fun _ _ => rfl)) pa_nil)))))
        pss_nil)
      (pss_mid (ps_if (PW.pt (pw_and (pt_cmpR op_in_seq (pv 4) (pe_lst (pa_cons pe_int (pa_cons pe_int pa_nil))) (by rfl)) (pw_and1 (pt_cmpR op_gt (pv 3) pe_int (nomark _)))))
        (pss_one (ps_ret (pe_tup (pa_cons pe_str (pa_cons (pe_ix (r := rIxL K) ix_list (pe_lst (pa_cons pe_int (pa_cons pe_int (pa_cons (pe_cal c__law_draw hr (by omega) (by rfl) (pa_cons (pv 0) (pa_cons pe_int pa_nil))) pa_nil)))) (pe_cal c__law_draw hr (by omega) (by rfl) (pa_cons (pv 0) (pa_cons pe_int pa_nil))) (fun _ _ => rfl)) (pa_cons (pe_cal c__law_sort hr (by omega) (by rfl) (pa_cons (pv 0) (pa_cons (pv 1) (pa_cons (pv 2) (pa_cons (pe_op op_sub (pv 3) pe_int) pa_nil))))) pa_nil))))))
        pss_nil)
      (pss_mid (ps_if (PW.pt (pw_and (pt_cmpR op_eq (pv 4) pe_int (nomark _)) (pw_and1 (pt_cmpR op_gt (pv 3) pe_int (nomark _)))))
        (pss_cons (ps_set (i := 7) sc__law_sort.nd rfl (.inl rfl) (pe_cal c__law_sort hr (by omega) (by rfl) (pa_cons (pv 0) (pa_cons (pv 1) (pa_cons (pv 2) (pa_cons (pe_op op_sub (pv 3) pe_int) pa_nil))))))
        (pss_one (ps_ret (pe_ix (r := rIxL K) ix_list (pe_lst (pa_cons (pe_tup (pa_cons pe_str (pa_cons (pv 7) pa_nil))) (pa_cons (pv 7) pa_nil))) (pe_callTy call_int1 (by rfl) T.n_int (by decide +kernel) (pa_cons (pe_cmpR op_eq (pe_ix (r := rIxT K) ix_tup (pv 7) pe_int (fun _ _ => rfl)) pe_str (nomark _)) pa_nil)) (fun _ _ => rfl)))))
        pss_nil)
      (pss_mid (ps_if (PW.pt (pw_and (pt_cmpR op_gt (pv 4) pe_int (nomark _)) (pw_and1 (pt_cmpR (op_neD hr.units) (pv 1) (pe_lst pa_nil) (nomark _)))))
        (pss_one (ps_ret (pe_tup (pa_cons pe_str (pa_cons (pe_ix (r := rIxL K) ix_list (pv 1) (pe_cal c__law_draw hr (by omega) (by rfl) (pa_cons (pv 0) (pa_cons (pe_callB call_len_seq (by rfl) T.n_len (by decide +kernel) (pa_cons (pv 1) pa_nil)) pa_nil))) (fun _ _ => rfl)) pa_nil)))))
        pss_nil)
      (pss_one (ps_ret (pe_tup (pa_cons pe_str pa_nil)))))))))))), ?_⟩
    refine ⟨_, rfl, a, 9, rfl, hw, by decide, by decide, fun lot H1 o0 o1 f1 => ?_⟩
    refine ⟨_, rfl, a, rfl, f1.2, fun x H2 x0 x1 f2 => ⟨_, rfl, a, rfl, f2.2, fun y H3 y0 y1 f3 => ?_⟩⟩
    refine ⟨by show 2 ≤ sizeLine; decide, fun L hL => ?_⟩
    have f3 := (f1.trans f2).trans f3
    have f4 := f3.same (same_upd (o := .lst [.int x, .int y]) hL)
    refine ⟨L, [x, y], rfl, SqL.of upd_same, by show 2 < 64; decide, fun ns M hp hs hM => ?_⟩
    obtain ⟨lo, hi, rfl, hlh, hlo, hhi⟩ := perm2 hp hs
    have g1 : -figs ≤ lo ∧ lo ≤ figs := by rcases hlo with rfl | rfl <;> exact ⟨by assumption, by assumption⟩
    have g2 : -figs ≤ hi ∧ hi ≤ figs := by rcases hhi with rfl | rfl <;> exact ⟨by assumption, by assumption⟩
    have f5 := f4.same (same_upd (o := .lst (([lo, hi] : List Int).map V.int)) hM)
    refine ⟨M, _, rfl, SqL.of upd_same, rfl, ?_⟩
    have fK : ∀ {H' : Hp}, Fw a H H' → NmL H' b1 ks ∧ NmL H' b2 cs := fun f => ⟨f.1 _ _ na1 hk1, f.1 _ _ na2 hk2⟩
    have fin : ∀ (s : So) (xs : List V) (H' : Hp) (p : Addr), Fw a H H' → Tds K H' xs s.rest → H' p = none → s.ok ks cs false → Fig s → s.depth ≤ d → Q (.ref p) (upd H' p (.tup (.str s.word :: xs))) := fun s xs H' p f ht hp ok hf hdp =>
      q _ s _ (.tup (SqT.of upd_same) (.cons (.str _) (ht.keep (KeepT.same (same_upd hp))))) ok hf hdp (f.same (same_upd hp))
    generalize upd (upd H3 L (.lst [.int x, .int y])) M (.lst (([lo, hi] : List Int).map V.int)) = H5 at f5 ⊢
    refine ⟨_, _, rfl, _, _, rfl, rfl, _, rfl, _, _, rfl, rfl, _, rfl, ite2 (fun _ => ?_) (fun _ => ?_)⟩
    · refine ⟨_, rfl, by show 2 ≤ sizeLine; decide, fun L1 hL1 => ?_⟩
      have f6 := f5.same (same_upd (o := .lst [.non, .int lo]) hL1)
      refine ⟨_, rfl, a, 2, rfl, f6.2, by decide, by decide, fun i H7 i0 i1 f7 => ?_⟩
      have hL17 := f7.1 L1 _ (f5.2.ne hL1) upd_same
      have f67 := f6.trans f7
      obtain ⟨u, hu, hu1, hu2⟩ : ∃ u : Option Int, atI [V.non, V.int lo] i = some (oV u) ∧ (u = none ∨ u = some lo) ∧ fig1 u := by
        obtain rfl | rfl : i = 0 ∨ i = 1 := by omega
        · exact ⟨none, at0, .inl rfl, trivial⟩
        · exact ⟨some lo, at1, .inr rfl, g1⟩
      refine ⟨L1, _, i, _, rfl, rfl, SqL.of hL17, hu, ?_⟩
      refine ⟨_, rfl, _, rfl, by show 3 ≤ sizeLine; decide, fun L2 hL2 => ?_⟩
      have f8 := f67.same (same_upd (o := .lst [.non, .int hi, .int lo]) hL2)
      refine ⟨_, rfl, a, 3, rfl, f8.2, by decide, by decide, fun j H9 j0 j1 f9 => ?_⟩
      have hL29 := f9.1 L2 _ (f67.2.ne hL2) upd_same
      have f89 := f8.trans f9
      obtain ⟨v, hv, hv1, hv2⟩ : ∃ v : Option Int, atI [V.non, V.int hi, V.int lo] j = some (oV v) ∧ (v = none ∨ v = some hi ∨ v = some lo) ∧ fig1 v := by
        obtain rfl | rfl | rfl : j = 0 ∨ j = 1 ∨ j = 2 := by omega
        · exact ⟨none, at0, .inl rfl, trivial⟩
        · exact ⟨some hi, at1, .inr (.inl rfl), g2⟩
        · exact ⟨some lo, at2, .inr (.inr rfl), g1⟩
      refine ⟨L2, _, j, _, rfl, rfl, SqL.of hL29, hv, by show 3 ≤ sizeLine; decide, fun p hp => ?_⟩
      refine fin (.num u v) [oV u, oV v] H9 p f89 (.cons ?_ (.cons ?_ .nil)) hp ?_ ⟨hu2, hv2⟩ (Nat.zero_le _)
      · cases u with
        | none => exact .non
        | some n => exact .int n
      · cases v with
        | none => exact .non
        | some n => exact .int n
      · show loHi u v
        rcases hu1 with rfl | rfl <;> rcases hv1 with rfl | rfl | rfl <;> first | trivial | exact hlh | exact Int.le_refl _
    refine ⟨_, rfl, rfl, _, rfl, ite2 (fun _ => ?_) (fun _ => ?_)⟩
    · refine ⟨_, rfl, a, 41, rfl, f5.2, by decide, by decide, fun r H6 r0 r1 f6 => ⟨by show 3 ≤ sizeLine; decide, fun L1 hL1 => ?_⟩⟩
      have f6 := f5.trans f6
      have f7 := f6.same (same_upd (o := .lst [.int 0, .int 40, .int r]) hL1)
      refine ⟨_, rfl, a, 3, rfl, f7.2, by decide, by decide, fun i H8 i0 i1 f8 => ?_⟩
      have hL18 := f8.1 L1 _ (f6.2.ne hL1) upd_same
      obtain ⟨n, hn, hnb⟩ := three (u := 0) (v := 40) (x := r) (p := fun n => 0 ≤ n ∧ n ≤ 40) i0 i1 (by omega) (by omega) (by omega)
      refine ⟨L1, _, i, _, rfl, rfl, SqL.of hL18, hn, by show 2 ≤ sizeLine; decide, fun p hp => ?_⟩
      exact fin (.txt n) [.int n] H8 p (f7.trans f8) (.cons (.int n) .nil) hp hnb trivial (Nat.zero_le _)
    refine ⟨fun σ H' => σ = [some (.ref a), some (.ref b1), some (.ref b2), some (.int d), some (.int lot), some (.int lo), some (.int hi), none] ∧ Fw a H H', ?_, ?_⟩
    · refine ⟨_, rfl, rfl, _, rfl, iteB (fun _ => ?_) (fun _ => ⟨rfl, f5⟩)⟩
      refine ⟨_, rfl, by show 0 ≤ sizeLine; decide, fun L1 hL1 => ⟨_, _, dpNm ((fK f5).2.same (same_upd hL1)), .lst (SqL.of upd_same) .nil, shNm cs nm2, rfl, _, rfl, ?_⟩⟩
      have f6 := f5.same (same_upd (o := .lst []) hL1)
      rw [eqvNm]
      refine iteB (fun g => ?_) (fun _ => ⟨rfl, f6⟩)
      have ne : cs ≠ [] := fun e => by rw [e] at g; cases g
      have hl : 0 < cs.length := List.length_pos_iff.mpr ne
      refine ⟨_, rfl, _, rfl, _, rfl, b2, _, rfl, .inl (SqL.of (fK f6).2), a, _, rfl, f6.2, ?_, ?_, fun i H7 i0 i1 f7 => ?_⟩
      · rw [List.length_map]
        omega
      · rw [List.length_map]
        omega
      obtain ⟨k, hk, hm⟩ := one_nm i0 i1
      refine ⟨b2, _, i, _, rfl, rfl, SqL.of (fK (f6.trans f7)).2, hk, by show 2 ≤ sizeLine; decide, fun p hp => ?_⟩
      exact fin (.cho k) [.str k] H7 p (f6.trans f7) (.cons (.str k) .nil) hp ⟨nm2 k hm, hm⟩ trivial (Nat.zero_le _)
    rintro σ H6 ⟨rfl, f6⟩
    refine ⟨fun σ H' => σ = [some (.ref a), some (.ref b1), some (.ref b2), some (.int d), some (.int lot), some (.int lo), some (.int hi), none] ∧ Fw a H H', ?_, ?_⟩
    · refine ⟨_, rfl, by show 2 ≤ sizeLine; decide, fun L1 hL1 => ⟨L1, [.int 4, .int 5], rfl, .inl (SqL.of upd_same), rfl, rfl, _, rfl, ?_⟩⟩
      have f7 := f6.same (same_upd (o := .lst [.int 4, .int 5]) hL1)
      refine iteB (fun _ => ?_) (fun _ => ⟨rfl, f7⟩)
      refine ⟨_, rfl, _, _, rfl, rfl, _, rfl, ite2 (fun g => ?_) (fun _ => ⟨rfl, f7⟩)⟩
      refine ⟨_, rfl, a, 21, rfl, f7.2, by decide, by decide, fun r H8 r0 r1 f8 => ⟨by show 3 ≤ sizeLine; decide, fun L2 hL2 => ?_⟩⟩
      have f8 := f7.trans f8
      have f9 := f8.same (same_upd (o := .lst [.int 0, .int 20, .int r]) hL2)
      refine ⟨_, rfl, a, 3, rfl, f9.2, by decide, by decide, fun i H10 i0 i1 f10 => ?_⟩
      have hL210 := f10.1 L2 _ (f8.2.ne hL2) upd_same
      have f10 := f9.trans f10
      obtain ⟨n', hn', hnb⟩ := three (u := 0) (v := 20) (x := r) (p := fun n => 0 ≤ n ∧ n ≤ 20) i0 i1 (by omega) (by omega) (by omega)
      refine ⟨L2, _, i, _, rfl, rfl, SqL.of hL210, hn', ?_⟩
      have gd : (0 : Int) < d := of_decide_eq_true g
      obtain ⟨e, rfl⟩ : ∃ e, d = e + 1 := ⟨d - 1, by omega⟩
      refine ⟨_, rfl, _, rfl, _, rfl, _, rfl, _, 1, rfl, rfl, a, b1, b2, e, ks, cs, ?_, by omega, by omega, f10.2, (fK f10).1, (fK f10).2, nm1, nm2, na1, na2, l1, l2, fun v z H11 ht ok hf hdp f11 => ⟨by show 3 ≤ sizeLine; decide, fun p hp => ?_⟩⟩
      · show [V.ref a, V.ref b1, V.ref b2, V.int (((e + 1 : Nat) : Int) - 1)] = _
        rw [show (((e + 1 : Nat) : Int) - 1) = (e : Int) by omega]
      · exact fin (.row n' z) [.int n', v] H11 p (f10.trans f11) (.cons (.int n') (.cons ht .nil)) hp ⟨hnb.1, hnb.2, ok⟩ hf (Nat.succ_le_succ hdp)
    rintro σ H7 ⟨rfl, f7⟩
    refine ⟨fun σ H' => σ = [some (.ref a), some (.ref b1), some (.ref b2), some (.int d), some (.int lot), some (.int lo), some (.int hi), none] ∧ Fw a H H', ?_, ?_⟩
    · refine ⟨_, rfl, rfl, _, rfl, iteB (fun _ => ?_) (fun _ => ⟨rfl, f7⟩)⟩
      refine ⟨_, rfl, _, _, rfl, rfl, _, rfl, ite2 (fun g => ?_) (fun _ => ⟨rfl, f7⟩)⟩
      have gd : (0 : Int) < d := of_decide_eq_true g
      obtain ⟨e, rfl⟩ : ∃ e, d = e + 1 := ⟨d - 1, by omega⟩
      refine ⟨_, rfl, _, rfl, _, rfl, _, rfl, _, 1, rfl, rfl, a, b1, b2, e, ks, cs, ?_, by omega, by omega, f7.2, (fK f7).1, (fK f7).2, nm1, nm2, na1, na2, l1, l2, fun v z H11 ht ok hf hdp f11 => ?_⟩
      · show [V.ref a, V.ref b1, V.ref b2, V.int (((e + 1 : Nat) : Int) - 1)] = _
        rw [show (((e + 1 : Nat) : Int) - 1) = (e : Int) by omega]
      have f11 := f7.trans f11
      refine ⟨_, rfl, by show 2 ≤ sizeLine; decide, fun p hp => ⟨_, rfl, by show 2 ≤ sizeLine; decide, fun L1 hL1 => ?_⟩⟩
      have sA : Same H11 (upd (upd H11 p (.tup [.str "maybe", v])) L1 (.lst [.ref p, v])) := (same_upd hp).trans (same_upd hL1)
      have hpA : (upd (upd H11 p (.tup [.str "maybe", v])) L1 (.lst [.ref p, v])) p = some (.tup [.str "maybe", v]) := same_upd hL1 _ _ upd_same
      have hLA : (upd (upd H11 p (.tup [.str "maybe", v])) L1 (.lst [.ref p, v])) L1 = some (.lst [.ref p, v]) := upd_same
      have htA := ht.keep (KeepT.same sA)
      obtain ⟨pz, zs, rfl, hz, hzs⟩ := td_word htA
      refine ⟨_, rfl, pz, _, 0, .str z.word, rfl, rfl, hz, at0, rfl, .inr ⟨_, rfl, ?_⟩⟩
      by_cases hm : z.word = "maybe"
      · rw [decide_eq_true (show V.str z.word = V.str "maybe" by rw [hm])]
        exact ⟨L1, _, 1, _, rfl, rfl, SqL.of hLA, at1, q _ z _ htA ok hf (Nat.le_succ_of_le hdp) (f11.same sA)⟩
      · rw [decide_eq_false (sne hm)]
        exact ⟨L1, _, 0, _, rfl, rfl, SqL.of hLA, at0, q _ (.may z) _ (.tup (SqT.of hpA) (.cons (.str _) (.cons htA .nil))) ⟨rfl, ok_in ok hm⟩ hf (Nat.succ_le_succ hdp) (f11.same sA)⟩
    rintro σ H8 ⟨rfl, f8⟩
    refine ⟨fun σ H' => σ = [some (.ref a), some (.ref b1), some (.ref b2), some (.int d), some (.int lot), some (.int lo), some (.int hi), none] ∧ Fw a H H', ?_, ?_⟩
    · refine ⟨_, rfl, _, _, rfl, rfl, _, rfl, ite2 (fun _ => ?_) (fun _ => ⟨rfl, f8⟩)⟩
      refine ⟨_, rfl, by show 0 ≤ sizeLine; decide, fun L1 hL1 => ⟨_, _, dpNm ((fK f8).1.same (same_upd hL1)), .lst (SqL.of upd_same) .nil, shNm ks nm1, rfl, _, rfl, ?_⟩⟩
      have f9 := f8.same (same_upd (o := .lst []) hL1)
      rw [eqvNm]
      refine iteB (fun g => ?_) (fun _ => ⟨rfl, f9⟩)
      have ne : ks ≠ [] := fun e => by rw [e] at g; cases g
      have hl : 0 < ks.length := List.length_pos_iff.mpr ne
      refine ⟨_, rfl, _, rfl, _, rfl, b1, _, rfl, .inl (SqL.of (fK f9).1), a, _, rfl, f9.2, ?_, ?_, fun i H10 i0 i1 f10 => ?_⟩
      · rw [List.length_map]
        omega
      · rw [List.length_map]
        omega
      obtain ⟨k, hk, hm⟩ := one_nm i0 i1
      refine ⟨b1, _, i, _, rfl, rfl, SqL.of (fK (f9.trans f10)).1, hk, by show 2 ≤ sizeLine; decide, fun p hp => ?_⟩
      exact fin (.nod k) [.str k] H10 p (f9.trans f10) (.cons (.str k) .nil) hp ⟨nm1 k hm, hm⟩ trivial (Nat.zero_le _)
    rintro σ H9 ⟨rfl, f9⟩
    exact ⟨by show 1 ≤ sizeLine; decide, fun p hp => fin .tru [] H9 p f9 .nil hp trivial trivial (Nat.zero_le _)⟩
theorem ok_msort {f : Addr} {fd : FuncData} (F : Fun K "_law_sort" "_law_sort" s__law_sort f fd) (T : Bu mg) (c__law_draw : Cal P w K mg base 1 "_law_draw" ["_law_well_here", "_law_many"] spDraw) (c__law_number : Cal P w K mg base 2 "_law_number" ["_law_well_here"] spNum)
    (hm : mg "_law_sort" = some (.ref f)) (kp : PySem.W.keepIn K (.ref f) = true) (b : Binds K fd ["_law_well_here", "_law_nodes", "_law_some", "_law_deep"] []) : ∀ n, FnOk P w K mg base CX0 (3 + n) f fd ["_law_well_here", "_law_nodes", "_law_some", "_law_deep"] (spMk K n)
  | 0 => (show FnOk P w K mg base CX0 (2 + 1) f fd ["_law_well_here", "_law_nodes", "_law_some", "_law_deep"] (spMk K 0) from F.ok sc__law_sort (fun vs H Q E h => by
      obtain ⟨_, _, _, _, _, _, _, h, _⟩ := h
      exact absurd h (Nat.not_lt_zero _)) (fun cdv A outer s H vs Q E hr h => by
      obtain ⟨_, _, _, _, _, _, _, h, _⟩ := h
      exact absurd h (Nat.not_lt_zero _)))
  | n + 1 => (ok_msort_step F T c__law_draw c__law_number ⟨f, fd, ok_msort F T c__law_draw c__law_number hm kp b n, hm, kp, b⟩).mono (by omega)
end
end K02
set_option maxHeartbeats 4000000
/-! TwMul: a tuple taken no times or once. -/
namespace Tw
open PySem PySem.Spec PyProof.Rows L2
/-- taken once: the tuple itself -/
theorem mul_once (l : Addr) (items : Array Value) (n : Nat) (dd : Option Addr) (sl : Array (Option Value)) (u : Tok) :
    Meets (Builtin.«tuple.__mul__» ⟨[.ref l, .int 1 u], []⟩) (fun _ R s => s.heap.get? l = some { cls := .type "tuple", dict := dd, data := .seq items n, slots := sl } ∧ R (.ok (.ret (Value.ref l))) s) :=
  .of_wp fun prog w A R s h => by
    obtain ⟨hp, g, d, tk, os⟩ := s
    obtain ⟨hl, h⟩ := h
    have f1 := AutoSeq1.idx_int
    wp_walk using wpAny_loadPart' hl
    exact ⟨_, rfl, h⟩
/-- taken no times: a new empty one -/
theorem mul_none (l : Addr) (items : Array Value) (n : Nat) (dd : Option Addr) (sl : Array (Option Value)) (u : Tok) (c1 : (items.isEmpty || (0 : Int) == 1) = false) :
    Meets (Builtin.«tuple.__mul__» ⟨[.ref l, .int 0 u], []⟩) (fun _ R s => s.heap.get? l = some { cls := .type "tuple", dict := dd, data := .seq items n, slots := sl } ∧
      R (.ok (.ret (Value.ref s.heap.objs.size))) { s with heap := s.heap.push { cls := Value.type "tuple", data := Data.seq #[] }, toks := s.toks }) :=
  .of_wp fun prog w A R s h => by
    obtain ⟨hp, g, d, tk, os⟩ := s
    obtain ⟨hl, h⟩ := h
    have f1 := AutoSeq1.idx_int
    wp_walk using wpAny_loadPart' hl
    repeat (first
      | (refine wpAny_ite_false (decide_eq_false (by rw [c1]; exact Bool.false_ne_true)) ?_; wp_walk using wpAny_loadPart' hl))
    exact ⟨_, rfl, h⟩
/-- (x, ..) * 0 and * 1 -/
def rRepB (K : PySem.W.Frag) : R2 := fun x y H Q => ∃ (l : Addr) (b : Bool) (xs : List V), x = .ref l ∧ y = .int (if b then 1 else 0) ∧ SqT K H l xs ∧ xs ≠ [] ∧ (b = true → Q (.ref l) H) ∧ (b = false → ∀ p, H p = none → Q (.ref p) (upd H p (.tup [])))
theorem op_repB {X : Cx} : OpR X (binaryOp .Mult) (rRepB X.K) := by
  intro pins s σ H x y v u Q I rx ry h
  obtain ⟨l, b, xs, rfl, rfl, hT, hne, q1, q0⟩ := h
  cases rx
  obtain ⟨t, rfl⟩ := ry
  obtain ⟨its, r, ⟨⟨cls, dd, data, sl⟩, ho, hc, n, hd⟩, hs⟩ := I.tuple hT
  simp only at hc hd
  subst hc hd
  have hi : its.toArray.isEmpty = false := by
    cases its with
    | nil => exact absurd (List.eq_nil_of_length_eq_zero r.length) hne
    | cons a b => rfl
  cases b with
  | true =>
    refine wpAny_binaryOp_repeat_ref (T := "tuple") (U := "int") (by decide) ⟨_, ho, rfl⟩ (fun s' => typeIs_int s' 1 t) noFill_tuple_mul F.fills_int_mul F.slot_int_rmul repeat_tuple F.slot_int_index.lookup
      (call_meets F.slot_int_rmul (typeIs_int s 1 t) F.entry_int_rmul (F.args_int_rmul_2 _ _) (int_rmul_tuple 1 t l its.toArray n dd sl)
        ⟨ho, rfl, ⟨_, ho, rfl⟩, call_meets F.slot_tuple_mul ⟨_, ho, rfl⟩ F.entry_tuple_mul (F.args_tuple_mul_2 _ _) (mul_once l its.toArray n dd sl t) ⟨ho, ?_⟩⟩)
    exact ⟨.ref l, H, I, rfl, q1 rfl⟩
  | false =>
    refine wpAny_binaryOp_repeat_ref (T := "tuple") (U := "int") (by decide) ⟨_, ho, rfl⟩ (fun s' => typeIs_int s' 0 t) noFill_tuple_mul F.fills_int_mul F.slot_int_rmul repeat_tuple F.slot_int_index.lookup
      (call_meets F.slot_int_rmul (typeIs_int s 0 t) F.entry_int_rmul (F.args_int_rmul_2 _ _) (int_rmul_tuple 0 t l its.toArray n dd sl)
        ⟨ho, rfl, ⟨_, ho, rfl⟩, call_meets F.slot_tuple_mul ⟨_, ho, rfl⟩ F.entry_tuple_mul (F.args_tuple_mul_2 _ _) (mul_none l its.toArray n dd sl t (by rw [hi]; rfl)) ⟨ho, ?_⟩⟩)
    refine ⟨.ref s.heap.objs.size, _, I.laid (t' := s.toks) (o := .tup []) (fun b ob q => Heap.get?_push_of_some _ q) (Nat.le_refl _) ?_, rfl, q0 rfl _ (I.hok.fresh (Nat.le_refl _))⟩
    exact ⟨Nat.zero_le _, _, .nil, IsTup.new _ _⟩
end Tw
namespace Tw
open PySem PySem.Spec PyProof.Rows L2
/-- a text said k times -/
def timesS (z : Str) (k : Nat) : Str := ⟨(List.replicate k z.cps).foldl (· ++ ·) #[]⟩
def rRepS : R2 := fun x y H Q => ∃ (z : Str) (k : Int), x = .str z ∧ y = .int k ∧ 2 ≤ k ∧ k ≤ 100 ∧ z.length ≠ 0 ∧ z.length ≤ 1000 ∧ (timesS z k.toNat).length ≤ 16777216 ∧ Q (.str (timesS z k.toNat)) H
theorem op_repS {X : Cx} : OpR X (binaryOp .Mult) rRepS := by
  intro pins s σ H x y v u Q I rx ry h
  obtain ⟨z, k, rfl, rfl, h1, h2, h3, h4, h5, q⟩ := h
  obtain ⟨t, rfl⟩ := rx
  obtain ⟨t2, rfl⟩ := ry
  have n1 : ¬ k < 1 := by omega
  have n2 : (k == 1 || z.length == 0) = false := by
    rw [Bool.or_eq_false_iff]
    exact ⟨beq_eq_false_iff_ne.mpr (by omega), beq_eq_false_iff_ne.mpr h3⟩
  have hmul : z.length * k.toNat ≤ 1000 * 100 := Nat.mul_le_mul h4 (by omega)
  refine P.mul_str (by rw [decide_eq_false (by omega), decide_eq_false (by omega)] <;> rfl) (fun _ _ => ?_) (fun _ _ => ?_) ?_
  · have hd : (92233720368547758 : Int) ≤ (2 ^ 63 - 1) / k := Int.le_ediv_of_mul_le (by omega) (by omega)
    omega
  · unfold Builtin.Str.tooLong
    exact decide_eq_false (by rw [sizeLine_eq]; omega)
  · rw [if_neg n1, if_neg (by rw [n2]; exact Bool.false_ne_true)]
    refine ⟨?_, ⟨.str _, H, I.tok _, ⟨_, rfl⟩, q⟩⟩
    exact h5
end Tw
namespace K02
open PySem PySem.Spec PyProof.Rows L2 Tw Sb LamX
/-- what may stand as a default of a sort: none or one -/
def spLeft (K : PySem.W.Frag) : Sp := fun vs H Q _ => ∃ (a : Addr) (v : V) (s : So) (ks cs : List Str), vs = [.ref a, v] ∧ IsWl H a ∧ Td K H v s.pd ∧ s.ok ks cs false ∧ Fig s ∧
  ∀ (p : Addr) (xs : List V) (left : Option PyData) (H' : Hp), SqT K H' p xs → Tds K H' xs left.toList → (∀ d, left = some d → DefOk s d) → Fw a H H' → Q (.ref p) H'
def signs : Str := timesS " !\"'()-=[]\\az09~" 3
theorem signs_cut (lo hi : Option Int) : (cutS (timesS (Str.ofString " !\"'()-=[]\\az09~") (3 : Int).toNat) lo hi).length ≤ 48 ∧ (cutS (timesS (Str.ofString " !\"'()-=[]\\az09~") (3 : Int).toNat) lo hi).cps.toList.all plainC = true := by
  have e1 : (timesS (Str.ofString " !\"'()-=[]\\az09~") (3 : Int).toNat).length = 48 := by decide +kernel
  have e2 : (timesS (Str.ofString " !\"'()-=[]\\az09~") (3 : Int).toNat).cps.toList.all plainC = true := by decide +kernel
  refine ⟨Nat.le_trans (cutS_length _ _ _) (Nat.le_of_eq e1), ?_⟩
  rw [List.all_eq_true] at e2 ⊢
  exact fun c hc => e2 c (List.mem_of_mem_drop (List.mem_of_mem_take hc))
theorem txt_ok {n : Int} {wd : Str} (h0 : 0 ≤ n) (h1 : n ≤ 40) (hl : wd.length ≤ 48) (hp : wd.cps.toList.all plainC = true) : DefOk (.txt n) (.str (cutS wd none (some n))) := by
  obtain ⟨k, rfl⟩ : ∃ k : Nat, n = k := ⟨n.toNat, by omega⟩
  have e : sg (cutS wd none (some (k : Int))) = (sg wd).take (min k wd.length) := by
    unfold cutS
    rw [HT.sIx_none, HT.sIx_nat]
    show ((sg wd).drop 0).take (min k wd.length - 0) = _
    rw [List.drop_zero, Nat.sub_zero]
  have hle : (cutS wd none (some (k : Int))).length ≤ k := by
    rw [sg_len, e, List.length_take]
    omega
  refine ⟨by omega, ?_, by omega⟩
  rw [List.all_eq_true] at hp ⊢
  exact fun c hc => hp c (List.mem_of_mem_take (by rw [← e]; exact hc))
theorem merge3 {u v x : V} : mergeK [] [((.inr "truth" : Key), u), ((.inr "text" : Key), v), ((.inr "row" : Key), x)] = [((.inr "truth" : Key), u), ((.inr "text" : Key), v), ((.inr "row" : Key), x)] := by
  show putK (putK (putK [] (Sum.inr "truth" : Key) u) (Sum.inr "text" : Key) v) (Sum.inr "row" : Key) x = _
  have n1 : (Sum.inr ("text" : Str) : Key) ≠ .inr "truth" := by decide +kernel
  have n2 : (Sum.inr ("row" : Str) : Key) ≠ .inr "truth" := by decide +kernel
  have n3 : (Sum.inr ("row" : Str) : Key) ≠ .inr "text" := by decide +kernel
  rw [Tw.putK_new (kvs := []) (by simp), List.nil_append, Tw.putK_new (kvs := [(Sum.inr "truth", u)]) (k := Sum.inr "text") (by simpa using n1), List.singleton_append, Tw.putK_new (kvs := [(Sum.inr "truth", u), (Sum.inr "text", v)]) (by simpa using ⟨fun e => n2 (congrArg Sum.inr e), fun e => n3 (congrArg Sum.inr e)⟩)] <;> rfl
theorem word_num {s : So} (h : s.word = "number") : ∃ lo hi, s = .num lo hi := by
  cases s with
  | num lo hi => exact ⟨lo, hi, rfl⟩
  | tru => exact absurd h (show ("truth" : Str) ≠ "number" by decide +kernel)
  | txt n => exact absurd h (show ("text" : Str) ≠ "number" by decide +kernel)
  | row n s => exact absurd h (show ("row" : Str) ≠ "number" by decide +kernel)
  | may s => exact absurd h (show ("maybe" : Str) ≠ "number" by decide +kernel)
  | nod k => exact absurd h (show ("node" : Str) ≠ "number" by decide +kernel)
  | cho c => exact absurd h (show ("choice" : Str) ≠ "number" by decide +kernel)
section
variable {P : Program} {w : World} {K : PySem.W.Frag} {mg : Str → Option Value} {base : Heap}
theorem ok_left {f : Addr} {fd : FuncData} (F : Fun K "_law_left" "_law_left" s__law_left f fd) (T : Bu mg) (c__law_draw : Cal P w K mg base 1 "_law_draw" ["_law_well_here", "_law_many"] spDraw) : FnOk P w K mg base CX0 2 f fd ["_law_well_here", "_law_of"] (spLeft K) := by
  refine F.ok sc__law_left (fun vs H Q E h => ?_) (fun cdv A outer s H vs Q E hr h => ?_)
  · obtain ⟨a, v, z, ks, cs, rfl, _⟩ := h
    rfl
  · obtain ⟨a, v, z, ks, cs, rfl, hw, ht, ok, hf, q⟩ := h
    have hu := hu_of hr
    have hu1 := hu_of hr
    refine ⟨_, (pss_cons (ps_if (PW.pt (pw_or (pt_cmpR op_eq (pe_cal c__law_draw hr (by decide) (by rfl) (pa_cons (pv 0) (pa_cons pe_int pa_nil))) pe_int (nomark _)) (pw_or1 (pt_cmpR op_in_seq (pe_ix (r := rIxT K) ix_tup (pv 1) pe_int (fun _ _ => rfl)) (pe_lst (pa_cons pe_str (pa_cons pe_str pa_nil))) (by rfl)))))
        (pss_one (ps_ret (pe_tup pa_nil)))
        pss_nil)
      (pss_cons (ps_if (pt_cmpR op_eq (pe_ix (r := rIxT K) ix_tup (pv 1) pe_int (fun _ _ => rfl)) pe_str (nomark _))
        (pss_cons (ps_set (i := 2) sc__law_left.nd rfl (.inl rfl) (pe_op op_cat (pe_lc (own := [("_law_end", 9)]) rfl sc__law_left.nd (pi_tup (pe_slice (r := rSlT K) sl_tup (pv 1) (po_some pe_int) po_none)) (blkOk_by (N := N__law_left) (sc := defScope s__law_left) (by decide +kernel)) (fun _ _ _ _ _ => (pg_name (i := 9) sc__law_left.nd rfl (.inl rfl))) (fun _ _ _ _ _ => (pts_one (pt_cmpR op_notN (pv 9) pe_non (nomark _)))) (fun _ _ _ _ _ => (pv 9))) (pe_lst (pa_cons pe_int pa_nil))))
        (pss_cons (ps_set (i := 3) sc__law_left.nd rfl (.inl rfl) (pe_ix (r := rIxL K) ix_list (pv 2) (pe_cal c__law_draw hr (by decide) (by rfl) (pa_cons (pv 0) (pa_cons (pe_callB call_len_seq (by rfl) T.n_len (by decide +kernel) (pa_cons (pv 2) pa_nil)) pa_nil))) (fun _ _ => rfl)))
        (pss_cons (ps_asg (pe_slice (r := rSlT K) sl_tup (pv 1) (po_some pe_int) po_none) (pg_tup rfl (pgs_cons (pg_name (i := 4) sc__law_left.nd rfl (.inl rfl)) (pgs_cons (pg_name (i := 5) sc__law_left.nd rfl (.inl rfl)) pgs_nil))))
        (pss_one (ps_ret (pe_op op_repB (pe_tup (pa_cons (pv 3) pa_nil)) (pe_callTy call_int1 (by rfl) T.n_int (by decide +kernel) (pa_cons (pe_and (pe_or (pe_cmpR op_isN (pv 4) pe_non (nomark _)) (pe_one (pe_cmpR op_le (pv 4) (pv 3) (nomark _)))) (pe_one (pe_or (pe_cmpR op_isN (pv 5) pe_non (nomark _)) (pe_one (pe_cmpR op_le (pv 3) (pv 5) (nomark _)))))) pa_nil))))))))
        pss_nil)
      (pss_cons (ps_set (i := 6) sc__law_left.nd rfl (.inl rfl) (pe_op op_repS pe_str pe_int))
      (pss_cons (ps_set (i := 7) sc__law_left.nd rfl (.inl rfl) (pe_cal c__law_draw hr (by decide) (by rfl) (pa_cons (pv 0) (pa_cons pe_int pa_nil))))
      (pss_cons (ps_set (i := 8) sc__law_left.nd rfl (.inl rfl) (pe_slice sl_str (pv 6) (po_some (pv 7)) (po_some (pe_op op_add (pv 7) (pe_cal c__law_draw hr (by decide) (by rfl) (pa_cons (pv 0) (pa_cons pe_int pa_nil)))))))
      (pss_one (ps_ret (pe_tup (pa_cons (pe_dget1 hu1 (pe_disp (pps_cons pe_str (pe_cmpR op_eq (pe_op op_mod (pv 7) pe_int) pe_int (nomark _)) (pps_cons pe_str (pe_ifExp (pt_cmpR op_eq (pe_ix (r := rIxT K) ix_tup (pv 1) pe_int (fun _ _ => rfl)) pe_str (nomark _)) (pe_slice sl_str (pv 8) po_none (po_some (pe_ix (r := rIxT K) ix_tup (pv 1) (pe_un un_neg pe_int) (fun _ _ => rfl)))) pe_str) (pps_cons pe_str (pe_tup pa_nil) pps_nil))) rfl rfl (by simp) (by decide)) (pe_ix (r := rIxT K) ix_tup (pv 1) pe_int (fun _ _ => rfl)) ⟨rfl, rfl, rfl, rfl⟩) pa_nil))))))))), ?_⟩
    have tdK : ∀ {H' : Hp}, Fw a H H' → ∃ p xs, v = .ref p ∧ SqT K H' p (.str z.word :: xs) ∧ Tds K H' xs z.rest := fun f => td_word (ht.keep (fw_keepT f hw))
    have none_ : ∀ (H' : Hp) (p : Addr), Fw a H H' → H' p = none → Q (.ref p) (upd H' p (.tup [])) := fun H' p f hp => q p [] none _ (SqT.of upd_same) .nil (fun d h => nomatch h) (f.same (same_upd hp))
    refine ⟨_, rfl, a, 2, rfl, hw, by decide, by decide, fun r H1 r0 r1 f1 => ⟨rfl, _, rfl, iteB (fun _ => ?_) (fun _ => ?_)⟩⟩
    · exact ⟨by show 0 ≤ sizeLine; decide, fun p hp => none_ H1 p f1 hp⟩
    obtain ⟨pz, xs, rfl, hz, hxs⟩ := tdK f1
    refine ⟨_, rfl, pz, _, 0, .str z.word, rfl, rfl, hz, at0, by show 2 ≤ sizeLine; decide, fun L hL => ⟨L, [.str "node", .str "choice"], rfl, .inl (SqL.of upd_same), rfl, rfl, _, rfl, ?_⟩⟩
    have f2 := f1.same (same_upd (o := .lst [.str "node", .str "choice"]) hL)
    generalize upd H1 L (.lst [.str "node", .str "choice"]) = H2 at f2 ⊢
    refine iteB (fun _ => ⟨by show 0 ≤ sizeLine; decide, fun p hp => none_ H2 p f2 hp⟩) (fun hi0 => ?_)
    have hz := (same_upd (o := .lst [.str "node", .str "choice"]) hL)
    obtain ⟨pz, xs, e, hz, hxs⟩ := tdK f2
    obtain rfl := V.ref.inj e
    refine ⟨_, rfl, pz, _, 0, .str z.word, rfl, rfl, hz, at0, rfl, _, rfl, ?_⟩
    by_cases hn : z.word = "number"
    · rw [decide_eq_true (show V.str z.word = V.str "number" by rw [hn])]
      obtain ⟨lo, hi, rfl⟩ := word_num hn
      obtain ⟨x1, x2, rfl, h1, h2⟩ : ∃ x1 x2, xs = [x1, x2] ∧ x1 = oV lo ∧ x2 = oV hi := by
        cases hxs with
        | cons t1 t2 =>
          cases t2 with
          | cons t3 t4 =>
            cases t4
            exact ⟨_, _, rfl, t1.oV, t3.oV⟩
      subst h1 h2
      have g1 : fig1 lo := hf.1
      have g2 : fig1 hi := hf.2
      have hcut : cutV [V.str (So.num lo hi).word, oV lo, oV hi] (some 1) none = [oV lo, oV hi] := rfl
      have hnw : ¬ (HT.sIx 3 0 (some 1) = 0 ∧ HT.sIx 3 3 none = 3) := by decide
      refine ⟨_, rfl, _, rfl, pz, _, rfl, hz, hnw, fun E hE => ⟨E, rfl, ⟨_, SqT.of upd_same⟩, fun D hD => ?_⟩⟩
      rw [hcut] at hD ⊢
      have f3 := f2.same (same_upd (o := .tup [oV lo, oV hi]) hE)
      have hE3 : (upd H2 E (.tup [oV lo, oV hi])) E = some (.tup [oV lo, oV hi]) := upd_same
      generalize upd H2 E (.tup [oV lo, oV hi]) = H3 at f3 hE3 hD ⊢
      have f4 := f3.same (same_upd (o := .lst []) hD)
      refine lc_it (walk_tup (K := K) (a := E) (xs := [oV lo, oV hi])) (fun j H' => ∃ ws : List Int, H' = upd H3 D (.lst (ws.map V.int)) ∧ ws.length ≤ j ∧ ∀ x ∈ ws, -figs ≤ x ∧ x ≤ figs) ⟨[], rfl, Nat.le_refl _, fun x h => nomatch h⟩ ?_ ?_ ?_
      · rintro j H' _ ⟨ws, rfl, _⟩
        exact SqT.of (same_upd hD _ _ hE3)
      · rintro j x H5 H6 hj ⟨ws, rfl, hl, hA⟩ ⟨rfl, hx⟩
        have hj : j < 2 := hj
        have hxo : ∃ o, x = oV o ∧ fig1 o := by
          obtain rfl | rfl : j = 0 ∨ j = 1 := by omega
          · have e : some (oV lo) = some x := hx
            exact ⟨lo, (Option.some.inj e).symm, g1⟩
          · have e : some (oV hi) = some x := hx
            exact ⟨hi, (Option.some.inj e).symm, g2⟩
        obtain ⟨o, rfl, ho⟩ := hxo
        refine ⟨rfl, _, rfl, rfl, _, rfl, ?_⟩
        cases o with
        | none => exact ⟨ws, rfl, Nat.le_succ_of_le hl, hA⟩
        | some n =>
          refine ⟨_, rfl, _, upd_same, ?_, ws ++ [n], ?_, ?_, ?_⟩
          · rw [List.length_map]
            exact Nat.lt_of_le_of_lt (show ws.length ≤ 2 by omega) (by decide)
          · rw [upd_upd, List.map_append] <;> rfl
          · rw [List.length_append]
            exact Nat.succ_le_succ hl
          · intro y hy
            rcases List.mem_append.mp hy with h | h
            · exact hA y h
            · rw [List.mem_singleton.mp h]
              exact ho
      rintro H5 ⟨ws, rfl, hl, hA⟩
      have hl : ws.length ≤ 2 := hl
      refine ⟨by show 1 ≤ sizeLine; decide, fun L2 hL2 => ?_⟩
      have nD : D ≠ L2 := fun e => by rw [← e, upd_same] at hL2; cases hL2
      refine ⟨D, L2, _, _, rfl, rfl, by rw [upd_ne nD]; exact upd_same, upd_same, ?_, fun G hG => ?_⟩
      · rw [List.length_map]
        exact Nat.le_trans (Nat.add_le_add_right hl _) (by decide)
      have nG : G ≠ a := ((f3.same (same_upd hD)).same (same_upd hL2)).2.ne hG
      have sG : Same H3 (upd (upd (upd H3 D (.lst (ws.map V.int))) L2 (.lst [.int 0])) G (.lst (ws.map V.int ++ [.int 0]))) := ((same_upd hD).trans (same_upd hL2)).trans (same_upd hG)
      have hGG : (upd (upd (upd H3 D (.lst (ws.map V.int))) L2 (.lst [.int 0])) G (.lst (ws.map V.int ++ [.int 0]))) G = some (.lst ((ws ++ [0]).map V.int)) := by rw [upd_same, List.map_append] <;> rfl
      generalize upd (upd (upd H3 D (.lst (ws.map V.int))) L2 (.lst [.int 0])) G (.lst (ws.map V.int ++ [.int 0])) = H6 at sG hGG ⊢
      have hA2 : ∀ x ∈ ws ++ [0], -figs ≤ x ∧ x ≤ figs := fun x hx => by
        rcases List.mem_append.mp hx with h | h
        · exact hA x h
        · rw [List.mem_singleton.mp h]
          unfold figs
          omega
      have hl2 : (ws ++ [0]).length = ws.length + 1 := by rw [List.length_append] <;> rfl
      have f6 := f3.same sG
      refine ⟨_, rfl, _, rfl, _, rfl, G, _, rfl, .inl (SqL.of hGG), a, _, rfl, f6.2, ?_, ?_, fun i H7 i0 i1 f7 => ?_⟩
      · rw [List.length_map]
        omega
      · rw [List.length_map]
        omega
      have hG7 := f7.1 G _ nG hGG
      have f7 := f6.trans f7
      obtain ⟨n, hn, hm⟩ : ∃ n : Int, atI ((ws ++ [0]).map V.int) i = some (.int n) ∧ n ∈ ws ++ [0] := by
        obtain ⟨j, rfl⟩ : ∃ j : Nat, i = j := ⟨i.toNat, by omega⟩
        rw [List.length_map] at i1
        have hj : j < (ws ++ [0]).length := by omega
        exact ⟨(ws ++ [0])[j], atI_nat (by rw [List.getElem?_map, List.getElem?_eq_getElem hj] <;> rfl), List.getElem_mem hj⟩
      have hnb := hA2 n hm
      refine ⟨G, _, i, _, rfl, rfl, SqL.of hG7, hn, ?_⟩
      obtain ⟨pz', xs', e, hz7, hxs7⟩ := tdK f7
      obtain rfl := V.ref.inj e
      obtain rfl : xs' = [oV lo, oV hi] := by
        cases hxs7 with
        | cons t1 t2 =>
          cases t2 with
          | cons t3 t4 =>
            cases t4
            rw [t1.oV, t3.oV]
      refine ⟨_, rfl, _, rfl, pz, _, rfl, hz7, hnw, fun E2 hE2 => ⟨E2, _, rfl, SqT.of upd_same, rfl, ?_⟩⟩
      rw [hcut]
      have f8 := f7.same (same_upd (o := .tup [oV lo, oV hi]) hE2)
      generalize upd H7 E2 (.tup [oV lo, oV hi]) = H8 at f8 ⊢
      refine ⟨_, _, rfl, _, _, rfl, rfl, _, rfl, by show 1 ≤ sizeLine; decide, fun p hp => ?_⟩
      have f9 := f8.same (same_upd (o := .tup [.int n]) hp)
      have fin : ∀ b : Bool, (b = true → DefOk (.num lo hi) (.int n)) → rRepB K (.ref p) (.int (if b = true then 1 else 0)) (upd H8 p (.tup [.int n])) Q := fun b hb =>
        ⟨p, b, [.int n], rfl, rfl, SqT.of upd_same, List.cons_ne_nil _ _, fun e => q p [.int n] (some (.int n)) _ (SqT.of upd_same) (.cons (.int n) .nil) (fun d hd => by cases hd; exact hb e) f9, fun _ p2 hp2 => none_ _ p2 f9 hp2⟩
      clear q
      refine ⟨_, rfl, rfl, ?_⟩
      cases lo with
      | none =>
        refine ⟨true, rfl, iteT ⟨true, rfl, iteT ⟨_, rfl, rfl, ?_⟩⟩⟩
        cases hi with
        | none => exact ⟨true, rfl, iteT (.inr ⟨_, rfl, fin true fun _ => ⟨(fun _ h => nomatch h), (fun _ h => nomatch h), hnb⟩⟩)⟩
        | some k => exact ⟨false, rfl, iteF ⟨_, rfl, _, rfl, _, _, rfl, rfl, .inr ⟨_, rfl, fin (decide (n ≤ k)) fun e => ⟨(fun _ h => nomatch h), (fun _ h => by cases h; exact of_decide_eq_true e), hnb⟩⟩⟩⟩
      | some l =>
        refine ⟨false, rfl, iteF ⟨_, rfl, _, rfl, _, _, rfl, rfl, _, rfl, iteB (fun g => ?_) (fun g => .inr ⟨_, rfl, fin false (fun z => nomatch z)⟩)⟩⟩
        have g := of_decide_eq_true g
        refine ⟨_, rfl, rfl, ?_⟩
        cases hi with
        | none => exact ⟨true, rfl, iteT (.inr ⟨_, rfl, fin true fun _ => ⟨(fun _ h => by cases h; exact g), (fun _ h => nomatch h), hnb⟩⟩)⟩
        | some k => exact ⟨false, rfl, iteF ⟨_, rfl, _, rfl, _, _, rfl, rfl, .inr ⟨_, rfl, fin (decide (n ≤ k)) fun e => ⟨(fun _ h => by cases h; exact g), (fun _ h => by cases h; exact of_decide_eq_true e), hnb⟩⟩⟩⟩
    rw [decide_eq_false (sne hn)]
    refine ⟨_, 3, rfl, rfl, by decide, by decide, by decide +kernel, by decide +kernel, by decide +kernel, ?_⟩
    refine ⟨_, rfl, a, 17, rfl, f2.2, by decide, by decide, fun at_ H3 at0_ at1_ f3 => ?_⟩
    have f3 := f2.trans f3
    refine ⟨_, rfl, _, rfl, at_, rfl, _, rfl, _, rfl, a, 40, rfl, f3.2, by decide, by decide, fun r H4 r0 r1 f4 => ⟨_, _, rfl, rfl, _, rfl, _, rfl, by decide +kernel, ?_⟩⟩
    have f4 := f3.trans f4
    have hpl    := signs_cut (some at_) (some (at_ + r))
    generalize cutS (timesS (Str.ofString " !\"'()-=[]\\az09~") (3 : Int).toNat) (some at_) (some (at_ + r)) = wd at hpl ⊢
    obtain ⟨hwl, hpl⟩ := hpl
    refine fun d hd => ?_
    have nd : d ≠ a := f4.2.ne hd
    have hd0 := f4.free hw hd
    have f7 := f4.same (same_upd (o := .dK []) hd)
    have hd7 : (upd H4 d (.dK [])) d = some (.dK []) := upd_same
    generalize upd H4 d (.dK []) = H7 at f7 hd7 ⊢
    obtain ⟨pz', xs', e, hz7, hxs7⟩ := tdK f7
    obtain rfl := V.ref.inj e
    obtain ⟨pz', xs0, e, hzH, _⟩ := td_word ht
    obtain rfl := V.ref.inj e
    refine ⟨_, rfl, at_, 2, rfl, rfl, by show (0 : Int) < 2; decide, rfl, ?_⟩
    cases z with
    | num lo hi => exact absurd rfl hn
    | nod k => exact absurd hi0 (by rw [show inV (V.str (So.nod k).word) [V.str (Str.ofString "node"), V.str (Str.ofString "choice")] = true from (show inV (V.str (Str.ofString "node")) [V.str (Str.ofString "node"), V.str (Str.ofString "choice")] = true by decide +kernel)]; exact fun z => nomatch z)
    | cho k => exact absurd hi0 (by rw [show inV (V.str (So.cho k).word) [V.str (Str.ofString "node"), V.str (Str.ofString "choice")] = true from (show inV (V.str (Str.ofString "choice")) [V.str (Str.ofString "node"), V.str (Str.ofString "choice")] = true by decide +kernel)]; exact fun z => nomatch z)
    | tru =>
      refine ⟨_, rfl, pz, _, 0, .str "truth", rfl, rfl, hz7, at0, rfl, _, rfl, ?_⟩
      rw [decide_eq_false (sne (show ("truth" : Str) ≠ "text" by decide +kernel))]
      refine ⟨by show 0 ≤ sizeLine; decide, fun t ht => ⟨?_, [((.inr "truth" : Key), V.bl (decide (V.int (at_ % 2) = V.int 0))), ((.inr "text" : Key), .str ""), ((.inr "row" : Key), .ref t)], rfl, by show 3 ≤ 15; decide, d, rfl, .inl ⟨_, .inl upd_same⟩, ?_⟩⟩
      · rw [upd_ne (fun e => by rw [← e, hd7] at ht; cases ht)]
        exact hd7
      rw [merge3]
      have ntd : t ≠ d := fun e => by rw [e, hd7] at ht; cases ht
      have sB : Same H7 (upd H7 t (.tup [])) := same_upd ht
      have htB : (upd H7 t (.tup [])) t = some (.tup []) := upd_same
      have hdB : (upd H7 t (.tup [])) d = some (.dK []) := sB _ _ hd7
      have fC : Fw a H (upd (upd H7 t (.tup [])) d (.dK [((.inr "truth" : Key), V.bl (decide (V.int (at_ % 2) = V.int 0))), ((.inr "text" : Key), .str ""), ((.inr "row" : Key), .ref t)])) := fw_put (f7.same sB) nd hd0
      refine ⟨_, rfl, pz, _, 0, .str "truth", rfl, rfl, (fw_keepT fC hw) _ _ hzH, at0, valV _ (Sum.inr "truth" : Key), .inl ⟨_, (Sum.inr "truth" : Key), .inl upd_same, rfl, rfl⟩, by show 1 ≤ sizeLine; decide, fun p hp => ?_⟩
      rw [show valV [((.inr "truth" : Key), V.bl (decide (V.int (at_ % 2) = V.int 0))), ((.inr "text" : Key), .str ""), ((.inr "row" : Key), .ref t)] (Sum.inr "truth" : Key) = some (V.bl (decide (V.int (at_ % 2) = V.int 0))) from by first | rfl | decide +kernel | simp [valV]]
      exact q p [V.bl (decide (V.int (at_ % 2) = V.int 0))] (some (.bool (decide (V.int (at_ % 2) = V.int 0)))) _ (SqT.of upd_same) (.cons (.bl _) .nil) (fun d hd => by cases hd; exact trivial) (fC.same (same_upd hp))
    | txt n =>
      refine ⟨_, rfl, pz, _, 0, .str "text", rfl, rfl, hz7, at0, rfl, _, rfl, ?_⟩
      rw [decide_eq_true (show V.str ("text" : Str) = V.str "text" from rfl)]
      obtain rfl : xs' = [.int n] := by
        cases hxs7 with
        | cons t1 t2 =>
          cases t2
          rw [t1.toInt]
      refine ⟨_, rfl, _, rfl, _, rfl, pz, _, -1, .int n, rfl, rfl, hz7, rfl, n, rfl, _, rfl, Nat.le_trans hwl (by decide), ?_⟩
      refine ⟨by show 0 ≤ sizeLine; decide, fun t ht => ⟨?_, [((.inr "truth" : Key), V.bl (decide (V.int (at_ % 2) = V.int 0))), ((.inr "text" : Key), .str (cutS wd none (some n))), ((.inr "row" : Key), .ref t)], rfl, by show 3 ≤ 15; decide, d, rfl, .inl ⟨_, .inl upd_same⟩, ?_⟩⟩
      · rw [upd_ne (fun e => by rw [← e, hd7] at ht; cases ht)]
        exact hd7
      rw [merge3]
      have ntd : t ≠ d := fun e => by rw [e, hd7] at ht; cases ht
      have sB : Same H7 (upd H7 t (.tup [])) := same_upd ht
      have htB : (upd H7 t (.tup [])) t = some (.tup []) := upd_same
      have hdB : (upd H7 t (.tup [])) d = some (.dK []) := sB _ _ hd7
      have fC : Fw a H (upd (upd H7 t (.tup [])) d (.dK [((.inr "truth" : Key), V.bl (decide (V.int (at_ % 2) = V.int 0))), ((.inr "text" : Key), .str (cutS wd none (some n))), ((.inr "row" : Key), .ref t)])) := fw_put (f7.same sB) nd hd0
      refine ⟨_, rfl, pz, _, 0, .str "text", rfl, rfl, (fw_keepT fC hw) _ _ hzH, at0, valV _ (Sum.inr "text" : Key), .inl ⟨_, (Sum.inr "text" : Key), .inl upd_same, rfl, rfl⟩, by show 1 ≤ sizeLine; decide, fun p hp => ?_⟩
      rw [show valV [((.inr "truth" : Key), V.bl (decide (V.int (at_ % 2) = V.int 0))), ((.inr "text" : Key), .str (cutS wd none (some n))), ((.inr "row" : Key), .ref t)] (Sum.inr "text" : Key) = some (V.str (cutS wd none (some n))) from by first | rfl | decide +kernel | simp [valV]]
      exact q p [V.str (cutS wd none (some n))] (some (.str (cutS wd none (some n)))) _ (SqT.of upd_same) (.cons (.str _) .nil) (fun d hd => by cases hd; exact txt_ok ok.1 ok.2 hwl hpl) (fC.same (same_upd hp))
    | row n y =>
      refine ⟨_, rfl, pz, _, 0, .str "row", rfl, rfl, hz7, at0, rfl, _, rfl, ?_⟩
      rw [decide_eq_false (sne (show ("row" : Str) ≠ "text" by decide +kernel))]
      refine ⟨by show 0 ≤ sizeLine; decide, fun t ht => ⟨?_, [((.inr "truth" : Key), V.bl (decide (V.int (at_ % 2) = V.int 0))), ((.inr "text" : Key), .str ""), ((.inr "row" : Key), .ref t)], rfl, by show 3 ≤ 15; decide, d, rfl, .inl ⟨_, .inl upd_same⟩, ?_⟩⟩
      · rw [upd_ne (fun e => by rw [← e, hd7] at ht; cases ht)]
        exact hd7
      rw [merge3]
      have ntd : t ≠ d := fun e => by rw [e, hd7] at ht; cases ht
      have sB : Same H7 (upd H7 t (.tup [])) := same_upd ht
      have htB : (upd H7 t (.tup [])) t = some (.tup []) := upd_same
      have hdB : (upd H7 t (.tup [])) d = some (.dK []) := sB _ _ hd7
      have fC : Fw a H (upd (upd H7 t (.tup [])) d (.dK [((.inr "truth" : Key), V.bl (decide (V.int (at_ % 2) = V.int 0))), ((.inr "text" : Key), .str ""), ((.inr "row" : Key), .ref t)])) := fw_put (f7.same sB) nd hd0
      refine ⟨_, rfl, pz, _, 0, .str "row", rfl, rfl, (fw_keepT fC hw) _ _ hzH, at0, valV _ (Sum.inr "row" : Key), .inl ⟨_, (Sum.inr "row" : Key), .inl upd_same, rfl, rfl⟩, by show 1 ≤ sizeLine; decide, fun p hp => ?_⟩
      rw [show valV [((.inr "truth" : Key), V.bl (decide (V.int (at_ % 2) = V.int 0))), ((.inr "text" : Key), .str ""), ((.inr "row" : Key), .ref t)] (Sum.inr "row" : Key) = some (.ref t) from by first | rfl | decide +kernel | simp [valV]]
      exact q p [.ref t] (some (.tuple [])) _ (SqT.of upd_same) (.cons (.tup (SqT.of ((same_upd hp) _ _ (by rw [upd_ne ntd]; exact htB))) .nil) .nil) (fun d hd => by cases hd; exact trivial) (fC.same (same_upd hp))
    | may y =>
      refine ⟨_, rfl, pz, _, 0, .str "maybe", rfl, rfl, hz7, at0, rfl, _, rfl, ?_⟩
      rw [decide_eq_false (sne (show ("maybe" : Str) ≠ "text" by decide +kernel))]
      refine ⟨by show 0 ≤ sizeLine; decide, fun t ht => ⟨?_, [((.inr "truth" : Key), V.bl (decide (V.int (at_ % 2) = V.int 0))), ((.inr "text" : Key), .str ""), ((.inr "row" : Key), .ref t)], rfl, by show 3 ≤ 15; decide, d, rfl, .inl ⟨_, .inl upd_same⟩, ?_⟩⟩
      · rw [upd_ne (fun e => by rw [← e, hd7] at ht; cases ht)]
        exact hd7
      rw [merge3]
      have ntd : t ≠ d := fun e => by rw [e, hd7] at ht; cases ht
      have sB : Same H7 (upd H7 t (.tup [])) := same_upd ht
      have htB : (upd H7 t (.tup [])) t = some (.tup []) := upd_same
      have hdB : (upd H7 t (.tup [])) d = some (.dK []) := sB _ _ hd7
      have fC : Fw a H (upd (upd H7 t (.tup [])) d (.dK [((.inr "truth" : Key), V.bl (decide (V.int (at_ % 2) = V.int 0))), ((.inr "text" : Key), .str ""), ((.inr "row" : Key), .ref t)])) := fw_put (f7.same sB) nd hd0
      refine ⟨_, rfl, pz, _, 0, .str "maybe", rfl, rfl, (fw_keepT fC hw) _ _ hzH, at0, valV _ (Sum.inr "maybe" : Key), .inl ⟨_, (Sum.inr "maybe" : Key), .inl upd_same, rfl, rfl⟩, by show 1 ≤ sizeLine; decide, fun p hp => ?_⟩
      rw [show valV [((.inr "truth" : Key), V.bl (decide (V.int (at_ % 2) = V.int 0))), ((.inr "text" : Key), .str ""), ((.inr "row" : Key), .ref t)] (Sum.inr "maybe" : Key) = none from by first | rfl | decide +kernel | simp [valV]]
      exact q p [.non] (some .none) _ (SqT.of upd_same) (.cons .non .nil) (fun d hd => by cases hd; exact trivial) (fC.same (same_upd hp))
end
end K02
namespace K02
open PySem PySem.Spec PyProof.Rows L2 Tw Sb LamX
/-- the well and the two lists of names -/
structure Evn (H : Hp) (a b1 b2 : Addr) (ks cs : List Str) : Prop where
  wl : IsWl H a
  k1 : NmL H b1 ks
  k2 : NmL H b2 cs
  nm1 : ∀ k ∈ ks, isNm k = true
  nm2 : ∀ k ∈ cs, isNm k = true
  n1 : b1 ≠ a
  n2 : b2 ≠ a
  l1 : ks.length ≤ 5
  l2 : cs.length ≤ 5
theorem Evn.fw {H H' : Hp} {a b1 b2 : Addr} {ks cs : List Str} (e : Evn H a b1 b2 ks cs) (f : Fw a H H') : Evn H' a b1 b2 ks cs :=
  ⟨f.2, f.1 _ _ e.n1 e.k1, f.1 _ _ e.n2 e.k2, e.nm1, e.nm2, e.n1, e.n2, e.l1, e.l2⟩
theorem sort_pre {K : PySem.W.Frag} {H : Hp} {a b1 b2 : Addr} {ks cs : List Str} {Q : VK} {E : XK} (e : Evn H a b1 b2 ks cs) (q : ∀ (v : V) (s : So) (H' : Hp), Td K H' v s.pd → s.ok ks cs false → Fig s → s.depth ≤ 2 → Fw a H H' → Q v H') : spMk K 3 [.ref a, .ref b1, .ref b2, .int 2] H Q E :=
  ⟨a, b1, b2, 2, ks, cs, rfl, by decide, by decide, e.wl, e.k1, e.k2, e.nm1, e.nm2, e.n1, e.n2, e.l1, e.l2, q⟩
theorem rowOk_snoc {k : Bool} {ks cs : List Str} {es : List En} {e : En} (h : RowOk k ks cs es) (he : EnOk k ks cs es e) : RowOk k ks cs (es ++ [e]) := fun i x hx => by
  by_cases hi : i < es.length
  · rw [List.getElem?_append_left hi] at hx
    rw [List.take_append_of_le_length (Nat.le_of_lt hi)]
    exact h i x hx
  · have hi' : es.length ≤ i := by omega
    rw [List.getElem?_append_right hi'] at hx
    have e0 : i - es.length = 0 := by
      have := (List.getElem?_eq_some_iff.mp hx).1
      simp at this
      omega
    rw [e0] at hx
    obtain rfl : e = x := Option.some.inj hx
    have e1 : i = es.length := by omega
    rw [e1, List.take_left]
    exact he
/-- no sort deeper than two -/
def Dep (es : List En) : Prop := ∀ e ∈ es, ∀ s, e.of = some s → s.depth ≤ 2
/-- the entries met: their names are the first names' -/
structure Met (k : Bool) (ks cs names : List Str) (i : Nat) (es : List En) : Prop where
  ok : RowOk k ks cs es
  le : es.length ≤ i
  of : ∀ e ∈ es, ∃ j : Nat, j < i ∧ names[j]? = some e.name
  dp : Dep es
theorem Met.newN {k : Bool} {ks cs names : List Str} {i : Nat} {es : List En} {z : Str} (m : Met k ks cs names i es) (nd : names.Nodup) (hz : names[i]? = some z) : z ∉ es.map En.name := fun h => by
  obtain ⟨e, he, rfl⟩ := List.mem_map.mp h
  obtain ⟨j, hj, hn⟩ := m.of e he
  have := (List.getElem?_inj (List.getElem?_eq_some_iff.mp hn).1 nd).mp (hn.trans hz.symm)
  omega
theorem Met.skip {k : Bool} {ks cs names : List Str} {i : Nat} {es : List En} (m : Met k ks cs names i es) : Met k ks cs names (i + 1) es :=
  ⟨m.ok, Nat.le_succ_of_le m.le, fun e he => by
    obtain ⟨j, hj, h⟩ := m.of e he
    exact ⟨j, by omega, h⟩, m.dp⟩
theorem Met.snoc {k : Bool} {ks cs names : List Str} {i : Nat} {es : List En} {e : En} (m : Met k ks cs names i es) (h : names[i]? = some e.name) (he : EnOk k ks cs es e) (hd : ∀ s, e.of = some s → s.depth ≤ 2) : Met k ks cs names (i + 1) (es ++ [e]) :=
  ⟨rowOk_snoc m.ok he, by rw [List.length_append]; exact Nat.succ_le_succ m.le, fun x hx => by
    rcases List.mem_append.mp hx with hx | hx
    · obtain ⟨j, hj, h⟩ := m.of x hx
      exact ⟨j, by omega, h⟩
    · rw [List.mem_singleton.mp hx]
      exact ⟨i, by omega, h⟩, fun x hx s hs => by
    rcases List.mem_append.mp hx with hx | hx
    · exact m.dp x hx s hs
    · rw [List.mem_singleton.mp hx] at hs
      exact hd s hs⟩
/-- what the draws make of a kind -/
def spFields (K : PySem.W.Frag) : Sp := fun vs H Q _ => ∃ (a b1 b2 : Addr) (ks cs : List Str), vs = [.ref a, .ref b1, .ref b2] ∧ Evn H a b1 b2 ks cs ∧
  ∀ (F : Addr) (xs : List V) (es : List En) (H' : Hp), H F = none → H' F = some (.lst xs) → Tds K H' xs (es.map En.pd) → RowOk true ks cs es → Dep es → es.length ≤ 5 → Fw a H H' → Q (.ref F) H'
theorem in_ints {k : Int} : ∀ {ks : List Int}, k ∈ ks → inV (.int k) (ks.map V.int) = true
  | a :: r, h => by
    show ((a == k) || inV (.int k) (r.map V.int)) = true
    rcases List.mem_cons.mp h with rfl | h
    · simp
    · rw [in_ints h, Bool.or_true]
/-- two lists are changed: what stands of tuples, stands -/
theorem keep_two {K : PySem.W.Frag} {H : Hp} {p r : Addr} {xs ys xs' ys' : List V} (hp : H p = some (.lst xs)) (hr : H r = some (.lst ys)) (n : r ≠ p) : KeepT K H (upd (upd H p (.lst xs')) r (.lst ys')) := KeepT.but fun b o e => by
  have nb : (∀ l, o ≠ .lst l) → b ≠ p ∧ b ≠ r := fun n => ⟨fun w => by
    rw [w, hp] at e
    exact n _ (Option.some.inj e).symm, fun w => by
    rw [w, hr] at e
    exact n _ (Option.some.inj e).symm⟩
  refine ⟨fun l w => ?_, fun q l w => ?_⟩
  · obtain ⟨n1, n2⟩ := nb fun k z => by rw [w] at z; cases z
    rw [upd_ne n2, upd_ne n1]
    exact e
  · obtain ⟨n1, n2⟩ := nb fun k z => by rw [w] at z; cases z
    rw [upd_ne n2, upd_ne n1]
    exact e
section
variable {P : Program} {w : World} {K : PySem.W.Frag} {mg : Str → Option Value} {base : Heap}
theorem ok_fields {f : Addr} {fd : FuncData} (F : Fun K "_law_fields" "_law_fields" s__law_fields f fd) (T : Bu mg) (c__law_draw : Cal P w K mg base 1 "_law_draw" ["_law_well_here", "_law_many"] spDraw) (c__law_names : Cal P w K mg base 2 "_law_names" ["_law_well_here", "_law_many"] spNames2)
    (c__law_sort : Cal P w K mg base 6 "_law_sort" ["_law_well_here", "_law_nodes", "_law_some", "_law_deep"] (spMk K 3)) (c__law_left : Cal P w K mg base 2 "_law_left" ["_law_well_here", "_law_of"] (spLeft K)) : FnOk P w K mg base CX0 7 f fd ["_law_well_here", "_law_nodes", "_law_some"] (spFields K) := by
  refine F.ok sc__law_fields (fun vs H Q E h => ?_) (fun cdv A outer s H vs Q E hr h => ?_)
  · obtain ⟨a, b1, b2, ks, cs, rfl, _⟩ := h
    rfl
  · obtain ⟨a, b1, b2, ks, cs, rfl, ev, q⟩ := h
    refine ⟨_, (pss_cons (ps_set (i := 3) sc__law_fields.nd rfl (.inl rfl) (pe_lst pa_nil))
      (pss_cons (ps_set (i := 4) sc__law_fields.nd rfl (.inl rfl) (pe_lst pa_nil))
      (pss_cons (ps_for PassesOwn.never rfl (pi_list (pe_cal c__law_names hr (by decide) (by rfl) (pa_cons (pv 0) (pa_cons (pe_cal c__law_draw hr (by decide) (by rfl) (pa_cons (pv 0) (pa_cons pe_int pa_nil))) pa_nil)))) (pg_name (i := 5) sc__law_fields.nd rfl (.inl rfl))
        (pss_cons (ps_set (i := 6) sc__law_fields.nd rfl (.inl rfl) (pe_ix (r := rIxL K) ix_list (pe_lst (pa_cons (pe_op op_add pe_int (pe_cal c__law_draw hr (by decide) (by rfl) (pa_cons (pv 0) (pa_cons pe_int pa_nil)))) (pa_cons (pe_op op_add pe_int (pe_cal c__law_draw hr (by decide) (by rfl) (pa_cons (pv 0) (pa_cons pe_int pa_nil)))) (pa_cons pe_int pa_nil)))) (pe_cal c__law_draw hr (by decide) (by rfl) (pa_cons (pv 0) (pa_cons pe_int pa_nil))) (fun _ _ => rfl)))
        (pss_cons (ps_set (i := 7) sc__law_fields.nd rfl (.inl rfl) (pe_cal c__law_sort hr (by decide) (by rfl) (pa_cons (pv 0) (pa_cons (pv 1) (pa_cons (pv 2) (pa_cons pe_int pa_nil))))))
        (pss_one (ps_if (pt_cmpR op_notIn_seq (pv 6) (pv 4) (by rfl))
          (pss_cons (ps_expr (pe_bm PySem.F.plainAttrs_list PySem.F.slot_list_append PySem.F.type_list_append mt_append (pv 3) (pa_cons (pe_op op_catA (pe_tup (pa_cons (pv 6) (pa_cons (pv 5) (pa_cons (pv 7) pa_nil)))) (pe_cal c__law_left hr (by decide) (by rfl) (pa_cons (pv 0) (pa_cons (pv 7) pa_nil)))) pa_nil)))
          (pss_one (ps_expr (pe_bm PySem.F.plainAttrs_list PySem.F.slot_list_append PySem.F.type_list_append mt_append (pv 4) (pa_cons (pv 6) pa_nil)))))
          pss_nil)))))
      (pss_one (ps_ret (pv 3)))))), ?_⟩
    refine ⟨by show 0 ≤ sizeLine; decide, fun Fa hF => ⟨by show 0 ≤ sizeLine; decide, fun G hG => ?_⟩⟩
    have f1 := (Fw.of_same ev.wl (same_upd (o := .lst []) hF)).same (same_upd (o := .lst []) hG)
    have nF : Fa ≠ a := ev.wl.ne hF
    have nGF : G ≠ Fa := fun e => by rw [e, upd_same] at hG; cases hG
    have nG : G ≠ a := (Fw.of_same ev.wl (same_upd (o := .lst []) hF)).2.ne hG
    have hG0 := (Fw.of_same ev.wl (same_upd (o := .lst []) hF)).free ev.wl hG
    have hF1 : (upd (upd H Fa (.lst [])) G (.lst [])) Fa = some (.lst []) := (same_upd hG) _ _ upd_same
    have hG1 : (upd (upd H Fa (.lst [])) G (.lst [])) G = some (.lst []) := upd_same
    generalize upd (upd H Fa (.lst [])) G (.lst []) = H1 at f1 hF1 hG1 ⊢
    refine ⟨_, rfl, _, rfl, a, 5, rfl, f1.2, by decide, by decide, fun r H2 r0 r1 f2 => ?_⟩
    have hF2 := f2.1 _ _ nF hF1
    have hG2 := f2.1 _ _ nG hG1
    have f2 := f1.trans f2
    obtain ⟨R, rfl⟩ : ∃ R : Nat, r = (R : Int) := ⟨r.toNat, by omega⟩
    refine ⟨a, R, rfl, f2.2, by omega, fun nb names H3 hnb nnb hn hnl hnd hnm f3 => ?_⟩
    have hF3 := f3.1 _ _ nF hF2
    have hG3 := f3.1 _ _ nG hG2
    have hnb0 := f2.free ev.wl hnb
    have nbF : nb ≠ Fa := fun e => by rw [e, hF2] at hnb; cases hnb
    have nbG : nb ≠ G := fun e => by rw [e, hG2] at hnb; cases hnb
    have f3 := f2.trans f3
    refine ⟨nb, rfl, ⟨_, SqL.of hn⟩, ?_⟩
    refine for_it (walk_list (K := K) (a := nb) (xs := names.map V.str)) (fun i σ H' => ∃ (y5 y6 y7 : Option V) (xs : List V) (es : List En), σ = [some (.ref a), some (.ref b1), some (.ref b2), some (.ref Fa), some (.ref G), y5, y6, y7] ∧ Fw a H H' ∧ NmL H' nb names ∧ H' Fa = some (.lst xs) ∧ Tds K H' xs (es.map En.pd) ∧ H' G = some (.lst ((es.map En.num).map V.int)) ∧ Met true ks cs names i es) ⟨none, none, none, [], [], rfl, f3, hn, hF3, .nil, hG3, ⟨(fun i e h => nomatch h), Nat.le_refl _, (fun e h => nomatch h), (fun e h => nomatch h)⟩⟩ ?_ ?_ ?_
    · rintro i σ H' _ ⟨_, _, _, _, _, _, _, h, _⟩
      exact SqL.of h
    · rintro i x σ H4 H5 hi ⟨y5, y6, y7, xs, es, rfl, f4, hn4, hF4, hx4, hG4, hM⟩ ⟨rfl, hx⟩
      obtain ⟨z, hz, rfl⟩ : ∃ z, names[i]? = some z ∧ x = V.str z := by
        rw [List.getElem?_map] at hx
        obtain ⟨z, h1, h2⟩ := Option.map_eq_some_iff.mp hx
        exact ⟨z, h1, h2.symm⟩
      have S : ∀ {H' H'' : Hp}, Fw a H' H'' → (NmL H' nb names ∧ H' Fa = some (.lst xs) ∧ H' G = some (.lst ((es.map En.num).map V.int)) ∧ Tds K H' xs (es.map En.pd) ∧ IsWl H' a) → (NmL H'' nb names ∧ H'' Fa = some (.lst xs) ∧ H'' G = some (.lst ((es.map En.num).map V.int)) ∧ Tds K H'' xs (es.map En.pd) ∧ IsWl H'' a) := fun f h =>
        ⟨f.1 _ _ nnb h.1, f.1 _ _ nF h.2.1, f.1 _ _ nG h.2.2.1, h.2.2.2.1.keep (fw_keepT f h.2.2.2.2), f.2⟩
      refine ⟨_, rfl, a, 99, rfl, f4.2, by decide, by decide, fun r1 H6 r10 r11 f6 => ⟨_, _, rfl, rfl, ?_⟩⟩
      have f46 := f4.trans f6
      refine ⟨_, rfl, a, 9, rfl, f46.2, by decide, by decide, fun r2 H7 r20 r21 f7 => ⟨_, _, rfl, rfl, ?_⟩⟩
      have f67 := f6.trans f7
      refine ⟨by show 3 ≤ sizeLine; decide, fun L1 hL1 => ?_⟩
      have f8 := f67.same (same_upd (o := .lst [.int (1 + r1), .int (1 + r2), .int 99]) hL1)
      refine ⟨_, rfl, a, 3, rfl, f8.2, by decide, by decide, fun i3 H9 i0 i1 f9 => ?_⟩
      have hL19 := f9.1 L1 _ (f67.2.ne hL1) upd_same
      have f9 := f8.trans f9
      obtain ⟨num, hnum, hb1, hb2⟩ := three (u := 1 + r1) (v := 1 + r2) (x := 99) (p := fun n => 1 ≤ n ∧ n ≤ 99) i0 i1 (by omega) (by omega) (by omega)
      refine ⟨L1, _, i3, _, rfl, rfl, SqL.of hL19, hnum, ?_⟩
      refine ⟨_, rfl, _, rfl, _, rfl, sort_pre (E := E0) (ev.fw (f4.trans f9)) fun v s H10 ht sok hf hdp f10 => ?_⟩
      have f10 := f9.trans f10
      have S10 := S f10 ⟨hn4, hF4, hG4, hx4, f4.2⟩
      refine ⟨_, rfl, _, rfl, G, _, rfl, .inl (SqL.of S10.2.2.1), rfl, flat_ints _, _, rfl, ?_⟩
      by_cases hin : num ∈ es.map En.num
      · rw [in_ints hin]
        exact ⟨_, _, _, xs, es, rfl, f4.trans f10, S10.1, S10.2.1, S10.2.2.2.1, S10.2.2.1, hM.skip⟩
      rw [nin_ints hin]
      refine ⟨_, rfl, .inl ⟨rfl, _, SqL.of S10.2.1⟩, _, rfl, _, rfl, _, rfl, by show 3 ≤ sizeLine; decide, fun t1 ht1 => ?_⟩
      have sT := same_upd (o := .tup [.int num, .str z, v]) ht1
      have f11 := f10.same sT
      refine ⟨_, rfl, _, rfl, a, v, s, ks, cs, rfl, f11.2, ht.keep (KeepT.same sT), sok, hf, fun t2 ys left H12 hys hyt hdf f12 => ?_⟩
      have fT := f11.trans f12
      have S12 := S fT ⟨hn4, hF4, hG4, hx4, f4.2⟩
      have hlen : xs.length ≤ 5 := by
        rw [S12.2.2.2.1.len, List.length_map]
        have := hM.le
        rw [List.length_map, hnl] at hi
        omega
      have hyl : ys.length ≤ 1 := by
        rw [hyt.len]
        cases left <;> simp
      have hzn : isNm z = true := hnm z (List.mem_of_getElem? hz)
      have eok : EnOk true ks cs es ⟨num, z, some s, left⟩ := ⟨hzn, hM.newN hnd hz, hb1, hb2, hin, (fun h => nomatch h), fun s' h => by
        cases h
        exact ⟨show num ≠ 0 by omega, sok, fun d hd => ⟨rfl, hdf d hd⟩⟩⟩
      have t1T : SqT K H12 t1 [.int num, .str z, v] := fw_keepT f12 f11.2 _ _ (SqT.of upd_same)
      have tv12 : Td K H12 v s.pd := (ht.keep (KeepT.same sT)).keep (fw_keepT f12 f11.2)
      have hE : En.pd ⟨num, z, some s, left⟩ = .tuple ([.int num, .str z, s.pd] ++ left.toList) := rfl
      have fin : ∀ (t : Addr) (H13 : Hp), Same H12 H13 → SqT K H13 t ([.int num, .str z, v] ++ ys) → H13 Fa = some (.lst xs) ∧ (upd H13 Fa (.lst (xs ++ [.ref t]))) G = some (.lst ((es.map En.num).map V.int)) ∧
          (Fw a H (upd (upd H13 Fa (.lst (xs ++ [.ref t]))) G (.lst ((es.map En.num).map V.int ++ [.int num]))) ∧ NmL (upd (upd H13 Fa (.lst (xs ++ [.ref t]))) G (.lst ((es.map En.num).map V.int ++ [.int num]))) nb names ∧ (upd (upd H13 Fa (.lst (xs ++ [.ref t]))) G (.lst ((es.map En.num).map V.int ++ [.int num]))) Fa = some (.lst (xs ++ [.ref t])) ∧
           Tds K (upd (upd H13 Fa (.lst (xs ++ [.ref t]))) G (.lst ((es.map En.num).map V.int ++ [.int num]))) (xs ++ [.ref t]) ((es ++ [(⟨num, z, some s, left⟩ : En)]).map En.pd) ∧ (upd (upd H13 Fa (.lst (xs ++ [.ref t]))) G (.lst ((es.map En.num).map V.int ++ [.int num]))) G = some (.lst (((es ++ [(⟨num, z, some s, left⟩ : En)]).map En.num).map V.int)) ∧ Met true ks cs names (i + 1) (es ++ [(⟨num, z, some s, left⟩ : En)])) := by
        intro t H13 sH hT
        have kk : KeepT K H13 (upd (upd H13 Fa (.lst (xs ++ [.ref t]))) G (.lst ((es.map En.num).map V.int ++ [.int num]))) := keep_two (sH _ _ S12.2.1) (sH _ _ S12.2.2.1) nGF
        refine ⟨sH _ _ S12.2.1, by rw [upd_ne nGF]; exact sH _ _ S12.2.2.1, fw_put (fw_put ((f4.trans fT).same sH) nF hF) nG hG0, ?_, ?_, ?_, ?_, hM.snoc hz eok (fun s' h => by cases h; exact hdp)⟩
        · unfold NmL
          rw [upd_ne nbG, upd_ne nbF]
          exact sH _ _ S12.1
        · rw [upd_ne nGF.symm, upd_same]
        · rw [List.map_append]
          refine Tds.append ((S12.2.2.2.1.keep (KeepT.same sH)).keep kk) (.cons ?_ .nil)
          rw [hE]
          refine .tup (kk _ _ hT) (Tds.append (.cons (.int _) (.cons (.str _) (.cons ((tv12.keep (KeepT.same sH)).keep kk) .nil))) ((hyt.keep (KeepT.same sH)).keep kk))
        · rw [upd_same, List.map_append, List.map_append] <;> rfl
      have hl1 : xs.length < sizeLine := Nat.lt_of_le_of_lt hlen (by decide)
      have hl2 : ((es.map En.num).map V.int).length < sizeLine := by
        rw [List.length_map, List.length_map]
        have := hM.le
        rw [List.length_map, hnl] at hi
        exact Nat.lt_of_le_of_lt (show es.length ≤ 5 by omega) (by decide)
      refine ⟨t1, t2, _, ys, rfl, rfl, t1T, hys, ?_, (fun h => nomatch h), (fun _ h0 => ?_), (fun _ h0 p hp => ?_)⟩
      · show 3 + ys.length ≤ sizeLine
        exact Nat.le_trans (Nat.add_le_add_left hyl 3) (by decide)
      · subst h0
        obtain ⟨g1, g2, g3⟩ := fin t1 H12 (Same.refl _) (by rw [List.append_nil]; exact t1T)
        exact ⟨Fa, xs, _, rfl, rfl, g1, hl1, _, rfl, .inl ⟨rfl, _, SqL.of g2⟩, _, rfl, G, _, _, rfl, rfl, g2, hl2, _, _, _, _, _, rfl, g3⟩
      · obtain ⟨g1, g2, g3⟩ := fin p _ (same_upd hp) (SqT.of upd_same)
        exact ⟨Fa, xs, _, rfl, rfl, g1, hl1, _, rfl, .inl ⟨rfl, _, SqL.of g2⟩, _, rfl, G, _, _, rfl, rfl, g2, hl2, _, _, _, _, _, rfl, g3⟩
    · rintro σ H4 ⟨y5, y6, y7, xs, es, rfl, f4, hn4, hF4, hx4, hG4, hM⟩
      refine ⟨_, rfl, q Fa xs es H4 hF hF4 hx4 hM.ok hM.dp ?_ f4⟩
      have := hM.le
      rw [List.length_map, hnl] at this
      omega
end
end K02
namespace K02
open PySem PySem.Spec PyProof.Rows L2 Tw Sb LamX
theorem idx_first {y : V} : ∀ {xs : List V}, inV y xs = true → ∃ (j : Nat) (z : V), xs[j]? = some z ∧ eqV z y = true ∧ ∀ (m : Nat) (z' : V), m < j → xs[m]? = some z' → eqV z' y = false
  | [], h => nomatch h
  | x :: xs, h => by
    cases e : eqV x y with
    | true => exact ⟨0, x, rfl, e, fun m z' hm => absurd hm (Nat.not_lt_zero m)⟩
    | false =>
      have h' : (eqV x y || inV y xs) = true := h
      rw [e, Bool.false_or] at h'
      obtain ⟨j, z, h1, h2, h3⟩ := idx_first h'
      refine ⟨j + 1, z, h1, h2, fun m z' hm hz => ?_⟩
      cases m with
      | zero =>
        cases hz
        exact e
      | succ m => exact h3 m z' (by omega) hz
theorem idx_str {k : Str} {ks : List Str} (h : k ∈ ks) : ∃ (j : Nat) (z : V), (ks.map V.str)[j]? = some z ∧ eqV z (.str k) = true ∧ (∀ (m : Nat) (z' : V), m < j → (ks.map V.str)[m]? = some z' → eqV z' (.str k) = false) ∧ ks[j]? = some k := by
  obtain ⟨j, z, h1, h2, h3⟩ := idx_first (in_strs h)
  refine ⟨j, z, h1, h2, h3, ?_⟩
  rw [List.getElem?_map] at h1
  obtain ⟨w, hw, rfl⟩ := Option.map_eq_some_iff.mp h1
  have e : (w == k) = true := h2
  rw [hw, eq_of_beq e]
theorem idx_int {k : Int} {ks : List Int} (h : k ∈ ks) : ∃ (j : Nat) (z : V), (ks.map V.int)[j]? = some z ∧ eqV z (.int k) = true ∧ (∀ (m : Nat) (z' : V), m < j → (ks.map V.int)[m]? = some z' → eqV z' (.int k) = false) ∧ ks[j]? = some k := by
  obtain ⟨j, z, h1, h2, h3⟩ := idx_first (in_ints h)
  refine ⟨j, z, h1, h2, h3, ?_⟩
  rw [List.getElem?_map] at h1
  obtain ⟨w, hw, rfl⟩ := Option.map_eq_some_iff.mp h1
  have e : (w == k) = true := h2
  rw [hw, eq_of_beq e]
theorem rowOk_nums {k : Bool} {ks cs : List Str} {es : List En} (h : RowOk k ks cs es) {i j : Nat} {e x : En} (hi : es[i]? = some e) (hj : es[j]? = some x) (hn : e.num = x.num) : i = j := by
  rcases Nat.lt_trichotomy i j with l | l | l
  · refine absurd (List.mem_map.mpr ⟨e, ?_, hn⟩) (h j x hj).newI
    exact List.mem_of_getElem? (i := i) (by rw [List.getElem?_take_of_lt l]; exact hi)
  · exact l
  · refine absurd (List.mem_map.mpr ⟨x, ?_, hn.symm⟩) (h i e hi).newI
    exact List.mem_of_getElem? (i := j) (by rw [List.getElem?_take_of_lt l]; exact hj)
/-- the least entry stands first among the sorted -/
theorem least_first {k : Bool} {ks cs : List Str} {es : List En} (h : RowOk k ks cs es) {j : Nat} {e x : En} (hj : es[j]? = some e) (hm : ∀ y ∈ es, e.num ≤ y.num) (hx : (sortEn es)[0]? = some x) : x = e := by
  have p : (sortEn es).Perm es := List.mergeSort_perm _ _
  have s : (sortEn es).Pairwise (fun a b : En => (decide (a.num ≤ b.num)) = true) := List.pairwise_mergeSort (le := fun a b : En => decide (a.num ≤ b.num)) (fun a b c h1 h2 => decide_eq_true (Int.le_trans (of_decide_eq_true h1) (of_decide_eq_true h2))) (fun a b => by simp; omega) es
  cases hs : sortEn es with
  | nil => rw [hs] at hx; cases hx
  | cons y r =>
    rw [hs] at hx s p
    cases hx
    have hx' : x ∈ es := p.mem_iff.mp List.mem_cons_self
    have he : e ∈ x :: r := p.mem_iff.mpr (List.mem_of_getElem? hj)
    have h1 := hm x hx'
    have h2 : x.num ≤ e.num := by
      rcases List.mem_cons.mp he with rfl | he
      · exact Int.le_refl _
      · exact of_decide_eq_true ((List.pairwise_cons.mp s).1 e he)
    obtain ⟨i, hi⟩ := List.mem_iff_getElem?.mp hx'
    have := rowOk_nums h hi hj (by omega)
    subst this
    rw [hj] at hi
    exact (Option.some.inj hi).symm
theorem EnOk_congr {k : Bool} {ks cs : List Str} {es es' : List En} {e : En} (h : EnOk k ks cs es e) (h1 : es'.map En.name = es.map En.name) (h2 : es'.map En.num = es.map En.num) : EnOk k ks cs es' e :=
  ⟨h.name, by rw [h1]; exact h.newN, h.lo, h.hi, by rw [h2]; exact h.newI, h.none, h.some⟩
/-- a case is made the plainest -/
theorem rowOk_set {ks cs : List Str} {es : List En} (h : RowOk false ks cs es) {j : Nat} {e : En} (hj : es[j]? = some e) (hn : e.num ≠ 0) (hl : e.left = none) : RowOk false ks cs (es.set j { e with of := some .tru }) := by
  have hjl := (List.getElem?_eq_some_iff.mp hj).1
  have m1 : (es.set j { e with of := some .tru }).map En.name = es.map En.name := by
    apply List.ext_getElem?
    intro i
    rw [List.getElem?_map, List.getElem?_map, List.getElem?_set]
    by_cases hij : j = i
    · subst hij
      rw [if_pos rfl, if_pos hjl, hj] <;> rfl
    · rw [if_neg hij]
  have m2 : (es.set j { e with of := some .tru }).map En.num = es.map En.num := by
    apply List.ext_getElem?
    intro i
    rw [List.getElem?_map, List.getElem?_map, List.getElem?_set]
    by_cases hij : j = i
    · subst hij
      rw [if_pos rfl, if_pos hjl, hj] <;> rfl
    · rw [if_neg hij]
  intro i x hx
  have t1 : ((es.set j { e with of := some .tru }).take i).map En.name = (es.take i).map En.name := by rw [List.map_take, List.map_take, m1]
  have t2 : ((es.set j { e with of := some .tru }).take i).map En.num = (es.take i).map En.num := by rw [List.map_take, List.map_take, m2]
  rw [List.getElem?_set] at hx
  by_cases hij : j = i
  · subst hij
    rw [if_pos rfl, if_pos hjl] at hx
    cases hx
    have g := h j e hj
    exact EnOk_congr (⟨g.name, g.newN, g.lo, g.hi, g.newI, (fun z => nomatch z), fun s hs => by
      cases hs
      exact ⟨hn, trivial, fun d hd => by rw [show (En.left { e with of := some .tru }) = e.left from rfl, hl] at hd; cases hd⟩⟩ : EnOk false ks cs (es.take j) { e with of := some .tru }) t1 t2
  · rw [if_neg hij] at hx
    exact EnOk_congr (h i x hx) t1 t2
theorem en_left {ks cs : List Str} {es : List En} {e : En} (h : EnOk false ks cs es e) : e.left = none := by
  cases ho : e.of with
  | none => exact (h.none ho).2
  | some s =>
    cases hl : e.left with
    | none => rfl
    | some d => exact absurd ((h.some s ho).2.2 d hl).1 (by decide)
theorem keep_one {K : PySem.W.Frag} {H : Hp} {p : Addr} {xs xs' : List V} (hp : H p = some (.lst xs)) : KeepT K H (upd H p (.lst xs')) := KeepT.but fun b o e => by
  have nb : (∀ l, o ≠ .lst l) → b ≠ p := fun n w => by
    rw [w, hp] at e
    exact n _ (Option.some.inj e).symm
  exact ⟨fun l w => by rw [upd_ne (nb fun k z => by rw [w] at z; cases z)]; exact e, fun q l w => by rw [upd_ne (nb fun k z => by rw [w] at z; cases z)]; exact e⟩
theorem tds_set {K : PySem.W.Frag} {H : Hp} {x : V} {d : PyData} : ∀ {xs : List V} {ds : List PyData} {j : Nat}, Tds K H xs ds → Td K H x d → Tds K H (xs.set j x) (ds.set j d)
  | _, _, _, .nil, _ => .nil
  | _, _, 0, .cons _ r, t => .cons t r
  | _, _, _ + 1, .cons h r, t => .cons h (tds_set r t)
theorem two {u v : Int} {i : Int} {p : Int → Prop} (i0 : 0 ≤ i) (i1 : i < 2) (h1 : p u) (h2 : p v) : ∃ n, atI [V.int u, V.int v] i = some (.int n) ∧ p n := by
  obtain rfl | rfl : i = 0 ∨ i = 1 := by omega
  · exact ⟨_, at0, h1⟩
  · exact ⟨_, at1, h2⟩
/-- what the draws make of the k-th choice: its first case leads on, if at all -/
def spCases (K : PySem.W.Frag) : Sp := fun vs H Q _ => ∃ (a b1 b2 : Addr) (ks cs : List Str) (k : Nat), vs = [.ref a, .ref b1, .ref b2, .int k] ∧ Evn H a b1 b2 ks cs ∧ k < cs.length ∧
  ∀ (F : Addr) (xs : List V) (es : List En) (H' : Hp), H F = none → H' F = some (.lst xs) → Tds K H' xs (es.map En.pd) → RowOk false ks cs es → Dep es → es.length ≤ 5 → es ≠ [] → (∀ e, (sortEn es)[0]? = some e → ∀ c, e.of = some (.cho c) → ∃ j : Nat, k < j ∧ cs[j]? = some c) → Fw a H H' → Q (.ref F) H'
section
variable {P : Program} {w : World} {K : PySem.W.Frag} {mg : Str → Option Value} {base : Heap}
theorem ok_cases {f : Addr} {fd : FuncData} (F : Fun K "_law_cases" "_law_cases" s__law_cases f fd) (T : Bu mg) (c__law_draw : Cal P w K mg base 1 "_law_draw" ["_law_well_here", "_law_many"] spDraw) (c__law_names : Cal P w K mg base 2 "_law_names" ["_law_well_here", "_law_many"] spNames2)
    (c__law_sort : Cal P w K mg base 6 "_law_sort" ["_law_well_here", "_law_nodes", "_law_some", "_law_deep"] (spMk K 3)) : FnOk P w K mg base CX0 7 f fd ["_law_well_here", "_law_nodes", "_law_some", "_law_k"] (spCases K) := by
  refine F.ok sc__law_cases (fun vs H Q E h => ?_) (fun cdv A outer s H vs Q E hr h => ?_)
  · obtain ⟨a, b1, b2, ks, cs, k, rfl, _⟩ := h
    rfl
  · obtain ⟨a, b1, b2, ks, cs, k, rfl, ev, hk, q⟩ := h
    refine ⟨_, (pss_cons (ps_set (i := 4) sc__law_cases.nd rfl (.inl rfl) (pe_lst pa_nil))
      (pss_cons (ps_set (i := 5) sc__law_cases.nd rfl (.inl rfl) (pe_lst pa_nil))
      (pss_cons (ps_for PassesOwn.never rfl (pi_list (pe_cal c__law_names hr (by decide) (by rfl) (pa_cons (pv 0) (pa_cons (pe_op op_add pe_int (pe_cal c__law_draw hr (by decide) (by rfl) (pa_cons (pv 0) (pa_cons pe_int pa_nil)))) pa_nil)))) (pg_name (i := 6) sc__law_cases.nd rfl (.inl rfl))
        (pss_cons (ps_set (i := 7) sc__law_cases.nd rfl (.inl rfl) (pe_ix (r := rIxL K) ix_list (pe_lst (pa_cons (pe_cal c__law_draw hr (by decide) (by rfl) (pa_cons (pv 0) (pa_cons pe_int pa_nil))) (pa_cons (pe_cal c__law_draw hr (by decide) (by rfl) (pa_cons (pv 0) (pa_cons pe_int pa_nil))) pa_nil))) (pe_cal c__law_draw hr (by decide) (by rfl) (pa_cons (pv 0) (pa_cons pe_int pa_nil))) (fun _ _ => rfl)))
        (pss_cons (ps_set (i := 8) sc__law_cases.nd rfl (.inl rfl) (pe_ix (r := rIxL K) ix_list (pe_lst (pa_cons pe_non (pa_cons (pe_cal c__law_sort hr (by decide) (by rfl) (pa_cons (pv 0) (pa_cons (pv 1) (pa_cons (pv 2) (pa_cons pe_int pa_nil))))) pa_nil))) (pe_cal c__law_draw hr (by decide) (by rfl) (pa_cons (pv 0) (pa_cons pe_int pa_nil))) (fun _ _ => rfl)))
        (pss_one (ps_if (pt_cmpR op_notIn_seq (pv 7) (pv 5) (by rfl))
          (pss_cons (ps_expr (pe_bm PySem.F.plainAttrs_list PySem.F.slot_list_append PySem.F.type_list_append mt_append (pv 4) (pa_cons (pe_tup (pa_cons (pv 7) (pa_cons (pv 6) (pa_cons (pe_ix (r := rIxL K) ix_list (pe_lst (pa_cons (pv 8) (pa_cons pe_non pa_nil))) (pe_callTy call_int1 (by rfl) T.n_int (by decide +kernel) (pa_cons (pe_cmpR op_eq (pv 7) pe_int (nomark _)) pa_nil)) (fun _ _ => rfl)) pa_nil)))) pa_nil)))
          (pss_one (ps_expr (pe_bm PySem.F.plainAttrs_list PySem.F.slot_list_append PySem.F.type_list_append mt_append (pv 5) (pa_cons (pv 7) pa_nil)))))
          pss_nil)))))
      (pss_cons (ps_set (i := 9) sc__law_cases.nd rfl (.inl rfl) (pe_bm PySem.F.plainAttrs_list PySem.F.slot_list_index PySem.F.type_list_index mt_index (pv 5) (pa_cons (pe_callB (cr_min rfl) (by rfl) T.n_min (by decide +kernel) (pa_cons (pv 5) pa_nil)) pa_nil)))
      (pss_cons (ps_asg (pe_ix (r := rIxL K) ix_list (pv 4) (pv 9) (fun _ _ => rfl)) (pg_tup rfl (pgs_cons (pg_name (i := 7) sc__law_cases.nd rfl (.inl rfl)) (pgs_cons (pg_name (i := 6) sc__law_cases.nd rfl (.inl rfl)) (pgs_cons (pg_name (i := 8) sc__law_cases.nd rfl (.inl rfl)) pgs_nil)))))
      (pss_cons (ps_if (PW.pt (pw_and (pt_cmpR op_notN (pv 8) pe_non (nomark _)) (pw_and (pt_cmpR op_eq (pe_ix (r := rIxT K) ix_tup (pv 8) pe_int (fun _ _ => rfl)) pe_str (nomark _)) (pw_and1 (pt_cmpR op_le (pe_bm PySem.F.plainAttrs_list PySem.F.slot_list_index PySem.F.type_list_index mt_index (pv 2) (pa_cons (pe_ix (r := rIxT K) ix_tup (pv 8) pe_int (fun _ _ => rfl)) pa_nil)) (pv 3) (nomark _))))))
        (pss_one (ps_asg (pe_tup (pa_cons (pv 7) (pa_cons (pv 6) (pa_cons (pe_tup (pa_cons pe_str pa_nil)) pa_nil)))) (pg_sub (pv 4) (pv 9) set_list)))
        pss_nil)
      (pss_one (ps_ret (pv 4))))))))), ?_⟩
    refine ⟨by show 0 ≤ sizeLine; decide, fun Fa hF => ⟨by show 0 ≤ sizeLine; decide, fun G hG => ?_⟩⟩
    have f1 := (Fw.of_same ev.wl (same_upd (o := .lst []) hF)).same (same_upd (o := .lst []) hG)
    have nF : Fa ≠ a := ev.wl.ne hF
    have nGF : G ≠ Fa := fun e => by rw [e, upd_same] at hG; cases hG
    have nG : G ≠ a := (Fw.of_same ev.wl (same_upd (o := .lst []) hF)).2.ne hG
    have hG0 := (Fw.of_same ev.wl (same_upd (o := .lst []) hF)).free ev.wl hG
    have hF1 : (upd (upd H Fa (.lst [])) G (.lst [])) Fa = some (.lst []) := (same_upd hG) _ _ upd_same
    have hG1 : (upd (upd H Fa (.lst [])) G (.lst [])) G = some (.lst []) := upd_same
    generalize upd (upd H Fa (.lst [])) G (.lst []) = H1 at f1 hF1 hG1 ⊢
    refine ⟨_, rfl, _, rfl, a, 5, rfl, f1.2, by decide, by decide, fun r H2 r0 r1 f2 => ⟨_, _, rfl, rfl, ?_⟩⟩
    have hF2 := f2.1 _ _ nF hF1
    have hG2 := f2.1 _ _ nG hG1
    have f2 := f1.trans f2
    obtain ⟨R, rfl⟩ : ∃ R : Nat, r = (R : Int) := ⟨r.toNat, by omega⟩
    refine ⟨a, 1 + R, ?_, f2.2, by omega, fun nb names H3 hnb nnb hn hnl hnd hnm f3 => ?_⟩
    · show [V.ref a, V.int (1 + (R : Int))] = _
      rw [show (1 + (R : Int)) = ((1 + R : Nat) : Int) by omega]
    have hF3 := f3.1 _ _ nF hF2
    have hG3 := f3.1 _ _ nG hG2
    have hnb0 := f2.free ev.wl hnb
    have nbF : nb ≠ Fa := fun e => by rw [e, hF2] at hnb; cases hnb
    have nbG : nb ≠ G := fun e => by rw [e, hG2] at hnb; cases hnb
    have f3 := f2.trans f3
    refine ⟨nb, rfl, ⟨_, SqL.of hn⟩, ?_⟩
    refine for_it (walk_list (K := K) (a := nb) (xs := names.map V.str)) (fun i σ H' => ∃ (y6 y7 y8 : Option V) (xs : List V) (es : List En), σ = [some (.ref a), some (.ref b1), some (.ref b2), some (.int k), some (.ref Fa), some (.ref G), y6, y7, y8, none] ∧ Fw a H H' ∧ NmL H' nb names ∧ H' Fa = some (.lst xs) ∧ Tds K H' xs (es.map En.pd) ∧ H' G = some (.lst ((es.map En.num).map V.int)) ∧ Met false ks cs names i es ∧ (0 < i → es ≠ [])) ⟨none, none, none, [], [], rfl, f3, hn, hF3, .nil, hG3, ⟨(fun i e h => nomatch h), Nat.le_refl _, (fun e h => nomatch h), (fun e h => nomatch h)⟩, fun h => absurd h (Nat.lt_irrefl 0)⟩ ?_ ?_ ?_
    · rintro i σ H' _ ⟨_, _, _, _, _, _, _, h, _⟩
      exact SqL.of h
    · rintro i x σ H4 H5 hi ⟨y6, y7, y8, xs, es, rfl, f4, hn4, hF4, hx4, hG4, hM, _⟩ ⟨rfl, hx⟩
      obtain ⟨z, hz, rfl⟩ : ∃ z, names[i]? = some z ∧ x = V.str z := by
        rw [List.getElem?_map] at hx
        obtain ⟨z, h1, h2⟩ := Option.map_eq_some_iff.mp hx
        exact ⟨z, h1, h2.symm⟩
      have S : ∀ {H' H'' : Hp}, Fw a H' H'' → (NmL H' nb names ∧ H' Fa = some (.lst xs) ∧ H' G = some (.lst ((es.map En.num).map V.int)) ∧ Tds K H' xs (es.map En.pd) ∧ IsWl H' a) → (NmL H'' nb names ∧ H'' Fa = some (.lst xs) ∧ H'' G = some (.lst ((es.map En.num).map V.int)) ∧ Tds K H'' xs (es.map En.pd) ∧ IsWl H'' a) := fun f h =>
        ⟨f.1 _ _ nnb h.1, f.1 _ _ nF h.2.1, f.1 _ _ nG h.2.2.1, h.2.2.2.1.keep (fw_keepT f h.2.2.2.2), f.2⟩
      refine ⟨_, rfl, a, 100, rfl, f4.2, by decide, by decide, fun r1 H6 r10 r11 f6 => ?_⟩
      have f46 := f4.trans f6
      refine ⟨_, rfl, a, 5, rfl, f46.2, by decide, by decide, fun r2 H7 r20 r21 f7 => ?_⟩
      have f67 := f6.trans f7
      refine ⟨by show 2 ≤ sizeLine; decide, fun L1 hL1 => ?_⟩
      have f8 := f67.same (same_upd (o := .lst [.int r1, .int r2]) hL1)
      refine ⟨_, rfl, a, 2, rfl, f8.2, by decide, by decide, fun i3 H9 i0 i1 f9 => ?_⟩
      have hL19 := f9.1 L1 _ (f67.2.ne hL1) upd_same
      have f9 := f8.trans f9
      obtain ⟨num, hnum, hb1, hb2⟩ := two (u := r1) (v := r2) (p := fun n => 0 ≤ n ∧ n ≤ 99) i0 i1 (by omega) (by omega)
      refine ⟨L1, _, i3, _, rfl, rfl, SqL.of hL19, hnum, ?_⟩
      refine ⟨_, rfl, _, rfl, _, rfl, sort_pre (E := E0) (ev.fw (f4.trans f9)) fun v s H10 ht sok hf hdp f10 => ?_⟩
      have f10 := f9.trans f10
      refine ⟨by show 2 ≤ sizeLine; decide, fun L2 hL2 => ?_⟩
      have f11 := f10.same (same_upd (o := .lst [.non, v]) hL2)
      refine ⟨_, rfl, a, 2, rfl, f11.2, by decide, by decide, fun i4 H12 i0' i1' f12 => ?_⟩
      have hL212 := f12.1 L2 _ (f10.2.ne hL2) upd_same
      have kv : KeepT K H10 H12 := (KeepT.same (same_upd hL2)).trans (fw_keepT f12 f11.2)
      have f12 := f11.trans f12
      obtain ⟨u, o, hu, ho⟩ : ∃ (u : V) (o : Option So), atI [V.non, v] i4 = some u ∧ ((u = .non ∧ o = none) ∨ (u = v ∧ o = some s)) := by
        obtain rfl | rfl : i4 = 0 ∨ i4 = 1 := by omega
        · exact ⟨_, none, at0, .inl ⟨rfl, rfl⟩⟩
        · exact ⟨_, some s, at1, .inr ⟨rfl, rfl⟩⟩
      refine ⟨L2, _, i4, _, rfl, rfl, SqL.of hL212, hu, ?_⟩
      have S12 := S f12 ⟨hn4, hF4, hG4, hx4, f4.2⟩
      refine ⟨_, rfl, _, rfl, G, _, rfl, .inl (SqL.of S12.2.2.1), rfl, flat_ints _, _, rfl, ?_⟩
      by_cases hin : num ∈ es.map En.num
      · rw [in_ints hin]
        exact ⟨_, _, _, xs, es, rfl, f4.trans f12, S12.1, S12.2.1, S12.2.2.2.1, S12.2.2.1, hM.skip, fun _ e => by rw [e] at hin; cases hin⟩
      rw [nin_ints hin]
      refine ⟨_, rfl, .inl ⟨rfl, _, SqL.of S12.2.1⟩, _, rfl, _, rfl, _, rfl, by show 2 ≤ sizeLine; decide, fun L3 hL3 => ?_⟩
      have s13 := same_upd (o := .lst [u, .non]) hL3
      obtain ⟨u2, o2, hu2, ho2⟩ : ∃ (u2 : V) (o2 : Option So), atI [u, V.non] (if decide (V.int num = V.int 0) = true then 1 else 0) = some u2 ∧ ((u2 = .non ∧ o2 = none) ∨ (u2 = v ∧ o2 = some s ∧ num ≠ 0)) := by
        by_cases h0 : num = 0
        · rw [decide_eq_true (show V.int num = V.int 0 by rw [h0])]
          exact ⟨.non, none, at1, .inl ⟨rfl, rfl⟩⟩
        · rw [decide_eq_false (ine h0)]
          refine ⟨u, o, at0, ?_⟩
          rcases ho with h | h
          · exact .inl h
          · exact .inr ⟨h.1, h.2, h0⟩
      refine ⟨_, rfl, rfl, .inr ⟨_, rfl, L3, _, _, _, rfl, rfl, SqL.of upd_same, hu2, ?_⟩⟩
      refine ⟨by show 3 ≤ sizeLine; decide, fun t1 ht1 => ?_⟩
      have sT := s13.trans (same_upd (o := .tup [.int num, .str z, u2]) ht1)
      have hF14 := sT _ _ S12.2.1
      have hG14 := sT _ _ S12.2.2.1
      have ht14 : (upd (upd H12 L3 (.lst [u, .non])) t1 (.tup [.int num, .str z, u2])) t1 = some (.tup [.int num, .str z, u2]) := upd_same
      have hx14 := S12.2.2.2.1.keep (KeepT.same sT)
      have tv14 : Td K _ u2 (o2.elim .none So.pd) := show Td K (upd (upd H12 L3 (.lst [u, .non])) t1 (.tup [.int num, .str z, u2])) u2 (o2.elim .none So.pd) from by
        rcases ho2 with ⟨rfl, rfl⟩ | ⟨rfl, rfl, _⟩
        · exact .non
        · exact (ht.keep kv).keep (KeepT.same sT)
      have f14 := (f4.trans f12).same sT
      have hn14 := NmL.same S12.1 sT
      generalize upd (upd H12 L3 (.lst [u, .non])) t1 (.tup [.int num, .str z, u2]) = H14 at hF14 hG14 ht14 hx14 tv14 f14 hn14 ⊢
      have hlen : es.length ≤ 5 := by
        have := hM.le
        rw [List.length_map, hnl] at hi
        omega
      have hzn : isNm z = true := hnm z (List.mem_of_getElem? hz)
      have eok : EnOk false ks cs es ⟨num, z, o2, none⟩ := ⟨hzn, hM.newN hnd hz, hb1, hb2, hin, (fun _ => ⟨rfl, rfl⟩), fun s' h => by
        rcases ho2 with ⟨rfl, rfl⟩ | ⟨rfl, rfl, h0⟩
        · cases h
        · cases h
          exact ⟨h0, sok, fun d hd => nomatch hd⟩⟩
      have kk : KeepT K H14 (upd (upd H14 Fa (.lst (xs ++ [.ref t1]))) G (.lst ((es.map En.num).map V.int ++ [.int num]))) := keep_two hF14 hG14 nGF
      have hG15 : (upd H14 Fa (.lst (xs ++ [.ref t1]))) G = some (.lst ((es.map En.num).map V.int)) := by
        rw [upd_ne nGF]
        exact hG14
      refine ⟨Fa, xs, _, rfl, rfl, hF14, ?_, _, rfl, .inl ⟨rfl, _, SqL.of hG15⟩, _, rfl, G, _, _, rfl, rfl, hG15, ?_, _, _, _, xs ++ [.ref t1], es ++ [⟨num, z, o2, none⟩], rfl, fw_put (fw_put f14 nF hF) nG hG0, ?_, ?_, ?_, ?_, hM.snoc hz eok (fun s' h => by
        rcases ho2 with ⟨rfl, rfl⟩ | ⟨rfl, rfl, _⟩
        · cases h
        · cases h
          exact hdp), fun _ => by simp⟩
      · rw [hx14.len, List.length_map]
        exact Nat.lt_of_le_of_lt hlen (by decide)
      · rw [List.length_map, List.length_map]
        exact Nat.lt_of_le_of_lt hlen (by decide)
      · unfold NmL
        rw [upd_ne nbG, upd_ne nbF]
        exact hn14
      · rw [upd_ne nGF.symm, upd_same]
      · rw [List.map_append]
        refine Tds.append (hx14.keep kk) (.cons ?_ .nil)
        exact .tup (kk _ _ (SqT.of ht14)) (.cons (.int _) (.cons (.str _) (.cons (tv14.keep kk) .nil)))
      · rw [upd_same, List.map_append, List.map_append] <;> rfl
    · rintro σ H4 ⟨y6, y7, y8, xs, es, rfl, f4, hn4, hF4, hx4, hG4, hM, hne⟩
      have hne : es ≠ [] := hne (by rw [List.length_map, hnl]; omega)
      have hlen : es.length ≤ 5 := by
        have := hM.le
        rw [List.length_map, hnl] at this
        omega
      have ev4 := ev.fw f4
      refine ⟨_, rfl, .inl ⟨rfl, _, SqL.of hG4⟩, _, rfl, G, es.map En.num, rfl, SqL.of hG4, ?_, fun m hm hmin => ?_⟩
      · rw [List.length_map]
        exact List.length_pos_iff.mpr hne
      obtain ⟨j, zv, g1, g2, g3, g4⟩ := idx_int hm
      refine ⟨G, _, .int m, j, zv, rfl, rfl, SqL.of hG4, rfl, flat_ints _, g1, g2, g3, ?_⟩
      rw [List.getElem?_map] at g4
      obtain ⟨e, he, rfl⟩ := Option.map_eq_some_iff.mp g4
      have hleast : ∀ y ∈ es, e.num ≤ y.num := fun y hy => hmin _ (List.mem_map.mpr ⟨y, hy, rfl⟩)
      have eok := hM.ok j e he
      have eleft := en_left eok
      obtain ⟨x, hxj, htx⟩ : ∃ x, xs[j]? = some x ∧ Td K H4 x e.pd := by
        have hj : j < xs.length := by
          rw [hx4.len, List.length_map]
          exact (List.getElem?_eq_some_iff.mp he).1
        obtain ⟨d, hd, ht⟩ := hx4.at_ (List.getElem?_eq_getElem hj)
        rw [List.getElem?_map, he] at hd
        cases hd
        exact ⟨_, List.getElem?_eq_getElem hj, ht⟩
      obtain ⟨p, xs3, rfl, hp3, hxs3⟩ := Td.row (show Td K H4 x (.tuple ([.int e.num, .str e.name, e.of.elim .none So.pd] ++ e.left.toList)) from htx)
      rw [eleft] at hxs3
      obtain ⟨u, rfl, hu⟩ : ∃ u, xs3 = [.int e.num, .str e.name, u] ∧ Td K H4 u (e.of.elim .none So.pd) := by
        cases hxs3 with
        | cons t1 t2 =>
          cases t2 with
          | cons t3 t4 =>
            cases t4 with
            | cons t5 t6 =>
              cases t6
              rw [t1.toInt, t3.toStr]
              exact ⟨_, rfl, t5⟩
      refine ⟨_, rfl, _, rfl, Fa, xs, _, _, rfl, rfl, SqL.of hF4, atI_nat hxj, p, _, rfl, hp3, rfl, _, _, rfl, _, _, rfl, _, _, rfl, rfl, ?_⟩
      have same_ : (∀ c, e.of = some (.cho c) → ∃ j : Nat, k < j ∧ cs[j]? = some c) → ∀ H', Fw a H4 H' → Q (.ref Fa) H' := fun hc H' f => q Fa xs es H' hF (f.1 _ _ nF hF4) (hx4.keep (fw_keepT f f4.2)) hM.ok hM.dp hlen hne (fun x hx => by
        rw [least_first hM.ok he hleast hx]
        exact hc) (f4.trans f)
      refine ⟨_, rfl, rfl, _, rfl, ?_⟩
      cases ho : e.of with
      | none =>
        rw [ho] at hu
        obtain rfl := hu.toNone
        exact ⟨_, rfl, same_ (fun c h => by rw [ho] at h; cases h) H4 (Fw.refl f4.2)⟩
      | some s =>
        rw [ho] at hu
        obtain ⟨pz, zs, rfl, hz, hzs⟩ := td_word (show Td K H4 u s.pd from hu)
        refine iteNN (fun z => nomatch z) ?_
        refine ⟨_, rfl, pz, _, 0, .str s.word, rfl, rfl, hz, at0, rfl, _, rfl, ?_⟩
        by_cases hw : s.word = "choice"
        · obtain ⟨c, rfl⟩ : ∃ c, s = .cho c := by
            cases s with
            | cho c => exact ⟨c, rfl⟩
            | num lo hi => exact absurd hw (show ("number" : Str) ≠ "choice" by decide +kernel)
            | tru => exact absurd hw (show ("truth" : Str) ≠ "choice" by decide +kernel)
            | txt n => exact absurd hw (show ("text" : Str) ≠ "choice" by decide +kernel)
            | row n s => exact absurd hw (show ("row" : Str) ≠ "choice" by decide +kernel)
            | may s => exact absurd hw (show ("maybe" : Str) ≠ "choice" by decide +kernel)
            | nod k => exact absurd hw (show ("node" : Str) ≠ "choice" by decide +kernel)
          obtain rfl : zs = [.str c] := by
            cases hzs with
            | cons t1 t2 =>
              cases t2
              rw [t1.toStr]
          refine iteY rfl ?_
          obtain ⟨hn0, hsok, _⟩ := eok.some _ ho
          have hcm : c ∈ cs := hsok.2
          obtain ⟨i0, zv2, q1, q2, q3, q4⟩ := idx_str hcm
          refine ⟨_, rfl, .inl ⟨rfl, _, SqL.of ev4.k2⟩, _, rfl, pz, _, 1, .str c, rfl, rfl, hz, at1, b2, _, .str c, i0, zv2, rfl, rfl, SqL.of ev4.k2, rfl, flat_strs _, q1, q2, q3, ?_⟩
          refine ⟨_, rfl, _, _, rfl, rfl, _, rfl, iteB (fun g => ?_) (fun g => ?_)⟩
          · refine ⟨_, rfl, _, rfl, by show 1 ≤ sizeLine; decide, fun t2 ht2 => ⟨by show 3 ≤ sizeLine; decide, fun t3 ht3 => ?_⟩⟩
            have sT := (same_upd (o := .tup [.str "truth"]) ht2).trans (same_upd (o := .tup [.int e.num, .str e.name, .ref t2]) ht3)
            have h2 : (upd (upd H4 t2 (.tup [.str "truth"])) t3 (.tup [.int e.num, .str e.name, .ref t2])) t2 = some (.tup [.str "truth"]) := (same_upd ht3) _ _ upd_same
            have h3 : (upd (upd H4 t2 (.tup [.str "truth"])) t3 (.tup [.int e.num, .str e.name, .ref t2])) t3 = some (.tup [.int e.num, .str e.name, .ref t2]) := upd_same
            have hF5 := sT _ _ hF4
            have hx5 := hx4.keep (KeepT.same sT)
            have f5 := f4.same sT
            generalize upd (upd H4 t2 (.tup [.str "truth"])) t3 (.tup [.int e.num, .str e.name, .ref t2]) = H5 at h2 h3 hF5 hx5 f5 ⊢
            refine ⟨_, rfl, _, rfl, Fa, xs, j, j, rfl, rfl, hF5, ?_, ?_⟩
            · have hj := (List.getElem?_eq_some_iff.mp hxj).1
              unfold ixN
              rw [if_pos (by omega), if_pos (by omega)] <;> rfl
            · have kk : KeepT K H5 (upd H5 Fa (.lst (xs.set j (.ref t3)))) := keep_one hF5
              refine ⟨_, rfl, q Fa (xs.set j (.ref t3)) (es.set j { e with of := some .tru }) _ hF upd_same ?_ (rowOk_set hM.ok he hn0 eleft) (fun y hy s hs => by
                rcases List.mem_or_eq_of_mem_set hy with h | rfl
                · exact hM.dp y h s hs
                · cases hs
                  exact Nat.zero_le _) (by rw [List.length_set]; exact hlen) (fun h => hne (by simpa using h)) (fun x hx c hc => ?_) (fw_put f5 nF hF)⟩
              · rw [List.map_set]
                refine tds_set (hx5.keep kk) ?_
                rw [show En.pd { e with of := some .tru } = .tuple ([.int e.num, .str e.name, So.tru.pd] ++ e.left.toList) from rfl, eleft]
                exact .tup (kk _ _ (SqT.of h3)) (.cons (.int _) (.cons (.str _) (.cons (.tup (kk _ _ (SqT.of h2)) (.cons (.str _) .nil)) .nil)))
              · have hj' : (es.set j { e with of := some .tru })[j]? = some { e with of := some .tru } := by
                  rw [List.getElem?_set, if_pos rfl, if_pos (List.getElem?_eq_some_iff.mp he).1]
                rw [least_first (rowOk_set hM.ok he hn0 eleft) hj' (fun y hy => ?_) hx] at hc
                · cases hc
                · rcases List.mem_or_eq_of_mem_set hy with h | rfl
                  · exact hleast y h
                  · exact Int.le_refl _
          · exact ⟨_, rfl, same_ (fun c' h => by
              rw [ho] at h
              cases h
              exact ⟨i0, by have := of_decide_eq_false g; omega, q4⟩) H4 (Fw.refl f4.2)⟩
        · rw [decide_eq_false (sne hw)]
          exact ⟨_, rfl, same_ (fun c h => by rw [ho] at h; cases h; exact absurd rfl hw) H4 (Fw.refl f4.2)⟩
end
end K02
namespace K02
open PySem PySem.Spec PyProof.Rows L2 Tw Sb LamX
/-- a row of a list of its own, out of N -/
def RowL (K : PySem.W.Frag) (N : Addr → Prop) (H : Hp) (kv : Key × V) (r : TRow) : Prop := kv.1 = .inr r.1 ∧ ∃ (b : Addr) (xs : List V), kv.2 = .ref b ∧ N b ∧ H b = some (.lst xs) ∧ Tds K H xs (r.2.map En.pd)
theorem RowL.keep {K : PySem.W.Frag} {N N' : Addr → Prop} {H H' : Hp} (n : ∀ b xs, N b → H b = some (.lst xs) → N' b ∧ H' b = some (.lst xs)) (k : KeepT K H H') {kv : Key × V} {r : TRow} (h : RowL K N H kv r) : RowL K N' H' kv r := by
  obtain ⟨h1, b, xs, h2, h3, h4, h5⟩ := h
  obtain ⟨g1, g2⟩ := n b xs h3 h4
  exact ⟨h1, b, xs, h2, g1, g2, h5.keep k⟩
theorem RowL.is {K : PySem.W.Frag} {N : Addr → Prop} {H : Hp} {kv : Key × V} {r : TRow} (h : RowL K N H kv r) : RowIs K H kv r := by
  obtain ⟨h1, b, xs, h2, h3, h4, h5⟩ := h
  exact ⟨h1, b, xs, h2, .inl (SqL.of h4), h5⟩
theorem rowL_keys {K : PySem.W.Frag} {N : Addr → Prop} {H : Hp} {kvs : List (Key × V)} {tb : List TRow} (h : Paired (RowL K N H) kvs tb) : kvs.map Prod.fst = (tb.map Prod.fst).map Sum.inr := rows_keys (pd_mono (fun _ _ h => RowL.is h) h)
theorem mergeK_new : ∀ {kvs acc : List (Key × V)}, ((acc ++ kvs).map Prod.fst).Nodup → mergeK acc kvs = acc ++ kvs
  | [], acc, _ => (List.append_nil acc).symm
  | (k, v) :: r, acc, h => by
    have e1 : putK acc k v = acc ++ [(k, v)] := by
      refine Tw.putK_new fun hk => ?_
      rw [List.map_append, List.nodup_append] at h
      exact h.2.2 k hk k (by simp) rfl
    show mergeK (putK acc k v) r = _
    rw [e1, mergeK_new (by rw [List.append_assoc]; exact h), List.append_assoc]
    rfl
theorem mergeK_keys {kvs : List (Key × V)} {ks : List Str} (h : kvs.map Prod.fst = ks.map Sum.inr) (nd : ks.Nodup) : mergeK [] kvs = kvs := by
  refine (mergeK_new (acc := []) ?_).trans (List.nil_append _)
  rw [List.nil_append, h]
  exact List.pairwise_map.mpr (nd.imp fun n e => n (Sum.inr.inj e))
/-- a list of pairs under way: names and rows -/
structure Tab (K : PySem.W.Frag) (H0 : Hp) (a D : Addr) (G : Nat → List En → Prop) (names : List Str) (j : Nat) (H : Hp) (ps : List Addr) (kvs : List (Key × V)) (tb : List TRow) : Prop where
  fw : Fw a H0 H
  hD : H D = some (.lst (ps.map V.ref))
  pr : Paired (fun p kv => SqT K H p [kV kv.1, kv.2]) ps kvs
  rw : Paired (RowL K (fun b => H0 b = none ∧ b ≠ D) H) kvs tb
  nm : tb.map Prod.fst = names.take j
  ok : ∀ i r, tb[i]? = some r → G i r.2
theorem Tab.step {K : PySem.W.Frag} {H0 H H2 : Hp} {a D F p : Addr} {G : Nat → List En → Prop} {names : List Str} {j : Nat} {ps : List Addr} {kvs : List (Key × V)} {tb : List TRow} {xs : List V} {es : List En} {z : Str} (t : Tab K H0 a D G names j H ps kvs tb) (w : IsWl H0 a) (hD0 : H0 D = none) (hj : j < names.length)
    (f : Fw a H H2) (hz : names[j]? = some z) (hF : H F = none) (hF2 : H2 F = some (.lst xs)) (hx : Tds K H2 xs (es.map En.pd)) (hp : H2 p = none) (g : G j es) :
    H2 D = some (.lst (ps.map V.ref)) ∧ Tab K H0 a D G names (j + 1) (upd (upd H2 p (.tup [.str z, .ref F])) D (.lst (ps.map V.ref ++ [.ref p]))) (ps ++ [p]) (kvs ++ [(.inr z, .ref F)]) (tb ++ [(z, es)]) := by
  have nD : D ≠ a := w.ne hD0
  have hD2 := f.1 _ _ nD t.hD
  have np : p ≠ D := fun e => by rw [e, hD2] at hp; cases hp
  have nF : F ≠ D := fun e => by rw [e, t.hD] at hF; cases hF
  have hp0 : H0 p = none := (t.fw.trans f).free w hp
  have hF0 : H0 F = none := t.fw.free w hF
  have hD3 : (upd H2 p (.tup [.str z, .ref F])) D = some (.lst (ps.map V.ref)) := by rw [upd_ne np.symm]; exact hD2
  have k12 : KeepT K H H2 := fw_keepT f t.fw.2
  have k24 : KeepT K H2 (upd (upd H2 p (.tup [.str z, .ref F])) D (.lst (ps.map V.ref ++ [.ref p]))) := (KeepT.same (same_upd hp)).trans (keep_one hD3)
  have k14 := k12.trans k24
  have lt : tb.length = j := by
    have := congrArg List.length t.nm
    rw [List.length_map, List.length_take] at this
    omega
  refine ⟨hD2, fw_put (((t.fw.trans f).same (same_upd hp))) nD hD0, ?_, ?_, ?_, ?_, ?_⟩
  · rw [upd_same, List.map_append] <;> rfl
  · refine Paired.snoc (pd_mono (fun _ _ h => k14 _ _ h) t.pr) ?_
    exact SqT.of (by rw [upd_ne np, upd_same] <;> rfl)
  · refine Paired.snoc (pd_mono (fun _ _ h => RowL.keep (fun b xs hn hb => ⟨hn, ?_⟩) k14 h) t.rw) ⟨rfl, F, xs, rfl, ⟨hF0, nF⟩, ?_, hx.keep k24⟩
    · rw [upd_ne hn.2, upd_ne (fun e => by
        have h2 := f.1 b _ (fun q => by
          obtain ⟨_, _, _, h⟩ := w
          rw [← q, hn.1] at h
          cases h) hb
        rw [e, hp] at h2
        cases h2)]
      exact f.1 b _ (fun q => by
          obtain ⟨_, _, _, h⟩ := w
          rw [← q, hn.1] at h
          cases h) hb
    · rw [upd_ne nF, upd_ne (fun e => by rw [e, hp] at hF2; cases hF2)]
      exact hF2
  · rw [List.map_append, t.nm, List.take_add_one, hz] <;> rfl
  · intro i r hr
    by_cases hi : i < tb.length
    · rw [List.getElem?_append_left hi] at hr
      exact t.ok i r hr
    · rw [List.getElem?_append_right (by omega)] at hr
      have e0 : i - tb.length = 0 := by
        have := (List.getElem?_eq_some_iff.mp hr).1
        simp at this
        omega
      rw [e0] at hr
      cases hr
      rw [show i = j by omega]
      exact g
theorem Tab.len {K : PySem.W.Frag} {H0 H : Hp} {a D : Addr} {G : Nat → List En → Prop} {names : List Str} {j : Nat} {ps : List Addr} {kvs : List (Key × V)} {tb : List TRow} (t : Tab K H0 a D G names j H ps kvs tb) (hj : j ≤ names.length) : ps.length = j := by
  have e1 := t.pr.length
  have e2 := t.rw.length
  have e3 := congrArg List.length t.nm
  rw [List.length_map, List.length_take] at e3
  omega
/-- what was made of the draws, at p: the two tables and the root -/
def PartsAt (K : PySem.W.Frag) (N : Addr → Prop) (H : Hp) (p : Addr) (tb1 tb2 : List TRow) (s : So) : Prop := ∃ (d1 d2 : Addr) (rv : V) (kv1 kv2 : List (Key × V)), SqT K H p [.ref d1, .ref d2, rv] ∧ N d1 ∧ N d2 ∧ H d1 = some (.dK kv1) ∧ H d2 = some (.dK kv2) ∧ Paired (RowL K N H) kv1 tb1 ∧ Paired (RowL K N H) kv2 tb2 ∧ Td K H rv s.pd
def spParts (K : PySem.W.Frag) : Sp := fun vs H Q _ => ∃ (a : Addr), vs = [.ref a] ∧ IsWl H a ∧ ∀ (p : Addr) (tb1 tb2 : List TRow) (s : So) (H' : Hp), PartsAt K (fun b => H b = none) H' p tb1 tb2 s → ScOk tb1 tb2 s → s.depth ≤ 2 → (∀ r ∈ tb1, r.2.length ≤ 5 ∧ Dep r.2) → (∀ r ∈ tb2, r.2.length ≤ 5 ∧ Dep r.2) → tb1.length ≤ 5 → tb2.length ≤ 5 → Fw a H H' → Q (.ref p) H'
theorem idx_nodup {ks : List Str} (nd : ks.Nodup) {i : Nat} {k : Str} (h : ks[i]? = some k) : ks.idxOf k = i := by
  have hm := List.mem_of_getElem? h
  have h1 : ks[ks.idxOf k]? = some k := by rw [List.getElem?_eq_getElem (List.idxOf_lt_length_of_mem hm), List.getElem_idxOf]
  exact (List.getElem?_inj (List.idxOf_lt_length_of_mem hm) nd).mp (h1.trans h.symm)
section
variable {P : Program} {w : World} {K : PySem.W.Frag} {mg : Str → Option Value} {base : Heap}
theorem ok_parts {f : Addr} {fd : FuncData} (F : Fun K "_law_parts" "_law_parts" s__law_parts f fd) (T : Bu mg) (c__law_draw : Cal P w K mg base 1 "_law_draw" ["_law_well_here", "_law_many"] spDraw) (c__law_names : Cal P w K mg base 2 "_law_names" ["_law_well_here", "_law_many"] spNames2)
    (c__law_sort : Cal P w K mg base 6 "_law_sort" ["_law_well_here", "_law_nodes", "_law_some", "_law_deep"] (spMk K 3)) (c__law_fields : Cal P w K mg base 7 "_law_fields" ["_law_well_here", "_law_nodes", "_law_some"] (spFields K)) (c__law_cases : Cal P w K mg base 7 "_law_cases" ["_law_well_here", "_law_nodes", "_law_some", "_law_k"] (spCases K)) :
    FnOk P w K mg base CX0 8 f fd ["_law_well_here"] (spParts K) := by
  refine F.ok sc__law_parts (fun vs H Q E h => ?_) (fun cdv A outer s H vs Q E hr h => ?_)
  · obtain ⟨a, rfl, _⟩ := h
    rfl
  · obtain ⟨a, rfl, hw, q⟩ := h
    refine ⟨_, (pss_cons (ps_set (i := 1) sc__law_parts.nd rfl (.inr rfl) (pe_cal c__law_names hr (by decide) (by rfl) (pa_cons (pv 0) (pa_cons (pe_cal c__law_draw hr (by decide) (by rfl) (pa_cons (pv 0) (pa_cons pe_int pa_nil))) pa_nil))))
      (pss_cons (ps_set (i := 2) sc__law_parts.nd rfl (.inr rfl) (pe_cal c__law_names hr (by decide) (by rfl) (pa_cons (pv 0) (pa_cons (pe_cal c__law_draw hr (by decide) (by rfl) (pa_cons (pv 0) (pa_cons pe_int pa_nil))) pa_nil))))
      (pss_cons (ps_set (i := 3) sc__law_parts.nd rfl (.inl rfl) (pe_callTy (call_dictP rfl) (by rfl) T.n_dict (by decide +kernel) (pa_cons (pe_lc (own := [("_law_name", 5)]) rfl sc__law_parts.nd (pi_list (pv 1)) (blkOk_by (N := N__law_parts) (sc := defScope s__law_parts) (by decide +kernel)) (fun _ _ _ _ _ => (pg_name (i := 5) sc__law_parts.nd rfl (.inl rfl))) (fun _ _ _ _ _ => pts_nil) (fun _ _ _ _ _ => (pe_tup (pa_cons (pv 5) (pa_cons (pe_cal c__law_fields hr (by decide) (by rfl) (pa_cons (pv 0) (pa_cons (pv 1) (pa_cons (pv 2) pa_nil)))) pa_nil))))) pa_nil)))
      (pss_cons (ps_set (i := 4) sc__law_parts.nd rfl (.inl rfl) (pe_callTy (call_dictP rfl) (by rfl) T.n_dict (by decide +kernel) (pa_cons (pe_lc (own := [("_law_k", 6)]) rfl sc__law_parts.nd (pi_range1 rfl T.n_range (pa_cons (pe_callB call_len_seq (by rfl) T.n_len (by decide +kernel) (pa_cons (pv 2) pa_nil)) pa_nil)) (blkOk_by (N := N__law_parts) (sc := defScope s__law_parts) (by decide +kernel)) (fun _ _ _ _ _ => (pg_name (i := 6) sc__law_parts.nd rfl (.inl rfl))) (fun _ _ _ _ _ => pts_nil) (fun _ _ _ _ _ => (pe_tup (pa_cons (pe_ix (r := rIxL K) ix_list (pv 2) (pv 6) (fun _ _ => rfl)) (pa_cons (pe_cal c__law_cases hr (by decide) (by rfl) (pa_cons (pv 0) (pa_cons (pv 1) (pa_cons (pv 2) (pa_cons (pv 6) pa_nil))))) pa_nil))))) pa_nil)))
      (pss_one (ps_ret (pe_tup (pa_cons (pv 3) (pa_cons (pv 4) (pa_cons (pe_cal c__law_sort hr (by decide) (by rfl) (pa_cons (pv 0) (pa_cons (pv 1) (pa_cons (pv 2) (pa_cons pe_int pa_nil))))) pa_nil)))))))))), ?_⟩
    refine ⟨_, rfl, _, rfl, a, 6, rfl, hw, by decide, by decide, fun r1 H1 r10 r11 f1 => ?_⟩
    obtain ⟨R1, rfl⟩ : ∃ R : Nat, r1 = (R : Int) := ⟨r1.toNat, by omega⟩
    refine ⟨a, R1, rfl, f1.2, by omega, fun b1 ks H2 hb1 nb1 hk1 hl1 nd1 nm1 f2 => ?_⟩
    have f2 := f1.trans f2
    refine ⟨_, rfl, _, rfl, a, 4, rfl, f2.2, by decide, by decide, fun r2 H3 r20 r21 f3 => ?_⟩
    obtain ⟨R2, rfl⟩ : ∃ R : Nat, r2 = (R : Int) := ⟨r2.toNat, by omega⟩
    have hk13 := f3.1 _ _ nb1 hk1
    have f3 := f2.trans f3
    refine ⟨a, R2, rfl, f3.2, by omega, fun b2 cs H4 hb2 nb2 hk2 hl2 nd2 nm2 f4 => ?_⟩
    have hk14 := f4.1 _ _ nb1 hk13
    have f4 := f3.trans f4
    have ev : Evn H4 a b1 b2 ks cs := ⟨f4.2, hk14, hk2, nm1, nm2, nb1, nb2, by omega, by omega⟩
    refine ⟨_, rfl, b1, rfl, ⟨_, SqL.of hk14⟩, fun D hD => ?_⟩
    have w4 := f4.2
    refine lc_it (walk_list (K := K) (a := b1) (xs := ks.map V.str)) (fun j H' => ∃ (ps : List Addr) (kvs : List (Key × V)) (tb : List TRow), Tab K H4 a D (fun _ es => RowOk true ks cs es ∧ es.length ≤ 5 ∧ Dep es) ks j H' ps kvs tb) ⟨[], [], [], ⟨Fw.of_same w4 (same_upd hD), upd_same, .nil, .nil, rfl, (fun i r h => nomatch h)⟩⟩ ?_ ?_ ?_
    · rintro j H' _ ⟨_, _, _, h⟩
      exact SqL.of (ev.fw h.fw).k1
    · rintro j x H5 H6 hj ⟨ps, kvs, tb, ht⟩ ⟨rfl, hx⟩
      obtain ⟨z, hz, rfl⟩ : ∃ z, ks[j]? = some z ∧ x = V.str z := by
        rw [List.getElem?_map] at hx
        obtain ⟨z, h1, h2⟩ := Option.map_eq_some_iff.mp hx
        exact ⟨z, h1, h2.symm⟩
      rw [List.length_map] at hj
      refine ⟨rfl, _, rfl, _, rfl, _, rfl, _, rfl, a, b1, b2, ks, cs, rfl, ev.fw ht.fw, fun Fa xs es H7 hF hF7 hx7 hok hdd hle f7 => ⟨by show 2 ≤ sizeLine; decide, fun p hp => ?_⟩⟩
      obtain ⟨g1, g2⟩ := ht.step w4 hD hj f7 hz hF hF7 hx7 hp ⟨hok, hle, hdd⟩
      refine ⟨_, (same_upd hp) _ _ g1, ?_, _, _, _, g2⟩
      rw [List.length_map]
      exact Nat.lt_of_le_of_lt (show ps.length ≤ 5 by have := ht.len (by omega); omega) (by decide)
    rintro H5 ⟨ps1, kv1, tb1, ht1⟩
    rw [List.length_map] at ht1
    have nmk1 : tb1.map Prod.fst = ks := ht1.nm.trans (List.take_length)
    refine ⟨D, ps1, kv1, rfl, SqL.of ht1.hD, ht1.pr, fun d1 hd1 => ?_⟩
    rw [mergeK_keys (rowL_keys ht1.rw) (by rw [nmk1]; exact nd1)]
    have f5 := f4.trans ht1.fw
    have f6 := f5.same (same_upd (o := .dK kv1) hd1)
    have hd10 : H d1 = none := f5.free hw hd1
    have hd16 : (upd H5 d1 (.dK kv1)) d1 = some (.dK kv1) := upd_same
    have hr16 : Paired (RowL K (fun b => H b = none) (upd H5 d1 (.dK kv1))) kv1 tb1 := pd_mono (fun _ _ h => RowL.keep (fun b xs hn hb => ⟨f4.free hw hn.1, (same_upd hd1) _ _ hb⟩) (KeepT.same (same_upd hd1)) h) ht1.rw
    have ev6 := ev.fw (ht1.fw.same (same_upd (o := .dK kv1) hd1))
    generalize upd H5 d1 (.dK kv1) = H6 at f6 hd16 hr16 ev6 ⊢
    refine ⟨_, rfl, b2, _, rfl, .inl (SqL.of ev6.k2), _, rfl, by omega, ?_, fun D2 hD2 => ?_⟩
    · rw [List.length_map]
      have := ev6.l2
      omega
    rw [show (((cs.map V.str).length : Nat) : Int).toNat = cs.length by rw [List.length_map]; rfl]
    have w6 := f6.2
    refine lc_it walk_range (fun j H' => ∃ (ps : List Addr) (kvs : List (Key × V)) (tb : List TRow), Tab K H6 a D2 (fun i es => RowOk false ks cs es ∧ es.length ≤ 5 ∧ es ≠ [] ∧ Dep es ∧ ∀ e, (sortEn es)[0]? = some e → ∀ c, e.of = some (.cho c) → ∃ j : Nat, i < j ∧ cs[j]? = some c) cs j H' ps kvs tb) ⟨[], [], [], ⟨Fw.of_same w6 (same_upd hD2), upd_same, .nil, .nil, rfl, (fun i r h => nomatch h)⟩⟩ (fun _ _ _ _ => trivial) ?_ ?_
    · rintro j x H7 H8 hj ⟨ps, kvs, tb, ht⟩ ⟨rfl, rfl⟩
      obtain ⟨z, hz⟩ : ∃ z, cs[j]? = some z := ⟨_, List.getElem?_eq_getElem hj⟩
      have ev7 := ev6.fw ht.fw
      have hzj : atI (cs.map V.str) (0 + (j : Int)) = some (.str z) := by
        rw [Int.zero_add]
        exact atI_nat (by rw [List.getElem?_map, hz] <;> rfl)
      have ej : V.int (0 + (j : Int)) = V.int (j : Int) := by rw [Int.zero_add]
      refine ⟨rfl, _, rfl, _, rfl, b2, _, _, _, rfl, rfl, SqL.of ev7.k2, hzj, _, rfl, _, rfl, _, rfl, _, rfl, a, b1, b2, ks, cs, j, ?_, ev7, hj, fun Fa xs es H9 hF hF9 hx9 hok hdd hle hne hfw f9 => ⟨by show 2 ≤ sizeLine; decide, fun p hp => ?_⟩⟩
      · show [V.ref a, V.ref b1, V.ref b2, V.int (0 + (j : Int))] = _
        rw [ej]
      obtain ⟨g1, g2⟩ := ht.step w6 hD2 hj f9 hz hF hF9 hx9 hp ⟨hok, hle, hne, hdd, hfw⟩
      refine ⟨_, (same_upd hp) _ _ g1, ?_, _, _, _, g2⟩
      rw [List.length_map]
      exact Nat.lt_of_le_of_lt (show ps.length ≤ 5 by have := ht.len (by omega); have := ev6.l2; omega) (by decide)
    rintro H7 ⟨ps2, kv2, tb2, ht2⟩
    have nmk2 : tb2.map Prod.fst = cs := ht2.nm.trans (List.take_length)
    refine ⟨D2, ps2, kv2, rfl, SqL.of ht2.hD, ht2.pr, fun d2 hd2 => ?_⟩
    rw [mergeK_keys (rowL_keys ht2.rw) (by rw [nmk2]; exact nd2)]
    have f7 := f6.trans ht2.fw
    have f8 := f7.same (same_upd (o := .dK kv2) hd2)
    have hd20 : H d2 = none := f7.free hw hd2
    have hd28 : (upd H7 d2 (.dK kv2)) d2 = some (.dK kv2) := upd_same
    have hr28 : Paired (RowL K (fun b => H b = none) (upd H7 d2 (.dK kv2))) kv2 tb2 := pd_mono (fun _ _ h => RowL.keep (fun b xs hn hb => ⟨f6.free hw hn.1, (same_upd hd2) _ _ hb⟩) (KeepT.same (same_upd hd2)) h) ht2.rw
    have f68 : Fw a H6 (upd H7 d2 (.dK kv2)) := ht2.fw.same (same_upd hd2)
    have ev8 := ev6.fw f68
    have nA : ∀ {b : Addr}, H b = none → b ≠ a := fun h => hw.ne h
    generalize upd H7 d2 (.dK kv2) = H8 at f8 hd28 hr28 f68 ev8 ⊢
    refine ⟨_, rfl, _, rfl, _, rfl, _, rfl, _, rfl, sort_pre (E := E0) ev8 fun v s H9 ht sok hf hdp f9 => ⟨by show 3 ≤ sizeLine; decide, fun p hp => ?_⟩⟩
    have sp := same_upd (o := .tup [.ref d1, .ref d2, v]) hp
    have f69 := f68.trans f9
    have F1 : Paired (RowL K (fun b => H b = none) (upd H9 p (.tup [.ref d1, .ref d2, v]))) kv1 tb1 := pd_mono (fun _ _ h => RowL.keep (fun b xs hn hb => ⟨hn, sp _ _ (f69.1 _ _ (nA hn) hb)⟩) ((fw_keepT f69 w6).trans (KeepT.same sp)) h) hr16
    have F2 : Paired (RowL K (fun b => H b = none) (upd H9 p (.tup [.ref d1, .ref d2, v]))) kv2 tb2 := pd_mono (fun _ _ h => RowL.keep (fun b xs hn hb => ⟨hn, sp _ _ (f9.1 _ _ (nA hn) hb)⟩) ((fw_keepT f9 f8.2).trans (KeepT.same sp)) h) hr28
    have L1 : ∀ r ∈ tb1, RowOk true ks cs r.2 ∧ r.2.length ≤ 5 ∧ Dep r.2 := fun r hr => by
      obtain ⟨i, hi⟩ := List.mem_iff_getElem?.mp hr
      exact ht1.ok i r hi
    have L2 : ∀ r ∈ tb2, RowOk false ks cs r.2 ∧ r.2.length ≤ 5 ∧ r.2 ≠ [] ∧ Dep r.2 := fun r hr => by
      obtain ⟨i, hi⟩ := List.mem_iff_getElem?.mp hr
      obtain ⟨g1, g2, g3, g4, _⟩ := ht2.ok i r hi
      exact ⟨g1, g2, g3, g4⟩
    have n1 : tb1.length ≤ 5 := by
      have e := congrArg List.length nmk1
      rw [List.length_map] at e
      have := ev.l1
      omega
    have n2 : tb2.length ≤ 5 := by
      have e := congrArg List.length nmk2
      rw [List.length_map] at e
      have := ev.l2
      omega
    refine q p tb1 tb2 s _ ⟨d1, d2, v, kv1, kv2, SqT.of upd_same, hd10, hd20, sp _ _ (f69.1 _ _ (nA hd10) hd16), sp _ _ (f9.1 _ _ (nA hd20) hd28), F1, F2, ht.keep (KeepT.same sp)⟩ ⟨?_, ?_, ?_, ?_, by omega, by omega, ?_, ?_⟩ hdp (fun r hr => (L1 r hr).2) (fun r hr => ⟨(L2 r hr).2.1, (L2 r hr).2.2.2⟩) n1 n2 ((f8.trans f9).same sp)
    · rw [nmk1, nmk2]
      exact fun r hr => ⟨nm1 _ (by rw [← nmk1]; exact List.mem_map.mpr ⟨r, hr, rfl⟩), (L1 r hr).1, Nat.le_trans (L1 r hr).2.1 (by decide), fun h => nomatch h⟩
    · rw [nmk1, nmk2]
      exact fun r hr => ⟨nm2 _ (by rw [← nmk2]; exact List.mem_map.mpr ⟨r, hr, rfl⟩), (L2 r hr).1, Nat.le_trans (L2 r hr).2.1 (by decide), fun _ => (L2 r hr).2.2.1⟩
    · rw [nmk1]
      exact nd1
    · rw [nmk2]
      exact nd2
    · rw [nmk1, nmk2]
      exact sok
    · refine ⟨fun k => cs.idxOf k, fun r hr e he c hc => ?_⟩
      unfold sortT at hr
      obtain ⟨r', hr', rfl⟩ := List.mem_map.mp hr
      obtain ⟨i, hi⟩ := List.mem_iff_getElem?.mp hr'
      obtain ⟨_, _, _, _, hfw⟩ := ht2.ok i r' hi
      obtain ⟨j, hij, hj⟩ := hfw e he c hc
      have hri : cs[i]? = some r'.1 := by
        rw [← nmk2, List.getElem?_map, hi] <;> rfl
      refine ⟨?_, ?_⟩
      · show cs.idxOf r'.1 < cs.idxOf c
        rw [idx_nodup nd2 hri, idx_nodup nd2 hj]
        exact hij
      · show c ∈ (sortT tb2).map Prod.fst
        unfold sortT
        rw [List.map_map]
        show c ∈ tb2.map Prod.fst
        rw [nmk2]
        exact List.mem_of_getElem? hj
end
end K02
namespace K02
open PySem PySem.Spec PyProof.Rows L2 Tw Sb LamX
/-- a row of its own, a list or a tuple -/
def RowF (K : PySem.W.Frag) (N : Addr → Prop) (H : Hp) (kv : Key × V) (r : TRow) : Prop := kv.1 = .inr r.1 ∧ ∃ (b : Addr) (xs : List V), kv.2 = .ref b ∧ N b ∧ (H b = some (.lst xs) ∨ H b = some (.tup xs)) ∧ Tds K H xs (r.2.map En.pd)
theorem RowF.keep {K : PySem.W.Frag} {N N' : Addr → Prop} {H H' : Hp} (n : ∀ b o, N b → H b = some o → N' b ∧ H' b = some o) (k : KeepT K H H') {kv : Key × V} {r : TRow} (h : RowF K N H kv r) : RowF K N' H' kv r := by
  obtain ⟨h1, b, xs, h2, h3, h4, h5⟩ := h
  rcases h4 with h4 | h4
  · obtain ⟨g1, g2⟩ := n b _ h3 h4
    exact ⟨h1, b, xs, h2, g1, .inl g2, h5.keep k⟩
  · obtain ⟨g1, g2⟩ := n b _ h3 h4
    exact ⟨h1, b, xs, h2, g1, .inr g2, h5.keep k⟩
theorem RowF.is {K : PySem.W.Frag} {N : Addr → Prop} {H : Hp} {kv : Key × V} {r : TRow} (h : RowF K N H kv r) : RowIs K H kv r := by
  obtain ⟨h1, b, xs, h2, h3, h4, h5⟩ := h
  exact ⟨h1, b, xs, h2, h4.elim (fun h => .inl (SqL.of h)) (fun h => .inr (SqT.of h)), h5⟩
theorem fw_unlock {H H' : Hp} {a d : Addr} {u : HO} {od : Obj} (hd : H d = some u) (n : d ≠ a) (f : Fw a (upd H d (.frz od u)) H') : Fw a H (upd H' d u) := by
  obtain ⟨g, x, y, z, e⟩ := f
  refine ⟨fun b o hb e => ?_, x, y, z, by rw [upd_ne n.symm]; exact e⟩
  by_cases h : b = d
  · rw [h, upd_same, ← hd, ← e, h]
  · rw [upd_ne h]
    exact g b o hb (by rw [upd_ne h]; exact e)
theorem not_some {H : Hp} {b : Addr} (h : ∀ o, H b ≠ some o) : H b = none := by
  cases e : H b with
  | none => rfl
  | some o => exact absurd e (h o)
theorem wl_lock {H : Hp} {a d : Addr} {o : HO} (w : IsWl H a) (n : d ≠ a) : IsWl (upd H d o) a := by
  obtain ⟨x, y, z, e⟩ := w
  exact ⟨x, y, z, by rw [upd_ne n.symm]; exact e⟩
/-- the table handed on: each row a copy of its own, a list or a tuple -/
def spFormed (K : PySem.W.Frag) : Sp := fun vs H Q _ => ∃ (a d : Addr) (kvs : List (Key × V)) (tb : List TRow), vs = [.ref a, .ref d] ∧ IsWl H a ∧ H d = some (.dK kvs) ∧ d ≠ a ∧ Paired (RowL K (fun b => b ≠ a) H) kvs tb ∧ (tb.map Prod.fst).Nodup ∧ tb.length ≤ 5 ∧
  ∀ (r : Addr) (kvs' : List (Key × V)) (H' : Hp), H r = none → H' r = some (.dK kvs') → Paired (RowF K (fun b => H b = none) H') kvs' tb → Fw a H H' → Q (.ref r) H'
section
variable {P : Program} {w : World} {K : PySem.W.Frag} {mg : Str → Option Value} {base : Heap}
theorem ok_formed {f : Addr} {fd : FuncData} (F : Fun K "_law_formed" "_law_formed" s__law_formed f fd) (T : Bu mg) (c__law_draw : Cal P w K mg base 1 "_law_draw" ["_law_well_here", "_law_many"] spDraw) : FnOk P w K mg base CX0 2 f fd ["_law_well_here", "_law_table"] (spFormed K) := by
  refine F.ok sc__law_formed (fun vs H Q E h => ?_) (fun cdv A outer s H vs Q E hr h => ?_)
  · obtain ⟨a, d, kvs, tb, rfl, _⟩ := h
    rfl
  · obtain ⟨a, d, kvs, tb, rfl, hw, hd, nd, hp, hnd, hl, q⟩ := h
    refine ⟨_, (pss_one (ps_ret (pe_callTy (call_dictP rfl) (by rfl) T.n_dict (by decide +kernel) (pa_cons (pe_lock (pe_lc (own := [("_law_name", 2), ("_law_row", 3)]) (g := gTup K 2 (gCons (gName 2) (gCons (gName 3) gNil))) rfl sc__law_formed.nd (pi_items (pv 1)) (blkOk_by (N := N__law_formed) (sc := defScope s__law_formed) (by decide +kernel)) (fun _ _ _ _ _ => (pg_tup rfl (pgs_cons (pg_name (i := 2) sc__law_formed.nd rfl (.inl rfl)) (pgs_cons (pg_name (i := 3) sc__law_formed.nd rfl (.inl rfl)) pgs_nil)))) (fun _ _ _ _ _ => pts_nil) (fun _ _ _ _ _ => (pe_tup (pa_cons (pv 2) (pa_cons (pe_ix (r := rIxL K) ix_list (pe_lst (pa_cons (pe_callTy (T := "list") (r := rListOf K) cr_listK (by rfl) T.n_list (by decide +kernel) (pa_cons (pv 3) pa_nil)) (pa_cons (pe_callTy (T := "tuple") (r := rTupOf K) cr_tupK (by rfl) T.n_tuple (by decide +kernel) (pa_cons (pv 3) pa_nil)) pa_nil))) (pe_cal c__law_draw hr (by decide) (by rfl) (pa_cons (pv 0) (pa_cons pe_int pa_nil))) (fun _ _ => rfl)) pa_nil)))))) pa_nil)))), ?_⟩
    refine ⟨d, _, hd, trivial, fun od => ?_⟩
    have hd1 : (upd H d (.frz od (.dK kvs))) d = some (.frz od (.dK kvs)) := upd_same
    have w1 : IsWl (upd H d (.frz od (.dK kvs))) a := wl_lock hw nd
    have hp1 : Paired (RowL K (fun b => b ≠ a) (upd H d (.frz od (.dK kvs)))) kvs tb := pd_mono (fun _ _ h => RowL.keep (fun b xs hn hb => ⟨hn, by rw [upd_ne (fun e => by rw [e, hd] at hb; cases hb)]; exact hb⟩) (lock_keep hd) h) hp
    have hfree : ∀ {D : Addr}, (upd H d (.frz od (.dK kvs))) D = none → D ≠ d ∧ H D = none := fun {D} e => by
      have n : D ≠ d := fun w => by rw [w, upd_same] at e; cases e
      rw [upd_ne n] at e
      exact ⟨n, e⟩
    have hback : ∀ H', Fw a (upd H d (.frz od (.dK kvs))) H' → Fw a H (upd H' d (.dK kvs)) := fun H' => fw_unlock hd nd
    generalize upd H d (.frz od (.dK kvs)) = H1 at hd1 w1 hp1 hfree hback ⊢
    refine ⟨_, rfl, d, od, kvs, rfl, hd1, fun D hD => ?_⟩
    have nD : D ≠ a := w1.ne hD
    refine lc_it (walk_items (d := d) (o := od) (kvs := kvs)) (fun j H' => ∃ (ps : List Addr) (kvs' : List (Key × V)), Fw a H1 H' ∧ H' D = some (.lst (ps.map V.ref)) ∧ Paired (fun p kv => SqT K H' p [kV kv.1, kv.2]) ps kvs' ∧ Paired (RowF K (fun b => H1 b = none ∧ b ≠ D) H') kvs' (tb.take j) ∧ ps.length = j) ⟨[], [], .of_same w1 (same_upd hD), upd_same, .nil, .nil, rfl⟩ ?_ ?_ ?_
    · rintro j H' _ ⟨_, _, f, _⟩
      exact f.1 _ _ nd hd1
    · rintro j x H2 H3 hj ⟨ps, kvs', f2, hD2, hp2, hr2, hlp⟩ hy
      obtain ⟨T1, kx, vx, rfl, hT1, rfl, hkx, hvx⟩ := hy
      have hkv := List.getElem?_eq_getElem hj
      obtain ⟨r, hr1, hk, b, xs, hv, nba, hb, hX⟩ := pd_atL hp1 hkv
      have hkx : (kvs[j]?.map fun kv => kV kv.1) = some kx := hkx
      have hvx : (kvs[j]?.map Prod.snd) = some vx := hvx
      rw [hkv] at hkx hvx
      obtain rfl : kx = .str r.1 := by
        have e := Option.some.inj hkx
        rw [← e]
        show kV (kvs[j]).1 = _
        rw [hk]
        rfl
      obtain rfl : vx = .ref b := by
        have e := Option.some.inj hvx
        rw [← e]
        exact hv
      have hb2 := f2.1 _ _ nba hb
      have hX2 := hX.keep (fw_keepT f2 w1)
      have sT1 := same_upd (o := .tup [.str r.1, .ref b]) hT1
      refine ⟨T1, _, rfl, SqT.of upd_same, rfl, _, _, rfl, _, _, rfl, rfl, rfl, ?_⟩
      refine ⟨_, rfl, _, rfl, b, xs, rfl, .inl (SqL.of (sT1 _ _ hb2)), fun q1 hq1 => ?_⟩
      have s1 := sT1.trans (same_upd (o := .lst xs) hq1)
      have hq1v : (upd (upd H2 T1 (.tup [.str r.1, .ref b])) q1 (.lst xs)) q1 = some (.lst xs) := upd_same
      have hq10 : H2 q1 = none := not_some fun o e => by rw [sT1 _ _ e] at hq1; cases hq1
      generalize upd (upd H2 T1 (.tup [.str r.1, .ref b])) q1 (.lst xs) = H4 at s1 hq1v ⊢
      refine ⟨_, rfl, b, xs, rfl, .inl ⟨SqL.of (s1 _ _ hb2), fun q2 hq2 => ⟨by show 2 ≤ sizeLine; decide, fun L hL => ?_⟩⟩⟩
      have s2 := (s1.trans (same_upd (o := .tup xs) hq2)).trans (same_upd (o := .lst [.ref q1, .ref q2]) hL)
      have hq20 : H2 q2 = none := not_some fun o e => by rw [s1 _ _ e] at hq2; cases hq2
      have hq1w : (upd (upd H4 q2 (.tup xs)) L (.lst [.ref q1, .ref q2])) q1 = some (.lst xs) := (same_upd hL) _ _ ((same_upd hq2) _ _ hq1v)
      have hq2w : (upd (upd H4 q2 (.tup xs)) L (.lst [.ref q1, .ref q2])) q2 = some (.tup xs) := (same_upd hL) _ _ upd_same
      have hLw : (upd (upd H4 q2 (.tup xs)) L (.lst [.ref q1, .ref q2])) L = some (.lst [.ref q1, .ref q2]) := upd_same
      have hL0 : H2 L = none := not_some fun o e => by rw [(s1.trans (same_upd (o := .tup xs) hq2)) _ _ e] at hL; cases hL
      generalize upd (upd H4 q2 (.tup xs)) L (.lst [.ref q1, .ref q2]) = H5 at s2 hq1w hq2w hLw ⊢
      have nn : ∀ {b : Addr}, H2 b = none → b ≠ a ∧ b ≠ D ∧ H1 b = none := fun h => ⟨f2.2.ne h, (fun e => by rw [e, hD2] at h; cases h), f2.free w1 h⟩
      refine ⟨_, rfl, a, 2, rfl, f2.2.same s2, by decide, by decide, fun i H6 i0 i1 f6 => ?_⟩
      have f26 : Fw a H2 H6 := (Fw.of_same f2.2 s2).trans f6
      have hL6 := f6.1 _ _ (nn hL0).1 hLw
      obtain ⟨c, hc, hc0, hcv⟩ : ∃ c, atI [V.ref q1, V.ref q2] i = some (.ref c) ∧ H2 c = none ∧ (H6 c = some (.lst xs) ∨ H6 c = some (.tup xs)) := by
        obtain rfl | rfl : i = 0 ∨ i = 1 := by omega
        · exact ⟨q1, at0, hq10, .inl (f6.1 _ _ (nn hq10).1 hq1w)⟩
        · exact ⟨q2, at1, hq20, .inr (f6.1 _ _ (nn hq20).1 hq2w)⟩
      refine ⟨L, _, i, _, rfl, rfl, SqL.of hL6, hc, by show 2 ≤ sizeLine; decide, fun p hp => ?_⟩
      have hD6 := f26.1 _ _ nD hD2
      have np : p ≠ D := fun e => by rw [e, hD6] at hp; cases hp
      have hp0 : H2 p = none := f26.free f2.2 hp
      have hD7 : (upd H6 p (.tup [.str r.1, .ref c])) D = some (.lst (ps.map V.ref)) := by rw [upd_ne np.symm]; exact hD6
      have nc : c ≠ D := (nn hc0).2.1
      have ncp : c ≠ p := fun e => by rcases hcv with h | h <;> (rw [e, hp] at h; cases h)
      have k26 : KeepT K H2 H6 := fw_keepT f26 f2.2
      have k68 : KeepT K H6 (upd (upd H6 p (.tup [.str r.1, .ref c])) D (.lst (ps.map V.ref ++ [.ref p]))) := (KeepT.same (same_upd hp)).trans (keep_one hD7)
      have k28 := k26.trans k68
      refine ⟨_, hD7, ?_, ps ++ [p], kvs' ++ [(.inr r.1, .ref c)], fw_put (((f2.trans f26).same (same_upd hp))) nD hD, ?_, ?_, ?_, ?_⟩
      · rw [List.length_map, hlp]
        have := hp1.length
        exact Nat.lt_of_le_of_lt (show j ≤ 5 by omega) (by decide)
      · rw [upd_same, List.map_append] <;> rfl
      · refine Paired.snoc (pd_mono (fun _ _ h => k28 _ _ h) hp2) (SqT.of ?_)
        rw [upd_ne np, upd_same] <;> rfl
      · rw [List.take_add_one, hr1]
        refine Paired.snoc (pd_mono (fun _ _ h => RowF.keep (fun b o hn hb => ⟨hn, ?_⟩) k28 h) hr2) ⟨rfl, c, xs, rfl, ⟨(nn hc0).2.2, nc⟩, ?_, hX2.keep k28⟩
        · have h6 := f26.1 b o (fun q => by
            obtain ⟨_, _, _, h⟩ := w1
            rw [← q, hn.1] at h
            cases h) hb
          rw [upd_ne hn.2, upd_ne (fun e => by rw [e, hp] at h6; cases h6)]
          exact h6
        · rw [upd_ne nc, upd_ne ncp]
          exact hcv
      · rw [List.length_append, hlp] <;> rfl
    · rintro H2 ⟨ps, kvs', f2, hD2, hp2, hr2, hlp⟩
      have hlk : kvs.length = tb.length := hp.length
      rw [hlk, List.take_length] at hr2
      have hd2 := f2.1 _ _ nd hd1
      obtain ⟨n1, n2⟩ := hfree hD
      refine ⟨hd2, D, ps, kvs', rfl, SqL.of (by rw [upd_ne n1]; exact hD2), pd_mono (fun _ _ h => unlock_keep hd2 _ _ h) hp2, fun r hr => ?_⟩
      have hk' : kvs'.map Prod.fst = (tb.map Prod.fst).map Sum.inr := rows_keys (pd_mono (fun _ _ h => RowF.is h) hr2)
      rw [mergeK_keys hk' hnd]
      have fb := hback _ f2
      refine q r kvs' _ (fb.free hw hr) upd_same (pd_mono (fun _ _ h => RowF.keep (fun b o hn hb => ?_) ((unlock_keep hd2).trans (KeepT.same (same_upd hr))) h) hr2) (fb.same (same_upd hr))
      obtain ⟨m1, m2⟩ := hfree hn.1
      exact ⟨m2, (same_upd hr) _ _ (by rw [upd_ne m1]; exact hb)⟩
end
end K02
namespace K02
open PySem PySem.Spec PyProof.Rows L2 Tw Sb LamX
/-- a row and whether it is a list -/
abbrev BRow := TRow × Bool
def rowO (b : Bool) (xs : List V) : HO := if b = true then .lst xs else .tup xs
def RowB (K : PySem.W.Frag) (N : Addr → Prop) (H : Hp) (kv : Key × V) (r : BRow) : Prop := kv.1 = .inr r.1.1 ∧ ∃ (b : Addr) (xs : List V), kv.2 = .ref b ∧ N b ∧ H b = some (rowO r.2 xs) ∧ Tds K H xs (r.1.2.map En.pd)
theorem RowB.keep {K : PySem.W.Frag} {N N' : Addr → Prop} {H H' : Hp} (n : ∀ b c xs, N b → H b = some (rowO c xs) → N' b ∧ H' b = some (rowO c xs)) (k : KeepT K H H') {kv : Key × V} {r : BRow} (h : RowB K N H kv r) : RowB K N' H' kv r := by
  obtain ⟨h1, b, xs, h2, h3, h4, h5⟩ := h
  obtain ⟨g1, g2⟩ := n b _ xs h3 h4
  exact ⟨h1, b, xs, h2, g1, g2, h5.keep k⟩
theorem RowB.is {K : PySem.W.Frag} {N : Addr → Prop} {H : Hp} {kv : Key × V} {r : BRow} (h : RowB K N H kv r) : RowIs K H kv r.1 := by
  obtain ⟨h1, b, xs, h2, h3, h4, h5⟩ := h
  refine ⟨h1, b, xs, h2, ?_, h5⟩
  cases hb : r.2 with
  | true => rw [hb] at h4; exact .inl (SqL.of h4)
  | false => rw [hb] at h4; exact .inr (SqT.of h4)
theorem rowsB_of {K : PySem.W.Frag} {N : Addr → Prop} {H : Hp} : ∀ {kvs : List (Key × V)} {tb : List TRow}, Paired (RowF K N H) kvs tb → ∃ tbs : List BRow, tbs.map Prod.fst = tb ∧ Paired (RowB K N H) kvs tbs
  | _, _, .nil => ⟨[], rfl, .nil⟩
  | _, _, .cons (b := r) h k => by
    obtain ⟨tbs, e, p⟩ := rowsB_of k
    obtain ⟨h1, b, xs, h2, h3, h4, h5⟩ := h
    rcases h4 with h4 | h4
    · exact ⟨(r, true) :: tbs, by rw [List.map_cons, e], .cons ⟨h1, b, xs, h2, h3, h4, h5⟩ p⟩
    · exact ⟨(r, false) :: tbs, by rw [List.map_cons, e], .cons ⟨h1, b, xs, h2, h3, h4, h5⟩ p⟩
theorem rowsB_is {K : PySem.W.Frag} {N : Addr → Prop} {H : Hp} : ∀ {kvs : List (Key × V)} {tbs : List BRow}, Paired (RowB K N H) kvs tbs → Paired (RowIs K H) kvs (tbs.map Prod.fst)
  | _, _, .nil => .nil
  | _, _, .cons h k => .cons h.is (rowsB_is k)
/-- what is told of a row -/
def CellAt (K : PySem.W.Frag) (N : Addr → Prop) (H : Hp) (v : V) (r : BRow) : Prop := ∃ (t l : Addr) (xs : List V), v = .ref t ∧ SqT K H t [.str r.1.1, .bl r.2, .ref l] ∧ N l ∧ H l = some (.lst xs) ∧ Tds K H xs (r.1.2.map En.pd)
theorem CellAt.keep {K : PySem.W.Frag} {N N' : Addr → Prop} {H H' : Hp} (n : ∀ b xs, N b → H b = some (.lst xs) → N' b ∧ H' b = some (.lst xs)) (k : KeepT K H H') {v : V} {r : BRow} (h : CellAt K N H v r) : CellAt K N' H' v r := by
  obtain ⟨t, l, xs, h1, h2, h3, h4, h5⟩ := h
  obtain ⟨g1, g2⟩ := n l xs h3 h4
  exact ⟨t, l, xs, h1, k _ _ h2, g1, g2, h5.keep k⟩
def TabC (K : PySem.W.Frag) (N : Addr → Prop) (H : Hp) (v : V) (tbs : List BRow) : Prop := ∃ (l : Addr) (vs : List V), v = .ref l ∧ N l ∧ H l = some (.lst vs) ∧ Paired (CellAt K N H) vs tbs
theorem TabC.keep {K : PySem.W.Frag} {N N' : Addr → Prop} {H H' : Hp} (n : ∀ b xs, N b → H b = some (.lst xs) → N' b ∧ H' b = some (.lst xs)) (k : KeepT K H H') {v : V} {r : List BRow} (h : TabC K N H v r) : TabC K N' H' v r := by
  obtain ⟨l, vs, h1, h2, h3, h4⟩ := h
  obtain ⟨g1, g2⟩ := n l vs h2 h3
  exact ⟨l, vs, h1, g1, g2, pd_mono (fun _ _ h => h.keep n k) h4⟩
def FormAt (K : PySem.W.Frag) (N : Addr → Prop) (H : Hp) (l : Addr) (t1 t2 : List BRow) : Prop := ∃ (v1 v2 : V), N l ∧ H l = some (.lst [v1, v2]) ∧ TabC K N H v1 t1 ∧ TabC K N H v2 t2
theorem FormAt.keep {K : PySem.W.Frag} {N N' : Addr → Prop} {H H' : Hp} (n : ∀ b xs, N b → H b = some (.lst xs) → N' b ∧ H' b = some (.lst xs)) (k : KeepT K H H') {l : Addr} {t1 t2 : List BRow} (h : FormAt K N H l t1 t2) : FormAt K N' H' l t1 t2 := by
  obtain ⟨v1, v2, h1, h2, h3, h4⟩ := h
  obtain ⟨g1, g2⟩ := n l _ h1 h2
  exact ⟨v1, v2, g1, g2, h3.keep n k, h4.keep n k⟩
def cellD (r : BRow) : PyData := .tuple [.str r.1.1, .bool r.2, .list (r.1.2.map En.pd)]
def formD (t1 t2 : List BRow) : PyData := .list [.list (t1.map cellD), .list (t2.map cellD)]
theorem cells_dp {K : PySem.W.Frag} {N : Addr → Prop} {H : Hp} : ∀ {vs : List V} {tbs : List BRow}, Paired (CellAt K N H) vs tbs → DpAll K H vs (tbs.map cellD)
  | _, _, .nil => .nil
  | _, _, .cons h k => by
    obtain ⟨t, l, xs, rfl, h2, h3, h4, h5⟩ := h
    exact .cons (.tup h2 (.cons (.str _) (.cons (.bl _) (.cons (.lst (SqL.of h4) h5.dp) .nil)))) (cells_dp k)
theorem TabC.dp {K : PySem.W.Frag} {N : Addr → Prop} {H : Hp} {v : V} {tbs : List BRow} (h : TabC K N H v tbs) : Dp K H v (.list (tbs.map cellD)) := by
  obtain ⟨l, vs, rfl, h2, h3, h4⟩ := h
  exact .lst (SqL.of h3) (cells_dp h4)
theorem FormAt.dp {K : PySem.W.Frag} {N : Addr → Prop} {H : Hp} {l : Addr} {t1 t2 : List BRow} (h : FormAt K N H l t1 t2) : Dp K H (.ref l) (formD t1 t2) := by
  obtain ⟨v1, v2, h1, h2, h3, h4⟩ := h
  exact .lst (SqL.of h2) (.cons h3.dp (.cons h4.dp .nil))
def spCopied (K : PySem.W.Frag) : Sp := fun vs H Q _ => ∃ (h d1 d2 : Addr) (kv1 kv2 : List (Key × V)) (t1 t2 : List BRow), vs = [.ref h] ∧ H h = some (.lst [.ref d1, .ref d2]) ∧ H d1 = some (.dK kv1) ∧ H d2 = some (.dK kv2) ∧ Paired (RowB K (fun _ => True) H) kv1 t1 ∧ Paired (RowB K (fun _ => True) H) kv2 t2 ∧ t1.length ≤ 5 ∧ t2.length ≤ 5 ∧
  ∀ (l : Addr) (H' : Hp), FormAt K (fun b => H b = none) H' l t1 t2 → Same H H' → Q (.ref l) H'
theorem pick_lst {K : PySem.W.Frag} {H : Hp} {b : Addr} {c : Bool} {xs : List V} (h : H b = some (rowO c xs)) : SqL K H b xs ∨ SqT K H b xs := by
  cases c with
  | true => exact .inl (SqL.of h)
  | false => exact .inr (SqT.of h)
theorem row_ty {K : PySem.W.Frag} {H : Hp} {b : Addr} {c : Bool} {xs : List V} (h : H b = some (rowO c xs)) : ∃ t, TyX K H (.ref b) t ∧ PySem.W.kitOne K t (.type "list") = some c := by
  cases c with
  | true => exact ⟨_, SqL.ty (SqL.of h), kit_ty (by decide +kernel)⟩
  | false => exact ⟨_, SqT.ty (SqT.of h), kit_ty (by decide +kernel)⟩
section
variable {P : Program} {w : World} {K : PySem.W.Frag} {mg : Str → Option Value} {base : Heap}
theorem ok_copied {f : Addr} {fd : FuncData} (F : Fun K "_law_copied" "_law_copied" s__law_copied f fd) (T : Bu mg) : FnOk P w K mg base CX0 1 f fd ["_law_handed"] (spCopied K) := by
  refine F.ok sc__law_copied (fun vs H Q E h => ?_) (fun cdv A outer s H vs Q E hr h => ?_)
  · obtain ⟨h, d1, d2, kv1, kv2, t1, t2, rfl, _⟩ := h
    rfl
  · obtain ⟨h, d1, d2, kv1, kv2, t1, t2, rfl, hh, hd1, hd2, hp1, hp2, l1, l2, q⟩ := h
    refine ⟨_, (pss_one (ps_ret (pe_lc (own := [("_law_table", 1)]) rfl sc__law_copied.nd (pi_list (pv 0)) (blkOk_by (N := N__law_copied) (sc := defScope s__law_copied) (by decide +kernel)) (fun _ _ _ _ _ => (pg_name (i := 1) sc__law_copied.nd rfl (.inl rfl))) (fun _ _ _ _ _ => pts_nil) (fun _ _ _ _ _ => (pe_lock (pe_lc (own := [("_law_name", 2), ("_law_row", 3)]) (g := gTup K 2 (gCons (gName 2) (gCons (gName 3) gNil))) rfl sc__law_copied.nd (pi_items (pv 1)) (blkOk_by (N := N__law_copied) (by rfl)) (fun _ _ _ _ _ => (pg_tup rfl (pgs_cons (pg_name (i := 2) sc__law_copied.nd rfl (.inl rfl)) (pgs_cons (pg_name (i := 3) sc__law_copied.nd rfl (.inl rfl)) pgs_nil)))) (fun _ _ _ _ _ => pts_nil) (fun _ _ _ _ _ => (pe_tup (pa_cons (pv 2) (pa_cons (pe_callB (id := "isinstance") (r := rIsi K) call_isi (by rfl) T.n_isinstance (by decide +kernel) (pa_cons (pv 3) (pa_cons (pe_bltn (v := .ty "list") rfl T.n_list (by decide +kernel) rfl) pa_nil))) (pa_cons (pe_callTy (T := "list") (r := rListOf K) cr_listK (by rfl) T.n_list (by decide +kernel) (pa_cons (pv 3) pa_nil)) pa_nil))))))))))), ?_⟩
    refine ⟨_, rfl, h, rfl, ⟨_, SqL.of hh⟩, fun D hD => ?_⟩
    refine lc_it (walk_list (K := K) (a := h) (xs := [.ref d1, .ref d2])) (fun j H' => Same H H' ∧ ∃ vs, H' D = some (.lst vs) ∧ vs.length = j ∧ Paired (TabC K (fun b => H b = none ∧ b ≠ D) H') vs ([t1, t2].take j)) ⟨same_upd hD, [], upd_same, rfl, .nil⟩ (fun _ _ _ h => SqL.of (h.1 _ _ hh)) ?_ ?_
    · rintro j x H2 H3 hj ⟨s2, vs, hD2, hvl, hvs⟩ ⟨rfl, hx⟩
      obtain ⟨d, kvs, tbs, rfl, hd, hp, ht, hl⟩ : ∃ (d : Addr) (kvs : List (Key × V)) (tbs : List BRow), x = .ref d ∧ H d = some (.dK kvs) ∧ Paired (RowB K (fun _ => True) H) kvs tbs ∧ [t1, t2][j]? = some tbs ∧ tbs.length ≤ 5 := by
        have hj : j < 2 := hj
        obtain rfl | rfl : j = 0 ∨ j = 1 := by omega
        · cases hx
          exact ⟨d1, kv1, t1, rfl, hd1, hp1, rfl, l1⟩
        · cases hx
          exact ⟨d2, kv2, t2, rfl, hd2, hp2, rfl, l2⟩
      have hd2' := s2 _ _ hd
      have nDd : D ≠ d := fun e => by rw [e, hd] at hD; cases hD
      refine ⟨rfl, d, _, hd2', trivial, fun od => ?_⟩
      have hH1 : (upd H3 d (.frz od (.dK kvs))) d = some (.frz od (.dK kvs)) := upd_same
      have hp1 : Paired (RowB K (fun _ => True) (upd H3 d (.frz od (.dK kvs)))) kvs tbs := pd_mono (fun _ _ h => RowB.keep (fun b c xs _ hb => ⟨trivial, by
        rw [upd_ne (fun e => by rw [e, hd] at hb; unfold rowO at hb; cases c <;> cases hb)]
        exact s2 _ _ hb⟩) ((KeepT.same s2).trans (lock_keep hd2')) h) hp
      have hun : ∀ H', Same (upd H3 d (.frz od (.dK kvs))) H' → Same H3 (upd H' d (.dK kvs)) := fun H' => unlock hd2'
      have hfree : ∀ {b : Addr}, (upd H3 d (.frz od (.dK kvs))) b = none → b ≠ d ∧ H3 b = none := fun {b} e => by
        have n : b ≠ d := fun w => by rw [w, upd_same] at e; cases e
        rw [upd_ne n] at e
        exact ⟨n, e⟩
      have hfr3 : ∀ {b : Addr}, H3 b = none → H b = none := fun e => not_some fun o q => by rw [s2 _ _ q] at e; cases e
      have hD31 : (upd H3 d (.frz od (.dK kvs))) D = some (.lst vs) := by rw [upd_ne nDd]; exact hD2
      generalize hgen : upd H3 d (.frz od (.dK kvs)) = H1 at hH1 hp1 hun hfree hD31 ⊢
      refine ⟨_, rfl, d, od, kvs, rfl, hH1, fun D2 hD2n => ?_⟩
      refine lc_it (walk_items (d := d) (o := od) (kvs := kvs)) (fun i H' => Same H1 H' ∧ ∃ us, H' D2 = some (.lst us) ∧ us.length = i ∧ Paired (CellAt K (fun b => H1 b = none ∧ b ≠ D2) H') us (tbs.take i)) ⟨same_upd hD2n, [], upd_same, rfl, .nil⟩ (fun _ _ _ h => h.1 _ _ hH1) ?_ ?_
      · rintro i x H4 H5 hi ⟨s4, us, hD24, hul, hus⟩ hy
        obtain ⟨T1, kx, vx, rfl, hT1, rfl, hkx, hvx⟩ := hy
        have hkv := List.getElem?_eq_getElem hi
        obtain ⟨r, hr1, hk, b, xs, hv, _, hb, hX⟩ := pd_atL hp1 hkv
        have hkx : (kvs[i]?.map fun kv => kV kv.1) = some kx := hkx
        have hvx : (kvs[i]?.map Prod.snd) = some vx := hvx
        rw [hkv] at hkx hvx
        obtain rfl : kx = .str r.1.1 := by
          have e := Option.some.inj hkx
          rw [← e]
          show kV (kvs[i]).1 = _
          rw [hk]
          rfl
        obtain rfl : vx = .ref b := by
          have e := Option.some.inj hvx
          rw [← e]
          exact hv
        have sT1 := same_upd (o := .tup [.str r.1.1, .ref b]) hT1
        have s15 := s4.trans sT1
        refine ⟨T1, _, rfl, SqT.of upd_same, rfl, _, _, rfl, _, _, rfl, rfl, rfl, ?_⟩
        obtain ⟨ty, hty, hkt⟩ := row_ty (K := K) (s15 _ _ hb)
        refine ⟨_, rfl, _, rfl, _, _, ty, .type "list", r.2, rfl, .ty "list", hty, hkt, ?_⟩
        refine ⟨_, rfl, b, xs, rfl, pick_lst (s15 _ _ hb), fun l hl => ⟨by show 3 ≤ sizeLine; decide, fun p hp => ?_⟩⟩
        have hD25 := (sT1.trans (same_upd (o := .lst xs) hl)) _ _ hD24
        have hl0 : H4 l = none := not_some fun o e => by rw [sT1 _ _ e] at hl; cases hl
        have sl := sT1.trans (same_upd (o := .lst xs) hl)
        have sp := sl.trans (same_upd (o := .tup [.str r.1.1, .bl r.2, .ref l]) hp)
        have hlv : (upd (upd (upd H4 T1 (.tup [.str r.1.1, .ref b])) l (.lst xs)) p (.tup [.str r.1.1, .bl r.2, .ref l])) l = some (.lst xs) := (same_upd hp) _ _ upd_same
        have hpv : (upd (upd (upd H4 T1 (.tup [.str r.1.1, .ref b])) l (.lst xs)) p (.tup [.str r.1.1, .bl r.2, .ref l])) p = some (.tup [.str r.1.1, .bl r.2, .ref l]) := upd_same
        generalize upd (upd (upd H4 T1 (.tup [.str r.1.1, .ref b])) l (.lst xs)) p (.tup [.str r.1.1, .bl r.2, .ref l]) = H6 at sp hlv hpv ⊢
        have hD26 := sp _ _ hD24
        have nl : l ≠ D2 := fun e => by rw [e, hD24] at hl0; cases hl0
        have kk : KeepT K H6 (upd H6 D2 (.lst (us ++ [.ref p]))) := keep_one hD26
        have hl1 : H1 l = none := not_some fun o e => by rw [s4 _ _ e] at hl0; cases hl0
        have np : p ≠ D2 := fun e => by rw [e, hD26] at hpv; cases hpv
        refine ⟨us, hD26, ?_, ?_, us ++ [.ref p], upd_same, ?_, ?_⟩
        · rw [hul]
          have := hp1.length
          exact Nat.lt_of_le_of_lt (show i ≤ 5 by omega) (by decide)
        · exact fun c o e => by
            rw [upd_ne (fun w => by rw [w, hD2n] at e; cases e)]
            exact sp _ _ (s4 _ _ e)
        · rw [List.length_append, hul] <;> rfl
        · rw [List.take_add_one, hr1]
          refine Paired.snoc (pd_mono (fun _ _ h => CellAt.keep (fun c ys hn hc => ⟨hn, by rw [upd_ne hn.2]; exact sp _ _ hc⟩) ((KeepT.same sp).trans kk) h) hus) ⟨p, l, xs, rfl, kk _ _ (SqT.of hpv), ⟨hl1, nl⟩, by rw [upd_ne nl]; exact hlv, ((hX.keep (KeepT.same (s4.trans sp))).keep kk)⟩
      · rintro H4 ⟨s4, us, hD24, hul, hus⟩
        have hlk : kvs.length = tbs.length := hp.length
        rw [hlk, List.take_length] at hus
        have hd4 := s4 _ _ hH1
        obtain ⟨n1, n2⟩ := hfree hD2n
        have sB := hun _ s4
        have hD4 : (upd H4 d (.dK kvs)) D = some (.lst vs) := sB _ _ hD2
        have nDD : D2 ≠ D := fun e => by rw [e, hD31] at hD2n; cases hD2n
        have k4 := unlock_keep (K := K) hd4
        have kk : KeepT K (upd H4 d (.dK kvs)) (upd (upd H4 d (.dK kvs)) D (.lst (vs ++ [.ref D2]))) := keep_one hD4
        refine ⟨hd4, vs, hD4, ?_, ?_, vs ++ [.ref D2], upd_same, ?_, ?_⟩
        · rw [hvl]
          have hj : j < 2 := hj
          exact Nat.lt_of_le_of_lt (show j ≤ 5 by omega) (by decide)
        · exact fun c o e => by
            rw [upd_ne (fun w => by rw [w, hD] at e; cases e)]
            exact sB _ _ (s2 _ _ e)
        · rw [List.length_append, hvl] <;> rfl
        · rw [List.take_add_one, ht]
          refine Paired.snoc (pd_mono (fun _ _ h => TabC.keep (fun c ys hn hc => ⟨hn, by rw [upd_ne hn.2]; exact sB _ _ hc⟩) ((KeepT.same sB).trans kk) h) hvs) ⟨D2, us, rfl, ⟨hfr3 n2, nDD⟩, by rw [upd_ne nDD, upd_ne n1]; exact hD24, pd_mono (fun _ _ h => CellAt.keep (fun c ys hn hc => ?_) (k4.trans kk) h) hus⟩
          obtain ⟨m1, m2⟩ := hfree hn.1
          have nc : c ≠ D := fun e => by rw [e, hD31] at hn; cases hn.1
          exact ⟨⟨hfr3 m2, nc⟩, by rw [upd_ne nc, upd_ne m1]; exact hc⟩
    · rintro H2 ⟨s2, vs, hD2, hvl, hvs⟩
      have hvs : Paired (TabC K (fun b => H b = none ∧ b ≠ D) H2) vs [t1, t2] := hvs
      cases hvs with
      | cons g1 g =>
        cases g with
        | cons g2 g =>
          cases g
          exact q D H2 ⟨_, _, hD, hD2, g1.keep (fun b xs hn hb => ⟨hn.1, hb⟩) (KeepT.same (Same.refl _)), g2.keep (fun b xs hn hb => ⟨hn.1, hb⟩) (KeepT.same (Same.refl _))⟩ s2
end
end K02
namespace K02
open PySem PySem.Spec PyProof.Rows L2 Tw Sb LamX
/-- .. by rising numbers, as a schema has them -/
def spLSort (K : PySem.W.Frag) (TS : List (Addr × Str)) : Sp := fun vs H Q _ => ∃ (d : Addr) (kvs : List (Key × V)) (tb : List TRow), vs = [.ref d] ∧ H d = some (.dK kvs) ∧ Paired (RowIs K H) kvs tb ∧ (tb.map Prod.fst).Nodup ∧ tb.length ≤ 1000 ∧ Tabs TS H ∧
  ∀ (H' : Hp) (r : Addr) (kvs' : List (Key × V)), ExtN H H' → Tabs TS H' → H' r = some (.dK kvs') → Paired (RowT K H') kvs' (sortT tb) → Q (.ref r) H'
section
variable {P : Program} {w : World} {K : PySem.W.Frag} {mg : Str → Option Value} {base : Heap}
theorem ok_lsorted {c PT f : Addr} {oc kV doc pm ct : Value} {od an : Option Addr} {osl : Array (Option Value)} {TS : List (Addr × Str)} (lk : K.lookup f = some ⟨oc, od, .func (PySem.W.fnOf "_law_sorted" "_law_sorted" (defArgs s__law_sorted) (defBody s__law_sorted) (defScope s__law_sorted) .none kV doc pm an (.ref c) ct), osl⟩) (hcd : PySem.W.codeIn K (.ref c) "_law_sorted" = true)
    (T : Bu mg) (TB : TabB base mg c PT) (hB : (PT, ("_law_sorted.<locals>.<lambda>" : Str)) ∈ TS) (hu : ∀ p ∈ TS, p.1 = PT → p.2 = ("_law_sorted.<locals>.<lambda>" : Str)) :
    FnOk P w K mg base CX0 4 f (PySem.W.fnOf "_law_sorted" "_law_sorted" (defArgs s__law_sorted) (defBody s__law_sorted) (defScope s__law_sorted) .none kV doc pm an (.ref c) ct) ["_law_table"] (spLSort K TS) := by
  refine fn_of lk hcd sc__law_sorted (fun vs H Q E h => ?_) fun A outer s H vs Q E hr h => ?_
  · obtain ⟨d, kvs, tb, rfl, _⟩ := h
    rfl
  · obtain ⟨d, kvs, tb, rfl, hd, hp, hnd, hl, hT, q⟩ := h
    have hlk0 : kvs.length = tb.length := hp.length
    have body : ∃ t, PSs ((cxOf CX0 P w K mg base N__law_sorted "_law_sorted" (defScope s__law_sorted) f (.ref c) A outer s H E).nox) (defBody s__law_sorted) t ∧ t { nx := fun _ H' => Q .non H', rt := Q } (L2.start N__law_sorted [.ref d]) H := by
     refine ⟨_, (pss_one (ps_ret (pe_callTy (call_dictP rfl) (by rfl) T.n_dict (by decide +kernel) (pa_cons (pe_lock (pe_lc (X := (cxOf CX0 P w K mg base N__law_sorted "_law_sorted" (defScope s__law_sorted) f (.ref c) A outer s H E).nox) (own := [("_law_name", 1), ("_law_row", 2)]) (g := gTup K 2 (gCons (gName 1) (gCons (gName 2) gNil))) rfl sc__law_sorted.nd (pi_items (pv 0)) (blkOk_by (N := N__law_sorted) (sc := defScope s__law_sorted) (by decide +kernel)) (fun _ _ _ _ _ => (pg_tup rfl (pgs_cons (pg_name (i := 1) sc__law_sorted.nd rfl (.inl rfl)) (pgs_cons (pg_name (i := 2) sc__law_sorted.nd rfl (.inl rfl)) pgs_nil)))) (fun _ _ _ _ _ => pts_nil) (fun _ _ _ _ _ => (pe_tup (pa_cons (pv 1) (pa_cons (pe_callTy (T := "tuple") (r := rTupOf K) cr_tupK (by rfl) T.n_tuple (by decide +kernel) (pa_cons (pe_sortLam K (T := TS) (pr := "_law_part") (by rfl) T.n_sorted (pv 2) TB rfl hB hu (hr.mono (show 1 ≤ 3 by decide)) ⟨⟨rfl, rfl, rfl⟩, rfl, ⟨_, _, _, _, rfl⟩, by decide⟩ rfl (fun _ _ _ _ _ _ => rfl)) pa_nil)) pa_nil)))))) pa_nil)))), ?_⟩
     refine ⟨d, _, hd, trivial, fun od => ?_⟩
     have hd1 : (upd H d (.frz od (.dK kvs))) d = some (.frz od (.dK kvs)) := upd_same
     have hT1 : Tabs TS (upd H d (.frz od (.dK kvs))) := tabs_put hT fun o e => by rw [hd] at e; cases e; exact .dK
     have hback : ∀ H', ExtN (upd H d (.frz od (.dK kvs))) H' → ExtN H (upd H' d (.dK kvs)) := fun H' e b o q n => by
       by_cases hb : b = d
       · subst hb
         rw [upd_same, ← hd, q]
       · rw [upd_ne hb]
         exact e b o (by rw [upd_ne hb]; exact q) n
     have hrow : ∀ {v : V} {es : List En}, EnRow K H es v → ∃ a xs, v = .ref a ∧ SqR K (upd H d (.frz od (.dK kvs))) a xs ∧ Tds K (upd H d (.frz od (.dK kvs))) xs (es.map En.pd) := fun ⟨a, xs, e, h1, h2⟩ =>
       ⟨a, xs, e, h1.elim (fun h => .inl (lock_list hd h)) (fun h => .inr (lock_keep hd _ _ h)), h2.keep (lock_keep hd)⟩
     have hfree : ∀ {D : Addr}, (upd H d (.frz od (.dK kvs))) D = none → D ≠ d ∧ H D = none := fun {D} e => by
       have n : D ≠ d := fun w => by rw [w, upd_same] at e; cases e
       rw [upd_ne n] at e
       exact ⟨n, e⟩
     generalize upd H d (.frz od (.dK kvs)) = H1 at hd1 hT1 hback hrow hfree ⊢
     refine ⟨_, rfl, d, od, kvs, rfl, hd1, fun D hD => ?_⟩
     refine lc_it (walk_items (d := d) (o := od) (kvs := kvs)) (fun j H' => ExtN H1 H' ∧ Tabs TS H' ∧ ∃ (ps : List Addr) (kvs' : List (Key × V)), H' D = some (.lst (ps.map V.ref)) ∧ ps.length = j ∧ Paired (fun p kv => SqT K H' p [L2.kV kv.1, kv.2]) ps kvs' ∧ Paired (RowT K H') kvs' (sortT (tb.take j))) ⟨extN_new (.refl _) hD, tabs_new hT1 hD, [], [], upd_same, rfl, .nil, .nil⟩ (fun _ _ _ h => h.1 _ _ hd1 fun _ z => nomatch z) ?_ ?_
     · rintro j x H2 H3 hj ⟨e2, tT, ps, kvs', hD2, hpl, hps, hrs⟩ hy
       obtain ⟨T1, kx, vx, rfl, hT1', rfl, hkx, hvx⟩ := hy
       have hkv := List.getElem?_eq_getElem hj
       obtain ⟨r, hr1, hk, b, xs, hv, hb, hX⟩ := pd_atL (F := fun kv (r : TRow) => kv.1 = .inr r.1 ∧ ∃ b xs, kv.2 = .ref b ∧ SqR K H1 b xs ∧ Tds K H1 xs (r.2.map En.pd)) (pd_mono (fun _ _ h => ⟨h.1, hrow h.2⟩) hp) hkv
       have hkx : (kvs[j]?.map fun kv => L2.kV kv.1) = some kx := hkx
       have hvx : (kvs[j]?.map Prod.snd) = some vx := hvx
       rw [hkv] at hkx hvx
       obtain rfl : kx = .str r.1 := by
         have e := Option.some.inj hkx
         rw [← e]
         show L2.kV (kvs[j]).1 = _
         rw [hk]
         rfl
       obtain rfl : vx = .ref b := by
         have e := Option.some.inj hvx
         rw [← e]
         exact hv
       obtain ⟨qs, p1, p2, p3, p4⟩ := sort_row hX
       have sT1 := same_upd (o := .tup [.str r.1, .ref b]) hT1'
       have e3 : ExtN H1 (upd H2 T1 (.tup [.str r.1, .ref b])) := e2.trans (.of sT1)
       have tT3 := tT.ext sT1
       have sq3 : SqR K (upd H2 T1 (.tup [.str r.1, .ref b])) b (qs.map Prod.fst) := by
         rw [p1]
         exact hb.elim (fun h => .inl (SqL.extN h e3)) fun h => .inr (SqT.extN h e3)
       have hD3 := sT1 _ _ hD2
       refine ⟨T1, _, rfl, SqT.of upd_same, rfl, _, _, rfl, _, _, rfl, rfl, rfl, ?_⟩
       have hps3 := pd_mono (fun _ _ h => KeepT.same (K := K) sT1 _ _ h) hps
       have hrs3 := pd_mono (fun _ _ h => RowT.keep (KeepT.same (K := K) sT1) h) hrs
       generalize upd H2 T1 (.tup [.str r.1, .ref b]) = H3 at e3 tT3 sq3 hD3 hps3 hrs3 ⊢
       refine ⟨_, rfl, _, rfl, b, qs, rfl, sq3, fun p hp => ?_, tT3, fun H4 z eN T4 hz => ⟨z, _, rfl, .inl ⟨SqL.of upd_same, fun t ht => ⟨by show 2 ≤ sizeLine; decide, fun p hp => ?_⟩⟩⟩⟩
       · obtain ⟨a, ys, e, h1⟩ := p2 p hp
         exact ⟨a, ys, e, KeepT.extN e3 _ _ h1⟩
       have s5 := ((same_upd (o := .lst ((byKey qs).map Prod.fst)) hz).trans (same_upd (o := .tup ((byKey qs).map Prod.fst)) ht)).trans (same_upd (o := .tup [.str r.1, .ref t]) hp)
       have htv : (upd (upd (upd H4 z (.lst ((byKey qs).map Prod.fst))) t (.tup ((byKey qs).map Prod.fst))) p (.tup [.str r.1, .ref t])) t = some (.tup ((byKey qs).map Prod.fst)) := (same_upd hp) _ _ upd_same
       have hpv : (upd (upd (upd H4 z (.lst ((byKey qs).map Prod.fst))) t (.tup ((byKey qs).map Prod.fst))) p (.tup [.str r.1, .ref t])) p = some (.tup [.str r.1, .ref t]) := upd_same
       have hD4 := eN _ _ hD3 fun _ z => nomatch z
       have hD5 := s5 _ _ hD4
       have e5 : ExtN H1 _ := (e3.trans eN).trans (.of s5)
       have T5 := T4.ext s5
       have k35 := (KeepT.extN (K := K) eN).trans (KeepT.same s5)
       generalize upd (upd (upd H4 z (.lst ((byKey qs).map Prod.fst))) t (.tup ((byKey qs).map Prod.fst))) p (.tup [.str r.1, .ref t]) = H5 at htv hpv hD5 e5 T5 k35 ⊢
       have kk : KeepT K H5 (upd H5 D (.lst (ps.map V.ref ++ [.ref p]))) := keep_one hD5
       have k36 := k35.trans kk
       refine ⟨_, hD5, ?_, extN_new e5 hD, tabs_put T5 (fun o e => by rw [hD5] at e; cases e; exact .lst), ps ++ [p], kvs' ++ [(.inr r.1, .ref t)], by rw [upd_same, List.map_append] <;> rfl, by rw [List.length_append, hpl] <;> rfl, ?_, ?_⟩
       · rw [List.length_map, hpl]
         exact Nat.lt_of_le_of_lt (show j ≤ 1000 by omega) (by decide)
       · exact Paired.snoc (pd_mono (fun _ _ h => k36 _ _ h) hps3) (kk _ _ (SqT.of hpv))
       · unfold sortT
         rw [List.take_add_one, hr1, List.map_append]
         exact Paired.snoc (pd_mono (fun _ _ h => RowT.keep k36 h) hrs3) ⟨rfl, t, _, rfl, kk _ _ (SqT.of htv), p3 _ ((KeepT.extN e3).trans k36)⟩
     · rintro H2 ⟨e2, tT, ps, kvs', hD2, hpl, hps, hrs⟩
       have hlk : kvs.length = tb.length := hp.length
       rw [hlk, List.take_length] at hrs
       have hd2 := e2 _ _ hd1 fun _ z => nomatch z
       obtain ⟨n1, n2⟩ := hfree hD
       refine ⟨hd2, D, ps, kvs', rfl, SqL.of (by rw [upd_ne n1]; exact hD2), pd_mono (fun _ _ h => unlock_keep hd2 _ _ h) hps, fun r hr => ?_⟩
       have hk' := rowsT_keys hrs
       rw [mergeK_keys hk' (by rw [sortT_keys]; exact hnd)]
       have hb2 := hback _ e2
       exact q _ r kvs' (hb2.trans (.of (same_upd hr))) ((tabs_put tT fun o e => by rw [hd2] at e; cases e; exact .frz).ext (same_upd hr)) upd_same (pd_mono (fun _ _ h => RowT.keep ((unlock_keep hd2).trans (KeepT.same (same_upd hr))) h) hrs)
    obtain ⟨t, dd, hq⟩ := body
    exact ⟨t, dd.nox, hq⟩
end
end K02
set_option maxHeartbeats 4000000
/-! TwEq: == of what is nested of lists, tuples and dicts, and equal. -/
namespace Tw
open PySem PySem.Spec PyProof.Rows L2
open PySem.AutoSeq1 (wpAny_loadPart')
open MeetsSeq MeetsSeq2 MeetsSeq3 SeqRoads2
section
variable {prog : Program} {w : World}
/-- tuples whose items are equal, pair by pair -/
theorem tup_true (l b : Addr) (us ws : List Value) (n m : Nat) (d1 d2 : Option Addr) (s1 s2 : Array (Option Value)) (hlen : us.length = ws.length) :
    MeetsIn prog w (Builtin.«tuple.__eq__» ⟨[.ref l, .ref b], []⟩)
      (fun A R s => s.heap.get? l = some { cls := .type "tuple", dict := d1, data := .seq us.toArray n, slots := s1 } ∧ s.heap.get? b = some { cls := .type "tuple", dict := d2, data := .seq ws.toArray m, slots := s2 } ∧
        (∀ p ∈ us.zip ws, SeqAt.EqP prog w A.in1 s p.1 p.2 true) ∧ R (.ok (.ret (.bool true))) s) := by
  intro A R s h
  obtain ⟨hp, g, d, tk, os⟩ := s
  obtain ⟨hl, hb, he, h⟩ := h
  have sub := AutoSeq1.sub_tuple_tuple
  wp_walk using wpAny_loadPart' hl, wpAny_loadPart' hb, wpAny_forIn_list _ (fun rest b s' => b.1 = none ∧ s' = (⟨hp, g, d, tk, os⟩ : Shared) ∧ ∀ p ∈ rest, p ∈ us.zip ws) _
  case turn =>
    rintro p rest q s' ⟨hq, rfl, hr⟩
    refine wpAny_bind (he p (hr p List.mem_cons_self) _ _ ?_)
    wp_walk
    exact ⟨rfl, rfl, fun p' hp' => hr p' (List.mem_cons_of_mem _ hp')⟩
  case fin =>
    rintro ⟨q1, q2⟩ s' ⟨hq, rfl, hr⟩
    simp only at hq
    subst hq
    wp_walk
    have e : Builtin.Tuple.tupleCompareSizes .Eq us.toArray.size ws.toArray.size = .bool true := by
      simp [Builtin.Tuple.tupleCompareSizes, hlen]
    rw [e]
    exact h
  case h => exact ⟨rfl, rfl, fun p hp => hp⟩
theorem rcP_tups {A : Around} {s : Shared} {l b : Addr} {us ws : List Value} (hl : s.heap.IsTuple l us.toArray) (hb : s.heap.IsTuple b ws.toArray) (hlen : us.length = ws.length) (hu : A.units < cLine) (he : ∀ p ∈ us.zip ws, SeqAt.EqP prog w A.in1 s p.1 p.2 true)
    (E Q : Value → Shared → Prop) (q : Q (.bool true) s) : wpAny (model prog w) A (richCompare .Eq (.ref l) (.ref b)) Q E s := by
  obtain ⟨⟨c1, d1, dat1, s1⟩, g1, rfl, n, rfl⟩ := hl
  obtain ⟨⟨c2, d2, dat2, s2⟩, g2, rfl, m, rfl⟩ := hb
  have t1 : s.TypeIs (.ref l) "tuple" := ⟨_, g1, rfl⟩
  refine wpAny_richCompare_same_room (op := .Eq) t1 ⟨_, g2, rfl⟩ F.slot_tuple_eq (call_meetsIn F.slot_tuple_eq t1 F.entry_tuple_eq (F.args_tuple_eq_2 _ _) (tup_true l b us ws n m d1 d2 s1 s2 hlen) ⟨g1, g2, he, ?_⟩) hu
  exact ⟨(fun z => nomatch z), q⟩
end
/-- .. or two tuples of equal items -/
def EqW (K : PySem.W.Frag) (H : Hp) (E : V → V → Prop) (x y : V) : Prop := EqR K H E x y ∨ ∃ a b xs ys, x = .ref a ∧ y = .ref b ∧ SqT K H a xs ∧ SqT K H b ys ∧ Paired E xs ys
def EqT (K : PySem.W.Frag) (H : Hp) : Nat → V → V → Prop
  | 0 => fun _ _ => False
  | n + 1 => fun x y => (x = y ∧ flatB x = true) ∨ (∃ a, x = .ref a ∧ y = .ref a) ∨ EqW K H (EqT K H n) x y
section
variable {X : Cx} {pins : List (Addr × Obj)} {σ : L2.St} {H : Hp} {s : Shared}
/-- one step: what stands one deeper is told apart already -/
theorem eqW_run (I : Inv X pins σ H s) {A : Around} {F : V → V → Prop} (room : A.units < cLine) (inner : ∀ x y v u, F x y → RelV x v → RelV y u → SeqAt.EqP X.prog X.w A.in1 s v u true) {x y : V} {v u : Value} (eq : EqW X.K H F x y) (hx : RelV x v) (hy : RelV y u) (E Q : Value → Shared → Prop) (done : Q (.bool true) s) :
    wpAny (model X.prog X.w) A (richCompare .Eq v u) Q E s := by
  cases eq with
  | inl eq => exact eqR_run I room inner eq hx hy E Q done
  | inr eq =>
    obtain ⟨c, d, xs, ys, rfl, rfl, hc, hd, pairs⟩ := eq
    obtain rfl : v = .ref c := hx
    obtain rfl : u = .ref d := hy
    obtain ⟨us, ru, tu, _⟩ := I.tuple hc
    obtain ⟨ws, rw_, tw, _⟩ := I.tuple hd
    have len : us.length = ws.length := ru.length.symm.trans (pairs.length.trans rw_.length)
    refine rcP_tups tu tw len room (fun z hz => ?_) E Q done
    obtain ⟨i, hi⟩ := List.mem_iff_getElem?.mp hz
    have both := List.getElem?_zip_eq_some.mp hi
    obtain ⟨iu, eu⟩ := List.getElem?_eq_some_iff.mp both.1
    obtain ⟨iw, ew⟩ := List.getElem?_eq_some_iff.mp both.2
    rw [← eu, ← ew]
    exact items_run inner pairs ru rw_ i iu iw
/-- all the way down -/
theorem eqT_run (I : Inv X pins σ H s) (n : Nat) : ∀ (A : Around), A.units + n < cLine → ∀ (x y : V) (v u : Value), EqT X.K H n x y → RelV x v → RelV y u → SeqAt.EqP X.prog X.w A s v u true := by
  induction n with
  | zero => exact fun _ _ _ _ _ _ no => False.elim no
  | succ m ih =>
    intro A room x y v u eq hx hy
    rcases eq with ⟨same, flat⟩ | same | deep
    · subst same
      exact SeqAt.EqAt.eqP (eqAt_same hx hy flat)
    · obtain ⟨c, rfl, rfl⟩ := same
      rw [show v = .ref c from hx, show u = .ref c from hy]
      exact SeqAt.EqAt.eqP (SeqAt.EqAt.same _)
    · have run := eqW_run I (A := A) (by omega) (ih A.in1 (by show A.units + 1 + m < cLine; omega)) deep hx hy
      obtain ⟨c, d, ec, ed⟩ : ∃ c d, x = .ref c ∧ y = .ref d := by
        rcases deep with (⟨c, d, _, _, p, q, _⟩ | ⟨c, d, _, _, p, q, _⟩) | ⟨c, d, _, _, p, q, _⟩ <;> exact ⟨c, d, p, q⟩
      rw [ec] at hx
      rw [ed] at hy
      rw [show v = .ref c from hx, show u = .ref d from hy] at run ⊢
      by_cases one : c = d
      · rw [one]
        exact SeqAt.EqAt.eqP (SeqAt.EqAt.same _)
      · exact SeqAt.eqP_refs one run
end
/-- a == b, equal all through -/
def rEqT (K : PySem.W.Frag) : R2 := fun x y H Q => ∃ n, n ≤ 60 ∧ EqW K H (EqT K H n) x y ∧ Q (.bl true) H
theorem op_eqT {X : Cx} (hu : X.A.units + 64 < cLine) : OpR X (compareOp .Eq) (rEqT X.K) := by
  intro pins s σ H x y v u Q I rx ry ⟨n, hn, h, q⟩
  exact eqW_run I (A := X.A) (by omega) (eqT_run I n X.A.in1 (by show X.A.units + 1 + n < cLine; omega)) h rx ry _ _ ⟨.bl true, H, I, rfl, q⟩
/-! what is of the same data is equal -/
mutual
theorem td_eq {K : PySem.W.Frag} {H : Hp} : ∀ {x y : V} {d : PyData} {n : Nat}, Td K H x d → Td K H y d → PyData.depth d < n → EqT K H n x y
  | _, _, _, 0, _, _, h => absurd h (Nat.not_lt_zero _)
  | _, _, _, _ + 1, .non, t, _ => by cases t; exact .inl ⟨rfl, rfl⟩
  | _, _, _, _ + 1, .bl _, t, _ => by cases t; exact .inl ⟨rfl, rfl⟩
  | _, _, _, _ + 1, .int _, t, _ => by cases t; exact .inl ⟨rfl, rfl⟩
  | _, _, _, _ + 1, .str _, t, _ => by cases t; exact .inl ⟨rfl, rfl⟩
  | _, _, _, n + 1, .tup (ds := ds) q r, t, h => by
    obtain ⟨b, ys, rfl, q2, r2⟩ := Td.row t
    exact .inr (.inr (.inr ⟨_, b, _, ys, rfl, rfl, q, q2, tds_eq r r2 (show PyData.depthAll ds < n from Nat.lt_of_succ_lt_succ h)⟩))
theorem tds_eq {K : PySem.W.Frag} {H : Hp} : ∀ {xs ys : List V} {ds : List PyData} {n : Nat}, Tds K H xs ds → Tds K H ys ds → PyData.depthAll ds < n → Paired (EqT K H n) xs ys
  | _, _, _, _, .nil, t, _ => by cases t; exact .nil
  | _, _, _, _, .cons (d := d) (ds := ds) h r, t, k => by
    cases t with
    | cons h2 r2 =>
      have k : max (PyData.depth d) (PyData.depthAll ds) < _ := k
      exact .cons (td_eq h h2 (Nat.lt_of_le_of_lt (Nat.le_max_left _ _) k)) (tds_eq r r2 (Nat.lt_of_le_of_lt (Nat.le_max_right _ _) k))
end
end Tw
namespace K02
open PySem PySem.Spec PyProof.Rows L2 Tw Sb LamX
/-! what is told can be compared -/
theorem word_ok : ∀ s : So, PyData.strOk s.word = true
  | .num _ _ => show PyData.strOk "number" = true by decide +kernel
  | .tru => show PyData.strOk "truth" = true by decide +kernel
  | .txt _ => show PyData.strOk "text" = true by decide +kernel
  | .row _ _ => show PyData.strOk "row" = true by decide +kernel
  | .may _ => show PyData.strOk "maybe" = true by decide +kernel
  | .nod _ => show PyData.strOk "node" = true by decide +kernel
  | .cho _ => show PyData.strOk "choice" = true by decide +kernel
theorem lay_of {s : So} (h : PyData.canLayAll0 s.rest = true) : PyData.canLay0 s.pd = true := by
  show (PyData.strOk s.word && PyData.canLayAll0 s.rest) = true
  rw [word_ok, h] <;> rfl
theorem oI_lay (o : Option Int) : PyData.canLay0 (oI o) = true := by cases o <;> rfl
theorem so_lay {ks cs : List Str} : ∀ {s : So} {i : Bool}, s.ok ks cs i → PyData.canLay0 s.pd = true
  | .num lo hi, _, _ => lay_of (by show (PyData.canLay0 (oI lo) && (PyData.canLay0 (oI hi) && true)) = true; rw [oI_lay, oI_lay] <;> rfl)
  | .tru, _, _ => lay_of rfl
  | .txt _, _, _ => lay_of rfl
  | .row n s, _, h => lay_of (by show (true && (PyData.canLay0 s.pd && true)) = true; rw [so_lay h.2.2] <;> rfl)
  | .may s, _, h => lay_of (by show (PyData.canLay0 s.pd && true) = true; rw [so_lay h.2] <;> rfl)
  | .nod k, _, h => lay_of (by show (PyData.strOk k && true) = true; rw [(nm_asc h.1).ok] <;> rfl)
  | .cho k, _, h => lay_of (by show (PyData.strOk k && true) = true; rw [(nm_asc h.1).ok] <;> rfl)
theorem so_depth : ∀ s : So, PyData.depth s.pd ≤ s.depth + 1
  | .num lo hi => by cases lo <;> cases hi <;> exact Nat.le_refl _
  | .tru => Nat.le_refl _
  | .txt _ => Nat.le_refl _
  | .row n s => by
    show max 0 (max 0 (max (PyData.depth s.pd) 0)) + 1 ≤ s.depth + 1 + 1
    have := so_depth s
    omega
  | .may s => by
    show max 0 (max (PyData.depth s.pd) 0) + 1 ≤ s.depth + 1 + 1
    have := so_depth s
    omega
  | .nod _ => Nat.le_refl _
  | .cho _ => Nat.le_refl _
theorem plain_ok {z : Str} (h : z.cps.toList.all plainC = true) : PyData.strOk z = true := by
  rw [List.all_eq_true] at h
  refine (Asc.ok (n := z.length) ⟨Nat.le_refl _, fun c hc => ?_⟩)
  have := of_decide_eq_true (show decide (32 ≤ c ∧ c ≤ 126 ∧ c ≠ 37) = true from h c hc)
  omega
theorem def_lay : ∀ {s : So} {d : PyData}, DefOk s d → PyData.canLay0 d = true ∧ PyData.depth d ≤ 1
  | s, .int _, _ => ⟨rfl, Nat.zero_le _⟩
  | s, .bool _, _ => ⟨rfl, Nat.zero_le _⟩
  | s, .none, _ => ⟨rfl, Nat.zero_le _⟩
  | .txt m, .str z, h => ⟨plain_ok h.2.1, Nat.zero_le _⟩
  | s, .tuple [], _ => ⟨rfl, Nat.le_refl _⟩
  | s, .tuple (_ :: _), h => by cases s <;> exact (show False from h).elim
  | s, .list _, h => by cases s <;> exact (show False from h).elim
  | s, .dict _, h => by cases s <;> exact (show False from h).elim
  | .num _ _, .str _, h => (show False from h).elim
  | .tru, .str _, h => (show False from h).elim
  | .row _ _, .str _, h => (show False from h).elim
  | .may _, .str _, h => (show False from h).elim
  | .nod _, .str _, h => (show False from h).elim
  | .cho _, .str _, h => (show False from h).elim
theorem en_of {k : Bool} {ks cs : List Str} {es : List En} {e : En} (h : EnOk k ks cs es e) (hd : ∀ s, e.of = some s → s.depth ≤ 2) : PyData.canLay0 e.pd = true ∧ PyData.depth e.pd ≤ 4 := by
  have hof : PyData.canLay0 (e.of.elim .none So.pd) = true ∧ PyData.depth (e.of.elim .none So.pd) ≤ 3 := by
    cases ho : e.of with
    | none => exact ⟨rfl, Nat.zero_le _⟩
    | some s =>
      refine ⟨so_lay (h.some s ho).2.1, ?_⟩
      show PyData.depth s.pd ≤ 3
      have := so_depth s
      have := hd s ho
      omega
  have hle : PyData.canLayAll0 e.left.toList = true ∧ PyData.depthAll e.left.toList ≤ 1 := by
    cases hl : e.left with
    | none => exact ⟨rfl, Nat.zero_le _⟩
    | some d =>
      cases ho : e.of with
      | none => rw [(h.none ho).2] at hl; cases hl
      | some s =>
        obtain ⟨g1, g2⟩ := def_lay ((h.some s ho).2.2 d hl).2
        refine ⟨?_, ?_⟩
        · show (PyData.canLay0 d && true) = true
          rw [g1] <;> rfl
        · show max (PyData.depth d) 0 ≤ 1
          omega
  refine ⟨?_, ?_⟩
  · show (true && (PyData.strOk e.name && (PyData.canLay0 (e.of.elim .none So.pd) && PyData.canLayAll0 e.left.toList))) = true
    rw [(nm_asc h.name).ok, hof.1, hle.1] <;> rfl
  · show max 0 (max 0 (max (PyData.depth (e.of.elim .none So.pd)) (PyData.depthAll e.left.toList))) + 1 ≤ 4
    have := hof.2
    have := hle.2
    omega
theorem all_lay : ∀ {ds : List PyData} {n : Nat}, (∀ d ∈ ds, PyData.canLay0 d = true ∧ PyData.depth d ≤ n) → PyData.canLayAll0 ds = true ∧ PyData.depthAll ds ≤ n
  | [], _, _ => ⟨rfl, Nat.zero_le _⟩
  | d :: r, n, h => by
    obtain ⟨g1, g2⟩ := h d List.mem_cons_self
    obtain ⟨g3, g4⟩ := all_lay (n := n) fun x hx => h x (List.mem_cons_of_mem _ hx)
    refine ⟨?_, Nat.max_le.mpr ⟨g2, g4⟩⟩
    show (PyData.canLay0 d && PyData.canLayAll0 r) = true
    rw [g1, g3] <;> rfl
theorem row_lay {k : Bool} {ks cs : List Str} {es : List En} (h : RowOk k ks cs es) (hd : Dep es) : ∀ d ∈ es.map En.pd, PyData.canLay0 d = true ∧ PyData.depth d ≤ 4 := fun d hm => by
  obtain ⟨e, he, rfl⟩ := List.mem_map.mp hm
  obtain ⟨i, hi⟩ := List.mem_iff_getElem?.mp he
  exact en_of (h i e hi) (hd e he)
theorem cell_lay {k : Bool} {ks cs : List Str} {r : BRow} (hn : isNm r.1.1 = true) (h : RowOk k ks cs r.1.2) (hd : Dep r.1.2) : PyData.canLay0 (cellD r) = true ∧ PyData.depth (cellD r) ≤ 6 := by
  obtain ⟨g1, g2⟩ := all_lay (row_lay h hd)
  refine ⟨?_, ?_⟩
  · show (PyData.strOk r.1.1 && (true && (PyData.canLayAll0 (r.1.2.map En.pd) && true))) = true
    rw [(nm_asc hn).ok, g1] <;> rfl
  · show max 0 (max 0 (max (PyData.depthAll (r.1.2.map En.pd) + 1) 0)) + 1 ≤ 6
    omega
/-- the rows of a table are well -/
def TabD (tb : List TRow) : Prop := ∀ r ∈ tb, r.2.length ≤ 5 ∧ Dep r.2
theorem form_eq {t1 t2 : List BRow} {s : So} (ok : ScOk (t1.map Prod.fst) (t2.map Prod.fst) s) (h1 : TabD (t1.map Prod.fst)) (h2 : TabD (t2.map Prod.fst)) : SeqAt.shaped (formD t1 t2) = true ∧ PyData.eqv (formD t1 t2) (formD t1 t2) = true := by
  have c1 : ∀ d ∈ t1.map cellD, PyData.canLay0 d = true ∧ PyData.depth d ≤ 6 := fun d hm => by
    obtain ⟨r, hr, rfl⟩ := List.mem_map.mp hm
    have hr' : r.1 ∈ t1.map Prod.fst := List.mem_map.mpr ⟨r, hr, rfl⟩
    exact cell_lay (ok.t1 _ hr').1 (ok.t1 _ hr').2.1 (h1 _ hr').2
  have c2 : ∀ d ∈ t2.map cellD, PyData.canLay0 d = true ∧ PyData.depth d ≤ 6 := fun d hm => by
    obtain ⟨r, hr, rfl⟩ := List.mem_map.mp hm
    have hr' : r.1 ∈ t2.map Prod.fst := List.mem_map.mpr ⟨r, hr, rfl⟩
    exact cell_lay (ok.t2 _ hr').1 (ok.t2 _ hr').2.1 (h2 _ hr').2
  obtain ⟨a1, b1⟩ := all_lay c1
  obtain ⟨a2, b2⟩ := all_lay c2
  have lay : PyData.canLay0 (formD t1 t2) = true := by
    show (PyData.canLayAll0 (t1.map cellD) && (PyData.canLayAll0 (t2.map cellD) && true)) = true
    rw [a1, a2] <;> rfl
  have dep : PyData.depth (formD t1 t2) ≤ 64 := by
    show max (PyData.depthAll (t1.map cellD) + 1) (max (PyData.depthAll (t2.map cellD) + 1) 0) + 1 ≤ 64
    omega
  refine ⟨?_, SeqAt.eqv_refl _ lay⟩
  unfold SeqAt.shaped
  rw [lay, decide_eq_true dep] <;> rfl
end K02
namespace K02
open PySem PySem.Spec PyProof.Rows L2 Tw Sb LamX
theorem pd_left {α β : Type} {F : α → β → Prop} {x : α} : ∀ {xs : List α} {ys : List β}, Paired F xs ys → x ∈ xs → ∃ y, y ∈ ys ∧ F x y
  | _, _, .cons h r, hm => by
    rcases List.mem_cons.mp hm with rfl | hm
    · exact ⟨_, List.mem_cons_self, h⟩
    · obtain ⟨y, h1, h2⟩ := pd_left r hm
      exact ⟨y, List.mem_cons_of_mem _ h1, h2⟩
/-- two dicts of the same rows -/
theorem tabs_eq {K : PySem.W.Frag} {H : Hp} {a b : Addr} {ks ls : List (Key × V)} {tb : List TRow} {n : Nat} (ha : H a = some (.dK ks)) (hb : H b = some (.dK ls)) (h1 : Paired (RowT K H) ks tb) (h2 : Paired (RowT K H) ls tb) (nd : (tb.map Prod.fst).Nodup) (hd : ∀ r ∈ tb, PyData.depthAll (r.2.map En.pd) < n) : EqT K H (n + 2) (.ref a) (.ref b) := by
  refine .inr (.inr (.inl (.inr ⟨a, b, ks, ls, rfl, rfl, ha, hb, h1.length.trans h2.length.symm, fun p hp => ?_⟩)))
  obtain ⟨r, hr, e, c, xs, hc, hT, hX⟩ := pd_left h1 hp
  obtain ⟨c2, ys, g1, g2, g3⟩ := val_row h2 nd hr
  refine ⟨.ref c2, by rw [e]; exact g1, ?_⟩
  rw [hc]
  exact .inr (.inr (.inr ⟨c, c2, xs, ys, rfl, rfl, hT, g2, tds_eq hX g3 (hd r hr)⟩))
theorem sort_deep {tb : List TRow} {k : Bool} {ks cs : List Str} (h : TabOk k ks cs tb) (hd : TabD tb) : ∀ r ∈ sortT tb, PyData.depthAll (r.2.map En.pd) < 5 := fun r hr => by
  unfold sortT at hr
  obtain ⟨r', hr', rfl⟩ := List.mem_map.mp hr
  have g := row_lay (h r' hr').2.1 (hd r' hr').2
  refine Nat.lt_succ_of_le (all_lay (n := 4) fun d hm => g d ?_).2
  obtain ⟨e, he, rfl⟩ := List.mem_map.mp hm
  exact List.mem_map.mpr ⟨e, List.mem_mergeSort.mp he, rfl⟩
theorem rowL_is {K : PySem.W.Frag} {N : Addr → Prop} {H : Hp} {kvs : List (Key × V)} {tb : List TRow} (h : Paired (RowL K N H) kvs tb) : Paired (RowIs K H) kvs tb := pd_mono (fun _ _ h => RowL.is h) h
/-- what the law makes of the parts and the schema -/
def spRight (K : PySem.W.Frag) (C : Addr) (TS : List (Addr × Str)) : Sp := fun vs H Q _ => ∃ (p q : Addr) (tb1 tb2 : List TRow) (s : So), vs = [.ref p, .ref q] ∧ ScAt K C (fun _ => True) H p tb1 tb2 s ∧ PartsAt K (fun _ => True) H q tb1 tb2 s ∧ ScOk tb1 tb2 s ∧ s.depth ≤ 2 ∧ TabD tb1 ∧ TabD tb2 ∧ Tabs TS H ∧
  ∀ H', ExtN H H' → Tabs TS H' → Q (.bl true) H'
section
variable {P : Program} {w : World} {K : PySem.W.Frag} {mg : Str → Option Value} {base : Heap}
theorem ok_right {C f : Addr} {fd : FuncData} {TS : List (Addr × Str)} (F : Fun K "_law_right" "_law_right" s__law_right f fd) (T : Bu mg) (cl : ClS K C) (c__law_sorted : Cal P w K mg base 4 "_law_sorted" ["_law_table"] (spLSort K TS)) : FnOk P w K mg base CX0 5 f fd ["_law_schema", "_law_parts_here"] (spRight K C TS) := by
  refine F.ok sc__law_right (fun vs H Q E h => ?_) (fun cdv A outer s H vs Q E hr h => ?_)
  · obtain ⟨p, q, tb1, tb2, z, rfl, _⟩ := h
    rfl
  · obtain ⟨p, q, tb1, tb2, z, rfl, hs, hpt, ok, hdz, hD1, hD2, hT, fin⟩ := h
    obtain ⟨dx, k1, k2, kv1, kv2, rv, _, _, hp, hk1, hr1, hk2, hr2, hrv⟩ := hs
    obtain ⟨d1, d2, rv', pv1, pv2, hq, _, _, hd1, hd2, hpr1, hpr2, hrv'⟩ := hpt
    refine ⟨_, (pss_mid (ps_if (PW.pt (pw_or (pt_not (pt_val (pe_callB (id := "isinstance") (r := rIsi K) call_isi (by rfl) T.n_isinstance (by decide +kernel) (pa_cons (pe_fld (pv 0) rfl) (pa_cons (pe_bltn (v := .ty "dict") rfl T.n_dict (by decide +kernel) rfl) pa_nil))))) (pw_or1 (pt_not (pt_val (pe_callB (id := "isinstance") (r := rIsi K) call_isi (by rfl) T.n_isinstance (by decide +kernel) (pa_cons (pe_fld (pv 0) rfl) (pa_cons (pe_bltn (v := .ty "dict") rfl T.n_dict (by decide +kernel) rfl) pa_nil))))))))
        (pss_one (ps_ret pe_bl))
        pss_nil)
      (pss_one (ps_ret (pe_cmpR (op_eqT hr.units) (pe_tup (pa_cons (pe_fld (pv 0) rfl) (pa_cons (pe_fld (pv 0) rfl) (pa_cons (pe_fld (pv 0) rfl) pa_nil)))) (pe_tup (pa_cons (pe_cal c__law_sorted hr (by decide) (by rfl) (pa_cons (pe_ix (r := rIxT K) ix_tup (pv 1) pe_int (fun _ _ => rfl)) pa_nil)) (pa_cons (pe_cal c__law_sorted hr (by decide) (by rfl) (pa_cons (pe_ix (r := rIxT K) ix_tup (pv 1) pe_int (fun _ _ => rfl)) pa_nil)) (pa_cons (pe_ix (r := rIxT K) ix_tup (pv 1) pe_int (fun _ _ => rfl)) pa_nil)))) (nomark _))))), ?_⟩
    have kd : ∀ {K : PySem.W.Frag}, PySem.W.kitOne K (.type "dict") (.type "dict") = some true := kit_ty (by decide +kernel)
    refine ⟨fun σ H' => σ = [some (.ref p), some (.ref q)] ∧ H' = H, ?_, ?_⟩
    · refine ⟨_, rfl, p, C, dx, _, .ref k1, rfl, hp, cl.cl, cl.nK, rfl, .ref k1, _, .type "dict", .type "dict", true, rfl, .ty "dict", .base (.dK hk1), kd, _, rfl, ?_⟩
      exact ⟨_, rfl, p, C, dx, _, .ref k2, rfl, hp, cl.cl, cl.nC, rfl, .ref k2, _, .type "dict", .type "dict", true, rfl, .ty "dict", .base (.dK hk2), kd, _, rfl, ⟨rfl, rfl⟩⟩
    rintro σ H0 ⟨rfl, rfl⟩
    refine ⟨_, rfl, p, C, dx, _, .ref k1, rfl, hp, cl.cl, cl.nK, rfl, _, rfl, p, C, dx, _, .ref k2, rfl, hp, cl.cl, cl.nC, rfl, _, rfl, p, C, dx, _, rv, rfl, hp, cl.cl, cl.nR, rfl, by show 3 ≤ sizeLine; decide, fun t1 ht1 => ?_⟩
    have s1 := same_upd (o := .tup [.ref k1, .ref k2, rv]) ht1
    have ht1v : (upd H0 t1 (.tup [.ref k1, .ref k2, rv])) t1 = some (.tup [.ref k1, .ref k2, rv]) := upd_same
    have hT1 := hT.ext s1
    generalize upd H0 t1 (.tup [.ref k1, .ref k2, rv]) = H1 at s1 ht1v hT1 ⊢
    have e1 : ExtN H0 H1 := .of s1
    refine ⟨_, rfl, q, _, 0, .ref d1, rfl, rfl, Same.tupq s1 hq, at0, d1, pv1, tb1, rfl, s1 _ _ hd1, pd_mono (fun _ _ h => RowIs.extN e1 h) (rowL_is hpr1), ok.n1, ok.l1, hT1, fun H2 r1 ls1 e2 hT2 hr1v hrr1 => ?_⟩
    have e12 := e1.trans e2
    refine ⟨_, rfl, q, _, 1, .ref d2, rfl, rfl, SqT.extN hq e12, at1, d2, pv2, tb2, rfl, e12 _ _ hd2 (fun _ z => nomatch z), pd_mono (fun _ _ h => RowIs.extN e12 h) (rowL_is hpr2), ok.n2, ok.l2, hT2, fun H3 r2 ls2 e3 hT3 hr2v hrr2 => ?_⟩
    have e13 := e12.trans e3
    refine ⟨_, rfl, q, _, 2, rv', rfl, rfl, SqT.extN hq e13, at2, by show 3 ≤ sizeLine; decide, fun t2 ht2 => ?_⟩
    have s4 := same_upd (o := .tup [.ref r1, .ref r2, rv']) ht2
    have e14 : ExtN H0 (upd H3 t2 (.tup [.ref r1, .ref r2, rv'])) := e13.trans (.of s4)
    have e24 : ExtN H2 (upd H3 t2 (.tup [.ref r1, .ref r2, rv'])) := e3.trans (.of s4)
    have n1 : ((sortT tb1).map Prod.fst).Nodup := by rw [sortT_keys]; exact ok.n1
    have n2 : ((sortT tb2).map Prod.fst).Nodup := by rw [sortT_keys]; exact ok.n2
    have E1 : EqT K (upd H3 t2 (.tup [.ref r1, .ref r2, rv'])) 7 (.ref k1) (.ref r1) := tabs_eq (n := 5) (e14 _ _ hk1 fun _ z => nomatch z) (e24 _ _ hr1v fun _ z => nomatch z) (pd_mono (fun _ _ h => RowT.keep (KeepT.extN e14) h) hr1) (pd_mono (fun _ _ h => RowT.keep (KeepT.extN e24) h) hrr1) n1 (sort_deep ok.t1 hD1)
    have E2 : EqT K (upd H3 t2 (.tup [.ref r1, .ref r2, rv'])) 7 (.ref k2) (.ref r2) := tabs_eq (n := 5) (e14 _ _ hk2 fun _ z => nomatch z) (s4 _ _ hr2v) (pd_mono (fun _ _ h => RowT.keep (KeepT.extN e14) h) hr2) (pd_mono (fun _ _ h => RowT.keep (KeepT.same s4) h) hrr2) n2 (sort_deep ok.t2 hD2)
    have E3 : EqT K (upd H3 t2 (.tup [.ref r1, .ref r2, rv'])) 7 rv rv' := td_eq (hrv.keep (KeepT.extN e14)) (hrv'.keep (KeepT.extN e14)) (by
      have := so_depth z
      omega)
    refine ⟨7, by decide, .inr ⟨t1, t2, _, _, rfl, rfl, KeepT.extN (e2.trans (e3.trans (.of s4))) _ _ (SqT.of ht1v), SqT.of upd_same, .cons E1 (.cons E2 (.cons E3 .nil))⟩, ?_⟩
    exact fin _ e14 (hT3.ext s4)
end
end K02
/-! TwD2: is a dict empty (by ==); an instance made by keywords. -/
namespace Tw
open PySem PySem.Spec PyProof.Rows L2
def rEqE : R2 := fun x y H Q => ∃ (a b : Addr) (ks : List (Key × V)), x = .ref a ∧ y = .ref b ∧ H a = some (.dK ks) ∧ H b = some (.dK []) ∧ Q (.bl (decide (ks = []))) H
theorem op_eqE {X : Cx} (hu : X.A.units + 64 < cLine) : OpR X (compareOp .Eq) rEqE := by
  intro pins s σ H x y v u Q I rx ry ⟨a, b, ks, ex, ey, ha, hb, q⟩
  subst ex ey
  obtain rfl : v = Value.ref a := rx
  obtain rfl : u = Value.ref b := ry
  obtain ⟨_, na, va, ra, da⟩ := (show ObjOk X.prog X.w H s.heap a (.dK ks) from I.hok a _ ha)
  obtain ⟨_, nb, vb, rb, db⟩ := (show ObjOk X.prog X.w H s.heap b (.dK []) from I.hok b _ hb)
  obtain rfl : vb = [] := List.eq_nil_of_length_eq_zero rb.length.symm
  refine PySem.W.rcP_dicts (knd := mixKind X.prog X.w) (r := true) na nb da db (by omega) (fun h => ?_) _ _ ?_
  · obtain rfl : va = [] := List.eq_nil_of_length_eq_zero h
    exact .nil
  · refine ⟨.bl _, H, I, ?_, q⟩
    have e := ra.length
    cases ks with
    | nil =>
      obtain rfl : va = [] := List.eq_nil_of_length_eq_zero e.symm
      rfl
    | cons k r =>
      cases va with
      | nil => cases e
      | cons => rfl
structure MkK (P : Program) (w : World) (K : PySem.W.Frag) (mg : Str → Option Value) (base : Heap) (C : Addr) (k : Nat) (x : Str) (n : Nat) (ks : List Str) (gV : List V → List V → List V) (sp : Sp) : Prop where
  ex : ∃ (f : Addr) (fd : FuncData) (ps : List Str) (g : List Value → List Value → List Value), Mk K C f ∧ FnOk P w K mg base CX0 k f fd ps sp ∧ KBn K fd ps (n + 1) ks g gV
  gC : mg x = some (.ref C)
section
variable {X : Cx} {j k n : Nat} {C : Addr} {x : Str} {ks : List Str} {gV : List V → List V → List V} {sp : Sp} {e : Expr} {es : List Expr} {kws : List Keyword} {t tk : TA} {pos p : Pos}
theorem pe_mkK (M : MkK X.prog X.w X.K X.mg X.base C k x n ks gV sp) (hr : Room j X.A) (hk : k + 1 ≤ j) (hg : Gl X x) (ha : PA X (e :: es) t) (hkw : PK X kws tk)
    (hall : (backToKw pos (keywordEach kws X.env)).all (·.1.isSome) = true := by rfl) (hks : (backToKw pos (keywordEach kws X.env)).filterMap (·.1) = ks := by rfl) (hdb : (x == ("__debug__" : Str)) = false := by decide)
    (he : starEach (e :: es) X.env = (false, eval e X.env) :: starEach es X.env := by rfl) (hpl : ((backTo pos (starEach (e :: es) X.env)).any (·.1) || (backToKw pos (keywordEach kws X.env)).any (·.1.isNone)) = false := by rfl) :
    PE X (.Call (.Name x p) (e :: es) kws pos) (tMakeK C n ks.length sp gV E0 t tk) := by
  obtain ⟨f, fd, ps, g, hm, F, b⟩ := M.ex
  exact pe_makeK hm F (hr.mono hk) hg M.gC b pass0 ha hkw hall hks hdb he hpl
theorem pe_mkK0 (M : MkK X.prog X.w X.K X.mg X.base C k x 0 ks gV sp) (hr : Room j X.A) (hk : k + 1 ≤ j) (hg : Gl X x) (hkw : PK X kws tk)
    (hall : (backToKw pos (keywordEach kws X.env)).all (·.1.isSome) = true := by rfl) (hks : (backToKw pos (keywordEach kws X.env)).filterMap (·.1) = ks := by rfl) (hdb : (x == ("__debug__" : Str)) = false := by decide)
    (hpl : ((backTo pos (starEach [] X.env)).any (·.1) || (backToKw pos (keywordEach kws X.env)).any (·.1.isNone)) = false := by rfl) :
    PE X (.Call (.Name x p) [] kws pos) (tMakeK C 0 ks.length sp gV E0 tNil tk) := by
  obtain ⟨f, fd, ps, g, hm, F, b⟩ := M.ex
  exact pe_makeK0 hm F (hr.mono hk) hg M.gC b pass0 hkw hall hks hdb hpl
end
end Tw
namespace K02
open PySem PySem.Spec PyProof.Rows L2 Tw Sb LamX
/-! what is kept of a turn -/
def FzN (W : Addr → Prop) (H H' : Hp) : Prop := ∀ b o, ¬ W b → H b = some o → (∀ ps, o ≠ .tbl ps) → H' b = some o
theorem ScAt_keep {K : PySem.W.Frag} {C p : Addr} {N N' : Addr → Prop} {H H' : Hp} {tb1 tb2 : List TRow} {s : So} (hp : ∀ o, H p = some o → (∀ ps, o ≠ .tbl ps) → H' p = some o) (n : ∀ b kv, N b → H b = some (.dK kv) → N' b ∧ H' b = some (.dK kv)) (k : KeepT K H H') (h : ScAt K C N H p tb1 tb2 s) : ScAt K C N' H' p tb1 tb2 s := by
  obtain ⟨dx, k1, k2, kv1, kv2, rv, n1, n2, h1, h2, h3, h4, h5, h6⟩ := h
  obtain ⟨a1, a2⟩ := n k1 _ n1 h2
  obtain ⟨b1, b2⟩ := n k2 _ n2 h4
  exact ⟨dx, k1, k2, kv1, kv2, rv, a1, b1, hp _ h1 (fun _ z => nomatch z), a2, pd_mono (fun _ _ h => RowT.keep k h) h3, b2, pd_mono (fun _ _ h => RowT.keep k h) h5, h6.keep k⟩
theorem PartsAt_keep {K : PySem.W.Frag} {q : Addr} {N N' : Addr → Prop} {H H' : Hp} {tb1 tb2 : List TRow} {s : So} (n : ∀ b o, N b → H b = some o → (∀ ps, o ≠ .tbl ps) → N' b ∧ H' b = some o) (k : KeepT K H H') (h : PartsAt K N H q tb1 tb2 s) : PartsAt K N' H' q tb1 tb2 s := by
  obtain ⟨d1, d2, rv, kv1, kv2, hq, n1, n2, h1, h2, h3, h4, h5⟩ := h
  obtain ⟨a1, a2⟩ := n d1 _ n1 h1 (fun _ z => nomatch z)
  obtain ⟨b1, b2⟩ := n d2 _ n2 h2 (fun _ z => nomatch z)
  exact ⟨d1, d2, rv, kv1, kv2, k _ _ hq, a1, b1, a2, b2, pd_mono (fun _ _ h => RowL.keep (fun b xs hn hb => n b _ hn hb (fun _ z => nomatch z)) k h) h3, pd_mono (fun _ _ h => RowL.keep (fun b xs hn hb => n b _ hn hb (fun _ z => nomatch z)) k h) h4, h5.keep k⟩
/-- a schema and its parts, as they were kept -/
def Good (K : PySem.W.Frag) (C : Addr) (N : Addr → Prop) (H : Hp) (v : V) : Prop := ∃ (t p q : Addr) (tb1 tb2 : List TRow) (s : So), v = .ref t ∧ SqT K H t [.ref p, .ref q] ∧ N p ∧ ScAt K C N H p tb1 tb2 s ∧ PartsAt K N H q tb1 tb2 s ∧ ScOk tb1 tb2 s ∧ s.depth ≤ 2 ∧ TabD tb1 ∧ TabD tb2
theorem Good.keep {K : PySem.W.Frag} {C : Addr} {N N' : Addr → Prop} {H H' : Hp} {v : V} (n : ∀ b o, N b → H b = some o → (∀ ps, o ≠ .tbl ps) → N' b ∧ H' b = some o) (k : KeepT K H H') (h : Good K C N H v) : Good K C N' H' v := by
  obtain ⟨t, p, q, tb1, tb2, s, e, h1, h2, h3, h4, h5⟩ := h
  have hp : N' p := by
    obtain ⟨dx, k1, k2, kv1, kv2, rv, _, _, g, _⟩ := h3
    exact (n p _ h2 g (fun _ z => nomatch z)).1
  exact ⟨t, p, q, tb1, tb2, s, e, k _ _ h1, hp, ScAt_keep (fun o e t => (n p o h2 e t).2) (fun b kv hn hb => n b _ hn hb (fun _ z => nomatch z)) k h3, PartsAt_keep n k h4, h5⟩
/-! rows that were handed, changed behind the schema's back -/
def RowX (W : Addr → Prop) (H : Hp) (m : Nat) (kv : Key × V) : Prop := ∃ (b : Addr) (c : Bool) (xs : List V), kv.2 = .ref b ∧ W b ∧ H b = some (rowO c xs) ∧ xs.length ≤ m
def AllX (W : Addr → Prop) (H : Hp) (m : Nat) (u : List (Key × V)) : Prop := ∀ kv ∈ u, RowX W H m kv
theorem rowO_dK {c : Bool} {xs : List V} {kv : List (Key × V)} : rowO c xs ≠ .dK kv := by cases c <;> exact fun z => nomatch z
theorem rowO_frz {c : Bool} {xs : List V} {o : Obj} {u : HO} : rowO c xs ≠ .frz o u := by cases c <;> exact fun z => nomatch z
theorem AllX.dict {W : Addr → Prop} {H : Hp} {m : Nat} {u : List (Key × V)} {d : Addr} {o o' : HO} (h : AllX W H m u) (hd : H d = some o) (n : ∀ c xs, rowO c xs ≠ o) : AllX W (upd H d o') m u := fun kv hk => by
  obtain ⟨b, c, xs, h1, h2, h3, h4⟩ := h kv hk
  exact ⟨b, c, xs, h1, h2, by rw [upd_ne (fun e => by rw [e, hd] at h3; exact n c xs (Option.some.inj h3).symm)]; exact h3, h4⟩
theorem AllX.push {W : Addr → Prop} {H : Hp} {m : Nat} {u : List (Key × V)} {b : Addr} {xs : List V} {v : V} (h : AllX W H m u) (hb : H b = some (.lst xs)) (hl : xs.length ≤ m) : AllX W (upd H b (.lst (xs ++ [v]))) (m + 1) u := fun kv hk => by
  obtain ⟨c, k, ys, h1, h2, h3, h4⟩ := h kv hk
  by_cases e : c = b
  · exact ⟨c, true, xs ++ [v], h1, h2, by rw [e, upd_same] <;> rfl, by rw [List.length_append]; exact Nat.succ_le_succ hl⟩
  · exact ⟨c, k, ys, h1, h2, by rw [upd_ne e]; exact h3, Nat.le_succ_of_le h4⟩
theorem AllX.le {W : Addr → Prop} {H : Hp} {m n : Nat} {u : List (Key × V)} (h : AllX W H m u) (e : m ≤ n) : AllX W H n u := fun kv hk => by
  obtain ⟨b, c, xs, h1, h2, h3, h4⟩ := h kv hk
  exact ⟨b, c, xs, h1, h2, h3, Nat.le_trans h4 e⟩
theorem allX_of {K : PySem.W.Frag} {W : Addr → Prop} {H : Hp} {u : List (Key × V)} {t : List BRow} {m : Nat} (h : Paired (RowB K W H) u t) (hl : ∀ r ∈ t, r.1.2.length ≤ m) : AllX W H m u := fun kv hk => by
  obtain ⟨r, hr, _, b, xs, h2, h3, h4, h5⟩ := pd_left h hk
  exact ⟨b, r.2, xs, h2, h3, h4, by rw [h5.len, List.length_map]; exact hl r hr⟩
theorem extN_fw {H0 H H' : Hp} {a : Addr} (e : ExtN H0 H) (ha : H0 a = none) (f : Fw a H H') : ExtN H0 H' := fun b o q n => f.1 b o (fun w => by rw [w, ha] at q; cases q) (e b o q n)
theorem tabs_fw {TS : List (Addr × Str)} {H H' : Hp} {a : Addr} (t : Tabs TS H) (w : IsWl H a) (f : Fw a H H') : Tabs TS H' := fun p hp => by
  obtain ⟨x, y, z, hw⟩ := w
  obtain ⟨ps, h1, h2, h3⟩ := t p hp
  refine ⟨ps, f.1 _ _ (fun e => by rw [e, hw] at h1; cases h1) h1, h2, fun pos cv hc => ?_⟩
  obtain ⟨c, e1, e2⟩ := h3 pos cv hc
  exact ⟨c, e1, f.1 _ _ (fun e => by
    rw [e, hw] at e2
    exact NoTab.lst.2 _ _ (Option.some.inj e2)) e2⟩
end K02
namespace K02
open PySem PySem.Spec PyProof.Rows L2 Tw Sb LamX
def spLaw2 (K : PySem.W.Frag) (TS : List (Addr × Str)) : Sp := fun vs H Q _ => ∃ (a : Addr) (ns : List Int), vs = [.ref a] ∧ SqL K H a (ns.map V.int) ∧ ns.length ≤ 63 ∧ Tabs TS H ∧ ∀ H', Q (.bl true) H'
def mkV1 : List V → List V → List V := fun vs zs => vs ++ (.non :: zs)
def mkV2 : List V → List V → List V := fun vs zs => vs ++ zs.reverse
def mkV3 : List V → List V → List V := fun vs zs => vs ++ zs
theorem keep_dict {K : PySem.W.Frag} {H : Hp} {d : Addr} {u u' : List (Key × V)} (hd : H d = some (.dK u)) : KeepT K H (upd H d (.dK u')) := KeepT.but fun b o e => by
  have nb : (∀ l, o ≠ .dK l) → b ≠ d := fun n w => by
    rw [w, hd] at e
    exact n _ (Option.some.inj e).symm
  exact ⟨fun l w => by rw [upd_ne (nb fun k z => by rw [w] at z; cases z)]; exact e, fun q l w => by rw [upd_ne (nb fun k z => by rw [w] at z; cases z)]; exact e⟩
theorem rowO_tbl {c : Bool} {xs : List V} : ∀ ps, rowO c xs ≠ .tbl ps := fun ps => by cases c <;> exact fun z => nomatch z
theorem SqL.keep_ {K : PySem.W.Frag} {H H' : Hp} {a : Addr} {xs : List V} (h : SqL K H a xs) (s : Same H H') : SqL K H' a xs := by
  rcases h with (h | ⟨o, h⟩) | h
  · exact .inl (.inl (s _ _ h))
  · exact .inl (.inr ⟨o, s _ _ h⟩)
  · exact .inr h
section
variable {P : Program} {w : World} {K : PySem.W.Frag} {mg : Str → Option Value} {base : Heap}
theorem ok_law {C f : Addr} {fd : FuncData} {TS : List (Addr × Str)} (F : Fun K "law" "law" s_law f fd) (T : Bu mg) (c__law_well : Cal P w K mg base 1 "_law_well" ["_law_cell"] spWell) (c__law_draw : Cal P w K mg base 1 "_law_draw" ["_law_well_here", "_law_many"] spDraw)
    (c__law_parts : Cal P w K mg base 8 "_law_parts" ["_law_well_here"] (spParts K)) (c__law_formed : Cal P w K mg base 2 "_law_formed" ["_law_well_here", "_law_table"] (spFormed K)) (c__law_copied : Cal P w K mg base 1 "_law_copied" ["_law_handed"] (spCopied K)) (c__law_right : Cal P w K mg base 5 "_law_right" ["_law_schema", "_law_parts_here"] (spRight K C TS))
    (m_1 : MkK P w K mg base C 7 "Schema" 1 ["root"] mkV1 (spSInit K C TS)) (m_2 : MkK P w K mg base C 7 "Schema" 0 ["root", "choices", "kinds"] mkV2 (spSInit K C TS)) (m_3 : MkK P w K mg base C 7 "Schema" 1 ["choices", "root"] mkV3 (spSInit K C TS)) :
    FnOk P w K mg base CX0 9 f fd ["_law_script"] (spLaw2 K TS) := by
  refine F.ok sc_law (fun vs H Q E h => ?_) (fun cdv A outer s H vs Q E hr h => ?_)
  · obtain ⟨a, ns, rfl, _⟩ := h
    rfl
  · obtain ⟨a0, ns, rfl, hS, hlen, hT, q⟩ := h
    refine ⟨_, (pss_cons (ps_set (i := 1) sc_law.nd rfl (.inl rfl) (pe_lst pa_nil))
      (pss_cons (ps_for PassesOwn.never rfl (pi_list (pe_op op_cat (pe_slice (r := rSlL K) sl_list (pv 0) po_none (po_some pe_int)) (pe_lst (pa_cons pe_int (pa_cons pe_int pa_nil))))) (pg_name (i := 2) sc_law.nd rfl (.inl rfl))
        (pss_cons (ps_set (i := 3) sc_law.nd rfl (.inl rfl) (pe_cal c__law_well hr (by decide) (by rfl) (pa_cons (pv 2) pa_nil)))
        (pss_cons (ps_set (i := 4) sc_law.nd rfl (.inl rfl) (pe_cal c__law_parts hr (by decide) (by rfl) (pa_cons (pv 3) pa_nil)))
        (pss_cons (ps_set (i := 5) sc_law.nd rfl (.inl rfl) (pe_lst (pa_cons (pe_cal c__law_formed hr (by decide) (by rfl) (pa_cons (pv 3) (pa_cons (pe_ix (r := rIxT K) ix_tup (pv 4) pe_int (fun _ _ => rfl)) pa_nil))) (pa_cons (pe_cal c__law_formed hr (by decide) (by rfl) (pa_cons (pv 3) (pa_cons (pe_ix (r := rIxT K) ix_tup (pv 4) pe_int (fun _ _ => rfl)) pa_nil))) pa_nil))))
        (pss_cons (ps_set (i := 6) sc_law.nd rfl (.inl rfl) (pe_cal c__law_copied hr (by decide) (by rfl) (pa_cons (pv 5) pa_nil)))
        (pss_cons (ps_set (i := 7) sc_law.nd rfl (.inl rfl) (pe_cal c__law_draw hr (by decide) (by rfl) (pa_cons (pv 3) (pa_cons pe_int pa_nil))))
        (pss_mid (ps_if (PW.pt (pw_and (pt_cmpR (op_eqE hr.units) (pe_ix (r := rIxT K) ix_tup (pv 4) pe_int (fun _ _ => rfl)) pe_dnewK (nomark _)) (pw_and1 (pt_cmpR op_eq (pv 7) pe_int (nomark _)))))
          (pss_one (ps_set (i := 8) sc_law.nd rfl (.inl rfl) (pe_mkK m_1 hr (by decide) (by rfl) (pa_cons (pe_ix (r := rIxL K) ix_list (pv 5) pe_int (fun _ _ => rfl)) pa_nil) (pk_cons (pe_ix (r := rIxT K) ix_tup (pv 4) pe_int (fun _ _ => rfl)) pk_nil))))
          (pss_one (ps_if (PW.pt (pw_and (pt_cmpR (op_eqE hr.units) (pe_ix (r := rIxT K) ix_tup (pv 4) pe_int (fun _ _ => rfl)) pe_dnewK (nomark _)) (pw_and1 (pt_cmpR op_eq (pv 7) pe_int (nomark _)))))
            (pss_one (ps_set (i := 8) sc_law.nd rfl (.inl rfl) (pe_mkK0 m_2 hr (by decide) (by rfl) (pk_cons (pe_ix (r := rIxT K) ix_tup (pv 4) pe_int (fun _ _ => rfl)) (pk_cons pe_non (pk_cons (pe_ix (r := rIxL K) ix_list (pv 5) pe_int (fun _ _ => rfl)) pk_nil))))))
            (pss_one (ps_set (i := 8) sc_law.nd rfl (.inl rfl) (pe_mkK m_3 hr (by decide) (by rfl) (pa_cons (pe_ix (r := rIxL K) ix_list (pv 5) pe_int (fun _ _ => rfl)) pa_nil) (pk_cons (pe_ix (r := rIxL K) ix_list (pv 5) pe_int (fun _ _ => rfl)) (pk_cons (pe_ix (r := rIxT K) ix_tup (pv 4) pe_int (fun _ _ => rfl)) pk_nil))))))))
        (pss_cons (ps_if (PW.pt (pw_or (pt_cmpR (op_neD hr.units) (pe_cal c__law_copied hr (by decide) (by rfl) (pa_cons (pv 5) pa_nil)) (pv 6) (nomark _)) (pw_or1 (pt_not (pt_val (pe_cal c__law_right hr (by decide) (by rfl) (pa_cons (pv 8) (pa_cons (pv 4) pa_nil))))))))
          (pss_one (ps_ret pe_bl))
          pss_nil)
        (pss_cons (ps_for PassesOwn.never rfl (pi_list (pv 5)) (pg_name (i := 9) sc_law.nd rfl (.inl rfl))
          (pss_cons (ps_lock (ps_for PassesOwn.never rfl (pi_values (pv 9)) (pg_name (i := 10) sc_law.nd rfl (.inl rfl))
            (pss_one (ps_if (pt_val (pe_callB (id := "isinstance") (r := rIsi K) call_isi (by rfl) T.n_isinstance (by decide +kernel) (pa_cons (pv 10) (pa_cons (pe_bltn (v := .ty "list") rfl T.n_list (by decide +kernel) rfl) pa_nil))))
              (pss_one (ps_expr (pe_bm PySem.F.plainAttrs_list PySem.F.slot_list_append PySem.F.type_list_append mt_append (pv 10) (pa_cons pe_int pa_nil))))
              pss_nil))))
          (pss_one (ps_expr (pe_bm0 PySem.F.plainAttrs_dict PySem.F.slot_dict_clear PySem.F.type_dict_clear mtd_clear (pv 9))))))
        (pss_one (ps_expr (pe_bm PySem.F.plainAttrs_list PySem.F.slot_list_append PySem.F.type_list_append mt_append (pv 1) (pa_cons (pe_tup (pa_cons (pv 8) (pa_cons (pv 4) pa_nil))) pa_nil)))))))))))))
      (pss_one (ps_ret (pe_callB (cr_all rfl) (by rfl) T.n_all (by decide +kernel) (pa_cons (pe_lc (own := [("_law_schema", 8), ("_law_parts_here", 4)]) (g := gTup K 2 (gCons (gName 8) (gCons (gName 4) gNil))) rfl sc_law.nd (pi_list (pe_revL (pv 1))) (blkOk_by (N := N_law) (sc := defScope s_law) (by decide +kernel)) (fun _ _ _ _ _ => (pg_tup rfl (pgs_cons (pg_name (i := 8) sc_law.nd rfl (.inl rfl)) (pgs_cons (pg_name (i := 4) sc_law.nd rfl (.inl rfl)) pgs_nil)))) (fun _ _ _ _ _ => pts_nil) (fun _ _ _ _ _ => (pe_cal c__law_right hr (by decide) (by rfl) (pa_cons (pv 8) (pa_cons (pv 4) pa_nil))))) pa_nil)))))), ?_⟩
    refine ⟨by show 0 ≤ sizeLine; decide, fun Kp hKp => ?_⟩
    have hKp1 : (upd H Kp (.lst [])) Kp = some (.lst []) := upd_same
    have hS1 : SqL K (upd H Kp (.lst [])) a0 (ns.map V.int) := SqL.keep_ hS (same_upd hKp)
    have hT1 := hT.ext (same_upd (o := .lst []) hKp)
    generalize upd H Kp (.lst []) = H1 at hKp1 hS1 hT1 ⊢
    refine ⟨_, rfl, _, rfl, a0, _, rfl, hS1, fun L1 hL1 => ⟨by show 2 ≤ sizeLine; decide, fun L2 hL2 => ?_⟩⟩
    have hcl : (cutV (ns.map V.int) none (some 5)).length ≤ 5 := by
      unfold cutV
      rw [HT.sIx_none, show (some (5 : Int)) = some ((5 : Nat) : Int) from rfl, HT.sIx_nat, List.drop_zero, List.length_take]
      omega
    have hci : ∃ ms : List Int, cutV (ns.map V.int) none (some 5) = ms.map V.int := by
      unfold cutV
      rw [← List.map_drop, ← List.map_take]
      exact ⟨_, rfl⟩
    obtain ⟨ms, hms⟩ := hci
    rw [hms] at hcl hL2 ⊢
    rw [List.length_map] at hcl
    refine ⟨L1, L2, _, _, rfl, rfl, (same_upd hL2) _ _ upd_same, upd_same, ?_, fun L hL => ⟨L, rfl, ⟨_, SqL.of upd_same⟩, ?_⟩⟩
    · rw [List.length_map]
      exact Nat.le_trans (Nat.add_le_add_right hcl _) (by decide)
    have e5 : ms.map V.int ++ [V.int 4, V.int 11] = (ms ++ [4, 11]).map V.int := by rw [List.map_append] <;> rfl
    have hl5 : (ms ++ [4, 11]).length ≤ 7 := by
      rw [List.length_append]
      show ms.length + 2 ≤ 7
      omega
    rw [e5]
    generalize ms ++ [4, 11] = cells at hl5 ⊢
    have nLK : L ≠ Kp := fun e => by
      have h := (same_upd (o := .lst [.int 4, .int 11]) hL2) _ _ ((same_upd (o := .lst (ms.map V.int)) hL1) _ _ hKp1)
      rw [← e, hL] at h
      cases h
    have s5 : Same H1 (upd (upd (upd H1 L1 (.lst (ms.map V.int))) L2 (.lst [.int 4, .int 11])) L (.lst (cells.map V.int))) := ((same_upd hL1).trans (same_upd hL2)).trans (same_upd hL)
    have hLv : (upd (upd (upd H1 L1 (.lst (ms.map V.int))) L2 (.lst [.int 4, .int 11])) L (.lst (cells.map V.int))) L = some (.lst (cells.map V.int)) := upd_same
    have hKp5 := s5 _ _ hKp1
    have hT5 := hT1.ext s5
    generalize upd (upd (upd H1 L1 (.lst (ms.map V.int))) L2 (.lst [.int 4, .int 11])) L (.lst (cells.map V.int)) = H5 at hLv hKp5 hT5 ⊢
    refine for_it (walk_list (K := K) (a := L) (xs := cells.map V.int)) (fun i σ H' => ∃ (y2 y3 y4 y5 y6 y7 y8 y9 y10 : Option V) (kp : List V), σ = [some (.ref a0), some (.ref Kp), y2, y3, y4, y5, y6, y7, y8, y9, y10] ∧ Tabs TS H' ∧ H' L = some (.lst (cells.map V.int)) ∧ H' Kp = some (.lst kp) ∧ kp.length = i ∧ ∀ v ∈ kp, Good K C (fun b => b ≠ Kp) H' v) ⟨none, none, none, none, none, none, none, none, none, [], rfl, hT5, hLv, hKp5, rfl, fun v h => nomatch h⟩ ?_ ?_ ?_
    · rintro i σ H' _ ⟨_, _, _, _, _, _, _, _, _, _, _, _, h, _⟩
      exact SqL.of h
    · rintro i x σ H2 H3 hi ⟨y2, y3, y4, y5, y6, y7, y8, y9, y10, kp, rfl, T2, hL2', hKp2, hkl, hG⟩ ⟨rfl, hx⟩
      rw [List.length_map] at hi
      obtain ⟨n, rfl⟩ : ∃ n, x = V.int n := by
        rw [List.getElem?_map] at hx
        obtain ⟨n, _, h⟩ := Option.map_eq_some_iff.mp hx
        exact ⟨n, h.symm⟩
      refine ⟨_, rfl, n, rfl, fun a H4 ha s4 w4 => ?_⟩
      have E4 : ExtN H3 H4 := .of s4
      have T4 := T2.ext s4
      refine ⟨_, rfl, a, rfl, w4, fun qp tb1 tb2 s0 H6 hP ok hdp hD1 hD2 hl1 hl2 f6 => ?_⟩
      have E6 := extN_fw E4 ha f6
      have T6 := tabs_fw T4 w4 f6
      obtain ⟨d1, d2, rv, kv1, kv2, hq, nd1, nd2, hd1, hd2, hr1, hr2, hrv⟩ := hP
      have na4 : ∀ {b : Addr}, H4 b = none → b ≠ a := fun h => w4.ne h
      refine ⟨_, rfl, _, rfl, qp, _, 0, .ref d1, rfl, rfl, hq, at0, a, d1, kv1, tb1, rfl, f6.2, hd1, na4 nd1, pd_mono (fun _ _ h => RowL.keep (fun b xs hn hb => ⟨na4 hn, hb⟩) (KeepT.same (Same.refl _)) h) hr1, ok.n1, hl1, fun r1 hv1 H7 hr1n hr1v hR1 f7 => ?_⟩
      have k67 := fw_keepT (K := K) f7 f6.2
      refine ⟨_, rfl, _, rfl, qp, _, 1, .ref d2, rfl, rfl, k67 _ _ hq, at1, a, d2, kv2, tb2, rfl, f7.2, f7.1 _ _ (na4 nd2) hd2, na4 nd2, pd_mono (fun _ _ h => RowL.keep (fun b xs hn hb => ⟨na4 hn, f7.1 _ _ (na4 hn) hb⟩) k67 h) hr2, ok.n2, hl2, fun r2 hv2 H8 hr2n hr2v hR2 f8 => ⟨by show 2 ≤ sizeLine; decide, fun hA hhA => ?_⟩⟩
      have E8 := extN_fw (extN_fw E6 ha f7) ha f8
      have T8 := tabs_fw (tabs_fw T6 f6.2 f7) f7.2 f8
      have na6 : ∀ {b : Addr}, H6 b = none → b ≠ a := fun h => f6.2.ne h
      obtain ⟨W, hWd⟩ : ∃ W : Addr → Prop, ∀ b, W b ↔ (H6 b = none ∧ ∃ o, H8 b = some o ∧ ∀ ps, o ≠ HO.tbl ps) := ⟨_, fun _ => Iff.rfl⟩
      have nR : ∀ {b : Addr} {o : HO}, H6 b = none → H8 b = some o → (∀ ps, o ≠ .tbl ps) → W b := fun {b o} h1 h2 h3 => (hWd b).mpr ⟨h1, o, h2, h3⟩
      have W6 : ∀ {b : Addr}, W b → H6 b = none := fun {b} h => ((hWd b).mp h).1
      have hR1' : Paired (RowF K W H8) hv1 tb1 := pd_mono (fun kv r h => by
        obtain ⟨h1, b, xs, h2, h3, h4, h5⟩ := h
        have k78 := fw_keepT (K := K) f8 f7.2
        rcases h4 with h4 | h4
        · have g := f8.1 b _ (na6 h3) h4
          exact ⟨h1, b, xs, h2, nR h3 g (fun _ z => nomatch z), .inl g, h5.keep k78⟩
        · have g := f8.1 b _ (na6 h3) h4
          exact ⟨h1, b, xs, h2, nR h3 g (fun _ z => nomatch z), .inr g, h5.keep k78⟩) hR1
      have hR2' : Paired (RowF K W H8) hv2 tb2 := pd_mono (fun kv r h => by
        obtain ⟨h1, b, xs, h2, h3, h4, h5⟩ := h
        rcases h4 with h4 | h4
        · exact ⟨h1, b, xs, h2, nR (f7.free f6.2 h3) h4 (fun _ z => nomatch z), .inl h4, h5⟩
        · exact ⟨h1, b, xs, h2, nR (f7.free f6.2 h3) h4 (fun _ z => nomatch z), .inr h4, h5⟩) hR2
      obtain ⟨t1, rfl, RB1⟩ := rowsB_of hR1'
      obtain ⟨t2, rfl, RB2⟩ := rowsB_of hR2'
      have W1 : W r1 := nR hr1n (f8.1 _ _ (na6 hr1n) hr1v) (fun _ z => nomatch z)
      have W2 : W r2 := nR (f7.free f6.2 hr2n) hr2v (fun _ z => nomatch z)
      have WA : ¬ W hA := fun h => by
        obtain ⟨_, o, h, _⟩ := (hWd hA).mp h
        rw [hhA] at h
        cases h
      have hr12 : r1 ≠ r2 := fun e => by rw [e, hr2n] at hr1v; cases hr1v
      have hr1v8 := f8.1 _ _ (na6 hr1n) hr1v
      have s9 := same_upd (o := .lst [.ref r1, .ref r2]) hhA
      have rb9 : ∀ {u : List (Key × V)} {t : List BRow}, Paired (RowB K W H8) u t → Paired (RowB K W (upd H8 hA (.lst [.ref r1, .ref r2]))) u t := fun h => pd_mono (fun _ _ h => RowB.keep (fun b c xs hn hb => ⟨hn, s9 _ _ hb⟩) (KeepT.same s9) h) h
      have tru : ∀ {N : Addr → Prop} {H' : Hp} {u : List (Key × V)} {t : List BRow}, Paired (RowB K N H') u t → Paired (RowB K (fun _ => True) H') u t := fun h => pd_mono (fun _ _ h => RowB.keep (fun b c xs hn hb => ⟨trivial, hb⟩) (KeepT.same (Same.refl _)) h) h
      rw [List.length_map] at hl1 hl2
      refine ⟨_, rfl, hA, r1, r2, hv1, hv2, t1, t2, rfl, upd_same, s9 _ _ hr1v8, s9 _ _ hr2v, tru (rb9 RB1), tru (rb9 RB2), hl1, hl2, fun l H10 hFm s10 => ?_⟩
      have wl10 : IsWl H10 a := (f8.2.same s9).same s10
      refine ⟨_, rfl, a, 3, rfl, wl10, by decide, by decide, fun lot H11 lo0 lo1 f11 => ?_⟩
      have s810 := s9.trans s10
      have f811 : Fw a H8 H11 := (Fw.of_same f8.2 s810).trans f11
      have E11 : ExtN H3 H11 := extN_fw (E8.trans (.of s810)) ha f11
      have T11 := tabs_fw (T8.ext s810) wl10 f11
      have hAna : hA ≠ a := f8.2.ne hhA
      have hA11 : H11 hA = some (.lst [.ref r1, .ref r2]) := f11.1 _ _ hAna (s10 _ _ upd_same)
      have r1v11 := f811.1 _ _ (na6 hr1n) hr1v8
      have r2v11 := f811.1 _ _ (na6 (W6 W2)) hr2v
      have k811 := fw_keepT (K := K) f811 f8.2
      have RB1' : Paired (RowB K W H11) hv1 t1 := pd_mono (fun _ _ h => RowB.keep (fun b c xs hn hb => ⟨hn, f811.1 _ _ (na6 (W6 hn)) hb⟩) k811 h) RB1
      have RB2' : Paired (RowB K W H11) hv2 t2 := pd_mono (fun _ _ h => RowB.keep (fun b c xs hn hb => ⟨hn, f811.1 _ _ (na6 (W6 hn)) hb⟩) k811 h) RB2
      have FM : FormAt K (fun _ => True) H11 l t1 t2 := hFm.keep (fun b xs hn hb => ⟨trivial, f11.1 _ _ ((f8.2.same s9).ne hn) hb⟩) (fw_keepT f11 wl10)
      have f611 : Fw a H6 H11 := (f7.trans f8).trans f811
      have k611 := fw_keepT (K := K) f611 f6.2
      have hs6 : ∀ {b : Addr} {o : HO}, H4 b = none → H6 b = some o → (H4 b = none ∧ H6 b ≠ none) := fun h1 h2 => ⟨h1, by rw [h2]; exact fun z => nomatch z⟩
      have PT : PartsAt K (fun b => H4 b = none ∧ H6 b ≠ none) H11 qp (t1.map Prod.fst) (t2.map Prod.fst) s0 := PartsAt_keep (N := fun b => H4 b = none) (H := H6) (fun b o hn hb _ => ⟨hs6 hn hb, f611.1 _ _ (na4 hn) hb⟩) k611 ⟨d1, d2, rv, kv1, kv2, hq, nd1, nd2, hd1, hd2, hr1, hr2, hrv⟩
      have hWn : ∀ {b : Addr}, W b → H3 b = none := fun {b} hw => not_some fun o e => by
        have h6 := f6.1 b o (fun q => by rw [q, ha] at e; cases e) (s4 _ _ e)
        rw [W6 hw] at h6
        cases h6
      have hW11 : ∀ {b : Addr}, W b → ∃ o, H11 b = some o ∧ ∀ ps, o ≠ HO.tbl ps := fun {b} h => by
        obtain ⟨h1, o, h2, h3⟩ := (hWd b).mp h
        exact ⟨o, f811.1 _ _ (na6 h1) h2, h3⟩
      have nPK : ∀ {b : Addr}, (H4 b = none ∧ H6 b ≠ none) → b ≠ Kp ∧ ¬ W b := fun {b} h => by
        refine ⟨fun e => ?_, fun hw => h.2 (W6 hw)⟩
        have h4 := s4 _ _ hKp2
        rw [← e, h.1] at h4
        cases h4
      obtain ⟨e1, e2, rv', pv1, pv2, hq11, m1, m2, hd1', hd2', hp1', hp2', hrv11⟩ := id PT
      have hpe : pv2 = [] → t2.map Prod.fst = [] := fun e => by
        have := hp2'.length
        rw [e] at this
        exact List.eq_nil_of_length_eq_zero this.symm
      refine ⟨fun σ H' => ∃ (x : Addr), σ = [some (.ref a0), some (.ref Kp), some (.int n), some (.ref a), some (.ref qp), some (.ref hA), some (.ref l), some (.int lot), some (.ref x), y9, y10] ∧ H11 x = none ∧ ExtN H11 H' ∧ Tabs TS H' ∧ ScAt K C (New H11) H' x (t1.map Prod.fst) (t2.map Prod.fst) s0, ?_, ?_⟩
      · have go : ∀ (H12 : Hp) (x dx : Addr) (cv : V), Same H11 H12 → H12 x = none → H12 dx = none → dx ≠ x → ((cv = .non ∧ t2.map Prod.fst = []) ∨ cv = .ref r2) → ∀ (Qf : VK) (Ef : XK), (∀ H', ExtN H11 H' → Tabs TS H' → ScAt K C (New H11) H' x (t1.map Prod.fst) (t2.map Prod.fst) s0 → H11 x = none → Qf .non H') →
            spSInit K C TS [.ref x, .ref r1, cv, rv'] (upd (upd H12 dx (.own x)) x (.ins C dx [])) Qf Ef := by
          intro H12 x dx cv ss hx hdx nd hcv Qf Ef fin
          have hx' : (upd H12 dx (.own x)) x = none := by rw [upd_ne nd.symm]; exact hx
          have sX : Same H11 (upd (upd H12 dx (.own x)) x (.ins C dx [])) := (ss.trans (same_upd hdx)).trans (same_upd hx')
          have hx11 : H11 x = none := not_some fun o e => by rw [ss _ _ e] at hx; cases hx
          have rI : ∀ {u : List (Key × V)} {t : List BRow}, Paired (RowB K W H11) u t → Paired (RowIs K (upd (upd H12 dx (.own x)) x (.ins C dx []))) u (t.map Prod.fst) := fun h => pd_mono (fun _ _ h => RowIs.extN (.of sX) h) (rowsB_is h)
          refine ⟨x, dx, r1, cv, rv', hv1, t1.map Prod.fst, t2.map Prod.fst, s0, rfl, upd_same, sX _ _ r1v11, rI RB1', ?_, hrv11.keep (KeepT.same sX), ok, T11.ext sX, fun H' hb hT' hS' => fin H' (fun b o e n => hb b o (fun w => by rw [w, hx11] at e; cases e) (sX _ _ e) n) hT' (ScAt_keep (fun _ e _ => e) (fun b kv hn hb => ⟨fun o e => hn o (sX _ _ e), hb⟩) (KeepT.same (Same.refl _)) hS') hx11⟩
          rcases hcv with h | rfl
          · exact .inl h
          · exact .inr ⟨r2, hv2, rfl, sX _ _ r2v11, rI RB2'⟩
        have third : ∀ (H12 : Hp), Same H11 H12 → ∀ (x dx : Addr), H12 x = none → H12 dx = none → dx ≠ x → ∀ (Qf : VK) (Ef : XK), (∀ H', ExtN H11 H' → Tabs TS H' → ScAt K C (New H11) H' x (t1.map Prod.fst) (t2.map Prod.fst) s0 → H11 x = none → Qf .non H') → spSInit K C TS [.ref x, .ref r1, .ref r2, rv'] (upd (upd H12 dx (.own x)) x (.ins C dx [])) Qf Ef := fun H12 ss x dx hx hdx nd Qf Ef fin => go H12 x dx _ ss hx hdx nd (.inr rfl) Qf Ef fin
        refine ⟨_, rfl, qp, _, 1, .ref e2, rfl, rfl, hq11, at1, fun D hD => ⟨e2, D, pv2, rfl, rfl, (same_upd hD) _ _ hd2', upd_same, _, rfl, ?_⟩⟩
        have sD := same_upd (o := .dK []) hD
        generalize upd H11 D (.dK []) = H12 at sD ⊢
        by_cases hpv : pv2 = []
        · rw [decide_eq_true hpv]
          refine ⟨_, rfl, rfl, _, rfl, iteB (fun _ => ?_) (fun _ => ?_)⟩
          · refine ⟨_, rfl, hA, _, 0, .ref r1, rfl, rfl, SqL.of (sD _ _ hA11), at0, _, rfl, qp, _, 2, rv', rfl, rfl, Same.tupq sD hq11, at2, rfl, rfl, fun x dx hx hdx nd => ?_⟩
            exact go H12 x dx .non sD hx hdx nd (.inl ⟨rfl, hpe hpv⟩) _ _ fun H' g1 g2 g3 g4 => ⟨rfl, x, rfl, g4, g1, g2, g3⟩
          refine ⟨_, rfl, qp, _, 1, .ref e2, rfl, rfl, Same.tupq sD hq11, at1, fun D2 hD2 => ⟨e2, D2, pv2, rfl, rfl, (same_upd hD2) _ _ (sD _ _ hd2'), upd_same, _, rfl, ?_⟩⟩
          have sD2 := sD.trans (same_upd (o := .dK []) hD2)
          generalize upd H12 D2 (.dK []) = H13 at sD2 ⊢
          rw [decide_eq_true hpv]
          refine ⟨_, rfl, rfl, _, rfl, iteB (fun _ => ?_) (fun _ => ?_)⟩
          · refine ⟨_, rfl, qp, _, 2, rv', rfl, rfl, Same.tupq sD2 hq11, at2, _, rfl, hA, _, 0, .ref r1, rfl, rfl, SqL.of (sD2 _ _ hA11), at0, rfl, rfl, fun x dx hx hdx nd => ?_⟩
            exact go H13 x dx .non sD2 hx hdx nd (.inl ⟨rfl, hpe hpv⟩) _ _ fun H' g1 g2 g3 g4 => ⟨rfl, x, rfl, g4, g1, g2, g3⟩
          · refine ⟨_, rfl, hA, _, 0, .ref r1, rfl, rfl, SqL.of (sD2 _ _ hA11), at0, _, rfl, hA, _, 1, .ref r2, rfl, rfl, SqL.of (sD2 _ _ hA11), at1, _, rfl, qp, _, 2, rv', rfl, rfl, Same.tupq sD2 hq11, at2, rfl, rfl, fun x dx hx hdx nd => ?_⟩
            exact third H13 sD2 x dx hx hdx nd _ _ fun H' g1 g2 g3 g4 => ⟨rfl, x, rfl, g4, g1, g2, g3⟩
        · rw [decide_eq_false hpv]
          refine ⟨_, rfl, qp, _, 1, .ref e2, rfl, rfl, Same.tupq sD hq11, at1, fun D2 hD2 => ⟨e2, D2, pv2, rfl, rfl, (same_upd hD2) _ _ (sD _ _ hd2'), upd_same, _, rfl, ?_⟩⟩
          have sD2 := sD.trans (same_upd (o := .dK []) hD2)
          generalize upd H12 D2 (.dK []) = H13 at sD2 ⊢
          rw [decide_eq_false hpv]
          refine ⟨_, rfl, hA, _, 0, .ref r1, rfl, rfl, SqL.of (sD2 _ _ hA11), at0, _, rfl, hA, _, 1, .ref r2, rfl, rfl, SqL.of (sD2 _ _ hA11), at1, _, rfl, qp, _, 2, rv', rfl, rfl, Same.tupq sD2 hq11, at2, rfl, rfl, fun x dx hx hdx nd => ?_⟩
          exact third H13 sD2 x dx hx hdx nd _ _ fun H' g1 g2 g3 g4 => ⟨rfl, x, rfl, g4, g1, g2, g3⟩
      rintro σ H12 ⟨x, rfl, hx11, E12, T12, SC⟩
      have k12 : KeepT K H11 H12 := KeepT.extN E12
      have nt : ∀ {u : HO}, (∃ l, u = .lst l) ∨ (∃ l, u = .dK l) → ∀ ps, u ≠ .tbl ps := fun h ps z => by
        rcases h with ⟨l, rfl⟩ | ⟨l, rfl⟩ <;> cases z
      have hA12 := E12 _ _ hA11 (fun _ z => nomatch z)
      have r1v12 := E12 _ _ r1v11 (fun _ z => nomatch z)
      have r2v12 := E12 _ _ r2v11 (fun _ z => nomatch z)
      have RBk : ∀ {u : List (Key × V)} {t : List BRow}, Paired (RowB K W H11) u t → Paired (RowB K W H12) u t := fun h => pd_mono (fun _ _ h => RowB.keep (fun b c xs hn hb => ⟨hn, E12 _ _ hb rowO_tbl⟩) k12 h) h
      refine ⟨_, rfl, hA, r1, r2, hv1, hv2, t1, t2, rfl, hA12, r1v12, r2v12, tru (RBk RB1'), tru (RBk RB2'), hl1, hl2, fun l2 H13 hF2 s13 => ?_⟩
      obtain ⟨sh, eqv⟩ := form_eq ok hD1 hD2
      have FM13 : FormAt K (fun _ => True) H13 l t1 t2 := FM.keep (fun b xs hn hb => ⟨trivial, s13 _ _ (E12 _ _ hb (fun _ z => nomatch z))⟩) (k12.trans (KeepT.same s13))
      refine ⟨_, rfl, formD t1 t2, formD t1 t2, hF2.dp, FM13.dp, sh, sh, _, rfl, ?_⟩
      rw [eqv]
      have T13 := T12.ext s13
      have PT13 : PartsAt K (fun b => H4 b = none ∧ H6 b ≠ none) H13 qp (t1.map Prod.fst) (t2.map Prod.fst) s0 := PartsAt_keep (fun b o hn hb ht => ⟨hn, s13 _ _ (E12 _ _ hb ht)⟩) (k12.trans (KeepT.same s13)) PT
      have SC13 : ScAt K C (New H11) H13 x (t1.map Prod.fst) (t2.map Prod.fst) s0 := ScAt_keep (fun o e _ => s13 _ _ e) (fun b kv hn hb => ⟨hn, s13 _ _ hb⟩) (KeepT.same s13) SC
      refine ⟨_, rfl, _, rfl, x, qp, t1.map Prod.fst, t2.map Prod.fst, s0, rfl, ScAt_keep (fun o e _ => e) (fun b kv hn hb => ⟨trivial, hb⟩) (KeepT.same (Same.refl _)) SC13, PartsAt_keep (fun b o hn hb ht => ⟨trivial, hb⟩) (KeepT.same (Same.refl _)) PT13, ok, hdp, hD1, hD2, T13, fun H14 e14 T14 => ⟨_, rfl, ?_⟩⟩
      have k14 : KeepT K H13 H14 := KeepT.extN e14
      have E1114 : ExtN H11 H14 := (E12.trans (.of s13)).trans e14
      have E14 : ExtN H3 H14 := E11.trans E1114
      have k1114 : KeepT K H11 H14 := KeepT.extN E1114
      have hA14 := E1114 _ _ hA11 (fun _ z => nomatch z)
      have PT14 : PartsAt K (fun b => H4 b = none ∧ H6 b ≠ none) H14 qp (t1.map Prod.fst) (t2.map Prod.fst) s0 := PartsAt_keep (fun b o hn hb ht => ⟨hn, e14 _ _ hb ht⟩) k14 PT13
      have SC14 : ScAt K C (New H11) H14 x (t1.map Prod.fst) (t2.map Prod.fst) s0 := ScAt_keep (fun o e t => e14 _ _ e t) (fun b kv hn hb => ⟨hn, e14 _ _ hb (fun _ z => nomatch z)⟩) k14 SC13
      have X1 : AllX W H14 5 hv1 := allX_of (pd_mono (fun _ _ h => RowB.keep (fun b c xs hn hb => ⟨hn, E1114 _ _ hb rowO_tbl⟩) k1114 h) RB1') fun r hr => (hD1 r.1 (List.mem_map.mpr ⟨r, hr, rfl⟩)).1
      have X2 : AllX W H14 5 hv2 := allX_of (pd_mono (fun _ _ h => RowB.keep (fun b c xs hn hb => ⟨hn, E1114 _ _ hb rowO_tbl⟩) k1114 h) RB2') fun r hr => (hD2 r.1 (List.mem_map.mpr ⟨r, hr, rfl⟩)).1
      have len1 : hv1.length ≤ 5 := by
        have := RB1'.length
        omega
      have len2 : hv2.length ≤ 5 := by
        have := RB2'.length
        omega
      refine ⟨_, rfl, hA, rfl, ⟨_, SqL.of hA14⟩, ?_⟩
      refine for_it (walk_list (K := K) (a := hA) (xs := [.ref r1, .ref r2])) (fun j σ H' => ∃ (y9 y10 : Option V) (u1 u2 : List (Key × V)), σ = [some (.ref a0), some (.ref Kp), some (.int n), some (.ref a), some (.ref qp), some (.ref hA), some (.ref l), some (.int lot), some (.ref x), y9, y10] ∧ FzN W H14 H' ∧ KeepT K H14 H' ∧ Tabs TS H' ∧ H' r1 = some (.dK u1) ∧ H' r2 = some (.dK u2) ∧ AllX W H' (5 + 5 * j) u1 ∧ AllX W H' (5 + 5 * j) u2 ∧ u1.length ≤ 5 ∧ u2.length ≤ 5) ⟨_, _, hv1, hv2, rfl, fun b o _ e _ => e, KeepT.same (Same.refl _), T14, E1114 _ _ r1v11 (fun _ z => nomatch z), E1114 _ _ r2v11 (fun _ z => nomatch z), X1, X2, len1, len2⟩ ?_ ?_ ?_
      · rintro j σ H' _ ⟨_, _, _, _, _, hz, _⟩
        exact SqL.of (hz _ _ WA hA14 (fun _ z => nomatch z))
      · rintro j v σ H15 H16 hj ⟨y9, y10, u1, u2, rfl, z15, k15, T15, q1, q2, A1, A2, n1, n2⟩ ⟨rfl, hv⟩
        have hj : j < 2 := hj
        obtain ⟨d, e, ud, ue, rfl, hde, Wd, hd, he, Ad, Ae, nd_, ne_, close⟩ : ∃ (d e : Addr) (ud ue : List (Key × V)), v = .ref d ∧ e ≠ d ∧ W d ∧ H16 d = some (.dK ud) ∧ H16 e = some (.dK ue) ∧ AllX W H16 (5 + 5 * j) ud ∧ AllX W H16 (5 + 5 * j) ue ∧ ud.length ≤ 5 ∧ ue.length ≤ 5 ∧ ∀ (H' : Hp), H' d = some (.dK []) → H' e = some (.dK ue) → AllX W H' (5 + 5 * (j + 1)) ue → ∃ (u1 u2 : List (Key × V)), H' r1 = some (.dK u1) ∧ H' r2 = some (.dK u2) ∧ AllX W H' (5 + 5 * (j + 1)) u1 ∧ AllX W H' (5 + 5 * (j + 1)) u2 ∧ u1.length ≤ 5 ∧ u2.length ≤ 5 := by
          obtain rfl | rfl : j = 0 ∨ j = 1 := by omega
          · cases hv
            exact ⟨r1, r2, u1, u2, rfl, hr12.symm, W1, q1, q2, A1, A2, n1, n2, fun H' g1 g2 g3 => ⟨[], u2, g1, g2, (fun _ h => nomatch h), g3, Nat.zero_le _, n2⟩⟩
          · cases hv
            exact ⟨r2, r1, u2, u1, rfl, hr12, W2, q2, q1, A2, A1, n2, n1, fun H' g1 g2 g3 => ⟨u1, [], g2, g1, g3, (fun _ h => nomatch h), n1, Nat.zero_le _⟩⟩
        refine ⟨d, _, hd, trivial, fun od => ?_⟩
        have hdl : (upd H16 d (.frz od (.dK ud))) d = some (.frz od (.dK ud)) := upd_same
        have hel : (upd H16 d (.frz od (.dK ud))) e = some (.dK ue) := by rw [upd_ne hde]; exact he
        have nfr : ∀ c xs, rowO c xs ≠ .dK ud := fun c xs => rowO_dK
        have Adl : AllX W (upd H16 d (.frz od (.dK ud))) (5 + 5 * j) ud := Ad.dict hd nfr
        have Ael : AllX W (upd H16 d (.frz od (.dK ud))) (5 + 5 * j) ue := Ae.dict hd nfr
        have zl : FzN W H14 (upd H16 d (.frz od (.dK ud))) := fun b o hw e ht => by
          rw [upd_ne (fun q => hw (by rw [q]; exact Wd))]
          exact z15 b o hw e ht
        have kl : KeepT K H14 (upd H16 d (.frz od (.dK ud))) := k15.trans (lock_keep hd)
        have Tl : Tabs TS (upd H16 d (.frz od (.dK ud))) := tabs_put T15 fun o e => by rw [hd] at e; cases e; exact .dK
        generalize upd H16 d (.frz od (.dK ud)) = H17 at hdl hel Adl Ael zl kl Tl ⊢
        refine ⟨_, rfl, d, od, ud, rfl, hdl, ?_⟩
        refine for_it (walk_values (d := d) (o := od) (kvs := ud)) (fun i σ H' => ∃ (y10 : Option V), σ = [some (.ref a0), some (.ref Kp), some (.int n), some (.ref a), some (.ref qp), some (.ref hA), some (.ref l), some (.int lot), some (.ref x), some (.ref d), y10] ∧ FzN W H14 H' ∧ KeepT K H14 H' ∧ Tabs TS H' ∧ H' d = some (.frz od (.dK ud)) ∧ H' e = some (.dK ue) ∧ AllX W H' (5 + 5 * j + i) ud ∧ AllX W H' (5 + 5 * j + i) ue) ⟨_, rfl, zl, kl, Tl, hdl, hel, Adl, Ael⟩ (fun _ _ _ _ ⟨_, _, _, _, _, h, _⟩ => h) ?_ ?_
        · rintro i v σ H18 H19 hi ⟨y10, rfl, z18, k18, T18, hd18, he18, Ad18, Ae18⟩ ⟨rfl, ky, hkv⟩
          obtain ⟨b, c, xs, hv', Wb, hb, hxl⟩ := Ad18 _ (List.mem_of_getElem? hkv)
          have hv' : v = .ref b := hv'
          subst hv'
          obtain ⟨ty, hty, hkt⟩ := row_ty (K := K) hb
          refine ⟨_, rfl, _, _, ty, .type "list", c, rfl, .ty "list", hty, hkt, _, rfl, iteB (fun hc => ?_) (fun hc => ?_)⟩
          · subst hc
            have hb' : H19 b = some (.lst xs) := hb
            have nbd : d ≠ b := fun q => by rw [q, hb'] at hd18; cases hd18
            have nbe : e ≠ b := fun q => by rw [q, hb'] at he18; cases he18
            refine ⟨_, rfl, .inl ⟨rfl, _, SqL.of hb'⟩, b, xs, _, rfl, rfl, hb', ?_, _, rfl, fun c o hw ec ht => ?_, k18.trans (keep_one hb'), tabs_put T18 (fun o e => by rw [hb'] at e; cases e; exact .lst), ?_, ?_, Ad18.push hb' hxl, Ae18.push hb' hxl⟩
            · exact Nat.lt_of_le_of_lt (show xs.length ≤ 100 by omega) (by decide)
            · rw [upd_ne (fun q => hw (by rw [q]; exact Wb))]
              exact z18 c o hw ec ht
            · rw [upd_ne nbd]
              exact hd18
            · rw [upd_ne nbe]
              exact he18
          · exact ⟨_, rfl, z18, k18, T18, hd18, he18, Ad18.le (Nat.le_succ _), Ae18.le (Nat.le_succ _)⟩
        · rintro σ H18 ⟨y10, rfl, z18, k18, T18, hd18, he18, Ad18, Ae18⟩
          refine ⟨hd18, ?_⟩
          refine ⟨_, rfl, .inr (.inr (.inl ⟨rfl, .inl ⟨_, upd_same⟩⟩)), d, ud, rfl, rfl, upd_same, ?_⟩
          rw [upd_upd]
          have hdE : (upd H18 d (.dK [])) d = some (.dK []) := upd_same
          have heE : (upd H18 d (.dK [])) e = some (.dK ue) := by rw [upd_ne hde]; exact he18
          have AeE : AllX W (upd H18 d (.dK [])) (5 + 5 * (j + 1)) ue := (Ae18.dict hd18 (fun c xs => rowO_frz)).le (by omega)
          obtain ⟨v1, v2, g1, g2, g3, g4, g5, g6⟩ := close _ hdE heE AeE
          refine ⟨_, _, v1, v2, rfl, fun b o hw eb ht => ?_, k18.trans ((unlock_keep hd18).trans ?_), tabs_put T18 (fun o e => by rw [hd18] at e; cases e; exact .frz), g1, g2, g3, g4, g5, g6⟩
          · rw [upd_ne (fun q => hw (by rw [q]; exact Wd))]
            exact z18 b o hw eb ht
          · have := keep_dict (K := K) (H := upd H18 d (.dK ud)) (d := d) (u := ud) (u' := []) upd_same
            rw [upd_upd] at this
            exact this
      rintro σ H15 ⟨y9, y10, u1, u2, rfl, z15, k15, T15, q1, q2, A1, A2, n1, n2⟩
      have nWK : ¬ W Kp := fun hw => by
        have := hWn hw
        rw [hKp2] at this
        cases this
      have nWL : ¬ W L := fun hw => by
        have := hWn hw
        rw [hL2'] at this
        cases this
      have hKp15 := z15 _ _ nWK (E14 _ _ hKp2 (fun _ z => nomatch z)) (fun _ z => nomatch z)
      have hL15 := z15 _ _ nWL (E14 _ _ hL2' (fun _ z => nomatch z)) (fun _ z => nomatch z)
      refine ⟨_, rfl, .inl ⟨rfl, _, SqL.of hKp15⟩, _, rfl, _, rfl, by show 2 ≤ sizeLine; decide, fun t ht => ?_⟩
      have st := same_upd (o := .tup [.ref x, .ref qp]) ht
      have hKpt := st _ _ hKp15
      have kt : KeepT K H14 (upd (upd H15 t (.tup [.ref x, .ref qp])) Kp (.lst (kp ++ [.ref t]))) := (k15.trans (KeepT.same st)).trans (keep_one hKpt)
      have fin : ∀ b o, ¬ W b → b ≠ Kp → H14 b = some o → (∀ ps, o ≠ .tbl ps) → (upd (upd H15 t (.tup [.ref x, .ref qp])) Kp (.lst (kp ++ [.ref t]))) b = some o := fun b o hw hb e ht => by
        rw [upd_ne hb]
        exact st _ _ (z15 b o hw e ht)
      refine ⟨Kp, kp, _, rfl, rfl, hKpt, ?_, _, _, _, _, _, _, _, _, _, kp ++ [.ref t], rfl, tabs_put (T15.ext st) (fun o e => by rw [hKpt] at e; cases e; exact .lst), ?_, upd_same, ?_, fun v hv => ?_⟩
      · exact Nat.lt_of_le_of_lt (show kp.length ≤ 100 by omega) (by decide)
      · rw [upd_ne nLK]
        exact st _ _ hL15
      · rw [List.length_append, hkl] <;> rfl
      · rcases List.mem_append.mp hv with h | h
        · refine (hG v h).keep (fun b o hb eb ht => ⟨hb, fin b o (fun hw => ?_) hb (E14 _ _ eb ht) ht⟩) ((KeepT.extN E14).trans kt)
          rw [hWn hw] at eb
          cases eb
        · rw [List.mem_singleton.mp h]
          have hxK : x ≠ Kp := fun e => by
            have h1 := E11 _ _ hKp2 (fun _ z => nomatch z)
            rw [← e, hx11] at h1
            cases h1
          have hxW : ¬ W x := fun hw => by
            obtain ⟨o, h, _⟩ := hW11 hw
            rw [hx11] at h
            cases h
          have tK : t ≠ Kp := fun e => by rw [e, hKp15] at ht; cases ht
          refine ⟨t, x, qp, t1.map Prod.fst, t2.map Prod.fst, s0, rfl, SqT.of (by rw [upd_ne tK, upd_same]), hxK, ScAt_keep (fun o e ht => fin x o hxW hxK e ht) (fun b kv hn hb => ?_) kt SC14, PartsAt_keep (fun b o hn hb ht => ⟨(nPK hn).1, fin b o (nPK hn).2 (nPK hn).1 hb ht⟩) kt PT14, ok, hdp, hD1, hD2⟩
          have hbK : b ≠ Kp := fun e => by
            obtain ⟨ps, hps⟩ := hn _ (by rw [e]; exact E11 _ _ hKp2 (fun _ z => nomatch z))
            cases hps
          have hbW : ¬ W b := fun hw => by
            obtain ⟨o, h, h'⟩ := hW11 hw
            obtain ⟨ps, hps⟩ := hn _ h
            exact h' ps hps
          exact ⟨hbK, fin b _ hbW hbK hb (fun _ z => nomatch z)⟩
    · rintro σ H6 ⟨y2, y3, y4, y5, y6, y7, y8, y9, y10, kp, rfl, T6, hL6, hKp6, hkl, hG⟩
      refine ⟨_, rfl, Kp, kp, rfl, SqL.of hKp6, fun R hR => ⟨R, rfl, ⟨_, SqL.of upd_same⟩, fun D hD => ?_⟩⟩
      have sR := same_upd (o := .lst kp.reverse) hR
      have hRv : (upd H6 R (.lst kp.reverse)) R = some (.lst kp.reverse) := upd_same
      have TR := T6.ext sR
      have hGR : ∀ v ∈ kp.reverse, Good K C (fun b => True) (upd H6 R (.lst kp.reverse)) v := fun v hv => (hG v (List.mem_reverse.mp hv)).keep (fun b o _ e _ => ⟨trivial, sR _ _ e⟩) (KeepT.same sR)
      have hkl' : kp.reverse.length ≤ 7 := by
        rw [List.length_reverse, hkl, List.length_map]
        exact hl5
      generalize upd H6 R (.lst kp.reverse) = H7 at hRv TR hGR hD ⊢
      generalize kp.reverse = rk at hRv hGR hkl' ⊢
      refine lc_it (walk_list (K := K) (a := R) (xs := rk)) (fun j H' => ExtN H7 H' ∧ Tabs TS H' ∧ ∃ bs : List Bool, H' D = some (.lst (bs.map V.bl)) ∧ bs.length = j ∧ ∀ b ∈ bs, b = true) ⟨extN_new (.refl _) hD, tabs_new TR hD, [], upd_same, rfl, fun b h => nomatch h⟩ ?_ ?_ ?_
      · rintro j H' _ ⟨h, _⟩
        exact SqL.of (h _ _ hRv fun _ z => nomatch z)
      · rintro j v H8 H9 hj ⟨e8, T8, bs, hD8, hbl, hbt⟩ ⟨rfl, hv⟩
        obtain ⟨t, p, qq, tb1, tb2, s0, rfl, ht, _, hS, hP, ok, hdp, hD1, hD2⟩ := (hGR v (List.mem_of_getElem? hv)).keep (N' := fun _ => True) (fun b o _ e n => ⟨trivial, e8 _ _ e n⟩) (KeepT.extN e8)
        refine ⟨t, _, rfl, ht, rfl, _, _, rfl, _, _, rfl, rfl, rfl, ?_⟩
        refine ⟨_, rfl, _, rfl, p, qq, tb1, tb2, s0, rfl, hS, hP, ok, hdp, hD1, hD2, T8, fun H10 e10 T10 => ?_⟩
        have hD10 := e10 _ _ hD8 (fun _ z => nomatch z)
        refine ⟨_, hD10, ?_, extN_new (e8.trans e10) hD, tabs_put T10 (fun o e => by rw [hD10] at e; cases e; exact .lst), bs ++ [true], ?_, ?_, ?_⟩
        · rw [List.length_map, hbl]
          exact Nat.lt_of_le_of_lt (show j ≤ 100 by omega) (by decide)
        · rw [upd_same, List.map_append] <;> rfl
        · rw [List.length_append, hbl] <;> rfl
        · intro b hb
          rcases List.mem_append.mp hb with h | h
          · exact hbt b h
          · exact List.mem_singleton.mp h
      · rintro H8 ⟨e8, T8, bs, hD8, hbl, hbt⟩
        refine ⟨D, bs, rfl, SqL.of hD8, ?_⟩
        rw [show bs.all id = true from List.all_eq_true.mpr fun b hb => hbt b hb]
        exact q _
end
end K02
namespace K02
open PySem PySem.Spec PyProof.Rows L2 Tw Sb LamX
theorem two_all {α : Type} {p q : α} {F : α → Prop} (a : F p) (b : F q) : ∀ x ∈ [p, q], F x := fun x hx => by
  rcases List.mem_cons.mp hx with rfl | hx
  · exact a
  · rw [List.mem_singleton.mp hx]
    exact b
theorem vals_rev : ∀ {xs : List V} {us : List Value}, Vals xs us → Vals xs.reverse us.reverse
  | _, _, .nil => .nil
  | _, _, .cons h r => by
    rw [List.reverse_cons, List.reverse_cons]
    exact Paired.snoc (vals_rev r) h
theorem vals_app {zs : List V} {ws : List Value} (h2 : Vals zs ws) : ∀ {xs : List V} {us : List Value}, Vals xs us → Vals (xs ++ zs) (us ++ ws)
  | _, _, .nil => h2
  | _, _, .cons h r => .cons h (vals_app h2 r)
section
variable {P : Program} {w : World} {K : PySem.W.Frag} {mg : Str → Option Value} {base : Heap}
abbrev initF (kV doc pm : Value) (an : Option Addr) (cd ct : Value) : FuncData := PySem.W.fnOf "__init__" "Schema.__init__" (defArgs s_Schema___init__) (defBody s_Schema___init__) (defScope s_Schema___init__) .none kV doc pm an cd ct
theorem mk_kb3 {kV doc pm cd ct : Value} {an : Option Addr} : KBn K (initF kV doc pm an cd ct) ["self", "kinds", "choices", "root"] 2 ["choices", "root"] (fun us ws => us ++ ws) mkV3 :=
  ⟨fun s us ws _ h1 h2 => .of_eq (match us, h1, ws, h2 with | [_, _], _, [_, _], _ => rfl), fun r1 r2 => vals_app r2 r1⟩
theorem mk_kb2 {kV doc pm cd ct : Value} {an : Option Addr} : KBn K (initF kV doc pm an cd ct) ["self", "kinds", "choices", "root"] 1 ["root", "choices", "kinds"] (fun us ws => us ++ ws.reverse) mkV2 :=
  ⟨fun s us ws _ h1 h2 => .of_eq (match us, h1, ws, h2 with | [_], _, [_, _, _], _ => rfl), fun r1 r2 => vals_app (vals_rev r2) r1⟩
theorem mk_kb1 {f D : Addr} {oc doc pm cd ct : Value} {od an : Option Addr} {osl : Array (Option Value)} (l : K.lookup f = some ⟨oc, od, .func (initF (.ref D) doc pm an cd ct), osl⟩) (c : PySem.W.codeIn K cd "Schema.__init__" = true) (kp : PySem.W.keepIn K (.ref f) = true) (d : PySem.W.nsIn K D "choices" = some (some .none)) :
    ∃ g, KBn K (initF (.ref D) doc pm an cd ct) ["self", "kinds", "choices", "root"] 2 ["root"] g mkV1 := by
  have F : FunD K "__init__" "Schema.__init__" (defArgs s_Schema___init__) (defBody s_Schema___init__) (defScope s_Schema___init__) [] [("choices", .non)] f (initF (.ref D) doc pm an cd ct) :=
    ⟨⟨oc, od, .none, .ref D, doc, pm, an, cd, ct, osl, rfl, l, c, .inl ⟨rfl, rfl⟩, .inr ⟨D, rfl, fun q hq => by rw [List.mem_singleton.mp hq]; exact ⟨.none, d, rfl⟩⟩⟩, kp⟩
  obtain ⟨mv, h⟩ := F.kbinds0 (ps := ["self", "kinds", "choices", "root"]) 2 ["root"] [("choices", .non)] (fun us mv ws => us ++ (mv ++ ws)) (List.cons_ne_nil _ _) (fun q h => h) (fun r1 r2 r3 => vals_app (vals_app r3 r2) r1)
    (fun D doc pm an cdv ct us mv ws h1 h2 h3 => match us, h1, mv, h2, ws, h3 with | [_, _], _, [_], _, [_], _ => ⟨_, _, _, _, _, _, rfl, rfl, rfl⟩)
  exact ⟨_, h⟩
end
end K02
namespace K02
open PySem PySem.Spec PyProof.Rows L2 Tw Sb LamX
theorem all_mk {l : PySem.W.OpenLaw} {w : World} {K : PySem.W.Frag} {h : Heap} {mg : Str → Option Value} {fa C_Schema fB cB PB fL cL PL fI kD : Addr} {t_MOST_LETTERS t_FIRST_SIGN t_LAST_SIGN t_PERCENT_SIGN t_GREATEST_NUMBER t_MOST_SIGNS t_MOST_IN_ROW t_LAST_NUMBER : Tok} {Bq1 Bq3 Bq4 Bq5 Bq7 Br1 : Value} {Bq2 Bq6 Br2 : Option Addr} {Bq8 Br3 : Array (Option Value)} {Bvs : Array Value} {Lq1 Lq3 Lq4 Lq5 Lq7 Lr1 : Value} {Lq2 Lq6 Lr2 : Option Addr} {Lq8 Lr3 : Array (Option Value)} {Lvs : Array Value} {tLet : Tok} {iq1 iq4 iq5 iq7 iq9 : Value} {iq2 iq6 : Option Addr} {iq8 : Array (Option Value)} (X : K.In h) (G : h.Ns mainGlobals mg) (hfa : mg "law" = some (.ref fa))
    (d_is_whole : DefIn K "is_whole" s_is_whole)
    (d_is_row : DefIn K "is_row" s_is_row)
    (d_is_name : DefIn K "is_name" s_is_name)
    (d_is_code : DefIn K "is_code" s_is_code)
    (d_keeps_bounds : DefIn K "keeps_bounds" s_keeps_bounds)
    (d_keeps_figures : DefIn K "keeps_figures" s_keeps_figures)
    (d__is_most : DefIn K "_is_most" s__is_most)
    (d__are_bounds : DefIn K "_are_bounds" s__are_bounds)
    (d__first_word : DefIn K "_first_word" s__first_word)
    (d_is_text : DefIn K "is_text" s_is_text)
    (d__is_inmost : DefIn K "_is_inmost" s__is_inmost)
    (d_is_sort : DefIn K "is_sort" s_is_sort)
    (d__is_default : DefIn K "_is_default" s__is_default)
    (d__fault : DefIn K "_fault" s__fault)
    (d__names : DefIn K "_names" s__names)
    (d__refuse_rows : DefIn K "_refuse_rows" s__refuse_rows)
    (d__refuse_comings_back : DefIn K "_refuse_comings_back" s__refuse_comings_back)
    (d__law_well : DefIn K "_law_well" s__law_well)
    (d__law_draw : DefIn K "_law_draw" s__law_draw)
    (d__law_names : DefIn K "_law_names" s__law_names)
    (d__law_number : DefIn K "_law_number" s__law_number)
    (d__law_sort : DefIn K "_law_sort" s__law_sort)
    (d__law_left : DefIn K "_law_left" s__law_left)
    (d__law_fields : DefIn K "_law_fields" s__law_fields)
    (d__law_cases : DefIn K "_law_cases" s__law_cases)
    (d__law_parts : DefIn K "_law_parts" s__law_parts)
    (d__law_formed : DefIn K "_law_formed" s__law_formed)
    (d__law_copied : DefIn K "_law_copied" s__law_copied)
    (d__law_right : DefIn K "_law_right" s__law_right)
    (d_law : DefIn K "law" s_law)
    (cl_Schema : ClIn K C_Schema "Schema")
    (na_Schema_kinds : PySem.W.findIn K (.ref C_Schema) "kinds" = some none)
    (na_Schema_choices : PySem.W.findIn K (.ref C_Schema) "choices" = some none)
    (na_Schema_root : PySem.W.findIn K (.ref C_Schema) "root" = some none)
    (g_MOST_LETTERS : PySem.W.nsIn K mainGlobals "MOST_LETTERS" = some (some (.int 8 t_MOST_LETTERS)))
    (g_FIRST_SIGN : PySem.W.nsIn K mainGlobals "FIRST_SIGN" = some (some (.int 32 t_FIRST_SIGN)))
    (g_LAST_SIGN : PySem.W.nsIn K mainGlobals "LAST_SIGN" = some (some (.int 126 t_LAST_SIGN)))
    (g_PERCENT_SIGN : PySem.W.nsIn K mainGlobals "PERCENT_SIGN" = some (some (.int 37 t_PERCENT_SIGN)))
    (g_GREATEST_NUMBER : PySem.W.nsIn K mainGlobals "GREATEST_NUMBER" = some (some (.int 999999999999999999999999999999999999999999999999999999999999 t_GREATEST_NUMBER)))
    (g_MOST_SIGNS : PySem.W.nsIn K mainGlobals "MOST_SIGNS" = some (some (.int 40 t_MOST_SIGNS)))
    (g_MOST_IN_ROW : PySem.W.nsIn K mainGlobals "MOST_IN_ROW" = some (some (.int 20 t_MOST_IN_ROW)))
    (g_LAST_NUMBER : PySem.W.nsIn K mainGlobals "LAST_NUMBER" = some (some (.int 99 t_LAST_NUMBER)))
    (z_isinstance : PySem.W.nsIn K mainGlobals "isinstance" = some none)
    (z_int : PySem.W.nsIn K mainGlobals "int" = some none)
    (z_bool : PySem.W.nsIn K mainGlobals "bool" = some none)
    (z_str : PySem.W.nsIn K mainGlobals "str" = some none)
    (z_list : PySem.W.nsIn K mainGlobals "list" = some none)
    (z_tuple : PySem.W.nsIn K mainGlobals "tuple" = some none)
    (z_len : PySem.W.nsIn K mainGlobals "len" = some none)
    (z_all : PySem.W.nsIn K mainGlobals "all" = some none)
    (z_sum : PySem.W.nsIn K mainGlobals "sum" = some none)
    (z_range : PySem.W.nsIn K mainGlobals "range" = some none)
    (z_zip : PySem.W.nsIn K mainGlobals "zip" = some none)
    (z_enumerate : PySem.W.nsIn K mainGlobals "enumerate" = some none)
    (z_abs : PySem.W.nsIn K mainGlobals "abs" = some none)
    (z_ord : PySem.W.nsIn K mainGlobals "ord" = some none)
    (z_sorted : PySem.W.nsIn K mainGlobals "sorted" = some none)
    (z_min : PySem.W.nsIn K mainGlobals "min" = some none)
    (z_dict : PySem.W.nsIn K mainGlobals "dict" = some none)
    (n_B : PySem.W.nsIn K mainGlobals "_by_numbers" = some (some (.ref fB)))
    (l_B : K.lookup fB = some ⟨Bq1, Bq2, .func (PySem.W.fnOf "_by_numbers" "_by_numbers" (defArgs s__by_numbers) (defBody s__by_numbers) (defScope s__by_numbers) .none Bq3 Bq4 Bq5 Bq6 (.ref cB) Bq7), Bq8⟩)
    (c_B : PySem.W.codeIn K (.ref cB) "_by_numbers" = true)
    (kp_B : PySem.W.keepIn K (.ref fB) = true)
    (k_B : K.lookup cB = some ⟨Br1, Br2, .fields Bvs, Br3⟩)
    (v_B : Bvs[11]? = some (.ref PB))
    (h_B : PySem.W.codeHdIn K cB PB = true)
    (p_B : K.lookup PB = none)
    (t_B : h.get? PB = some { cls := .none, data := .fields #[] })
    (n_L : PySem.W.nsIn K mainGlobals "_law_sorted" = some (some (.ref fL)))
    (l_L : K.lookup fL = some ⟨Lq1, Lq2, .func (PySem.W.fnOf "_law_sorted" "_law_sorted" (defArgs s__law_sorted) (defBody s__law_sorted) (defScope s__law_sorted) .none Lq3 Lq4 Lq5 Lq6 (.ref cL) Lq7), Lq8⟩)
    (c_L : PySem.W.codeIn K (.ref cL) "_law_sorted" = true)
    (kp_L : PySem.W.keepIn K (.ref fL) = true)
    (k_L : K.lookup cL = some ⟨Lr1, Lr2, .fields Lvs, Lr3⟩)
    (v_L : Lvs[11]? = some (.ref PL))
    (h_L : PySem.W.codeHdIn K cL PL = true)
    (p_L : K.lookup PL = none)
    (t_L : h.get? PL = some { cls := .none, data := .fields #[] })
    (ne_T : PB ≠ PL)
    (g_LET : PySem.W.nsIn K mainGlobals "LETTERS" = some (some (.str alpha tLet)))
    (i_a : PySem.W.findIn K (.ref C_Schema) "__init__" = some (some (.ref fI)))
    (i_i : PySem.W.isFn K (.ref fI) = true)
    (i_l : K.lookup fI = some ⟨iq1, iq2, .func (initF (.ref kD) iq4 iq5 iq6 iq9 iq7), iq8⟩)
    (i_c : PySem.W.codeIn K iq9 "Schema.__init__" = true)
    (i_k : PySem.W.keepIn K (.ref fI) = true)
    (i_d : PySem.W.nsIn K kD "choices" = some (some .none)) :
    LawAtS l w K CX0 9 63 "_law_script" mg fa h := by
  have T : Bt mg := bt_mk X G (by
    intro x hx
    simp only [List.mem_cons, List.not_mem_nil, or_false] at hx
    rcases hx with rfl | rfl | rfl | rfl | rfl | rfl | rfl | rfl | rfl | rfl | rfl | rfl
    · exact z_isinstance
    · exact z_int
    · exact z_bool
    · exact z_str
    · exact z_list
    · exact z_tuple
    · exact z_len
    · exact z_all
    · exact z_sum
    · exact z_range
    · exact z_zip
    · exact z_enumerate)
  obtain ⟨f, oc, od, an, osl, kV, dc, pm, cd, ct, a, lk, c, kp⟩ := d_law
  have e := hfa.symm.trans (PySem.W.mg_of X G a)
  cases e
  refine ⟨PySem.W.fnOf "law" "law" (defArgs s_law) (defBody s_law) (defScope s_law) .none kV dc pm an cd ct, [(cB, PB), (cL, PL)], spLaw2 K [(PB, ("_by_numbers.<locals>.<lambda>" : Str)), (PL, ("_law_sorted.<locals>.<lambda>" : Str))], (two_all (t_B) (t_L)), (two_all (p_B) (p_L)), (two_all (PySem.W.codeHd_of_K X h_B) (PySem.W.codeHd_of_K X h_L)), fun s v => .of_eq rfl, fun H a ns hl _ hP hS => ⟨a, ns, rfl, hS, hl, (two_all (TabS.nil (hP (cB, PB) (.head _))) (TabS.nil (hP (cL, PL) (.tail _ (.head _))))), fun _ => rfl⟩, fun base _ _ hTB => ?_⟩
  have U : Bu mg := ⟨T, PySem.W.mg_none_of X G z_abs, PySem.W.mg_none_of X G z_ord, PySem.W.mg_none_of X G z_sorted, PySem.W.mg_none_of X G z_min, PySem.W.mg_none_of X G z_dict⟩
  have cl : ClS K C_Schema := ⟨cl_Schema.cls, na_Schema_kinds, na_Schema_choices, na_Schema_root⟩
  have gLet : ∃ u, mg "LETTERS" = some u ∧ RelV (.str alpha) u := ⟨_, PySem.W.mg_of X G g_LET, _, rfl⟩
  have TBB := hTB (cB, PB) (.head _)
  have TBL := hTB (cL, PL) (.tail _ (.head _))
  have uB : ∀ p ∈ [(PB, ("_by_numbers.<locals>.<lambda>" : Str)), (PL, ("_law_sorted.<locals>.<lambda>" : Str))], p.1 = PB → p.2 = ("_by_numbers.<locals>.<lambda>" : Str) := fun p hp e => by
    rcases List.mem_cons.mp hp with rfl | hp
    · rfl
    · rw [List.mem_singleton.mp hp] at e
      exact absurd e.symm ne_T
  have uL : ∀ p ∈ [(PB, ("_by_numbers.<locals>.<lambda>" : Str)), (PL, ("_law_sorted.<locals>.<lambda>" : Str))], p.1 = PL → p.2 = ("_law_sorted.<locals>.<lambda>" : Str) := fun p hp e => by
    rcases List.mem_cons.mp hp with rfl | hp
    · exact absurd e ne_T
    · rw [List.mem_singleton.mp hp]
  have c1 : Cal l.prog w K mg base 1 "is_whole" ["thing"] (spWhole K) := cal_mk d_is_whole X G (fun _ _ _ _ _ _ us hl => match us, hl with | [_], _ => rfl) fun f fd F => ok_is_whole F T
  have c2 : Cal l.prog w K mg base 1 "is_row" ["thing"] (spRow K) := cal_mk d_is_row X G (fun _ _ _ _ _ _ us hl => match us, hl with | [_], _ => rfl) fun f fd F => ok_is_row F T
  have c3 : Cal l.prog w K mg base 1 "is_name" ["thing"] (spName K) := cal_mk d_is_name X G (fun _ _ _ _ _ _ us hl => match us, hl with | [_], _ => rfl) fun f fd F => ok_is_name F T gLet (gi_mk X G g_MOST_LETTERS)
  have c4 : Cal l.prog w K mg base 1 "is_code" ["code"] spCode := cal_mk d_is_code X G (fun _ _ _ _ _ _ us hl => match us, hl with | [_], _ => rfl) fun f fd F => ok_is_code F (gi_mk X G g_FIRST_SIGN) (gi_mk X G g_LAST_SIGN) (gi_mk X G g_PERCENT_SIGN)
  have c5 : Cal l.prog w K mg base 1 "keeps_bounds" ["number", "low", "high"] spKB := cal_mk d_keeps_bounds X G (fun _ _ _ _ _ _ us hl => match us, hl with | [_, _, _], _ => rfl) fun f fd F => ok_keeps_bounds F
  have c6 : Cal l.prog w K mg base 1 "keeps_figures" ["number"] spKF := cal_mk d_keeps_figures X G (fun _ _ _ _ _ _ us hl => match us, hl with | [_], _ => rfl) fun f fd F => ok_keeps_figures F U (gi_mk X G g_GREATEST_NUMBER)
  have c7 : Cal l.prog w K mg base 2 "_is_most" ["most", "limit"] spMost := cal_mk d__is_most X G (fun _ _ _ _ _ _ us hl => match us, hl with | [_, _], _ => rfl) fun f fd F => ok_is_most F c1
  have c8 : Cal l.prog w K mg base 2 "_are_bounds" ["low", "high"] spBounds := cal_mk d__are_bounds X G (fun _ _ _ _ _ _ us hl => match us, hl with | [_, _], _ => rfl) fun f fd F => ok_are_bounds F c1
  have c9 : Cal l.prog w K mg base 1 "_first_word" ["of"] (spFirst K) := cal_mk d__first_word X G (fun _ _ _ _ _ _ us hl => match us, hl with | [_], _ => rfl) fun f fd F => ok_first_word F U
  have cA : Cal l.prog w K mg base 2 "is_text" ["thing"] spText := cal_mk d_is_text X G (fun _ _ _ _ _ _ us hl => match us, hl with | [_], _ => rfl) fun f fd F => ok_is_text F U c4
  have cB9 : Cal l.prog w K mg base 3 "_is_inmost" ["word", "of", "kinds", "choices"] (spInmost K) := cal_mk d__is_inmost X G (fun _ _ _ _ _ _ us hl => match us, hl with | [_, _, _, _], _ => rfl) fun f fd F => ok_is_inmost F U (gi_mk X G g_MOST_SIGNS) c3 c7 c8
  have cC : Cal l.prog w K mg base 4 "is_sort" ["of", "kinds", "choices"] (spSort K) := cal_mk d_is_sort X G (fun _ _ _ _ _ _ us hl => match us, hl with | [_, _, _], _ => rfl) fun f fd F => ok_is_sort F U (gi_mk X G g_MOST_IN_ROW) c9 c7 cB9
  have cD : Cal l.prog w K mg base 3 "_is_default" ["of", "default"] (spDeflt K) := cal_mk d__is_default X G (fun _ _ _ _ _ _ us hl => match us, hl with | [_, _], _ => rfl) fun f fd F => ok_is_default F U c1 c5 c6 cA
  have cE : Cal l.prog w K mg base 5 "_fault" ["word", "entry", "earlier", "kinds", "choices"] (spFault K) := cal_mk d__fault X G (fun _ _ _ _ _ _ us hl => match us, hl with | [_, _, _, _, _], _ => rfl) fun f fd F => ok_fault F U (gi_mk X G g_LAST_NUMBER) c3 c1 cC cD
  have cF : Cal l.prog w K mg base 2 "_names" ["rows"] spNames := cal_mk d__names X G (fun _ _ _ _ _ _ us hl => match us, hl with | [_], _ => rfl) fun f fd F => ok_names F U c3
  have cG : Cal l.prog w K mg base 6 "_refuse_rows" ["word", "rows", "kinds", "choices"] (spRows K) := cal_mk d__refuse_rows X G (fun _ _ _ _ _ _ us hl => match us, hl with | [_, _, _, _], _ => rfl) fun f fd F => ok_refuse_rows F U c3 c2 cE
  have cH : Cal l.prog w K mg base 1 "_refuse_comings_back" ["choices"] (spBack K) := cal_mk d__refuse_comings_back X G (fun _ _ _ _ _ _ us hl => match us, hl with | [_], _ => rfl) fun f fd F => ok_back F
  have cI : Cal l.prog w K mg base 4 "_by_numbers" ["rows"] (spByN K [(PB, ("_by_numbers.<locals>.<lambda>" : Str)), (PL, ("_law_sorted.<locals>.<lambda>" : Str))]) := ⟨fB, _, ok_by_numbers l_B c_B U TBB (.head _) uB, PySem.W.mg_of X G n_B, kp_B, (fun_mk (st := s__by_numbers) l_B c_B kp_B).binds (fun _ _ _ _ _ _ us hl => match us, hl with | [_], _ => rfl)⟩
  have cJ : Cal l.prog w K mg base 4 "_law_sorted" ["_law_table"] (spLSort K [(PB, ("_by_numbers.<locals>.<lambda>" : Str)), (PL, ("_law_sorted.<locals>.<lambda>" : Str))]) := ⟨fL, _, ok_lsorted l_L c_L U TBL (.tail _ (.head _)) uL, PySem.W.mg_of X G n_L, kp_L, (fun_mk (st := s__law_sorted) l_L c_L kp_L).binds (fun _ _ _ _ _ _ us hl => match us, hl with | [_], _ => rfl)⟩
  have okI : FnOk l.prog w K mg base CX0 7 fI (initF (.ref kD) iq4 iq5 iq6 iq9 iq7) ["self", "kinds", "choices", "root"] (spSInit K C_Schema [(PB, ("_by_numbers.<locals>.<lambda>" : Str)), (PL, ("_law_sorted.<locals>.<lambda>" : Str))]) := ok_sinit (fun_mk (st := s_Schema___init__) i_l i_c i_k) cl cF cG cC cI cH
  have MK : Mk K C_Schema fI := ⟨cl_Schema.mks, i_a, i_i, cl_Schema.kc⟩
  obtain ⟨gk, kb1⟩ := mk_kb1 i_l i_c i_k i_d
  have m1 : MkK l.prog w K mg base C_Schema 7 "Schema" 1 ["root"] mkV1 (spSInit K C_Schema [(PB, ("_by_numbers.<locals>.<lambda>" : Str)), (PL, ("_law_sorted.<locals>.<lambda>" : Str))]) := ⟨⟨fI, _, _, _, MK, okI, kb1⟩, PySem.W.mg_of X G cl_Schema.g⟩
  have m2 : MkK l.prog w K mg base C_Schema 7 "Schema" 0 ["root", "choices", "kinds"] mkV2 (spSInit K C_Schema [(PB, ("_by_numbers.<locals>.<lambda>" : Str)), (PL, ("_law_sorted.<locals>.<lambda>" : Str))]) := ⟨⟨fI, _, _, _, MK, okI, mk_kb2⟩, PySem.W.mg_of X G cl_Schema.g⟩
  have m3 : MkK l.prog w K mg base C_Schema 7 "Schema" 1 ["choices", "root"] mkV3 (spSInit K C_Schema [(PB, ("_by_numbers.<locals>.<lambda>" : Str)), (PL, ("_law_sorted.<locals>.<lambda>" : Str))]) := ⟨⟨fI, _, _, _, MK, okI, mk_kb3⟩, PySem.W.mg_of X G cl_Schema.g⟩
  have d1 : Cal l.prog w K mg base 1 "_law_well" ["_law_cell"] spWell := cal_mk d__law_well X G (fun _ _ _ _ _ _ us hl => match us, hl with | [_], _ => rfl) fun f fd F => ok_well F U
  have d2 : Cal l.prog w K mg base 1 "_law_draw" ["_law_well_here", "_law_many"] spDraw := cal_mk d__law_draw X G (fun _ _ _ _ _ _ us hl => match us, hl with | [_, _], _ => rfl) fun f fd F => ok_draw F U
  have d3 : Cal l.prog w K mg base 2 "_law_names" ["_law_well_here", "_law_many"] spNames2 := cal_mk d__law_names X G (fun _ _ _ _ _ _ us hl => match us, hl with | [_, _], _ => rfl) fun f fd F => ok_names2 F U d2
  have d4 : Cal l.prog w K mg base 2 "_law_number" ["_law_well_here"] spNum := cal_mk d__law_number X G (fun _ _ _ _ _ _ us hl => match us, hl with | [_], _ => rfl) fun f fd F => ok_number F U d2
  obtain ⟨fS, ocS, odS, anS, oslS, kVS, dcS, pmS, cdS, ctS, aS, lkS, cS, kpS⟩ := d__law_sort
  have FS := fun_mk (st := s__law_sort) lkS cS kpS
  have bS := FS.binds (ps := ["_law_well_here", "_law_nodes", "_law_some", "_law_deep"]) (fun _ _ _ _ _ _ us hl => match us, hl with | [_, _, _, _], _ => rfl)
  have d5 : Cal l.prog w K mg base 6 "_law_sort" ["_law_well_here", "_law_nodes", "_law_some", "_law_deep"] (spMk K 3) := ⟨fS, _, ok_msort FS U d2 d4 (PySem.W.mg_of X G aS) kpS bS 3, PySem.W.mg_of X G aS, kpS, bS⟩
  have d6 : Cal l.prog w K mg base 2 "_law_left" ["_law_well_here", "_law_of"] (spLeft K) := cal_mk d__law_left X G (fun _ _ _ _ _ _ us hl => match us, hl with | [_, _], _ => rfl) fun f fd F => ok_left F U d2
  have d7 : Cal l.prog w K mg base 7 "_law_fields" ["_law_well_here", "_law_nodes", "_law_some"] (spFields K) := cal_mk d__law_fields X G (fun _ _ _ _ _ _ us hl => match us, hl with | [_, _, _], _ => rfl) fun f fd F => ok_fields F U d2 d3 d5 d6
  have d8 : Cal l.prog w K mg base 7 "_law_cases" ["_law_well_here", "_law_nodes", "_law_some", "_law_k"] (spCases K) := cal_mk d__law_cases X G (fun _ _ _ _ _ _ us hl => match us, hl with | [_, _, _, _], _ => rfl) fun f fd F => ok_cases F U d2 d3 d5
  have d9 : Cal l.prog w K mg base 8 "_law_parts" ["_law_well_here"] (spParts K) := cal_mk d__law_parts X G (fun _ _ _ _ _ _ us hl => match us, hl with | [_], _ => rfl) fun f fd F => ok_parts F U d2 d3 d5 d7 d8
  have dA : Cal l.prog w K mg base 2 "_law_formed" ["_law_well_here", "_law_table"] (spFormed K) := cal_mk d__law_formed X G (fun _ _ _ _ _ _ us hl => match us, hl with | [_, _], _ => rfl) fun f fd F => ok_formed F U d2
  have dB : Cal l.prog w K mg base 1 "_law_copied" ["_law_handed"] (spCopied K) := cal_mk d__law_copied X G (fun _ _ _ _ _ _ us hl => match us, hl with | [_], _ => rfl) fun f fd F => ok_copied F U
  have dC : Cal l.prog w K mg base 5 "_law_right" ["_law_schema", "_law_parts_here"] (spRight K C_Schema [(PB, ("_by_numbers.<locals>.<lambda>" : Str)), (PL, ("_law_sorted.<locals>.<lambda>" : Str))]) := cal_mk d__law_right X G (fun _ _ _ _ _ _ us hl => match us, hl with | [_, _], _ => rfl) fun f fd F => ok_right F U cl cJ
  exact ok_law (fun_mk (st := s_law) lk c kp) U d1 d2 d9 dA dB dC m1 m2 m3
end K02
open PySem PySem.W PyProof.Rows
set_option maxHeartbeats 0 in
theorem PySem.Challenge.cw_thingwires_k02_schemas_made_holds : PySem.Challenge.rw_thingwires_k02_schemas_made.Holds := by
  w_on; o_law; k_head; (case hw => w_witness2)
  k_fill
  refine LamX.walk_ofTs (l := PySem.Challenge.rw_thingwires_k02_schemas_made) (n := 63) (k := 9) (x := "_law_script") (CX := fun _ => L2.CX0) rfl (by decide) rfl ⟨rfl, by decide, by decide⟩ (fun w h Y => PySem.W.km_in_of Y) ?F (fun _ _ _ _ _ h => h)
  case F =>
    intro w mg fa h Y KX G hmg
    refine' K02.all_mk KX G hmg (Tw.defIn_mk ?twa0 ?twl0 ?twc0 ?twk0) (Tw.defIn_mk ?twa1 ?twl1 ?twc1 ?twk1) (Tw.defIn_mk ?twa2 ?twl2 ?twc2 ?twk2) (Tw.defIn_mk ?twa3 ?twl3 ?twc3 ?twk3) (Tw.defIn_mk ?twa4 ?twl4 ?twc4 ?twk4) (Tw.defIn_mk ?twa5 ?twl5 ?twc5 ?twk5) (Tw.defIn_mk ?twa6 ?twl6 ?twc6 ?twk6) (Tw.defIn_mk ?twa7 ?twl7 ?twc7 ?twk7) (Tw.defIn_mk ?twa8 ?twl8 ?twc8 ?twk8) (Tw.defIn_mk ?twa9 ?twl9 ?twc9 ?twk9) (Tw.defIn_mk ?twa10 ?twl10 ?twc10 ?twk10) (Tw.defIn_mk ?twa11 ?twl11 ?twc11 ?twk11) (Tw.defIn_mk ?twa12 ?twl12 ?twc12 ?twk12) (Tw.defIn_mk ?twa13 ?twl13 ?twc13 ?twk13) (Tw.defIn_mk ?twa14 ?twl14 ?twc14 ?twk14) (Tw.defIn_mk ?twa15 ?twl15 ?twc15 ?twk15) (Tw.defIn_mk ?twa16 ?twl16 ?twc16 ?twk16) (Tw.defIn_mk ?twa17 ?twl17 ?twc17 ?twk17) (Tw.defIn_mk ?twa18 ?twl18 ?twc18 ?twk18) (Tw.defIn_mk ?twa19 ?twl19 ?twc19 ?twk19) (Tw.defIn_mk ?twa20 ?twl20 ?twc20 ?twk20) (Tw.defIn_mk ?twa21 ?twl21 ?twc21 ?twk21) (Tw.defIn_mk ?twa22 ?twl22 ?twc22 ?twk22) (Tw.defIn_mk ?twa23 ?twl23 ?twc23 ?twk23) (Tw.defIn_mk ?twa24 ?twl24 ?twc24 ?twk24) (Tw.defIn_mk ?twa25 ?twl25 ?twc25 ?twk25) (Tw.defIn_mk ?twa26 ?twl26 ?twc26 ?twk26) (Tw.defIn_mk ?twa27 ?twl27 ?twc27 ?twk27) (Tw.defIn_mk ?twa28 ?twl28 ?twc28 ?twk28) (Tw.defIn_mk ?twa29 ?twl29 ?twc29 ?twk29) (Tw.ClIn.mk ?twxg0 ?twxp0 ?twxh0 ?twxo0 ?twxs0 ?twxm0 ?twxk0) ?twn0 ?twn1 ?twn2 ?twg0 ?twg1 ?twg2 ?twg3 ?twg4 ?twg5 ?twg6 ?twg7 ?twz0 ?twz1 ?twz2 ?twz3 ?twz4 ?twz5 ?twz6 ?twz7 ?twz8 ?twz9 ?twz10 ?twz11 ?twz12 ?twz13 ?twz14 ?twz15 ?twz16 ?twe0 ?twe1 ?twe2 ?twe3 ?twe4 ?twe5 ?twe6 ?twe7 ?twe8 ?twe9 ?twe10 ?twe11 ?twe12 ?twe13 ?twe14 ?twe15 ?twe16 ?twe17 ?twe18 ?twe19 ?twe20 ?twe21 ?twe22 ?twe23 ?twe24 ?twe25
    (case twa0 => k_is)
    (case twl0 => k_is)
    (case twc0 => k_is)
    (case twk0 => k_is)
    (case twa1 => k_is)
    (case twl1 => k_is)
    (case twc1 => k_is)
    (case twk1 => k_is)
    (case twa2 => k_is)
    (case twl2 => k_is)
    (case twc2 => k_is)
    (case twk2 => k_is)
    (case twa3 => k_is)
    (case twl3 => k_is)
    (case twc3 => k_is)
    (case twk3 => k_is)
    (case twa4 => k_is)
    (case twl4 => k_is)
    (case twc4 => k_is)
    (case twk4 => k_is)
    (case twa5 => k_is)
    (case twl5 => k_is)
    (case twc5 => k_is)
    (case twk5 => k_is)
    (case twa6 => k_is)
    (case twl6 => k_is)
    (case twc6 => k_is)
    (case twk6 => k_is)
    (case twa7 => k_is)
    (case twl7 => k_is)
    (case twc7 => k_is)
    (case twk7 => k_is)
    (case twa8 => k_is)
    (case twl8 => k_is)
    (case twc8 => k_is)
    (case twk8 => k_is)
    (case twa9 => k_is)
    (case twl9 => k_is)
    (case twc9 => k_is)
    (case twk9 => k_is)
    (case twa10 => k_is)
    (case twl10 => k_is)
    (case twc10 => k_is)
    (case twk10 => k_is)
    (case twa11 => k_is)
    (case twl11 => k_is)
    (case twc11 => k_is)
    (case twk11 => k_is)
    (case twa12 => k_is)
    (case twl12 => k_is)
    (case twc12 => k_is)
    (case twk12 => k_is)
    (case twa13 => k_is)
    (case twl13 => k_is)
    (case twc13 => k_is)
    (case twk13 => k_is)
    (case twa14 => k_is)
    (case twl14 => k_is)
    (case twc14 => k_is)
    (case twk14 => k_is)
    (case twa15 => k_is)
    (case twl15 => k_is)
    (case twc15 => k_is)
    (case twk15 => k_is)
    (case twa16 => k_is)
    (case twl16 => k_is)
    (case twc16 => k_is)
    (case twk16 => k_is)
    (case twa17 => k_is)
    (case twl17 => k_is)
    (case twc17 => k_is)
    (case twk17 => k_is)
    (case twa18 => k_is)
    (case twl18 => k_is)
    (case twc18 => k_is)
    (case twk18 => k_is)
    (case twa19 => k_is)
    (case twl19 => k_is)
    (case twc19 => k_is)
    (case twk19 => k_is)
    (case twa20 => k_is)
    (case twl20 => k_is)
    (case twc20 => k_is)
    (case twk20 => k_is)
    (case twa21 => k_is)
    (case twl21 => k_is)
    (case twc21 => k_is)
    (case twk21 => k_is)
    (case twa22 => k_is)
    (case twl22 => k_is)
    (case twc22 => k_is)
    (case twk22 => k_is)
    (case twa23 => k_is)
    (case twl23 => k_is)
    (case twc23 => k_is)
    (case twk23 => k_is)
    (case twa24 => k_is)
    (case twl24 => k_is)
    (case twc24 => k_is)
    (case twk24 => k_is)
    (case twa25 => k_is)
    (case twl25 => k_is)
    (case twc25 => k_is)
    (case twk25 => k_is)
    (case twa26 => k_is)
    (case twl26 => k_is)
    (case twc26 => k_is)
    (case twk26 => k_is)
    (case twa27 => k_is)
    (case twl27 => k_is)
    (case twc27 => k_is)
    (case twk27 => k_is)
    (case twa28 => k_is)
    (case twl28 => k_is)
    (case twc28 => k_is)
    (case twk28 => k_is)
    (case twa29 => k_is)
    (case twl29 => k_is)
    (case twc29 => k_is)
    (case twk29 => k_is)
    (case twxg0 => k_is)
    (case twxp0 => k_is)
    (case twxh0 => k_is)
    (case twxo0 => k_is)
    (case twxs0 => k_is)
    (case twxm0 => k_is)
    (case twxk0 => k_is)
    (case twn0 => k_is)
    (case twn1 => k_is)
    (case twn2 => k_is)
    (case twg0 => k_is)
    (case twg1 => k_is)
    (case twg2 => k_is)
    (case twg3 => k_is)
    (case twg4 => k_is)
    (case twg5 => k_is)
    (case twg6 => k_is)
    (case twg7 => k_is)
    (case twz0 => k_is)
    (case twz1 => k_is)
    (case twz2 => k_is)
    (case twz3 => k_is)
    (case twz4 => k_is)
    (case twz5 => k_is)
    (case twz6 => k_is)
    (case twz7 => k_is)
    (case twz8 => k_is)
    (case twz9 => k_is)
    (case twz10 => k_is)
    (case twz11 => k_is)
    (case twz12 => k_is)
    (case twz13 => k_is)
    (case twz14 => k_is)
    (case twz15 => k_is)
    (case twz16 => k_is)
    (case twe0 => k_is)
    (case twe1 => k_is)
    (case twe2 => k_is)
    (case twe3 => k_is)
    (case twe4 => k_is)
    (case twe5 => exact rfl)
    (case twe6 => kernel_rfl)
    (case twe7 => kernel_rfl)
    (case twe8 => exact PySem.W.km_tabs_of Y _ (by decide))
    (case twe9 => k_is)
    (case twe10 => k_is)
    (case twe11 => k_is)
    (case twe12 => k_is)
    (case twe13 => k_is)
    (case twe14 => exact rfl)
    (case twe15 => kernel_rfl)
    (case twe16 => kernel_rfl)
    (case twe17 => exact PySem.W.km_tabs_of Y _ (by decide))
    (case twe18 => decide)
    (case twe19 => k_is)
    (case twe20 => k_is)
    (case twe21 => k_is)
    (case twe22 => k_is)
    (case twe23 => k_is)
    (case twe24 => k_is)
    (case twe25 => k_is)
