import PyProof.Rows.All
import Wide.All
import OpenK.AllK
import Wide.FinOn
import HandS.ForMost
import HandS.IsInst
import HandS.Walk
import HandS.Defaults
import HandS.Codes
import PySem.Sem
import KE.GoesEnumKw
import HandS.Star
import HandS.SortKw
import HandS.Wide
import HandS.ListItems
import HandS.TupAny
import PyProof.AutoSeq1
import HandS.ExcInit
import HandS.ExcOwn
import HandS.ExcField
import HandS.WordsExc
import HandS.ExcIs
import KE.KExcIs
import HandS.Lambda
import HandS.ClsMeth
import HandS.TryMany
import HandS.EndOwn
import KE.KNestM
import PySem.Challenge.RW_thingwires_k55_what_is_no_bytes
set_option Elab.async false
set_option linter.all false
set_option maxRecDepth 100000
/-! TwKit: what all our proofs share: defs that may be called, the well of numbers, frames. -/
namespace Tw
open PySem PySem.Spec PyProof.Rows L2

/-! ### a def of the text, as the top has left it -/
def DefIn (K : PySem.W.Frag) (x : Str) (st : Stmt) : Prop := ∃ (f : Addr) (oc : Value) (od an : Option Addr) (osl : Array (Option Value)) (kV dc pm cd ct : Value),
  PySem.W.nsIn K mainGlobals x = some (some (.ref f)) ∧ K.lookup f = some ⟨oc, od, .func (PySem.W.fnOf x x (defArgs st) (defBody st) (defScope st) .none kV dc pm an cd ct), osl⟩ ∧ PySem.W.codeIn K cd x = true ∧ PySem.W.keepIn K (.ref f) = true

section
variable {P : Program} {w : World} {K : PySem.W.Frag} {mg : Str → Option Value} {base : Heap}
theorem defIn_mk {x : Str} {st : Stmt} {f : Addr} {oc : Value} {od an : Option Addr} {osl : Array (Option Value)} {kV dc pm cd ct : Value} (a : PySem.W.nsIn K mainGlobals x = some (some (.ref f)))
    (l : K.lookup f = some ⟨oc, od, .func (PySem.W.fnOf x x (defArgs st) (defBody st) (defScope st) .none kV dc pm an cd ct), osl⟩) (c : PySem.W.codeIn K cd x = true) (k : PySem.W.keepIn K (.ref f) = true) : DefIn K x st :=
  ⟨f, oc, od, an, osl, kV, dc, pm, cd, ct, a, l, c, k⟩
/-- a def by its name: a promise that is kept, called by place -/
structure Cal (P : Program) (w : World) (K : PySem.W.Frag) (mg : Str → Option Value) (base : Heap) (k : Nat) (x : Str) (ps : List Str) (sp : Sp) : Prop where
  ex : ∃ (f : Addr) (fd : FuncData), FnOk P w K mg base CX0 k f fd ps sp ∧ mg x = some (.ref f) ∧ PySem.W.keepIn K (.ref f) = true ∧ Binds K fd ps []
/-- .. by keywords alone, in the order ks; gV puts their values into the parameters' order -/
structure CalK (P : Program) (w : World) (K : PySem.W.Frag) (mg : Str → Option Value) (base : Heap) (k : Nat) (x : Str) (n : Nat) (ks : List Str) (gV : List V → List V → List V) (sp : Sp) : Prop where
  ex : ∃ (f : Addr) (fd : FuncData) (ps : List Str) (g : List Value → List Value → List Value), FnOk P w K mg base CX0 k f fd ps sp ∧ mg x = some (.ref f) ∧ PySem.W.keepIn K (.ref f) = true ∧ KBn K fd ps n ks g gV

theorem cal_mk {x : Str} {st : Stmt} {ps : List Str} {k : Nat} {sp : Sp} {h : Heap} (D : DefIn K x st) (X : K.In h) (G : h.Ns mainGlobals mg)
    (b : ∀ (kV doc pm : Value) (an : Option Addr) (cdv ct : Value) (us : List Value), us.length = ps.length → bindArgs (PySem.W.fnOf x x (defArgs st) (defBody st) (defScope st) .none kV doc pm an cdv ct) ⟨us, []⟩ = pure (ps.zip us))
    (ok : ∀ (f : Addr) (fd : FuncData), Fun K x x st f fd → FnOk P w K mg base CX0 k f fd ps sp) : Cal P w K mg base k x ps sp := by
  obtain ⟨f, oc, od, an, osl, kV, dc, pm, cd, ct, a, l, c, kp⟩ := D
  have F := fun_mk (st := st) l c kp
  exact ⟨f, _, ok f _ F, PySem.W.mg_of X G a, kp, F.binds b⟩
theorem calK_mk {x : Str} {st : Stmt} {ps : List Str} {k n : Nat} {ks : List Str} {sp : Sp} {h : Heap} (g : {α : Type} → List α → List α → List α) (D : DefIn K x st) (X : K.In h) (G : h.Ns mainGlobals mg)
    (b : ∀ (kV doc pm : Value) (an : Option Addr) (cdv ct : Value) (us ws : List Value), us.length = n → ws.length = ks.length → bindArgs (PySem.W.fnOf x x (defArgs st) (defBody st) (defScope st) .none kV doc pm an cdv ct) ⟨us, ks.zip ws⟩ = pure (ps.zip (g us ws)))
    (hrel : ∀ {vs : List V} {us : List Value} {zs : List V} {ws : List Value}, Vals vs us → Vals zs ws → Vals (g vs zs) (g us ws))
    (ok : ∀ (f : Addr) (fd : FuncData), Fun K x x st f fd → FnOk P w K mg base CX0 k f fd ps sp) : CalK P w K mg base k x n ks g sp := by
  obtain ⟨f, oc, od, an, osl, kV, dc, pm, cd, ct, a, l, c, kp⟩ := D
  have F := fun_mk (st := st) l c kp
  exact ⟨f, _, ps, g, ok f _ F, PySem.W.mg_of X G a, kp, fun s us ws _ h1 h2 => .of_eq (b _ _ _ _ _ _ us ws h1 h2), hrel⟩
end

section
variable {X : Cx} {k j n : Nat} {x : Str} {ps ks : List Str} {sp : Sp} {gV : List V → List V → List V} {p pos : Pos} {e : Expr} {es : List Expr} {kws : List Keyword} {t tk : TA}
theorem pe_cal (c : Cal X.prog X.w X.K X.mg X.base k x ps sp) (hr : Room j X.A) (hk : k ≤ j) (hg : Gl X x) (ha : PA X (e :: es) t)
    (hdb : (x == ("__debug__" : Str)) = false := by decide) (he : starEach (e :: es) X.env = (false, eval e X.env) :: starEach es X.env := by rfl) (hpl : (backTo pos (starEach es X.env)).any (·.1) = false := by rfl) :
    PE X (.Call (.Name x p) (e :: es) [] pos) (tCall sp [] E0 t) := by
  obtain ⟨f, fd, F, hm, kp, b⟩ := c.ex
  exact pe_call F (hr.mono hk) hg hm kp b .nil pass0 ha hdb he hpl
theorem pe_cal0 (c : Cal X.prog X.w X.K X.mg X.base k x ps sp) (hr : Room j X.A) (hk : k ≤ j) (hg : Gl X x) (hdb : (x == ("__debug__" : Str)) = false := by decide) :
    PE X (.Call (.Name x p) [] [] pos) (tCall sp [] E0 tNil) := by
  obtain ⟨f, fd, F, hm, kp, b⟩ := c.ex
  exact pe_call0 F (hr.mono hk) hg hm kp b .nil pass0 hdb
/-- f(a, .., k = v, ..) -/
theorem pe_calN (c : CalK X.prog X.w X.K X.mg X.base k x n ks gV sp) (hr : Room j X.A) (hk : k ≤ j) (hg : Gl X x) (ha : PA X (e :: es) t) (hkw : PK X kws tk) (hall : (backToKw pos (keywordEach kws X.env)).all (·.1.isSome) = true := by rfl) (hks : (backToKw pos (keywordEach kws X.env)).filterMap (·.1) = ks := by rfl)
    (hdb : (x == ("__debug__" : Str)) = false := by decide) (he : starEach (e :: es) X.env = (false, eval e X.env) :: starEach es X.env := by rfl)
    (hpl : ((backTo pos (starEach (e :: es) X.env)).any (·.1) || (backToKw pos (keywordEach kws X.env)).any (·.1.isNone)) = false := by rfl) :
    PE X (.Call (.Name x p) (e :: es) kws pos) (tCallN n ks.length sp gV E0 t tk) := by
  obtain ⟨f, fd, ps, g, F, hm, kp, b⟩ := c.ex
  exact pe_callN F (hr.mono hk) hg hm kp b pass0 ha hkw hall hks hdb he hpl
/-- f(k = v, ..) -/
theorem pe_calN0 (c : CalK X.prog X.w X.K X.mg X.base k x 0 ks gV sp) (hr : Room j X.A) (hk : k ≤ j) (hg : Gl X x) (hkw : PK X kws tk) (hall : (backToKw pos (keywordEach kws X.env)).all (·.1.isSome) = true := by rfl) (hks : (backToKw pos (keywordEach kws X.env)).filterMap (·.1) = ks := by rfl)
    (hdb : (x == ("__debug__" : Str)) = false := by decide) (hpl : ((backTo pos (starEach [] X.env)).any (·.1) || (backToKw pos (keywordEach kws X.env)).any (·.1.isNone)) = false := by rfl) :
    PE X (.Call (.Name x p) [] kws pos) (tCallN 0 ks.length sp gV E0 tNil tk) := by
  obtain ⟨f, fd, ps, g, F, hm, kp, b⟩ := c.ex
  refine ⟨fun pins s σ H Q I h => ?_⟩
  refine wpAny_Call_Name_kw (ld_glob I hg hm ?_ hdb)
  refine PySem.W.callWith_KW0 (h₀ := X.base) I.ok.mod.kin kp hall ?_ hpl
  refine thn (hkw.run pos pins s σ H _ I h) fun ws s2 ⟨zs, H2, I2, rz, l1, l2, q2⟩ => ⟨I2.kIn, ?_⟩
  rw [hks]
  exact run_fnN (us := []) (vs := []) F (hr.mono hk) b pass0 I2 .nil rz rfl l2 q2
end

/-! ### heaps -/
theorem same_upd {H : Hp} {p : Addr} {o : HO} (h : H p = none) : Same H (upd H p o) := fun b x e => by
  rw [upd_ne (ne_of_none e h)]
  exact e
theorem Same.tupq {K : PySem.W.Frag} {H H' : Hp} {a : Addr} {xs : List V} (e : Same H H') (h : SqT K H a xs) : SqT K H' a xs := by
  rcases h with (h | ⟨o, h⟩) | h
  · exact .inl (.inl (e _ _ h))
  · exact .inl (.inr ⟨o, e _ _ h⟩)
  · exact .inr h

/-- the well at a: a list of three numbers -/
def IsWl (H : Hp) (a : Addr) : Prop := ∃ x y z : Int, H a = some (.lst [.int x, .int y, .int z])
/-- all but the well at a stays; that is a well again -/
def Fw (a : Addr) (H H' : Hp) : Prop := (∀ b o, b ≠ a → H b = some o → H' b = some o) ∧ IsWl H' a
theorem IsWl.same {H H' : Hp} {a : Addr} (h : IsWl H a) (s : Same H H') : IsWl H' a := by
  obtain ⟨x, y, z, e⟩ := h
  exact ⟨x, y, z, s _ _ e⟩
theorem Fw.refl {H : Hp} {a : Addr} (h : IsWl H a) : Fw a H H := ⟨fun _ _ _ e => e, h⟩
theorem Fw.trans {a : Addr} {H H1 H2 : Hp} (f : Fw a H H1) (g : Fw a H1 H2) : Fw a H H2 := ⟨fun b o n e => g.1 b o n (f.1 b o n e), g.2⟩
theorem Fw.same {a : Addr} {H H1 H2 : Hp} (f : Fw a H H1) (g : Same H1 H2) : Fw a H H2 := ⟨fun b o n e => g b o (f.1 b o n e), f.2.same g⟩
theorem Fw.of_same {a : Addr} {H H1 : Hp} (h : IsWl H a) (g : Same H H1) : Fw a H H1 := (Fw.refl h).same g
theorem Fw.free {a : Addr} {H H' : Hp} (f : Fw a H H') (h : IsWl H a) {p : Addr} (e : H' p = none) : H p = none := by
  cases q : H p with
  | none => rfl
  | some o =>
    by_cases hp : p = a
    · subst hp
      obtain ⟨_, _, _, z⟩ := f.2
      rw [z] at e
      cases e
    · rw [f.1 p o hp q] at e
      cases e
theorem IsWl.ne {H : Hp} {a p : Addr} (h : IsWl H a) (e : H p = none) : p ≠ a := fun q => by
  obtain ⟨_, _, _, z⟩ := h
  rw [q, z] at e
  cases e
/-- the draw's promise: any number below many -/
def spDraw : Sp := fun vs H Q _ => ∃ (a : Addr) (m : Int), vs = [.ref a, .int m] ∧ IsWl H a ∧ 0 < m ∧ m < 1073741824 ∧ ∀ (r : Int) (H' : Hp), 0 ≤ r → r < m → Fw a H H' → Q (.int r) H'

theorem iteB {c : Bool} {A B : Prop} (h1 : c = true → A) (h2 : c = false → B) : if c = true then A else B := by
  cases c
  · exact iteF (h2 rfl)
  · exact iteT (h1 rfl)

/-! ### plain texts -/
/-- a text of at most n signs below 128 -/
structure Asc (n : Nat) (z : Str) : Prop where
  le : z.length ≤ n
  lt : ∀ c ∈ z.cps.toList, c < 128
theorem len_toList (z : Str) : z.length = z.cps.toList.length := by
  show z.cps.size = _
  simp
theorem Asc.mono {m n : Nat} {z : Str} (h : Asc m z) (e : m ≤ n) : Asc n z := ⟨Nat.le_trans h.le e, h.lt⟩
theorem Asc.nil {n : Nat} : Asc n ⟨#[]⟩ := ⟨Nat.zero_le _, fun c h => by simp at h⟩
theorem Asc.one {c : Nat} (h : c < 128) : Asc 1 ⟨#[c]⟩ := ⟨Nat.le_refl _, fun d hd => by
  have e : d = c := by simpa using hd
  omega⟩
theorem toList_append (a b : Str) : (a ++ b).cps.toList = a.cps.toList ++ b.cps.toList := TL.tl_append a b
theorem Asc.append {m n : Nat} {a b : Str} (ha : Asc m a) (hb : Asc n b) : Asc (m + n) (a ++ b) := by
  refine ⟨?_, fun c hc => ?_⟩
  · have h1 := ha.le
    have h2 := hb.le
    rw [len_toList] at h1 h2 ⊢
    rw [toList_append, List.length_append]
    omega
  · rw [toList_append] at hc
    rcases List.mem_append.mp hc with h | h
    · exact ha.lt c h
    · exact hb.lt c h
theorem Asc.cut {n : Nat} {a : Str} (ha : Asc n a) (lo hi : Option Int) : Asc n (cutS a lo hi) := by
  refine ⟨Nat.le_trans (cutS_length a lo hi) ha.le, fun c hc => ha.lt c ?_⟩
  have e : c ∈ (a.cps.toList.drop (HT.sIx a.length 0 lo)).take (HT.sIx a.length a.length hi - HT.sIx a.length 0 lo) := hc
  exact List.mem_of_mem_drop (List.mem_of_mem_take e)
theorem Asc.ok {n : Nat} {z : Str} (h : Asc n z) : PyData.strOk z = true := by
  unfold PyData.strOk
  rw [← Array.all_toList, List.all_eq_true]
  intro c hc
  exact decide_eq_true (Nat.lt_trans (h.lt c hc) (by decide))
theorem asc_toList {l : List Nat} {n : Nat} (h : l.length ≤ n) (k : ∀ c ∈ l, c < 128) : Asc n ⟨l.toArray⟩ := ⟨by rw [len_toList]; simpa using h, fun c hc => k c (by simpa using hc)⟩
/-- written texts -/
def ascB (n : Nat) (z : Str) : Bool := decide (z.length ≤ n) && z.cps.toList.all fun c => decide (c < 128)
theorem Asc.of {n : Nat} {z : Str} (h : ascB n z = true) : Asc n z := by
  unfold ascB at h
  simp only [Bool.and_eq_true, decide_eq_true_eq, List.all_eq_true] at h
  exact ⟨h.1, h.2⟩
theorem Asc.at {n : Nat} {z : Str} (h : Asc n z) {i : Nat} (hi : i < z.length) : ∃ c, atI z.cps.toList (i : Int) = some c ∧ c < 128 := by
  have e : i < z.cps.toList.length := by rw [← len_toList]; exact hi
  exact ⟨z.cps.toList[i], atI_nat (List.getElem?_eq_getElem e), h.lt _ (List.getElem_mem e)⟩
theorem Asc.atZ {n : Nat} {z : Str} (h : Asc n z) {i : Int} (h0 : 0 ≤ i) (hi : i < z.length) : ∃ c, atI z.cps.toList i = some c ∧ c < 128 := by
  obtain ⟨c, e, l⟩ := h.at (i := i.toNat) (by omega)
  rw [Int.toNat_of_nonneg h0] at e
  exact ⟨c, e, l⟩
end Tw
/-! Sb: what the streams tell, on lists of numbers alone (no Python here). -/
namespace Sb
def By (xs : List Int) : Prop := ∀ b ∈ xs, 0 ≤ b ∧ b ≤ 255
def NZ (xs : List Int) : Prop := ∀ b ∈ xs, b ≠ 0
theorem By.nil : By [] := fun _ h => by cases h
theorem By.append {xs ys : List Int} (h : By xs) (k : By ys) : By (xs ++ ys) := fun b hb => (List.mem_append.mp hb).elim (h b) (k b)
theorem By.cons {x : Int} {xs : List Int} (h0 : 0 ≤ x) (h1 : x ≤ 255) (k : By xs) : By (x :: xs) := fun b hb => by
  rcases List.mem_cons.mp hb with rfl | h
  · exact ⟨h0, h1⟩
  · exact k b h
theorem By.one {x : Int} (h0 : 0 ≤ x) (h1 : x ≤ 255) : By [x] := By.cons h0 h1 .nil
theorem By.take {xs : List Int} (h : By xs) (n : Nat) : By (xs.take n) := fun b hb => h b (List.mem_of_mem_take hb)
theorem By.drop {xs : List Int} (h : By xs) (n : Nat) : By (xs.drop n) := fun b hb => h b (List.mem_of_mem_drop hb)
theorem By.left {xs ys : List Int} (h : By (xs ++ ys)) : By xs := fun b hb => h b (List.mem_append_left _ hb)
theorem By.right {xs ys : List Int} (h : By (xs ++ ys)) : By ys := fun b hb => h b (List.mem_append_right _ hb)
theorem By.rep {x : Int} (n : Nat) (h0 : 0 ≤ x) (h1 : x ≤ 255) : By (List.replicate n x) := fun b hb => by
  rw [(List.mem_replicate.mp hb).2]
  exact ⟨h0, h1⟩
theorem NZ.nil : NZ [] := fun _ h => by cases h
theorem NZ.append {xs ys : List Int} (h : NZ xs) (k : NZ ys) : NZ (xs ++ ys) := fun b hb => (List.mem_append.mp hb).elim (h b) (k b)
theorem NZ.take {xs : List Int} (h : NZ xs) (n : Nat) : NZ (xs.take n) := fun b hb => h b (List.mem_of_mem_take hb)
theorem NZ.drop {xs : List Int} (h : NZ xs) (n : Nat) : NZ (xs.drop n) := fun b hb => h b (List.mem_of_mem_drop hb)

/-! ### zeros -/
def zs (off : Nat) : List Int → List Nat
  | [] => []
  | b :: r => if b = 0 then off :: zs (off + 1) r else zs (off + 1) r
theorem zs_append (off : Nat) (xs ys : List Int) : zs off (xs ++ ys) = zs off xs ++ zs (off + xs.length) ys := by
  induction xs generalizing off with
  | nil => rfl
  | cons b r ih =>
    have e : off + (b :: r).length = off + 1 + r.length := by rw [List.length_cons]; omega
    rw [e]
    by_cases h : b = 0
    · simp only [List.cons_append, zs, if_pos h, ih]
    · simp only [List.cons_append, zs, if_neg h, ih]
theorem zs_nz {xs : List Int} (h : NZ xs) (off : Nat) : zs off xs = [] := by
  induction xs generalizing off with
  | nil => rfl
  | cons b r ih =>
    have h1 : b ≠ 0 := h b (List.mem_cons_self ..)
    simp only [zs, if_neg h1]
    exact ih (fun c hc => h c (List.mem_cons_of_mem _ hc)) _
theorem zs_length (off : Nat) (xs : List Int) : (zs off xs).length ≤ xs.length := by
  induction xs generalizing off with
  | nil => exact Nat.le_refl _
  | cons b r ih =>
    have := ih (off + 1)
    by_cases h : b = 0
    · simp only [zs, if_pos h, List.length_cons]; omega
    · simp only [zs, if_neg h, List.length_cons]; omega
theorem nz_of_zs {xs : List Int} {off : Nat} (h : zs off xs = []) : NZ xs := by
  induction xs generalizing off with
  | nil => exact .nil
  | cons b r ih =>
    by_cases hb : b = 0
    · simp [zs, hb] at h
    · simp only [zs, if_neg hb] at h
      intro c hc
      rcases List.mem_cons.mp hc with rfl | q
      · exact hb
      · exact ih h c q
/-- the first zero: ahead of it none -/
theorem zs_cons {xs : List Int} {off z : Nat} {t : List Nat} (h : zs off xs = z :: t) : ∃ seg r, xs = seg ++ 0 :: r ∧ NZ seg ∧ z = off + seg.length ∧ t = zs (z + 1) r := by
  induction xs generalizing off with
  | nil => cases h
  | cons b r ih =>
    by_cases hb : b = 0
    · simp only [zs, if_pos hb] at h
      cases h
      exact ⟨[], r, by rw [hb]; rfl, .nil, rfl, rfl⟩
    · simp only [zs, if_neg hb] at h
      obtain ⟨seg, r', e, hn, ez, et⟩ := ih h
      refine ⟨b :: seg, r', by rw [e]; rfl, fun c hc => ?_, by rw [ez, List.length_cons]; omega, et⟩
      rcases List.mem_cons.mp hc with rfl | q
      · exact hb
      · exact hn c q
theorem zs_take_succ {xs : List Int} {i : Nat} {b : Int} (h : xs[i]? = some b) (off : Nat) : zs off (xs.take (i + 1)) = zs off (xs.take i) ++ if b = 0 then [off + i] else [] := by
  have hi : i < xs.length := (List.getElem?_eq_some_iff.mp h).1
  rw [List.take_add_one, h, zs_append]
  have e : (xs.take i).length = i := by rw [List.length_take]; omega
  rw [e]
  by_cases hb : b = 0
  · simp [zs, hb]
  · simp [zs, hb]

/-! ### the check -/
def wsum (k : Int) : List Int → Int
  | [] => 0
  | b :: r => k * b + wsum (k + 1) r
def check (p : List Int) : List Int := [p.sum % 65521 / 256, p.sum % 65521 % 256, wsum 1 p % 65521 / 256, wsum 1 p % 65521 % 256]
theorem wsum_append (k : Int) (xs ys : List Int) : wsum k (xs ++ ys) = wsum k xs + wsum (k + (xs.length : Int)) ys := by
  induction xs generalizing k with
  | nil => simp [wsum]
  | cons b r ih =>
    have e : k + ((b :: r).length : Int) = k + 1 + (r.length : Int) := by rw [List.length_cons]; push_cast; omega
    rw [e, List.cons_append]
    simp only [wsum, ih]
    omega
theorem check_length (p : List Int) : (check p).length = 4 := rfl
theorem check_by (p : List Int) : By (check p) := by
  intro b hb
  have h1 : 0 ≤ p.sum % 65521 ∧ p.sum % 65521 < 65521 := by omega
  have h2 : 0 ≤ wsum 1 p % 65521 ∧ wsum 1 p % 65521 < 65521 := by omega
  simp only [check, List.mem_cons, List.not_mem_nil, or_false] at hb
  rcases hb with rfl | rfl | rfl | rfl <;> omega

/-! ### runs undone -/
/-- by fuel: what is made, what is left -/
def undo : Nat → List Int → List Int → Option (List Int)
  | 0, acc, _ => some acc
  | _ + 1, acc, [] => some acc
  | f + 1, acc, n :: r =>
    if r.length + 1 < n.toNat then none
    else undo f (acc ++ r.take (n.toNat - 1) ++ if n < 255 ∧ n.toNat < r.length + 1 then [0] else []) ((n :: r).drop n.toNat)
def unrun (p : List Int) : Option (List Int) := undo p.length [] p
theorem undo_nil (f : Nat) (acc : List Int) : undo f acc [] = some acc := by cases f <;> rfl
theorem undo_length {f : Nat} {acc p w : List Int} (hp : ∀ b ∈ p, 1 ≤ b) (h : undo f acc p = some w) : w.length ≤ acc.length + p.length := by
  induction f generalizing acc p with
  | zero => simp only [undo, Option.some.injEq] at h; subst h; omega
  | succ f ih =>
    cases p with
    | nil => simp only [undo, Option.some.injEq] at h; subst h; simp
    | cons n r =>
      simp only [undo] at h
      split at h
      · cases h
      · rename_i hn
        have h1 := hp n (List.mem_cons_self ..)
        have q := ih (fun b hb => hp b (List.mem_of_mem_drop hb)) h
        have e : ((n :: r).drop n.toNat).length = r.length + 1 - n.toNat := by rw [List.length_drop, List.length_cons]
        rw [e, List.length_append, List.length_append, List.length_take] at q
        rw [List.length_cons]
        have e2 : (if n < 255 ∧ n.toNat < r.length + 1 then [(0 : Int)] else []).length ≤ 1 := by split <;> simp
        omega
theorem undo_by {f : Nat} {acc p w : List Int} (ha : By acc) (hp : By p) (h : undo f acc p = some w) : By w := by
  induction f generalizing acc p with
  | zero => simp only [undo, Option.some.injEq] at h; subst h; exact ha
  | succ f ih =>
    cases p with
    | nil => simp only [undo, Option.some.injEq] at h; subst h; exact ha
    | cons n r =>
      simp only [undo] at h
      split at h
      · cases h
      · refine ih ?_ (hp.drop _) h
        refine (ha.append (By.take (fun b hb => hp b (List.mem_cons_of_mem _ hb)) _)).append ?_
        split
        · exact .one (by omega) (by omega)
        · exact .nil
theorem unrun_length {p w : List Int} (hp : ∀ b ∈ p, 1 ≤ b) (h : unrun p = some w) : w.length ≤ p.length := by
  have := undo_length hp h
  simpa using this
theorem unrun_by {p w : List Int} (hp : By p) (h : unrun p = some w) : By w := undo_by .nil hp h

/-! ### what is told -/
inductive Tell where
  | part (pl : Nat) (bs : List Int)
  | torn (pl n : Nat)
deriving DecidableEq
def tell (pl : Nat) (p : List Int) : Tell :=
  match unrun p with
  | some w => if 4 ≤ w.length ∧ w.drop (w.length - 4) = check (w.take (w.length - 4)) then .part pl (w.take (w.length - 4)) else .torn pl p.length
  | none => .torn pl p.length
def goes : List Int → Nat → List Int → List Tell × List Int × Nat
  | pc, pl, [] => ([], pc, pl)
  | pc, pl, b :: r => if b = 0 then ((if pc = [] then [] else [tell pl pc]) ++ (goes [] (pl + pc.length + 1) r).1, (goes [] (pl + pc.length + 1) r).2) else goes (pc ++ [b]) pl r
def rests (pc : List Int) (pl : Nat) : List Tell := if pc = [] then [] else [.torn pl pc.length]
def unstr (xs : List Int) : List Tell := (goes [] 0 xs).1 ++ rests (goes [] 0 xs).2.1 (goes [] 0 xs).2.2
theorem goes_nz {seg : List Int} (h : NZ seg) (pc : List Int) (pl : Nat) : goes pc pl seg = ([], pc ++ seg, pl) := by
  induction seg generalizing pc with
  | nil => simp [goes]
  | cons b r ih =>
    have hb : b ≠ 0 := h b (List.mem_cons_self ..)
    simp only [goes, if_neg hb]
    rw [ih (fun c hc => h c (List.mem_cons_of_mem _ hc))]
    simp
theorem goes_append (pc : List Int) (pl : Nat) (xs ys : List Int) : goes pc pl (xs ++ ys) = ((goes pc pl xs).1 ++ (goes (goes pc pl xs).2.1 (goes pc pl xs).2.2 ys).1, (goes (goes pc pl xs).2.1 (goes pc pl xs).2.2 ys).2) := by
  induction xs generalizing pc pl with
  | nil => simp [goes]
  | cons b r ih =>
    by_cases hb : b = 0
    · simp only [List.cons_append, goes, if_pos hb, ih, List.append_assoc]
    · simp only [List.cons_append, goes, if_neg hb, ih]
theorem goes_zero {seg : List Int} (h : NZ seg) (pc : List Int) (pl : Nat) (r : List Int) :
    goes pc pl (seg ++ 0 :: r) = ((if pc ++ seg = [] then [] else [tell pl (pc ++ seg)]) ++ (goes [] (pl + (pc ++ seg).length + 1) r).1, (goes [] (pl + (pc ++ seg).length + 1) r).2) := by
  rw [goes_append, goes_nz h]
  simp only [goes, if_true, List.nil_append]
/-- the piece kept is of none but bytes, without zeros -/
theorem goes_keeps {pc xs : List Int} {pl : Nat} (h1 : By pc) (h2 : NZ pc) (hx : By xs) : By (goes pc pl xs).2.1 ∧ NZ (goes pc pl xs).2.1 ∧ (goes pc pl xs).2.1.length ≤ pc.length + xs.length := by
  induction xs generalizing pc pl with
  | nil => exact ⟨h1, h2, Nat.le_add_right _ _⟩
  | cons b r ih =>
    have hb := hx b (List.mem_cons_self ..)
    have hr : By r := fun c hc => hx c (List.mem_cons_of_mem _ hc)
    by_cases h0 : b = 0
    · simp only [goes, if_pos h0]
      obtain ⟨a, c, d⟩ := ih (pl := pl + pc.length + 1) By.nil NZ.nil hr
      refine ⟨a, c, ?_⟩
      rw [List.length_cons]
      have e : ([] : List Int).length = 0 := rfl
      omega
    · simp only [goes, if_neg h0]
      obtain ⟨a, c, d⟩ := ih (pc := pc ++ [b]) (pl := pl) (h1.append (.one hb.1 hb.2)) (h2.append fun c hc => by
        have e : c = b := by simpa using hc
        rw [e]; exact h0) hr
      refine ⟨a, c, ?_⟩
      rw [List.length_append] at d
      rw [List.length_cons]
      have e : [b].length = 1 := rfl
      omega
theorem goes_many (pc : List Int) (pl : Nat) (xs : List Int) : (goes pc pl xs).1.length ≤ xs.length := by
  induction xs generalizing pc pl with
  | nil => exact Nat.le_refl _
  | cons b r ih =>
    by_cases h0 : b = 0
    · simp only [goes, if_pos h0, List.length_append, List.length_cons]
      have := ih [] (pl + pc.length + 1)
      have e : (if pc = [] then [] else [tell pl pc]).length ≤ 1 := by split <;> simp
      omega
    · simp only [goes, if_neg h0, List.length_cons]
      have := ih (pc ++ [b]) pl
      omega
theorem undo_at {ns acc : List Int} {a k f : Nat} (h : ns[a]? = some (k : Int)) (hk : 1 ≤ k) (hf : ns.length - a ≤ f) :
    ∃ f', ns.length - (a + k) ≤ f' ∧ undo f acc (ns.drop a) = if ns.length < a + k then none else undo f' (acc ++ (ns.drop (a + 1)).take (k - 1) ++ if (k : Int) < 255 ∧ a + k < ns.length then [0] else []) (ns.drop (a + k)) := by
  have ha : a < ns.length := (List.getElem?_eq_some_iff.mp h).1
  have e : ns.drop a = (k : Int) :: ns.drop (a + 1) := by
    rw [List.drop_eq_getElem_cons ha]
    have := (List.getElem?_eq_some_iff.mp h).2
    rw [this]
  cases f with
  | zero => omega
  | succ f =>
    refine ⟨f, by omega, ?_⟩
    have e2 : ((k : Int) :: ns.drop (a + 1)).drop k = ns.drop (a + k) := by
      rw [← e, List.drop_drop]
    rw [e]
    simp only [undo, Int.toNat_natCast]
    rw [e2, List.length_drop]
    by_cases c : ns.length < a + k
    · rw [if_pos c, if_pos (by omega)]
    · rw [if_neg c, if_neg (by omega)]
      have e3 : (if (k : Int) < 255 ∧ k < ns.length - (a + 1) + 1 then [(0 : Int)] else []) = if (k : Int) < 255 ∧ a + k < ns.length then [0] else [] := by
        by_cases d : (k : Int) < 255 ∧ a + k < ns.length
        · rw [if_pos d, if_pos ⟨d.1, by omega⟩]
        · rw [if_neg d, if_neg (fun q => d ⟨q.1, by omega⟩)]
      rw [e3]
theorem byte_nat {ns : List Int} (hB : By ns) (hN : NZ ns) {a : Nat} {b : Int} (h : ns[a]? = some b) : ∃ k : Nat, b = (k : Int) ∧ 1 ≤ k ∧ k ≤ 255 := by
  have hm := List.mem_of_getElem? h
  have h1 := hB b hm
  have h2 := hN b hm
  exact ⟨b.toNat, by omega, by omega, by omega⟩
end Sb
/-! TwS: rules that we lack elsewhere: a statement that is never come to; enumerate over rows, counted from any number; the sum of a row. -/
namespace Tw
open PySem PySem.Spec PyProof.Rows L2

section
variable {X : Cx} {st : Stmt} {sts : List Stmt}
theorem ps_dead : PS X st (fun _ _ _ => False) := ⟨fun _ _ _ _ _ _ no => no.elim⟩
theorem pss_dead : PSs X sts (fun _ _ _ => False) := ⟨fun _ _ _ _ _ _ no => no.elim⟩
/-- a statement and what follows, by a word M that stands between -/
def tMid (t u : TS) : TS := fun D σ H => ∃ M : L2.St → Hp → Prop, t { D with nx := M } σ H ∧ ∀ σ1 H1, M σ1 H1 → u D σ1 H1
theorem pss_mid {t u : TS} (h1 : PS X st t) (h2 : PSs X sts u) : PSs X (st :: sts) (tMid t u) := by
  refine ⟨fun pins sh σ H D I hh => ?_⟩
  obtain ⟨M, ht, hu⟩ := hh
  refine wpAny_execs_cons (thn (h1.run pins sh σ H { D with nx := M } I ht) fun fl s1 q => ?_)
  cases fl with
  | next => exact q.elim fun σ1 q => q.elim fun H1 q => h2.run pins s1 σ1 H1 D q.1 (hu σ1 H1 q.2)
  | _ => exact q
end

/-! ### a built-in class called with keywords -/
section
variable {Mo : Model} {Ar : Around} {Ex : Value → Shared → Prop} {sh : Shared} {en : Env}
theorem tyCall_kw {ps : Pos} {T : String} {a : Expr} {as : List Expr} {ks : List Keyword} {Qv : Value → Shared → Prop}
    (go : wpAny Mo Ar (spliced (backTo ps (starEach (a :: as) en))) (fun us s1 => wpAny Mo Ar (evalAll ((backToKw ps (keywordEach ks en)).map (·.2))) (fun ws s2 => wpAny Mo Ar (call (.type T) us (((backToKw ps (keywordEach ks en)).filterMap (·.1)).zip ws)) Qv Ex s2) Ex s1) Ex sh)
    (e1 : backTo ps (starEach (a :: as) en) = (false, eval a en) :: backTo ps (starEach as en) := by rfl) (e2 : (backTo ps (starEach (a :: as) en)).any (·.1) = false := by rfl)
    (e3 : (backToKw ps (keywordEach ks en)).all (·.1.isSome) = true := by rfl) (e4 : (backToKw ps (keywordEach ks en)).any (·.1.isNone) = false := by rfl) :
    wpAny Mo Ar (callWith ps (.type T) [] (backTo ps (starEach (a :: as) en)) (backToKw ps (keywordEach ks en))) Qv Ex sh := by
  have ev : wpAny Mo Ar (evalArgs (.type T) true (backTo ps (starEach (a :: as) en)) (backToKw ps (keywordEach ks en))) (fun g s1 => wpAny Mo Ar (call (.type T) ([] ++ g.pos) g.kw) Qv Ex s1) Ex sh := by
    rw [e1] at go ⊢
    exact evalArgs_kwB e3 go
  unfold callWith
  refine wpAny_bind (wpAny_holding (wpAny_mono ev (fun g s1 hg => wpAny_bind (wpAny_standAt ?_)) fun _ _ z => z))
  simp only [e2, e4, Bool.or_false]
  exact wpAny_bind (wpAny_pure (wpAny_bind (wpAny_mono hg (fun r s2 hr => wpAny_bind (wpAny_holding (wpAny_point (wpAny_pure hr)))) fun _ _ z => z)))
end

/-! ### enumerate from c on -/
/-- the list at a, counted from c -/
def IteC (K : PySem.W.Frag) (a : Addr) (c : Int) : It where
  go := fun i H => ∃ (ys : List V) (y : V), SqL K H a ys ∧ ys[i]? = some y
  yld := fun i H v H' => ∃ T y, v = .ref T ∧ H T = none ∧ H' = upd H T (.tup [.int (c + (i : Nat)), y]) ∧ ∀ ys, SqL K H a ys → ys[i]? = some y
  stop := fun i H => ∃ ys : List V, SqL K H a ys ∧ ys.length = i
/-- the tuple at a -/
def ItuC (K : PySem.W.Frag) (a : Addr) (c : Int) : It where
  go := fun i H => ∃ (ys : List V) (y : V), SqT K H a ys ∧ ys[i]? = some y
  yld := fun i H v H' => ∃ T y, v = .ref T ∧ H T = none ∧ H' = upd H T (.tup [.int (c + (i : Nat)), y]) ∧ ∀ ys, SqT K H a ys → ys[i]? = some y
  stop := fun i H => ∃ ys : List V, SqT K H a ys ∧ ys.length = i

theorem turn_enC {P : Program} {w : World} {K : PySem.W.Frag} {es : List Expr} {kx : Nat} {tp : Pos} (a e it : Addr) (c : Int) :
    Turn P w K (.Tuple es kx tp) (IteC K a c) [e, it] e (fun i h => (∃ old, IsEnum h e it (c + (i : Nat)) old) ∧ h.IsListIter it a i ∧ e ≠ it) where
  mem := by simp
  obj := by
    rintro i h ⟨⟨old, h1⟩, ⟨o, h2, _, h3⟩, _⟩ b hb
    rcases (show b = e ∨ b = it by simpa using hb) with rfl | rfl
    · exact ⟨_, h1, fun v q => nomatch q⟩
    · exact ⟨o, h2, fun v q => by rw [h3] at q; cases q⟩
  keep := by
    rintro i h h' ⟨⟨old, h1⟩, h2, h3⟩ k
    exact ⟨⟨old, k e (by simp) _ h1⟩, h2.at fun o q => k it (by simp) o q, h3⟩
  item := by
    rintro X rfl rfl rfl cm i pins s σ H E I ff ⟨⟨old, h1⟩, h2, h3⟩ ⟨ys, y, h4, h5⟩
    obtain ⟨us, rv, pl, hz⟩ := I.list h4
    obtain ⟨u, hu, ru⟩ := rv.get h5
    have le : e < s.heap.objs.size := Heap.lt_size h1
    have li : it < s.heap.objs.size := by obtain ⟨_, q, _⟩ := h2; exact Heap.lt_size q
    have na : a ≠ it := fun z => by
      obtain ⟨o, q, q2, _⟩ := h2
      obtain ⟨o3, q3, q4, _⟩ := pl.isList
      rw [← z, q3] at q
      cases q
      rw [q4] at q2
      injection q2 with q2
      exact absurd q2 (by decide)
    have nea : e ≠ a := fun z => by
      obtain ⟨o3, q3, q4, _⟩ := pl.isList
      rw [← z, show s.heap.get? e = _ from h1] at q3
      cases q3
      injection q4 with q4
      exact absurd q4 (by decide)
    have ul : i < us.toArray.size := by
      have := (List.getElem?_eq_some_iff.mp hu).1
      simpa using this
    refine wpAny_pyNext_enum_itemC (Draws.list (A := X.A.in1) (I.ok.hd cm) it a na us.toArray) h1 ⟨h2, pl.isList⟩ ul h3 (fun q => ?_) fun x h' tk hx ho st hT hsz hk => ?_
    · rcases (show e = it ∨ e = a by simpa using q) with q | q
      · exact h3 q
      · exact nea q
    obtain rfl : x = u := by
      have q : us.toArray[i]? = some x := hx
      rw [List.getElem?_toArray, hu] at q
      cases q
      rfl
    refine ⟨_, rfl, wpAny_letOwnedTupleGo_enum (s := { s with heap := h', toks := tk + 1 }) ho fun h'' he' sb => ?_⟩
    have hT2 : h''.get? s.heap.objs.size = some { cls := .type "tuple", data := .seq #[.int (c + (i : Nat)) tk, x] } := (sb.2 _ (Nat.ne_of_gt le)).trans hT
    have nw : ObjOk X.prog X.w (upd H s.heap.objs.size (.tup [.int (c + (i : Nat)), y])) h'' s.heap.objs.size (.tup [.int (c + (i : Nat)), y]) :=
      ⟨by show 2 ≤ sizeLine; decide, [.int (c + (i : Nat)) tk, x], .cons ⟨_, rfl⟩ (.cons ru .nil), ⟨_, hT2, rfl, _, rfl⟩⟩
    have I1 : Inv X pins σ (upd H s.heap.objs.size (.tup [.int (c + (i : Nat)), y])) { s with heap := h'', toks := tk + 1 } :=
      I.turnedNew (ch := [e, it]) (fun b ob hb q => (sb.2 b (fun z => hb (by simp [z]))).trans (hk b ob (fun z => hb (by simp [z])) (fun z => hb (by simp [z])) q)) ff (Nat.le_refl _) nw
    refine ⟨.ref s.heap.objs.size, _, I1, rfl, ⟨_, y, rfl, I.hok.fresh (Nat.le_refl _), rfl, fun zs hz' => by rw [I.list_inj hz' h4]; exact h5⟩, ⟨⟨x, ?_⟩, st.1.at fun o q => (sb.2 it h3.symm).trans q, h3⟩, fun b hb => ?_⟩
    · rw [show (c + ((i + 1 : Nat) : Int)) = c + (i : Int) + 1 by omega]
      exact he'
    · have lb : b < s.heap.objs.size := by
        rcases (show b = e ∨ b = it by simpa using hb) with rfl | rfl
        · exact le
        · exact li
      rw [upd_ne (Nat.ne_of_lt lb)]
      exact (ff b hb).1
  done := by
    rintro X rfl rfl rfl cm i pins s σ H E I ff ⟨⟨old, h1⟩, h2, h3⟩ ⟨ys, h4, h5⟩
    obtain ⟨us, rv, pl, hz⟩ := I.list h4
    obtain ⟨f0, f1, f2, f3, f4, f5⟩ := ff it (by simp)
    have na : a ≠ it := fun z => by
      obtain ⟨o, q, q2, _⟩ := h2
      obtain ⟨o3, q3, q4, _⟩ := pl.isList
      rw [← z, q3] at q
      cases q
      rw [q4] at q2
      injection q2 with q2
      exact absurd q2 (by decide)
    have hl := rv.length
    have hn : us.toArray.size = i := by
      rw [List.size_toArray]
      omega
    have h2' : s.heap.IsListIter it a us.toArray.size := by
      rw [hn]
      exact h2
    exact wpAny_pyNext_enum_endD (Draws.list (A := X.A.in1) (I.ok.hd cm) it a na us.toArray) h1 ⟨h2', pl.isList⟩ fun h' eb => ⟨rfl, I.turned (t' := s.toks) (fun b o hb q => eb b o hb q) f0 f1 f3 f4 f5⟩
  self := by
    rintro A i s Q E ⟨⟨old, h1⟩, _⟩ h
    exact wpAny_pyIter_enum h1 h
theorem turn_enT {P : Program} {w : World} {K : PySem.W.Frag} {es : List Expr} {kx : Nat} {tp : Pos} (a e it : Addr) (c : Int) :
    Turn P w K (.Tuple es kx tp) (ItuC K a c) [e, it] e (fun i h => (∃ old, IsEnum h e it (c + (i : Nat)) old) ∧ h.IsTupleIter it a i ∧ e ≠ it) where
  mem := by simp
  obj := by
    rintro i h ⟨⟨old, h1⟩, ⟨o, h2, _, h3⟩, _⟩ b hb
    rcases (show b = e ∨ b = it by simpa using hb) with rfl | rfl
    · exact ⟨_, h1, fun v q => nomatch q⟩
    · exact ⟨o, h2, fun v q => by rw [h3] at q; cases q⟩
  keep := by
    rintro i h h' ⟨⟨old, h1⟩, h2, h3⟩ k
    exact ⟨⟨old, k e (by simp) _ h1⟩, h2.at fun o q => k it (by simp) o q, h3⟩
  item := by
    rintro X rfl rfl rfl cm i pins s σ H E I ff ⟨⟨old, h1⟩, h2, h3⟩ ⟨ys, y, h4, h5⟩
    obtain ⟨us, rv, pl, hz⟩ := I.tuple h4
    obtain ⟨u, hu, ru⟩ := rv.get h5
    have le : e < s.heap.objs.size := Heap.lt_size h1
    have li : it < s.heap.objs.size := by obtain ⟨_, q, _⟩ := h2; exact Heap.lt_size q
    have na : a ≠ it := fun z => by
      obtain ⟨o, q, q2, _⟩ := h2
      obtain ⟨o3, q3, q4, _⟩ := pl
      rw [← z, q3] at q
      cases q
      rw [q4] at q2
      injection q2 with q2
      exact absurd q2 (by decide)
    have nea : e ≠ a := fun z => by
      obtain ⟨o3, q3, q4, _⟩ := pl
      rw [← z, show s.heap.get? e = _ from h1] at q3
      cases q3
      injection q4 with q4
      exact absurd q4 (by decide)
    have ul : i < us.toArray.size := by
      have := (List.getElem?_eq_some_iff.mp hu).1
      simpa using this
    refine wpAny_pyNext_enum_itemC (Draws.tuple (A := X.A.in1) (I.ok.hd cm) it a na us.toArray) h1 ⟨h2, pl⟩ ul h3 (fun q => ?_) fun x h' tk hx ho st hT hsz hk => ?_
    · rcases (show e = it ∨ e = a by simpa using q) with q | q
      · exact h3 q
      · exact nea q
    obtain rfl : x = u := by
      have q : us.toArray[i]? = some x := hx
      rw [List.getElem?_toArray, hu] at q
      cases q
      rfl
    refine ⟨_, rfl, wpAny_letOwnedTupleGo_enum (s := { s with heap := h', toks := tk + 1 }) ho fun h'' he' sb => ?_⟩
    have hT2 : h''.get? s.heap.objs.size = some { cls := .type "tuple", data := .seq #[.int (c + (i : Nat)) tk, x] } := (sb.2 _ (Nat.ne_of_gt le)).trans hT
    have nw : ObjOk X.prog X.w (upd H s.heap.objs.size (.tup [.int (c + (i : Nat)), y])) h'' s.heap.objs.size (.tup [.int (c + (i : Nat)), y]) :=
      ⟨by show 2 ≤ sizeLine; decide, [.int (c + (i : Nat)) tk, x], .cons ⟨_, rfl⟩ (.cons ru .nil), ⟨_, hT2, rfl, _, rfl⟩⟩
    have I1 : Inv X pins σ (upd H s.heap.objs.size (.tup [.int (c + (i : Nat)), y])) { s with heap := h'', toks := tk + 1 } :=
      I.turnedNew (ch := [e, it]) (fun b ob hb q => (sb.2 b (fun z => hb (by simp [z]))).trans (hk b ob (fun z => hb (by simp [z])) (fun z => hb (by simp [z])) q)) ff (Nat.le_refl _) nw
    refine ⟨.ref s.heap.objs.size, _, I1, rfl, ⟨_, y, rfl, I.hok.fresh (Nat.le_refl _), rfl, fun zs hz' => by rw [I.tuple_inj hz' h4]; exact h5⟩, ⟨⟨x, ?_⟩, st.1.at fun o q => (sb.2 it h3.symm).trans q, h3⟩, fun b hb => ?_⟩
    · rw [show (c + ((i + 1 : Nat) : Int)) = c + (i : Int) + 1 by omega]
      exact he'
    · have lb : b < s.heap.objs.size := by
        rcases (show b = e ∨ b = it by simpa using hb) with rfl | rfl
        · exact le
        · exact li
      rw [upd_ne (Nat.ne_of_lt lb)]
      exact (ff b hb).1
  done := by
    rintro X rfl rfl rfl cm i pins s σ H E I ff ⟨⟨old, h1⟩, h2, h3⟩ ⟨ys, h4, h5⟩
    obtain ⟨us, rv, pl, hz⟩ := I.tuple h4
    obtain ⟨f0, f1, f2, f3, f4, f5⟩ := ff it (by simp)
    have na : a ≠ it := fun z => by
      obtain ⟨o, q, q2, _⟩ := h2
      obtain ⟨o3, q3, q4, _⟩ := pl
      rw [← z, q3] at q
      cases q
      rw [q4] at q2
      injection q2 with q2
      exact absurd q2 (by decide)
    have hl := rv.length
    have hn : us.toArray.size = i := by
      rw [List.size_toArray]
      omega
    have h2' : s.heap.IsTupleIter it a us.toArray.size := by
      rw [hn]
      exact h2
    exact wpAny_pyNext_enum_endD (Draws.tuple (A := X.A.in1) (I.ok.hd cm) it a na us.toArray) h1 ⟨h2', pl⟩ fun h' eb => ⟨rfl, I.turned (t' := s.toks) (fun b o hb q => eb b o hb q) f0 f1 f3 f4 f5⟩
  self := by
    rintro A i s Q E ⟨⟨old, h1⟩, _⟩ h
    exact wpAny_pyIter_enum h1 h

/-! ### enumerate(v), enumerate(v, start=k): how the walk begins -/
set_option maxHeartbeats 1000000 in
theorem meets_en1 {v : Value} {o : Obj} {Hh : Heap → Prop} (B : Begins v o Hh) :
    Meets (Builtin.«enumerate.__new__» ⟨[.type "enumerate", v], []⟩) (fun _ R z => Hh z.heap ∧
      R (.ok (.ret (.ref (z.heap.push o).objs.size))) { z with heap := (z.heap.push o).push { cls := .type "enumerate", data := .fields #[.none, .bool false, .ref z.heap.objs.size, rawInt 0, .none, .none] } }) := by
  refine .of_wp fun pg wo Ar R z hz => ?_
  obtain ⟨hp, g, d, tk, os⟩ := z
  obtain ⟨h1, h⟩ := hz
  have hsub := sub_enumerate
  have begin1 : ∀ {A' : Around} {E' : Value → Shared → Prop} {Q' : Value → Shared → Prop}, Q' (.ref hp.objs.size) ⟨hp.push o, g, d, tk, os⟩ → wpAny (model pg wo) A' (pyIter v) Q' E' ⟨hp, g, d, tk, os⟩ :=
    fun q => B.iter pg wo _ _ ⟨hp, g, d, tk, os⟩ _ h1 q
  wp_walk using begin1
  refine wpAny_stack_any fun stk => wpAny_pure ?_
  split
  · rename_i c _ _ _ _ _
    cases hc : (c == Value.type "enumerate") <;> (wp_walk using begin1; exact ⟨_, rfl, h⟩)
  · wp_walk using begin1
    exact ⟨_, rfl, h⟩
section
variable {pg : Program} {wo : World} {Ar : Around} {Ex : Value → Shared → Prop} {sh : Shared}
theorem en1_begins {v : Value} {o : Obj} {Hh : Heap → Prop} {Q : Value → Shared → Prop} (B : Begins v o Hh) (h1 : Hh sh.heap)
    (h : ∀ h', IsEnum h' (sh.heap.objs.size + 1) sh.heap.objs.size 0 .none → h'.get? sh.heap.objs.size = some o → (∀ b u, sh.heap.get? b = some u → h'.get? b = some u) → Q (.ref (sh.heap.objs.size + 1)) { sh with heap := h' }) :
    wpAny (model pg wo) Ar (call (.type "enumerate") [v]) Q Ex sh := by
  refine callType_new F.called_enumerate (by decide) (F.typeCall_enumerate_1 _) (F.newCall_enumerate_1 _) (fun obj => F.args_object_init_2 obj _) F.entry_enumerate_new (meets_en1 B) ⟨h1, ?_⟩
  have sz : (sh.heap.push o).objs.size = sh.heap.objs.size + 1 := Heap.size_push ..
  show _ ∧ _
  rw [sz]
  have ie : IsEnum ((sh.heap.push o).push { cls := .type "enumerate", data := .fields #[.none, .bool false, .ref sh.heap.objs.size, rawInt 0, .none, .none] }) (sh.heap.objs.size + 1) sh.heap.objs.size 0 .none := by
    have q := Heap.get?_push_size (sh.heap.push o) (o := { cls := .type "enumerate", data := .fields #[.none, .bool false, .ref sh.heap.objs.size, rawInt 0, .none, .none] }) rfl
    rw [sz] at q
    exact q
  exact ⟨⟨_, ie, rfl⟩, h _ ie (Heap.get?_push_of_some _ (Heap.get?_push_size _ B.free)) fun b u x => Heap.get?_push_of_some _ (Heap.get?_push_of_some _ x)⟩
end

/-- a row at a, list or tuple -/
def SqR (K : PySem.W.Frag) (H : Hp) (a : Addr) (xs : List V) : Prop := SqL K H a xs ∨ SqT K H a xs
theorem SqR.same {K : PySem.W.Frag} {H H' : Hp} {a : Addr} {xs : List V} (e : Same H H') (h : SqR K H a xs) : SqR K H' a xs := by
  rcases h with h | h
  · exact .inl (e.seq h)
  · exact .inr (Same.tupq e h)
/-- enumerate of a list or a tuple, counted from c: as one iterator -/
def ItrC (K : PySem.W.Frag) (a : Addr) (c : Int) (tup : Bool) : It := if tup = true then ItuC K a c else IteC K a c
def iEnC (K : PySem.W.Frag) (ta : TA) : TI := fun σ H R => ta σ H fun vs H1 => ∃ a xs, vs = [.ref a] ∧ SqR K H1 a xs ∧ ∀ b, (b = true → SqT K H1 a xs) → (b = false → SqL K H1 a xs) → R (ItrC K a 0 b) H1
def iEnK (K : PySem.W.Frag) (ta tk : TA) : TI := fun σ H R => ta σ H fun vs H1 => tk σ H1 fun zs H2 => ∃ a c xs, vs = [.ref a] ∧ zs = [.int c] ∧ (-(2 ^ 63) ≤ c ∧ c < 2 ^ 63) ∧ SqR K H2 a xs ∧ ∀ b, (b = true → SqT K H2 a xs) → (b = false → SqL K H2 a xs) → R (ItrC K a c b) H2
section
variable {X : Cx} {pins : List (Addr × Obj)} {σ : L2.St} {H : Hp} {s : Shared} {R : It → Hp → Prop} {es : List Expr} {kx : Nat} {tp : Pos}
theorem en_pie {a : Addr} {c : Int} {b : Bool} {h' : Heap} (I : Inv X pins σ H s) (hne : a < s.heap.objs.size)
    (he : IsEnum h' (s.heap.objs.size + 1) s.heap.objs.size c .none) (hi : if b = true then h'.IsTupleIter s.heap.objs.size a 0 else h'.IsListIter s.heap.objs.size a 0) (hk : ∀ z u, s.heap.get? z = some u → h'.get? z = some u)
    (q : R (ItrC X.K a c b) H) : wpAny (model X.prog X.w) X.A (pyIter (.ref (s.heap.objs.size + 1))) (PIE X pins σ (.Tuple es kx tp) R) X.xe { s with heap := h' } := by
  refine wpAny_pyIter_enum he ?_
  have I2 : Inv X pins σ H { s with heap := h' } := I.kept (t' := s.toks) hk
  have fp : ∀ z ∈ [s.heap.objs.size + 1, s.heap.objs.size], FpOk X pins H z := fun z hz => by
    have le : s.heap.objs.size ≤ z := by
      rcases (show z = s.heap.objs.size + 1 ∨ z = s.heap.objs.size by simpa using hz) with r | r <;> omega
    exact I.fpOk le (I.hok.fresh le)
  have he0 : IsEnum h' (s.heap.objs.size + 1) s.heap.objs.size (c + ((0 : Nat) : Int)) .none := by
    rw [show c + ((0 : Nat) : Int) = c by omega]
    exact he
  cases b with
  | true => exact ⟨s.heap.objs.size + 1, [s.heap.objs.size + 1, s.heap.objs.size], _, ItuC X.K a c, H, rfl, I2, turn_enT a _ _ c, ⟨⟨.none, he0⟩, hi, Nat.succ_ne_self _⟩, fp, q⟩
  | false => exact ⟨s.heap.objs.size + 1, [s.heap.objs.size + 1, s.heap.objs.size], _, IteC X.K a c, H, rfl, I2, turn_enC a _ _ c, ⟨⟨.none, he0⟩, hi, Nat.succ_ne_self _⟩, fp, q⟩
theorem pi_en {e : Expr} {ta : TA} {p pos : Pos} (hg : Gl X "enumerate") (hm : X.mg "enumerate" = none) (ha : PA X [e] ta) (hs : starEach [e] X.env = [(false, eval e X.env)] := by rfl) :
    PI X (.Tuple es kx tp) (.Call (.Name "enumerate" p) [e] [] pos) (iEnC X.K ta) := by
  refine ⟨fun pins s σ H R I h => Call_ (ld_blt I hg hm boot_enumerate (PyProof.Rows.callWith_type1 (thn (ha.run pos pins s σ H _ I h) fun us s1 hh => ?_) hs rfl))⟩
  obtain ⟨vs, H1, I1, rv, a, xs, rfl, hr, q⟩ := hh
  rw [Vals.ref1 rv]
  rcases hr with hr | hr
  · obtain ⟨its, _, pl, _⟩ := I1.list hr
    have lt : a < s1.heap.objs.size := by obtain ⟨_, z, _⟩ := pl.isList; exact Heap.lt_size z
    exact en1_begins (begins_list a its.toArray) pl.isList fun h' he hi hk => en_pie (b := false) I1 lt he ⟨_, hi, rfl, rfl⟩ hk (q false (fun z => nomatch z) fun _ => hr)
  · obtain ⟨its, _, pl, _⟩ := I1.tuple hr
    have lt : a < s1.heap.objs.size := by obtain ⟨_, z, _⟩ := pl; exact Heap.lt_size z
    exact en1_begins (begins_tuple a its.toArray) pl fun h' he hi hk => en_pie (b := true) I1 lt he ⟨_, hi, rfl, rfl⟩ hk (q true (fun _ => hr) fun z => nomatch z)
theorem pi_enK {e : Expr} {ta tk : TA} {p pos : Pos} {kws : List Keyword} (hg : Gl X "enumerate") (hm : X.mg "enumerate" = none) (ha : PA X [e] ta) (hk : PK X kws tk) (hks : (backToKw pos (keywordEach kws X.env)).filterMap (·.1) = [Str.ofString "start"] := by rfl)
    (e1 : backTo pos (starEach [e] X.env) = (false, eval e X.env) :: backTo pos (starEach [] X.env) := by rfl) (e2 : (backTo pos (starEach [e] X.env)).any (·.1) = false := by rfl)
    (e3 : (backToKw pos (keywordEach kws X.env)).all (·.1.isSome) = true := by rfl) (e4 : (backToKw pos (keywordEach kws X.env)).any (·.1.isNone) = false := by rfl) :
    PI X (.Tuple es kx tp) (.Call (.Name "enumerate" p) [e] kws pos) (iEnK X.K ta tk) := by
  refine ⟨fun pins s σ H R I h => wpAny_Call_Name_kw (ld_blt I hg hm boot_enumerate (tyCall_kw (thn (ha.run pos pins s σ H _ I h) fun us s1 ⟨vs, H1, I1, r1, q1⟩ => thn (hk.run pos pins s1 σ H1 _ I1 q1) fun ws s2 hh => ?_) e1 e2 e3 e4))⟩
  obtain ⟨zs, H2, I2, r2, a, c, xs, rfl, rfl, hc, hr, q⟩ := hh
  rw [hks, Vals.ref1 r1]
  cases r2 with
  | cons r rr =>
    cases rr
    obtain ⟨t, rfl⟩ := r
    show wpAny _ _ (call (.type "enumerate") [.ref a] [(Str.ofString "start", .int c t)]) _ _ _
    rcases hr with hr | hr
    · obtain ⟨its, _, pl, _⟩ := I2.list hr
      have lt : a < s2.heap.objs.size := by obtain ⟨_, z, _⟩ := pl.isList; exact Heap.lt_size z
      exact enum_begins_start (begins_list a its.toArray) pl.isList hc.1 hc.2 fun h' he hi _ hk => en_pie (b := false) I2 lt he ⟨_, hi, rfl, rfl⟩ hk (q false (fun z => nomatch z) fun _ => hr)
    · obtain ⟨its, _, pl, _⟩ := I2.tuple hr
      have lt : a < s2.heap.objs.size := by obtain ⟨_, z, _⟩ := pl; exact Heap.lt_size z
      exact enum_begins_start (begins_tuple a its.toArray) pl hc.1 hc.2 fun h' he hi _ hk => en_pie (b := true) I2 lt he ⟨_, hi, rfl, rfl⟩ hk (q true (fun _ => hr) fun z => nomatch z)
end
theorem walk_enC {K : PySem.W.Frag} {a : Addr} {xs : List V} {c : Int} {b : Bool} : Walk (ItrC K a c b) xs.length (fun H => if b = true then SqT K H a xs else SqL K H a xs) (YPair (fun i => some (.int (c + (i : Nat)))) (fun i => xs[i]?)) := by
  cases b with
  | true =>
    refine ⟨fun i _ hi q => ⟨xs, xs[i], q, by simp [hi]⟩, fun _ q => ⟨xs, q, rfl⟩, fun i H v H' _ q y => ?_⟩
    obtain ⟨T, x, y1, y2, y3, y4⟩ := y
    exact ⟨T, .int (c + (i : Nat)), x, y1, y2, y3, rfl, y4 xs q⟩
  | false =>
    refine ⟨fun i _ hi q => ⟨xs, xs[i], q, by simp [hi]⟩, fun _ q => ⟨xs, q, rfl⟩, fun i H v H' _ q y => ?_⟩
    obtain ⟨T, x, y1, y2, y3, y4⟩ := y
    exact ⟨T, .int (c + (i : Nat)), x, y1, y2, y3, rfl, y4 xs q⟩

/-! ### sum of a row -/
def rSumR (K : PySem.W.Frag) : List V → Hp → VK → Prop := fun vs H Q => ∃ (a : Addr) (ns : List Int), vs = [V.ref a] ∧ SqR K H a (ns.map V.int) ∧ Q (.int ns.sum) H
section
variable {X : Cx}
theorem tup_sum {pg : Program} {wo : World} {Ar : Around} {Ex : Value → Shared → Prop} {sh : Shared} {l : Addr} {its : List Value} {ns : List Int} {Q : Value → Shared → Prop} (hh : Ar.handled = none) (hl : sh.heap.IsTuple l its.toArray) (hi : IntsAre its ns)
    (h : ∀ h' tk t', (∀ b o, sh.heap.get? b = some o → h'.get? b = some o) → Q (.int ns.sum t') { sh with heap := h', toks := tk }) : wpAny (model pg wo) Ar (call (.builtin "sum") [.ref l]) Q Ex sh := by
  obtain ⟨xs, e⟩ := hi.allInts.items
  have hn : numsOf (intItems xs).toList = ns := by
    rw [← e]
    exact hi.numsOf
  rw [nums_intItems] at hn
  rw [e] at hl
  have lt : l < sh.heap.objs.size := by obtain ⟨_, z, _⟩ := hl; exact Heap.lt_size z
  refine call_sum_walkG (wpAny_pyIter_tuple hl ?_)
  have t1 : (sh.heap.push { cls := .type "tuple_iterator", data := .fields #[.ref l, .int 0 0] }).IsTupleIter sh.heap.objs.size l 0 := ⟨_, Heap.get?_push_size _ rfl, rfl, rfl⟩
  refine ⟨_, [_, l], [_], _, _, _, numAt xs, rfl, Walks.tuple (A := Ar.in1) hh _ l (Nat.ne_of_lt lt) (intItems xs), ⟨t1, hl.push _⟩, fun b hb => ?_, fun _ _ => intItems_at, fun h' tk t' hk => ?_⟩
  · show b < (sh.heap.push _).objs.size
    rw [Heap.size_push]
    rcases (show b = sh.heap.objs.size ∨ b = l by simpa using hb) with r | r
    · rw [r]; exact Nat.lt_succ_self _
    · rw [r]; exact Nat.lt_succ_of_lt lt
  · have kept : ∀ b o, sh.heap.get? b = some o → h'.get? b = some o := fun b o q => by
      refine hk b o (fun m => ?_) (Heap.get?_push_of_some _ q)
      have z : b = sh.heap.objs.size := by simpa using m
      exact absurd (z ▸ Heap.lt_size q) (Nat.lt_irrefl _)
    have fin := h h' tk t' kept
    rw [preSum_eq]
    have e3 : (intItems xs).size = xs.size := by simp [intItems]
    rw [e3, List.take_of_length_le (by simp), hn]
    exact fin
theorem cr_sumR (cm : X.calm = true) : CallR X (.builtin "sum") (rSumR X.K) := by
  rintro pins s σ H vs us Q I r ⟨a, ns, rfl, hs, q⟩
  rw [Vals.ref1 r]
  rcases hs with hs | hs
  · obtain ⟨its, rv, hl, _⟩ := I.list hs
    exact sum_raw (I.ok.hd cm) hl.isList rv.ints fun h' tk t' hk => ⟨.int _, H, I.kept hk, ⟨_, rfl⟩, q⟩
  · obtain ⟨its, rv, hl, _⟩ := I.tuple hs
    exact tup_sum (I.ok.hd cm) hl rv.ints fun h' tk t' hk => ⟨.int _, H, I.kept hk, ⟨_, rfl⟩, q⟩
end
end Tw
/-! TwO: methods and makings by name; rows; the law's state of draws; what is told of a stream, in the heap. -/
namespace Tw
open PySem PySem.Spec PyProof.Rows L2 Sb

/-- no built-in's name is the module's own -/
structure Bt (mg : Str → Option Value) : Prop where
  n_isinstance : mg "isinstance" = none
  n_int : mg "int" = none
  n_bool : mg "bool" = none
  n_str : mg "str" = none
  n_list : mg "list" = none
  n_tuple : mg "tuple" = none
  n_len : mg "len" = none
  n_all : mg "all" = none
  n_sum : mg "sum" = none
  n_range : mg "range" = none
  n_zip : mg "zip" = none
  n_enumerate : mg "enumerate" = none
def NoB (K : PySem.W.Frag) : Prop := ∀ x ∈ (["isinstance", "int", "bool", "str", "list", "tuple", "len", "all", "sum", "range", "zip", "enumerate"] : List Str), PySem.W.nsIn K mainGlobals x = some none
theorem bt_mk {K : PySem.W.Frag} {h : Heap} {mg : Str → Option Value} (X : K.In h) (G : h.Ns mainGlobals mg) (n : NoB K) : Bt mg := by
  constructor <;> exact PySem.W.mg_none_of X G (n _ (by simp))

/-! ### methods -/
def MethIn (K : PySem.W.Frag) (C : Addr) (m q : Str) (st : Stmt) : Prop := ∃ (f : Addr) (oc : Value) (od an : Option Addr) (osl : Array (Option Value)) (kV dc pm cd ct : Value),
  PySem.W.findIn K (.ref C) m = some (some (.ref f)) ∧ PySem.W.isFn K (.ref f) = true ∧ K.lookup f = some ⟨oc, od, .func (PySem.W.fnOf m q (defArgs st) (defBody st) (defScope st) .none kV dc pm an cd ct), osl⟩ ∧ PySem.W.codeIn K cd q = true ∧ PySem.W.keepIn K (.ref f) = true
section
variable {P : Program} {w : World} {K : PySem.W.Frag} {mg : Str → Option Value} {base : Heap} {C : Addr} {m q : Str} {st : Stmt} {ps : List Str} {k : Nat} {sp : Sp}
theorem methIn_mk {f : Addr} {oc : Value} {od an : Option Addr} {osl : Array (Option Value)} {kV dc pm cd ct : Value} (a : PySem.W.findIn K (.ref C) m = some (some (.ref f))) (i : PySem.W.isFn K (.ref f) = true)
    (l : K.lookup f = some ⟨oc, od, .func (PySem.W.fnOf m q (defArgs st) (defBody st) (defScope st) .none kV dc pm an cd ct), osl⟩) (c : PySem.W.codeIn K cd q = true) (kp : PySem.W.keepIn K (.ref f) = true) : MethIn K C m q st := ⟨f, oc, od, an, osl, kV, dc, pm, cd, ct, a, i, l, c, kp⟩
structure MCal (P : Program) (w : World) (K : PySem.W.Frag) (mg : Str → Option Value) (base : Heap) (C : Addr) (k : Nat) (m : Str) (ps : List Str) (sp : Sp) : Prop where
  ex : ∃ (f : Addr) (fd : FuncData), Meth K C m f ∧ FnOk P w K mg base CX0 k f fd ps sp ∧ Binds K fd ps []
theorem mcal_mk (D : MethIn K C m q st) (b : ∀ (kV doc pm : Value) (an : Option Addr) (cdv ct : Value) (us : List Value), us.length = ps.length → bindArgs (PySem.W.fnOf m q (defArgs st) (defBody st) (defScope st) .none kV doc pm an cdv ct) ⟨us, []⟩ = pure (ps.zip us))
    (ok : ∀ (f : Addr) (fd : FuncData), Fun K m q st f fd → FnOk P w K mg base CX0 k f fd ps sp) : MCal P w K mg base C k m ps sp := by
  obtain ⟨f, oc, od, an, osl, kV, dc, pm, cd, ct, a, i, l, c, kp⟩ := D
  have F := fun_mk (st := st) l c kp
  exact ⟨f, _, ⟨a, i, kp⟩, ok f _ F, F.binds b⟩
/-- C(), C's __init__ with self alone -/
structure MkC (P : Program) (w : World) (K : PySem.W.Frag) (mg : Str → Option Value) (base : Heap) (C : Addr) (k : Nat) (x : Str) (sp : Sp) : Prop where
  ex : ∃ (f : Addr) (fd : FuncData), Mk K C f ∧ FnOk P w K mg base CX0 k f fd ["self"] sp ∧ Binds K fd ["self"] []
  gC : mg x = some (.ref C)
theorem mkC_mk {h : Heap} {x : Str} (X : K.In h) (G : h.Ns mainGlobals mg) (g : PySem.W.nsIn K mainGlobals x = some (some (.ref C))) (D : MethIn K C "__init__" q st) (mk : PySem.W.makesIn K C = true) (kc : PySem.W.keepIn K (.ref C) = true)
    (b : ∀ (kV doc pm : Value) (an : Option Addr) (cdv ct : Value) (us : List Value), us.length = (["self"] : List Str).length → bindArgs (PySem.W.fnOf "__init__" q (defArgs st) (defBody st) (defScope st) .none kV doc pm an cdv ct) ⟨us, []⟩ = pure ((["self"] : List Str).zip us))
    (ok : ∀ (f : Addr) (fd : FuncData), Fun K "__init__" q st f fd → FnOk P w K mg base CX0 k f fd ["self"] sp) : MkC P w K mg base C k x sp := by
  obtain ⟨f, oc, od, an, osl, kV, dc, pm, cd, ct, a, i, l, c, kp⟩ := D
  have F := fun_mk (st := st) l c kp
  exact ⟨⟨f, _, ⟨mk, a, i, kc⟩, ok f _ F, F.binds b⟩, PySem.W.mg_of X G g⟩
end
section
variable {X : Cx} {j k : Nat} {C : Addr} {m x : Str} {ps : List Str} {sp : Sp} {o e : Expr} {es : List Expr} {to : TE} {t : TA} {pos apos p : Pos}
theorem pe_mcal {pl : Sem Bool} (M : MCal X.prog X.w X.K X.mg X.base C k m ps sp) (c : Cls X.K C) (hr : Room j X.A) (hk : k ≤ j) (ho : PE X o to) (ha : PA X (e :: es) t)
    (hst : starEach (e :: es) X.env = (false, eval e X.env) :: starEach es X.env := by rfl) (hpl : (backTo pos (starEach es X.env)).any (·.1) = false := by rfl)
    (ht : eval (.Call (.Attribute o m apos) (e :: es) [] pos) X.env = (do
      let ov ← eval o X.env
      standAt apos.atName
      let (f, first) ← holding [ov] (getMethod ov m pl)
      callWith pos f first (backTo pos (starEach (e :: es) X.env)) (backToKw pos (keywordEach [] X.env))) := by rfl) : PE X (.Call (.Attribute o m apos) (e :: es) [] pos) (tMeth C m sp [] E0 to t) := by
  obtain ⟨f, fd, hm, F, b⟩ := M.ex
  exact pe_meth ho c hm F (hr.mono hk) b .nil pass0 ha hst hpl ht
theorem pe_mcal0 {pl : Sem Bool} (M : MCal X.prog X.w X.K X.mg X.base C k m ps sp) (c : Cls X.K C) (hr : Room j X.A) (hk : k ≤ j) (ho : PE X o to)
    (ht : eval (.Call (.Attribute o m apos) [] [] pos) X.env = (do
      let ov ← eval o X.env
      standAt apos.atName
      let (f, first) ← holding [ov] (getMethod ov m pl)
      callWith pos f first (backTo pos (starEach [] X.env)) (backToKw pos (keywordEach [] X.env))) := by rfl) : PE X (.Call (.Attribute o m apos) [] [] pos) (tMeth C m sp [] E0 to tNil) := by
  obtain ⟨f, fd, hm, F, b⟩ := M.ex
  exact pe_meth0 ho c hm F (hr.mono hk) b .nil pass0 ht
theorem pe_mk0 (M : MkC X.prog X.w X.K X.mg X.base C k x sp) (hr : Room j X.A) (hk : k + 1 ≤ j) (hg : Gl X x) (hdb : (x == ("__debug__" : Str)) = false := by decide) : PE X (.Call (.Name x p) [] [] pos) (tMake C sp [] E0 tNil) := by
  obtain ⟨f, fd, hm, F, b⟩ := M.ex
  exact pe_make0 hm F (hr.mono hk) hg M.gC b .nil pass0 hdb
/-- either of two readings of what is walked -/
theorem pi_or {tg l : Expr} {a b : TI} (ha : PI X tg l a) (hb : PI X tg l b) : PI X tg l (fun σ H R => a σ H R ∨ b σ H R) := ⟨fun pins s σ H R I h => h.elim (ha.run pins s σ H R I) (hb.run pins s σ H R I)⟩
theorem pe_or2 {l : Expr} {a b : TE} (ha : PE X l a) (hb : PE X l b) : PE X l (fun σ H Q => a σ H Q ∨ b σ H Q) := ⟨fun pins s σ H Q I h => h.elim (ha.run pins s σ H Q I) (hb.run pins s σ H Q I)⟩
end

/-! ### rows -/
abbrev iV (xs : List Int) : List V := xs.map V.int
/-- the row at a -/
def Rw (H : Hp) (a : Addr) (xs : List V) : Prop := H a = some (.lst xs) ∨ H a = some (.tup xs)
theorem Rw.sq {K : PySem.W.Frag} {H : Hp} {a : Addr} {xs : List V} (h : Rw H a xs) : SqR K H a xs := h.elim (fun h => .inl (SqL.of h)) (fun h => .inr (SqT.of h))
theorem Rw.same {H H' : Hp} {a : Addr} {xs : List V} (h : Rw H a xs) (s : Same H H') : Rw H' a xs := h.elim (fun h => .inl (s _ _ h)) (fun h => .inr (s _ _ h))
theorem iV_len (xs : List Int) : (iV xs).length = xs.length := by simp
theorem iV_at {xs : List Int} {i : Nat} {v : V} (h : (iV xs)[i]? = some v) : ∃ b, xs[i]? = some b ∧ v = .int b := by
  rw [List.getElem?_map] at h
  cases e : xs[i]? with
  | none => rw [e] at h; cases h
  | some b => rw [e] at h; cases h; exact ⟨b, rfl, rfl⟩
theorem iV_atI {xs : List Int} {i : Nat} {b : Int} (h : xs[i]? = some b) : atI (iV xs) (i : Int) = some (.int b) := atI_nat (by rw [List.getElem?_map, h]; rfl)
theorem iV_append (xs ys : List Int) : iV (xs ++ ys) = iV xs ++ iV ys := List.map_append
theorem dp_ints {K : PySem.W.Frag} {H : Hp} : ∀ xs : List Int, DpAll K H (iV xs) (xs.map PyData.int)
  | [] => .nil
  | x :: r => .cons (.int x) (dp_ints r)
theorem lay_ints : ∀ xs : List Int, PyData.canLayAll0 (xs.map PyData.int) = true
  | [] => rfl
  | x :: r => by
    show (true && PyData.canLayAll0 (r.map PyData.int)) = true
    rw [lay_ints r]
    rfl
theorem dep_ints : ∀ xs : List Int, PyData.depthAll (xs.map PyData.int) = 0
  | [] => rfl
  | x :: r => by
    show max 0 (PyData.depthAll (r.map PyData.int)) = 0
    rw [dep_ints r]
    rfl
theorem sh_ints (xs : List Int) : SeqAt.shaped (.list (xs.map PyData.int)) = true := by
  unfold SeqAt.shaped
  rw [Bool.and_eq_true]
  refine ⟨lay_ints xs, decide_eq_true ?_⟩
  show PyData.depthAll _ + 1 ≤ 64
  rw [dep_ints]
  decide
theorem eqv_ints : ∀ xs ys : List Int, PyData.eqv (.list (xs.map PyData.int)) (.list (ys.map PyData.int)) = decide (xs = ys) := by
  have go : ∀ xs ys : List Int, PyData.eqvAll (xs.map PyData.int) (ys.map PyData.int) = decide (xs = ys) := by
    intro xs
    induction xs with
    | nil =>
      intro ys
      cases ys with
      | nil => rfl
      | cons y r => simp [PyData.eqvAll]
    | cons x r ih =>
      intro ys
      cases ys with
      | nil => simp [PyData.eqvAll]
      | cons y t =>
        simp only [List.map_cons, PyData.eqvAll, ih]
        by_cases e : x = y
        · subst e
          simp [PyData.eqv]
        · simp [PyData.eqv, e]
  intro xs ys
  have e := go xs ys
  simpa only [PyData.eqv] using e
theorem dpL {K : PySem.W.Frag} {H : Hp} {a : Addr} {xs : List Int} (h : H a = some (.lst (iV xs))) : Dp K H (.ref a) (.list (xs.map PyData.int)) := .lst (SqL.of h) (dp_ints xs)

/-! ### the law's state: a list of the numbers that are left, and three numbers -/
structure IsSt (H : Hp) (a b : Addr) : Prop where
  ne : a ≠ b
  ex : ∃ (ns : List Int) (x y z : Int), H a = some (.lst [.ref b, .int x, .int y, .int z]) ∧ H b = some (.lst (iV ns))
/-- all but the state stays -/
structure Fs (a b : Addr) (H H' : Hp) : Prop where
  keep : ∀ c o, c ≠ a → c ≠ b → H c = some o → H' c = some o
  st : IsSt H' a b
theorem IsSt.same {H H' : Hp} {a b : Addr} (h : IsSt H a b) (s : Same H H') : IsSt H' a b := by
  obtain ⟨ne, ns, x, y, z, e, f⟩ := h
  exact ⟨ne, ns, x, y, z, s _ _ e, s _ _ f⟩
theorem Fs.refl {H : Hp} {a b : Addr} (h : IsSt H a b) : Fs a b H H := ⟨fun _ _ _ _ e => e, h⟩
theorem Fs.trans {a b : Addr} {H H1 H2 : Hp} (f : Fs a b H H1) (g : Fs a b H1 H2) : Fs a b H H2 := ⟨fun c o n m e => g.keep c o n m (f.keep c o n m e), g.st⟩
theorem Fs.same {a b : Addr} {H H1 H2 : Hp} (f : Fs a b H H1) (g : Same H1 H2) : Fs a b H H2 := ⟨fun c o n m e => g c o (f.keep c o n m e), f.st.same g⟩
theorem Fs.of_same {a b : Addr} {H H1 : Hp} (h : IsSt H a b) (g : Same H H1) : Fs a b H H1 := (Fs.refl h).same g
theorem IsSt.na {H : Hp} {a b p : Addr} (h : IsSt H a b) (e : H p = none) : p ≠ a ∧ p ≠ b := by
  obtain ⟨_, _, _, _, _, e1, e2⟩ := h
  constructor
  · intro q
    rw [q, e1] at e
    cases e
  · intro q
    rw [q, e2] at e
    cases e
theorem Fs.free {a b p : Addr} {H H' : Hp} (f : Fs a b H H') (h : IsSt H a b) (e : H' p = none) : H p = none := by
  obtain ⟨n1, n2⟩ := f.st.na e
  cases q : H p with
  | none => rfl
  | some o =>
    rw [f.keep p o n1 n2 q] at e
    cases e
/-- a new thing at p, written later -/
theorem Fs.upd {a b p : Addr} {H H' : Hp} {o : HO} (f : Fs a b H H') (n1 : p ≠ a) (n2 : p ≠ b) (hp : H p = none) : Fs a b H (upd H' p o) := by
  obtain ⟨k, ne, ns, x, y, z, e1, e2⟩ := f
  refine ⟨fun c u m1 m2 e => ?_, ne, ns, x, y, z, ?_, ?_⟩
  · rw [upd_ne (ne_of_none e hp)]
    exact k c u m1 m2 e
  · rw [upd_ne n1.symm]
    exact e1
  · rw [upd_ne n2.symm]
    exact e2
/-- the draw's promise: any number below many -/
def spTake : Sp := fun vs H Q _ => ∃ (a b : Addr) (m : Int), vs = [.ref a, .int m] ∧ IsSt H a b ∧ 0 < m ∧ m < 1180591620717411303424 ∧ ∀ (r : Int) (H' : Hp), 0 ≤ r → r < m → Fs a b H H' → Q (.int r) H'

theorem Fs.kp {a b p : Addr} {H H1 H2 : Hp} {o : HO} (f : Fs a b H1 H2) (h : IsSt H a b) (hp : H p = none) (e : H1 p = some o) : H2 p = some o := f.keep p o (h.na hp).1 (h.na hp).2 e
/-- a list of bytes, new behind H -/
structure Nw (H H' : Hp) (r : Addr) (xs : List Int) : Prop where
  new : H r = none
  at_ : H' r = some (.lst (iV xs))
theorem Nw.st {a b r : Addr} {H H1 H2 : Hp} {xs : List Int} (n : Nw H H1 r xs) (h : IsSt H a b) (f : Fs a b H1 H2) : Nw H H2 r xs := ⟨n.new, f.kp h n.new n.at_⟩
theorem Nw.same {r : Addr} {H H1 H2 : Hp} {xs : List Int} (n : Nw H H1 r xs) (s : Same H1 H2) : Nw H H2 r xs := ⟨n.new, s _ _ n.at_⟩
/-- a function of the state alone that tells a new list of bytes, of at most N -/
def spGen (N : Nat) : Sp := fun vs H Q _ => ∃ (a b : Addr), vs = [.ref a] ∧ IsSt H a b ∧ ∀ (H' : Hp) (r : Addr) (xs : List Int), Fs a b H H' → Nw H H' r xs → By xs → xs.length ≤ N → Q (.ref r) H'
theorem rep_one {α : Type} (n : Nat) (x : α) : (List.replicate n [x]).flatten = List.replicate n x := by
  induction n with
  | zero => rfl
  | succ n ih => rw [List.replicate_succ, List.flatten_cons, ih, List.replicate_succ]; rfl
theorem iV_rep (n : Nat) (x : Int) : iV (List.replicate n x) = List.replicate n (V.int x) := List.map_replicate

/-! ### what is told -/
/-- t stands at v, all of it new behind H0 -/
def TlAt (H0 H : Hp) : Tell → V → Prop
  | .part pl bs, v => ∃ a l, v = .ref a ∧ H a = some (.tup [.str "part", .int (pl : Nat), .ref l]) ∧ H l = some (.lst (iV bs)) ∧ H0 a = none ∧ H0 l = none
  | .torn pl n, v => ∃ a, v = .ref a ∧ H a = some (.tup [.str "torn", .int (pl : Nat), .int (n : Nat)]) ∧ H0 a = none
abbrev Tls (H0 H : Hp) (ts : List Tell) (vs : List V) : Prop := Paired (TlAt H0 H) ts vs
theorem TlAt.keep {H0 H H' : Hp} {t : Tell} {v : V} (h : TlAt H0 H t v) (k : ∀ b o, H0 b = none → H b = some o → H' b = some o) : TlAt H0 H' t v := by
  cases t with
  | part pl bs =>
    obtain ⟨a, l, e, h1, h2, h3, h4⟩ := h
    exact ⟨a, l, e, k _ _ h3 h1, k _ _ h4 h2, h3, h4⟩
  | torn pl n =>
    obtain ⟨a, e, h1, h2⟩ := h
    exact ⟨a, e, k _ _ h2 h1, h2⟩
theorem TlAt.old {H0 H1 H : Hp} {t : Tell} {v : V} (h : TlAt H1 H t v) (k : ∀ b, H1 b = none → H0 b = none) : TlAt H0 H t v := by
  cases t with
  | part pl bs =>
    obtain ⟨a, l, e, h1, h2, h3, h4⟩ := h
    exact ⟨a, l, e, h1, h2, k _ h3, k _ h4⟩
  | torn pl n =>
    obtain ⟨a, e, h1, h2⟩ := h
    exact ⟨a, e, h1, k _ h2⟩
theorem pd_mono {α β : Type} {F G : α → β → Prop} (i : ∀ a b, F a b → G a b) : ∀ {xs : List α} {ys : List β}, Paired F xs ys → Paired G xs ys
  | _, _, .nil => .nil
  | _, _, .cons h t => .cons (i _ _ h) (pd_mono i t)
theorem pd_append {α β : Type} {F : α → β → Prop} : ∀ {xs zs : List α} {ys ws : List β}, Paired F xs ys → Paired F zs ws → Paired F (xs ++ zs) (ys ++ ws)
  | _, _, _, _, .nil, t => t
  | _, _, _, _, .cons h r, t => .cons h (pd_append r t)
theorem Tls.keep {H0 H H' : Hp} {ts : List Tell} {vs : List V} (h : Tls H0 H ts vs) (k : ∀ b o, H0 b = none → H b = some o → H' b = some o) : Tls H0 H' ts vs := pd_mono (fun _ _ q => q.keep k) h
theorem Tls.same {H0 H H' : Hp} {ts : List Tell} {vs : List V} (h : Tls H0 H ts vs) (s : Same H H') : Tls H0 H' ts vs := h.keep fun b o _ e => s b o e
theorem Tls.old {H0 H1 H : Hp} {ts : List Tell} {vs : List V} (h : Tls H1 H ts vs) (k : ∀ b, H1 b = none → H0 b = none) : Tls H0 H ts vs := pd_mono (fun _ _ q => q.old k) h
/-- .. as data -/
def Tell.pd : Tell → PyData
  | .part pl bs => .tuple [.str "part", .int (pl : Nat), .list (bs.map PyData.int)]
  | .torn pl n => .tuple [.str "torn", .int (pl : Nat), .int (n : Nat)]
theorem TlAt.dp {K : PySem.W.Frag} {H0 H : Hp} {t : Tell} {v : V} (h : TlAt H0 H t v) : Dp K H v (Tell.pd t) := by
  cases t with
  | part pl bs =>
    obtain ⟨a, l, e, h1, h2, _⟩ := h
    rw [e]
    exact .tup (SqT.of h1) (.cons (.str _) (.cons (.int _) (.cons (dpL h2) .nil)))
  | torn pl n =>
    obtain ⟨a, e, h1, _⟩ := h
    rw [e]
    exact .tup (SqT.of h1) (.cons (.str _) (.cons (.int _) (.cons (.int _) .nil)))
theorem Tls.dp {K : PySem.W.Frag} {H0 H : Hp} : ∀ {ts : List Tell} {vs : List V}, Tls H0 H ts vs → DpAll K H vs (ts.map Tell.pd)
  | _, _, .nil => .nil
  | _, _, .cons h t => .cons h.dp (Tls.dp t)
theorem tell_lay (t : Tell) : PyData.canLay0 (Tell.pd t) = true ∧ PyData.depth (Tell.pd t) ≤ 2 := by
  cases t with
  | part pl bs =>
    constructor
    · show (PyData.strOk "part" && (true && (PyData.canLayAll0 (bs.map PyData.int) && true))) = true
      rw [lay_ints, show PyData.strOk ("part" : Str) = true from by decide +kernel]
      rfl
    · show max 0 (max 0 (max (PyData.depthAll (bs.map PyData.int) + 1) 0)) + 1 ≤ 2
      rw [dep_ints]
      decide
  | torn pl n =>
    constructor
    · show (PyData.strOk "torn" && (true && (true && true))) = true
      rw [show PyData.strOk ("torn" : Str) = true from by decide +kernel]
      rfl
    · show max 0 (max 0 (max 0 0)) + 1 ≤ 2
      decide
theorem sh_tells (ts : List Tell) : SeqAt.shaped (.list (ts.map Tell.pd)) = true := by
  have h : PyData.canLayAll0 (ts.map Tell.pd) = true ∧ PyData.depthAll (ts.map Tell.pd) ≤ 2 := by
    induction ts with
    | nil => exact ⟨rfl, by decide⟩
    | cons t r ih =>
      obtain ⟨h1, h2⟩ := tell_lay t
      constructor
      · show (PyData.canLay0 (Tell.pd t) && PyData.canLayAll0 (r.map Tell.pd)) = true
        rw [h1, ih.1]
        rfl
      · show max (PyData.depth (Tell.pd t)) (PyData.depthAll (r.map Tell.pd)) ≤ 2
        have := ih.2
        omega
  unfold SeqAt.shaped
  rw [Bool.and_eq_true]
  refine ⟨h.1, decide_eq_true ?_⟩
  have := h.2
  show PyData.depthAll _ + 1 ≤ 64
  omega
end Tw
namespace K55
open PySem PySem.Spec PyProof.Rows L2 Tw
def topS (i : Nat) : Stmt := PySem.Challenge.pw_thingwires_k55_what_is_no_bytes.main.body.getD i (.Pass ⟨0, 0, 0, 0⟩)
abbrev s_is_whole : Stmt := topS 2
abbrev N_is_whole : List Str := ["thing"]
theorem sc_is_whole : FnScope N_is_whole ["thing"] (defScope s_is_whole) := ⟨rfl, rfl, rfl, by decide +kernel, rfl, by decide +kernel, by decide +kernel⟩
abbrev s_is_row : Stmt := topS 3
abbrev N_is_row : List Str := ["thing"]
theorem sc_is_row : FnScope N_is_row ["thing"] (defScope s_is_row) := ⟨rfl, rfl, rfl, by decide +kernel, rfl, by decide +kernel, by decide +kernel⟩
abbrev s_is_bytes : Stmt := topS 4
abbrev N_is_bytes : List Str := ["thing", "part"]
theorem sc_is_bytes : FnScope N_is_bytes ["thing"] (defScope s_is_bytes) := ⟨rfl, rfl, rfl, by decide +kernel, rfl, by decide +kernel, by decide +kernel⟩
abbrev s_streamed : Stmt := topS 15
abbrev N_streamed : List Str := ["parts", "stream", "part"]
theorem sc_streamed : FnScope N_streamed ["parts"] (defScope s_streamed) := ⟨rfl, rfl, rfl, by decide +kernel, rfl, by decide +kernel, by decide +kernel⟩
abbrev s_unstreamed : Stmt := topS 16
abbrev N_unstreamed : List Str := ["data", "feeder", "pieces"]
theorem sc_unstreamed : FnScope N_unstreamed ["data"] (defScope s_unstreamed) := ⟨rfl, rfl, rfl, by decide +kernel, rfl, by decide +kernel, by decide +kernel⟩
abbrev s__refuse_others : Stmt := topS 18
abbrev N__refuse_others : List Str := ["data"]
theorem sc__refuse_others : FnScope N__refuse_others ["data"] (defScope s__refuse_others) := ⟨rfl, rfl, rfl, by decide +kernel, rfl, by decide +kernel, by decide +kernel⟩
abbrev s__zeros : Stmt := topS 19
abbrev N__zeros : List Str := ["data", "at", "byte"]
theorem sc__zeros : FnScope N__zeros ["data"] (defScope s__zeros) := ⟨rfl, rfl, rfl, by decide +kernel, rfl, by decide +kernel, by decide +kernel⟩
abbrev s__check : Stmt := topS 20
abbrev N__check : List Str := ["part", "one", "other", "number", "byte"]
theorem sc__check : FnScope N__check ["part"] (defScope s__check) := ⟨rfl, rfl, rfl, by decide +kernel, rfl, by decide +kernel, by decide +kernel⟩
abbrev s__without_zeros : Stmt := topS 21
abbrev N__without_zeros : List Str := ["whole", "written", "start", "end"]
theorem sc__without_zeros : FnScope N__without_zeros ["whole"] (defScope s__without_zeros) := ⟨rfl, rfl, rfl, by decide +kernel, rfl, by decide +kernel, by decide +kernel⟩
abbrev s__with_zeros : Stmt := topS 22
abbrev N__with_zeros : List Str := ["piece", "whole", "at", "end"]
theorem sc__with_zeros : FnScope N__with_zeros ["piece"] (defScope s__with_zeros) := ⟨rfl, rfl, rfl, by decide +kernel, rfl, by decide +kernel, by decide +kernel⟩
abbrev s__read_piece : Stmt := topS 23
abbrev N__read_piece : List Str := ["place", "piece", "whole", "part"]
theorem sc__read_piece : FnScope N__read_piece ["place", "piece"] (defScope s__read_piece) := ⟨rfl, rfl, rfl, by decide +kernel, rfl, by decide +kernel, by decide +kernel⟩
abbrev s__law_take : Stmt := topS 25
abbrev N__law_take : List Str := ["_law_state", "_law_many", "_law_cell", "_law_digit", "_law_one"]
theorem sc__law_take : FnScope N__law_take ["_law_state", "_law_many"] (defScope s__law_take) := ⟨rfl, rfl, rfl, by decide +kernel, rfl, by decide +kernel, by decide +kernel⟩
abbrev s__law_wrong : Stmt := topS 26
abbrev N__law_wrong : List Str := ["_law_state", "_law_good", "_law_way", "_law_far", "_law_wrong_here", "_law_at"]
theorem sc__law_wrong : FnScope N__law_wrong ["_law_state", "_law_good"] (defScope s__law_wrong) := ⟨rfl, rfl, rfl, by decide +kernel, rfl, by decide +kernel, by decide +kernel⟩
abbrev s__law_refused : Stmt := topS 27
abbrev N__law_refused : List Str := ["_law_deed", "_law_handed", "e"]
theorem sc__law_refused : FnScope N__law_refused ["_law_deed", "_law_handed"] (defScope s__law_refused) := ⟨rfl, rfl, rfl, by decide +kernel, rfl, by decide +kernel, by decide +kernel⟩
abbrev s__law_any_refusal : Stmt := topS 28
abbrev N__law_any_refusal : List Str := ["_law_deed", "_law_handed"]
theorem sc__law_any_refusal : FnScope N__law_any_refusal ["_law_deed", "_law_handed"] (defScope s__law_any_refusal) := ⟨rfl, rfl, rfl, by decide +kernel, rfl, by decide +kernel, by decide +kernel⟩
abbrev s_law : Stmt := topS 29
abbrev N_law : List Str := ["_law_script", "_law_state", "_law_good", "_law_wrong_here", "_law_parts", "_law_at", "_law_handed", "_law_held", "_law_feeder", "_law_rest", "_law_k"]
theorem sc_law : FnScope N_law ["_law_script"] (defScope s_law) := ⟨rfl, rfl, rfl, by decide +kernel, rfl, by decide +kernel, by decide +kernel⟩
abbrev s_NoText___init__ : Stmt := inClass (topS 7) 0
abbrev N_NoText___init__ : List Str := ["self", "text"]
theorem sc_NoText___init__ : FnScope N_NoText___init__ ["self", "text"] (defScope s_NoText___init__) := ⟨rfl, rfl, rfl, by decide +kernel, rfl, by decide +kernel, by decide +kernel⟩
abbrev s_NoThing___init__ : Stmt := inClass (topS 8) 0
abbrev N_NoThing___init__ : List Str := ["self", "path", "why"]
theorem sc_NoThing___init__ : FnScope N_NoThing___init__ ["self", "path", "why"] (defScope s_NoThing___init__) := ⟨rfl, rfl, rfl, by decide +kernel, rfl, by decide +kernel, by decide +kernel⟩
abbrev s_NoTurn___init__ : Stmt := inClass (topS 9) 0
abbrev N_NoTurn___init__ : List Str := ["self", "path", "why"]
theorem sc_NoTurn___init__ : FnScope N_NoTurn___init__ ["self", "path", "why"] (defScope s_NoTurn___init__) := ⟨rfl, rfl, rfl, by decide +kernel, rfl, by decide +kernel, by decide +kernel⟩
abbrev s_NoBytes___init__ : Stmt := inClass (topS 10) 0
abbrev N_NoBytes___init__ : List Str := ["self", "why"]
theorem sc_NoBytes___init__ : FnScope N_NoBytes___init__ ["self", "why"] (defScope s_NoBytes___init__) := ⟨rfl, rfl, rfl, by decide +kernel, rfl, by decide +kernel, by decide +kernel⟩
abbrev s_Feeder___init__ : Stmt := inClass (topS 17) 0
abbrev N_Feeder___init__ : List Str := ["self"]
theorem sc_Feeder___init__ : FnScope N_Feeder___init__ ["self"] (defScope s_Feeder___init__) := ⟨rfl, rfl, rfl, by decide +kernel, rfl, by decide +kernel, by decide +kernel⟩
abbrev s_Feeder_feed : Stmt := inClass (topS 17) 1
abbrev N_Feeder_feed : List Str := ["self", "data", "ended", "start", "at", "piece"]
theorem sc_Feeder_feed : FnScope N_Feeder_feed ["self", "data"] (defScope s_Feeder_feed) := ⟨rfl, rfl, rfl, by decide +kernel, rfl, by decide +kernel, by decide +kernel⟩
abbrev s_Feeder_done : Stmt := inClass (topS 17) 2
abbrev N_Feeder_done : List Str := ["self", "left"]
theorem sc_Feeder_done : FnScope N_Feeder_done ["self"] (defScope s_Feeder_done) := ⟨rfl, rfl, rfl, by decide +kernel, rfl, by decide +kernel, by decide +kernel⟩
end K55
/-! TwP: what the streams' defs promise. -/
namespace Tw
open PySem PySem.Spec PyProof.Rows L2 Sb
theorem TyX.same {K : PySem.W.Frag} {H H' : Hp} {v : V} {t : Value} (s : Same H H') (h : TyX K H v t) : TyX K H' v t := by
  cases h with
  | base b =>
    refine .base ?_
    cases b with
    | non => exact .non
    | bl y => exact .bl y
    | int i => exact .int i
    | str y => exact .str y
    | flt y => exact .flt y
    | lst e => exact .lst (s _ _ e)
    | frz e => exact .frz (s _ _ e)
    | tup e => exact .tup (s _ _ e)
    | dK e => exact .dK (s _ _ e)
    | dT e => exact .dT (s _ _ e)
    | ins e c h1 h2 h3 h4 => exact .ins (s _ _ e) c h1 h2 h3 h4
  | byt b => exact .byt b
  | set e => exact .set (s _ _ e)
  | kList e c => exact .kList e c
  | kTuple e c => exact .kTuple e c
  | kDict e c => exact .kDict e c
  | fTuple e => exact .fTuple (s _ _ e)
  | fDict e => exact .fDict (s _ _ e)
theorem Rw.ty {K : PySem.W.Frag} {H : Hp} {a : Addr} {xs : List V} (h : Rw H a xs) : ∃ t, TyX K H (.ref a) t ∧ PySem.W.kitAny K t [.type "list", .type "tuple"] = some true := by
  rcases h with h | h
  · exact ⟨.type "list", .base (.lst h), kitAny_cons (b := true) (kit_ty (by decide +kernel)) (fun z => nomatch z) fun _ => rfl⟩
  · exact ⟨.type "tuple", .base (.tup h), kitAny_cons (b := false) (kit_ty (by decide +kernel)) (fun _ => kitAny_cons (b := true) (kit_ty (by decide +kernel)) (fun z => nomatch z) fun _ => rfl) fun z => nomatch z⟩
/-- a module's number -/
abbrev Gi (mg : Str → Option Value) (x : Str) (n : Int) : Prop := ∃ u, mg x = some u ∧ RelV (.int n) u
abbrev big : Nat := 4000000
def spWhole (K : PySem.W.Frag) : Sp := fun vs H Q _ => ∃ (v : V) (t : Value) (b1 b2 : Bool), vs = [v] ∧ TyX K H v t ∧ PySem.W.kitOne K t (.type "int") = some b1 ∧ (b1 = true → PySem.W.kitOne K t (.type "bool") = some b2) ∧ Q (.bl (b1 && !b2)) H
def spRow (K : PySem.W.Frag) : Sp := fun vs H Q _ => ∃ (v : V) (t : Value) (b : Bool), vs = [v] ∧ TyX K H v t ∧ PySem.W.kitAny K t [.type "list", .type "tuple"] = some b ∧ ∀ H', Same H H' → Q (.bl b) H'
/-- rows of bytes are asked of alone -/
def spBytes : Sp := fun vs H Q _ => ∃ (a : Addr) (ns : List Int), vs = [.ref a] ∧ Rw H a (iV ns) ∧ By ns ∧ ns.length ≤ big ∧ ∀ H', Same H H' → Q (.bl true) H'
def spRefuse : Sp := fun vs H Q _ => ∃ (a : Addr) (ns : List Int), vs = [.ref a] ∧ Rw H a (iV ns) ∧ By ns ∧ ns.length ≤ big ∧ ∀ H', Same H H' → Q .non H'
def spZeros : Sp := fun vs H Q _ => ∃ (a : Addr) (ns : List Int), vs = [.ref a] ∧ Rw H a (iV ns) ∧ ns.length ≤ big ∧ ∀ (H' : Hp) (p : Addr), Same H H' → H p = none → H' p = some (.lst ((zs 0 ns).map fun (i : Nat) => V.int i)) → Q (.ref p) H'
def spCheck : Sp := fun vs H Q _ => ∃ (a : Addr) (ns : List Int), vs = [.ref a] ∧ Rw H a (iV ns) ∧ By ns ∧ ns.length ≤ big ∧ ∀ (H' : Hp) (p : Addr), Same H H' → H p = none → H' p = some (.lst (iV (check ns))) → Q (.ref p) H'
def optL (H0 H : Hp) : Option (List Int) → V → Prop
  | none, v => v = .non
  | some w, v => ∃ p, v = .ref p ∧ H0 p = none ∧ H p = some (.lst (iV w))
/-- runs undone, of pieces without zeros -/
def spWithZ : Sp := fun vs H Q _ => ∃ (a : Addr) (ns : List Int), vs = [.ref a] ∧ H a = some (.lst (iV ns)) ∧ By ns ∧ NZ ns ∧ ns.length ≤ big ∧ ∀ (H' : Hp) (v : V), Same H H' → optL H H' (unrun ns) v → Q v H'
def spRead : Sp := fun vs H Q _ => ∃ (a : Addr) (pl : Nat) (ns : List Int), vs = [.int (pl : Nat), .ref a] ∧ H a = some (.lst (iV ns)) ∧ By ns ∧ NZ ns ∧ ns.length ≤ big ∧ ∀ (H' : Hp) (v : V), Same H H' → TlAt H H' (tell pl ns) v → Q v H'

/-! ### cuts by natural places -/
theorem sIx_natV (n d k : Nat) : HT.sIx n d (some (k : Int)) = min k n := HT.sIx_nat n d k
theorem cut_nn (xs : List V) (i j : Nat) : cutV xs (some (i : Int)) (some (j : Int)) = (xs.drop i).take (j - i) := by
  unfold cutV
  rw [sIx_natV, sIx_natV]
  by_cases h : i ≤ xs.length
  · rw [Nat.min_eq_left h]
    by_cases h2 : j ≤ xs.length
    · rw [Nat.min_eq_left h2]
    · rw [Nat.min_eq_right (show xs.length ≤ j by omega), List.take_of_length_le (by rw [List.length_drop]; omega), List.take_of_length_le (by rw [List.length_drop]; omega)]
  · rw [Nat.min_eq_right (show xs.length ≤ i by omega), List.drop_of_length_le (Nat.le_refl _), List.drop_of_length_le (show xs.length ≤ i by omega)]
    simp
theorem cut_n0 (xs : List V) (i : Nat) : cutV xs (some (i : Int)) none = xs.drop i := by
  unfold cutV
  rw [sIx_natV, show HT.sIx xs.length xs.length none = xs.length from HT.sIx_none _ _]
  by_cases h : i ≤ xs.length
  · rw [Nat.min_eq_left h, List.take_of_length_le (by rw [List.length_drop]; omega)]
  · rw [Nat.min_eq_right (show xs.length ≤ i by omega), List.drop_of_length_le (Nat.le_refl _), List.drop_of_length_le (show xs.length ≤ i by omega)]
    simp
theorem cut_0n (xs : List V) (j : Nat) : cutV xs none (some (j : Int)) = xs.take j := by
  unfold cutV
  rw [sIx_natV, show HT.sIx xs.length 0 none = 0 from HT.sIx_none _ _, List.drop_zero, Nat.sub_zero]
  by_cases h : j ≤ xs.length
  · rw [Nat.min_eq_left h]
  · rw [Nat.min_eq_right (show xs.length ≤ j by omega), List.take_of_length_le (Nat.le_refl _), List.take_of_length_le (show xs.length ≤ j by omega)]
/-- a negative place, counted from the end -/
theorem sIx_neg (n d k : Nat) (h0 : 1 ≤ k) (hk : k ≤ n) : HT.sIx n d (some (-(k : Int))) = n - k := by
  unfold HT.sIx
  simp only
  split <;> omega
theorem cut_0m (xs : List V) (k : Nat) (h0 : 1 ≤ k) (hk : k ≤ xs.length) : cutV xs none (some (-(k : Int))) = xs.take (xs.length - k) := by
  unfold cutV
  rw [sIx_neg _ _ _ h0 hk, show HT.sIx xs.length 0 none = 0 from HT.sIx_none _ _, List.drop_zero, Nat.sub_zero]
theorem cut_m0 (xs : List V) (k : Nat) (h0 : 1 ≤ k) (hk : k ≤ xs.length) : cutV xs (some (-(k : Int))) none = xs.drop (xs.length - k) := by
  unfold cutV
  rw [sIx_neg _ _ _ h0 hk, show HT.sIx xs.length xs.length none = xs.length from HT.sIx_none _ _, List.take_of_length_le (by rw [List.length_drop]; omega)]
theorem iV_take (xs : List Int) (n : Nat) : iV (xs.take n) = (iV xs).take n := List.map_take
theorem iV_drop (xs : List Int) (n : Nat) : iV (xs.drop n) = (iV xs).drop n := List.map_drop
theorem iV_snoc (xs : List Int) (b : Int) : iV (xs ++ [b]) = iV xs ++ [V.int b] := iV_append xs [b]
theorem iteNF {c A B : Prop} [Decidable c] (hc : ¬ c) (h : A) : if (!decide c) = true then A else B := by
  rw [decide_eq_false hc]
  exact iteT h

/-! ### the feeder -/
theorem rest_place : ¬ (("rest" : Str) = "place") := by decide +kernel
theorem place_rest : ¬ (("place" : Str) = "rest") := by decide +kernel
abbrev fdF (l : Addr) (n : Int) : List (Str × V) := [("rest", .ref l), ("place", .int n)]
theorem fd_init (l : Addr) (n : Int) : putF "place" (.int n) (putF "rest" (.ref l) []) = fdF l n := by
  show (if ("rest" : Str) = "place" then _ else (("rest" : Str), V.ref l) :: putF "place" (.int n) []) = _
  rw [if_neg rest_place]
  rfl
theorem fd_rest (l m : Addr) (n : Int) : putF "rest" (.ref m) (fdF l n) = fdF m n := by
  show (if ("rest" : Str) = "rest" then (("rest" : Str), V.ref m) :: [(("place" : Str), V.int n)] else _) = _
  rw [if_pos rfl]
theorem fd_place (l : Addr) (n k : Int) : putF "place" (.int k) (fdF l n) = fdF l k := by
  show (if ("rest" : Str) = "place" then _ else (("rest" : Str), V.ref l) :: (if ("place" : Str) = "place" then [(("place" : Str), V.int k)] else _)) = _
  rw [if_neg rest_place, if_pos rfl]
theorem fd_get_rest (l : Addr) (n : Int) : (fdF l n).lookup ("rest" : Str) = some (.ref l) := by simp [fdF, List.lookup]
theorem fd_get_place (l : Addr) (n : Int) : (fdF l n).lookup ("place" : Str) = some (.int n) := by
  have e : (("place" : Str) == ("rest" : Str)) = false := by decide +kernel
  simp [fdF, List.lookup, e]
theorem fd_no (l : Addr) (n : Int) {m : Str} (h1 : (m == ("rest" : Str)) = false) (h2 : (m == ("place" : Str)) = false) : (fdF l n).lookup m = none := by simp [fdF, List.lookup, h1, h2]
/-- a feeder at p that holds rest, in the list at l, from the place pl on -/
def FdAt (C : Addr) (H : Hp) (p l : Addr) (rest : List Int) (pl : Nat) : Prop := ∃ dx, H p = some (.ins C dx (fdF l (pl : Nat))) ∧ H l = some (.lst (iV rest))
structure ClF (K : PySem.W.Frag) (C : Addr) : Prop where
  cl : Cls K C
  nR : NoAttr K C "rest"
  nP : NoAttr K C "place"
theorem FdAt.ne {C : Addr} {H : Hp} {p l : Addr} {r : List Int} {n : Nat} (h : FdAt C H p l r n) : p ≠ l := by
  obtain ⟨dx, h1, h2⟩ := h
  exact ne_of h1 h2 (by intro z; cases z)
theorem FdAt.keep {C : Addr} {H H' : Hp} {p l : Addr} {r : List Int} {n : Nat} (h : FdAt C H p l r n) (s : Same H H') : FdAt C H' p l r n := by
  obtain ⟨dx, h1, h2⟩ := h
  exact ⟨dx, s _ _ h1, s _ _ h2⟩
/-- all but two places stay -/
def But (p l : Addr) (H H' : Hp) : Prop := ∀ b o, b ≠ p → b ≠ l → H b = some o → H' b = some o
theorem But.refl {p l : Addr} {H : Hp} : But p l H H := fun _ _ _ _ e => e
theorem But.trans {p l : Addr} {H H1 H2 : Hp} (h : But p l H H1) (k : But p l H1 H2) : But p l H H2 := fun b o n m e => k b o n m (h b o n m e)
theorem But.same {p l : Addr} {H H1 H2 : Hp} (h : But p l H H1) (k : Same H1 H2) : But p l H H2 := fun b o n m e => k b o (h b o n m e)
def spFInit (C : Addr) : Sp := fun vs H Q _ => ∃ (p dx : Addr), vs = [.ref p] ∧ H p = some (.ins C dx []) ∧ ∀ (H' : Hp) (l : Addr), (∀ b o, b ≠ p → H b = some o → H' b = some o) → H l = none → FdAt C H' p l [] 0 → Q .non H'
def spFDone (C : Addr) : Sp := fun vs H Q _ => ∃ (p l : Addr) (rest : List Int) (pl : Nat), vs = [.ref p] ∧ FdAt C H p l rest pl ∧ rest.length ≤ big ∧
  ∀ (H' : Hp) (l' r : Addr) (ws : List V), (∀ b o, b ≠ p → H b = some o → H' b = some o) → H l' = none → FdAt C H' p l' [] 0 → H r = none → r ≠ l' → H' r = some (.lst ws) → Tls (upd H r (.lst [])) H' (rests rest pl) ws → Q (.ref r) H'
def spFFeed (C : Addr) : Sp := fun vs H Q _ => ∃ (p d l : Addr) (rest xs : List Int) (pl : Nat), vs = [.ref p, .ref d] ∧ FdAt C H p l rest pl ∧ H d = some (.lst (iV xs)) ∧ d ≠ l ∧ By rest ∧ NZ rest ∧ By xs ∧ rest.length + xs.length ≤ big ∧
  ∀ (H' : Hp) (l' r : Addr) (ws : List V), But p l H H' → FdAt C H' p l' (goes rest pl xs).2.1 (goes rest pl xs).2.2 → (l' = l ∨ H l' = none) → H r = none → r ≠ l' → H' r = some (.lst ws) → Tls (upd H r (.lst [])) H' (goes rest pl xs).1 ws → Q (.ref r) H'
def spUnst : Sp := fun vs H Q _ => ∃ (d : Addr) (xs : List Int), vs = [.ref d] ∧ H d = some (.lst (iV xs)) ∧ By xs ∧ xs.length ≤ big ∧ ∀ (H' : Hp) (r : Addr) (ws : List V), Same H H' → H r = none → H' r = some (.lst ws) → Tls (upd H r (.lst [])) H' (unstr xs) ws → Q (.ref r) H'
theorem Tls.more {H0 H : Hp} {x : Addr} {o : HO} (hx : H x = none) : ∀ {ts : List Tell} {ws : List V}, Tls H0 H ts ws → Tls (upd H0 x o) H ts ws := by
  have go : ∀ (t : Tell) (v : V), TlAt H0 H t v → TlAt (upd H0 x o) H t v := by
    intro t v h
    cases t with
    | part pl bs =>
      obtain ⟨a, l, e, h1, h2, h3, h4⟩ := h
      exact ⟨a, l, e, h1, h2, by rw [upd_ne (ne_of_none h1 hx)]; exact h3, by rw [upd_ne (ne_of_none h2 hx)]; exact h4⟩
    | torn pl n =>
      obtain ⟨a, e, h1, h2⟩ := h
      exact ⟨a, e, h1, by rw [upd_ne (ne_of_none h1 hx)]; exact h2⟩
  intro ts ws h
  exact pd_mono go h
theorem upd_none {H0 : Hp} {x b : Addr} {o : HO} (h : upd H0 x o b = none) : b ≠ x ∧ H0 b = none := by
  have n : b ≠ x := fun z => by rw [z, upd_same] at h; cases h
  rw [upd_ne n] at h
  exact ⟨n, h⟩
theorem none_upd {H0 : Hp} {x b : Addr} {o : HO} (n : b ≠ x) (h : H0 b = none) : upd H0 x o b = none := by
  rw [upd_ne n]
  exact h
theorem pd_len {α β : Type} {F : α → β → Prop} : ∀ {xs : List α} {ys : List β}, Paired F xs ys → xs.length = ys.length
  | _, _, .nil => rfl
  | _, _, .cons _ t => by rw [List.length_cons, List.length_cons, pd_len t]
theorem seq0 {α : Type} {x : α} {xs : List α} (f : α → V) : seqIndex? 0 ((x :: xs).map f).length = some 0 := by
  rw [List.length_map, List.length_cons]
  unfold seqIndex?
  simp
theorem iV_at0 {xs : List Int} {i : Nat} {b : Int} (h : xs[i]? = some b) : atI (iV xs) (0 + (i : Int)) = some (.int b) := by
  rw [show (0 : Int) + (i : Int) = (i : Int) by omega]
  exact iV_atI h
theorem cutB {xs : List Int} (h : By xs) (lo hi : Option Int) : ∃ ys, cutV (iV xs) lo hi = iV ys ∧ By ys ∧ ys.length ≤ xs.length := by
  refine ⟨(xs.drop (HT.sIx (iV xs).length 0 lo)).take (HT.sIx (iV xs).length (iV xs).length hi - HT.sIx (iV xs).length 0 lo), ?_, (h.drop _).take _, ?_⟩
  · unfold cutV
    rw [iV_take, iV_drop]
  · rw [List.length_take, List.length_drop]
    omega
/-- the check of a list -/
def spCheckL : Sp := fun vs H Q _ => ∃ (a : Addr) (ns : List Int), vs = [.ref a] ∧ H a = some (.lst (iV ns)) ∧ By ns ∧ ns.length ≤ big ∧ ∀ (H' : Hp) (p : Addr), Same H H' → Nw H H' p (check ns) → Q (.ref p) H'
/-- some new list of bytes, of at most twice as many and two -/
def spRunsL : Sp := fun vs H Q _ => ∃ (a : Addr) (ns : List Int), vs = [.ref a] ∧ H a = some (.lst (iV ns)) ∧ By ns ∧ ns.length ≤ 100000 ∧ ∀ (H' : Hp) (p : Addr) (xs : List Int), Same H H' → Nw H H' p xs → By xs → xs.length ≤ 2 * ns.length + 1 → Q (.ref p) H'
/-- what the law undoes -/
def spUndoneL : Sp := fun vs H Q _ => ∃ (a : Addr) (ns : List Int), vs = [.ref a] ∧ H a = some (.lst (iV ns)) ∧ By ns ∧ NZ ns ∧ ns.length ≤ big ∧ ∀ (H' : Hp) (v : V), Same H H' → optL H H' (unrun ns) v → Q v H'
theorem ixN_at {v : Int} {n : Nat} (h0 : 0 ≤ v) (h : v.toNat < n) : ixN n v = some v.toNat := by
  unfold ixN
  rw [if_pos h0, if_pos (by omega)]
theorem By.set {xs : List Int} (h : By xs) (i : Nat) {y : Int} (h0 : 0 ≤ y) (h1 : y ≤ 255) : By (xs.set i y) := fun b hb => by
  rcases List.mem_or_eq_of_mem_set hb with q | q
  · exact h b q
  · rw [q]
    exact ⟨h0, h1⟩
theorem iV_set (xs : List Int) (i : Nat) (y : Int) : (iV xs).set i (.int y) = iV (xs.set i y) := List.map_set.symm
/-- what the law tells of a piece -/
def spToldL : Sp := fun vs H Q _ => ∃ (a : Addr) (pl : Nat) (en : Bool) (ns : List Int), vs = [.ref a, .int (pl : Nat), .bl en] ∧ H a = some (.lst (iV ns)) ∧ By ns ∧ NZ ns ∧ ns.length ≤ big ∧ ∀ (H' : Hp) (v : V), Same H H' → TlAt H H' (if en = true then tell pl ns else .torn pl ns.length) v → Q v H'
/-- what is due of a stream -/
def spDueL : Sp := fun vs H Q _ => ∃ (d : Addr) (xs : List Int), vs = [.ref d] ∧ H d = some (.lst (iV xs)) ∧ By xs ∧ xs.length ≤ big ∧ ∀ (H' : Hp) (r : Addr) (ws : List V), Same H H' → H r = none → H' r = some (.lst ws) → Tls H H' (unstr xs) ws → Q (.ref r) H'
theorem pd_at {α β : Type} {F : α → β → Prop} : ∀ {xs : List α} {ys : List β} {i : Nat} {y : β}, Paired F xs ys → ys[i]? = some y → ∃ x, xs[i]? = some x ∧ F x y
  | _, _, 0, _, .cons h _, e => by
    cases e
    exact ⟨_, rfl, h⟩
  | _, _, i + 1, _, .cons _ t, e => by
    obtain ⟨x, h1, h2⟩ := pd_at (i := i) t (by simpa using e)
    exact ⟨x, by simpa using h1, h2⟩
theorem cutI (xs : List Int) (lo hi : Option Int) : ∃ ys, cutV (iV xs) lo hi = iV ys ∧ ys.length ≤ xs.length := by
  refine ⟨(xs.drop (HT.sIx (iV xs).length 0 lo)).take (HT.sIx (iV xs).length (iV xs).length hi - HT.sIx (iV xs).length 0 lo), ?_, ?_⟩
  · unfold cutV
    rw [iV_take, iV_drop]
  · rw [List.length_take, List.length_drop]
    omega
theorem eqv_int_refl (xs : List Int) : PyData.eqv (.list (xs.map PyData.int)) (.list (xs.map PyData.int)) = true := by
  rw [eqv_ints]
  exact decide_eq_true rfl
theorem tell_refl (t : Tell) : PyData.eqv (Tell.pd t) (Tell.pd t) = true := by
  cases t with
  | part pl bs =>
    have e := eqv_int_refl bs
    simp only [Tell.pd, PyData.eqv, PyData.eqvAll] at e ⊢
    simp [e]
  | torn pl n => simp [Tell.pd, PyData.eqv, PyData.eqvAll]
theorem tells_refl (ts : List Tell) : PyData.eqv (.list (ts.map Tell.pd)) (.list (ts.map Tell.pd)) = true := by
  have go : ∀ ts : List Tell, PyData.eqvAll (ts.map Tell.pd) (ts.map Tell.pd) = true := by
    intro ts
    induction ts with
    | nil => rfl
    | cons t r ih =>
      simp only [List.map_cons, PyData.eqvAll, tell_refl t, ih, Bool.and_self]
  have e := go ts
  simpa only [PyData.eqv] using e
def spLaw (K : PySem.W.Frag) : Sp := fun vs H Q _ => ∃ (a : Addr) (ns : List Int), vs = [.ref a] ∧ SqL K H a (ns.map V.int) ∧ ns.length ≤ 63 ∧ ∀ H', Q (.bl true) H'
/-- the facts of a class at C with __init__, as the top left it -/
structure ClIn (K : PySem.W.Frag) (C : Addr) (x : Str) : Prop where
  g : PySem.W.nsIn K mainGlobals x = some (some (.ref C))
  pg : PySem.W.plainGet K C Str.empty = true
  hd : PySem.W.hasDictIn K C = true
  po : PySem.W.plainOver K C = true
  sa : PySem.W.findIn K (.ref C) "__setattr__" = some (some (.builtin "object.__setattr__"))
  mks : PySem.W.makesIn K C = true
  kc : PySem.W.keepIn K (.ref C) = true
theorem ClIn.cls {K : PySem.W.Frag} {C : Addr} {x : Str} (c : ClIn K C x) : Cls K C := ⟨c.pg, c.hd, c.po, c.sa⟩
theorem gi_mk {K : PySem.W.Frag} {h : Heap} {mg : Str → Option Value} {x : Str} {n : Int} {t : Tok} (X : K.In h) (G : h.Ns mainGlobals mg) (g : PySem.W.nsIn K mainGlobals x = some (some (.int n t))) : Gi mg x n := ⟨_, PySem.W.mg_of X G g, _, rfl⟩
/-! ### list(x), tuple(x), in comprehensions too -/
def rListOf (K : PySem.W.Frag) : List V → Hp → VK → Prop := fun xs H Q => ∃ p ys, xs = [.ref p] ∧ (SqL K H p ys ∨ SqT K H p ys) ∧ ∀ l, H l = none → Q (.ref l) (upd H l (.lst ys))
def rTupOf (K : PySem.W.Frag) : List V → Hp → VK → Prop := fun xs H Q => ∃ p ys, xs = [.ref p] ∧ ((SqL K H p ys ∧ ∀ l, H l = none → Q (.ref l) (upd H l (.tup ys))) ∨ (SqT K H p ys ∧ Q (.ref p) H))
theorem cr_listK {X : Cx} : CallR X (.type "list") (rListOf X.K) := call_list_of
theorem cr_tupK {X : Cx} : CallR X (.type "tuple") (rTupOf X.K) := call_tuple_of
end Tw
namespace K55
open PySem PySem.Spec PyProof.Rows L2 Tw Sb
section
variable {P : Program} {w : World} {K : PySem.W.Frag} {mg : Str → Option Value} {base : Heap}
theorem ok_is_whole {f : Addr} {fd : FuncData} (F : Fun K "is_whole" "is_whole" s_is_whole f fd) (T : Bt mg) : FnOk P w K mg base CX0 1 f fd ["thing"] (spWhole K) := by
  refine F.ok sc_is_whole (fun vs H Q E h => ?_) (fun cdv A outer s H vs Q E hr h => ?_)
  · obtain ⟨v, t, b1, b2, rfl, _⟩ := h
    rfl
  · obtain ⟨v, t, b1, b2, rfl, hT, h1, h2, q⟩ := h
    refine ⟨_, (pss_one (ps_ret (pe_and (pe_callB (id := "isinstance") (r := rIsi K) call_isi (by rfl) T.n_isinstance (by decide +kernel) (pa_cons (pv 0) (pa_cons (pe_bltn (v := .ty "int") rfl T.n_int (by decide +kernel) rfl) pa_nil))) (pe_one (pe_not (pe_callB (id := "isinstance") (r := rIsi K) call_isi (by rfl) T.n_isinstance (by decide +kernel) (pa_cons (pv 0) (pa_cons (pe_bltn (v := .ty "bool") rfl T.n_bool (by decide +kernel) rfl) pa_nil)))))))), ?_⟩
    refine ⟨v, rfl, v, .ty "int", t, .type "int", b1, rfl, .ty "int", hT, h1, b1, rfl, ?_⟩
    cases b1 with
    | true => exact ⟨v, rfl, v, .ty "bool", t, .type "bool", b2, rfl, .ty "bool", hT, h2 rfl, b2, rfl, q⟩
    | false => exact q
theorem ok_is_row {f : Addr} {fd : FuncData} (F : Fun K "is_row" "is_row" s_is_row f fd) (T : Bt mg) : FnOk P w K mg base CX0 1 f fd ["thing"] (spRow K) := by
  refine F.ok sc_is_row (fun vs H Q E h => ?_) (fun cdv A outer s H vs Q E hr h => ?_)
  · obtain ⟨v, t, b, rfl, _⟩ := h
    rfl
  · obtain ⟨v, t, b, rfl, hT, h1, q⟩ := h
    refine ⟨_, (pss_one (ps_ret (pe_callB (id := "isinstance") (r := rIsiT K) call_isiT (by rfl) T.n_isinstance (by decide +kernel) (pa_cons (pv 0) (pa_cons (pe_tup (pa_cons (pe_bltn (v := .ty "list") rfl T.n_list (by decide +kernel) rfl) (pa_cons (pe_bltn (v := .ty "tuple") rfl T.n_tuple (by decide +kernel) rfl) pa_nil))) pa_nil))))), ?_⟩
    refine ⟨v, rfl, by show 2 ≤ sizeLine; decide, fun p hp => ?_⟩
    exact ⟨v, p, _, t, _, b, rfl, upd_same, .cons (.ty _) (.cons (.ty _) .nil), TyX.same (same_upd hp) hT, h1, q _ (same_upd hp)⟩
theorem ok_is_bytes {f : Addr} {fd : FuncData} (F : Fun K "is_bytes" "is_bytes" s_is_bytes f fd) (T : Bt mg) (g_LAST_BYTE : Gi mg "LAST_BYTE" 255) (c_is_row : Cal P w K mg base 1 "is_row" ["thing"] (spRow K)) (c_is_whole : Cal P w K mg base 1 "is_whole" ["thing"] (spWhole K)) :
    FnOk P w K mg base CX0 2 f fd ["thing"] spBytes := by
  refine F.ok sc_is_bytes (fun vs H Q E h => ?_) (fun cdv A outer s H vs Q E hr h => ?_)
  · obtain ⟨a, ns, rfl, _⟩ := h
    rfl
  · obtain ⟨a, ns, rfl, hR, hB, hl, q⟩ := h
    refine ⟨_, (pss_one (ps_ret (pe_and (pe_cal c_is_row hr (by decide) (by rfl) (pa_cons (pv 0) pa_nil)) (pe_one (pe_callB (cr_all rfl) (by rfl) T.n_all (by decide +kernel) (pa_cons (pe_lc (own := [("part", 1)]) rfl sc_is_bytes.nd (pi_or (pi_list (pv 0)) (pi_tup (pv 0))) (blkOk_by (N := N_is_bytes) (sc := defScope s_is_bytes) (by decide +kernel)) (fun _ _ _ _ _ => (pg_name (i := 1) sc_is_bytes.nd rfl (.inl rfl))) (fun _ _ _ _ _ => pts_nil) (fun _ _ _ _ _ => (pe_and (pe_cal c_is_whole hr (by decide) (by rfl) (pa_cons (pv 1) pa_nil)) (pe_one (pe_chain op_le op_le pe_int (pv 1) (C8.pe_gc rfl g_LAST_BYTE)))))) pa_nil)))))), ?_⟩
    obtain ⟨t, hT, hk⟩ := hR.ty (K := K)
    refine ⟨_, rfl, .ref a, t, true, rfl, hT, hk, fun H1 s1 => ⟨true, rfl, ?_⟩⟩
    have hR1 := hR.same s1
    have turn : ∀ (D : Addr), H1 D = none → ∀ (i : Nat) (H2 : Hp), i < (iV ns).length → Same H1 H2 → H2 D = some (.lst (List.replicate i (V.bl true))) →
        ∃ acc, H2 D = some (HO.lst acc) ∧ acc.length < sizeLine ∧ (Same H1 (upd H2 D (.lst (acc ++ [V.bl true]))) ∧ (upd H2 D (.lst (acc ++ [V.bl true]))) D = some (.lst (List.replicate (i + 1) (V.bl true)))) := by
      intro D hD i H2 hi hs hL
      refine ⟨_, hL, ?_, fun c o e => ?_, ?_⟩
      · rw [List.length_replicate]
        rw [iV_len] at hi
        exact Nat.lt_of_lt_of_le hi (Nat.le_trans hl (by decide))
      · rw [upd_ne (ne_of_none e hD)]
        exact hs c o e
      · rw [upd_same, List.replicate_succ']
    have all1 : ∀ n, (List.replicate n true).all id = true := fun n => by simp
    rcases hR1 with hL | hL
    · refine .inl ⟨_, rfl, a, rfl, ⟨_, SqL.of hL⟩, fun D hD => lc_it walk_list (fun i H' => Same H1 H' ∧ H' D = some (.lst (List.replicate i (.bl true)))) ⟨same_upd hD, upd_same⟩ (fun _ _ _ h => SqL.of (h.1 _ _ hL)) ?_ ?_⟩
      · rintro i x H2 H3 hi ⟨hs, hD2⟩ ⟨rfl, hx⟩
        obtain ⟨b, hb, rfl⟩ := iV_at hx
        have hby := hB b (List.mem_of_getElem? hb)
        refine ⟨rfl, _, rfl, .int b, .type "int", true, false, rfl, .base (.int b), kit_ty (by decide +kernel), fun _ => kit_ty (by decide +kernel), true, rfl, _, rfl, 0, b, rfl, rfl, _, rfl, ?_⟩
        rw [decide_eq_true hby.1]
        refine ⟨b, 255, rfl, rfl, ?_⟩
        dsimp only
        rw [decide_eq_true hby.2]
        exact turn D hD i _ hi hs hD2
      · rintro H2 ⟨hs, hD2⟩
        refine ⟨D, List.replicate (iV ns).length true, rfl, .inl (.inl (by rw [hD2, List.map_replicate])), ?_⟩
        rw [all1]
        exact q _ (s1.trans hs)
    · refine .inr ⟨_, rfl, a, rfl, ⟨_, SqT.of hL⟩, fun D hD => lc_it walk_tup (fun i H' => Same H1 H' ∧ H' D = some (.lst (List.replicate i (.bl true)))) ⟨same_upd hD, upd_same⟩ (fun _ _ _ h => SqT.of (h.1 _ _ hL)) ?_ ?_⟩
      · rintro i x H2 H3 hi ⟨hs, hD2⟩ ⟨rfl, hx⟩
        obtain ⟨b, hb, rfl⟩ := iV_at hx
        have hby := hB b (List.mem_of_getElem? hb)
        refine ⟨rfl, _, rfl, .int b, .type "int", true, false, rfl, .base (.int b), kit_ty (by decide +kernel), fun _ => kit_ty (by decide +kernel), true, rfl, _, rfl, 0, b, rfl, rfl, _, rfl, ?_⟩
        rw [decide_eq_true hby.1]
        refine ⟨b, 255, rfl, rfl, ?_⟩
        dsimp only
        rw [decide_eq_true hby.2]
        exact turn D hD i _ hi hs hD2
      · rintro H2 ⟨hs, hD2⟩
        refine ⟨D, List.replicate (iV ns).length true, rfl, .inl (.inl (by rw [hD2, List.map_replicate])), ?_⟩
        rw [all1]
        exact q _ (s1.trans hs)
theorem ok_refuse {f : Addr} {fd : FuncData} (F : Fun K "_refuse_others" "_refuse_others" s__refuse_others f fd) (T : Bt mg) (c_is_bytes : Cal P w K mg base 2 "is_bytes" ["thing"] spBytes) : FnOk P w K mg base CX0 3 f fd ["data"] spRefuse := by
  refine F.ok sc__refuse_others (fun vs H Q E h => ?_) (fun cdv A outer s H vs Q E hr h => ?_)
  · obtain ⟨a, ns, rfl, _⟩ := h
    rfl
  · obtain ⟨a, ns, rfl, hR, hB, hl, q⟩ := h
    refine ⟨_, (pss_one (ps_if (pt_not (pt_val (pe_cal c_is_bytes hr (by decide) (by rfl) (pa_cons (pv 0) pa_nil))))
        (pss_one ps_dead)
        pss_nil)), ?_⟩
    refine ⟨_, rfl, a, ns, rfl, hR, hB, hl, fun H1 s1 => ⟨true, rfl, ?_⟩⟩
    exact q _ s1
theorem ok_zeros {f : Addr} {fd : FuncData} (F : Fun K "_zeros" "_zeros" s__zeros f fd) (T : Bt mg) : FnOk P w K mg base CX0 1 f fd ["data"] spZeros := by
  refine F.ok sc__zeros (fun vs H Q E h => ?_) (fun cdv A outer s H vs Q E hr h => ?_)
  · obtain ⟨a, ns, rfl, _⟩ := h
    rfl
  · obtain ⟨a, ns, rfl, hR, hl, q⟩ := h
    refine ⟨_, (pss_one (ps_ret (pe_lc (own := [("at", 1), ("byte", 2)]) (g := gTup K 2 (gCons (gName 1) (gCons (gName 2) gNil))) rfl sc__zeros.nd (pi_en rfl T.n_enumerate (pa_cons (pv 0) pa_nil)) (blkOk_by (N := N__zeros) (sc := defScope s__zeros) (by decide +kernel)) (fun _ _ _ _ _ => (pg_tup rfl (pgs_cons (pg_name (i := 1) sc__zeros.nd rfl (.inl rfl)) (pgs_cons (pg_name (i := 2) sc__zeros.nd rfl (.inl rfl)) pgs_nil)))) (fun _ _ _ _ _ => (pts_one (pt_cmpR op_eq (pv 2) pe_int (nomark _)))) (fun _ _ _ _ _ => (pv 1))))), ?_⟩
    refine ⟨_, rfl, a, _, rfl, hR.sq, fun bt hb1 hb0 D hD => lc_it (walk_enC (K := K) (a := a) (xs := iV ns) (c := 0) (b := bt)) (fun i H' => Same H H' ∧ H' D = some (.lst ((zs 0 (ns.take i)).map fun (i : Nat) => V.int i))) ⟨same_upd hD, upd_same⟩ (fun i H' _ h => ?_) ?_ ?_⟩
    · cases bt with
      | true => exact Same.tupq h.1 (hb1 rfl)
      | false => exact h.1.seq (hb0 rfl)
    · rintro i x H2 H3 hi ⟨hs, hL⟩ ⟨T1, x1, y1, rfl, hT, rfl, e1, e2⟩
      cases e1
      obtain ⟨b, hb, rfl⟩ := iV_at e2
      have nD : D ≠ T1 := ne_of_none hL hT
      have hs' : Same H (upd H2 T1 (.tup [.int (0 + (i : Nat)), .int b])) := hs.trans (same_upd hT)
      have hL' : (upd H2 T1 (.tup [.int (0 + (i : Nat)), .int b])) D = some (.lst ((zs 0 (ns.take i)).map fun (i : Nat) => V.int i)) := by
        rw [upd_ne nD]
        exact hL
      have step := zs_take_succ hb 0
      refine ⟨T1, _, rfl, SqT.of upd_same, rfl, _, _, rfl, _, _, rfl, rfl, rfl, _, rfl, rfl, _, rfl, ?_⟩
      refine ite2 (fun g => ?_) (fun g => ?_)
      · have gb : b = 0 := by simpa using g
        refine ⟨_, rfl, _, hL', ?_, fun c o e => ?_, ?_⟩
        · rw [List.length_map]
          have h1 := zs_length 0 (ns.take i)
          rw [List.length_take] at h1
          exact Nat.lt_of_le_of_lt (Nat.le_trans h1 (Nat.le_trans (Nat.min_le_right _ _) hl)) (by decide)
        · rw [upd_ne (ne_of_none e hD)]
          exact hs' c o e
        · rw [upd_same, step, if_pos gb, List.map_append]
          rfl
      · have gb : ¬ b = 0 := by simpa using g
        refine ⟨hs', ?_⟩
        rw [hL', step, if_neg gb, List.append_nil]
    · rintro H2 ⟨hs, hL⟩
      rw [iV_len, List.take_length] at hL
      exact q _ _ hs hD hL
theorem ok_check {f : Addr} {fd : FuncData} (F : Fun K "_check" "_check" s__check f fd) (T : Bt mg) (g_CHECK_RANGE : Gi mg "CHECK_RANGE" 65521) : FnOk P w K mg base CX0 1 f fd ["part"] spCheck := by
  refine F.ok sc__check (fun vs H Q E h => ?_) (fun cdv A outer s H vs Q E hr h => ?_)
  · obtain ⟨a, ns, rfl, _⟩ := h
    rfl
  · obtain ⟨a, ns, rfl, hR, hB, hl, q⟩ := h
    refine ⟨_, (pss_cons (ps_set (i := 1) sc__check.nd rfl (.inl rfl) (pe_op op_mod (pe_callB (cr_sumR rfl) (by rfl) T.n_sum (by decide +kernel) (pa_cons (pv 0) pa_nil)) (C8.pe_gc rfl g_CHECK_RANGE)))
      (pss_cons (ps_set (i := 2) sc__check.nd rfl (.inl rfl) (pe_op op_mod (pe_callB (cr_sumR rfl) (by rfl) T.n_sum (by decide +kernel) (pa_cons (pe_lc (own := [("number", 3), ("byte", 4)]) (g := gTup K 2 (gCons (gName 3) (gCons (gName 4) gNil))) rfl sc__check.nd (pi_enK rfl T.n_enumerate (pa_cons (pv 0) pa_nil) (pk_cons pe_int pk_nil)) (blkOk_by (N := N__check) (sc := defScope s__check) (by decide +kernel)) (fun _ _ _ _ _ => (pg_tup rfl (pgs_cons (pg_name (i := 3) sc__check.nd rfl (.inl rfl)) (pgs_cons (pg_name (i := 4) sc__check.nd rfl (.inl rfl)) pgs_nil)))) (fun _ _ _ _ _ => pts_nil) (fun _ _ _ _ _ => (pe_op op_mul (pv 3) (pv 4)))) pa_nil)) (C8.pe_gc rfl g_CHECK_RANGE)))
      (pss_one (ps_ret (pe_lst (pa_cons (pe_op op_fdiv (pv 1) pe_int) (pa_cons (pe_op op_mod (pv 1) pe_int) (pa_cons (pe_op op_fdiv (pv 2) pe_int) (pa_cons (pe_op op_mod (pv 2) pe_int) pa_nil))))))))), ?_⟩
    refine ⟨_, rfl, a, ns, rfl, hR.sq, _, 65521, rfl, rfl, (by show (0 : Int) < 65521; decide), ?_⟩
    have k1 := hR
    refine ⟨_, rfl, a, 1, _, rfl, rfl, ⟨by decide, by decide⟩, hR.sq, fun bt hb1 hb0 D hD => lc_it (walk_enC (K := K) (a := a) (xs := iV ns) (c := 1) (b := bt)) (fun i H' => Same H H' ∧ ∃ ws : List Int, H' D = some (.lst (iV ws)) ∧ ws.length = i ∧ ws.sum = wsum 1 (ns.take i)) ⟨same_upd hD, [], upd_same, rfl, rfl⟩ (fun i H' _ h => ?_) ?_ ?_⟩
    · cases bt with
      | true => exact Same.tupq h.1 (hb1 rfl)
      | false => exact h.1.seq (hb0 rfl)
    · rintro i x H2 H3 hi ⟨hs, ws, hL, hwl, hwe⟩ ⟨T1, x1, y1, rfl, hT, rfl, e1, e2⟩
      cases e1
      obtain ⟨b, hb, rfl⟩ := iV_at e2
      have hby := hB b (List.mem_of_getElem? hb)
      have nD : D ≠ T1 := ne_of_none hL hT
      have hs' : Same H (upd H2 T1 (.tup [.int (1 + (i : Nat)), .int b])) := hs.trans (same_upd hT)
      refine ⟨T1, _, rfl, SqT.of upd_same, rfl, _, _, rfl, _, _, rfl, rfl, rfl, _, rfl, _, rfl, _, _, rfl, rfl, .inr ⟨by omega, by omega⟩, _, by rw [upd_ne nD]; exact hL, ?_, fun c o e => ?_, ws ++ [(1 + (i : Nat)) * b], ?_, ?_, ?_⟩
      · rw [iV_len, hwl]
        rw [iV_len] at hi
        exact Nat.lt_of_lt_of_le hi (Nat.le_trans hl (by decide))
      · rw [upd_ne (ne_of_none e hD)]
        exact hs' c o e
      · rw [upd_same, iV_append]
        rfl
      · rw [List.length_append, hwl]
        rfl
      · have hi' : i < ns.length := by rw [iV_len] at hi; exact hi
        rw [List.sum_append, hwe, List.take_add_one, hb, wsum_append]
        have e3 : (ns.take i).length = i := by rw [List.length_take]; omega
        rw [e3]
        simp [wsum]
    · rintro H2 ⟨hs, ws, hL, hwl, hwe⟩
      rw [iV_len, List.take_length] at hwe
      refine ⟨D, ws, rfl, .inl (SqL.of hL), _, 65521, rfl, rfl, (by show (0 : Int) < 65521; decide), ?_⟩
      rw [hwe]
      dsimp only
      refine ⟨_, rfl, _, 256, rfl, rfl, ⟨by decide, by decide⟩, _, rfl, _, 256, rfl, rfl, (by show (0 : Int) < 256; decide), _, rfl, _, 256, rfl, rfl, ⟨by decide, by decide⟩, _, rfl, _, 256, rfl, rfl, (by show (0 : Int) < 256; decide), by show 4 ≤ sizeLine; decide, fun p hp => ?_⟩
      exact q _ p (hs.trans (same_upd hp)) (hs.free hp) upd_same
end
end K55
/-! Sw: how a part is written, and that it is read back. -/
namespace Sb
/-- a stretch without zeros in runs -/
def encS (last : Bool) (seg : List Int) : List Int :=
  if 254 < seg.length ∨ (seg.length = 254 ∧ last = false) then 255 :: (seg.take 254 ++ encS last (seg.drop 254)) else (((seg.length : Nat) : Int) + 1) :: seg
termination_by seg.length
decreasing_by
  rw [List.length_drop]
  omega
theorem encS_full {last : Bool} {seg : List Int} (h : 254 < seg.length ∨ (seg.length = 254 ∧ last = false)) : encS last seg = 255 :: (seg.take 254 ++ encS last (seg.drop 254)) := by
  rw [encS, if_pos h]
theorem encS_end {last : Bool} {seg : List Int} (h : ¬ (254 < seg.length ∨ (seg.length = 254 ∧ last = false))) : encS last seg = (((seg.length : Nat) : Int) + 1) :: seg := by
  rw [encS, if_neg h]
theorem encS_ne (last : Bool) (seg : List Int) : encS last seg ≠ [] := by
  rw [encS]
  split <;> simp
/-- behind the stretch seg -/
def enc (seg : List Int) : List Int → List Int
  | [] => encS true seg
  | b :: r => if b = 0 then encS false seg ++ enc [] r else enc (seg ++ [b]) r
theorem enc_ne (seg xs : List Int) : enc seg xs ≠ [] := by
  cases xs with
  | nil => exact encS_ne _ _
  | cons b r =>
    by_cases h : b = 0
    · simp only [enc, if_pos h]
      intro e
      exact encS_ne _ _ (List.append_eq_nil_iff.mp e).1
    · simp only [enc, if_neg h]
      exact enc_ne (seg ++ [b]) r
theorem enc_nz {seg : List Int} (pre : List Int) (h : NZ seg) (r : List Int) : enc pre (seg ++ 0 :: r) = encS false (pre ++ seg) ++ enc [] r := by
  induction seg generalizing pre with
  | nil => simp [enc]
  | cons b t ih =>
    have hb : b ≠ 0 := h b (List.mem_cons_self ..)
    simp only [List.cons_append, enc, if_neg hb]
    rw [ih _ fun c hc => h c (List.mem_cons_of_mem _ hc)]
    simp
theorem enc_end {seg : List Int} (pre : List Int) (h : NZ seg) : enc pre seg = encS true (pre ++ seg) := by
  induction seg generalizing pre with
  | nil => simp [enc]
  | cons b t ih =>
    have hb : b ≠ 0 := h b (List.mem_cons_self ..)
    simp only [enc, if_neg hb]
    rw [ih _ fun c hc => h c (List.mem_cons_of_mem _ hc)]
    simp
theorem encS_len (last : Bool) (seg : List Int) : (encS last seg).length ≤ seg.length + seg.length / 254 + 1 := by
  rw [encS]
  split
  · rename_i h
    have l := encS_len last (seg.drop 254)
    rw [List.length_cons, List.length_append, List.length_take]
    rw [List.length_drop] at l
    omega
  · rw [List.length_cons]
    omega
termination_by seg.length
decreasing_by
  rw [List.length_drop]
  omega
theorem enc_len (seg xs : List Int) : (enc seg xs).length ≤ 2 * (seg.length + xs.length) + 1 := by
  induction xs generalizing seg with
  | nil =>
    have := encS_len true seg
    simp only [enc]
    have e : ([] : List Int).length = 0 := rfl
    omega
  | cons b r ih =>
    by_cases h : b = 0
    · simp only [enc, if_pos h, List.length_append, List.length_cons]
      have := encS_len false seg
      have := ih []
      have e : ([] : List Int).length = 0 := rfl
      omega
    · simp only [enc, if_neg h, List.length_cons]
      have := ih (seg ++ [b])
      rw [List.length_append] at this
      have e : [b].length = 1 := rfl
      omega
/-- bytes, none of them 0 -/
def Ps (xs : List Int) : Prop := ∀ b ∈ xs, 1 ≤ b ∧ b ≤ 255
theorem Ps.by {xs : List Int} (h : Ps xs) : By xs := fun b hb => by
  have := h b hb
  omega
theorem Ps.nz {xs : List Int} (h : Ps xs) : NZ xs := fun b hb => by
  have := h b hb
  omega
theorem Ps.of {xs : List Int} (h : By xs) (k : NZ xs) : Ps xs := fun b hb => by
  have := h b hb
  have := k b hb
  omega
theorem Ps.append {xs ys : List Int} (h : Ps xs) (k : Ps ys) : Ps (xs ++ ys) := fun b hb => (List.mem_append.mp hb).elim (h b) (k b)
theorem Ps.cons {x : Int} {xs : List Int} (h0 : 1 ≤ x ∧ x ≤ 255) (k : Ps xs) : Ps (x :: xs) := fun b hb => by
  rcases List.mem_cons.mp hb with rfl | h
  · exact h0
  · exact k b h
theorem Ps.take {xs : List Int} (h : Ps xs) (n : Nat) : Ps (xs.take n) := fun b hb => h b (List.mem_of_mem_take hb)
theorem Ps.drop {xs : List Int} (h : Ps xs) (n : Nat) : Ps (xs.drop n) := fun b hb => h b (List.mem_of_mem_drop hb)
theorem Ps.nil : Ps [] := fun _ h => by cases h
theorem encS_ps {last : Bool} {seg : List Int} (h : Ps seg) : Ps (encS last seg) := by
  rw [encS]
  split
  · exact .cons ⟨by decide, by decide⟩ ((h.take _).append (encS_ps (h.drop _)))
  · rename_i k
    exact .cons ⟨by omega, by omega⟩ h
termination_by seg.length
decreasing_by
  rw [List.length_drop]
  omega
theorem enc_ps {seg xs : List Int} (h : Ps seg) (k : By xs) : Ps (enc seg xs) := by
  induction xs generalizing seg with
  | nil => exact encS_ps h
  | cons b r ih =>
    have hb := k b (List.mem_cons_self ..)
    have hr : By r := fun c hc => k c (List.mem_cons_of_mem _ hc)
    by_cases e : b = 0
    · simp only [enc, if_pos e]
      exact (encS_ps h).append (ih .nil hr)
    · simp only [enc, if_neg e]
      exact ih (h.append (.cons ⟨by omega, by omega⟩ .nil)) hr

/-! ### undone again -/
/-- as undo, and refused where a run of none stands at the end behind a full one -/
def undoA : Nat → Int → List Int → List Int → Option (List Int)
  | 0, _, acc, _ => some acc
  | _ + 1, _, acc, [] => some acc
  | f + 1, ah, acc, n :: r =>
    if r.length + 1 < n.toNat then none
    else if n = 1 ∧ ah = 255 ∧ r = [] then none
    else undoA f n (acc ++ r.take (n.toNat - 1) ++ if n < 255 ∧ n.toNat < r.length + 1 then [0] else []) ((n :: r).drop n.toNat)
theorem undoA_nil (f : Nat) (ah : Int) (acc : List Int) : undoA f ah acc [] = some acc := by cases f <;> rfl
/-- where undoA tells something, undo tells it -/
theorem undo_of {f : Nat} {ah : Int} {acc p w : List Int} (h : undoA f ah acc p = some w) : undo f acc p = some w := by
  induction f generalizing ah acc p with
  | zero => exact h
  | succ f ih =>
    cases p with
    | nil => exact h
    | cons n r =>
      simp only [undoA] at h
      simp only [undo]
      split at h
      · cases h
      · rename_i h1
        rw [if_neg h1]
        split at h
        · cases h
        · exact ih h
/-- a written run, behind it something -/
theorem undoA_run {f : Nat} {ah n : Int} {acc seg t : List Int} (hn : n = ((seg.length : Nat) : Int) + 1) (hl : seg.length ≤ 254) (hz : ¬ (n = 1 ∧ ah = 255 ∧ t = [])) :
    undoA (f + 1) ah acc (n :: (seg ++ t)) = undoA f n (acc ++ seg ++ if n < 255 ∧ t ≠ [] then [0] else []) t := by
  have en : n.toNat = seg.length + 1 := by omega
  have e1 : ¬ ((seg ++ t).length + 1 < n.toNat) := by rw [List.length_append, en]; omega
  have e2 : ¬ (n = 1 ∧ ah = 255 ∧ seg ++ t = []) := fun q => hz ⟨q.1, q.2.1, (List.append_eq_nil_iff.mp q.2.2).2⟩
  have e3 : (seg ++ t).take (n.toNat - 1) = seg := by rw [en, Nat.add_sub_cancel, List.take_left']; rfl
  have e4 : (n :: (seg ++ t)).drop n.toNat = t := by
    rw [en, List.drop_succ_cons, List.drop_left']
    rfl
  have e5 : (if n < 255 ∧ n.toNat < (seg ++ t).length + 1 then [(0 : Int)] else []) = if n < 255 ∧ t ≠ [] then [0] else [] := by
    rw [List.length_append, en]
    cases t with
    | nil => simp
    | cons x t => simp
  simp only [undoA]
  rw [if_neg e1, if_neg e2, e3, e4, e5]
theorem undoA_encS {last : Bool} {seg : List Int} {f : Nat} {ah : Int} {acc t : List Int} (ht : last = true ↔ t = []) (ha : seg = [] → last = true → ah ≠ 255) (hf : (encS last seg ++ t).length ≤ f) :
    ∃ f' ah', t.length ≤ f' ∧ (last = false → ah' ≠ 255) ∧ undoA f ah acc (encS last seg ++ t) = undoA f' ah' (acc ++ seg ++ if t = [] then [] else [0]) t := by
  by_cases h : 254 < seg.length ∨ (seg.length = 254 ∧ last = false)
  · have el : (seg.take 254).length = 254 := by rw [List.length_take]; omega
    rw [encS_full h] at hf ⊢
    cases f with
    | zero => simp at hf
    | succ f =>
      have e0 : (255 :: (seg.take 254 ++ encS last (seg.drop 254))) ++ t = 255 :: (seg.take 254 ++ (encS last (seg.drop 254) ++ t)) := by simp
      rw [e0] at hf ⊢
      rw [undoA_run (by rw [el]; rfl) (by rw [el]; exact Nat.le_refl _) (fun q => absurd q.1 (by decide))]
      rw [if_neg (fun q => absurd q.1 (by decide)), List.append_nil]
      have hf2 : (encS last (seg.drop 254) ++ t).length ≤ f := by
        rw [List.length_cons, List.length_append] at hf
        omega
      obtain ⟨f', ah', h1, h2, h3⟩ := undoA_encS (seg := seg.drop 254) (ah := 255) (acc := acc ++ seg.take 254) ht (fun e l => by
        have := congrArg List.length e
        rw [List.length_drop] at this
        rcases h with h | h
        · simp at this
          omega
        · rw [h.2] at l
          cases l) hf2
      refine ⟨f', ah', h1, h2, ?_⟩
      rw [h3, List.append_assoc acc, List.take_append_drop]
  · rw [encS_end h] at hf ⊢
    cases f with
    | zero => simp at hf
    | succ f =>
      have hl : seg.length ≤ 254 := by omega
      have e0 : ((((seg.length : Nat) : Int) + 1) :: seg) ++ t = (((seg.length : Nat) : Int) + 1) :: (seg ++ t) := rfl
      rw [e0] at hf ⊢
      have hz : ¬ (((seg.length : Nat) : Int) + 1 = 1 ∧ ah = 255 ∧ t = []) := fun q => ha (List.length_eq_zero_iff.mp (by omega)) (ht.mpr q.2.2) q.2.1
      rw [undoA_run rfl hl hz]
      have e6 : (if ((seg.length : Nat) : Int) + 1 < 255 ∧ t ≠ [] then [(0 : Int)] else []) = if t = [] then [] else [0] := by
        by_cases c : t = []
        · rw [if_pos c, if_neg fun q => q.2 c]
        · have l : last = false := by
            cases hq : last with
            | false => rfl
            | true => exact absurd (ht.mp hq) c
          have : ¬ seg.length = 254 := fun e => h (.inr ⟨e, l⟩)
          rw [if_neg c, if_pos ⟨by omega, c⟩]
      rw [e6]
      refine ⟨f, ((seg.length : Nat) : Int) + 1, ?_, fun l => ?_, rfl⟩
      · rw [List.length_cons, List.length_append] at hf
        omega
      · intro e
        exact h (.inr ⟨by omega, l⟩)
termination_by seg.length
decreasing_by
  rw [List.length_drop]
  omega
theorem undoA_enc {seg xs : List Int} {f : Nat} {ah : Int} {acc : List Int} (ha : ah ≠ 255) (hf : (enc seg xs).length ≤ f) : undoA f ah acc (enc seg xs) = some (acc ++ seg ++ xs) := by
  induction xs generalizing seg f ah acc with
  | nil =>
    simp only [enc] at hf ⊢
    have hf' : (encS true seg ++ []).length ≤ f := by rw [List.append_nil]; exact hf
    obtain ⟨f', ah', h1, h2, h3⟩ := undoA_encS (acc := acc) (t := []) (by simp) (fun _ _ => ha) hf'
    rw [List.append_nil] at h3
    rw [h3, undoA_nil]
    simp
  | cons b r ih =>
    by_cases h : b = 0
    · simp only [enc, if_pos h] at hf ⊢
      obtain ⟨f', ah', h1, h2, h3⟩ := undoA_encS (acc := acc) (t := enc [] r) (by
        constructor
        · intro q
          cases q
        · intro q
          exact absurd q (enc_ne _ _)) (fun _ q => by cases q) hf
      rw [h3, ih (h2 rfl) h1, if_neg (enc_ne _ _), h]
      simp
    · simp only [enc, if_neg h] at hf ⊢
      rw [ih ha hf]
      simp
theorem unrun_enc (xs : List Int) : unrun (enc [] xs) = some xs := by
  have h := undoA_enc (seg := []) (xs := xs) (ah := 0) (acc := []) (by decide) (Nat.le_refl _)
  have := undo_of h
  simpa [unrun] using this

/-! ### streams -/
def whole (p : List Int) : List Int := p ++ check p
def piece (p : List Int) : List Int := enc [] (whole p)
def strm (ps : List (List Int)) : List Int := (ps.map fun p => piece p ++ [0]).flatten
theorem whole_by {p : List Int} (h : By p) : By (whole p) := h.append (check_by p)
theorem whole_len (p : List Int) : (whole p).length = p.length + 4 := by
  unfold whole
  rw [List.length_append, check_length]
theorem piece_ps {p : List Int} (h : By p) : Ps (piece p) := enc_ps .nil (whole_by h)
theorem piece_ne (p : List Int) : piece p ≠ [] := enc_ne _ _
theorem piece_len (p : List Int) : (piece p).length ≤ 2 * p.length + 9 := by
  have := enc_len [] (whole p)
  rw [whole_len] at this
  have e : ([] : List Int).length = 0 := rfl
  unfold piece
  omega
theorem strm_append (ps qs : List (List Int)) : strm (ps ++ qs) = strm ps ++ strm qs := by simp [strm]
theorem strm_cons (p : List Int) (ps : List (List Int)) : strm (p :: ps) = piece p ++ 0 :: strm ps := by simp [strm]
theorem strm_one (p : List Int) : strm [p] = piece p ++ [0] := by simp [strm]
theorem strm_by {ps : List (List Int)} (h : ∀ p ∈ ps, By p) : By (strm ps) := by
  induction ps with
  | nil => exact .nil
  | cons p r ih =>
    rw [strm_cons]
    refine ((piece_ps (h p (List.mem_cons_self ..))).by).append (.cons (by decide) (by decide) (ih fun q hq => h q (List.mem_cons_of_mem _ hq)))
/-- a written part is told whole -/
theorem tell_piece (pl : Nat) (p : List Int) : tell pl (piece p) = .part pl p := by
  unfold tell piece
  rw [unrun_enc]
  have e1 : (whole p).length - 4 = p.length := by rw [whole_len]; omega
  have e2 : (whole p).take p.length = p := by unfold whole; rw [List.take_left']; rfl
  have e3 : (whole p).drop p.length = check p := by unfold whole; rw [List.drop_left']; rfl
  show (if 4 ≤ (whole p).length ∧ _ then _ else _) = _
  rw [e1, e2, e3, if_pos ⟨by rw [whole_len]; omega, rfl⟩]
theorem goes_piece (pl : Nat) {p : List Int} (h : By p) (r : List Int) : goes [] pl (piece p ++ 0 :: r) = (.part pl p :: (goes [] (pl + (piece p).length + 1) r).1, (goes [] (pl + (piece p).length + 1) r).2) := by
  rw [goes_zero (piece_ps h).nz, List.nil_append, if_neg (piece_ne p), tell_piece]
  rfl
theorem undoA_at {ns acc : List Int} {a k f : Nat} {ah : Int} (h : ns[a]? = some (k : Int)) (hk : 1 ≤ k) (hf : ns.length - a ≤ f) :
    ∃ f', ns.length - (a + k) ≤ f' ∧ undoA f ah acc (ns.drop a) = if ns.length < a + k then none else if k = 1 ∧ ah = 255 ∧ a + 1 = ns.length then none else
      undoA f' (k : Int) (acc ++ (ns.drop (a + 1)).take (k - 1) ++ if (k : Int) < 255 ∧ a + k < ns.length then [0] else []) (ns.drop (a + k)) := by
  have ha : a < ns.length := (List.getElem?_eq_some_iff.mp h).1
  have e : ns.drop a = (k : Int) :: ns.drop (a + 1) := by
    rw [List.drop_eq_getElem_cons ha]
    have := (List.getElem?_eq_some_iff.mp h).2
    rw [this]
  cases f with
  | zero => omega
  | succ f =>
    refine ⟨f, by omega, ?_⟩
    have e2 : ((k : Int) :: ns.drop (a + 1)).drop k = ns.drop (a + k) := by
      rw [← e, List.drop_drop]
    rw [e]
    simp only [undoA, Int.toNat_natCast]
    rw [e2, List.length_drop]
    by_cases c : ns.length < a + k
    · rw [if_pos c, if_pos (by omega)]
    · rw [if_neg c, if_neg (by omega)]
      have e4 : ((k : Int) = 1 ∧ ah = 255 ∧ ns.drop (a + 1) = []) ↔ (k = 1 ∧ ah = 255 ∧ a + 1 = ns.length) := by
        constructor
        · rintro ⟨h1, h2, h3⟩
          have := congrArg List.length h3
          rw [List.length_drop] at this
          simp at this
          exact ⟨by omega, h2, by omega⟩
        · rintro ⟨h1, h2, h3⟩
          exact ⟨by omega, h2, List.drop_of_length_le (by omega)⟩
      by_cases d2 : k = 1 ∧ ah = 255 ∧ a + 1 = ns.length
      · rw [if_pos d2, if_pos (e4.mpr d2)]
      · rw [if_neg d2, if_neg (fun q => d2 (e4.mp q))]
        have e3 : (if (k : Int) < 255 ∧ k < ns.length - (a + 1) + 1 then [(0 : Int)] else []) = if (k : Int) < 255 ∧ a + k < ns.length then [0] else [] := by
          by_cases d : (k : Int) < 255 ∧ a + k < ns.length
          · rw [if_pos d, if_pos ⟨d.1, by omega⟩]
          · rw [if_neg d, if_neg (fun q => d ⟨q.1, by omega⟩)]
        rw [e3]
theorem undoA_piece (p : List Int) : undoA (piece p).length 0 [] (piece p) = some (whole p) := by
  have h := undoA_enc (seg := []) (xs := whole p) (ah := 0) (acc := []) (by decide) (Nat.le_refl _)
  simpa [piece] using h
/-- cut at the zeros: the pieces that a zero ends, and what is left -/
def cutz : List Int → List Int → List (List Int) × List Int
  | pc, [] => ([], pc)
  | pc, b :: r => if b = 0 then (pc :: (cutz [] r).1, (cutz [] r).2) else cutz (pc ++ [b]) r
theorem cutz_zero {seg : List Int} (h : NZ seg) (pc r : List Int) : cutz pc (seg ++ 0 :: r) = ((pc ++ seg) :: (cutz [] r).1, (cutz [] r).2) := by
  induction seg generalizing pc with
  | nil => simp [cutz]
  | cons b t ih =>
    have hb : b ≠ 0 := h b (List.mem_cons_self ..)
    simp only [List.cons_append, cutz, if_neg hb]
    rw [ih fun c hc => h c (List.mem_cons_of_mem _ hc)]
    simp
theorem cutz_strm {ps : List (List Int)} (h : ∀ p ∈ ps, By p) : cutz [] (strm ps) = (ps.map piece, []) := by
  induction ps with
  | nil => rfl
  | cons p r ih =>
    rw [strm_cons, cutz_zero (piece_ps (h p (List.mem_cons_self ..))).nz, ih fun q hq => h q (List.mem_cons_of_mem _ hq)]
    rfl
end Sb
/-! TwR: a row walked, list or tuple; what writing streams promises. -/
namespace Tw
open PySem PySem.Spec PyProof.Rows L2 Sb
def ItR (K : PySem.W.Frag) (a : Addr) (b : Bool) : It := if b = true then Itt K a else Itl K a
def iRow (K : PySem.W.Frag) (tl : TE) : TI := fun σ H R => tl σ H fun x H1 => ∃ a xs, x = .ref a ∧ SqR K H1 a xs ∧ ∀ b, (b = true → SqT K H1 a xs) → (b = false → SqL K H1 a xs) → R (ItR K a b) H1
theorem pi_row {X : Cx} {tg l : Expr} {tl : TE} (he : PE X l tl) : PI X tg l (iRow X.K tl) := by
  refine ⟨fun pins s σ H R I h => thn (he.run pins s σ H _ I h) fun v s1 hh => ?_⟩
  obtain ⟨x, H1, I1, rx, a, xs, rfl, hr, q⟩ := hh
  cases rx
  have fp : ∀ b ∈ [s1.heap.objs.size], FpOk X pins H1 b := fun b hb => by
    have e : b = s1.heap.objs.size := by simpa using hb
    rw [e]
    exact I1.fpOk (Nat.le_refl _) (I1.hok.fresh (Nat.le_refl _))
  rcases hr with hr | hr
  · obtain ⟨its, _, pl, _⟩ := I1.list hr
    exact wpAny_pyIter_list pl.isList ⟨s1.heap.objs.size, [s1.heap.objs.size], _, Itl X.K a, H1, rfl, I1.kept (t' := s1.toks) fun b o e => Heap.get?_push_of_some _ e, turn_list a _, ⟨_, Heap.get?_push_size _ rfl, rfl, rfl⟩, fp, q false (fun z => nomatch z) fun _ => hr⟩
  · obtain ⟨its, _, pl, _⟩ := I1.tuple hr
    exact wpAny_pyIter_tuple (show s1.heap.IsTuple a its.toArray from pl) ⟨s1.heap.objs.size, [s1.heap.objs.size], _, Itt X.K a, H1, rfl, I1.kept (t' := s1.toks) fun b o e => Heap.get?_push_of_some _ e, turn_tuple a _, ⟨_, Heap.get?_push_size _ rfl, rfl, rfl⟩, fp, q true (fun _ => hr) fun z => nomatch z⟩
theorem walk_row {K : PySem.W.Frag} {a : Addr} {xs : List V} {b : Bool} : Walk (ItR K a b) xs.length (fun H => if b = true then SqT K H a xs else SqL K H a xs) (YAt xs) := by
  cases b with
  | true => exact walk_tup
  | false => exact walk_list
theorem SqR.star {K : PySem.W.Frag} {H : Hp} {a : Addr} {xs : List V} (h : Rw H a xs) : SqT K H a xs ∨ SqL K H a xs := h.elim (fun h => .inr (SqL.of h)) (fun h => .inl (SqT.of h))
/-- the runs of a whole -/
def spWz : Sp := fun vs H Q _ => ∃ (a : Addr) (xs : List Int), vs = [.ref a] ∧ H a = some (.lst (iV xs)) ∧ By xs ∧ xs.length ≤ 200000 ∧ ∀ (H' : Hp) (p : Addr), Same H H' → Nw H H' p (enc [] xs) → Q (.ref p) H'
/-- rows of bytes -/
def PartAt (H : Hp) (p : List Int) (v : V) : Prop := ∃ r, v = .ref r ∧ Rw H r (iV p) ∧ By p ∧ p.length ≤ 100000
theorem PartAt.same {H H' : Hp} {p : List Int} {v : V} (h : PartAt H p v) (s : Same H H') : PartAt H' p v := by
  obtain ⟨r, e, h1, h2, h3⟩ := h
  exact ⟨r, e, h1.same s, h2, h3⟩
def spStrm : Sp := fun vs H Q _ => ∃ (a : Addr) (ps : List (List Int)) (ws : List V), vs = [.ref a] ∧ Rw H a ws ∧ Paired (PartAt H) ps ws ∧ (strm ps).length ≤ big ∧ ∀ (H' : Hp) (r : Addr), Same H H' → Nw H H' r (strm ps) → Q (.ref r) H'
theorem strm_take_len (ps : List (List Int)) (k : Nat) : (strm (ps.take k)).length ≤ (strm ps).length := by
  have e := congrArg List.length (strm_append (ps.take k) (ps.drop k))
  rw [List.take_append_drop, List.length_append] at e
  omega
theorem SqT.at_ {K : PySem.W.Frag} {H H' : Hp} {a : Addr} {xs : List V} (k : ∀ o, H a = some o → H' a = some o) (h : SqT K H a xs) : SqT K H' a xs := by
  rcases h with (h | ⟨o, h⟩) | h
  · exact .inl (.inl (k _ h))
  · exact .inl (.inr ⟨o, k _ h⟩)
  · exact .inr h
theorem SqL.at_ {K : PySem.W.Frag} {H H' : Hp} {a : Addr} {xs : List V} (k : ∀ o, H a = some o → H' a = some o) (h : SqL K H a xs) : SqL K H' a xs := by
  rcases h with (h | ⟨o, h⟩) | h
  · exact .inl (.inl (k _ h))
  · exact .inl (.inr ⟨o, k _ h⟩)
  · exact .inr h
/-- what stands at a row's place stays while the row stays -/
theorem Rw.keeps {H H0 H' : Hp} {a : Addr} {xs : List V} (h : Rw H a xs) (s : Same H H0) (s' : Same H H') : ∀ o, H0 a = some o → H' a = some o := fun o e => by
  rcases h with h | h
  · rw [s _ _ h] at e
    rw [← e]
    exact s' _ _ h
  · rw [s _ _ h] at e
    rw [← e]
    exact s' _ _ h
end Tw
/-! TwX: a list grows by a row; slices of rows. -/
namespace Tw
open PySem PySem.Spec PyProof.Rows L2 Sb
open AutoSeq1 (wpAny_loadPart')
section
theorem ext_tup (l : Addr) (ia : Array Value) (n : Nat) (b : Addr) (ib : Array Value) (m : Nat) (dd : Option Addr) (ss : Array (Option Value)) (h0 : ¬(!ia.isEmpty && Builtin.List.listTooLong (ia.size + ib.size)) = true) (h1 : ia.size ≤ sizeLine) (h2 : ia.size + ib.size ≤ sizeLine + 1) :
    Meets (Builtin.«list.extend» ⟨[.ref l, .ref b], []⟩) (fun _ R z => z.heap.get? l = some { cls := .type "list", dict := none, data := .seq ia n, slots := #[] } ∧ z.heap.get? b = some { cls := .type "tuple", dict := dd, data := .seq ib m, slots := ss } ∧
      R (.ok (.ret Value.none)) { z with heap := z.heap.update l (Obj.mapSeq fun x => x ++ ib), toks := z.toks }) := by
  refine .of_wp fun pg wo Ar R z hz => ?_
  obtain ⟨hp, g, d, tk, os⟩ := z
  obtain ⟨hl, hb, h⟩ := hz
  have k1 := AutoSeq1.idx_int
  have k2 := AutoSeq1.sub_tuple_tuple
  have k3 := AutoSeq1.sub_list_list
  have k4 := AutoSeq1.sub_tuple_list
  have k5 := AutoSeq1.sub_list_tuple
  have k6 : (ia ++ ib).size ≤ sizeLine + 1 := by
    rw [Array.size_append]
    exact h2
  wp_walk using (PySem.wpAny_updateSeq hl rfl (hz := h1) (_hz' := k6)), wpAny_loadPart' hl, wpAny_loadPart' hb
  exact ⟨_, rfl, h⟩
end
def rExtR : V → List V → Hp → VK → Prop := fun x vs H Q => ∃ l b xs zs, x = .ref l ∧ vs = [.ref b] ∧ H l = some (.lst xs) ∧ Rw H b zs ∧ xs.length + zs.length ≤ sizeLine ∧ Q .non (upd H l (.lst (xs ++ zs)))
theorem mt_extR {X : Cx} : MtM X "list.extend" rExtR := by
  rintro pins s σ H x vs v us Q I rx rv ⟨l, b, xs, zs, rfl, rfl, hH, hB, hz, q⟩
  rcases hB with hB | hB
  · exact mt_extend pins s σ H (.ref l) [.ref b] v us Q I rx rv ⟨l, b, xs, zs, rfl, rfl, hH, hB, hz, q⟩
  · cases rx
    obtain ⟨u, rfl, ru⟩ := rv.one
    cases ru
    obtain ⟨z, its, n, r, hl, e⟩ := I.lstM hH
    obtain ⟨its2, r2, ⟨⟨c2, d2, dt2, sl2⟩, e2, hc2, m, hd2⟩, _⟩ := I.tuple (SqT.of (K := X.K) hB)
    replace hc2 : c2 = .type "tuple" := hc2
    replace hd2 : dt2 = .seq its2.toArray m := hd2
    subst hc2 hd2
    have l2 := r2.length
    have sz : its.toArray.size + its2.toArray.size ≤ sizeLine := by
      rw [List.size_toArray, List.size_toArray]
      omega
    have lg : ¬ (!its.toArray.isEmpty && Builtin.List.listTooLong (its.toArray.size + its2.toArray.size)) = true := by
      rw [notLongL sz, Bool.and_false]
      exact Bool.false_ne_true
    refine call_meets F.slot_list_extend ⟨_, e, rfl⟩ F.entry_list_extend (F.args_list_extend_2 _ _) (ext_tup l its.toArray n b its2.toArray m d2 sl2 lg (by rw [List.size_toArray]; omega) (by omega)) ⟨e, e2, .non, _, I.lset (its' := its ++ its2) hH e (by simp) (r.append r2) ?_, rfl, q⟩
    rw [List.length_append]
    omega
/-- a slice of a row is a row -/
def rSlR : V → Option Int → Option Int → Hp → VK → Prop := fun x lo hi H Q => ∃ a xs, x = .ref a ∧ Rw H a xs ∧ ∀ (H' : Hp) (t : Addr), Same H H' → Rw H' t (cutV xs lo hi) → Q (.ref t) H'
theorem sl_row {X : Cx} : SlR X rSlR := by
  intro pins s σ H x v vl vu lo hi sl Q I rx hs pl pu h
  refine SlR.or (sl_list (X := X)) (sl_tupA (X := X)) pins s σ H x v vl vu lo hi sl Q I rx hs pl pu ?_
  obtain ⟨a, xs, rfl, hr, q⟩ := h
  rcases hr with hr | hr
  · exact .inl ⟨a, xs, rfl, SqL.of hr, fun p hp => q _ p (same_upd hp) (.inl upd_same)⟩
  · refine .inr ⟨a, xs, rfl, SqT.of hr, fun e => q H a (Same.refl _) ?_, fun _ p hp => q _ p (same_upd hp) (.inr upd_same)⟩
    have c : cutV xs lo hi = xs := by
      unfold cutV
      rw [e.1, e.2, List.drop_zero, Nat.sub_zero, List.take_length]
    rw [c]
    exact .inr hr
def spFFeedR (C : Addr) : Sp := fun vs H Q _ => ∃ (p d l : Addr) (rest xs : List Int) (pl : Nat), vs = [.ref p, .ref d] ∧ FdAt C H p l rest pl ∧ Rw H d (iV xs) ∧ d ≠ l ∧ By rest ∧ NZ rest ∧ By xs ∧ rest.length + xs.length ≤ big ∧
  ∀ (H' : Hp) (l' r : Addr) (ws : List V), But p l H H' → FdAt C H' p l' (goes rest pl xs).2.1 (goes rest pl xs).2.2 → (l' = l ∨ H l' = none) → H r = none → r ≠ l' → H' r = some (.lst ws) → Tls (upd (upd H r (.lst [])) l' (.lst [])) H' (goes rest pl xs).1 ws → Q (.ref r) H'
def spUnstR : Sp := fun vs H Q _ => ∃ (d : Addr) (xs : List Int), vs = [.ref d] ∧ Rw H d (iV xs) ∧ By xs ∧ xs.length ≤ big ∧ ∀ (H' : Hp) (r : Addr) (ws : List V), Same H H' → H r = none → H' r = some (.lst ws) → Tls (upd H r (.lst [])) H' (unstr xs) ws → Q (.ref r) H'
theorem Rw.ne {H : Hp} {a p : Addr} {xs : List V} {o : HO} (h : Rw H a xs) (e : H p = some o) (n1 : ∀ ys, o ≠ .lst ys) (n2 : ∀ ys, o ≠ .tup ys) : a ≠ p := fun w => by
  rcases h with h | h
  · rw [w, e] at h
    exact n1 _ (Option.some.inj h)
  · rw [w, e] at h
    exact n2 _ (Option.some.inj h)
theorem Rw.at_ {H H' : Hp} {a : Addr} {xs : List V} (h : Rw H a xs) (k : ∀ o, H a = some o → H' a = some o) : Rw H' a xs := h.elim (fun h => .inl (k _ h)) (fun h => .inr (k _ h))
theorem Rw.some {H : Hp} {a : Addr} {xs : List V} (h : Rw H a xs) (e : H a = none) : False := by
  rcases h with h | h
  · rw [h] at e
    cases e
  · rw [h] at e
    cases e
end Tw
/-! TwE: what is no bytes; the error that is raised of it. -/
namespace Tw
open PySem PySem.Spec PyProof.Rows L2 Sb
/-- a thing out of a row: is it a byte? -/
inductive ElT (H : Hp) : V → Bool → Prop
  | int (n : Int) : ElT H (.int n) (decide (0 ≤ n) && decide (n ≤ 255))
  | bl (c : Bool) : ElT H (.bl c) false
  | non : ElT H .non false
  | str (s : Str) : ElT H (.str s) false
  | row {a : Addr} {xs : List V} : Rw H a xs → ElT H (.ref a) false
theorem ElT.same {H H' : Hp} {x : V} {b : Bool} (h : ElT H x b) (s : Same H H') : ElT H' x b := by
  cases h with
  | int n => exact .int n
  | bl c => exact .bl c
  | non => exact .non
  | str z => exact .str z
  | row h => exact .row (h.same s)
/-- a thing: is it a row of bytes? -/
inductive ByT (H : Hp) : V → Bool → Prop
  | row {a : Addr} {xs : List V} {bs : List Bool} : Rw H a xs → Paired (ElT H) xs bs → xs.length ≤ big → ByT H (.ref a) (bs.all id)
  | int (n : Int) : ByT H (.int n) false
  | bl (c : Bool) : ByT H (.bl c) false
  | non : ByT H .non false
  | str (s : Str) : ByT H (.str s) false
theorem ByT.same {H H' : Hp} {x : V} {b : Bool} (h : ByT H x b) (s : Same H H') : ByT H' x b := by
  cases h with
  | row h p l => exact .row (h.same s) (pd_mono (fun _ _ q => q.same s) p) l
  | int n => exact .int n
  | bl c => exact .bl c
  | non => exact .non
  | str z => exact .str z
def spBytesG : Sp := fun vs H Q _ => ∃ (v : V) (b : Bool), vs = [v] ∧ ByT H v b ∧ ∀ H', Same H H' → Q (.bl b) H'
/-- the error of the class at C, told why -/
def spRefuseX (C : Addr) : Sp := fun vs H Q E => ∃ (v : V) (b : Bool), vs = [v] ∧ ByT H v b ∧ (b = true → ∀ H', Same H H' → Q .non H') ∧
  (b = false → ∀ (H' : Hp) (d : Addr), Same H H' → H d = none → H' d = some (.xd [(("why" : Str), .str "wire")]) → E (.ref C) (some d) H')
def spNbInit (C : Addr) : Sp := fun vs H Q _ => ∃ (a : Addr) (y : V), vs = [.ref a, y] ∧ H a = some (exo a C none) ∧ ∀ dx, H dx = none → dx ≠ a → Q .non (upd (upd H dx (exd dx [(("why" : Str), y)])) a (exo a C (some dx)))
/-- what the top says of the error's class -/
structure NbC (K : PySem.W.Frag) (mg : Str → Option Value) (x : Str) (C fI : Addr) : Prop where
  oex : OexC K C
  g : mg x = some (.ref C)
  iC : PySem.W.findIn K (.ref C) "__init__" = some (some (.ref fI))
  tI : PySem.W.typeIn K (.ref fI) = some (.type "function")
  no : PySem.W.findIn K (.ref C) "why" = some none
end Tw
namespace K55
open PySem PySem.Spec PyProof.Rows L2 Tw Sb
section
variable {P : Program} {w : World} {K : PySem.W.Frag} {mg : Str → Option Value} {base : Heap}
theorem pd_atR {α β : Type} {F : α → β → Prop} : ∀ {xs : List α} {ys : List β} {i : Nat} {x : α}, Paired F xs ys → xs[i]? = some x → ∃ y, ys[i]? = some y ∧ F x y
  | _, _, 0, _, .cons h _, e => ⟨_, rfl, by cases e; exact h⟩
  | _, _, i + 1, _, .cons _ t, e => pd_atR (i := i) t e
theorem elT_whole {H : Hp} {x : V} {b : Bool} (h : ElT H x b) : ∃ (t : Value) (b1 b2 : Bool), TyX K H x t ∧ PySem.W.kitOne K t (.type "int") = some b1 ∧ (b1 = true → PySem.W.kitOne K t (.type "bool") = some b2) ∧
    ((∃ n, x = .int n ∧ b1 = true ∧ b2 = false ∧ b = (decide (0 ≤ n) && decide (n ≤ 255))) ∨ (b = false ∧ (b1 && !b2) = false)) := by
  cases h with
  | int n => exact ⟨.type "int", true, false, .base (.int n), kit_ty (by decide +kernel), fun _ => kit_ty (by decide +kernel), .inl ⟨n, rfl, rfl, rfl, rfl⟩⟩
  | bl c => exact ⟨.type "bool", true, true, .base (.bl c), kit_ty (by decide +kernel), fun _ => kit_ty (by decide +kernel), .inr ⟨rfl, rfl⟩⟩
  | non => exact ⟨.type "NoneType", false, false, .base .non, kit_ty (by decide +kernel), (fun z => nomatch z), .inr ⟨rfl, rfl⟩⟩
  | str s => exact ⟨.type "str", false, false, .base (.str s), kit_ty (by decide +kernel), (fun z => nomatch z), .inr ⟨rfl, rfl⟩⟩
  | row h =>
    rcases h with h | h
    · exact ⟨.type "list", false, false, .base (.lst h), kit_ty (by decide +kernel), (fun z => nomatch z), .inr ⟨rfl, rfl⟩⟩
    · exact ⟨.type "tuple", false, false, .base (.tup h), kit_ty (by decide +kernel), (fun z => nomatch z), .inr ⟨rfl, rfl⟩⟩
theorem notRow {t : String} (h1 : PySem.W.kitOne K (.type t) (.type "list") = some false) (h2 : PySem.W.kitOne K (.type t) (.type "tuple") = some false) : PySem.W.kitAny K (.type t) [.type "list", .type "tuple"] = some false :=
  kitAny_cons (b := false) h1 (fun _ => kitAny_cons (b := false) h2 (fun _ => rfl) fun z => nomatch z) fun z => nomatch z
theorem ok_is_bytesG {f : Addr} {fd : FuncData} (F : Fun K "is_bytes" "is_bytes" s_is_bytes f fd) (T : Bt mg) (g_LAST_BYTE : Gi mg "LAST_BYTE" 255) (c_is_row : Cal P w K mg base 1 "is_row" ["thing"] (spRow K)) (c_is_whole : Cal P w K mg base 1 "is_whole" ["thing"] (spWhole K)) :
    FnOk P w K mg base CX0 2 f fd ["thing"] spBytesG := by
  refine F.ok sc_is_bytes (fun vs H Q E h => ?_) (fun cdv A outer s H vs Q E hr h => ?_)
  · obtain ⟨v, b, rfl, _⟩ := h
    rfl
  · obtain ⟨v, b, rfl, hv, q⟩ := h
    refine ⟨_, (pss_one (ps_ret (pe_and (pe_cal c_is_row hr (by decide) (by rfl) (pa_cons (pv 0) pa_nil)) (pe_one (pe_callB (cr_all rfl) (by rfl) T.n_all (by decide +kernel) (pa_cons (pe_lc (own := [("part", 1)]) rfl sc_is_bytes.nd (pi_row (pv 0)) (blkOk_by (N := N_is_bytes) (sc := defScope s_is_bytes) (by decide +kernel)) (fun _ _ _ _ _ => (pg_name (i := 1) sc_is_bytes.nd rfl (.inl rfl))) (fun _ _ _ _ _ => pts_nil) (fun _ _ _ _ _ => (pe_and (pe_cal c_is_whole hr (by decide) (by rfl) (pa_cons (pv 1) pa_nil)) (pe_one (pe_chain op_le op_le pe_int (pv 1) (C8.pe_gc rfl g_LAST_BYTE)))))) pa_nil)))))), ?_⟩
    cases hv with
    | int n => exact ⟨_, rfl, .int n, .type "int", false, rfl, .base (.int n), notRow (kit_ty (by decide +kernel)) (kit_ty (by decide +kernel)), fun H1 s1 => ⟨false, rfl, iteF (q _ s1)⟩⟩
    | bl c => exact ⟨_, rfl, .bl c, .type "bool", false, rfl, .base (.bl c), notRow (kit_ty (by decide +kernel)) (kit_ty (by decide +kernel)), fun H1 s1 => ⟨false, rfl, iteF (q _ s1)⟩⟩
    | non => exact ⟨_, rfl, .non, .type "NoneType", false, rfl, .base .non, notRow (kit_ty (by decide +kernel)) (kit_ty (by decide +kernel)), fun H1 s1 => ⟨false, rfl, iteF (q _ s1)⟩⟩
    | str z => exact ⟨_, rfl, .str z, .type "str", false, rfl, .base (.str z), notRow (kit_ty (by decide +kernel)) (kit_ty (by decide +kernel)), fun H1 s1 => ⟨false, rfl, iteF (q _ s1)⟩⟩
    | @row a xs bs hR hp hl =>
      obtain ⟨t, hT, hk⟩ := hR.ty (K := K)
      refine ⟨_, rfl, .ref a, t, true, rfl, hT, hk, fun H1 s1 => ⟨true, rfl, iteT ?_⟩⟩
      have hR1 := hR.same s1
      have hb0 : Same H1 H1 := Same.refl _
      refine ⟨_, rfl, a, xs, rfl, hR1.sq, fun bb hb1 hb2 D hD => lc_it (walk_row (K := K) (a := a) (xs := xs) (b := bb)) (fun i H' => Same H1 H' ∧ H' D = some (.lst ((bs.take i).map V.bl))) ⟨same_upd hD, upd_same⟩ (fun i H' _ h => ?_) ?_ ?_⟩
      · cases bb with
        | true => exact SqT.at_ (hR1.keeps hb0 h.1) (hb1 rfl)
        | false => exact SqL.at_ (hR1.keeps hb0 h.1) (hb2 rfl)
      · rintro i x H2 H3 hi ⟨hs, hD2⟩ ⟨rfl, hx⟩
        obtain ⟨b, hbi, hxb⟩ : ∃ b, bs[i]? = some b ∧ ElT H x b := by
          exact pd_atR hp hx
        have e1 : bs.take (i + 1) = bs.take i ++ [b] := by rw [List.take_add_one, hbi]; rfl
        have turn : ∃ acc, H3 D = some (HO.lst acc) ∧ acc.length < sizeLine ∧ (Same H1 (upd H3 D (.lst (acc ++ [V.bl b]))) ∧ (upd H3 D (.lst (acc ++ [V.bl b]))) D = some (.lst ((bs.take (i + 1)).map V.bl))) := by
          refine ⟨_, hD2, ?_, fun c o e => ?_, ?_⟩
          · rw [List.length_map, List.length_take]
            exact Nat.lt_of_le_of_lt (Nat.min_le_left _ _) (Nat.lt_of_lt_of_le hi (Nat.le_trans hl (by decide)))
          · rw [upd_ne (ne_of_none e hD)]
            exact hs c o e
          · rw [upd_same, e1, List.map_append]
            rfl
        obtain ⟨t2, b1, b2, hT2, hk1, hk2, hor⟩ := elT_whole (K := K) ((hxb.same s1).same hs)
        refine ⟨rfl, _, rfl, x, t2, b1, b2, rfl, hT2, hk1, hk2, (b1 && !b2), rfl, ?_⟩
        rcases hor with ⟨n, rfl, rfl, rfl, rfl⟩ | ⟨rfl, e⟩
        · refine iteT ⟨_, rfl, 0, n, rfl, rfl, _, rfl, ?_⟩
          by_cases h0 : (0 : Int) ≤ n
          · rw [decide_eq_true h0] at turn ⊢
            exact iteT ⟨n, 255, rfl, rfl, turn⟩
          · rw [decide_eq_false h0] at turn ⊢
            exact iteF turn
        · rw [e]
          exact iteF turn
      · rintro H2 ⟨hs, hD2⟩
        rw [List.take_of_length_le (by rw [← pd_len hp]; exact Nat.le_refl _)] at hD2
        exact ⟨D, bs, rfl, .inl (.inl hD2), q _ (s1.trans hs)⟩
theorem ok_nbinit {x : Str} {C f : Addr} {fd : FuncData} (F : Fun K "__init__" "NoBytes.__init__" s_NoBytes___init__ f fd) (N : NbC K mg x C f) : FnOk P w K mg base CX0 1 f fd ["self", "why"] (spNbInit C) := by
  refine F.ok sc_NoBytes___init__ (fun vs H Q E h => ?_) (fun cdv A outer s H vs Q E hr h => ?_)
  · obtain ⟨a, y, rfl, _⟩ := h
    rfl
  · obtain ⟨a, y, rfl, hA, q⟩ := h
    refine ⟨_, (pss_one (ps_ost (pv 0) (pv 1))), ?_⟩
    exact ⟨_, rfl, _, rfl, a, C, rfl, N.oex, N.no, .inl ⟨hA, fun dx h1 h2 => q dx h1 h2⟩⟩
theorem ok_refuseX {C fI : Addr} {f : Addr} {fd fd1 : FuncData} (F : Fun K "_refuse_others" "_refuse_others" s__refuse_others f fd) (T : Bt mg) (N : NbC K mg "NoBytes" C fI) (F1 : FnOk P w K mg base CX0 1 fI fd1 ["self", "why"] (spNbInit C)) (b1 : Binds K fd1 ["self", "why"] []) (c_is_bytes : Cal P w K mg base 2 "is_bytes" ["thing"] spBytesG) :
    FnOk P w K mg base (L2.CX P w) 3 f fd ["data"] (spRefuseX C) := by
  refine F.okX sc__refuse_others (fun vs H Q E h => ?_) (fun cdv A outer s H vs Q E hr h => ?_)
  · obtain ⟨v, b, rfl, _⟩ := h
    rfl
  · obtain ⟨v, b, rfl, hv, q1, q2⟩ := h
    refine ⟨_, (pss_one (ps_if (pt_not (pt_val (pe_cal c_is_bytes hr (by decide) (by rfl) (pa_cons (pv 0) pa_nil))))
        (pss_one (ps_raise rfl (takes_of rfl rfl rfl rfl) (pmk_oex N.oex N.iC N.tI F1 hr b1 .nil pass0 (by rfl) N.g (pa_cons pe_str pa_nil))))
        pss_nil)), ?_⟩
    refine ⟨_, rfl, v, b, rfl, hv, fun H1 s1 => ⟨b, rfl, ?_⟩⟩
    cases b with
    | true => exact iteF (q1 rfl _ s1)
    | false =>
      refine iteT ⟨by decide, fun a ha => ⟨a, .str "wire", rfl, upd_same, fun dx h1 h2 => ⟨rfl, dx, [(("why" : Str), .str "wire")], upd_same, by rw [upd_ne h2, upd_same], ?_, ?_⟩⟩⟩
      · rw [upd_ne h2] at h1
        exact h1
      · have h10 : H1 dx = none := by
          rw [upd_ne h2] at h1
          exact h1
        refine q2 rfl _ dx (fun c o e => ?_) (s1.free h10) upd_same
        have n1 : c ≠ dx := ne_of_none (s1 c o e) h10
        have n2 : c ≠ a := ne_of_none (s1 c o e) ha
        rw [upd_ne n1, del_ne n2, upd_ne n2, upd_ne n1, upd_ne n2]
        exact s1 c o e
end
end K55
/-! TwF: calls that may raise, inside of a try or out of a def; isinstance of a caught error that has fields. -/
namespace Tw
open PySem PySem.Spec PyProof.Rows L2 Sb
section
variable {X : Cx} {CX : CXT} {k j : Nat} {f C : Addr} {fd : FuncData} {ps : List Str} {sp : Sp} {E : L2.St → XK} {x m : Str} {p pos apos : Pos} {e o : Expr} {es : List Expr} {to : TE} {t : TA}
/-- the reading of o.m(..), what it lets out told at the slots -/
def tMethA (C : Addr) (m : Str) (sp : Sp) (E : L2.St → XK) (to : TE) (t : TA) : TE := fun σ H Q => to σ H fun x H1 => ∃ a dx fs, x = .ref a ∧ H1 a = some (.ins C dx fs) ∧ fs.lookup m = none ∧ t σ H1 fun vs H2 => sp (x :: vs) H2 Q (E σ)
theorem pe_methA {pl : Sem Bool} (ho : PE X o to) (c : Cls X.K C) (hm : Meth X.K C m f) (F : FnOk X.prog X.w X.K X.mg X.base CX k f fd ps sp) (hr : Room k X.A) (hb : Binds X.K fd ps []) (hx : ∀ σ, PassesAt CX X σ (E σ)) (ha : PA X (e :: es) t)
    (hst : starEach (e :: es) X.env = (false, eval e X.env) :: starEach es X.env := by rfl) (hpl : (backTo pos (starEach es X.env)).any (·.1) = false := by rfl)
    (ht : eval (.Call (.Attribute o m apos) (e :: es) [] pos) X.env = (do
      let ov ← eval o X.env
      standAt apos.atName
      let (f, first) ← holding [ov] (getMethod ov m pl)
      callWith pos f first (backTo pos (starEach (e :: es) X.env)) (backToKw pos (keywordEach [] X.env))) := by rfl) :
    PE X (.Call (.Attribute o m apos) (e :: es) [] pos) (tMethA C m sp E to t) := ⟨fun pins s σ H Q I h =>
  PySem.W.methodCall_KW (pl := pl) (thn (ho.run pins s σ H _ I h) fun u s1 z => by
    obtain ⟨y, H1, I1, ry, a, dx, fs, rfl, ea, l, q⟩ := z
    obtain rfl : u = Value.ref a := ry
    exact getmeth_ok I1 ea c hm l (PySem.W.callWith_K (first := [.ref a]) (h₀ := X.base) I.ok.mod.kin hm.kp (thn (ha.run pos pins s1 σ H1 _ I1 q) fun us s2 z2 => by
      obtain ⟨vs, H2, I2, r, q2⟩ := z2
      exact ⟨I2.kIn, run_fnS (us := .ref a :: us) (vs := .ref a :: vs) F hr hb (hx σ) I2 (.cons rfl r) q2⟩) hst hpl)) ht⟩
/-- a def of the module that may raise -/
structure CalX (P : Program) (w : World) (K : PySem.W.Frag) (mg : Str → Option Value) (base : Heap) (k : Nat) (x : Str) (ps : List Str) (sp : Sp) : Prop where
  ex : ∃ (f : Addr) (fd : FuncData), FnOk P w K mg base (L2.CX P w) k f fd ps sp ∧ mg x = some (.ref f) ∧ PySem.W.keepIn K (.ref f) = true ∧ Binds K fd ps []
theorem pe_calX {W : WX} (c : CalX X.prog X.w X.K X.mg X.base k x ps sp) (hr : Room j X.A) (hk : k ≤ j) (hg : Gl X x) (tk : Takes X W) (ha : PA X (e :: es) t)
    (hdb : (x == ("__debug__" : Str)) = false := by decide) (he : starEach (e :: es) X.env = (false, eval e X.env) :: starEach es X.env := by rfl) (hpl : (backTo pos (starEach es X.env)).any (·.1) = false := by rfl) :
    PE X (.Call (.Name x p) (e :: es) [] pos) (tCallS sp (WE W) t) := by
  obtain ⟨f, fd, F, hm, kp, b⟩ := c.ex
  exact pe_callS F (hr.mono hk) hg hm kp b (fun σ => passAt tk σ) ha hdb he hpl
theorem calX_mk {P : Program} {w : World} {K : PySem.W.Frag} {mg : Str → Option Value} {base h : Heap} {st : Stmt} (D : DefIn K x st) (X : K.In h) (G : h.Ns mainGlobals mg)
    (b : ∀ (kV doc pm : Value) (an : Option Addr) (cdv ct : Value) (us : List Value), us.length = ps.length → bindArgs (PySem.W.fnOf x x (defArgs st) (defBody st) (defScope st) .none kV doc pm an cdv ct) ⟨us, []⟩ = pure (ps.zip us))
    (ok : ∀ (f : Addr) (fd : FuncData), Fun K x x st f fd → FnOk P w K mg base (L2.CX P w) k f fd ps sp) : CalX P w K mg base k x ps sp := by
  obtain ⟨f, oc, od, an, osl, kV, dc, pm, cd, ct, a, l, c, kp⟩ := D
  have F := fun_mk (st := st) l c kp
  exact ⟨f, _, ok f _ F, PySem.W.mg_of X G a, kp, F.binds b⟩
/-- a method that may raise -/
structure MCalX (P : Program) (w : World) (K : PySem.W.Frag) (mg : Str → Option Value) (base : Heap) (C : Addr) (k : Nat) (m : Str) (ps : List Str) (sp : Sp) : Prop where
  ex : ∃ (f : Addr) (fd : FuncData), Meth K C m f ∧ FnOk P w K mg base (L2.CX P w) k f fd ps sp ∧ Binds K fd ps []
theorem mcalX_mk {P : Program} {w : World} {K : PySem.W.Frag} {mg : Str → Option Value} {base : Heap} {q : Str} {st : Stmt} (D : MethIn K C m q st) (b : ∀ (kV doc pm : Value) (an : Option Addr) (cdv ct : Value) (us : List Value), us.length = ps.length → bindArgs (PySem.W.fnOf m q (defArgs st) (defBody st) (defScope st) .none kV doc pm an cdv ct) ⟨us, []⟩ = pure (ps.zip us))
    (ok : ∀ (f : Addr) (fd : FuncData), Fun K m q st f fd → FnOk P w K mg base (L2.CX P w) k f fd ps sp) : MCalX P w K mg base C k m ps sp := by
  obtain ⟨f, oc, od, an, osl, kV, dc, pm, cd, ct, a, i, l, c, kp⟩ := D
  have F := fun_mk (st := st) l c kp
  exact ⟨f, _, ⟨a, i, kp⟩, ok f _ F, F.binds b⟩
theorem pe_mcalX {W : WX} {pl : Sem Bool} (M : MCalX X.prog X.w X.K X.mg X.base C k m ps sp) (c : Cls X.K C) (hr : Room j X.A) (hk : k ≤ j) (tk : Takes X W) (ho : PE X o to) (ha : PA X (e :: es) t)
    (hst : starEach (e :: es) X.env = (false, eval e X.env) :: starEach es X.env := by rfl) (hpl : (backTo pos (starEach es X.env)).any (·.1) = false := by rfl)
    (ht : eval (.Call (.Attribute o m apos) (e :: es) [] pos) X.env = (do
      let ov ← eval o X.env
      standAt apos.atName
      let (f, first) ← holding [ov] (getMethod ov m pl)
      callWith pos f first (backTo pos (starEach (e :: es) X.env)) (backToKw pos (keywordEach [] X.env))) := by rfl) : PE X (.Call (.Attribute o m apos) (e :: es) [] pos) (tMethA C m sp (WE W) to t) := by
  obtain ⟨f, fd, hm, F, b⟩ := M.ex
  exact pe_methA ho c hm F (hr.mono hk) b (fun σ => passAt tk σ) ha hst hpl ht
end
/-- isinstance(e, c), e the error that the suite holds: of the class at D, its fields in a dict -/
def rIsX (K : PySem.W.Frag) (D a : Addr) (cls : Value) (d : Option Addr) : List V → Hp → VK → Prop := fun xs H Q => ∃ (c : V) (cv : Value) (b : Bool) (dd : Addr) (fs : List (Str × V)), xs = [.ref a, c] ∧ cls = .ref D ∧ d = some dd ∧ H dd = some (.xd fs) ∧ (∀ u, RelV c u → u = cv) ∧ PySem.W.kitOne K (.ref D) cv = some b ∧ Q (.bl b) H
theorem call_isX {X : Cx} {a D : Addr} {oe : Obj} {cls : Value} {d : Option Addr} {pn : List (Addr × Obj)} (C : ExcC X.K D) (hz : Zc cls d oe) (hf : ∃ vs, oe.data = .fields vs) : CallR (X.suite a ((a, oe) :: pn)) (.builtin "isinstance") (rIsX X.K D a cls d) := by
  rintro pins s σ H xs us Q I r ⟨c, cv, b, dd, fs, rfl, rfl, rfl, hdd, hcv, e, q⟩
  obtain ⟨u1, u2, rfl, rx, rt⟩ : ∃ u1 u2, us = [u1, u2] ∧ RelV (.ref a) u1 ∧ RelV c u2 := by
    cases r with
    | cons rx rr =>
      cases rr with
      | cons rt rr =>
        cases rr
        exact ⟨_, _, rfl, rx, rt⟩
  cases rx
  obtain rfl := hcv _ rt
  have at_ : s.heap.get? a = some oe := (I.pin (a, oe) (List.mem_append_left _ List.mem_cons_self)).1
  have hx : ObjOk X.prog X.w H s.heap dd (.xd fs) := I.hok dd _ hdd
  obtain ⟨mA, hns, _⟩ := hx
  obtain ⟨od, ho, _⟩ := lookIn_ns hns
  obtain ⟨vs, hv⟩ := hf
  have J : PySem.W.InstAt s.heap a oe D (some od) := ⟨at_, hz.1, by unfold PySem.W.notCls; rw [hv] <;> rfl, by rw [hz.2]; exact ho⟩
  have hcl : (PySem.W.clsIn X.K D).isSome = true := by
    obtain ⟨cd, hc, _⟩ := PySem.W.any_some C.hd
    rw [hc]
    rfl
  exact PySem.W.kia_one (PySem.W.kitx_exc hcl C.hg C.hk C.hs C.ha C.hn C.ht C.hm) I.kIn J e (fun z => nomatch z) fun tk => ⟨.bl b, H, I.kept (t' := tk) fun _ _ z => z, rfl, q⟩
end Tw
namespace Tw
open PySem PySem.Spec PyProof.Rows L2 Sb
theorem oexC_mk {K : PySem.W.Frag} {C : Addr} {nm q : Str} {N : Addr} {bs bm : List Value} {sn : List Str} {sub : List Value} {ab : Bool} {col : Option Bool} {dd : Option Addr} {k0 k1 k2 k3 k5 : Option Value}
    (ox : K.lookup C = some (excClassObj nm q C N bs bm true sn sub ab col dd k0 k1 k2 k3 k5 "ValueError.__new__")) (orf : PySem.HandSPX.refsVE bm = true) (sa : PySem.W.findIn K (.ref C) "__setattr__" = some (some (.builtin "object.__setattr__"))) (ex : PySem.W.subIn K (.ref C) (.type "BaseException") = some true)
    (ty : PySem.W.typeIn K (.ref C) = some (.type "type")) (kC : PySem.W.keepIn K (.ref C) = true) : OexC K C := ⟨⟨nm, q, N, bs, bm, sn, sub, ab, col, dd, k0, k1, k2, k3, k5, ox, orf⟩, sa, ex, ty, kC⟩
end Tw
namespace Tw
open PySem PySem.Spec PyProof.Rows L2 Sb
theorem kit_ref {K : PySem.W.Frag} {B S : Addr} (h2 : PySem.W.isClsIn K S = true) (h3 : PySem.W.typeIn K (.ref S) = some (.type "type")) (h4 : PySem.W.subIn K (.ref B) (.ref S) = some true) : PySem.W.kitOne K (.ref B) (.ref S) = some true := by
  unfold PySem.W.kitOne
  split
  · rfl
  · have h2' : (PySem.W.clsIn K S).isSome = true := h2
    show (if ((PySem.W.clsIn K S).isSome && PySem.W.typeIn K (.ref S) == some (.type "type")) = true then PySem.W.subIn K (.ref B) (.ref S) else none) = some true
    rw [if_pos (by rw [h2', h3] <;> rfl)]
    exact h4
theorem kit_bltn {K : PySem.W.Frag} {B : Addr} {t : String} (h : PySem.W.kitMeta t = true) (h4 : PySem.W.subIn K (.ref B) (.type t) = some true) : PySem.W.kitOne K (.ref B) (.type t) = some true := by
  unfold PySem.W.kitOne
  split
  · rfl
  · show (if PySem.W.kitMeta t = true then PySem.W.subIn K (.ref B) (.type t) else none) = some true
    rw [if_pos h]
    exact h4
theorem exm_of {K : PySem.W.Frag} {B S : Addr} (h1 : PySem.W.subIn K (.ref S) (.type "BaseException") = some true) (h2 : PySem.W.isClsIn K S = true) (h3 : PySem.W.typeIn K (.ref S) = some (.type "type")) (h4 : PySem.W.subIn K (.ref B) (.ref S) = some true) : PySem.W.exmOne K (.ref B) (.ref S) = some true := by
  have h2' : (PySem.W.clsIn K S).isSome = true := h2
  show (if (PySem.W.subIn K (.ref S) (.type "BaseException") == some true) = true then (if ((PySem.W.clsIn K S).isSome && PySem.W.typeIn K (.ref S) == some (.type "type")) = true then PySem.W.subIn K (.ref B) (.ref S) else none) else none) = some true
  rw [if_pos (by rw [h1] <;> rfl), if_pos (by rw [h2', h3] <;> rfl)]
  exact h4
end Tw
namespace K55
open PySem PySem.Spec PyProof.Rows L2 Tw Sb
section
variable {P : Program} {w : World} {K : PySem.W.Frag} {mg : Str → Option Value} {base : Heap}
def spFeedX (CB : Addr) : Sp := fun vs H _ E => ∃ (p : Addr) (v : V), vs = [.ref p, v] ∧ ByT H v false ∧ ∀ (H' : Hp) (d : Addr), Same H H' → H d = none → H' d = some (.xd [(("why" : Str), .str "wire")]) → E (.ref CB) (some d) H'
theorem ok_feedX {C CB : Addr} {f : Addr} {fd : FuncData} (F : Fun K "feed" "Feeder.feed" s_Feeder_feed f fd) (T : Bt mg) (cl : ClF K C) (c__refuse_others : CalX P w K mg base 3 "_refuse_others" ["data"] (spRefuseX CB)) (c__zeros : Cal P w K mg base 1 "_zeros" ["data"] spZeros) (c__read_piece : Cal P w K mg base 2 "_read_piece" ["place", "piece"] spRead) :
    FnOk P w K mg base (L2.CX P w) 4 f fd ["self", "data"] (spFeedX CB) := by
  refine F.okX sc_Feeder_feed (fun vs H Q E h => ?_) (fun cdv A outer s H vs Q E hr h => ?_)
  · obtain ⟨p, v, rfl, _⟩ := h
    rfl
  · obtain ⟨p, v, rfl, hv, q⟩ := h
    refine ⟨_, (pss_cons (ps_expr (pe_calX c__refuse_others hr (by decide) (by rfl) (takes_of rfl rfl rfl rfl) (pa_cons (pv 1) pa_nil)))
      (PSs.nox (pss_cons (ps_set (i := 2) sc_Feeder_feed.nd rfl (.inl rfl) (pe_lst pa_nil))
      (pss_cons (ps_set (i := 3) sc_Feeder_feed.nd rfl (.inl rfl) pe_int)
      (pss_cons (ps_for PassesOwn.never rfl (pi_list (pe_cal c__zeros hr (by decide) (by rfl) (pa_cons (pv 1) pa_nil))) (pg_name (i := 4) sc_Feeder_feed.nd rfl (.inl rfl))
        (pss_cons (ps_set (i := 5) sc_Feeder_feed.nd rfl (.inl rfl) (pe_lst (StX.pa_star (pe_fld (pv 0) rfl) (StX.pa_star (pe_slice (r := rSlR) sl_row (pv 1) (po_some (pv 3)) (po_some (pv 4))) pa_nil))))
        (pss_cons (ps_if (pt_cmpR op_gt (pe_callB call_len_seq (by rfl) T.n_len (by decide +kernel) (pa_cons (pv 5) pa_nil)) pe_int (nomark _))
          (pss_one (ps_expr (pe_bm PySem.F.plainAttrs_list PySem.F.slot_list_append PySem.F.type_list_append mt_append (pv 2) (pa_cons (pe_cal c__read_piece hr (by decide) (by rfl) (pa_cons (pe_fld (pv 0) rfl) (pa_cons (pv 5) pa_nil))) pa_nil))))
          pss_nil)
        (pss_cons (ps_fld (pv 0) (pe_lst pa_nil) rfl)
        (pss_cons (ps_fldaug (pv 0) (pe_op op_add (pe_callB call_len_seq (by rfl) T.n_len (by decide +kernel) (pa_cons (pv 5) pa_nil)) pe_int) in_add)
        (pss_one (ps_set (i := 3) sc_Feeder_feed.nd rfl (.inl rfl) (pe_op op_add (pv 4) pe_int))))))))
      (pss_cons (ps_expr (pe_bm PySem.F.plainAttrs_list PySem.F.slot_list_extend PySem.F.type_list_extend mt_extR (pe_fld (pv 0) rfl) (pa_cons (pe_slice (r := rSlR) sl_row (pv 1) (po_some (pv 3)) po_none) pa_nil)))
      (pss_one (ps_ret (pv 2))))))))), ?_⟩
    exact ⟨_, rfl, v, false, rfl, hv, (fun z => nomatch z), fun _ H' d s hd he => q H' d s hd he⟩
end
end K55
set_option maxHeartbeats 2000000
/-! TwLam: a lambda of one parameter handed to a def, which calls it. -/
namespace Tw
open PySem PySem.Spec PyProof.Rows L2 Sb LamX
/-! ### what a function made in X captures -/
/-- each captured name is a cell of the maker's -/
def Caps (outer names : List (Str × NameKind)) : Prop := ∀ y ∈ names, y.2 = .free → outer.lookup y.1 = some .cell ∨ outer.lookup y.1 = some .free
theorem Caps.cells {X : Cx} {names : List (Str × NameKind)} (C : Caps X.env.scope.names names) (ok : X.Ok) (y : Str × NameKind) (hy : y ∈ names) (e : y.2 = .free) : ∃ c, X.env.cells.lookup y.1 = some c :=
  ok.has y.1 (C y hy e)
theorem Caps.sub {X : Cx} {names : List (Str × NameKind)} (C : Caps X.env.scope.names names) (ok : X.Ok) {y : Str} {c : Addr} (e : (cloFrom X.env.cells names []).lookup y = some c) : X.env.cells.lookup y = some c := by
  cases cloFrom_mem (PySem.mem_of_lookup e) with
  | inl m => cases m
  | inr m =>
    obtain ⟨d, k⟩ := C.cells ok (y, .free) m.1 rfl
    have k : X.env.cells.lookup y = some d := k
    have : c = d := by simpa [k] using m.2
    exact this ▸ k
theorem Caps.got {X : Cx} {names : List (Str × NameKind)} (C : Caps X.env.scope.names names) (ok : X.Ok) {y : Str} (e : names.lookup y = some .free) : ∃ c, (cloFrom X.env.cells names []).lookup y = some c ∧ X.env.cells.lookup y = some c :=
  let ⟨c, q⟩ := mem_lookup (cloFrom_has (cells := X.env.cells) (acc := []) (PySem.mem_of_lookup e))
  ⟨c, q, C.sub ok q⟩
/-- what the maker knows of a captured name stands in its cell -/
theorem Caps.val {X : Cx} {names : List (Str × NameKind)} {pins : List (Addr × Obj)} {σ : L2.St} {H : Hp} {s : Shared} (C : Caps X.env.scope.names names) (I : Inv X pins σ H s) {i : Nat} {y : Str} {v : V} (e : names.lookup y = some .free) (hN : X.N[i]? = some y) (hs : σ[i]? = some (some v)) :
    ∃ u c, RelV v u ∧ (cloFrom X.env.cells names []).lookup y = some c ∧ H c = none ∧ s.heap.IsCell c (some u) := by
  have no : X.env.kindOf y ≠ some .local := fun z => by
    have z : X.env.scope.names.lookup y = some .local := z
    cases C _ (PySem.mem_of_lookup e) rfl with
    | inl k => exact absurd (z.symm.trans k) (by simp)
    | inr k => exact absurd (z.symm.trans k) (by simp)
  obtain ⟨c, k1, k2⟩ := C.got I.ok e
  obtain ⟨m, _, known⟩ := I.loc
  obtain ⟨u, r, at_⟩ := known i y v hN hs ((C _ (PySem.mem_of_lookup e) rfl).elim (.inr ∘ .inl) (.inr ∘ .inr))
  cases at_ with
  | inl l => exact absurd l.1 no
  | inr l =>
    obtain ⟨_, d, k3, k4⟩ := l
    cases k2.symm.trans k3
    exact ⟨u, c, r, k1, I.freeC y c k2, k4⟩
/-- one parameter p, no other name of its own -/
structure LamS1 (sc scope : Scope) (p : Str) : Prop where
  fn : scope.kind = .function ∧ scope.isCoroutine = false ∧ scope.isGenerator = false
  own : ∀ y ∈ scope.names, y.2 ≠ .cell ∧ (y.2 = .local → y.1 = p)
  par : scope.names.lookup p = some .local
  caps : Caps sc.names scope.names
/-- the context of the lambda's body: the maker's names, and behind them the parameter -/
def lamCx1 (X : Cx) (A : Around) (outer : List Env) (s : Shared) (H : Hp) (E : XK) (scope : Scope) (f c' : Addr) (p : Str) : Cx :=
  { lamCx X A outer s H E scope f c' with N := X.N ++ [p] }
section
variable {X : Cx} {pins : List (Addr × Obj)} {σ : L2.St} {H HZ : Hp} {s s1 : Shared}
/-- a cell that stood there holds the same behind what a call may touch -/
theorem cell_stays {h₁ : Heap} {fs : List Addr} {c : Addr} {v : Option Value} (un : Un fs [] H HZ s.heap s1.heap) (kp : ∀ b o, s1.heap.get? b = some o → h₁.get? b = some o) (n : H c = none) (z : s.heap.IsCell c v) : HZ c = none ∧ h₁.IsCell c v :=
  let ⟨o, ho, hd⟩ := z
  let ⟨_, q⟩ := un.any ho n List.not_mem_nil
  ⟨un.free c o ho n List.not_mem_nil, _, kp _ _ q, hd⟩
theorem lam_ok1 {A : Around} {outer : List Env} {E : XK} {scope : Scope} {f c' : Addr} {p : Str} (I : Inv X pins σ H s) (L : LamS1 X.env.scope scope p) (e0 : Env0 X.prog X.w X.K X.mg X.base A outer s1 HZ) (hd : A.handled = none) : (lamCx1 X A outer s1 HZ E scope f c' p).Ok where
  mod := e0.mod
  kind := L.fn.1
  glob := rfl
  blt := rfl
  above := Nat.le_refl _
  inj := fun y z c h1 h2 => I.ok.inj y z c (L.caps.sub I.ok h1) (L.caps.sub I.ok h2)
  has := fun y hy => by
    cases hy with
    | inl k => exact absurd rfl (L.own (y, .cell) (PySem.mem_of_lookup k)).1
    | inr k => exact let ⟨c, q, _⟩ := L.caps.got I.ok k; ⟨c, q⟩
  cab := fun _ _ z => absurd z Bool.false_ne_true
  hd := fun _ => hd
  frames := Around.frames_deeper e0.frames
  stk := Or.inr ⟨rfl, rfl⟩
  exf := fun _ z => nomatch (show _ ∈ ([] : List Addr) from z)
  bs := e0.bs
  bsz := e0.bsz
  noex := fun _ _ _ => List.not_mem_nil
  exfs := fun _ z => nomatch (show _ ∈ ([] : List Addr) from z)
  funs := e0.funs
  frf := e0.frf
theorem lam_start1 {A : Around} {outer : List Env} {E : XK} {scope : Scope} {f c' : Addr} {h₁ : Heap} {tk : Nat} {p : Str} {v : V} {u : Value} (I : Inv X pins σ H s) (L : LamS1 X.env.scope scope p) (hp : p ∉ X.N) (rv : RelV v u) (e0 : Env0 X.prog X.w X.K X.mg X.base A outer s1 HZ) (hd : A.handled = none)
    (un : Un (frs X.stack) [] H HZ s.heap s1.heap) (hns : h₁.Ns s1.heap.objs.size fun y => ([(p, u)] : List (Str × Value)).reverse.lookup y) (kp : ∀ b o, s1.heap.get? b = some o → h₁.get? b = some o) :
    Inv (lamCx1 X A outer s1 HZ E scope f c' p) [] (σ ++ [some v]) HZ { s1 with heap := h₁, toks := tk } where
  ok := lam_ok1 I L e0 hd
  os := rfl
  bare := e0.bare
  base := Un.kept kp
  loc := ⟨_, hns, fun i y w hN hs vis => by
    have hN : (X.N ++ [p])[i]? = some y := hN
    rcases Nat.lt_or_ge i X.N.length with hi | hi
    · rw [List.getElem?_append_left hi] at hN
      rw [List.getElem?_append_left (I.len ▸ hi)] at hs
      have hf : scope.names.lookup y = some .free := by
        rcases (show Vis scope y from vis) with k | k | k
        · exact absurd ((L.own (y, .local) (PySem.mem_of_lookup k)).2 rfl ▸ List.mem_of_getElem? hN) hp
        · exact absurd rfl (L.own (y, .cell) (PySem.mem_of_lookup k)).1
        · exact k
      obtain ⟨u', c, r, k1, k2, k3⟩ := L.caps.val I hf hN hs
      exact ⟨u', r, .inr ⟨.inr hf, c, k1, (cell_stays un kp k2 k3).2⟩⟩
    · have h0 : i - X.N.length = 0 := by
        have := (List.getElem?_eq_some_iff.mp hN).1
        rw [List.length_append] at this
        simp at this
        omega
      rw [List.getElem?_append_right hi, h0] at hN
      rw [List.getElem?_append_right (by rw [I.len]; exact hi), I.len, h0] at hs
      cases hN
      cases hs
      exact ⟨u, rv, .inl ⟨L.par, by simp⟩⟩⟩
  cell := fun y c e => let ⟨w, z⟩ := I.cell y c (L.caps.sub I.ok e)
    ⟨w, (cell_stays un kp (I.freeC y c (L.caps.sub I.ok e)) z).2⟩
  free := e0.hok.fresh (Nat.le_refl _)
  freeC := fun y c e => let ⟨_, z⟩ := I.cell y c (L.caps.sub I.ok e)
    (cell_stays un kp (I.freeC y c (L.caps.sub I.ok e)) z).1
  pin := fun q hq => nomatch (show q ∈ ([] : List (Addr × Obj)) from hq)
  hok := e0.hok.kept kp
  len := by
    show (σ ++ [some v]).length = (X.N ++ [p]).length
    rw [List.length_append, List.length_append, I.len] <;> rfl
/-- the lambda at f, called with u from the frames outer -/
theorem lam_run {A : Around} {outer : List Env} {f c' : Addr} {pm ctv : Value} {params : Arguments} {body : Expr} {scope : Scope} {k : Nat} {pr : Str} {E : XK} {t : TE} {v : V} {u : Value} {H2 : Hp} {s2 : Shared} {Q : VK}
    (I : Inv X pins σ H s) (L : LamS1 X.env.scope scope pr) (hpr : pr ∉ X.N) (un : Un (frs X.stack) [] H H2 s.heap s2.heap) (nl : s2.heap.NoLimit) (e0 : Env0 X.prog X.w X.K X.mg X.base A outer s2 H2) (hr : Room (k + 1) A)
    (hf : s2.heap.get? f = some (PySem.W.kla_obj "<lambda>" (X.env.qual ++ "<lambda>") params body scope (cloFrom X.env.cells scope.names []) pm c' ctv)) (hc : H2 c' = some (CodeO c' (X.env.qual ++ "<lambda>")))
    (hbind : bindArgs (PySem.W.kla_fn "<lambda>" (X.env.qual ++ "<lambda>") params body scope (cloFrom X.env.cells scope.names []) pm (.ref c') ctv) ⟨[u], []⟩ = pure [(pr, u)]) (rv : RelV v u)
    (hbody : Room k (A.deeper (lamEnv X scope s2.heap.objs.size f c')) → PE (lamCx1 X A outer s2 H2 E scope f c' pr) body t) (ht : t (σ ++ [some v]) H2 Q) :
    codeAny (model X.prog X.w) A (.call (.ref f) ⟨[u], []⟩) (CR (L2.CX X.prog X.w) outer X.prog X.w H2 s2 Q E) s2 := by
  have known : ∃ (oc : Obj) (vs : Array Value) (t : Tok), s2.heap.get? c' = some oc ∧ oc.data = .fields vs ∧ vs[1]? = some (.str (X.env.qual ++ "<lambda>") t) := (e0.hok c' _ hc).1
  obtain ⟨oc, vs, tq, k1, k2, k3⟩ := known
  apply PySem.W.kla_callFunE hr.depth hf rfl L.fn.2.1 L.fn.2.2 rfl ⟨c', oc, vs, tq, rfl, k1, k2, k3⟩
  rw [hbind]
  apply wpAny_pure
  refine wpAny_newFunctionEnv (fun y hy => (L.own y hy).1) (fun y hy => by rw [List.mem_singleton.mp hy]; exact L.par) (fun h₁ hns hsb => ?_) L.fn.1
  refine ⟨nl.fresh _ hsb, ?_⟩
  have old : ∀ b o, s2.heap.get? b = some o → h₁.get? b = some o := fun b o e => hsb.extBut b o (Nat.ne_of_lt (Heap.lt_size e)) (Heap.get?_push_of_some _ e)
  have J := lam_start1 (E := E) (f := f) (c' := c') (tk := s2.toks + ([(pr, u)] : List (Str × Value)).length) I L hpr rv e0 hr.hd un hns old
  exact PySem.W.kla_codeExpr (wpAny_mono ((hbody (hr.deeper _)).run [] _ _ H2 Q J ht) (fun _ _ ⟨w, H', Z, r, q⟩ => ⟨w, H', Z.os, Z.bare, Z.base, Z.hok, r, q⟩) fun _ _ x => x)
/-- a(e), in the def that got the lambda as a: Z is that def's context, entered at s -/
theorem pe_act1 {CXg : CXT} {Eg : XK} {Ng : List Str} {qg : Str} {sg : Scope} {g f c' : Addr} {cdg pm ctv : Value} {params : Arguments} {body : Expr} {scope : Scope} {k i : Nat} {a pr : Str} {pn : List (Addr × Obj)} {xe : Value → Shared → Prop} {W : WX} {tb : XK → TE} {p1 p2 : Pos} {e : Expr} {t : TA} {Z : Cx}
    (hZ : Z = (cxOf CXg X.prog X.w X.K X.mg X.base Ng qg sg g cdg X.A X.stack s H Eg).tr pn xe)
    (I : Inv X pins σ H s) (L : LamS1 X.env.scope scope pr) (hpr : pr ∉ X.N) (hf : s.heap.get? f = some (PySem.W.kla_obj "<lambda>" (X.env.qual ++ "<lambda>") params body scope (cloFrom X.env.cells scope.names []) pm c' ctv)) (hfn : H f = none) (hfr : f ∉ frs X.stack)
    (hbind : ∀ u, bindArgs (PySem.W.kla_fn "<lambda>" (X.env.qual ++ "<lambda>") params body scope (cloFrom X.env.cells scope.names []) pm (.ref c') ctv) ⟨[u], []⟩ = pure [(pr, u)])
    (tk : Takes Z W) (hr : Room (k + 1) (X.A.deeper (envOfC qg sg s.heap.objs.size g cdg)))
    (hbody : ∀ (A : Around) (outer : List Env) (s : Shared) (H : Hp) (E : XK), Room k (A.deeper (lamEnv X scope s.heap.objs.size f c')) → PE (lamCx1 X A outer s H E scope f c' pr) body (tb E))
    (ha : PA Z [e] t) (hN : Ng[i]? = some a) (hv : Vis sg a) (h1 : (a == ("__debug__" : Str)) = false) (h2 : (a == ("__classdict__" : Str)) = false) (hst : starEach [e] Z.env = (false, eval e Z.env) :: starEach [] Z.env) :
    PE Z (.Call (.Name a p1) [e] [] p2) (fun σZ HZ Q => σZ[i]? = some (some (.ref f)) ∧ t σZ HZ fun vs H2 => ∃ v, vs = [v] ∧ H2 c' = some (CodeO c' (X.env.qual ++ "<lambda>")) ∧ tb (WE W σZ) (σ ++ [some v]) H2 Q) := by
  subst hZ
  have stays : ∀ {pz σz Hz sz}, Inv ((cxOf CXg X.prog X.w X.K X.mg X.base Ng qg sg g cdg X.A X.stack s H Eg).tr pn xe) pz σz Hz sz → sz.heap.get? f = some (PySem.W.kla_obj "<lambda>" (X.env.qual ++ "<lambda>") params body scope (cloFrom X.env.cells scope.names []) pm c' ctv) :=
    fun J => J.base.keep f _ hf hfn hfr List.not_mem_nil
  constructor
  intro pz sz σz Hz Q J ⟨hs, ht⟩
  refine wpAny_Call_Name_kw (thn ((pe_var (pos := p1) (i := i) hN hv h1 h2).run pz sz σz Hz (fun w H1 => w = .ref f ∧ H1 = Hz) J ⟨.ref f, hs, rfl, rfl⟩) ?_)
  rintro _ s1 ⟨_, _, J1, r1, rfl, rfl⟩
  cases r1
  refine PySem.W.callWith_F ⟨_, _, _, _, stays J1⟩ (thn (ha.run p2 pz s1 σz _ _ J1 ht) ?_) hst
  rintro us s2 ⟨_, H2, J2, rvs, v, rfl, hc, hb⟩
  obtain ⟨u, rfl, rv⟩ : ∃ u, us = [u] ∧ RelV v u := by
    cases rvs with
    | cons r z =>
      cases z
      exact ⟨_, rfl, r⟩
  have go := lam_run (Q := Q) (E := WE W σz) I L hpr J2.base J2.nolimit J2.env0 hr (stays J2) hc (hbind u) rv (hbody _ _ s2 H2 (WE W σz)) hb
  exact ⟨⟨_, _, _, _, stays J2⟩, wpAny_call (codeAny_mono go fun
    | .error x, s', q => passAt tk σz pz H2 s2 x s' J2 q
    | .ok (.ret _), _, q => J2.after q
    | .ok .next, _, q => q.elim
    | .ok .brk, _, q => q.elim
    | .ok .cont, _, q => q.elim)⟩
/-- f, made and known to nothing, is pinned -/
theorem pin_lam (I : Inv X pins σ H s) {f : Addr} {o : Obj} (hst : ∀ b, b = X.env.locals ∨ b ∈ X.fs → b ∈ frs X.stack) (hf : s.heap.get? f = some o) (hfn : H f = none) (hfr : f ∉ frs X.stack) (hc : ∀ v, o.data ≠ .cell v) : Inv X ((f, o) :: pins) σ H s := by
  apply I.pins_of
  intro q m
  cases m with
  | head => exact ⟨hf, hfn, fun z => hfr (hst _ (.inl z)), fun z => hfr (hst _ (.inr z)), hc⟩
  | tail _ m => exact I.pin q (List.mem_append_right _ m)
end
/-- what the def's caller a(b) reads: it got f as a -/
def tAct (f : Addr) (W : WX) (tl : V → XK → Hp → VK → Prop) : TE := fun σZ HZ Q => σZ[0]? = some (some (.ref f)) ∧ ∃ v, σZ[1]? = some (some v) ∧ tl v (WE W σZ) HZ Q
/-- a context in which a(b) is read so -/
def ActOk (Z : Cx) (a b : Str) (f : Addr) (tl : V → XK → Hp → VK → Prop) : Prop :=
  ∀ (W : WX) (pn : List (Addr × Obj)) (xe : Value → Shared → Prop) (p1 p2 p3 : Pos), Takes (Z.tr pn xe) W → PE (Z.tr pn xe) (.Call (.Name a p1) [.Name b p3] [] p2) (tAct f W tl)
/-- the def x(a, b) that calls a(b): TT is what it makes of a's reading, of what it was handed as b -/
def GivesD (P : Program) (w : World) (K : PySem.W.Frag) (mg : Str → Option Value) (base : Heap) (Ng : List Str) (x : Str) (sg : Scope) (bg : List Stmt) (a b : Str) (TT : (V → XK → Hp → VK → Prop) → V → Hp → VK → Prop) : Prop :=
  ∀ (CX : CXT) (EX : XK) (A : Around) (outer : List Env) (g : Addr) (cdg : Value) (f : Addr) (hv : V) (s : Shared) (H : Hp) (Q : VK) (tl : V → XK → Hp → VK → Prop),
    ActOk (cxOf CX P w K mg base Ng x sg g cdg A outer s H EX) a b f tl → TT tl hv H Q →
    ∃ t, PSs (cxOf CX P w K mg base Ng x sg g cdg A outer s H EX).nox bg t ∧ t { nx := fun _ H' => Q .non H', rt := Q } (L2.start Ng [.ref f, hv]) H
def tLam1 (T : List (Addr × Str)) (q : Str) (j : Nat) (TT : (V → XK → Hp → VK → Prop) → V → Hp → VK → Prop) (t : XK → TE) : TE := fun σ H Q =>
  Tabs T H ∧ ∃ hv, σ[j]? = some (some hv) ∧ ∀ (c' : Addr) (H1 : Hp), ExtN H H1 → Tabs T H1 → H1 c' = some (CodeO c' q) → TT (fun v E H' Q' => H' c' = some (CodeO c' q) ∧ t E (σ ++ [some v]) H' Q') hv H1 Q
section
variable {X : Cx}
/-- x(lambda pr: body, y) -/
theorem pe_lamcall1 {T : List (Addr × Str)} {TT : (V → XK → Hp → VK → Prop) → V → Hp → VK → Prop} {x a b y pr : Str} {g c P : Addr} {k j : Nat} {pg : Arguments} {bg : List Stmt} {sg : Scope} {dV kV doc pm cdv ct oc : Value} {an od : Option Addr} {osl : Array (Option Value)} {Ng : List Str}
    {params : Arguments} {body : Expr} {scope : Scope} {t : XK → TE} {p lpos py pos : Pos} (hg : Gl X x) (hm : X.mg x = some (.ref g)) (hk : PySem.W.keepIn X.K (.ref g) = true)
    (lk : X.K.lookup g = some ⟨oc, od, .func (PySem.W.fnOf x x pg bg sg dV kV doc pm an cdv ct), osl⟩) (hcg : PySem.W.codeIn X.K cdv x = true) (hb : L2.Binds X.K (PySem.W.fnOf x x pg bg sg dV kV doc pm an cdv ct) [a, b] []) (Sg : FnScope Ng [a, b] sg) (hNa : Ng[0]? = some a) (hNb : Ng[1]? = some b) (hva : Vis sg a) (hvb : Vis sg b)
    (hG : GivesD X.prog X.w X.K X.mg X.base Ng x sg bg a b TT) (hNy : X.N[j]? = some y) (hvy : Vis X.env.scope y)
    (TB : TabB X.base X.mg c P) (hcode : X.env.code = .ref c) (hmT : (P, X.env.qual ++ "<lambda>") ∈ T) (hu : ∀ p ∈ T, p.1 = P → p.2 = X.env.qual ++ "<lambda>") (hr : Room (k + 2) X.A) (L : LamS1 X.env.scope scope pr) (hpr : pr ∉ X.N) (hdef : defaultsOf params X.env = ([], []))
    (hst : ∀ b, b = X.env.locals ∨ b ∈ X.fs → b ∈ frs X.stack)
    (hbind : ∀ (q : Str) (cl : List (Str × Addr)) (pm cv ctv u : Value), bindArgs (PySem.W.kla_fn "<lambda>" q params body scope cl pm cv ctv) ⟨[u], []⟩ = pure [(pr, u)])
    (hbody : ∀ (A : Around) (outer : List Env) (s : Shared) (H : Hp) (E : XK) (f c' : Addr), Room k (A.deeper (lamEnv X scope s.heap.objs.size f c')) → PE (lamCx1 X A outer s H E scope f c' pr) body (t E))
    (hdb : (x == ("__debug__" : Str)) = false := by decide) (n1 : (a == ("__debug__" : Str)) = false := by decide) (n2 : (a == ("__classdict__" : Str)) = false := by decide)
    (n3 : (b == ("__debug__" : Str)) = false := by decide) (n4 : (b == ("__classdict__" : Str)) = false := by decide) (n5 : (y == ("__debug__" : Str)) = false := by decide) (n6 : (y == ("__classdict__" : Str)) = false := by decide) :
    PE X (.Call (.Name x p) [.Lambda params body scope lpos, .Name y py] [] pos) (tLam1 T (X.env.qual ++ "<lambda>") j TT t) := by
  constructor
  intro pins s σ H Q I ⟨hT, hv, hy, h⟩
  apply wpAny_Call_Name_kw
  refine ld_glob I hg hm ?_ hdb
  apply PySem.W.callWith_K (h₀ := X.base) I.mod.kin hk (he := rfl) (hplain := rfl)
  show wpAny _ _ (spliced ((false, eval (.Lambda params body scope lpos) X.env) :: backTo pos (starEach [.Name y py] X.env))) _ _ s
  apply Calls.spliced_cons
  apply lam_make2 I TB hcode hmT hu hT hdef (L.caps.cells I.ok)
  intro f c' _ _ H1 s' I1 eN T1 hf hfn hfr hco
  have P1 := pin_lam I1 hst hf hfn hfr (fun v z => nomatch z)
  refine thn ((pa_cons (pe_var (pos := py) hNy hvy n5 n6) pa_nil).run pos _ s' σ H1 (fun vs H2 => vs = [hv] ∧ H2 = H1) P1 ⟨hv, hy, rfl, rfl⟩) ?_
  rintro us s2 ⟨_, H2, P2, rvs, rfl, rfl⟩
  obtain ⟨u, rfl, ru⟩ : ∃ u, us = [u] ∧ RelV hv u := by
    cases rvs with
    | cons r z =>
      cases z
      exact ⟨_, rfl, r⟩
  have I2 := ClX.unpin P2
  have act : ActOk (cxOf C8.CX0 X.prog X.w X.K X.mg X.base Ng x sg g cdv X.A X.stack s2 H2 C8.E0) a b f (fun v E H' Q' => H' c' = some (CodeO c' (X.env.qual ++ "<lambda>")) ∧ t E (σ ++ [some v]) H' Q') ∨ ¬ Room (k + 1) (X.A.deeper (envOfC x sg s2.heap.objs.size g cdv)) := by
    by_cases hr' : Room (k + 1) (X.A.deeper (envOfC x sg s2.heap.objs.size g cdv))
    · refine .inl fun W pn xe p1 p2 p3 tk => ⟨fun pz sz σz Hz Q' J hz => ?_⟩
      obtain ⟨z1, v, z3, z2, z4⟩ := hz
      exact (pe_act1 (i := 0) rfl I2 L hpr (ClX.pin_at P2) (ClX.pin_un P2) hfr (hbind _ _ _ _ _) tk hr' (fun A o s H E r => hbody A o s H E f c' r) (pa_cons (pe_var (pos := p3) hNb hvb n3 n4) pa_nil) hNa hva n1 n2 rfl).run pz sz σz Hz Q' J ⟨z1, v, z3, v, rfl, z2, z4⟩
    · exact .inr hr'
  refine ⟨I2.kIn, wpAny_call (codeAny_mono (run_ofS (CX := C8.CX0) (E := C8.E0) (Q := Q) (N := Ng) (ps := [a, b]) (us := [.ref f, u]) (vs := [.ref f, hv]) lk hcg Sg hr I2.env0 (hb s2 [.ref f, u] I2.kIn rfl) (.cons rfl (.cons ru .nil)) rfl fun hr' => ?_) fun
    | .error _, _, q => q.elim
    | .ok (.ret _), _, q => I2.after q
    | .ok .next, _, q => q.elim
    | .ok .brk, _, q => q.elim
    | .ok .cont, _, q => q.elim)⟩
  cases act with
  | inr z => exact absurd hr' z
  | inl act => exact let ⟨t', d, q⟩ := hG C8.CX0 C8.E0 X.A X.stack g cdv f hv s2 H2 Q _ act (h c' H2 eN T1 hco); ⟨t', d.nox, q⟩
/-- a(b), a known function handed as a -/
theorem act_fn {k : Nat} {f : Addr} {fd : FuncData} {ps : List Str} {sp : Sp} {a b : Str} (F : FnOk X.prog X.w X.K X.mg X.base (L2.CX X.prog X.w) k f fd ps sp) (hr : Room k X.A) (hk : PySem.W.keepIn X.K (.ref f) = true) (hb : L2.Binds X.K fd ps [])
    (hNa : X.N[0]? = some a) (hNb : X.N[1]? = some b) (hva : Vis X.env.scope a) (hvb : Vis X.env.scope b)
    (n1 : (a == ("__debug__" : Str)) = false := by decide) (n2 : (a == ("__classdict__" : Str)) = false := by decide) (n3 : (b == ("__debug__" : Str)) = false := by decide) (n4 : (b == ("__classdict__" : Str)) = false := by decide) :
    ActOk X a b f (fun v E H Q => sp [v] H Q E) := fun W pn xe p1 p2 p3 tk => ⟨fun pins s σ H Q I ⟨h1, v, h2, h3⟩ => by
  apply wpAny_Call_Name_kw
  refine thn ((pe_var (X := X.tr pn xe) (pos := p1) (i := 0) hNa hva n1 n2).run pins s σ H (fun w H1 => w = .ref f ∧ H1 = H) I ⟨.ref f, h1, rfl, rfl⟩) ?_
  rintro _ s1 ⟨_, _, I1, r1, rfl, rfl⟩
  cases r1
  apply PySem.W.callWith_K (h₀ := X.base) I1.mod.kin hk (he := rfl) (hplain := rfl)
  refine thn ((pa_cons (pe_var (X := X.tr pn xe) (pos := p3) hNb hvb n3 n4) pa_nil).run p2 pins s1 σ _ (fun vs H2 => vs = [v] ∧ H2 = _) I1 ⟨v, h2, rfl, rfl⟩) ?_
  rintro us s2 ⟨_, _, I2, r, rfl, rfl⟩
  exact ⟨I2.kIn, run_fnS (X := X.tr pn xe) F hr hb (passAt tk σ) I2 r h3⟩⟩
end
end Tw
/-! TwTry: several except clauses, some of them with a name. -/
namespace Tw
open PySem PySem.Spec PyProof.Rows L2 Sb
abbrev Wish := Ends → WX
/-- the clauses, each with its class and its wish -/
def wMix (K : PySem.W.Frag) (Wout : WX) (D : Ends) (l : List (Value × Wish)) : WX :=
  l.foldr (fun y r cls d σ H => ∃ b, PySem.W.exmOne K cls y.1 = some b ∧ (b = true → y.2 D cls d σ H) ∧ (b = false → r cls d σ H)) Wout
/-- a suite's wish, where no name is bound -/
def wBare (ts : Addr → Value → Option Addr → TS) : Wish := fun D cls d σ H => ∀ a, H a = none → ts a cls d D σ H
/-- what ends behind the suite whose name's slot is i -/
def gone (D : Ends) (i : Nat) : Ends := { nx := fun σ H => D.nx (σ.set i none) H, rt := D.rt, bk := fun σ H => D.bk (σ.set i none) H, ct := fun σ H => D.ct (σ.set i none) H }
def wNamed (i : Nat) (ts : Addr → Value → Option Addr → TS) : Wish := fun D cls d σ H => ∀ a, H a = none → ts a cls d (gone D i) (σ.set i (some (.ref a))) H
abbrev SuiteOk (X : Cx) (suite : List Stmt) (ts : Addr → Value → Option Addr → TS) : Prop :=
  ∀ (a : Addr) (oe : Obj) (cls : Value) (d : Option Addr) (pn : List (Addr × Obj)), Zc cls d oe → (∃ vs, oe.data = .fields vs) → PSs (X.suite a ((a, oe) :: pn)) suite (ts a cls d)
inductive Mix (X : Cx) : List ExceptHandler → List (Value × Wish) → Prop
  | nil : Mix X [] []
  | bare {x : Str} {c : Value} {ts : Addr → Value → Option Addr → TS} {b₀ : Stmt} {bs : List Stmt} {p1 p2 : Pos} {hs : List ExceptHandler} {l : List (Value × Wish)} (hc : Names X x c) (hsu : SuiteOk X (b₀ :: bs) ts) (r : Mix X hs l) :
      Mix X (.ExceptHandler (some (.Name x p1)) none (b₀ :: bs) p2 :: hs) ((c, wBare ts) :: l)
  | named {x n : Str} {i : Nat} {c : Value} {ts : Addr → Value → Option Addr → TS} {b₀ : Stmt} {bs : List Stmt} {p1 p2 : Pos} {hs : List ExceptHandler} {l : List (Value × Wish)} (hi : X.N[i]? = some n) (hn : X.env.kindOf n = some .local) (hc : Names X x c) (hsu : SuiteOk X (b₀ :: bs) ts) (r : Mix X hs l) :
      Mix X (.ExceptHandler (some (.Name x p1)) (some n) (b₀ :: bs) p2 :: hs) ((c, wNamed i ts) :: l)
section
variable {X : Cx} {pins : List (Addr × Obj)} {σ : L2.St} {H : Hp} {a : Addr} {B : Heap} {sI s : Shared} {cls : Value} {d : Option Addr}
/-- the error at a, raised where slots and heap were σ and H, has landed in the try's own frame -/
structure Landed (X : Cx) (pins : List (Addr × Obj)) (σ : L2.St) (H : Hp) (a : Addr) (B : Heap) (sI : Shared) (cls : Value) (d : Option Addr) (s : Shared) : Prop where
  inv : Inv X pins σ H sI
  kept : ∀ b o, sI.heap.get? b = some o → b ∉ frs X.stack → B.get? b = some o
  up : sI.heap.UpToSlots s.heap
  fly : HandSPX.FlyingZ B (X.env :: X.outer) a (Zc cls d) s.heap
  new : H a = none
  os : s.os = sI.os
  bare : AllBare s.gens
/-- the error's object is no frame -/
theorem Landed.far (L : Landed X pins σ H a B sI cls d s) (hf : X.env.frame = some X.env.locals) : a ≠ X.env.locals ∧ a ∉ X.fs := by
  obtain ⟨o, _, e, _, dt⟩ := L.fly.there
  have no : ∀ E ∈ X.env :: X.outer, E.frame ≠ some a := fun E m z => by
    obtain ⟨_, o', e', n⟩ := Heap.FunFrames.mem L.fly.2.2.1 (List.mem_filterMap.mpr ⟨E, m, z⟩)
    cases e.symm.trans e'
    exact n _ dt
  exact ⟨fun z => no X.env List.mem_cons_self (z ▸ hf), fun m => let ⟨E, m, z⟩ := List.mem_filterMap.mp m; no E (List.mem_cons_of_mem _ m) z⟩
theorem Landed.here (L : Landed X pins σ H a B sI cls d s) : Inv X pins σ H s := L.inv.landed L.kept L.fly.1 L.up L.os L.bare
/-- .. and what a suite starts with -/
theorem Landed.suite (L : Landed X pins σ H a B sI cls d s) (hf : X.env.frame = some X.env.locals) : ∃ oe, s.heap.get? a = some oe ∧ Zc cls d oe ∧ (∃ vs, oe.data = .fields vs) ∧ Inv (X.suite a ((a, oe) :: (X.pn ++ pins))) [] σ H s :=
  let ⟨oe, _, e, z, dt⟩ := L.fly.there
  ⟨oe, e, z, ⟨_, dt⟩, L.here.suite e dt L.new (L.far hf).1 (L.far hf).2⟩
/-- the marks are set anew -/
theorem Landed.again (L : Landed X pins σ H a B sI cls d s) {A : Around} {Q : Unit → Shared → Prop} {E : Value → Shared → Prop} (k : ∀ s4, Landed X pins σ H a B sI cls d s4 → Q () s4) : wpAny (model X.prog X.w) A (setFlight (.ref a) none) Q E s :=
  HandSPX.lands_againZ L.fly fun h f u => k { s with heap := h } ⟨L.inv, L.kept, L.up.trans u, f, L.new, L.os, L.bare⟩
/-- is it one of the class that x names? -/
theorem Landed.asked (L : Landed X pins σ H a B sI cls d s) (hf : X.env.frame = some X.env.locals) {x : Str} {c : Value} {b : Bool} {p : Pos} {A : Around} {Q : Bool → Shared → Prop} {E E' : Value → Shared → Prop} (hc : Names X x c) (hb : PySem.W.exmOne X.K cls c = some b) (q : Q b s) :
    wpAny (model X.prog X.w) (X.A.mark (some (.ref a))) (eval (.Name x p) X.env) (fun u s1 => wpAny (model X.prog X.w) A (excMatches (.ref a) u) Q E' s1) E s := by
  obtain ⟨oe, e, z, _, S⟩ := L.suite hf
  have ty : PySem.W.Looks (model X.prog X.w) s.heap (typeOf (.ref a)) cls := fun _ _ _ s1 k r => wpAny_typeOf_ref (k a oe e) (z.1 ▸ r)
  have r : wpAny (model X.prog X.w) A (excMatches (.ref a) c) Q E' s := (PySem.W.exm_one (M := model X.prog X.w) L.here.kIn ty hb).here q
  obtain ⟨g, nd, m | ⟨m, v, n⟩⟩ := hc
  · exact ld_glob (X := X.suite a ((a, oe) :: (X.pn ++ pins))) S g m r nd
  · exact ld_blt (X := X.suite a ((a, oe) :: (X.pn ++ pins))) S g m v r n nd
/-- no clause is left: it is raised out -/
theorem Landed.out {Wout : WX} {Q : Flow → Shared → Prop} (L : Landed X pins σ H a B sI cls d s) (hs : X.stack = X.env :: X.outer) (hf : X.env.frame = some X.env.locals) (tk : Takes X Wout) (w : Wout cls d σ H) : wpAny (model X.prog X.w) X.A (handleBy (.ref a) X.env []) Q X.xe s := by
  have fly : wpAny (model X.prog X.w) X.A (setFlight (.ref a) X.env.frame) (fun _ s4 => wpAny (model X.prog X.w) X.A (throw (.ref a) : Sem Flow) Q X.xe s4) X.xe s := hf ▸ HandSPX.setFlight_upZ L.fly fun h k u => wpAny_throw (tk _ _
    ⟨a, B, sI, pins, σ, H, cls, d, rfl, L.inv, L.kept, L.up.trans u, Or.inr (Or.inr (hs ▸ k)), L.new, L.os, L.bare, w⟩)
  apply wpAny_handleBy_nil
  unfold PySem.passOn
  obtain ⟨_, _, _, oe, vs, T, _, _, e, _, dt, cl, _⟩ := id L.fly
  refine wpAny_bind (wpAny_field e dt cl ?_)
  have nn : ¬ (Value.ref T == Value.none) = true := by simp
  rw [if_neg nn]
  first | exact wpAny_bind (wpAny_pure (wpAny_bind fly)) | exact wpAny_bind fly
/-- a suite's end, told of the def around -/
theorem unsuited {D : Ends} (ok : X.Ok) {oe : Obj} : ∀ {f : Flow}, SP (X.suite a ((a, oe) :: (X.pn ++ pins))) [] D f s → SP X pins D f s
  | .next, ⟨_, _, S, q⟩ => ⟨_, _, S.unsuite ok, q⟩
  | .brk, ⟨_, _, S, q⟩ => ⟨_, _, S.unsuite ok, q⟩
  | .cont, ⟨_, _, S, q⟩ => ⟨_, _, S.unsuite ok, q⟩
  | .ret _, ⟨_, _, _, S, r, q⟩ => ⟨_, _, _, S.unsuite ok, r, q⟩
/-- .. whose name goes -/
theorem unnamed {D : Ends} {i : Nat} {n : Str} {p : Pos} (hN : X.N.Nodup) (hi : X.N[i]? = some n) (hn : X.env.kindOf n = some .local) : ∀ {f : Flow}, SP X pins (gone D i) f s → wpAny (model X.prog X.w) X.A (do bindName X.env n .none; unbindBehindTheSuite X.env n p) (fun _ s7 => SP X pins D f s7) X.xe s
  | .next, ⟨_, _, J, q⟩ => gone_ok J hN hi hn fun _ J7 => ⟨_, _, J7, q⟩
  | .brk, ⟨_, _, J, q⟩ => gone_ok J hN hi hn fun _ J7 => ⟨_, _, J7, q⟩
  | .cont, ⟨_, _, J, q⟩ => gone_ok J hN hi hn fun _ J7 => ⟨_, _, J7, q⟩
  | .ret _, ⟨_, _, _, J, r, q⟩ => gone_ok J hN hi hn fun _ J7 => ⟨_, _, _, J7, r, q⟩
theorem untried {D : Ends} {xe : Value → Shared → Prop} (ok : X.Ok) : ∀ {f : Flow}, SP (X.tr (X.pn ++ pins) xe) [] D f s → SP X pins D f s
  | .next, ⟨_, _, J, q⟩ => ⟨_, _, J.ofTry ok, q⟩
  | .brk, ⟨_, _, J, q⟩ => ⟨_, _, J.ofTry ok, q⟩
  | .cont, ⟨_, _, J, q⟩ => ⟨_, _, J.ofTry ok, q⟩
  | .ret _, ⟨_, _, _, J, r, q⟩ => ⟨_, _, _, J.ofTry ok, r, q⟩
/-- the clauses, one after the other -/
theorem mix_go {Wout : WX} {D : Ends} (hs : X.stack = X.env :: X.outer) (hf : X.env.frame = some X.env.locals) (hN : X.N.Nodup) (tk : Takes X Wout) (L : Landed X pins σ H a B sI cls d s) {hds : List ExceptHandler} {l : List (Value × Wish)} (hh : Mix X hds l) :
    wMix X.K Wout D l cls d σ H → wpAny (model X.prog X.w) X.A (handleBy (.ref a) X.env hds) (SP X pins D) X.xe s := by
  have ok := L.inv.ok
  induction hh with
  | nil => exact L.out hs hf tk
  | bare hc hsu r ih =>
    rintro ⟨b, hb, yes, no⟩
    apply wpAny_handleBy_cons (codeAny_handlers_test (L.asked hf hc hb ?_)) (fun z => nomatch z)
    cases b with
    | false => exact ih (no rfl)
    | true => exact codeAny_handlers_suite (L.again fun s4 L4 => let ⟨oe, _, z, dt, S⟩ := L4.suite hf
        wpAny_mono ((hsu a oe cls d (X.pn ++ pins) z dt).run [] s4 σ H _ S (yes rfl a L.new)) (fun _ _ q => unsuited ok q) fun _ _ x => x.elim)
  | named hi hn hc hsu r ih =>
    rintro ⟨b, hb, yes, no⟩
    apply wpAny_handleBy_cons (codeAny_handlers_test (L.asked hf hc hb ?_)) (fun z => nomatch z)
    cases b with
    | false => exact ih (no rfl)
    | true => exact codeAny_handlers_suite_as (L.again fun s4 L4 => let ⟨oe, _, z, dt, S⟩ := L4.suite hf
        store_ok (X := X.suite a ((a, oe) :: (X.pn ++ pins))) (v := .ref a) S hN hi (.inl hn) rfl (fun s5 S5 =>
          wpAny_mono ((hsu a oe cls d (X.pn ++ pins) z dt).run [] s5 _ H _ S5 (yes rfl a L.new)) (fun _ _ q => unnamed hN hi hn (unsuited ok q)) fun _ _ x => x.elim) (.inr hn))
end
/-- try: body, and clauses of any kind -/
theorem ps_try_mix {X : Cx} {body : List Stmt} {h₀ : ExceptHandler} {hds : List ExceptHandler} {l : List (Value × Wish)} {pos : Pos} {tb : WX → TS} {Wout : WX} (hs : X.stack = X.env :: X.outer) (hf : X.env.frame = some X.env.locals) (hN : X.N.Nodup) (tk : Takes X Wout)
    (hb : ∀ (W : WX) (pn : List (Addr × Obj)) (xe : Value → Shared → Prop), Takes (X.tr pn xe) W → PassesOwn (model X.prog X.w) X.A X.env xe → PSs (X.tr pn xe) body (tb W)) (hh : Mix X (h₀ :: hds) l) :
    PS X (.Try body (h₀ :: hds) [] [] pos) (fun D σ H => tb (wMix X.K Wout D l) D σ H) := by
  constructor
  intro pins s0 σ H D I h
  apply wpAny_Try_except
  apply wpAny_mono ((hb (wMix X.K Wout D l) (X.pn ++ pins) _ ?_ PassesOwn.looking).run [] s0 σ H D (I.toTry _) h) (fun f s1 q => ?_) fun _ _ x => x
  · rintro _ s' ⟨a, B, sI, _, σ', H', cls, d, rfl, J, nb, up, sky, na, os, ag, w⟩
    have sky : Sky B (X.env :: X.outer) a (Zc cls d) X.env.locals s'.heap := by rw [← hs]; exact sky
    exact Sky.land Zc.steady (I.ok.frames.trans (congrArg some hs)) hf sky fun h3 f3 u3 => mix_go (s := { s' with heap := h3 }) hs hf hN tk ⟨J.ofTry I.ok, nb, up.trans u3, f3, na, os, ag⟩ hh w
  · cases f with
    | next => exact let ⟨_, _, J, r⟩ := q; wpAny_execs_nil ⟨_, _, J.ofTry I.ok, r⟩
    | brk => exact untried (f := .brk) I.ok q
    | cont => exact untried (f := .cont) I.ok q
    | ret u => exact untried (f := .ret u) I.ok q
end Tw
namespace K55
open PySem PySem.Spec PyProof.Rows L2 Tw Sb
/-- what the top says of the errors' classes, for a def that asks them one after the other -/
structure NbR (K : PySem.W.Frag) (mg : Str → Option Value) (CB CW : Addr) : Prop where
  xf : XfC K CB
  exc : ExcC K CB
  gW : mg "WireError" = some (.ref CW)
  nV : mg "ValueError" = none
  te : PySem.W.exmOne K (.ref CB) (.ref CB) = some true
  tW : PySem.W.exmOne K (.ref CB) (.ref CW) = some true
  kW : PySem.W.kitOne K (.ref CB) (.ref CW) = some true
  kV : PySem.W.kitOne K (.ref CB) (.type "ValueError") = some true
  c1 : ∃ C, mg "NoText" = some (.ref C) ∧ PySem.W.exmOne K (.ref CB) (.ref C) = some false
  c2 : ∃ C, mg "NoThing" = some (.ref C) ∧ PySem.W.exmOne K (.ref CB) (.ref C) = some false
  c3 : ∃ C, mg "NoTurn" = some (.ref C) ∧ PySem.W.exmOne K (.ref CB) (.ref C) = some false
/-- the deed raises the error that is told so -/
def TRef (CB : Addr) : (V → XK → Hp → VK → Prop) → V → Hp → VK → Prop := fun tl hv H Q =>
  ∀ (E : XK) (Q' : VK), (∀ (d : Addr) (H' : Hp), H' d = some (.xd [(("why" : Str), .str "wire")]) → Q (.bl true) H' → E (.ref CB) (some d) H') → tl hv E H Q'
section
variable {P : Program} {w : World} {K : PySem.W.Frag} {mg : Str → Option Value} {base : Heap}
theorem refused_gives {CB CW fI : Addr} (T : Bt mg) (N : NbC K mg "NoBytes" CB fI) (R : NbR K mg CB CW) :
    GivesD P w K mg base N__law_refused "_law_refused" (defScope s__law_refused) (defBody s__law_refused) "_law_deed" "_law_handed" (TRef CB) := by
  intro CX EX A outer g cdg f hv s H Q tl act h
  obtain ⟨C1, g1, e1⟩ := R.c1
  obtain ⟨C2, g2, e2⟩ := R.c2
  obtain ⟨C3, g3, e3⟩ := R.c3
  refine ⟨_, (pss_cons (ps_try_mix (Wout := fun _ _ _ _ => False) rfl rfl sc__law_refused.nd takes0 (fun W pn xe tk _ => pss_one (ps_expr (act W pn xe _ _ _ tk))) (.bare ⟨rfl, by decide, Or.inl g1⟩ (fun a oe cls d pn hz hf => pss_one (ps_ret pe_bl)) (.bare ⟨rfl, by decide, Or.inl g2⟩ (fun a oe cls d pn hz hf => pss_one (ps_ret pe_bl)) (.bare ⟨rfl, by decide, Or.inl g3⟩ (fun a oe cls d pn hz hf => pss_one (ps_ret pe_bl)) (.named (i := 2) rfl rfl ⟨rfl, by decide, Or.inl N.g⟩ (fun a oe cls d pn hz hf => pss_one (ps_ret (pe_and (pe_cmpR op_eq (pe_xf R.xf N.no hz hf (pv 2)) pe_str (nomark _)) (pe_and (pe_callB (id := "isinstance") (call_isX R.exc hz hf) (by rfl) T.n_isinstance (by decide +kernel) (pa_cons (pv 2) (pa_cons (C8.pe_gc rfl ⟨_, R.gW, (show RelV (V.ref CW) _ from rfl)⟩) pa_nil))) (pe_one (pe_callB (id := "isinstance") (call_isX R.exc hz hf) (by rfl) T.n_isinstance (by decide +kernel) (pa_cons (pv 2) (pa_cons (pe_bltn (v := .ty "ValueError") rfl R.nV (by decide +kernel) rfl) pa_nil)))))))) .nil)))))
      (pss_one (ps_ret pe_bl))), ?_⟩
  refine ⟨rfl, hv, rfl, h _ _ fun d H' he hq => ⟨false, e1, (fun z => nomatch z), fun _ => ⟨false, e2, (fun z => nomatch z), fun _ => ⟨false, e3, (fun z => nomatch z), fun _ => ⟨true, R.te, fun _ a0 ha0 => ?_, fun z => nomatch z⟩⟩⟩⟩⟩
  refine ⟨_, rfl, rfl, rfl, d, _, _, rfl, he, rfl, rfl, _, rfl, ?_⟩
  rw [decide_eq_true (show V.str "wire" = V.str "wire" from rfl)]
  refine iteT ⟨_, rfl, _, _, true, d, _, rfl, rfl, rfl, he, fun u h => h, R.kW, _, rfl, ?_⟩
  refine iteT ⟨_, rfl, _, _, true, d, _, rfl, rfl, rfl, he, fun u h => h, R.kV, hq⟩
theorem any_gives {CB CW : Addr} (R : NbR K mg CB CW) :
    GivesD P w K mg base N__law_any_refusal "_law_any_refusal" (defScope s__law_any_refusal) (defBody s__law_any_refusal) "_law_deed" "_law_handed" (TRef CB) := by
  intro CX EX A outer g cdg f hv s H Q tl act h
  refine ⟨_, (pss_cons (ps_try_mix (Wout := fun _ _ _ _ => False) rfl rfl sc__law_any_refusal.nd takes0 (fun W pn xe tk _ => pss_one (ps_expr (act W pn xe _ _ _ tk))) (.bare ⟨rfl, by decide, Or.inl R.gW⟩ (fun a oe cls d pn hz hf => pss_one (ps_ret pe_bl)) .nil))
      (pss_one (ps_ret pe_bl))), ?_⟩
  exact ⟨rfl, hv, rfl, h _ _ fun d H' he hq => ⟨true, R.tW, fun _ a0 ha0 => hq, fun z => nomatch z⟩⟩
end
end K55
namespace K55
open PySem PySem.Spec PyProof.Rows L2 Tw Sb
section
variable {P : Program} {w : World} {K : PySem.W.Frag} {mg : Str → Option Value} {base : Heap}
theorem ok_without_zeros {f : Addr} {fd : FuncData} (F : Fun K "_without_zeros" "_without_zeros" s__without_zeros f fd) (T : Bt mg) (g_LONGEST_RUN : Gi mg "LONGEST_RUN" 254) (c__zeros : Cal P w K mg base 1 "_zeros" ["data"] spZeros) : FnOk P w K mg base CX0 2 f fd ["whole"] spWz := by
  refine F.ok sc__without_zeros (fun vs H Q E h => ?_) (fun cdv A outer s H vs Q E hr h => ?_)
  · obtain ⟨a, xs, rfl, _⟩ := h
    rfl
  · obtain ⟨a, xs, rfl, hA, hB, hl, q⟩ := h
    refine ⟨_, (pss_cons (ps_set (i := 1) sc__without_zeros.nd rfl (.inl rfl) (pe_lst pa_nil))
      (pss_cons (ps_set (i := 2) sc__without_zeros.nd rfl (.inl rfl) pe_int)
      (pss_cons (ps_for PassesOwn.never rfl (pi_list (pe_lst (StX.pa_star (pe_cal c__zeros hr (by decide) (by rfl) (pa_cons (pv 0) pa_nil)) (pa_cons (pe_callB call_len_seq (by rfl) T.n_len (by decide +kernel) (pa_cons (pv 0) pa_nil)) pa_nil)))) (pg_name (i := 3) sc__without_zeros.nd rfl (.inl rfl))
        (pss_cons (ps_while PassesOwn.never (PW.pt (pw_or (pt_cmpR op_gt (pe_op op_sub (pv 3) (pv 2)) (C8.pe_gc rfl g_LONGEST_RUN) (nomark _)) (pw_or1 (PW.pt (pw_and (pt_cmpR op_eq (pe_op op_sub (pv 3) (pv 2)) (C8.pe_gc rfl g_LONGEST_RUN) (nomark _)) (pw_and1 (pt_cmpR op_lt (pv 3) (pe_callB call_len_seq (by rfl) T.n_len (by decide +kernel) (pa_cons (pv 0) pa_nil)) (nomark _))))))))
          (pss_cons (ps_expr (pe_bm PySem.F.plainAttrs_list PySem.F.slot_list_extend PySem.F.type_list_extend mt_extend (pv 1) (pa_cons (pe_lst (pa_cons (pe_op op_add (C8.pe_gc rfl g_LONGEST_RUN) pe_int) (StX.pa_star (pe_slice (r := rSlL K) sl_list (pv 0) (po_some (pv 2)) (po_some (pe_op op_add (pv 2) (C8.pe_gc rfl g_LONGEST_RUN)))) pa_nil))) pa_nil)))
          (pss_one (ps_aug (i := 2) sc__without_zeros.nd rfl (.inl rfl) (C8.pe_gc rfl g_LONGEST_RUN) ip_add))))
        (pss_cons (ps_expr (pe_bm PySem.F.plainAttrs_list PySem.F.slot_list_extend PySem.F.type_list_extend mt_extend (pv 1) (pa_cons (pe_lst (pa_cons (pe_op op_add (pe_op op_sub (pv 3) (pv 2)) pe_int) (StX.pa_star (pe_slice (r := rSlL K) sl_list (pv 0) (po_some (pv 2)) (po_some (pv 3))) pa_nil))) pa_nil)))
        (pss_one (ps_set (i := 2) sc__without_zeros.nd rfl (.inl rfl) (pe_op op_add (pv 3) pe_int))))))
      (pss_one (ps_ret (pv 1)))))), ?_⟩
    have sz : ∀ {m n : Nat}, m + n ≤ 2000000 → m + n ≤ sizeLine := fun h => Nat.le_trans h (by decide)
    refine ⟨Nat.zero_le _, fun p hp => ?_⟩
    have nP0 : Nw H (upd H p (.lst [])) p [] := ⟨hp, upd_same⟩
    have s0 := same_upd (o := .lst []) hp
    generalize upd H p (.lst []) = H0 at nP0 s0 ⊢
    refine ⟨_, rfl, a, xs, rfl, .inl (s0 _ _ hA), Nat.le_trans hl (by decide), fun H1 z s1 hz hZ => ?_⟩
    have hA1 := s1 _ _ (s0 _ _ hA)
    have s01 := s0.trans s1
    refine ⟨z, _, rfl, .inr (SqL.of hZ), _, rfl, a, _, rfl, .inl (SqL.of hA1), ?_, fun u hu => ?_⟩
    · rw [List.length_append, List.length_map]
      have := zs_length 0 xs
      exact Nat.le_trans (show (zs 0 xs).length + 1 ≤ 200001 by omega) (by decide)
    rw [iV_len]
    generalize hL : ((zs 0 xs).map fun (i : Nat) => V.int i) ++ [V.int (xs.length : Nat)] = L
    have hU : (upd H1 u (.lst L)) u = some (.lst L) := upd_same
    have s02 := s01.trans (same_upd (o := .lst L) hu)
    have nP2 := (nP0.same s1).same (same_upd (o := .lst L) hu)
    have nup : u ≠ p := fun e => by
      have := (nP0.same s1).at_
      rw [← e, hu] at this
      cases this
    generalize upd H1 u (.lst L) = H2 at hU s02 nP2 ⊢
    have hLl : L.length = (zs 0 xs).length + 1 := by rw [← hL]; simp
    refine ⟨u, rfl, ⟨_, SqL.of hU⟩, ?_⟩
    refine for_it (walk_list (K := K) (a := u) (xs := L)) (fun k σ H' => ∃ (st : Nat) (wr : List Int) (y : Option V), σ = [some (.ref a), some (.ref p), some (.int (st : Nat)), y] ∧ Same H H' ∧ H' u = some (.lst L) ∧ Nw H H' p wr ∧
        ((k ≤ (zs 0 xs).length ∧ (zs 0 xs).drop k = zs st (xs.drop st) ∧ st ≤ xs.length ∧ enc [] xs = wr ++ enc [] (xs.drop st)) ∨ (k = (zs 0 xs).length + 1 ∧ wr = enc [] xs)))
      ⟨0, [], none, rfl, s02, hU, nP2, .inl ⟨Nat.zero_le _, rfl, Nat.zero_le _, rfl⟩⟩ (fun k σ H' _ h => ?_) ?_ ?_
    · obtain ⟨_, _, _, _, _, h2, _⟩ := h
      exact SqL.of h2
    · rintro k x σ H3 H4 hk ⟨st, wr, y, rfl, hs, hU3, nP, hor⟩ ⟨rfl, hx⟩
      obtain ⟨hk1, hzs, hst, henc⟩ := hor.resolve_right (fun q => by omega)
      -- the end, the stretch
      obtain ⟨e, seg, last, ex, he1, he2, hseg, hlast, hnx, hps⟩ : ∃ (e : Nat) (seg : List Int) (last : Bool), x = V.int (e : Nat) ∧ e = st + seg.length ∧ e ≤ xs.length ∧ (xs.drop st).take (e - st) = seg ∧ (last = true ↔ e = xs.length) ∧
          ((k + 1 ≤ (zs 0 xs).length ∧ (zs 0 xs).drop (k + 1) = zs (e + 1) (xs.drop (e + 1)) ∧ e + 1 ≤ xs.length ∧ enc [] xs = wr ++ encS last seg ++ enc [] (xs.drop (e + 1))) ∨ (k + 1 = (zs 0 xs).length + 1 ∧ enc [] xs = wr ++ encS last seg)) ∧ Ps seg := by
        by_cases c : k < (zs 0 xs).length
        · have hi := List.getElem?_eq_getElem c
          generalize hiv : (zs 0 xs)[k] = i at hi
          have hdr : (zs 0 xs).drop k = i :: (zs 0 xs).drop (k + 1) := by
            rw [List.drop_eq_getElem_cons c, hiv]
          obtain ⟨seg, r, exs, hNs, ei, ezs⟩ := zs_cons (hzs.symm.trans hdr)
          have hsl : st + seg.length + 1 + r.length = xs.length := by
            have e := congrArg List.length exs
            rw [List.length_drop, List.length_append, List.length_cons] at e
            omega
          have er : xs.drop (i + 1) = r := by
            have e := congrArg (List.drop (seg.length + 1)) exs
            rw [List.drop_drop] at e
            rw [show i + 1 = st + (seg.length + 1) by omega, e, List.drop_append]
            simp
          have hBs : By seg := by
            have := hB.drop st
            rw [exs] at this
            exact this.left
          refine ⟨i, seg, false, ?_, ei, by omega, ?_, ?_, .inl ⟨c, by rw [er]; exact ezs, by omega, ?_⟩, Ps.of hBs hNs⟩
          · rw [← hL, List.getElem?_append_left (by simpa using c), List.getElem?_map, hi] at hx
            exact (Option.some.inj hx).symm
          · rw [exs, show i - st = seg.length by omega, List.take_left']
            rfl
          · constructor
            · intro w
              cases w
            · intro w
              omega
          · rw [henc, exs, enc_nz [] hNs, List.nil_append, er, List.append_assoc]
        · have ck : k = (zs 0 xs).length := by omega
          have hnz : NZ (xs.drop st) := by
            rw [ck, List.drop_length] at hzs
            exact nz_of_zs hzs.symm
          refine ⟨xs.length, xs.drop st, true, ?_, by rw [List.length_drop]; omega, Nat.le_refl _, by rw [List.take_of_length_le (by rw [List.length_drop]; exact Nat.le_refl _)], by simp, .inr ⟨by omega, ?_⟩, Ps.of (hB.drop st) hnz⟩
          · rw [← hL, ck, List.getElem?_append_right (by simp)] at hx
            simp at hx
            exact hx.symm
          · rw [henc, enc_end [] hnz, List.nil_append]
      subst ex
      have hA3 := hs _ _ hA
      -- the full runs
      refine ⟨fun m σ H' => ∃ (st' : Nat) (wr' : List Int), σ = [some (.ref a), some (.ref p), some (.int (st' : Nat)), some (.int (e : Nat))] ∧ Same H H' ∧ H' u = some (.lst L) ∧ Nw H H' p wr' ∧ st ≤ st' ∧ st' ≤ e ∧ wr' ++ encS last ((xs.drop st').take (e - st')) = wr ++ encS last seg ∧ m = e - st',
        ⟨_, st, wr, rfl, hs, hU3, nP, Nat.le_refl _, by omega, by rw [hseg], rfl⟩, ?_⟩
      rintro m σ H5 ⟨st', wr', rfl, hs5, hU5, nP5, h1, h2, h3, rfl⟩
      have hA5 := hs5 _ _ hA
      have ls : ((xs.drop st').take (e - st')).length = e - st' := by
        rw [List.length_take, List.length_drop]
        omega
      have hwl : wr'.length ≤ 500000 := by
        have e1 := congrArg List.length h3
        rw [List.length_append, List.length_append] at e1
        have e2 := enc_len [] xs
        have e3 : (enc [] xs).length ≥ (wr ++ encS last seg).length := by
          rcases hnx with ⟨_, _, _, h⟩ | ⟨_, h⟩
          · rw [h, List.length_append]
            exact Nat.le_add_right _ _
          · rw [h]
            exact Nat.le_refl _
        rw [List.length_append] at e3
        have e4 : ([] : List Int).length = 0 := rfl
        omega
      -- what follows the while
      have behind : ¬ (254 < e - st' ∨ (e - st' = 254 ∧ last = false)) → ∀ t : Addr, H5 t = none → ∀ r : Addr, (upd H5 t (.lst (iV ((xs.drop st').take (e - st'))))) r = none →
          ∃ H6, H6 = upd (upd (upd H5 t (.lst (iV ((xs.drop st').take (e - st'))))) r (.lst (iV ((((e : Nat) : Int) - (st' : Nat) + 1) :: ((xs.drop st').take (e - st')))))) p (.lst (iV (wr' ++ ((((e : Nat) : Int) - (st' : Nat) + 1) :: ((xs.drop st').take (e - st')))))) ∧
            (∃ (st : Nat) (wr : List Int) (y : Option V), ([some (.ref a), some (.ref p), some (.int (((e : Nat) : Int) + 1)), some (.int (e : Nat))] : L2.St) = [some (.ref a), some (.ref p), some (.int (st : Nat)), y] ∧ Same H H6 ∧ H6 u = some (.lst L) ∧ Nw H H6 p wr ∧
        ((k + 1 ≤ (zs 0 xs).length ∧ (zs 0 xs).drop (k + 1) = zs st (xs.drop st) ∧ st ≤ xs.length ∧ enc [] xs = wr ++ enc [] (xs.drop st)) ∨ (k + 1 = (zs 0 xs).length + 1 ∧ wr = enc [] xs))) := by
        intro hc t ht r hr0
        refine ⟨_, rfl, e + 1, wr ++ encS last seg, some (.int (e : Nat)), by rw [show ((e : Nat) : Int) + 1 = ((e + 1 : Nat) : Int) by omega], fun b o hb => ?_, ?_, ⟨nP5.new, ?_⟩, ?_⟩
        · have h5 := hs5 _ _ hb
          have h6 : (upd H5 t (.lst (iV ((xs.drop st').take (e - st'))))) b = some o := by rw [upd_ne (ne_of_none h5 ht)]; exact h5
          rw [upd_ne (ne_of_none hb nP5.new), upd_ne (ne_of_none h6 hr0)]
          exact h6
        · have h6 : (upd H5 t (.lst (iV ((xs.drop st').take (e - st'))))) u = some (.lst L) := by rw [upd_ne (ne_of_none hU5 ht)]; exact hU5
          rw [upd_ne nup, upd_ne (ne_of_none h6 hr0)]
          exact h6
        · rw [upd_same, ← h3, encS_end (by rw [ls]; exact hc), ls, show ((e : Nat) : Int) - (st' : Nat) = ((e - st' : Nat) : Int) by omega]
        · rcases hnx with ⟨n1, n2, n3, n4⟩ | ⟨n1, n2⟩
          · exact .inl ⟨n1, n2, n3, n4⟩
          · exact .inr ⟨n1, n2.symm⟩
      have step : (254 < e - st' ∨ (e - st' = 254 ∧ last = false)) → ∀ t : Addr, H5 t = none → ∀ r : Addr, (upd H5 t (.lst (iV ((xs.drop st').take 254)))) r = none →
          ∃ H6, H6 = upd (upd (upd H5 t (.lst (iV ((xs.drop st').take 254)))) r (.lst (iV (255 :: ((xs.drop st').take 254))))) p (.lst (iV (wr' ++ (255 :: ((xs.drop st').take 254))))) ∧
            ∃ m', m' < e - st' ∧ ∃ (st'' : Nat) (wr'' : List Int), ([some (.ref a), some (.ref p), some (.int (((st' : Nat) : Int) + 254)), some (.int (e : Nat))] : L2.St) = [some (.ref a), some (.ref p), some (.int (st'' : Nat)), some (.int (e : Nat))] ∧ Same H H6 ∧ H6 u = some (.lst L) ∧ Nw H H6 p wr'' ∧ st ≤ st'' ∧ st'' ≤ e ∧ wr'' ++ encS last ((xs.drop st'').take (e - st'')) = wr ++ encS last seg ∧ m' = e - st'' := by
        intro hc t ht r hr0
        refine ⟨_, rfl, e - (st' + 254), by omega, st' + 254, wr' ++ (255 :: ((xs.drop st').take 254)), by rw [show ((st' : Nat) : Int) + 254 = ((st' + 254 : Nat) : Int) by omega], fun b o hb => ?_, ?_, ⟨nP5.new, upd_same⟩, by omega, by omega, ?_, rfl⟩
        · have h5 := hs5 _ _ hb
          have h6 : (upd H5 t (.lst (iV ((xs.drop st').take 254)))) b = some o := by rw [upd_ne (ne_of_none h5 ht)]; exact h5
          rw [upd_ne (ne_of_none hb nP5.new), upd_ne (ne_of_none h6 hr0)]
          exact h6
        · have h6 : (upd H5 t (.lst (iV ((xs.drop st').take 254)))) u = some (.lst L) := by rw [upd_ne (ne_of_none hU5 ht)]; exact hU5
          rw [upd_ne nup, upd_ne (ne_of_none h6 hr0)]
          exact h6
        · rw [← h3, encS_full (seg := (xs.drop st').take (e - st')) (by rw [ls]; exact hc), List.take_take, Nat.min_eq_left (by omega), List.append_assoc, List.drop_take, List.drop_drop, show e - st' - 254 = e - (st' + 254) by omega]
          rfl
      have hA5' := SqL.of (K := K) hA5
      -- the body of the while
      have body : (254 < e - st' ∨ (e - st' = 254 ∧ last = false)) → ∀ (N : L2.St → Hp → Prop), (∀ σ' H', (∃ m', m' < e - st' ∧ ∃ (st'' : Nat) (wr'' : List Int), σ' = [some (.ref a), some (.ref p), some (.int (st'' : Nat)), some (.int (e : Nat))] ∧ Same H H' ∧ H' u = some (.lst L) ∧ Nw H H' p wr'' ∧ st ≤ st'' ∧ st'' ≤ e ∧ wr'' ++ encS last ((xs.drop st'').take (e - st'')) = wr ++ encS last seg ∧ m' = e - st'') → N σ' H') →
          ∀ t : Addr, H5 t = none → (cutV (iV xs) (some (st' : Int)) (some ((st' : Int) + 254)) = iV ((xs.drop st').take 254)) ∧ ∀ r : Addr, (upd H5 t (.lst (iV ((xs.drop st').take 254)))) r = none → (upd (upd H5 t (.lst (iV ((xs.drop st').take 254)))) r (.lst (iV (255 :: ((xs.drop st').take 254))))) p = some (.lst (iV wr')) ∧ (iV wr').length + (iV (255 :: ((xs.drop st').take 254))).length ≤ sizeLine ∧
            N [some (.ref a), some (.ref p), some (.int (((st' : Nat) : Int) + 254)), some (.int (e : Nat))] (upd (upd (upd H5 t (.lst (iV ((xs.drop st').take 254)))) r (.lst (iV (255 :: ((xs.drop st').take 254))))) p (.lst (iV (wr' ++ (255 :: ((xs.drop st').take 254)))))) := by
        intro hc N hN t ht
        refine ⟨by rw [show (st' : Int) + 254 = ((st' + 254 : Nat) : Int) by omega, cut_nn, iV_take, iV_drop, show st' + 254 - st' = 254 by omega], fun r hr0 => ?_⟩
        have hp5 := nP5.at_
        have hp6 : (upd H5 t (.lst (iV ((xs.drop st').take 254)))) p = some (.lst (iV wr')) := by rw [upd_ne (ne_of_none hp5 ht)]; exact hp5
        refine ⟨by rw [upd_ne (ne_of_none hp6 hr0)]; exact hp6, sz ?_, ?_⟩
        · rw [iV_len, iV_len, List.length_cons, List.length_take, List.length_drop]
          omega
        · obtain ⟨H6, e6, h6⟩ := step hc t ht r hr0
          rw [← e6]
          exact hN _ _ h6
      have eI : ((e : Nat) : Int) - ((st' : Nat) : Int) = ((e - st' : Nat) : Int) := by omega
      refine ⟨_, rfl, _, rfl, ((e : Nat) : Int), ((st' : Nat) : Int), rfl, rfl, _, 254, rfl, rfl, _, rfl, ?_⟩
      refine ite2 (fun g => ?_) (fun g => ?_)
      · have hc : 254 < e - st' := by have := of_decide_eq_true g; omega
        refine ⟨_, fun σ' H' h => h, ?_⟩
        refine ⟨_, rfl, .inl ⟨rfl, _, SqL.of nP5.at_⟩, 254, 1, rfl, rfl, _, rfl, _, rfl, _, rfl, _, rfl, _, 254, rfl, rfl, _, rfl, a, _, rfl, hA5', fun t ht => ?_⟩
        obtain ⟨ec, hb⟩ := body (.inl hc) _ (fun σ' H' h => h) t ht
        rw [ec]
        refine ⟨t, _, rfl, .inr (SqL.of upd_same), ?_, fun r hr0 => ?_⟩
        · rw [List.append_nil, List.length_cons, iV_len, List.length_take]
          exact Nat.le_trans (show min 254 _ + 1 ≤ 255 by omega) (by decide)
        obtain ⟨b1, b2, b3⟩ := hb r hr0
        rw [List.append_nil, show V.int (254 + 1) :: iV ((xs.drop st').take 254) = iV (255 :: ((xs.drop st').take 254)) from rfl]
        refine ⟨p, r, _, _, rfl, rfl, b1, upd_same, b2, ?_⟩
        rw [← iV_append]
        exact ⟨_, rfl, _, _, rfl, rfl, b3⟩
      · have hc : ¬ 254 < e - st' := fun w => g (decide_eq_true (by omega))
        refine ⟨_, rfl, _, rfl, ((e : Nat) : Int), ((st' : Nat) : Int), rfl, rfl, rfl, _, rfl, ?_⟩
        refine ite2 (fun g2 => ?_) (fun g2 => ?_)
        · have h254 : e - st' = 254 := by
            have := of_decide_eq_true g2
            injection this with this
            omega
          refine ⟨_, rfl, _, rfl, a, _, rfl, .inl hA5', ((e : Nat) : Int), ((iV xs).length : Nat), rfl, rfl, _, rfl, ?_⟩
          rw [iV_len]
          refine ite2 (fun g3 => ?_) (fun g3 => ?_)
          · have hf : last = false := by
              cases hq : last with
              | false => rfl
              | true =>
                have := of_decide_eq_true g3
                have := hlast.mp hq
                omega
            refine ⟨_, fun σ' H' h => h, ?_⟩
            refine ⟨_, rfl, .inl ⟨rfl, _, SqL.of nP5.at_⟩, 254, 1, rfl, rfl, _, rfl, _, rfl, _, rfl, _, rfl, _, 254, rfl, rfl, _, rfl, a, _, rfl, hA5', fun t ht => ?_⟩
            obtain ⟨ec, hb⟩ := body (.inr ⟨h254, hf⟩) _ (fun σ' H' h => h) t ht
            rw [ec]
            refine ⟨t, _, rfl, .inr (SqL.of upd_same), ?_, fun r hr0 => ?_⟩
            · rw [List.append_nil, List.length_cons, iV_len, List.length_take]
              exact Nat.le_trans (show min 254 _ + 1 ≤ 255 by omega) (by decide)
            obtain ⟨b1, b2, b3⟩ := hb r hr0
            rw [List.append_nil, show V.int (254 + 1) :: iV ((xs.drop st').take 254) = iV (255 :: ((xs.drop st').take 254)) from rfl]
            refine ⟨p, r, _, _, rfl, rfl, b1, upd_same, b2, ?_⟩
            rw [← iV_append]
            exact ⟨_, rfl, _, _, rfl, rfl, b3⟩
          · have hn : ¬ (254 < e - st' ∨ (e - st' = 254 ∧ last = false)) := by
              rintro (w | ⟨_, w⟩)
              · exact hc w
              · have : e = xs.length := by
                  rcases Nat.lt_or_ge e xs.length with z | z
                  · exact absurd (decide_eq_true (show ((e : Nat) : Int) < (xs.length : Nat) by omega)) g3
                  · omega
                rw [hlast.mpr this] at w
                cases w
            refine ⟨_, rfl, .inl ⟨rfl, _, SqL.of nP5.at_⟩, _, rfl, _, rfl, _, _, rfl, rfl, _, 1, rfl, rfl, _, rfl, _, rfl, _, rfl, _, rfl, _, rfl, a, _, rfl, hA5', fun t ht => ?_⟩
            rw [show cutV (iV xs) (some ((st' : Nat) : Int)) (some ((e : Nat) : Int)) = iV ((xs.drop st').take (e - st')) by rw [cut_nn, iV_take, iV_drop]]
            refine ⟨t, _, rfl, .inr (SqL.of upd_same), ?_, fun r hr0 => ?_⟩
            · rw [List.append_nil, List.length_cons, iV_len, ls]
              exact sz (show e - st' + 1 ≤ 2000000 by omega)
            obtain ⟨H6, e6, h6⟩ := behind hn t ht r hr0
            rw [List.append_nil, show V.int (((e : Nat) : Int) - (st' : Nat) + 1) :: iV ((xs.drop st').take (e - st')) = iV ((((e : Nat) : Int) - (st' : Nat) + 1) :: ((xs.drop st').take (e - st'))) from rfl]
            have hp6 : (upd H5 t (.lst (iV ((xs.drop st').take (e - st'))))) p = some (.lst (iV wr')) := by rw [upd_ne (ne_of_none nP5.at_ ht)]; exact nP5.at_
            refine ⟨p, r, _, _, rfl, rfl, by rw [upd_ne (ne_of_none hp6 hr0)]; exact hp6, upd_same, sz ?_, ?_⟩
            · rw [iV_len, iV_len, List.length_cons, ls]
              omega
            rw [← iV_append, ← e6]
            exact ⟨_, rfl, _, 1, rfl, rfl, h6⟩
        · have hn : ¬ (254 < e - st' ∨ (e - st' = 254 ∧ last = false)) := by
            rintro (w | ⟨w, _⟩)
            · exact hc w
            · exact g2 (decide_eq_true (by show V.int (((e : Nat) : Int) - ((st' : Nat) : Int)) = V.int 254; rw [eI, w]; rfl))
          refine ⟨_, rfl, .inl ⟨rfl, _, SqL.of nP5.at_⟩, _, rfl, _, rfl, _, _, rfl, rfl, _, 1, rfl, rfl, _, rfl, _, rfl, _, rfl, _, rfl, _, rfl, a, _, rfl, hA5', fun t ht => ?_⟩
          rw [show cutV (iV xs) (some ((st' : Nat) : Int)) (some ((e : Nat) : Int)) = iV ((xs.drop st').take (e - st')) by rw [cut_nn, iV_take, iV_drop]]
          refine ⟨t, _, rfl, .inr (SqL.of upd_same), ?_, fun r hr0 => ?_⟩
          · rw [List.append_nil, List.length_cons, iV_len, ls]
            exact sz (show e - st' + 1 ≤ 2000000 by omega)
          obtain ⟨H6, e6, h6⟩ := behind hn t ht r hr0
          rw [List.append_nil, show V.int (((e : Nat) : Int) - (st' : Nat) + 1) :: iV ((xs.drop st').take (e - st')) = iV ((((e : Nat) : Int) - (st' : Nat) + 1) :: ((xs.drop st').take (e - st'))) from rfl]
          have hp6 : (upd H5 t (.lst (iV ((xs.drop st').take (e - st'))))) p = some (.lst (iV wr')) := by rw [upd_ne (ne_of_none nP5.at_ ht)]; exact nP5.at_
          refine ⟨p, r, _, _, rfl, rfl, by rw [upd_ne (ne_of_none hp6 hr0)]; exact hp6, upd_same, sz ?_, ?_⟩
          · rw [iV_len, iV_len, List.length_cons, ls]
            omega
          rw [← iV_append, ← e6]
          exact ⟨_, rfl, _, 1, rfl, rfl, h6⟩
    · rintro σ H3 ⟨st, wr, y, rfl, hs, hU3, nP, hor⟩
      rcases hor with ⟨hk1, _⟩ | ⟨_, e⟩
      · omega
      · exact ⟨_, rfl, q _ p hs (e ▸ nP)⟩
theorem ok_streamed {f : Addr} {fd : FuncData} (F : Fun K "streamed" "streamed" s_streamed f fd) (c__refuse_others : Cal P w K mg base 3 "_refuse_others" ["data"] spRefuse) (c__without_zeros : Cal P w K mg base 2 "_without_zeros" ["whole"] spWz) (c__check : Cal P w K mg base 1 "_check" ["part"] spCheck) :
    FnOk P w K mg base CX0 4 f fd ["parts"] spStrm := by
  refine F.ok sc_streamed (fun vs H Q E h => ?_) (fun cdv A outer s H vs Q E hr h => ?_)
  · obtain ⟨a, ps, ws, rfl, _⟩ := h
    rfl
  · obtain ⟨a, ps, ws, rfl, hR, hP, hl, q⟩ := h
    refine ⟨_, (pss_cons (ps_set (i := 1) sc_streamed.nd rfl (.inl rfl) (pe_lst pa_nil))
      (pss_cons (ps_for PassesOwn.never rfl (pi_row (pv 0)) (pg_name (i := 2) sc_streamed.nd rfl (.inl rfl))
        (pss_cons (ps_expr (pe_cal c__refuse_others hr (by decide) (by rfl) (pa_cons (pv 2) pa_nil)))
        (pss_cons (ps_expr (pe_bm PySem.F.plainAttrs_list PySem.F.slot_list_extend PySem.F.type_list_extend mt_extend (pv 1) (pa_cons (pe_cal c__without_zeros hr (by decide) (by rfl) (pa_cons (pe_lst (StX.pa_star (pv 2) (StX.pa_star (pe_cal c__check hr (by decide) (by rfl) (pa_cons (pv 2) pa_nil)) pa_nil))) pa_nil)) pa_nil)))
        (pss_one (ps_expr (pe_bm PySem.F.plainAttrs_list PySem.F.slot_list_append PySem.F.type_list_append mt_append (pv 1) (pa_cons pe_int pa_nil)))))))
      (pss_one (ps_ret (pv 1))))), ?_⟩
    have hl' : (strm ps).length ≤ 4000000 := hl
    refine ⟨Nat.zero_le _, fun p hp => ?_⟩
    have nP0 : Nw H (upd H p (.lst [])) p [] := ⟨hp, upd_same⟩
    have s0 := same_upd (o := .lst []) hp
    generalize upd H p (.lst []) = H0 at nP0 s0 ⊢
    have hR0 := hR.same s0
    refine ⟨_, rfl, a, ws, rfl, hR0.sq, fun bt hb1 hb0 => for_it (walk_row (K := K) (a := a) (xs := ws) (b := bt)) (fun k σ H' => ∃ y, σ = [some (.ref a), some (.ref p), y] ∧ Same H H' ∧ Nw H H' p (strm (ps.take k))) ⟨none, rfl, s0, nP0⟩ (fun k σ H' _ h => ?_) ?_ ?_⟩
    · obtain ⟨_, _, hs, _⟩ := h
      cases bt with
      | true => exact SqT.at_ (hR.keeps s0 hs) (hb1 rfl)
      | false => exact SqL.at_ (hR.keeps s0 hs) (hb0 rfl)
    · rintro k x σ H1 H2 hk ⟨y, rfl, hs, nP⟩ ⟨rfl, hx⟩
      obtain ⟨part, hpk, r, rfl, hr1, hB, hpl⟩ := pd_at hP hx
      have hr2 := hr1.same hs
      have ek : ps.take (k + 1) = ps.take k ++ [part] := by rw [List.take_add_one, hpk]; rfl
      have lk := strm_take_len ps (k + 1)
      rw [ek, strm_append, strm_one, List.length_append, List.length_append] at lk
      have l1 : ([0] : List Int).length = 1 := rfl
      refine ⟨_, rfl, r, part, rfl, hr2, hB, Nat.le_trans hpl (by decide), fun H3 s3 => ?_⟩
      have nP3 := nP.same s3
      have hr3 := hr2.same s3
      refine ⟨_, rfl, .inl ⟨rfl, _, SqL.of nP3.at_⟩, _, rfl, r, _, rfl, SqR.star hr3, _, rfl, r, part, rfl, hr3, hB, Nat.le_trans hpl (by decide), fun H4 c s4 hc hC => ?_⟩
      refine ⟨c, _, rfl, .inr (SqL.of hC), ?_, fun t ht => ?_⟩
      · rw [List.append_nil, List.length_append, iV_len, iV_len, check_length]
        exact Nat.le_trans (show part.length + 4 ≤ 100004 by omega) (by decide)
      rw [List.append_nil, ← iV_append]
      have nP4 := (nP3.same s4).same (same_upd (o := .lst (iV (part ++ check part))) ht)
      have hs4 := ((hs.trans s3).trans s4).trans (same_upd (o := .lst (iV (part ++ check part))) ht)
      refine ⟨t, part ++ check part, rfl, upd_same, whole_by hB, by rw [List.length_append, check_length]; omega, fun H5 e s5 nE => ?_⟩
      have nP5 := nP4.same s5
      have hs5 := hs4.trans s5
      refine ⟨p, e, _, _, rfl, rfl, nP5.at_, nE.at_, ?_, ?_⟩
      · rw [iV_len, iV_len]
        exact Nat.le_trans (show (strm (ps.take k)).length + (piece part).length ≤ 4000000 by omega) (by decide)
      rw [← iV_append]
      refine ⟨_, rfl, .inl ⟨rfl, _, SqL.of upd_same⟩, p, _, _, rfl, rfl, upd_same, ?_, ?_⟩
      · rw [iV_len, List.length_append]
        exact Nat.lt_of_le_of_lt (show (strm (ps.take k)).length + (piece part).length ≤ 4000000 by omega) (by decide)
      rw [← iV_snoc]
      refine ⟨_, rfl, fun b o hb => ?_, nP.new, ?_⟩
      · have nb : b ≠ p := ne_of_none hb hp
        rw [upd_ne nb, upd_ne nb]
        exact hs5 _ _ hb
      · rw [upd_same, ek, strm_append, strm_one, List.append_assoc]
        rfl
    · rintro σ H1 ⟨y, rfl, hs, nP⟩
      refine ⟨_, rfl, q _ p hs ?_⟩
      rw [List.take_of_length_le (by rw [pd_len hP]; exact Nat.le_refl _)] at nP
      exact nP
end
end K55
namespace K55
open PySem PySem.Spec PyProof.Rows L2 Tw Sb
section
variable {P : Program} {w : World} {K : PySem.W.Frag} {mg : Str → Option Value} {base : Heap}
theorem el_part {H : Hp} : ∀ {part : List Int}, By part → Paired (ElT H) (iV part) (part.map fun _ => true)
  | [], _ => .nil
  | n :: r, hB => by
    have hb := hB n List.mem_cons_self
    have z := ElT.int (H := H) n
    rw [decide_eq_true hb.1, decide_eq_true hb.2] at z
    exact .cons z (el_part fun m hm => hB m (List.mem_cons_of_mem _ hm))
theorem byT_part {H : Hp} {r : Addr} {part : List Int} (h : Rw H r (iV part)) (hB : By part) (hl : part.length ≤ big) : ByT H (.ref r) true := by
  have p := el_part (H := H) hB
  have z := ByT.row h p (by simpa [iV] using hl)
  have e : (part.map fun _ => true).all id = true := by
    rw [List.all_eq_true]
    intro x hx
    obtain ⟨_, _, rfl⟩ := List.mem_map.mp hx
    rfl
  rw [e] at z
  exact z
def spStrmX (CB : Addr) : Sp := fun vs H _ E => ∃ (a : Addr) (ps : List (List Int)) (ws : List V) (v : V) (rest : List V), vs = [.ref a] ∧ Rw H a (ws ++ v :: rest) ∧ Paired (PartAt H) ps ws ∧ ByT H v false ∧ (strm ps).length ≤ 4000000 ∧
  ∀ (H' : Hp) (d : Addr), Same H H' → H d = none → H' d = some (.xd [(("why" : Str), .str "wire")]) → E (.ref CB) (some d) H'
theorem ok_streamedX {CB : Addr} {f : Addr} {fd : FuncData} (F : Fun K "streamed" "streamed" s_streamed f fd) (c__refuse_others : CalX P w K mg base 3 "_refuse_others" ["data"] (spRefuseX CB)) (c__without_zeros : Cal P w K mg base 2 "_without_zeros" ["whole"] spWz) (c__check : Cal P w K mg base 1 "_check" ["part"] spCheck) :
    FnOk P w K mg base (L2.CX P w) 4 f fd ["parts"] (spStrmX CB) := by
  refine F.okX sc_streamed (fun vs H Q E h => ?_) (fun cdv A outer s H vs Q E hr h => ?_)
  · obtain ⟨a, ps, ws, v, rest, rfl, _⟩ := h
    rfl
  · obtain ⟨a, ps, ws, v, rest, rfl, hR, hP, hv, hl', q⟩ := h
    refine ⟨_, (pss_cons (ps_set (i := 1) sc_streamed.nd rfl (.inl rfl) (pe_lst pa_nil))
      (pss_cons (ps_for (passes_of rfl) rfl (pi_row (pv 0)) (pg_name (i := 2) sc_streamed.nd rfl (.inl rfl))
        (pss_cons (ps_expr (pe_calX c__refuse_others hr (by decide) (by rfl) (takes_of rfl rfl rfl rfl) (pa_cons (pv 2) pa_nil)))
        (pss_cons (ps_expr (pe_bm PySem.F.plainAttrs_list PySem.F.slot_list_extend PySem.F.type_list_extend mt_extend (pv 1) (pa_cons (pe_cal c__without_zeros hr (by decide) (by rfl) (pa_cons (pe_lst (StX.pa_star (pv 2) (StX.pa_star (pe_cal c__check hr (by decide) (by rfl) (pa_cons (pv 2) pa_nil)) pa_nil))) pa_nil)) pa_nil)))
        (pss_one (ps_expr (pe_bm PySem.F.plainAttrs_list PySem.F.slot_list_append PySem.F.type_list_append mt_append (pv 1) (pa_cons pe_int pa_nil)))))))
      (pss_one (ps_ret (pv 1))))), ?_⟩
    refine ⟨Nat.zero_le _, fun p hp => ?_⟩
    have nP0 : Nw H (upd H p (.lst [])) p [] := ⟨hp, upd_same⟩
    have s0 := same_upd (o := .lst []) hp
    generalize upd H p (.lst []) = H0 at nP0 s0 ⊢
    have hR0 := hR.same s0
    refine ⟨_, rfl, a, _, rfl, hR0.sq, fun bt hb1 hb0 => for_it (walk_row (K := K) (a := a) (xs := ws ++ v :: rest) (b := bt)) (fun k σ H' => k ≤ ps.length ∧ ∃ y, σ = [some (.ref a), some (.ref p), y] ∧ Same H H' ∧ Nw H H' p (strm (ps.take k))) ⟨Nat.zero_le _, none, rfl, s0, nP0⟩ (fun k σ H' _ h => ?_) ?_ ?_⟩
    · obtain ⟨_, _, _, hs, _⟩ := h
      cases bt with
      | true => exact SqT.at_ (hR.keeps s0 hs) (hb1 rfl)
      | false => exact SqL.at_ (hR.keeps s0 hs) (hb0 rfl)
    · rintro k x σ H1 H2 hk ⟨hkp, y, rfl, hs, nP⟩ ⟨rfl, hx⟩
      have hlen := pd_len hP
      by_cases hlast : k = ps.length
      · rw [List.getElem?_append_right (by omega), show k - ws.length = 0 by omega] at hx
        cases hx
        exact ⟨_, rfl, v, false, rfl, hv.same hs, (fun z => nomatch z), fun _ H' d s1 hd he => q H' d (hs.trans s1) (hs.free hd) he⟩
      rw [List.getElem?_append_left (by omega)] at hx
      obtain ⟨part, hpk, r, rfl, hr1, hB, hpl⟩ := pd_at hP hx
      have hr2 := hr1.same hs
      have ek : ps.take (k + 1) = ps.take k ++ [part] := by rw [List.take_add_one, hpk]; rfl
      have lk := strm_take_len ps (k + 1)
      rw [ek, strm_append, strm_one, List.length_append, List.length_append] at lk
      have l1 : ([0] : List Int).length = 1 := rfl
      refine ⟨_, rfl, .ref r, true, rfl, byT_part hr2 hB (Nat.le_trans hpl (by decide)), fun _ H3 s3 => ?_, fun z => nomatch z⟩
      have nP3 := nP.same s3
      have hr3 := hr2.same s3
      refine ⟨_, rfl, .inl ⟨rfl, _, SqL.of nP3.at_⟩, _, rfl, r, _, rfl, SqR.star hr3, _, rfl, r, part, rfl, hr3, hB, Nat.le_trans hpl (by decide), fun H4 c s4 hc hC => ?_⟩
      refine ⟨c, _, rfl, .inr (SqL.of hC), ?_, fun t ht => ?_⟩
      · rw [List.append_nil, List.length_append, iV_len, iV_len, check_length]
        exact Nat.le_trans (show part.length + 4 ≤ 100004 by omega) (by decide)
      rw [List.append_nil, ← iV_append]
      have nP4 := (nP3.same s4).same (same_upd (o := .lst (iV (part ++ check part))) ht)
      have hs4 := ((hs.trans s3).trans s4).trans (same_upd (o := .lst (iV (part ++ check part))) ht)
      refine ⟨t, part ++ check part, rfl, upd_same, whole_by hB, by rw [List.length_append, check_length]; omega, fun H5 e s5 nE => ?_⟩
      have nP5 := nP4.same s5
      have hs5 := hs4.trans s5
      refine ⟨p, e, _, _, rfl, rfl, nP5.at_, nE.at_, ?_, ?_⟩
      · rw [iV_len, iV_len]
        exact Nat.le_trans (show (strm (ps.take k)).length + (piece part).length ≤ 4000000 by omega) (by decide)
      rw [← iV_append]
      refine ⟨_, rfl, .inl ⟨rfl, _, SqL.of upd_same⟩, p, _, _, rfl, rfl, upd_same, ?_, ?_⟩
      · rw [iV_len, List.length_append]
        exact Nat.lt_of_le_of_lt (show (strm (ps.take k)).length + (piece part).length ≤ 4000000 by omega) (by decide)
      rw [← iV_snoc]
      refine ⟨by omega, _, rfl, fun b o hb => ?_, nP.new, ?_⟩
      · have nb : b ≠ p := ne_of_none hb hp
        rw [upd_ne nb, upd_ne nb]
        exact hs5 _ _ hb
      · rw [upd_same, ek, strm_append, strm_one, List.append_assoc]
        rfl
    · rintro σ H1 ⟨hk, _⟩
      have := pd_len hP
      rw [List.length_append, List.length_cons] at hk
      omega
def spUnX (CB : Addr) : Sp := fun vs H _ E => ∃ (v : V), vs = [v] ∧ ByT H v false ∧ ∀ (H' : Hp) (d : Addr), Same H H' → H d = none → H' d = some (.xd [(("why" : Str), .str "wire")]) → E (.ref CB) (some d) H'
theorem ok_unstreamedX {C CB : Addr} {f : Addr} {fd : FuncData} (F : Fun K "unstreamed" "unstreamed" s_unstreamed f fd) (cl : ClF K C) (m_mk : MkC P w K mg base C 1 "Feeder" (spFInit C)) (m_feed : MCalX P w K mg base C 4 "feed" ["self", "data"] (spFeedX CB)) (m_done : MCal P w K mg base C 1 "done" ["self"] (spFDone C)) :
    FnOk P w K mg base (L2.CX P w) 5 f fd ["data"] (spUnX CB) := by
  refine F.okX sc_unstreamed (fun vs H Q E h => ?_) (fun cdv A outer s H vs Q E hr h => ?_)
  · obtain ⟨v, rfl, _⟩ := h
    rfl
  · obtain ⟨v, rfl, hv, q⟩ := h
    refine ⟨_, (pss_cons (ps_set (i := 1) sc_unstreamed.nd rfl (.inl rfl) (pe_mk0 m_mk hr (by decide) (by rfl)))
      (pss_cons (ps_set (i := 2) sc_unstreamed.nd rfl (.inl rfl) (pe_mcalX m_feed cl.cl hr (by decide) (takes_of rfl rfl rfl rfl) (pv 1) (pa_cons (pv 0) pa_nil)))
      (pss_cons (ps_expr (pe_bm PySem.F.plainAttrs_list PySem.F.slot_list_extend PySem.F.type_list_extend mt_extend (pv 2) (pa_cons (pe_mcal0 m_done cl.cl hr (by decide) (pv 1)) pa_nil)))
      (pss_one (ps_ret (pv 2)))))), ?_⟩
    intro p dx np ndx nex
    have s1 : Same H (upd (upd H dx (.own p)) p (.ins C dx [])) := fun b o e => by
      rw [upd_ne (ne_of_none e np), upd_ne (ne_of_none e ndx)]
      exact e
    refine ⟨p, dx, rfl, upd_same, fun H2 l k2 hl2 hF2 => ⟨rfl, ?_⟩⟩
    have s2 : Same H H2 := fun b o e => k2 b o (ne_of_none e np) (s1 _ _ e)
    obtain ⟨dx2, hp2, hL2⟩ := id hF2
    exact ⟨_, rfl, p, dx2, _, rfl, hp2, fd_no _ _ (by decide +kernel) (by decide +kernel), _, rfl, p, v, rfl, hv.same s2, fun H' d s3 hd he => q H' d (s2.trans s3) (s2.free hd) he⟩
end
end K55
namespace K55
open PySem PySem.Spec PyProof.Rows L2 Tw Sb
section
variable {P : Program} {w : World} {K : PySem.W.Frag} {mg : Str → Option Value} {base : Heap}
theorem ok_take {f : Addr} {fd : FuncData} (F : Fun K "_law_take" "_law_take" s__law_take f fd) : FnOk P w K mg base CX0 1 f fd ["_law_state", "_law_many"] spTake := by
  refine F.ok sc__law_take (fun vs H Q E h => ?_) (fun cdv A outer s H vs Q E hr h => ?_)
  · obtain ⟨a, b, m, rfl, _⟩ := h
    rfl
  · obtain ⟨a, b, m, rfl, st, m0, mL, q⟩ := h
    refine ⟨_, (pss_mid (ps_if (PW.pt (pw_and (pt_cmpR op_eq (pe_ix (r := rIxL K) ix_list (pv 0) pe_int (fun _ _ => rfl)) pe_int (nomark _)) (pw_and (pt_cmpR op_eq (pe_op op_mod (pe_ix (r := rIxL K) ix_list (pv 0) pe_int (fun _ _ => rfl)) pe_int) pe_int (nomark _)) (pw_and1 (pt_cmpR (op_neD hr.units) (pe_ix (r := rIxL K) ix_list (pv 0) pe_int (fun _ _ => rfl)) (pe_lst pa_nil) (nomark _))))))
        (pss_cons (ps_set (i := 2) sc__law_take.nd rfl (.inl rfl) (pe_bm PySem.F.plainAttrs_list PySem.F.slot_list_pop PySem.F.type_list_pop mt_popAt (pe_ix (r := rIxL K) ix_list (pv 0) pe_int (fun _ _ => rfl)) (pa_cons pe_int pa_nil)))
        (pss_mid (ps_if (pt_cmpR op_lt (pv 2) pe_int (nomark _))
          (pss_one (ps_set (i := 2) sc__law_take.nd rfl (.inl rfl) (pe_op op_sub pe_int (pe_op op_mul pe_int (pv 2)))))
          pss_nil)
        (pss_one (ps_if (pt_cmpR op_ge (pv 2) (pe_op op_pow pe_int pe_int) (nomark _))
          (pss_one (ps_asg (pv 2) (pg_sub (pv 0) pe_int set_list)))
          (pss_one (ps_asg (pe_op op_mod (pe_op op_add (pe_op op_mul (pe_ix (r := rIxL K) ix_list (pv 0) pe_int (fun _ _ => rfl)) pe_int) (pv 2)) pe_int) (pg_sub (pv 0) pe_int set_list)))))))
        pss_nil)
      (pss_cons (ps_if (pt_cmpR op_gt (pe_ix (r := rIxL K) ix_list (pv 0) pe_int (fun _ _ => rfl)) pe_int (nomark _))
        (pss_cons (ps_set (i := 3) sc__law_take.nd rfl (.inl rfl) (pe_op op_mod (pe_ix (r := rIxL K) ix_list (pv 0) pe_int (fun _ _ => rfl)) (pv 1)))
        (pss_cons (ps_asg (pe_op op_fdivW (pe_ix (r := rIxL K) ix_list (pv 0) pe_int (fun _ _ => rfl)) (pv 1)) (pg_sub (pv 0) pe_int set_list))
        (pss_one (ps_ret (pv 3)))))
        pss_nil)
      (pss_cons (ps_asg (pe_op op_add (pe_ix (r := rIxL K) ix_list (pv 0) pe_int (fun _ _ => rfl)) pe_int) (pg_sub (pv 0) pe_int set_list))
      (pss_cons (ps_set (i := 4) sc__law_take.nd rfl (.inl rfl) (pe_op op_mod (pe_op op_add (pe_ix (r := rIxL K) ix_list (pv 0) pe_int (fun _ _ => rfl)) (pe_op op_mul pe_int (pe_ix (r := rIxL K) ix_list (pv 0) pe_int (fun _ _ => rfl)))) pe_int))
      (pss_cons (ps_set (i := 4) sc__law_take.nd rfl (.inl rfl) (pe_op op_mod (pe_op op_pow (pv 4) pe_int) pe_int))
      (pss_cons (ps_set (i := 4) sc__law_take.nd rfl (.inl rfl) (pe_op op_mod (pe_op op_mul (pv 4) (pe_op op_add (pe_op op_fdiv (pv 4) pe_int) pe_int)) pe_int))
      (pss_one (ps_ret (pe_op op_mod (pe_op op_fdiv (pv 4) pe_int) (pv 1)))))))))), ?_⟩
    refine ⟨fun σ H1 => ∃ y2, σ = [some (.ref a), some (.int m), y2, none, none] ∧ Fs a b H H1, ?_, ?_⟩
    · obtain ⟨nab, ns, x, y, z, hA, hB⟩ := id st
      refine ⟨.ref a, rfl, a, _, 1, .int x, rfl, rfl, SqL.of hA, rfl, rfl, _, rfl, ?_⟩
      refine ite2 (fun g1 => ?_) (fun g1 => ⟨none, rfl, Fs.refl st⟩)
      refine ⟨.ref a, rfl, a, _, 3, .int z, rfl, rfl, SqL.of hA, rfl, z, 5, rfl, rfl, (by show (0 : Int) < 5; decide), rfl, _, rfl, ?_⟩
      refine ite2 (fun g2 => ?_) (fun g2 => ⟨none, rfl, Fs.refl st⟩)
      refine ⟨.ref a, rfl, a, _, 0, .ref b, rfl, rfl, SqL.of hA, rfl, Nat.zero_le _, fun p hp => ?_⟩
      have s1 := same_upd (o := .lst []) hp
      have hA1 := s1 _ _ hA
      have hB1 := s1 _ _ hB
      have hP1 : (upd H p (.lst [])) p = some (.lst (iV [])) := upd_same
      refine ⟨_, _, dpL hB1, dpL hP1, sh_ints _, sh_ints _, _, rfl, ?_⟩
      rw [eqv_ints]
      generalize upd H p (.lst []) = H1 at s1 hA1 hB1
      cases ns with
      | nil => exact iteNS rfl ⟨none, rfl, Fs.of_same st s1⟩
      | cons c ns =>
        refine iteNF (fun z => nomatch z) ?_
        refine ⟨.ref a, rfl, a, _, 0, .ref b, rfl, rfl, SqL.of hA1, rfl, .inl ⟨rfl, _, SqL.of hB1⟩, b, _, 0, 0, .int c, rfl, rfl, hB1, by decide, by decide, seq0 _, rfl, ?_⟩
        have hA2 : (upd H1 b (.lst ((iV (c :: ns)).eraseIdx 0))) a = some (.lst [.ref b, .int x, .int y, .int z]) := by
          rw [upd_ne nab]
          exact hA1
        have hB2 : (upd H1 b (.lst ((iV (c :: ns)).eraseIdx 0))) b = some (.lst (iV ns)) := upd_same
        have k2 : ∀ e o, e ≠ a → e ≠ b → H e = some o → (upd H1 b (.lst ((iV (c :: ns)).eraseIdx 0))) e = some o := fun e o n1 n2 h => by
          rw [upd_ne n2]
          exact s1 _ _ h
        generalize upd H1 b (.lst ((iV (c :: ns)).eraseIdx 0)) = H2 at hA2 hB2 k2 ⊢
        have fin : ∀ xs : List V, (∃ x y z : Int, xs = [.ref b, .int x, .int y, .int z]) → Fs a b H (upd H2 a (.lst xs)) := by
          rintro xs ⟨x, y, z, rfl⟩
          refine ⟨fun e o n1 n2 h => ?_, nab, ns, x, y, z, upd_same, ?_⟩
          · rw [upd_ne n1]
            exact k2 e o n1 n2 h
          · rw [upd_ne nab.symm]
            exact hB2
        refine ⟨fun σ H3 => ∃ c' : Int, σ = [some (.ref a), some (.int m), some (.int c'), none, none] ∧ H3 = H2, ?_, ?_⟩
        · refine ⟨_, rfl, c, 0, rfl, rfl, _, rfl, ?_⟩
          refine ite2 (fun g => ?_) (fun g => ⟨c, rfl, rfl⟩)
          exact ⟨_, rfl, 3, c, rfl, rfl, .inl ⟨by decide, by decide⟩, 0, _, rfl, rfl, _, rfl, rfl⟩
        · rintro σ H3 ⟨c', rfl, rfl⟩
          refine ⟨_, rfl, 10, 18, rfl, rfl, ⟨by decide, by decide, by decide⟩, c', _, rfl, rfl, _, rfl, ?_⟩
          refine ite2 (fun g => ?_) (fun g => ?_)
          · refine ⟨_, rfl, _, rfl, a, _, 1, 1, rfl, rfl, hA2, rfl, _, rfl, fin _ ⟨_, _, _, rfl⟩⟩
          · refine ⟨.ref a, rfl, a, _, 2, .int y, rfl, rfl, SqL.of hA2, rfl, y, 31, rfl, rfl, .inr ⟨by decide, by decide⟩, _, rfl, _, _, rfl, rfl, _, 2147483647, rfl, rfl, (by show (0 : Int) < 2147483647; decide), _, rfl, a, _, 2, 2, rfl, rfl, hA2, rfl, _, rfl, fin _ ⟨_, _, _, rfl⟩⟩
    · rintro σ H1 ⟨y2, rfl, fs⟩
      obtain ⟨nab, ns, x, y, z, hA, hB⟩ := id fs.st
      have fin : ∀ xs : List V, (∃ x y z : Int, xs = [.ref b, .int x, .int y, .int z]) → Fs a b H (upd H1 a (.lst xs)) := by
        rintro xs ⟨x, y, z, rfl⟩
        refine ⟨fun e o n1 n2 h => ?_, nab, ns, x, y, z, upd_same, ?_⟩
        · rw [upd_ne n1]
          exact fs.keep e o n1 n2 h
        · rw [upd_ne nab.symm]
          exact hB
      have em : ∀ v : Int, 0 ≤ v % m ∧ v % m < m := fun v => ⟨Int.emod_nonneg _ (by omega), Int.emod_lt_of_pos _ m0⟩
      refine ⟨.ref a, rfl, a, _, 1, .int x, rfl, rfl, SqL.of hA, rfl, x, 0, rfl, rfl, _, rfl, ?_⟩
      refine ite2 (fun g => ?_) (fun g => ?_)
      · refine ⟨.ref a, rfl, a, _, 1, .int x, rfl, rfl, SqL.of hA, rfl, _, rfl, x, m, rfl, rfl, m0, ?_⟩
        refine ⟨.ref a, rfl, a, _, 1, .int x, rfl, rfl, SqL.of hA, rfl, _, rfl, x, m, rfl, rfl, wide_div (b := 70) m0 (show m.natAbs < 1180591620717411303424 by omega) (by decide) (by decide), ?_⟩
        refine ⟨_, rfl, a, _, 1, 1, rfl, rfl, hA, rfl, _, rfl, ?_⟩
        exact q _ _ (em x).1 (em x).2 (fin _ ⟨_, _, _, rfl⟩)
      · refine ⟨.ref a, rfl, a, _, 3, .int z, rfl, rfl, SqL.of hA, rfl, z, 1, rfl, rfl, ?_⟩
        refine ⟨_, rfl, a, _, 3, 3, rfl, rfl, hA, rfl, ?_⟩
        have hA2 : (upd H1 a (.lst [.ref b, .int x, .int y, .int (z + 1)])) a = some (.lst [.ref b, .int x, .int y, .int (z + 1)]) := upd_same
        refine ⟨_, rfl, a, _, 2, .int y, rfl, rfl, SqL.of hA2, rfl, _, rfl, a, _, 3, .int (z + 1), rfl, rfl, SqL.of hA2, rfl, 104729, z + 1, rfl, rfl, .inl ⟨by decide, by decide⟩, y, _, rfl, rfl, _, 2147483647, rfl, rfl, (by show (0 : Int) < 2147483647; decide), ?_⟩
        dsimp only
        generalize hn : ((y + 104729 * (z + 1)) % 2147483647 : Int) = n1
        have b1 : 0 ≤ n1 ∧ n1 < 2147483647 := by omega
        refine ⟨_, rfl, n1, 5, rfl, rfl, ⟨by decide, by decide, by omega⟩, _, 2147483647, rfl, rfl, (by show (0 : Int) < 2147483647; decide), ?_⟩
        dsimp only
        generalize hn2 : (n1 ^ (5 : Int).toNat % 2147483647 : Int) = n2
        have b2 : 0 ≤ n2 ∧ n2 < 2147483647 := by
          rw [← hn2]
          exact ⟨Int.emod_nonneg _ (by decide), Int.emod_lt_of_pos _ (by decide)⟩
        refine ⟨_, rfl, _, rfl, n2, 1009, rfl, rfl, ⟨by decide, by decide⟩, _, 69621, rfl, rfl, n2, _, rfl, rfl, .inl ⟨by omega, by omega⟩, _, 2147483399, rfl, rfl, (by show (0 : Int) < 2147483399; decide), ?_⟩
        dsimp only
        generalize hn3 : (n2 * (n2 / 1009 + 69621) % 2147483399 : Int) = n3
        refine ⟨_, rfl, n3, 16, rfl, rfl, ⟨by decide, by decide⟩, _, rfl, _, m, rfl, rfl, m0, ?_⟩
        exact q _ _ (em _).1 (em _).2 (fin _ ⟨_, _, _, rfl⟩)
end
end K55
namespace K55
open PySem PySem.Spec PyProof.Rows L2 Tw Sb
theorem pd_take {α β : Type} {F : α → β → Prop} : ∀ {xs : List α} {ys : List β} (n : Nat), Paired F xs ys → Paired F (xs.take n) (ys.take n)
  | _, _, 0, _ => by rw [List.take_zero, List.take_zero]; exact .nil
  | _, _, _ + 1, .nil => .nil
  | _, _, n + 1, .cons h t => .cons h (pd_take n t)
theorem pd_drop {α β : Type} {F : α → β → Prop} : ∀ {xs : List α} {ys : List β} (n : Nat), Paired F xs ys → Paired F (xs.drop n) (ys.drop n)
  | _, _, 0, h => h
  | _, _, _ + 1, .nil => .nil
  | _, _, n + 1, .cons _ t => pd_drop n t
theorem cut_to (ws : List V) (k : Nat) : cutV ws none (some (k : Int)) = ws.take (min k ws.length) := by
  unfold cutV
  rw [HT.sIx_none, HT.sIx_nat, List.drop_zero, Nat.sub_zero]
theorem cut_from (ws : List V) (k : Nat) : cutV ws (some (k : Int)) none = ws.drop (min k ws.length) := by
  unfold cutV
  rw [HT.sIx_none, HT.sIx_nat]
  exact List.take_of_length_le (by rw [List.length_drop]; exact Nat.le_refl _)
/-- a thing of a list: its reading, and whether it is a byte; what it refers to is new behind H0 -/
inductive ElS (H0 H : Hp) : V → PyData → Bool → Prop
  | int (n : Int) : ElS H0 H (.int n) (.int n) (decide (0 ≤ n) && decide (n ≤ 255))
  | bl (c : Bool) : ElS H0 H (.bl c) (.bool c) false
  | non : ElS H0 H .non .none false
  | str (s : Str) (h : PyData.canLay0 (.str s) = true) : ElS H0 H (.str s) (.str s) false
  | row {a : Addr} {ks : List Int} : H0 a = none → H a = some (.lst (iV ks)) → ElS H0 H (.ref a) (.list (ks.map PyData.int)) false
theorem ElS.elT {H0 H : Hp} {x : V} {d : PyData} {b : Bool} (h : ElS H0 H x d b) : ElT H x b := by
  cases h with
  | int n => exact .int n
  | bl c => exact .bl c
  | non => exact .non
  | str s hs => exact .str s
  | row n e => exact .row (.inl e)
theorem ElS.dp {K : PySem.W.Frag} {H0 H : Hp} {x : V} {d : PyData} {b : Bool} (h : ElS H0 H x d b) : Dp K H x d := by
  cases h with
  | int n => exact .int n
  | bl c => exact .bl c
  | non => exact .non
  | str s hs => exact .str s
  | row n e => exact dpL e
theorem ElS.keep {H0 H H' : Hp} {x : V} {d : PyData} {b : Bool} (h : ElS H0 H x d b) (k : ∀ c o, H0 c = none → H c = some o → H' c = some o) : ElS H0 H' x d b := by
  cases h with
  | int n => exact .int n
  | bl c => exact .bl c
  | non => exact .non
  | str s hs => exact .str s hs
  | row n e => exact .row n (k _ _ n e)
theorem canLay_ints : ∀ ks : List Int, PyData.canLayAll0 (ks.map PyData.int) = true
  | [] => rfl
  | k :: r => by
    show (PyData.canLay0 (.int k) && PyData.canLayAll0 (r.map PyData.int)) = true
    rw [canLay_ints r] <;> rfl
theorem depth_ints : ∀ ks : List Int, PyData.depthAll (ks.map PyData.int) ≤ 1
  | [] => by decide
  | k :: r => by
    show max (PyData.depth (.int k)) (PyData.depthAll (r.map PyData.int)) ≤ 1
    exact Nat.max_le.mpr ⟨Nat.zero_le _, depth_ints r⟩
theorem ElS.lay {H0 H : Hp} {x : V} {d : PyData} {b : Bool} (h : ElS H0 H x d b) : d.canLay0 = true ∧ d.depth ≤ 2 := by
  cases h with
  | int n => exact ⟨rfl, Nat.zero_le _⟩
  | bl c => exact ⟨rfl, Nat.zero_le _⟩
  | non => exact ⟨rfl, by decide⟩
  | str s hs => exact ⟨hs, Nat.zero_le _⟩
  | @row a ks n e => exact ⟨canLay_ints ks, Nat.succ_le_succ (depth_ints ks)⟩
abbrev ElZ (H0 H : Hp) (x : V) (z : PyData × Bool) : Prop := ElS H0 H x z.1 z.2
theorem elz_bs {H0 H : Hp} : ∀ {xs : List V} {zs : List (PyData × Bool)}, Paired (ElZ H0 H) xs zs → Paired (ElT H) xs (zs.map (·.2))
  | _, _, .nil => .nil
  | _, _, .cons h r => .cons h.elT (elz_bs r)
theorem elz_dp {K : PySem.W.Frag} {H0 H : Hp} : ∀ {xs : List V} {zs : List (PyData × Bool)}, Paired (ElZ H0 H) xs zs → DpAll K H xs (zs.map (·.1))
  | _, _, .nil => .nil
  | _, _, .cons h r => .cons h.dp (elz_dp r)
theorem elz_lay {H0 H : Hp} : ∀ {xs : List V} {zs : List (PyData × Bool)}, Paired (ElZ H0 H) xs zs → PyData.canLayAll0 (zs.map (·.1)) = true ∧ PyData.depthAll (zs.map (·.1)) ≤ 2
  | _, _, .nil => ⟨rfl, Nat.zero_le _⟩
  | _, _, .cons (b := z) (l₂ := zs) h r => by
    obtain ⟨a, b⟩ := elz_lay r
    obtain ⟨c, d⟩ := h.lay
    refine ⟨?_, Nat.max_le.mpr ⟨d, b⟩⟩
    show (PyData.canLay0 z.1 && PyData.canLayAll0 (zs.map (·.1))) = true
    rw [a, c] <;> rfl
theorem elz_part {H0 H : Hp} : ∀ {part : List Int}, By part → Paired (ElZ H0 H) (iV part) (part.map fun n => (PyData.int n, true))
  | [], _ => .nil
  | n :: r, hB => by
    have hb := hB n List.mem_cons_self
    have z := ElS.int (H0 := H0) (H := H) n
    rw [decide_eq_true hb.1, decide_eq_true hb.2] at z
    exact Paired.cons (F := ElZ H0 H) (b := (PyData.int n, true)) z (elz_part fun m hm => hB m (List.mem_cons_of_mem _ hm))
/-- what is no row of bytes: a list or a tuple with such a thing in it, or a thing of another kind -/
inductive WrS (H0 H : Hp) : V → PyData → Prop
  | lst {R : Addr} {xs : List V} {zs : List (PyData × Bool)} : H0 R = none → H R = some (.lst xs) → Paired (ElZ H0 H) xs zs → xs.length ≤ 20 → (zs.map (·.2)).all id = false → WrS H0 H (.ref R) (.list (zs.map (·.1)))
  | tup {R : Addr} {xs : List V} {zs : List (PyData × Bool)} : H0 R = none → H R = some (.tup xs) → Paired (ElZ H0 H) xs zs → xs.length ≤ 20 → (zs.map (·.2)).all id = false → WrS H0 H (.ref R) (.tuple (zs.map (·.1)))
  | non : WrS H0 H .non .none
  | str (s : Str) (h : PyData.canLay0 (.str s) = true) : WrS H0 H (.str s) (.str s)
  | int (n : Int) : WrS H0 H (.int n) (.int n)
  | bl (b : Bool) : WrS H0 H (.bl b) (.bool b)
theorem WrS.byT {H0 H : Hp} {v : V} {d : PyData} (h : WrS H0 H v d) : ByT H v false := by
  cases h with
  | lst n h p l e => rw [← e]; exact .row (.inl h) (elz_bs p) (Nat.le_trans l (by decide))
  | tup n h p l e => rw [← e]; exact .row (.inr h) (elz_bs p) (Nat.le_trans l (by decide))
  | non => exact .non
  | str s hs => exact .str s
  | int n => exact .int n
  | bl b => exact .bl b
theorem WrS.dp {K : PySem.W.Frag} {H0 H : Hp} {v : V} {d : PyData} (h : WrS H0 H v d) : Dp K H v d := by
  cases h with
  | lst n h p l e => exact .lst (SqL.of h) (elz_dp p)
  | tup n h p l e => exact .tup (SqT.of h) (elz_dp p)
  | non => exact .non
  | str s hs => exact .str s
  | int n => exact .int n
  | bl b => exact .bl b
theorem WrS.lay {H0 H : Hp} {v : V} {d : PyData} (h : WrS H0 H v d) : d.canLay0 = true ∧ d.depth ≤ 3 := by
  cases h with
  | lst n h p l e => exact ⟨(elz_lay p).1, Nat.succ_le_succ (elz_lay p).2⟩
  | tup n h p l e => exact ⟨(elz_lay p).1, Nat.succ_le_succ (elz_lay p).2⟩
  | non => exact ⟨rfl, Nat.zero_le _⟩
  | str s hs => exact ⟨hs, Nat.zero_le _⟩
  | int n => exact ⟨rfl, Nat.zero_le _⟩
  | bl b => exact ⟨rfl, Nat.zero_le _⟩
theorem WrS.keep {H0 H H' : Hp} {v : V} {d : PyData} (h : WrS H0 H v d) (k : ∀ c o, H0 c = none → H c = some o → H' c = some o) : WrS H0 H' v d := by
  cases h with
  | lst n h p l e => exact .lst n (k _ _ n h) (pd_mono (fun _ _ q => q.keep k) p) l e
  | tup n h p l e => exact .tup n (k _ _ n h) (pd_mono (fun _ _ q => q.keep k) p) l e
  | non => exact .non
  | str s hs => exact .str s hs
  | int n => exact .int n
  | bl b => exact .bl b
theorem WrS.old {H0 H1 H : Hp} {v : V} {d : PyData} (h : WrS H1 H v d) (k : ∀ c, H1 c = none → H0 c = none) : WrS H0 H v d := by
  have e : ∀ {x : V} {z : PyData × Bool}, ElZ H1 H x z → ElZ H0 H x z := fun {x z} q => by
    obtain ⟨d, b⟩ := z
    cases q with
    | int n => exact .int n
    | bl c => exact .bl c
    | non => exact .non
    | str s hs => exact .str s hs
    | row n e => exact .row (k _ n) e
  cases h with
  | lst n h p l u => exact .lst (k _ n) h (pd_mono (fun _ _ q => e q) p) l u
  | tup n h p l u => exact .tup (k _ n) h (pd_mono (fun _ _ q => e q) p) l u
  | non => exact .non
  | str s hs => exact .str s hs
  | int n => exact .int n
  | bl b => exact .bl b
section
variable {P : Program} {w : World} {K : PySem.W.Frag} {mg : Str → Option Value} {base : Heap}
def spWrong : Sp := fun vs H Q _ => ∃ (a b g : Addr) (good : List Int), vs = [.ref a, .ref g] ∧ IsSt H a b ∧ g ≠ a ∧ g ≠ b ∧ H g = some (.lst (iV good)) ∧ By good ∧ good.length ≤ 10 ∧ ∀ (H' : Hp) (v : V) (d : PyData), Fs a b H H' → WrS H H' v d → Q v H'
theorem ok_wrong {f : Addr} {fd : FuncData} (F : Fun K "_law_wrong" "_law_wrong" s__law_wrong f fd) (T : Bt mg) (c__law_take : Cal P w K mg base 1 "_law_take" ["_law_state", "_law_many"] spTake) : FnOk P w K mg base CX0 2 f fd ["_law_state", "_law_good"] spWrong := by
  refine F.ok sc__law_wrong (fun vs H Q E h => ?_) (fun cdv A outer s H vs Q E hr h => ?_)
  · obtain ⟨a, b, g, good, rfl, _⟩ := h
    rfl
  · obtain ⟨a, b, g, good, rfl, st, nga, ngb, hg, hB, hl, q⟩ := h
    refine ⟨_, (pss_cons (ps_set (i := 2) sc__law_wrong.nd rfl (.inl rfl) (pe_cal c__law_take hr (by decide) (by rfl) (pa_cons (pv 0) (pa_cons pe_int pa_nil))))
      (pss_cons (ps_set (i := 3) sc__law_wrong.nd rfl (.inl rfl) (pe_cal c__law_take hr (by decide) (by rfl) (pa_cons (pv 0) (pa_cons (pe_op op_pow pe_int pe_int) pa_nil))))
      (pss_cons (ps_if (pt_cmpR op_eq (pv 2) pe_int (nomark _))
        (pss_one (ps_ret (pe_ix (r := rIxL K) ix_list (pe_lst (pa_cons pe_non (pa_cons pe_str (pa_cons pe_str (pa_cons pe_int (pa_cons pe_bl pa_nil)))))) (pe_cal c__law_take hr (by decide) (by rfl) (pa_cons (pv 0) (pa_cons pe_int pa_nil))) (fun _ _ => rfl))))
        pss_nil)
      (pss_cons (ps_set (i := 4) sc__law_wrong.nd rfl (.inl rfl) (pe_ix (r := rIxL K) ix_list (pe_lst (pa_cons pe_int (pa_cons (pe_op op_add pe_int (pv 3)) (pa_cons (pe_un un_neg pe_int) (pa_cons (pe_op op_sub (pe_un un_neg pe_int) (pv 3)) (pa_cons pe_bl (pa_cons pe_bl (pa_cons pe_non (pa_cons pe_str (pa_cons pe_str (pa_cons (pe_lst pa_nil) (pa_cons (pe_lst (pa_cons pe_int pa_nil)) (pa_cons pe_int pa_nil))))))))))))) (pv 2) (fun _ _ => rfl)))
      (pss_cons (ps_set (i := 5) sc__law_wrong.nd rfl (.inl rfl) (pe_cal c__law_take hr (by decide) (by rfl) (pa_cons (pv 0) (pa_cons (pe_op op_add (pe_callB call_len_seq (by rfl) T.n_len (by decide +kernel) (pa_cons (pv 1) pa_nil)) pe_int) pa_nil))))
      (pss_one (ps_ret (pe_op op_cat (pe_op op_cat (pe_slice (r := rSlL K) sl_list (pv 1) po_none (po_some (pv 5))) (pe_lst (pa_cons (pv 4) pa_nil))) (pe_slice (r := rSlL K) sl_list (pv 1) (po_some (pv 5)) po_none))))))))), ?_⟩
    refine ⟨.ref a, rfl, a, b, 12, rfl, st, by decide, by decide, fun way H1 w0 w1 f1 => ?_⟩
    refine ⟨.ref a, rfl, 10, 20, rfl, rfl, ⟨by decide, by decide, by decide⟩, a, b, _, rfl, f1.st, by decide, by decide, fun far H2 r0 r1 f2 => ⟨_, rfl, rfl, _, rfl, ?_⟩⟩
    have f12 := f1.trans f2
    have hg2 := f12.keep _ _ nga ngb hg
    refine ite2 (fun _ => ?_) (fun _ => ?_)
    · refine ⟨by show 5 ≤ sizeLine; decide, fun M hM => ?_⟩
      have sM := same_upd (o := .lst [.non, .str "", .str "12", .int 0, .bl true]) hM
      have hM0 := f12.free st hM
      have hMM : (upd H2 M (.lst [.non, .str "", .str "12", .int 0, .bl true])) M = some (.lst [.non, .str "", .str "12", .int 0, .bl true]) := upd_same
      generalize upd H2 M (.lst [.non, .str "", .str "12", .int 0, .bl true]) = H6 at sM hMM ⊢
      refine ⟨.ref a, rfl, a, b, 5, rfl, f12.st.same sM, by decide, by decide, fun u H7 u0 u1 f7 => ?_⟩
      have f67 := (f12.same sM).trans f7
      have hM7 := f7.keep _ _ (st.na hM0).1 (st.na hM0).2 hMM
      obtain rfl | rfl | rfl | rfl | rfl : u = 0 ∨ u = 1 ∨ u = 2 ∨ u = 3 ∨ u = 4 := by omega
      · exact ⟨M, _, 0, .non, rfl, rfl, SqL.of hM7, rfl, q _ _ _ f67 .non⟩
      · exact ⟨M, _, 1, .str "", rfl, rfl, SqL.of hM7, rfl, q _ _ _ f67 (.str "" (by decide +kernel))⟩
      · exact ⟨M, _, 2, .str "12", rfl, rfl, SqL.of hM7, rfl, q _ _ _ f67 (.str "12" (by decide +kernel))⟩
      · exact ⟨M, _, 3, .int 0, rfl, rfl, SqL.of hM7, rfl, q _ _ _ f67 (.int 0)⟩
      · exact ⟨M, _, 4, .bl true, rfl, rfl, SqL.of hM7, rfl, q _ _ _ f67 (.bl true)⟩
    · refine ⟨_, rfl, 256, far, rfl, rfl, 1, rfl, 1, rfl, _, rfl, -1, far, rfl, rfl, ?_⟩
      refine ⟨by show 0 ≤ sizeLine; decide, fun o ho => ⟨by show 1 ≤ sizeLine; decide, fun o1 ho1 => ⟨by show 12 ≤ sizeLine; decide, fun L hL => ?_⟩⟩⟩
      have sO := ((same_upd (o := .lst []) ho).trans (same_upd (o := .lst [.int 1]) ho1)).trans (same_upd (o := .lst [.int 256, .int (256 + far), .int (-1), .int (-1 - far), .bl true, .bl false, .non, .str "", .str "1", .ref o, .ref o1, .int 256]) hL)
      have hLL : (upd (upd (upd H2 o (.lst [])) o1 (.lst [.int 1])) L (.lst [.int 256, .int (256 + far), .int (-1), .int (-1 - far), .bl true, .bl false, .non, .str "", .str "1", .ref o, .ref o1, .int 256])) L = some (.lst [.int 256, .int (256 + far), .int (-1), .int (-1 - far), .bl true, .bl false, .non, .str "", .str "1", .ref o, .ref o1, .int 256]) := upd_same
      have hO : (upd (upd (upd H2 o (.lst [])) o1 (.lst [.int 1])) L (.lst [.int 256, .int (256 + far), .int (-1), .int (-1 - far), .bl true, .bl false, .non, .str "", .str "1", .ref o, .ref o1, .int 256])) o = some (.lst []) := (same_upd hL) _ _ ((same_upd ho1) _ _ upd_same)
      have hO1 : (upd (upd (upd H2 o (.lst [])) o1 (.lst [.int 1])) L (.lst [.int 256, .int (256 + far), .int (-1), .int (-1 - far), .bl true, .bl false, .non, .str "", .str "1", .ref o, .ref o1, .int 256])) o1 = some (.lst [.int 1]) := (same_upd hL) _ _ upd_same
      have f3 := f12.same sO
      have hg3 := sO _ _ hg2
      have ho0 := f12.free st ho
      have ho10 := f12.free st ((same_upd ho).free ho1)
      have big : ∀ (n : Int), n < 0 ∨ 255 < n → ∀ H' : Hp, ElS H H' (.int n) (.int n) false := fun n hn H' => by
        have z := ElS.int (H0 := H) (H := H') n
        have e : (decide (0 ≤ n) && decide (n ≤ 255)) = false := by
          rw [Bool.and_eq_false_iff, decide_eq_false_iff_not, decide_eq_false_iff_not]
          omega
        rw [e] at z
        exact z
      have hn0 : way ≠ 0 := fun e => by
        rename_i hx
        exact hx (by rw [e] <;> rfl)
      obtain ⟨v, dv, hv, hel⟩ : ∃ v dv, atI [.int 256, .int (256 + far), .int (-1), .int (-1 - far), .bl true, .bl false, .non, .str "", .str "1", .ref o, .ref o1, .int 256] way = some v ∧ ∀ H' : Hp, H' o = some (.lst []) → H' o1 = some (.lst [.int 1]) → ElS H H' v dv false := by
        obtain rfl | rfl | rfl | rfl | rfl | rfl | rfl | rfl | rfl | rfl | rfl : way = 1 ∨ way = 2 ∨ way = 3 ∨ way = 4 ∨ way = 5 ∨ way = 6 ∨ way = 7 ∨ way = 8 ∨ way = 9 ∨ way = 10 ∨ way = 11 := by omega
        · exact ⟨_, _, rfl, fun H' _ _ => big _ (by omega) H'⟩
        · exact ⟨_, _, rfl, fun H' _ _ => big _ (by omega) H'⟩
        · exact ⟨_, _, rfl, fun H' _ _ => big _ (by omega) H'⟩
        · exact ⟨_, _, rfl, fun _ _ _ => .bl true⟩
        · exact ⟨_, _, rfl, fun _ _ _ => .bl false⟩
        · exact ⟨_, _, rfl, fun _ _ _ => .non⟩
        · exact ⟨_, _, rfl, fun _ _ _ => .str "" (by decide +kernel)⟩
        · exact ⟨_, _, rfl, fun _ _ _ => .str "1" (by decide +kernel)⟩
        · exact ⟨_, _, rfl, fun _ h _ => .row (ks := []) ho0 h⟩
        · exact ⟨_, _, rfl, fun _ _ h => .row (ks := [1]) ho10 h⟩
        · exact ⟨_, _, rfl, fun H' _ _ => big _ (by omega) H'⟩
      refine ⟨_, rfl, L, _, way, v, rfl, rfl, SqL.of hLL, hv, ?_⟩
      generalize upd (upd (upd H2 o (.lst [])) o1 (.lst [.int 1])) L (.lst [.int 256, .int (256 + far), .int (-1), .int (-1 - far), .bl true, .bl false, .non, .str "", .str "1", .ref o, .ref o1, .int 256]) = H3 at hO hO1 f3 hg3 ⊢
      refine ⟨.ref a, rfl, _, rfl, g, _, rfl, .inl (SqL.of hg3), _, _, rfl, rfl, a, b, _, rfl, f3.st, by rw [iV_len]; omega, by rw [iV_len]; omega, fun at_ H4 a0 a1 f4 => ?_⟩
      obtain ⟨n, rfl⟩ : ∃ n : Nat, at_ = (n : Int) := ⟨at_.toNat, by omega⟩
      have f34 := f3.trans f4
      have hg4 := f4.keep _ _ nga ngb hg3
      have hO4 := f4.keep _ _ (st.na ho0).1 (st.na ho0).2 hO
      have hO14 := f4.keep _ _ (st.na ho10).1 (st.na ho10).2 hO1
      have hgl : (iV good).length = good.length := iV_len good
      refine ⟨_, rfl, _, rfl, _, rfl, g, _, rfl, SqL.of hg4, fun p1 hp1 => ?_⟩
      rw [cut_to]
      have s1 := same_upd (o := .lst ((iV good).take (min n (iV good).length))) hp1
      refine ⟨_, rfl, by show 1 ≤ sizeLine; decide, fun o2 ho2 => ?_⟩
      have s2 := s1.trans (same_upd (o := .lst [v]) ho2)
      refine ⟨p1, o2, _, _, rfl, rfl, (same_upd ho2) _ _ upd_same, upd_same, Nat.le_trans (show _ ≤ 11 by rw [List.length_take]; show min (min n (iV good).length) (iV good).length + 1 ≤ 11; omega) (by decide), fun R hR => ?_⟩
      have s3 := s2.trans (same_upd (o := .lst ((iV good).take (min n (iV good).length) ++ [v])) hR)
      have hRR : (upd (upd (upd H4 p1 (.lst ((iV good).take (min n (iV good).length)))) o2 (.lst [v])) R (.lst ((iV good).take (min n (iV good).length) ++ [v]))) R = some (.lst ((iV good).take (min n (iV good).length) ++ [v])) := upd_same
      generalize upd (upd (upd H4 p1 (.lst ((iV good).take (min n (iV good).length)))) o2 (.lst [v])) R (.lst ((iV good).take (min n (iV good).length) ++ [v])) = H5 at s3 hRR ⊢
      refine ⟨_, rfl, _, rfl, _, rfl, g, _, rfl, SqL.of (s3 _ _ hg4), fun p2 hp2 => ?_⟩
      rw [cut_from]
      have s4 := same_upd (o := .lst ((iV good).drop (min n (iV good).length))) hp2
      have lA : ((iV good).take (min n (iV good).length) ++ [v] ++ (iV good).drop (min n (iV good).length)).length ≤ 11 := by
        rw [List.length_append, List.length_append, List.length_take, List.length_drop]
        show min (min n (iV good).length) (iV good).length + 1 + _ ≤ 11
        omega
      refine ⟨R, p2, _, _, rfl, rfl, s4 _ _ hRR, upd_same, Nat.le_trans (by rw [← List.length_append]; exact lA) (by decide), fun r hr => ?_⟩
      have s5 := (s3.trans s4).trans (same_upd (o := .lst ((iV good).take (min n (iV good).length) ++ [v] ++ (iV good).drop (min n (iV good).length))) hr)
      have pg := elz_part (H0 := H) (H := (upd (upd H5 p2 (.lst ((iV good).drop (min n (iV good).length)))) r (.lst ((iV good).take (min n (iV good).length) ++ [v] ++ (iV good).drop (min n (iV good).length))))) hB
      have pv := hel _ (s5 _ _ hO4) (s5 _ _ hO14)
      refine q _ _ _ (f34.same s5) (.lst (f34.free st ((s3.trans s4).free hr)) upd_same (pd_append (pd_append (pd_take _ pg) (.cons (b := (dv, false)) pv .nil)) (pd_drop _ pg)) (Nat.le_trans lA (by decide)) ?_)
      rw [List.map_append, List.map_append, List.all_append, List.all_append]
      simp
end
end K55
namespace K55
open PySem PySem.Spec PyProof.Rows L2 Tw Sb
section
variable {P : Program} {w : World} {K : PySem.W.Frag} {mg : Str → Option Value} {base : Heap}
/-- a known def handed over: called with v it raises the error -/
def spRefD (P : Program) (w : World) (K : PySem.W.Frag) (mg : Str → Option Value) (base : Heap) (CB : Addr) : Sp := fun vs H Q _ => ∃ (f : Addr) (v : V) (k : Nat) (fd : FuncData) (ps : List Str) (sp : Sp), vs = [.ref f, v] ∧ FnOk P w K mg base (L2.CX P w) k f fd ps sp ∧ k ≤ 5 ∧ PySem.W.keepIn K (.ref f) = true ∧ Binds K fd ps [] ∧
  TRef CB (fun v E H Q => sp [v] H Q E) v H Q
theorem ok_deed {CB : Addr} {x : Str} {st : Stmt} {f : Addr} {fd : FuncData} {N : List Str} (F : Fun K x x st f fd) (S : FnScope N ["_law_deed", "_law_handed"] (defScope st)) (hNa : N[0]? = some ("_law_deed" : Str)) (hNb : N[1]? = some ("_law_handed" : Str)) (hva : Vis (defScope st) "_law_deed") (hvb : Vis (defScope st) "_law_handed")
    (G : GivesD P w K mg base N x (defScope st) (defBody st) "_law_deed" "_law_handed" (TRef CB)) :
    FnOk P w K mg base CX0 6 f fd ["_law_deed", "_law_handed"] (spRefD P w K mg base CB) := by
  refine F.ok S (fun vs H Q E h => ?_) (fun cdv A outer s H vs Q E hr h => ?_)
  · obtain ⟨_, _, _, _, _, _, rfl, _⟩ := h
    rfl
  · obtain ⟨f', v, k, fd', ps, sp, rfl, F', hk, kp, b, q⟩ := h
    exact G _ _ A outer f cdv f' v s H Q _ (act_fn F' (hr.mono hk) kp b hNa hNb hva hvb) q
theorem ok_refusedD {CB CW fI : Addr} {f : Addr} {fd : FuncData} (F : Fun K "_law_refused" "_law_refused" s__law_refused f fd) (T : Bt mg) (N : NbC K mg "NoBytes" CB fI) (R : NbR K mg CB CW) : FnOk P w K mg base CX0 6 f fd ["_law_deed", "_law_handed"] (spRefD P w K mg base CB) :=
  ok_deed F sc__law_refused rfl rfl (.inl rfl) (.inl rfl) (refused_gives T N R)
theorem ok_anyD {CB CW : Addr} {f : Addr} {fd : FuncData} (F : Fun K "_law_any_refusal" "_law_any_refusal" s__law_any_refusal f fd) (R : NbR K mg CB CW) : FnOk P w K mg base CX0 6 f fd ["_law_deed", "_law_handed"] (spRefD P w K mg base CB) :=
  ok_deed F sc__law_any_refusal rfl rfl (.inl rfl) (.inl rfl) (any_gives R)
/-- streamed, handed over with a row of parts, one of which is none -/
theorem ref_streamed {CB : Addr} {H : Hp} {Q : VK} {a : Addr} {ps : List (List Int)} {ws : List V} {v : V} {rest : List V} (hR : Rw H a (ws ++ v :: rest)) (hP : Paired (PartAt H) ps ws) (hv : ByT H v false) (hl : (strm ps).length ≤ 4000000) (q : ∀ H' : Hp, Same H H' → Q (.bl true) H') :
    TRef CB (fun v E H Q => spStrmX CB [v] H Q E) (.ref a) H Q :=
  fun E Q' hE => ⟨a, ps, ws, v, rest, rfl, hR, hP, hv, hl, fun H' d s _ he => hE d H' he (q H' s)⟩
theorem ref_unstreamed {CB : Addr} {H : Hp} {Q : VK} {v : V} (hv : ByT H v false) (q : ∀ H' : Hp, Same H H' → Q (.bl true) H') : TRef CB (fun v E H Q => spUnX CB [v] H Q E) v H Q :=
  fun E Q' hE => ⟨v, rfl, hv, fun H' d s _ he => hE d H' he (q H' s)⟩
end
end K55
/-! TwL: lists of lists of bytes; what the laws' own readers of streams promise. -/
namespace Tw
open PySem PySem.Spec PyProof.Rows L2 Sb
/-- v is a list of these numbers, new behind H0 -/
def LisN (H0 H : Hp) (p : List Int) (v : V) : Prop := ∃ l, v = .ref l ∧ Nw H0 H l p
abbrev LisNs (H0 H : Hp) (ps : List (List Int)) (ws : List V) : Prop := Paired (LisN H0 H) ps ws
theorem LisN.keep {H0 H H' : Hp} {p : List Int} {v : V} (h : LisN H0 H p v) (k : ∀ b o, H0 b = none → H b = some o → H' b = some o) : LisN H0 H' p v := by
  obtain ⟨l, e, n⟩ := h
  exact ⟨l, e, n.new, k _ _ n.new n.at_⟩
theorem LisN.old {H0 H1 H : Hp} {p : List Int} {v : V} (h : LisN H1 H p v) (k : ∀ b, H1 b = none → H0 b = none) : LisN H0 H p v := by
  obtain ⟨l, e, n⟩ := h
  exact ⟨l, e, k _ n.new, n.at_⟩
theorem LisNs.keep {H0 H H' : Hp} {ps : List (List Int)} {ws : List V} (h : LisNs H0 H ps ws) (k : ∀ b o, H0 b = none → H b = some o → H' b = some o) : LisNs H0 H' ps ws := pd_mono (fun _ _ q => q.keep k) h
theorem LisNs.same {H0 H H' : Hp} {ps : List (List Int)} {ws : List V} (h : LisNs H0 H ps ws) (s : Same H H') : LisNs H0 H' ps ws := h.keep fun b o _ e => s b o e
theorem LisNs.old {H0 H1 H : Hp} {ps : List (List Int)} {ws : List V} (h : LisNs H1 H ps ws) (k : ∀ b, H1 b = none → H0 b = none) : LisNs H0 H ps ws := pd_mono (fun _ _ q => q.old k) h
theorem LisNs.fs {a b : Addr} {H0 H H' : Hp} {ps : List (List Int)} {ws : List V} (h : LisNs H0 H ps ws) (st : IsSt H0 a b) (f : Fs a b H H') : LisNs H0 H' ps ws := h.keep fun c o n e => f.keep c o (st.na n).1 (st.na n).2 e
theorem LisNs.more {H0 H : Hp} {x : Addr} {o : HO} (hx : H x = none) {ps : List (List Int)} {ws : List V} (h : LisNs H0 H ps ws) : LisNs (upd H0 x o) H ps ws := pd_mono (fun p v q => by
  obtain ⟨l, e, n⟩ := q
  exact ⟨l, e, none_upd (ne_of_none n.at_ hx) n.new, n.at_⟩) h
abbrev pdL (p : List Int) : PyData := .list (p.map PyData.int)
theorem LisNs.dp {K : PySem.W.Frag} {H0 H : Hp} : ∀ {ps : List (List Int)} {ws : List V}, LisNs H0 H ps ws → DpAll K H ws (ps.map pdL)
  | _, _, .nil => .nil
  | _, _, .cons ⟨l, e, n⟩ t => by
    rw [e]
    exact .cons (dpL n.at_) (LisNs.dp t)
theorem sh_lists (ps : List (List Int)) : SeqAt.shaped (.list (ps.map pdL)) = true := by
  have h : PyData.canLayAll0 (ps.map pdL) = true ∧ PyData.depthAll (ps.map pdL) ≤ 1 := by
    induction ps with
    | nil => exact ⟨rfl, by decide⟩
    | cons p r ih =>
      constructor
      · show (PyData.canLayAll0 (p.map PyData.int) && PyData.canLayAll0 (r.map pdL)) = true
        rw [lay_ints, ih.1]
        rfl
      · show max (PyData.depthAll (p.map PyData.int) + 1) (PyData.depthAll (r.map pdL)) ≤ 1
        rw [dep_ints]
        have := ih.2
        omega
  unfold SeqAt.shaped
  rw [Bool.and_eq_true]
  refine ⟨h.1, decide_eq_true ?_⟩
  have := h.2
  show PyData.depthAll _ + 1 ≤ 64
  omega
theorem lists_refl (ps : List (List Int)) : PyData.eqv (.list (ps.map pdL)) (.list (ps.map pdL)) = true := by
  have go : ∀ ps : List (List Int), PyData.eqvAll (ps.map pdL) (ps.map pdL) = true := by
    intro ps
    induction ps with
    | nil => rfl
    | cons p r ih =>
      have e := eqv_int_refl p
      simp only [List.map_cons, PyData.eqvAll, ih, Bool.and_true]
      exact e
  have e := go ps
  simpa only [PyData.eqv] using e
/-- bytes, none too long -/
def OkP (N : Nat) (ps : List (List Int)) : Prop := ∀ p ∈ ps, By p ∧ p.length ≤ N
theorem OkP.parts {N : Nat} {H0 H : Hp} {ps : List (List Int)} {ws : List V} (h : LisNs H0 H ps ws) (k : OkP N ps) (hN : N ≤ 100000) : Paired (PartAt H) ps ws := by
  induction h with
  | nil => exact .nil
  | cons q t ih =>
    obtain ⟨l, e, n⟩ := q
    have hp := k _ (List.mem_cons_self ..)
    exact .cons ⟨l, e, .inl n.at_, hp.1, Nat.le_trans hp.2 hN⟩ (ih fun p hp => k p (List.mem_cons_of_mem _ hp))
theorem strm_len {N : Nat} {ps : List (List Int)} (h : ∀ p ∈ ps, p.length ≤ N) : (strm ps).length ≤ ps.length * (2 * N + 10) := by
  induction ps with
  | nil => exact Nat.zero_le _
  | cons p r ih =>
    have l := piece_len p
    have hp := h p (List.mem_cons_self ..)
    have := ih fun q hq => h q (List.mem_cons_of_mem _ hq)
    rw [strm_cons, List.length_append, List.length_cons, List.length_cons, Nat.succ_mul]
    omega
/-- a function of the state that tells a new list of new lists of bytes -/
def spLists (M N : Nat) : Sp := fun vs H Q _ => ∃ (a b : Addr), vs = [.ref a] ∧ IsSt H a b ∧ ∀ (H' : Hp) (r : Addr) (ws : List V) (ps : List (List Int)), Fs a b H H' → H r = none → H' r = some (.lst ws) → LisNs (upd H r (.lst [])) H' ps ws → OkP N ps → ps.length ≤ M → Q (.ref r) H'
/-- the part and its check -/
def spWholeL : Sp := fun vs H Q _ => ∃ (a : Addr) (ns : List Int), vs = [.ref a] ∧ H a = some (.lst (iV ns)) ∧ By ns ∧ ns.length ≤ 200000 ∧ ∀ (H' : Hp) (p : Addr), Same H H' → Nw H H' p (whole ns) → Q (.ref p) H'
/-- what comes out of a piece, by the law's stricter undoing -/
def spUndoneA : Sp := fun vs H Q _ => ∃ (a : Addr) (ns : List Int), vs = [.ref a] ∧ H a = some (.lst (iV ns)) ∧ By ns ∧ NZ ns ∧ ns.length ≤ big ∧ ∀ (H' : Hp) (v : V), Same H H' → optL H H' (undoA ns.length 0 [] ns) v → Q v H'
def spTrueL : Sp := fun vs H Q _ => ∃ (a : Addr) (ns : List Int), vs = [.ref a] ∧ H a = some (.lst (iV ns)) ∧ By ns ∧ ∀ H', Same H H' → Q (.bl true) H'
/-- the law's own cutting at zeros, of a stream that a zero ends -/
def spCutz : Sp := fun vs H Q _ => ∃ (d : Addr) (xs : List Int), vs = [.ref d] ∧ H d = some (.lst (iV xs)) ∧ By xs ∧ xs.length ≤ big ∧ (cutz [] xs).2 = [] ∧ ∀ (H' : Hp) (r : Addr) (ws : List V), Same H H' → H r = none → H' r = some (.lst ws) → LisNs (upd H r (.lst [])) H' (cutz [] xs).1 ws → Q (.ref r) H'
def withZ (p : List Int) : List Int := p ++ [0]
/-- .. each piece with its zero -/
def spCutzz : Sp := fun vs H Q _ => ∃ (d : Addr) (xs : List Int), vs = [.ref d] ∧ H d = some (.lst (iV xs)) ∧ By xs ∧ xs.length ≤ big ∧ (cutz [] xs).2 = [] ∧ ∀ (H' : Hp) (r : Addr) (ws : List V), Same H H' → H r = none → H' r = some (.lst ws) → LisNs (upd H r (.lst [])) H' ((cutz [] xs).1.map withZ) ws → Q (.ref r) H'
/-- a pair of a place and a list of bytes -/
def DueAt (H : Hp) (q : Nat × List Int) (v : V) : Prop := ∃ a l, v = .ref a ∧ H a = some (.tup [.int (q.1 : Nat), .ref l]) ∧ H l = some (.lst (iV q.2))
theorem DueAt.same {H H' : Hp} {q : Nat × List Int} {v : V} (h : DueAt H q v) (s : Same H H') : DueAt H' q v := by
  obtain ⟨a, l, e, h1, h2⟩ := h
  exact ⟨a, l, e, s _ _ h1, s _ _ h2⟩
def partT (q : Nat × List Int) : Tell := .part q.1 q.2
def spRight : Sp := fun vs H Q _ => ∃ (f d : Addr) (ws zs : List V) (qs : List (Nat × List Int)) (H0 : Hp), vs = [.ref f, .ref d] ∧ H f = some (.lst ws) ∧ H d = some (.lst zs) ∧ Tls H0 H (qs.map partT) ws ∧ Paired (DueAt H) qs zs ∧ ∀ H', Same H H' → Q (.bl true) H'
end Tw
namespace K55
open PySem PySem.Spec PyProof.Rows L2 Tw Sb LamX
/-- a list that is made of lists: at D, its things new behind H and D -/
def MadeL (H : Hp) (a b : Addr) (N : Nat) (D : Addr) (j : Nat) (H' : Hp) : Prop := Fs a b H H' ∧ ∃ (ws : List V) (ps : List (List Int)), H' D = some (.lst ws) ∧ LisNs (upd H D (.lst [])) H' ps ws ∧ OkP N ps ∧ ps.length = j
theorem made_more {H H' : Hp} {a b D r : Addr} {N j : Nat} {ws : List V} {ps : List (List Int)} {p : List Int} (st : IsSt H a b) (hD0 : H D = none) (f : Fs a b H H') (hD : H' D = some (.lst ws)) (hn : LisNs (upd H D (.lst [])) H' ps ws) (ok : OkP N ps) (hl : ps.length = j) (nr : Nw H H' r p) (nrD : r ≠ D) (hb : By p) (hp : p.length ≤ N) :
    MadeL H a b N D (j + 1) (upd H' D (.lst (ws ++ [.ref r]))) := by
  refine ⟨f.upd (st.na hD0).1 (st.na hD0).2 hD0, ws ++ [.ref r], ps ++ [p], upd_same, pd_append (hn.keep fun c o n e => ?_) (.cons ⟨r, rfl, none_upd nrD nr.new, by rw [upd_ne nrD]; exact nr.at_⟩ .nil), fun q hq => ?_, by rw [List.length_append, hl]; rfl⟩
  · rw [upd_ne (upd_none n).1]
    exact e
  · rcases List.mem_append.mp hq with z | z
    · exact ok q z
    · have e : q = p := by simpa using z
      rw [e]
      exact ⟨hb, hp⟩
def GoodV (K : PySem.W.Frag) (H : Hp) (v : V) : Prop := ∃ d, Dp K H v d ∧ d.canLay0 = true ∧ d.depth ≤ 3
theorem goods {K : PySem.W.Frag} {H : Hp} : ∀ {L : List V}, (∀ v ∈ L, GoodV K H v) → ∃ ds, DpAll K H L ds ∧ PyData.canLayAll0 ds = true ∧ PyData.depthAll ds ≤ 3
  | [], _ => ⟨[], .nil, rfl, Nat.zero_le _⟩
  | v :: r, h => by
    obtain ⟨d, h1, h2, h3⟩ := h v List.mem_cons_self
    obtain ⟨ds, g1, g2, g3⟩ := goods fun u hu => h u (List.mem_cons_of_mem _ hu)
    refine ⟨d :: ds, .cons h1 g1, ?_, Nat.max_le.mpr ⟨h3, g3⟩⟩
    show (PyData.canLay0 d && PyData.canLayAll0 ds) = true
    rw [h2, g2] <;> rfl
theorem lis_good {K : PySem.W.Frag} {H0 H : Hp} : ∀ {ps : List (List Int)} {ws : List V}, LisNs H0 H ps ws → ∀ v ∈ ws, GoodV K H v
  | _, _, .nil, _, hv => by cases hv
  | p :: _, _, .cons h r, v, hv => by
    rcases List.mem_cons.mp hv with rfl | hv
    · obtain ⟨l, rfl, n⟩ := h
      exact ⟨.list (p.map PyData.int), dpL n.at_, canLay_ints p, Nat.succ_le_succ (Nat.le_trans (depth_ints p) (by decide))⟩
    · exact lis_good r v hv
/-- two lists of the same things -/
theorem eq_goods {K : PySem.W.Frag} {H : Hp} {L : List V} {r s : Addr} (hr : H r = some (.lst L)) (hs : H s = some (.lst L)) (h : ∀ v ∈ L, GoodV K H v) : ∃ d, Dp K H (.ref r) d ∧ Dp K H (.ref s) d ∧ SeqAt.shaped d = true ∧ PyData.eqv d d = true := by
  obtain ⟨ds, g1, g2, g3⟩ := goods h
  refine ⟨.list ds, .lst (SqL.of hr) g1, .lst (SqL.of hs) g1, ?_, SeqAt.eqv_refl (PyData.list ds) g2⟩
  show (PyData.canLayAll0 ds && decide (PyData.depthAll ds + 1 ≤ 64)) = true
  rw [g2, decide_eq_true (by omega)] <;> rfl
theorem eqv_nil : ∀ xs : List Int, PyData.eqv (.list (xs.map PyData.int)) (.list []) = decide (xs = [])
  | [] => rfl
  | _ :: _ => rfl
/-- what is left, told and written here -/
theorem eq_rest {K : PySem.W.Frag} {H0 H : Hp} {held : List Int} {ws : List V} {t0 r o : Addr} (tl : Tls H0 H (rests held 0) ws) (hr : H r = some (.lst ws)) (ht : H t0 = some (.tup [.str "torn", .int 0, .int (held.length : Nat)]))
    (ho : H o = some (.lst (List.replicate (if (!PyData.eqv (.list (held.map PyData.int)) (.list [])) = true then (1 : Int) else 0).toNat [V.ref t0]).flatten)) :
    ∃ d e, Dp K H (.ref r) d ∧ Dp K H (.ref o) e ∧ SeqAt.shaped d = true ∧ SeqAt.shaped e = true ∧ PyData.eqv d e = true := by
  rw [eqv_nil] at ho
  by_cases h : held = []
  · subst h
    cases tl
    exact ⟨.list [], .list [], .lst (SqL.of hr) .nil, .lst (SqL.of ho) .nil, rfl, rfl, rfl⟩
  · unfold rests at tl
    rw [if_neg h] at tl
    rw [decide_eq_false h] at ho
    cases tl with
    | cons t1 t2 =>
      cases t2
      have e := t1.dp (K := K)
      have e2 : Dp K H (.ref t0) (Tell.pd (.torn 0 held.length)) := .tup (SqT.of ht) (.cons (.str _) (.cons (.int _) (.cons (.int _) .nil)))
      exact ⟨.list [Tell.pd (.torn 0 held.length)], .list [Tell.pd (.torn 0 held.length)], .lst (SqL.of hr) (.cons e .nil), .lst (SqL.of ho) (.cons e2 .nil), sh_tells [.torn 0 held.length], sh_tells [.torn 0 held.length], SeqAt.eqv_refl _ (by show (PyData.canLay0 (Tell.pd (.torn 0 held.length)) && true) = true; rw [(tell_lay (.torn 0 held.length)).1] <;> rfl)⟩
theorem Rw.extN {H H' : Hp} {a : Addr} {xs : List V} (h : Rw H a xs) (e : ExtN H H') : Rw H' a xs := h.elim (fun h => .inl (e _ _ h fun _ z => nomatch z)) fun h => .inr (e _ _ h fun _ z => nomatch z)
theorem ElT.extN {H H' : Hp} {x : V} {b : Bool} (h : ElT H x b) (e : ExtN H H') : ElT H' x b := by
  cases h with
  | row h => exact .row (Rw.extN h e)
  | int n => exact .int n
  | bl c => exact .bl c
  | non => exact .non
  | str z => exact .str z
theorem _root_.Tw.ByT.extN {H H' : Hp} {x : V} {b : Bool} (h : ByT H x b) (e : ExtN H H') : ByT H' x b := by
  cases h with
  | row h p l => exact .row (Rw.extN h e) (pd_mono (fun _ _ q => ElT.extN q e) p) l
  | int n => exact .int n
  | bl c => exact .bl c
  | non => exact .non
  | str z => exact .str z
theorem lam_free : ∀ y ∈ [(("_law_piece" : Str), NameKind.local), ("_law_feeder", NameKind.free)], y.2 = .free → (defScope s_law).names.lookup y.1 = some .cell ∨ (defScope s_law).names.lookup y.1 = some .free := by decide +kernel
theorem stk_of {X : Cx} (h : X.stack = X.env :: X.outer) (hf : X.env.frame = some X.env.locals) : ∀ b, b = X.env.locals ∨ b ∈ X.fs → b ∈ frs X.stack := fun b hb => by
  rw [h]
  rcases hb with rfl | hb
  · exact List.mem_filterMap.mpr ⟨X.env, List.mem_cons_self, hf⟩
  · obtain ⟨e, he, q⟩ := List.mem_filterMap.mp hb
    exact List.mem_filterMap.mpr ⟨e, List.mem_cons_of_mem _ he, q⟩
section
variable {P : Program} {w : World} {K : PySem.W.Frag} {mg : Str → Option Value} {base : Heap}
theorem law_body {C CB CW fI c PT g f : Addr} {oc kV doc pm cdR ct : Value} {od an : Option Addr} {osl : Array (Option Value)} {E : XK} {A : Around} {outer : List Env} {s : Shared} {H : Hp} {Q : VK} {a : Addr} (T : Bt mg) (cl : ClF K C) (NB : NbC K mg "NoBytes" CB fI) (R : NbR K mg CB CW) (TB : TabB base mg c PT)
    (lkR : K.lookup g = some ⟨oc, od, .func (PySem.W.fnOf "_law_refused" "_law_refused" (defArgs s__law_refused) (defBody s__law_refused) (defScope s__law_refused) .none kV doc pm an cdR ct), osl⟩) (hcR : PySem.W.codeIn K cdR "_law_refused" = true) (kpR : PySem.W.keepIn K (.ref g) = true) (mgR : mg "_law_refused" = some (.ref g))
    (bR : Binds K (PySem.W.fnOf "_law_refused" "_law_refused" (defArgs s__law_refused) (defBody s__law_refused) (defScope s__law_refused) .none kV doc pm an cdR ct) ["_law_deed", "_law_handed"] [])
    (xS : CalX P w K mg base 4 "streamed" ["parts"] (spStrmX CB)) (xU : CalX P w K mg base 5 "unstreamed" ["data"] (spUnX CB))
    (c__law_take : Cal P w K mg base 1 "_law_take" ["_law_state", "_law_many"] spTake) (c__law_wrong : Cal P w K mg base 2 "_law_wrong" ["_law_state", "_law_good"] spWrong) (c_streamed : Cal P w K mg base 4 "streamed" ["parts"] spStrm) (c_unstreamed : Cal P w K mg base 5 "unstreamed" ["data"] spUnstR)
    (c__law_refused : Cal P w K mg base 6 "_law_refused" ["_law_deed", "_law_handed"] (spRefD P w K mg base CB)) (c__law_any_refusal : Cal P w K mg base 6 "_law_any_refusal" ["_law_deed", "_law_handed"] (spRefD P w K mg base CB))
    (m_mk : MkC P w K mg base C 1 "Feeder" (spFInit C)) (m_feed : MCal P w K mg base C 4 "feed" ["self", "data"] (spFFeedR C)) (m_feedX : MCalX P w K mg base C 4 "feed" ["self", "data"] (spFeedX CB)) (m_done : MCal P w K mg base C 1 "done" ["self"] (spFDone C))
    {ns : List Int} (hS : SqL K H a (ns.map V.int)) (hlen : ns.length ≤ 63) (hPT : H PT = some (.tbl #[])) (q : ∀ H', Q (.bl true) H')
    (hr : Room 6 (A.deeper (envOfC "law" (defScope s_law) s.heap.objs.size f (.ref c)))) :
    ∃ t, PSs (cxOf CX0 P w K mg base N_law "law" (defScope s_law) f (.ref c) A outer s H E).nox (defBody s_law) t ∧ t { nx := fun _ H' => Q .non H', rt := Q } (L2.start N_law [.ref a]) H := by
  obtain ⟨fS, fdS, FS, mgS, kpS, bS⟩ := xS.ex
  obtain ⟨fU, fdU, FU, mgU, kpU, bU⟩ := xU.ex
  have g_streamed : ∃ u, mg "streamed" = some u ∧ RelV (.ref fS) u := ⟨_, mgS, rfl⟩
  have g_unstreamed : ∃ u, mg "unstreamed" = some u ∧ RelV (.ref fU) u := ⟨_, mgU, rfl⟩
  refine ⟨_, (pss_cons (ps_set (i := 1) sc_law.nd rfl (.inr rfl) (pe_lst (pa_cons (pe_callTy (T := "list") (r := rListOf K) cr_listK (by rfl) T.n_list (by decide +kernel) (pa_cons (pe_slice (r := rSlL K) sl_list (pv 0) po_none (po_some pe_int)) pa_nil)) (pa_cons pe_int (pa_cons pe_int (pa_cons pe_int pa_nil))))))
      (pss_cons (ps_set (i := 2) sc_law.nd rfl (.inr rfl) (pe_lc (own := [("_law_k", 10)]) rfl sc_law.nd (pi_range1 rfl T.n_range (pa_cons (pe_cal c__law_take hr (by decide) (by rfl) (pa_cons (pv 1) (pa_cons pe_int pa_nil))) pa_nil)) (blkOk_by (N := N_law) (sc := defScope s_law) (by decide +kernel)) (fun _ _ _ _ _ => (pg_name (i := 10) sc_law.nd rfl (.inl rfl))) (fun _ _ _ _ _ => pts_nil) (fun _ _ _ _ _ => (pe_cal c__law_take hr (by decide) (by rfl) (pa_cons (pv 1) (pa_cons pe_int pa_nil))))))
      (pss_cons (ps_set (i := 3) sc_law.nd rfl (.inl rfl) (pe_cal c__law_wrong hr (by decide) (by rfl) (pa_cons (pv 1) (pa_cons (pv 2) pa_nil))))
      (pss_mid (ps_if (PW.pt (pw_and (pt_val (pe_callB (id := "isinstance") (r := rIsi K) call_isi (by rfl) T.n_isinstance (by decide +kernel) (pa_cons (pv 3) (pa_cons (pe_bltn (v := .ty "list") rfl T.n_list (by decide +kernel) rfl) pa_nil)))) (pw_and1 (pt_cmpR op_eq (pe_cal c__law_take hr (by decide) (by rfl) (pa_cons (pv 1) (pa_cons pe_int pa_nil))) pe_int (nomark _)))))
        (pss_one (ps_set (i := 3) sc_law.nd rfl (.inl rfl) (pe_callTy (T := "tuple") (r := rTupOf K) cr_tupK (by rfl) T.n_tuple (by decide +kernel) (pa_cons (pv 3) pa_nil))))
        pss_nil)
      (pss_cons (ps_setLc (i := 4) (own := [("_law_k", 10)]) rfl sc_law.nd rfl rfl (sw_true rfl rfl rfl (by decide +kernel)) (pi_range1 rfl T.n_range (pa_cons (pe_cal c__law_take hr (by decide) (by rfl) (pa_cons (pv 1) (pa_cons pe_int pa_nil))) pa_nil)) (blkOk_by (N := N_law) (sc := defScope s_law) (by decide +kernel)) (fun _ _ _ _ _ => (pg_name (i := 10) sc_law.nd rfl (.inl rfl))) (fun _ _ _ _ _ => pts_nil) (fun _ _ _ _ _ => (pe_slice (r := rSlL K) sl_list (pv 2) po_none (po_some (pv 10)))))
      (pss_cons (ps_set (i := 5) sc_law.nd rfl (.inl rfl) (pe_cal c__law_take hr (by decide) (by rfl) (pa_cons (pv 1) (pa_cons (pe_op op_add (pe_callB call_len_seq (by rfl) T.n_len (by decide +kernel) (pa_cons (pv 4) pa_nil)) pe_int) pa_nil))))
      (pss_cons (ps_set (i := 6) sc_law.nd rfl (.inl rfl) (pe_op op_cat (pe_op op_cat (pe_slice (r := rSlL K) sl_list (pv 4) po_none (po_some (pv 5))) (pe_lst (pa_cons (pv 3) pa_nil))) (pe_slice (r := rSlL K) sl_list (pv 4) (po_some (pv 5)) po_none)))
      (pss_cons (ps_if (PW.pt (pw_or (pt_not (pt_val (pe_cal c__law_refused hr (by decide) (by rfl) (pa_cons (C8.pe_gc rfl g_streamed) (pa_cons (pv 6) pa_nil))))) (pw_or1 (pt_cmpR (op_neD hr.units) (pv 6) (pe_op op_cat (pe_op op_cat (pe_slice (r := rSlL K) sl_list (pv 4) po_none (po_some (pv 5))) (pe_lst (pa_cons (pv 3) pa_nil))) (pe_slice (r := rSlL K) sl_list (pv 4) (po_some (pv 5)) po_none)) (nomark _)))))
        (pss_one (ps_ret pe_bl))
        pss_nil)
      (pss_cons (ps_if (PW.pt (pw_or (pt_not (pt_val (pe_cal c__law_refused hr (by decide) (by rfl) (pa_cons (C8.pe_gc rfl g_unstreamed) (pa_cons (pv 3) pa_nil))))) (pw_or1 (pt_not (pt_val (pe_cal c__law_any_refusal hr (by decide) (by rfl) (pa_cons (C8.pe_gc rfl g_unstreamed) (pa_cons (pv 3) pa_nil))))))))
        (pss_one (ps_ret pe_bl))
        pss_nil)
      (pss_cons (ps_setLc (i := 7) (own := [("_law_k", 10)]) rfl sc_law.nd rfl rfl (sw_true rfl rfl rfl (by decide +kernel)) (pi_range1 rfl T.n_range (pa_cons (pe_cal c__law_take hr (by decide) (by rfl) (pa_cons (pv 1) (pa_cons pe_int pa_nil))) pa_nil)) (blkOk_by (N := N_law) (sc := defScope s_law) (by decide +kernel)) (fun _ _ _ _ _ => (pg_name (i := 10) sc_law.nd rfl (.inl rfl))) (fun _ _ _ _ _ => pts_nil) (fun _ _ _ _ _ => (pe_op op_add pe_int (pe_cal c__law_take hr (by decide) (by rfl) (pa_cons (pv 1) (pa_cons pe_int pa_nil))))))
      (pss_cons (ps_set (i := 8) sc_law.nd rfl (.inr rfl) (pe_mk0 m_mk hr (by decide) (by rfl)))
      (pss_cons (ps_if (pt_cmpR (op_neD hr.units) (pe_mcal m_feed cl.cl hr (by decide) (pv 8) (pa_cons (pv 7) pa_nil)) (pe_lst pa_nil) (nomark _))
        (pss_one (ps_ret pe_bl))
        pss_nil)
      (pss_cons (ps_if (pt_not (pt_val (pe_lamcall1 (X := (cxOf CX0 P w K mg base N_law "law" (defScope s_law) f (.ref c) A outer s H E).nox) (T := [(PT, "law.<locals>.<lambda>")]) (TT := TRef CB) (j := 3) (k := 4) (pr := "_law_piece") (by rfl) mgR kpR lkR hcR bR sc__law_refused rfl rfl (.inl rfl) (.inl rfl) (refused_gives T NB R) rfl (.inl rfl) TB rfl (.head _) (fun p hp _ => by rw [List.mem_singleton.mp hp] <;> rfl) hr ⟨⟨rfl, rfl, rfl⟩, by decide +kernel, rfl, lam_free⟩ (show ("_law_piece" : Str) ∉ N_law by decide +kernel) rfl (stk_of rfl rfl) (fun _ _ _ _ _ _ => rfl) (fun A outer s H E f c' hr2 => pe_mcalX m_feedX cl.cl hr2 (by decide) (takes_of rfl rfl rfl rfl) (pv 8) (pa_cons (pv 11) pa_nil)))))
        (pss_one (ps_ret pe_bl))
        pss_nil)
      (pss_cons (ps_set (i := 9) sc_law.nd rfl (.inl rfl) (pe_op op_rep (pe_lst (pa_cons (pe_tup (pa_cons pe_str (pa_cons pe_int (pa_cons (pe_callB call_len_seq (by rfl) T.n_len (by decide +kernel) (pa_cons (pv 7) pa_nil)) pa_nil)))) pa_nil)) (pe_callTy call_int1 (by rfl) T.n_int (by decide +kernel) (pa_cons (pe_cmpR (op_neD hr.units) (pv 7) (pe_lst pa_nil) (nomark _)) pa_nil))))
      (pss_cons (ps_if (PW.pt (pw_or (pt_cmpR (op_neD hr.units) (pe_mcal0 m_done cl.cl hr (by decide) (pv 8)) (pv 9) (nomark _)) (pw_or (pt_cmpR (op_neD hr.units) (pe_cal c_streamed hr (by decide) (by rfl) (pa_cons (pe_lst pa_nil) pa_nil)) (pe_lst pa_nil) (nomark _)) (pw_or1 (pt_cmpR (op_neD hr.units) (pe_cal c_unstreamed hr (by decide) (by rfl) (pa_cons (pe_lst pa_nil) pa_nil)) (pe_lst pa_nil) (nomark _))))))
        (pss_one (ps_ret pe_bl))
        pss_nil)
      (pss_one (ps_ret (pe_and (pe_cmpR (op_eqD hr.units) (pe_cal c_streamed hr (by decide) (by rfl) (pa_cons (pe_lst (pa_cons (pv 2) pa_nil)) pa_nil)) (pe_cal c_streamed hr (by decide) (by rfl) (pa_cons (pe_lst (pa_cons (pe_callTy (T := "tuple") (r := rTupOf K) cr_tupK (by rfl) T.n_tuple (by decide +kernel) (pa_cons (pv 2) pa_nil)) pa_nil)) pa_nil)) (nomark _)) (pe_one (pe_cmpR (op_eqD hr.units) (pe_cal c_unstreamed hr (by decide) (by rfl) (pa_cons (pv 2) pa_nil)) (pe_cal c_unstreamed hr (by decide) (by rfl) (pa_cons (pe_callTy (T := "tuple") (r := rTupOf K) cr_tupK (by rfl) T.n_tuple (by decide +kernel) (pa_cons (pv 2) pa_nil)) pa_nil)) (nomark _))))))))))))))))))))), ?_⟩
  refine ⟨_, rfl, 63, rfl, a, _, rfl, hS, fun p hp => ?_⟩
  obtain ⟨ms, em, _⟩ := cutI ns none (some 63)
  rw [show cutV (ns.map V.int) none (some 63) = iV ms from em]
  refine ⟨p, _, rfl, .inl (SqL.of upd_same), fun b hb => ⟨by show 4 ≤ sizeLine; decide, fun st hst => ?_⟩⟩
  have nbs : st ≠ b := fun e => by
    rw [e, upd_same] at hst
    cases hst
  have hst0 : IsSt (upd (upd (upd H p (.lst (iV ms))) b (.lst (iV ms))) st (.lst [.ref b, .int 0, .int 0, .int 0])) st b := ⟨nbs, ms, 0, 0, 0, upd_same, by rw [upd_ne nbs.symm, upd_same]⟩
  have hPT1 : (upd (upd (upd H p (.lst (iV ms))) b (.lst (iV ms))) st (.lst [.ref b, .int 0, .int 0, .int 0])) PT = some (.tbl #[]) := (same_upd hst) _ _ ((same_upd hb) _ _ ((same_upd hp) _ _ hPT))
  generalize upd (upd (upd H p (.lst (iV ms))) b (.lst (iV ms))) st (.lst [.ref b, .int 0, .int 0, .int 0]) = H1 at hst0 hPT1 ⊢
  have hPTs : PT ≠ st := fun e => by
    obtain ⟨_, _, _, _, _, h, _⟩ := hst0
    rw [← e, hPT1] at h
    cases h
  have hPTb : PT ≠ b := fun e => by
    obtain ⟨_, _, _, _, _, _, h⟩ := hst0
    rw [← e, hPT1] at h
    cases h
  refine ⟨.ref st, rfl, st, b, 10, rfl, hst0, by decide, by decide, fun z1 H4 z10 z11 f1 => ?_⟩
  refine ⟨z1, rfl, by omega, by omega, fun D hD => ?_⟩
  have hD0 := f1.free hst0 hD
  refine lc_it walk_range (fun j H' => Fs st b H1 H' ∧ ∃ ws : List Int, Nw H1 H' D ws ∧ By ws ∧ ws.length = j) ⟨f1.same (same_upd hD), [], ⟨hD0, upd_same⟩, .nil, rfl⟩ (fun _ _ _ _ => trivial) ?_ ?_
  · rintro j x H10 H11 hj ⟨f10, ws, nD, hBw, hwl⟩ ⟨rfl, rfl⟩
    refine ⟨rfl, .ref st, rfl, st, b, 256, rfl, f10.st, by decide, by decide, fun v1 H12 v10 v11 g2 => ?_⟩
    have nD' := nD.st hst0 g2
    refine ⟨_, nD'.at_, ?_, ?_⟩
    · rw [iV_len]
      exact Nat.lt_of_le_of_lt (show ws.length ≤ 1000 by omega) (by decide)
    · rw [← iV_snoc]
      refine ⟨(f10.trans g2).upd (hst0.na hD0).1 (hst0.na hD0).2 hD0, _, ⟨hD0, upd_same⟩, hBw.append (.one v10 (by omega)), ?_⟩
      rw [List.length_append, hwl]
      rfl
  rintro H10 ⟨f10, good, nD, hBg, hgl⟩
  have hg10 : good.length ≤ 10 := by omega
  -- what is none
  refine ⟨.ref st, rfl, .ref D, rfl, st, b, D, good, rfl, f10.st, (hst0.na hD0).1, (hst0.na hD0).2, nD.at_, hBg, hg10, fun H11 v dv f11 hv => ?_⟩
  have f01 := f10.trans f11
  have nD1 := nD.st hst0 f11
  replace hv := hv.old fun c hc => f10.free hst0 hc
  refine ⟨fun σ H' => ∃ (v : V) (dv : PyData), σ = [some (.ref a), some (.ref st), some (.ref D), some v, none, none, none, none, none, none, none] ∧ Fs st b H1 H' ∧ Nw H1 H' D good ∧ WrS H1 H' v dv, ?_, ?_⟩
  · have key : ∃ (t : Value) (c : Bool), TyX K H11 v t ∧ PySem.W.kitOne K t (.type "list") = some c ∧ (c = true → ∃ R xs zs, v = .ref R ∧ H1 R = none ∧ H11 R = some (.lst xs) ∧ Paired (ElZ H1 H11) xs zs ∧ xs.length ≤ 20 ∧ (zs.map (·.2)).all id = false) := by
      cases hv with
      | @lst R xs zs n h p l e => exact ⟨.type "list", true, .base (.lst h), kit_ty (by decide +kernel), fun _ => ⟨R, xs, zs, rfl, n, h, p, l, e⟩⟩
      | tup n h p l e => exact ⟨.type "tuple", false, .base (.tup h), kit_ty (by decide +kernel), fun z => nomatch z⟩
      | non => exact ⟨.type "NoneType", false, .base .non, kit_ty (by decide +kernel), fun z => nomatch z⟩
      | str s hs => exact ⟨.type "str", false, .base (.str s), kit_ty (by decide +kernel), fun z => nomatch z⟩
      | int n => exact ⟨.type "int", false, .base (.int n), kit_ty (by decide +kernel), fun z => nomatch z⟩
      | bl c => exact ⟨.type "bool", false, .base (.bl c), kit_ty (by decide +kernel), fun z => nomatch z⟩
    obtain ⟨ty, c, k1, k2, k3⟩ := key
    refine ⟨_, rfl, v, _, ty, _, c, rfl, .ty "list", k1, k2, c, rfl, ?_⟩
    cases c with
    | false => exact iteF ⟨v, dv, rfl, f01, nD1, hv⟩
    | true =>
      obtain ⟨R, xs, zs, rfl, n, h, p, l, e⟩ := k3 rfl
      refine iteT ⟨.ref st, rfl, st, b, 2, rfl, f01.st, by decide, by decide, fun z2 H12 z20 z21 f12 => ?_⟩
      have f02 := f01.trans f12
      have nD2 := nD1.st hst0 f12
      have kp : ∀ c o, H1 c = none → H11 c = some o → H12 c = some o := fun c o n e => f12.keep _ _ (hst0.na n).1 (hst0.na n).2 e
      have p2 : Paired (ElZ H1 H12) xs zs := pd_mono (fun _ _ q => q.keep kp) p
      refine ⟨rfl, _, rfl, ?_⟩
      refine ite2 (fun _ => ?_) (fun _ => ⟨.ref R, _, rfl, f02, nD2, .lst n (kp _ _ n h) p2 l e⟩)
      refine ⟨_, rfl, R, xs, rfl, .inl ⟨SqL.of (kp _ _ n h), fun r hr0 => ?_⟩⟩
      have s3 := same_upd (o := .tup xs) hr0
      refine ⟨.ref r, _, rfl, f02.same s3, nD2.same s3, .tup (f02.free hst0 hr0) upd_same (pd_mono (fun _ _ q => q.keep fun c o _ e => s3 _ _ e) p2) l e⟩
  rintro σ H12 ⟨v, dv, rfl, f12, nD2, hv⟩
  have st12 := f12.st
  -- the parts
  refine ⟨.ref st, rfl, st, b, 4, rfl, st12, by decide, by decide, fun z3 H13 z30 z31 f13 => ?_⟩
  refine ⟨z3, rfl, by omega, by omega, fun D2 hD2 => ?_⟩
  have hD20 := f13.free st12 hD2
  have stN := st12.na hD20
  refine lc_it walk_range (MadeL H12 st b 10 D2) ⟨f13.same (same_upd hD2), [], [], upd_same, .nil, (fun _ h => by cases h), rfl⟩ (fun _ _ _ _ => trivial) ?_ ?_
  · rintro j x H14 H15 hj ⟨f14, ws, ps, hDw, hn, ok, hl⟩ ⟨rfl, rfl⟩
    have nD14 := nD2.st hst0 f14
    refine ⟨rfl, _, rfl, _, rfl, _, rfl, D, _, rfl, SqL.of nD14.at_, fun r hr0 => ?_⟩
    have cut : ∀ z : Int, ∃ cs, cutV (iV good) none (some z) = iV cs ∧ By cs ∧ cs.length ≤ good.length := fun z => cutB hBg none (some z)
    obtain ⟨cs, ec, hcb, hcl⟩ := cut _
    rw [ec]
    have sr := same_upd (o := .lst (iV cs)) hr0
    have nrD : r ≠ D2 := fun e => by
      rw [e, hDw] at hr0
      cases hr0
    refine ⟨ws, sr _ _ hDw, ?_, ?_⟩
    · rw [← pd_len hn]
      exact Nat.lt_of_le_of_lt (show ps.length ≤ 63 by omega) (by decide)
    · exact made_more st12 hD20 (f14.same sr) (sr _ _ hDw) (hn.same sr) ok hl ⟨f14.free st12 hr0, upd_same⟩ nrD hcb (by omega)
  rintro H14 ⟨f14, ws, ps, hD14, hns, hok, hpl⟩
  have lws : ws.length = ps.length := (pd_len hns).symm
  have st14 := f14.st
  have f114 := f12.trans f14
  have nD3 := nD2.st hst0 f14
  have hv3 := hv.keep fun c o n e => f14.keep _ _ (hst0.na n).1 (hst0.na n).2 e
  refine ⟨.ref st, rfl, _, rfl, D2, _, rfl, .inl (SqL.of hD14), _, _, rfl, rfl, st, b, _, rfl, st14, by omega, by omega, fun at_ H15 a0 a1 f15 => ?_⟩
  obtain ⟨n, rfl⟩ : ∃ n : Nat, at_ = (n : Int) := ⟨at_.toNat, by omega⟩
  have f115 := f114.trans f15
  have f125 := f14.trans f15
  have nD4 := nD3.st hst0 f15
  have hv4 := hv3.keep fun c o n e => f15.keep _ _ (hst0.na n).1 (hst0.na n).2 e
  have hD24 := f15.keep _ _ stN.1 stN.2 hD14
  have hns4 := hns.keep fun c o n e => f15.keep _ _ (st12.na (upd_none n).2).1 (st12.na (upd_none n).2).2 e
  have st15 := f15.st
  -- what is handed over
  refine ⟨_, rfl, _, rfl, _, rfl, D2, _, rfl, SqL.of hD24, fun p1 hp1 => ?_⟩
  rw [cut_to]
  have s1 := same_upd (o := .lst (ws.take (min n ws.length))) hp1
  refine ⟨_, rfl, by show 1 ≤ sizeLine; decide, fun o2 ho2 => ?_⟩
  have s2 := s1.trans (same_upd (o := .lst [v]) ho2)
  refine ⟨p1, o2, _, _, rfl, rfl, (same_upd ho2) _ _ upd_same, upd_same, Nat.le_trans (show _ ≤ 11 by rw [List.length_take]; show min (min n ws.length) ws.length + 1 ≤ 11; omega) (by decide), fun R1 hR1 => ?_⟩
  have s3 := s2.trans (same_upd (o := .lst (ws.take (min n ws.length) ++ [v])) hR1)
  have hRR : (upd (upd (upd H15 p1 (.lst (ws.take (min n ws.length)))) o2 (.lst [v])) R1 (.lst (ws.take (min n ws.length) ++ [v]))) R1 = some (.lst (ws.take (min n ws.length) ++ [v])) := upd_same
  generalize upd (upd (upd H15 p1 (.lst (ws.take (min n ws.length)))) o2 (.lst [v])) R1 (.lst (ws.take (min n ws.length) ++ [v])) = H16 at s3 hRR ⊢
  refine ⟨_, rfl, _, rfl, _, rfl, D2, _, rfl, SqL.of (s3 _ _ hD24), fun p2 hp2 => ?_⟩
  rw [cut_from]
  have s4 := s3.trans (same_upd (o := .lst (ws.drop (min n ws.length))) hp2)
  refine ⟨R1, p2, _, _, rfl, rfl, (same_upd hp2) _ _ hRR, upd_same, Nat.le_trans (show _ ≤ 11 by rw [List.length_append, List.length_take, List.length_drop]; show min (min n ws.length) ws.length + 1 + _ ≤ 11; omega) (by decide), fun R2 hR2 => ?_⟩
  have s5 := s4.trans (same_upd (o := .lst (ws.take (min n ws.length) ++ [v] ++ ws.drop (min n ws.length))) hR2)
  have hH : (upd (upd H16 p2 (.lst (ws.drop (min n ws.length)))) R2 (.lst (ws.take (min n ws.length) ++ [v] ++ ws.drop (min n ws.length)))) R2 = some (.lst (ws.take (min n ws.length) ++ [v] ++ ws.drop (min n ws.length))) := upd_same
  have hR20 := f115.free hst0 (s4.free hR2)
  generalize upd (upd H16 p2 (.lst (ws.drop (min n ws.length)))) R2 (.lst (ws.take (min n ws.length) ++ [v] ++ ws.drop (min n ws.length))) = H17 at s5 hH ⊢
  have f117 := f115.same s5
  have hv5 := hv4.keep fun c o _ e => s5 _ _ e
  have hns5 := hns4.keep fun c o _ e => s5 _ _ e
  have hD25 := s5 _ _ hD24
  have nD5 := nD4.same s5
  have lps : ps.length ≤ 3 := by omega
  have hstrm : (strm (ps.take (min n ws.length))).length ≤ 4000000 := by
    have e := strm_len (N := 10) (ps := ps.take (min n ws.length)) fun p hp => (hok p (List.mem_of_mem_take hp)).2
    have e2 : (ps.take (min n ws.length)).length ≤ 3 := by rw [List.length_take]; omega
    have e3 : (ps.take (min n ws.length)).length * (2 * 10 + 10) ≤ 3 * (2 * 10 + 10) := Nat.mul_le_mul_right _ e2
    omega
  refine ⟨_, rfl, fS, .ref R2, 4, fdS, ["parts"], spStrmX CB, rfl, FS, by decide, kpS, bS, ref_streamed (ps := ps.take (min n ws.length)) (ws := ws.take (min n ws.length)) (v := v) (rest := ws.drop (min n ws.length)) (.inl (by rw [hH, List.append_assoc] <;> rfl)) (pd_take _ (OkP.parts hns5 hok (by decide))) hv5.byT hstrm fun H18 s18 => ⟨true, rfl, ?_⟩⟩
  refine iteF ?_
  have hD26 := s18 _ _ hD25
  have hH6 := s18 _ _ hH
  have hv6 := hv5.keep fun c o _ e => s18 _ _ e
  have hns6 := hns5.keep fun c o _ e => s18 _ _ e
  have nD6 := nD5.same s18
  have f118 := f117.same s18
  refine ⟨_, rfl, ?_⟩
  refine ⟨_, rfl, _, rfl, _, rfl, D2, _, rfl, SqL.of hD26, fun p3 hp3 => ?_⟩
  rw [cut_to]
  have t1 := same_upd (o := .lst (ws.take (min n ws.length))) hp3
  refine ⟨_, rfl, by show 1 ≤ sizeLine; decide, fun o4 ho4 => ?_⟩
  have t2 := t1.trans (same_upd (o := .lst [v]) ho4)
  refine ⟨p3, o4, _, _, rfl, rfl, (same_upd ho4) _ _ upd_same, upd_same, Nat.le_trans (show _ ≤ 11 by rw [List.length_take]; show min (min n ws.length) ws.length + 1 ≤ 11; omega) (by decide), fun R3 hR3 => ?_⟩
  have t3 := t2.trans (same_upd (o := .lst (ws.take (min n ws.length) ++ [v])) hR3)
  have hRR3 : (upd (upd (upd H18 p3 (.lst (ws.take (min n ws.length)))) o4 (.lst [v])) R3 (.lst (ws.take (min n ws.length) ++ [v]))) R3 = some (.lst (ws.take (min n ws.length) ++ [v])) := upd_same
  generalize upd (upd (upd H18 p3 (.lst (ws.take (min n ws.length)))) o4 (.lst [v])) R3 (.lst (ws.take (min n ws.length) ++ [v])) = H19 at t3 hRR3 ⊢
  refine ⟨_, rfl, _, rfl, _, rfl, D2, _, rfl, SqL.of (t3 _ _ hD26), fun p5 hp5 => ?_⟩
  rw [cut_from]
  have t4 := t3.trans (same_upd (o := .lst (ws.drop (min n ws.length))) hp5)
  refine ⟨R3, p5, _, _, rfl, rfl, (same_upd hp5) _ _ hRR3, upd_same, Nat.le_trans (show _ ≤ 11 by rw [List.length_append, List.length_take, List.length_drop]; show min (min n ws.length) ws.length + 1 + _ ≤ 11; omega) (by decide), fun R4 hR4 => ?_⟩
  have t5 := t4.trans (same_upd (o := .lst (ws.take (min n ws.length) ++ [v] ++ ws.drop (min n ws.length))) hR4)
  have hH4 : (upd (upd H19 p5 (.lst (ws.drop (min n ws.length)))) R4 (.lst (ws.take (min n ws.length) ++ [v] ++ ws.drop (min n ws.length)))) R4 = some (.lst (ws.take (min n ws.length) ++ [v] ++ ws.drop (min n ws.length))) := upd_same
  generalize upd (upd H19 p5 (.lst (ws.drop (min n ws.length)))) R4 (.lst (ws.take (min n ws.length) ++ [v] ++ ws.drop (min n ws.length))) = H20 at t5 hH4 ⊢
  have hv7 := hv6.keep fun c o _ e => t5 _ _ e
  have hns7 := hns6.keep fun c o _ e => t5 _ _ e
  have f120 := f118.same t5
  have nD7 := nD6.same t5
  obtain ⟨d, e1, e2, e3, e4⟩ := eq_goods (K := K) (t5 _ _ hH6) hH4 fun u hu => by
    rcases List.mem_append.mp hu with hu | hu
    · rcases List.mem_append.mp hu with hu | hu
      · exact lis_good hns7 u (List.mem_of_mem_take hu)
      · rw [List.mem_singleton.mp hu]
        exact ⟨dv, hv7.dp, hv7.lay.1, hv7.lay.2⟩
    · exact lis_good hns7 u (List.mem_of_mem_drop hu)
  refine ⟨d, d, e1, e2, e3, e3, _, rfl, ?_⟩
  rw [e4]
  refine iteF ?_
  -- of no bytes
  refine ⟨_, rfl, fU, v, 5, fdU, ["data"], spUnX CB, rfl, FU, by decide, kpU, bU, ref_unstreamed hv7.byT fun H21 s21 => ⟨true, rfl, ?_⟩⟩
  refine iteF ?_
  have hv8 := hv7.keep fun c o _ e => s21 _ _ e
  refine ⟨_, rfl, fU, v, 5, fdU, ["data"], spUnX CB, rfl, FU, by decide, kpU, bU, ref_unstreamed hv8.byT fun H22 s22 => ⟨true, rfl, ?_⟩⟩
  refine iteF ?_
  have hv9 := hv8.keep fun c o _ e => s22 _ _ e
  have f122 := (f120.same s21).same s22
  have nD8 := (nD7.same s21).same s22
  -- what is held
  have st22 := f122.st
  refine ⟨.ref st, rfl, st, b, 7, rfl, st22, by decide, by decide, fun z5 H23 z50 z51 f23 => ?_⟩
  refine ⟨z5, rfl, by omega, by omega, fun D3 hD3 => ?_⟩
  have hD30 := (f122.trans f23).free hst0 hD3
  have hD3F := f23.free st22 hD3
  refine lc_it walk_range (fun j H' => Fs st b H22 H' ∧ ∃ xs : List Int, Nw H22 H' D3 xs ∧ By xs ∧ NZ xs ∧ xs.length = j) ⟨f23.same (same_upd hD3), [], ⟨hD3F, upd_same⟩, .nil, .nil, rfl⟩ (fun _ _ _ _ => trivial) ?_ ?_
  · rintro j x H24 H25 hj ⟨f24, xs, nX, hBx, hNx, hxl⟩ ⟨rfl, rfl⟩
    refine ⟨rfl, .ref st, rfl, st, b, 255, rfl, f24.st, by decide, by decide, fun v1 H26 v10 v11 g2 => ⟨1, v1, rfl, rfl, ?_⟩⟩
    have nX' := nX.st st22 g2
    refine ⟨_, nX'.at_, ?_, ?_⟩
    · rw [iV_len]
      exact Nat.lt_of_le_of_lt (show xs.length ≤ 1000 by omega) (by decide)
    · rw [← iV_snoc]
      refine ⟨(f24.trans g2).upd (st22.na hD3F).1 (st22.na hD3F).2 hD3F, _, ⟨hD3F, upd_same⟩, hBx.append (.one (by omega) (by omega)), ?_, ?_⟩
      · exact hNx.append fun q hq => by
          rw [List.mem_singleton.mp hq]
          omega
      · rw [List.length_append, hxl]
        rfl
  rintro H24 ⟨f24, held, nX, hBx, hNx, hxl⟩
  have nD9 := nD8.st hst0 f24
  have hv10 := hv9.keep fun c o n e => f24.keep _ _ (hst0.na n).1 (hst0.na n).2 e
  have f124 := f122.trans f24
  have hPT24 := f124.keep _ _ hPTs hPTb hPT1
  -- the feeder
  intro p1 dx1 np1 ndx1 nex1
  have u1 : Same H24 (upd (upd H24 dx1 (.own p1)) p1 (.ins C dx1 [])) := fun b o e => by
    rw [upd_ne (ne_of_none e np1), upd_ne (ne_of_none e ndx1)]
    exact e
  refine ⟨p1, dx1, rfl, upd_same, fun H25 l1 k25 hl1 hF1 => ⟨rfl, ?_⟩⟩
  have u25 : Same H24 H25 := fun b o e => k25 b o (ne_of_none e np1) (u1 _ _ e)
  have hl10 : H24 l1 = none := u1.free hl1
  obtain ⟨dxa, ha1, ha2⟩ := id hF1
  refine ⟨_, rfl, p1, dxa, _, rfl, ha1, rfl, _, rfl, p1, D3, l1, [], held, 0, rfl, hF1, .inl (u25 _ _ nX.at_), fun w => (nomatch (show some (HO.lst (iV held)) = none from nX.at_.symm.trans (w ▸ hl10))), .nil, .nil, hBx, by show 0 + held.length ≤ 4000000; omega, ?_⟩
  rw [goes_nz hNx [] 0]
  intro H26 l2 r2 ws2 b26 hF2 hl2 hr2 nr2 hw2 tl2
  cases tl2
  refine ⟨by show 0 ≤ sizeLine; decide, fun z1 hz1 => ?_⟩
  obtain ⟨d0, e01, e02, e03, e04⟩ := eq_goods (K := K) (H := upd H26 z1 (.lst [])) (same_upd hz1 _ _ hw2) upd_same fun u hu => nomatch hu
  refine ⟨d0, d0, e01, e02, e03, e03, _, rfl, ?_⟩
  rw [e04]
  refine iteF ?_
  have s27 : Same H24 (upd H26 z1 (.lst [])) := fun c o e => same_upd hz1 _ _ (b26 c o (ne_of_none e np1) (ne_of_none e hl10) (u25 _ _ e))
  have hF3 : FdAt C (upd H26 z1 (.lst [])) p1 l2 held 0 := FdAt.keep hF2 (same_upd hz1)
  generalize upd H26 z1 (.lst []) = H27 at s27 hF3 e01 e02 ⊢
  -- .. refuses, called by the lambda
  refine ⟨fun p hp => ?_, _, rfl, fun c' H28 eN T1 hco E' Q' hE => ⟨hco, ?_⟩⟩
  · rw [List.mem_singleton.mp hp]
    exact TabS.nil (s27 _ _ hPT24)
  obtain ⟨dxb, hb1, hb2⟩ := id hF3
  refine ⟨_, rfl, p1, dxb, _, rfl, eN _ _ hb1 (fun _ z => nomatch z), rfl, _, rfl, p1, v, rfl, (hv10.byT.same s27).extN eN, fun H29 d s29 _ he => hE d H29 he ⟨true, rfl, ?_⟩⟩
  refine iteF ?_
  have e29 : ExtN H27 H29 := eN.trans (.of s29)
  have hX9 : H29 D3 = some (.lst (iV held)) := e29 _ _ (s27 _ _ nX.at_) (fun _ z => nomatch z)
  have hG9 : H29 D = some (.lst (iV good)) := e29 _ _ (s27 _ _ nD9.at_) (fun _ z => nomatch z)
  have hF9 : FdAt C H29 p1 l2 held 0 := ⟨dxb, e29 _ _ hb1 (fun _ z => nomatch z), e29 _ _ hb2 (fun _ z => nomatch z)⟩
  -- what is left
  refine ⟨_, rfl, D3, _, rfl, .inl (SqL.of hX9), by show 3 ≤ sizeLine; decide, fun t0 ht0 => ?_⟩
  rw [iV_len]
  refine ⟨by show 1 ≤ sizeLine; decide, fun o0 ho0 => ?_⟩
  have s30 := (same_upd (o := .tup [.str "torn", .int 0, .int (held.length : Nat)]) ht0).trans (same_upd (o := .lst [.ref t0]) ho0)
  have hO : (upd (upd H29 t0 (.tup [.str "torn", .int 0, .int (held.length : Nat)])) o0 (.lst [.ref t0])) o0 = some (.lst [.ref t0]) := upd_same
  have hT : (upd (upd H29 t0 (.tup [.str "torn", .int 0, .int (held.length : Nat)])) o0 (.lst [.ref t0])) t0 = some (.tup [.str "torn", .int 0, .int (held.length : Nat)]) := same_upd ho0 _ _ upd_same
  generalize upd (upd H29 t0 (.tup [.str "torn", .int 0, .int (held.length : Nat)])) o0 (.lst [.ref t0]) = H30 at s30 hO hT ⊢
  refine ⟨_, rfl, by show 0 ≤ sizeLine; decide, fun z2 hz2 => ?_⟩
  have s31 := same_upd (o := .lst []) hz2
  refine ⟨.list (held.map PyData.int), .list [], dpL (s31 _ _ (s30 _ _ hX9)), .lst (SqL.of upd_same) .nil, sh_ints held, sh_ints [], ?_⟩
  refine .inr ⟨_, rfl, o0, _, _, rfl, rfl, s31 _ _ hO, ?_, ?_, ?_, fun o1 ho1 => ?_⟩
  · split <;> decide
  · split <;> decide
  · split
    · show 1 * 1 ≤ sizeLine
      decide
    · show 1 * 0 ≤ sizeLine
      decide
  have s32 := s31.trans (same_upd (o := .lst (List.replicate (if (!PyData.eqv (.list (held.map PyData.int)) (.list [])) = true then (1 : Int) else 0).toNat [V.ref t0]).flatten) ho1)
  have hRest : (upd (upd H30 z2 (.lst [])) o1 (.lst (List.replicate (if (!PyData.eqv (.list (held.map PyData.int)) (.list [])) = true then (1 : Int) else 0).toNat [V.ref t0]).flatten)) o1 = some (.lst (List.replicate (if (!PyData.eqv (.list (held.map PyData.int)) (.list [])) = true then (1 : Int) else 0).toNat [V.ref t0]).flatten) := upd_same
  generalize upd (upd H30 z2 (.lst [])) o1 (.lst (List.replicate (if (!PyData.eqv (.list (held.map PyData.int)) (.list [])) = true then (1 : Int) else 0).toNat [V.ref t0]).flatten) = H32 at s32 hRest ⊢
  have hF32 := (hF9.keep s30).keep s32
  obtain ⟨dxc, hc1, hc2⟩ := id hF32
  refine ⟨_, rfl, p1, dxc, _, rfl, hc1, rfl, p1, l2, held, 0, rfl, hF32, by show held.length ≤ 4000000; omega, fun H33 l3 r3 ws3 k33 hl3 hF33 hr3 nr3 hw3 tl3 => ?_⟩
  have k33' : ∀ c o, H29 c = some o → (∀ d fs, o ≠ .ins C d fs) → H33 c = some o := fun c o e n => k33 _ _ (fun w => n _ _ (Option.some.inj ((s32 _ _ (s30 _ _ e)).symm.trans (w ▸ hc1)))) (s32 _ _ (s30 _ _ e))
  obtain ⟨d5, e5, f1, f2, f3, f4, f5⟩ := eq_rest (K := K) tl3 hw3 (k33 _ _ (ne_of (s32 _ _ hT) hc1 (by intro z; cases z)) (s32 _ _ hT)) (k33 _ _ (ne_of hRest hc1 (by intro z; cases z)) hRest)
  refine ⟨_, rfl, d5, e5, f1, f2, f3, f4, _, rfl, ?_⟩
  rw [f5]
  refine iteF ?_
  have hG33 := k33' _ _ hG9 (fun _ _ z => nomatch z)
  -- of nothing
  refine ⟨by show 0 ≤ sizeLine; decide, fun z3 hz3 => ⟨z3, [], [], rfl, .inl upd_same, .nil, by decide, fun H34 r4 s34 n4 => ?_⟩⟩
  refine ⟨by show 0 ≤ sizeLine; decide, fun z4 hz4 => ?_⟩
  obtain ⟨d6, g1, g2, g3, g4⟩ := eq_goods (K := K) (H := upd H34 z4 (.lst [])) (same_upd hz4 _ _ n4.at_) upd_same fun u hu => nomatch hu
  refine ⟨d6, d6, g1, g2, g3, g3, _, rfl, ?_⟩
  rw [g4]
  refine iteF ?_
  have hG34 := same_upd (o := .lst []) hz4 _ _ (s34 _ _ (same_upd (o := .lst []) hz3 _ _ hG33))
  refine ⟨by show 0 ≤ sizeLine; decide, fun z5 hz5 => ⟨z5, [], rfl, .inl upd_same, .nil, by decide, fun H35 r5 ws5 s35 n5 hw5 tl5 => ?_⟩⟩
  cases (show Tls _ _ [] ws5 from tl5)
  refine ⟨by show 0 ≤ sizeLine; decide, fun z6 hz6 => ?_⟩
  obtain ⟨d7, i1, i2, i3, i4⟩ := eq_goods (K := K) (H := upd H35 z6 (.lst [])) (same_upd hz6 _ _ hw5) upd_same fun u hu => nomatch hu
  refine ⟨d7, d7, i1, i2, i3, i3, _, rfl, ?_⟩
  rw [i4]
  refine iteF ?_
  have hG36 := same_upd (o := .lst []) hz6 _ _ (s35 _ _ (same_upd (o := .lst []) hz5 _ _ hG34))
  generalize upd H35 z6 (.lst []) = H36 at hG36 ⊢
  -- as a list and as a tuple
  have hst1 : (strm [good]).length ≤ 4000000 := by
    have e := strm_len (N := 10) (ps := [good]) fun p hp => by rw [List.mem_singleton.mp hp]; exact hg10
    have e1 : ([good] : List (List Int)).length = 1 := rfl
    omega
  have sh0 : ∀ d : PyData, SeqAt.shaped d = true → PyData.eqv d d = true := fun d h => by
    unfold SeqAt.shaped at h
    rw [Bool.and_eq_true] at h
    exact SeqAt.eqv_refl d h.1
  refine ⟨_, rfl, by show 1 ≤ sizeLine; decide, fun q1 hq1 => ⟨q1, [good], [.ref D], rfl, .inl upd_same, .cons ⟨D, rfl, .inl (same_upd hq1 _ _ hG36), hBg, by omega⟩ .nil, hst1, fun H37 r7 s37 n7 => ?_⟩⟩
  have hG37 := s37 _ _ (same_upd (o := .lst [.ref D]) hq1 _ _ hG36)
  refine ⟨_, rfl, D, _, rfl, .inl ⟨SqL.of hG37, fun q2 hq2 => ⟨by show 1 ≤ sizeLine; decide, fun q3 hq3 => ⟨q3, [good], [.ref q2], rfl, .inl upd_same, .cons ⟨q2, rfl, .inr (same_upd hq3 _ _ upd_same), hBg, by omega⟩ .nil, hst1, fun H38 r8 s38 n8 => ?_⟩⟩⟩⟩
  have s78 := ((same_upd (o := .tup (iV good)) hq2).trans (same_upd (o := .lst [.ref q2]) hq3)).trans s38
  refine ⟨_, _, dpL (s78 _ _ n7.at_), dpL n8.at_, sh_ints _, sh_ints _, _, rfl, ?_⟩
  rw [sh0 _ (sh_ints _)]
  have hG38 := s78 _ _ hG37
  refine iteT ⟨_, rfl, D, good, rfl, .inl hG38, hBg, by show good.length ≤ 4000000; omega, fun H39 r9 ws9 s39 n9 hw9 tl9 => ?_⟩
  have hG39 := s39 _ _ hG38
  refine ⟨_, rfl, D, _, rfl, .inl ⟨SqL.of hG39, fun q4 hq4 => ⟨q4, good, rfl, .inr upd_same, hBg, by show good.length ≤ 4000000; omega, fun H40 r10 ws10 s40 n10 hw10 tl10 => ?_⟩⟩⟩
  have s90 := (same_upd (o := .tup (iV good)) hq4).trans s40
  refine ⟨.list ((unstr good).map Tell.pd), .list ((unstr good).map Tell.pd), .lst (SqL.of (s90 _ _ hw9)) (tl9.same s90).dp, .lst (SqL.of hw10) tl10.dp, sh_tells _, sh_tells _, ?_⟩
  rw [sh0 _ (sh_tells _)]
  exact q _
end
end K55
/-! TwOwn: the end of a law that makes a lambda itself; an except clause that another class stands in. -/
namespace Tw
open PySem PySem.Spec PyProof.Rows L2 LamX
/-- where the law's own code object stands, and its table -/
theorem own_of {K : PySem.W.Frag} {h : Heap} {x : Str} {f fa c P : Addr} (own : OwnTab K fa h) (a : PySem.W.nsIn K mainGlobals x = some (some (.ref fa))) (n : PySem.W.nsIn K mainGlobals x = some (some (.ref f))) {oc oc' e : Value} {od od' dd : Option Addr} {fd fd' : FuncData} {osl osl' sl : Array (Option Value)} {vs : Array Value}
    (l : K.lookup fa = some ⟨oc, od, .func fd, osl⟩) (l' : K.lookup f = some ⟨oc', od', .func fd', osl'⟩) (hc : fd'.code = .ref c) (l2 : K.lookup c = some ⟨e, dd, .fields vs, sl⟩) (hv : vs[11]? = some (.ref P)) :
    h.get? P = some { cls := .none, data := .fields #[] } ∧ fd.code = .ref c := by
  cases a.symm.trans n
  cases l.symm.trans l'
  exact ⟨own _ _ _ _ _ _ _ _ l rfl hc l2 hv, hc⟩
theorem exm_b {K : PySem.W.Frag} {B S : Addr} {b : Bool} (h1 : PySem.W.subIn K (.ref S) (.type "BaseException") = some true) (h2 : PySem.W.isClsIn K S = true) (h3 : PySem.W.typeIn K (.ref S) = some (.type "type")) (h4 : PySem.W.subIn K (.ref B) (.ref S) = some b) : PySem.W.exmOne K (.ref B) (.ref S) = some b := by
  unfold PySem.W.exmOne
  rw [h1]
  have k : (PySem.W.clsIn K S).isSome = true := h2
  show (if ((PySem.W.clsIn K S).isSome && PySem.W.typeIn K (.ref S) == some (.type "type")) = true then PySem.W.subIn K (.ref B) (.ref S) else none) = some b
  rw [k, h3]
  exact h4
end Tw
namespace K55
open PySem PySem.Spec PyProof.Rows L2 Tw Sb
section
variable {P : Program} {w : World} {K : PySem.W.Frag} {mg : Str → Option Value} {base : Heap}
theorem ok_with_zeros {f : Addr} {fd : FuncData} (F : Fun K "_with_zeros" "_with_zeros" s__with_zeros f fd) (T : Bt mg) (g_LONGEST_RUN : Gi mg "LONGEST_RUN" 254) : FnOk P w K mg base CX0 1 f fd ["piece"] spWithZ := by
  refine F.ok sc__with_zeros (fun vs H Q E h => ?_) (fun cdv A outer s H vs Q E hr h => ?_)
  · obtain ⟨a, ns, rfl, _⟩ := h
    rfl
  · obtain ⟨a, ns, rfl, hA, hB, hN, hl, q⟩ := h
    refine ⟨_, (pss_cons (ps_set (i := 1) sc__with_zeros.nd rfl (.inl rfl) (pe_lst pa_nil))
      (pss_cons (ps_set (i := 2) sc__with_zeros.nd rfl (.inl rfl) pe_int)
      (pss_cons (ps_while PassesOwn.never (pt_cmpR op_lt (pv 2) (pe_callB call_len_seq (by rfl) T.n_len (by decide +kernel) (pa_cons (pv 0) pa_nil)) (nomark _))
        (pss_cons (ps_set (i := 3) sc__with_zeros.nd rfl (.inl rfl) (pe_op op_add (pv 2) (pe_ix (r := rIxL K) ix_list (pv 0) (pv 2) (fun _ _ => rfl))))
        (pss_cons (ps_if (pt_cmpR op_gt (pv 3) (pe_callB call_len_seq (by rfl) T.n_len (by decide +kernel) (pa_cons (pv 0) pa_nil)) (nomark _))
          (pss_one (ps_ret pe_non))
          pss_nil)
        (pss_cons (ps_expr (pe_bm PySem.F.plainAttrs_list PySem.F.slot_list_extend PySem.F.type_list_extend mt_extend (pv 1) (pa_cons (pe_slice (r := rSlL K) sl_list (pv 0) (po_some (pe_op op_add (pv 2) pe_int)) (po_some (pv 3))) pa_nil)))
        (pss_cons (ps_if (PW.pt (pw_and (pt_cmpR op_le (pe_ix (r := rIxL K) ix_list (pv 0) (pv 2) (fun _ _ => rfl)) (C8.pe_gc rfl g_LONGEST_RUN) (nomark _)) (pw_and1 (pt_cmpR op_lt (pv 3) (pe_callB call_len_seq (by rfl) T.n_len (by decide +kernel) (pa_cons (pv 0) pa_nil)) (nomark _)))))
          (pss_one (ps_expr (pe_bm PySem.F.plainAttrs_list PySem.F.slot_list_append PySem.F.type_list_append mt_append (pv 1) (pa_cons pe_int pa_nil))))
          pss_nil)
        (pss_one (ps_set (i := 2) sc__with_zeros.nd rfl (.inl rfl) (pv 3))))))))
      (pss_one (ps_ret (pv 1)))))), ?_⟩
    refine ⟨Nat.zero_le _, fun p hp => ?_⟩
    have nap : a ≠ p := ne_of_none hA hp
    refine ⟨fun m σ H' => ∃ (i fu : Nat) (acc : List Int) (y : Option V), σ = [some (.ref a), some (.ref p), some (.int (i : Nat)), y] ∧ Same H H' ∧ H' p = some (.lst (iV acc)) ∧ ns.length - i ≤ fu ∧ undo fu acc (ns.drop i) = unrun ns ∧ acc.length ≤ i ∧ i ≤ ns.length ∧ m = ns.length - i,
      ⟨_, 0, ns.length, [], none, rfl, same_upd hp, upd_same, by omega, rfl, Nat.le_refl _, Nat.zero_le _, rfl⟩, ?_⟩
    rintro m σ H' ⟨i, fu, acc, y, rfl, hs, hP, hfu, hu, hac, hi, rfl⟩
    have hA' := hs _ _ hA
    refine ⟨_, rfl, _, rfl, a, _, rfl, .inl (SqL.of hA'), (i : Int), ((iV ns).length : Nat), rfl, rfl, _, rfl, ?_⟩
    rw [iV_len]
    refine ite2 (fun g => ?_) (fun g => ?_)
    · have lt : i < ns.length := by have := of_decide_eq_true g; omega
      refine ⟨fun σ' H2 => ∃ m', m' < ns.length - i ∧ ∃ (i fu : Nat) (acc : List Int) (y : Option V), σ' = [some (.ref a), some (.ref p), some (.int (i : Nat)), y] ∧ Same H H2 ∧ H2 p = some (.lst (iV acc)) ∧ ns.length - i ≤ fu ∧ undo fu acc (ns.drop i) = unrun ns ∧ acc.length ≤ i ∧ i ≤ ns.length ∧ m' = ns.length - i, fun σ' H2 h => h, ?_⟩
      obtain ⟨k, hk, k1, k2⟩ := byte_nat hB hN (List.getElem?_eq_getElem lt)
      have hat : ns[i]? = some (k : Int) := by rw [List.getElem?_eq_getElem lt, hk]
      obtain ⟨fu', hfu', hun⟩ := undo_at (acc := acc) hat k1 hfu
      rw [hu] at hun
      refine ⟨_, rfl, _, rfl, _, rfl, a, _, (i : Int), .int (k : Int), rfl, rfl, SqL.of hA', iV_atI hat, _, _, rfl, rfl, ?_⟩
      refine ⟨_, rfl, _, rfl, a, _, rfl, .inl (SqL.of hA'), (i : Int) + (k : Int), ((iV ns).length : Nat), rfl, rfl, _, rfl, ?_⟩
      rw [iV_len]
      refine ite2 (fun g2 => ?_) (fun g2 => ?_)
      · have gt : ns.length < i + k := by have := of_decide_eq_true g2; omega
        rw [if_pos gt] at hun
        refine q _ _ hs ?_
        rw [hun]
        exact rfl
      · have le : ¬ ns.length < i + k := fun c => g2 (decide_eq_true (by omega))
        rw [if_neg le] at hun
        refine ⟨_, rfl, .inl ⟨rfl, _, SqL.of hP⟩, _, rfl, _, rfl, (i : Int), 1, rfl, rfl, _, rfl, _, rfl, _, rfl, a, _, rfl, SqL.of hA', fun t ht => ?_⟩
        have npt : p ≠ t := ne_of_none hP ht
        have hs2 := hs.trans (same_upd (o := .lst (cutV (iV ns) (some ((i : Int) + 1)) (some ((i : Int) + (k : Int))))) ht)
        have ecut : cutV (iV ns) (some ((i : Int) + 1)) (some ((i : Int) + (k : Int))) = iV ((ns.drop (i + 1)).take (k - 1)) := by
          rw [show (i : Int) + 1 = ((i + 1 : Nat) : Int) by omega, show (i : Int) + (k : Int) = ((i + k : Nat) : Int) by omega, cut_nn, iV_take, iV_drop, show i + k - (i + 1) = k - 1 by omega]
        rw [ecut] at hs2 ⊢
        have ltk : ((ns.drop (i + 1)).take (k - 1)).length = k - 1 := by
          rw [List.length_take, List.length_drop]
          omega
        refine ⟨p, t, iV acc, iV ((ns.drop (i + 1)).take (k - 1)), rfl, rfl, by rw [upd_ne npt]; exact hP, upd_same, ?_, ?_⟩
        · rw [iV_len, iV_len, ltk]
          exact Nat.le_trans (show acc.length + (k - 1) ≤ ns.length by omega) (Nat.le_trans hl (by decide))
        rw [← iV_append]
        generalize hH3 : upd (upd H' t (.lst (iV ((ns.drop (i + 1)).take (k - 1))))) p (.lst (iV (acc ++ (ns.drop (i + 1)).take (k - 1)))) = H3
        have s3 : Same H H3 := fun c o e => by
          rw [← hH3, upd_ne (ne_of_none e hp)]
          exact hs2 c o e
        have hP3 : H3 p = some (.lst (iV (acc ++ (ns.drop (i + 1)).take (k - 1)))) := by rw [← hH3, upd_same]
        have hA3 := s3 _ _ hA
        have l3 : (acc ++ (ns.drop (i + 1)).take (k - 1)).length ≤ i + k - 1 := by
          rw [List.length_append, ltk]
          omega
        have fin : ∀ (H4 : Hp) (acc' : List Int), Same H H4 → H4 p = some (.lst (iV acc')) → acc' = acc ++ (ns.drop (i + 1)).take (k - 1) ++ (if (k : Int) < 255 ∧ i + k < ns.length then [0] else []) →
            ∃ m', m' < ns.length - i ∧ ∃ (i' fu : Nat) (acc : List Int) (y : Option V), ([some (V.ref a), some (.ref p), some (.int ((i : Int) + (k : Int))), some (.int ((i : Int) + (k : Int)))] : L2.St) = [some (.ref a), some (.ref p), some (.int (i' : Nat)), y] ∧ Same H H4 ∧ H4 p = some (.lst (iV acc)) ∧ ns.length - i' ≤ fu ∧ undo fu acc (ns.drop i') = unrun ns ∧ acc.length ≤ i' ∧ i' ≤ ns.length ∧ m' = ns.length - i' := by
          intro H4 acc' s4 h4 e4
          refine ⟨ns.length - (i + k), by omega, i + k, fu', acc', some (.int ((i : Int) + (k : Int))), ?_, s4, h4, hfu', ?_, ?_, by omega, rfl⟩
          · rw [show (i : Int) + (k : Int) = ((i + k : Nat) : Int) by omega]
          · rw [e4]
            exact hun.symm
          · rw [e4, List.length_append]
            have : (if (k : Int) < 255 ∧ i + k < ns.length then [(0 : Int)] else []).length ≤ 1 := by split <;> simp
            omega
        refine ⟨_, rfl, _, rfl, a, _, (i : Int), .int (k : Int), rfl, rfl, SqL.of hA3, iV_atI hat, (k : Int), 254, rfl, rfl, _, rfl, ?_⟩
        refine ite2 (fun g3 => ?_) (fun g3 => ?_)
        · have c1 : (k : Int) < 255 := by have := of_decide_eq_true g3; omega
          refine ⟨_, rfl, _, rfl, a, _, rfl, .inl (SqL.of hA3), (i : Int) + (k : Int), ((iV ns).length : Nat), rfl, rfl, _, rfl, ?_⟩
          rw [iV_len]
          refine ite2 (fun g4 => ?_) (fun g4 => ?_)
          · have c2 : i + k < ns.length := by have := of_decide_eq_true g4; omega
            refine ⟨_, rfl, .inl ⟨rfl, _, SqL.of hP3⟩, p, _, _, rfl, rfl, hP3, ?_, ?_⟩
            · rw [iV_len]
              exact Nat.lt_of_le_of_lt (Nat.le_trans l3 (show i + k - 1 ≤ ns.length by omega)) (Nat.lt_of_le_of_lt hl (by decide))
            refine ⟨_, rfl, fin _ (acc ++ (ns.drop (i + 1)).take (k - 1) ++ [0]) (fun c o e => ?_) ?_ ?_⟩
            · rw [upd_ne (ne_of_none e hp)]
              exact s3 c o e
            · rw [upd_same, iV_snoc]
            · rw [if_pos ⟨c1, c2⟩]
          · have c2 : ¬ i + k < ns.length := fun c => g4 (decide_eq_true (by omega))
            refine ⟨_, rfl, fin _ _ s3 hP3 ?_⟩
            rw [if_neg (fun q => c2 q.2), List.append_nil]
        · have c1 : ¬ (k : Int) < 255 := fun c => g3 (decide_eq_true (by omega))
          refine ⟨_, rfl, fin _ _ s3 hP3 ?_⟩
          rw [if_neg (fun q => c1 q.1), List.append_nil]
    · have ge : ¬ i < ns.length := fun c => g (decide_eq_true (by omega))
      refine ⟨_, rfl, q _ _ hs ?_⟩
      rw [List.drop_of_length_le (by omega), undo_nil] at hu
      rw [← hu]
      exact ⟨p, rfl, hp, hP⟩
theorem ok_read_piece {f : Addr} {fd : FuncData} (F : Fun K "_read_piece" "_read_piece" s__read_piece f fd) (T : Bt mg) (g_CHECK_BYTES : Gi mg "CHECK_BYTES" 4) (c__with_zeros : Cal P w K mg base 1 "_with_zeros" ["piece"] spWithZ) (c__check : Cal P w K mg base 1 "_check" ["part"] spCheck) :
    FnOk P w K mg base CX0 2 f fd ["place", "piece"] spRead := by
  refine F.ok sc__read_piece (fun vs H Q E h => ?_) (fun cdv A outer s H vs Q E hr h => ?_)
  · obtain ⟨a, pl, ns, rfl, _⟩ := h
    rfl
  · obtain ⟨a, pl, ns, rfl, hA, hB, hN, hl, q⟩ := h
    refine ⟨_, (pss_cons (ps_set (i := 2) sc__read_piece.nd rfl (.inl rfl) (pe_cal c__with_zeros hr (by decide) (by rfl) (pa_cons (pv 1) pa_nil)))
      (pss_cons (ps_if (PW.pt (pw_and (pt_cmpR op_notN (pv 2) pe_non (nomark _)) (pw_and1 (pt_cmpR op_ge (pe_callB call_len_seq (by rfl) T.n_len (by decide +kernel) (pa_cons (pv 2) pa_nil)) (C8.pe_gc rfl g_CHECK_BYTES) (nomark _)))))
        (pss_cons (ps_set (i := 3) sc__read_piece.nd rfl (.inl rfl) (pe_slice (r := rSlL K) sl_list (pv 2) po_none (po_some (pe_un un_neg (C8.pe_gc rfl g_CHECK_BYTES)))))
        (pss_one (ps_if (pt_cmpR (op_eqD hr.units) (pe_slice (r := rSlL K) sl_list (pv 2) (po_some (pe_un un_neg (C8.pe_gc rfl g_CHECK_BYTES))) po_none) (pe_cal c__check hr (by decide) (by rfl) (pa_cons (pv 3) pa_nil)) (nomark _))
          (pss_one (ps_ret (pe_tup (pa_cons pe_str (pa_cons (pv 0) (pa_cons (pv 3) pa_nil))))))
          pss_nil)))
        pss_nil)
      (pss_one (ps_ret (pe_tup (pa_cons pe_str (pa_cons (pv 0) (pa_cons (pe_callB call_len_seq (by rfl) T.n_len (by decide +kernel) (pa_cons (pv 1) pa_nil)) pa_nil)))))))), ?_⟩
    refine ⟨_, rfl, a, ns, rfl, hA, hB, hN, hl, fun H1 v s1 hv => ?_⟩
    have hA1 := s1 _ _ hA
    have torn : ∀ (H2 : Hp), Same H H2 → tell pl ns = .torn pl ns.length → ∀ p, H2 p = none → Q (.ref p) (upd H2 p (.tup [.str "torn", .int (pl : Nat), .int ((iV ns).length : Nat)])) := by
      intro H2 s2 et p hp
      refine q _ _ (s2.trans (same_upd hp)) ?_
      rw [et]
      refine ⟨p, rfl, ?_, s2.free hp⟩
      rw [upd_same, iV_len]
    cases hu : unrun ns with
    | none =>
      rw [hu] at hv
      obtain rfl : v = .non := hv
      have et : tell pl ns = .torn pl ns.length := by
        unfold tell
        rw [hu]
      refine ⟨_, rfl, rfl, _, rfl, ?_⟩
      exact ⟨_, rfl, _, rfl, a, _, rfl, .inl (SqL.of hA1), by show 3 ≤ sizeLine; decide, torn _ s1 et⟩
    | some ws =>
      rw [hu] at hv
      obtain ⟨pw, rfl, hpw, hW⟩ := hv
      have hp1 : ∀ b ∈ ns, 1 ≤ b := fun b hb => by have := hB b hb; have := hN b hb; omega
      have lw : ws.length ≤ big := Nat.le_trans (unrun_length hp1 hu) hl
      have bw : By ws := unrun_by hB hu
      refine ⟨_, rfl, rfl, _, rfl, ?_⟩
      refine iteNF (fun z => nomatch z) ?_
      refine ⟨_, rfl, pw, _, rfl, .inl (SqL.of hW), ((iV ws).length : Nat), 4, rfl, rfl, _, rfl, ?_⟩
      rw [iV_len]
      refine ite2 (fun g => ?_) (fun g => ?_)
      · have h4 : 4 ≤ ws.length := by have := of_decide_eq_true g; omega
        have h4' : 4 ≤ (iV ws).length := by rw [iV_len]; exact h4
        refine ⟨_, rfl, 4, rfl, _, rfl, pw, _, rfl, SqL.of hW, fun t ht => ?_⟩
        rw [show (-(4 : Int)) = -((4 : Nat) : Int) from rfl, cut_0m _ _ (by decide) h4', iV_len, ← iV_take]
        have hs2 := s1.trans (same_upd (o := .lst (iV (ws.take (ws.length - 4)))) ht)
        have hW2 : (upd H1 t (.lst (iV (ws.take (ws.length - 4))))) pw = some (.lst (iV ws)) := by rw [upd_ne (ne_of_none hW ht)]; exact hW
        have hT2 : (upd H1 t (.lst (iV (ws.take (ws.length - 4))))) t = some (.lst (iV (ws.take (ws.length - 4)))) := upd_same
        have nt : H t = none := s1.free ht
        generalize upd H1 t (.lst (iV (ws.take (ws.length - 4)))) = H2 at hs2 hW2 hT2 ⊢
        refine ⟨_, rfl, 4, rfl, _, rfl, pw, _, rfl, SqL.of hW2, fun u hu2 => ?_⟩
        rw [show (-(4 : Int)) = -((4 : Nat) : Int) from rfl, cut_m0 _ _ (by decide) h4', iV_len, ← iV_drop]
        have hs3 := hs2.trans (same_upd (o := .lst (iV (ws.drop (ws.length - 4)))) hu2)
        have hT3 : (upd H2 u (.lst (iV (ws.drop (ws.length - 4))))) t = some (.lst (iV (ws.take (ws.length - 4)))) := by rw [upd_ne (ne_of_none hT2 hu2)]; exact hT2
        have hU3 : (upd H2 u (.lst (iV (ws.drop (ws.length - 4))))) u = some (.lst (iV (ws.drop (ws.length - 4)))) := upd_same
        generalize upd H2 u (.lst (iV (ws.drop (ws.length - 4)))) = H3 at hs3 hT3 hU3 ⊢
        refine ⟨_, rfl, t, _, rfl, .inl hT3, bw.take _, Nat.le_trans (by rw [List.length_take]; exact Nat.min_le_right _ _) lw, fun H4 c s4 hc hC => ?_⟩
        refine ⟨_, _, dpL (s4 _ _ hU3), dpL hC, sh_ints _, sh_ints _, _, rfl, ?_⟩
        rw [eqv_ints]
        have hs4 := hs3.trans s4
        refine ite2 (fun g2 => ?_) (fun g2 => ?_)
        · have e2 := of_decide_eq_true g2
          refine ⟨_, rfl, _, rfl, by show 3 ≤ sizeLine; decide, fun p hp => ?_⟩
          refine q _ _ (hs4.trans (same_upd hp)) ?_
          have et : tell pl ns = .part pl (ws.take (ws.length - 4)) := by
            unfold tell
            rw [hu]
            exact if_pos ⟨h4, e2⟩
          rw [et]
          have hT4 := s4 _ _ hT3
          exact ⟨p, t, rfl, upd_same, by rw [upd_ne (ne_of_none hT4 hp)]; exact hT4, hs4.free hp, nt⟩
        · have e2 : ¬ ws.drop (ws.length - 4) = check (ws.take (ws.length - 4)) := fun z => g2 (decide_eq_true z)
          have et : tell pl ns = .torn pl ns.length := by
            unfold tell
            rw [hu]
            exact if_neg fun z => e2 z.2
          exact ⟨_, rfl, _, rfl, a, _, rfl, .inl (SqL.of (hs4 _ _ hA)), by show 3 ≤ sizeLine; decide, torn _ hs4 et⟩
      · have h4 : ¬ 4 ≤ ws.length := fun z => g (decide_eq_true (by omega))
        have et : tell pl ns = .torn pl ns.length := by
          unfold tell
          rw [hu]
          exact if_neg fun z => h4 z.1
        exact ⟨_, rfl, _, rfl, a, _, rfl, .inl (SqL.of hA1), by show 3 ≤ sizeLine; decide, torn _ s1 et⟩
end
end K55
namespace K55
open PySem PySem.Spec PyProof.Rows L2 Tw Sb
section
variable {P : Program} {w : World} {K : PySem.W.Frag} {mg : Str → Option Value} {base : Heap} {C : Addr}
theorem ok_finit {f : Addr} {fd : FuncData} (F : Fun K "__init__" "Feeder.__init__" s_Feeder___init__ f fd) (cl : ClF K C) : FnOk P w K mg base CX0 1 f fd ["self"] (spFInit C) := by
  refine F.ok sc_Feeder___init__ (fun vs H Q E h => ?_) (fun cdv A outer s H vs Q E hr h => ?_)
  · obtain ⟨p, dx, rfl, _⟩ := h
    rfl
  · obtain ⟨p, dx, rfl, hp, q⟩ := h
    refine ⟨_, (pss_cons (ps_fld (pv 0) (pe_lst pa_nil) rfl)
      (pss_one (ps_fld (pv 0) pe_int rfl))), ?_⟩
    refine ⟨Nat.zero_le _, fun l hl => ?_⟩
    have npl : p ≠ l := ne_of_none hp hl
    refine ⟨_, rfl, p, C, dx, [], rfl, (by rw [upd_ne npl]; exact hp), cl.cl, cl.nR, (by show 0 < 1000; decide), _, rfl, p, C, dx, _, rfl, upd_same, cl.cl, cl.nP, (by show 1 < 1000; decide), ?_⟩
    refine q _ l (fun b o nb e => ?_) hl ⟨dx, ?_, ?_⟩
    · rw [upd_ne nb, upd_ne nb, upd_ne (ne_of_none e hl)]
      exact e
    · rw [upd_same, fd_init]
      rfl
    · rw [upd_ne npl.symm, upd_ne npl.symm, upd_same]
      rfl
theorem ok_fdone {f : Addr} {fd : FuncData} (F : Fun K "done" "Feeder.done" s_Feeder_done f fd) (T : Bt mg) (cl : ClF K C) : FnOk P w K mg base CX0 1 f fd ["self"] (spFDone C) := by
  refine F.ok sc_Feeder_done (fun vs H Q E h => ?_) (fun cdv A outer s H vs Q E hr h => ?_)
  · obtain ⟨p, l, rest, pl, rfl, _⟩ := h
    rfl
  · obtain ⟨p, l, rest, pl, rfl, hF, hlen, q⟩ := h
    refine ⟨_, (pss_cons (ps_set (i := 1) sc_Feeder_done.nd rfl (.inl rfl) (pe_lst pa_nil))
      (pss_cons (ps_if (pt_cmpR op_gt (pe_callB call_len_seq (by rfl) T.n_len (by decide +kernel) (pa_cons (pe_fld (pv 0) rfl) pa_nil)) pe_int (nomark _))
        (pss_one (ps_expr (pe_bm PySem.F.plainAttrs_list PySem.F.slot_list_append PySem.F.type_list_append mt_append (pv 1) (pa_cons (pe_tup (pa_cons pe_str (pa_cons (pe_fld (pv 0) rfl) (pa_cons (pe_callB call_len_seq (by rfl) T.n_len (by decide +kernel) (pa_cons (pe_fld (pv 0) rfl) pa_nil)) pa_nil)))) pa_nil))))
        pss_nil)
      (pss_cons (ps_fld (pv 0) (pe_lst pa_nil) rfl)
      (pss_cons (ps_fld (pv 0) pe_int rfl)
      (pss_one (ps_ret (pv 1))))))), ?_⟩
    obtain ⟨dx, hp, hL⟩ := hF
    refine ⟨Nat.zero_le _, fun r hr0 => ?_⟩
    have npr : p ≠ r := ne_of_none hp hr0
    have nlr : l ≠ r := ne_of_none hL hr0
    have s1 := same_upd (o := .lst []) hr0
    have hp1 := s1 _ _ hp
    have hL1 := s1 _ _ hL
    have hR1 : (upd H r (.lst [])) r = some (.lst []) := upd_same
    generalize hH1 : upd H r (.lst []) = H1 at s1 hp1 hL1 hR1 ⊢
    have fin : ∀ (H2 : Hp) (ws : List V), Same H1 (upd H2 r (.lst [])) → (∀ b o, b ≠ r → H1 b = some o → H2 b = some o) → H2 r = some (.lst ws) → Tls H1 H2 (rests rest pl) ws → ∀ l', H2 l' = none →
        Q (.ref r) (upd (upd (upd H2 l' (.lst [])) p (.ins C dx (putF "rest" (.ref l') (fdF l (pl : Nat))))) p (.ins C dx (putF "place" (.int 0) (putF "rest" (.ref l') (fdF l (pl : Nat)))))) := by
      intro H2 ws _ k2 hR2 ht l' hl'
      have nrl : r ≠ l' := ne_of_none hR2 hl'
      have hp2 := k2 p _ npr hp1
      have npl' : p ≠ l' := ne_of_none hp2 hl'
      have hl0 : H l' = none := by
        cases e : H l' with
        | none => rfl
        | some o =>
          rw [k2 l' o nrl.symm (s1 _ _ e)] at hl'
          cases hl'
      have hr0' : H r = none := hr0
      refine q _ l' r ws (fun b o nb e => ?_) hl0 ⟨dx, ?_, ?_⟩ hr0' nrl ?_ (hH1 ▸ ht.keep fun b o e0 e => ?_)
      · have nbr : b ≠ r := ne_of_none e hr0
        rw [upd_ne nb, upd_ne nb, upd_ne (ne_of_none e hl0)]
        exact k2 b o nbr (s1 _ _ e)
      · rw [upd_same, fd_rest, fd_place]
        rfl
      · rw [upd_ne npl'.symm, upd_ne npl'.symm, upd_same]
        rfl
      · rw [upd_ne npr.symm, upd_ne npr.symm, upd_ne nrl]
        exact hR2
      · have nbp : b ≠ p := fun z => by rw [z, hp1] at e0; cases e0
        rw [upd_ne nbp, upd_ne nbp, upd_ne (ne_of_none e hl')]
        exact e
    refine ⟨_, rfl, p, C, dx, _, _, rfl, hp1, cl.cl, cl.nR, fd_get_rest _ _, l, _, rfl, .inl (SqL.of hL1), ((iV rest).length : Nat), 0, rfl, rfl, _, rfl, ?_⟩
    rw [iV_len]
    refine ite2 (fun g => ?_) (fun g => ?_)
    · have g1 : rest ≠ [] := by
        rintro rfl
        simp at g
      refine ⟨_, rfl, .inl ⟨rfl, _, SqL.of hR1⟩, _, rfl, p, C, dx, _, _, rfl, hp1, cl.cl, cl.nP, fd_get_place _ _, _, rfl, p, C, dx, _, _, rfl, hp1, cl.cl, cl.nR, fd_get_rest _ _, l, _, rfl, .inl (SqL.of hL1), by show 3 ≤ sizeLine; decide, fun t ht => ?_⟩
      have nrt : r ≠ t := ne_of_none hR1 ht
      refine ⟨r, [], _, rfl, rfl, by rw [upd_ne nrt]; exact hR1, by show 0 < sizeLine; decide, ?_⟩
      generalize hH2 : upd (upd H1 t (.tup [.str "torn", .int (pl : Nat), .int ((iV rest).length : Nat)])) r (.lst ([] ++ [.ref t])) = H2
      have k2 : ∀ b o, b ≠ r → H1 b = some o → H2 b = some o := fun b o nb e => by
        rw [← hH2, upd_ne nb, upd_ne (ne_of_none e ht)]
        exact e
      refine ⟨Nat.zero_le _, fun l' hl' => ⟨_, rfl, p, C, dx, fdF l (pl : Nat), rfl, ?_, cl.cl, cl.nR, (by show 2 < 1000; decide), _, rfl, p, C, dx, _, rfl, upd_same, cl.cl, cl.nP, (by rw [fd_rest]; show 2 < 1000; decide), _, rfl, ?_⟩⟩
      · have hp2 := k2 p _ npr hp1
        rw [upd_ne (ne_of_none hp2 hl')]
        exact hp2
      · refine fin H2 [.ref t] (fun b o e => ?_) k2 (by rw [← hH2, upd_same]; rfl) ?_ l' hl'
        · by_cases hb : b = r
          · rw [hb] at e ⊢
            rw [upd_same, ← hR1]
            exact e
          · rw [upd_ne hb]
            exact k2 b o hb e
        · unfold rests
          rw [if_neg g1]
          refine .cons ⟨t, rfl, ?_, ht⟩ .nil
          rw [← hH2, upd_ne nrt.symm, upd_same, iV_len]
    · have g1 : rest = [] := by
        cases rest with
        | nil => rfl
        | cons x t =>
          exact absurd (decide_eq_true (show (0 : Int) < (((x :: t).length : Nat) : Int) by rw [List.length_cons]; omega)) g
      refine ⟨Nat.zero_le _, fun l' hl' => ⟨_, rfl, p, C, dx, fdF l (pl : Nat), rfl, ?_, cl.cl, cl.nR, (by show 2 < 1000; decide), _, rfl, p, C, dx, _, rfl, upd_same, cl.cl, cl.nP, (by rw [fd_rest]; show 2 < 1000; decide), _, rfl, ?_⟩⟩
      · rw [upd_ne (ne_of_none hp1 hl')]
        exact hp1
      · refine fin H1 [] (fun b o e => ?_) (fun b o _ e => e) hR1 ?_ l' hl'
        · by_cases hb : b = r
          · rw [hb] at e ⊢
            rw [upd_same, ← hR1]
            exact e
          · rw [upd_ne hb]
            exact e
        · unfold rests
          rw [if_pos g1]
          exact .nil
end
end K55
namespace K55
open PySem PySem.Spec PyProof.Rows L2 Tw Sb
/-- what stands at the k-th zero -/
def feedInv (C p d e z l : Addr) (rest xs : List Int) (pl : Nat) (H : Hp) (zv : List V) (k : Nat) (σ : L2.St) (H' : Hp) : Prop :=
  ∃ (st lk pk : Nat) (rk : List Int) (ts : List Tell) (ws : List V) (y4 y5 : Option V), σ = [some (.ref p), some (.ref d), some (.ref e), some (.int (st : Nat)), y4, y5] ∧ (∀ b o, b ≠ p → H b = some o → H' b = some o) ∧ FdAt C H' p lk rk pk ∧ (lk = l ∨ H lk = none) ∧ e ≠ lk ∧ z ≠ lk ∧ d ≠ lk ∧ H' e = some (.lst ws) ∧ H' z = some (.lst zv) ∧
        (zs 0 xs).drop k = zs st (xs.drop st) ∧ st ≤ xs.length ∧ goes rest pl xs = (ts ++ (goes rk pk (xs.drop st)).1, (goes rk pk (xs.drop st)).2) ∧ Tls (upd (upd H e (.lst [])) lk (.lst [])) H' ts ws ∧ By rk ∧ NZ rk ∧ rk.length ≤ rest.length ∧ ts.length ≤ k
section
variable {P : Program} {w : World} {K : PySem.W.Frag} {mg : Str → Option Value} {base : Heap} {C : Addr}
theorem ok_feed {f : Addr} {fd : FuncData} (F : Fun K "feed" "Feeder.feed" s_Feeder_feed f fd) (T : Bt mg) (cl : ClF K C) (c__refuse_others : Cal P w K mg base 3 "_refuse_others" ["data"] spRefuse) (c__zeros : Cal P w K mg base 1 "_zeros" ["data"] spZeros) (c__read_piece : Cal P w K mg base 2 "_read_piece" ["place", "piece"] spRead) :
    FnOk P w K mg base CX0 4 f fd ["self", "data"] (spFFeedR C) := by
  refine F.ok sc_Feeder_feed (fun vs H Q E h => ?_) (fun cdv A outer s H vs Q E hr h => ?_)
  · obtain ⟨p, d, l, rest, xs, pl, rfl, _⟩ := h
    rfl
  · obtain ⟨p, d, l, rest, xs, pl, rfl, hF, hD, ndl, hBr, hNr, hBx, hlen, q⟩ := h
    refine ⟨_, (pss_cons (ps_expr (pe_cal c__refuse_others hr (by decide) (by rfl) (pa_cons (pv 1) pa_nil)))
      (pss_cons (ps_set (i := 2) sc_Feeder_feed.nd rfl (.inl rfl) (pe_lst pa_nil))
      (pss_cons (ps_set (i := 3) sc_Feeder_feed.nd rfl (.inl rfl) pe_int)
      (pss_cons (ps_for PassesOwn.never rfl (pi_list (pe_cal c__zeros hr (by decide) (by rfl) (pa_cons (pv 1) pa_nil))) (pg_name (i := 4) sc_Feeder_feed.nd rfl (.inl rfl))
        (pss_cons (ps_set (i := 5) sc_Feeder_feed.nd rfl (.inl rfl) (pe_lst (StX.pa_star (pe_fld (pv 0) rfl) (StX.pa_star (pe_slice (r := rSlR) sl_row (pv 1) (po_some (pv 3)) (po_some (pv 4))) pa_nil))))
        (pss_cons (ps_if (pt_cmpR op_gt (pe_callB call_len_seq (by rfl) T.n_len (by decide +kernel) (pa_cons (pv 5) pa_nil)) pe_int (nomark _))
          (pss_one (ps_expr (pe_bm PySem.F.plainAttrs_list PySem.F.slot_list_append PySem.F.type_list_append mt_append (pv 2) (pa_cons (pe_cal c__read_piece hr (by decide) (by rfl) (pa_cons (pe_fld (pv 0) rfl) (pa_cons (pv 5) pa_nil))) pa_nil))))
          pss_nil)
        (pss_cons (ps_fld (pv 0) (pe_lst pa_nil) rfl)
        (pss_cons (ps_fldaug (pv 0) (pe_op op_add (pe_callB call_len_seq (by rfl) T.n_len (by decide +kernel) (pa_cons (pv 5) pa_nil)) pe_int) in_add)
        (pss_one (ps_set (i := 3) sc_Feeder_feed.nd rfl (.inl rfl) (pe_op op_add (pv 4) pe_int))))))))
      (pss_cons (ps_expr (pe_bm PySem.F.plainAttrs_list PySem.F.slot_list_extend PySem.F.type_list_extend mt_extR (pe_fld (pv 0) rfl) (pa_cons (pe_slice (r := rSlR) sl_row (pv 1) (po_some (pv 3)) po_none) pa_nil)))
      (pss_one (ps_ret (pv 2)))))))), ?_⟩
    have hxl : xs.length ≤ big := by omega
    have npd : p ≠ d := by
      obtain ⟨dx, h1, _⟩ := hF
      exact (hD.ne h1 (by intro ys z; cases z) (by intro ys z; cases z)).symm
    refine ⟨_, rfl, d, xs, rfl, hD, hBx, hxl, fun H1 s1 => ?_⟩
    refine ⟨Nat.zero_le _, fun e he => ?_⟩
    have he0 : H e = none := s1.free he
    have s2 := s1.trans (same_upd (o := .lst []) he)
    have hE2 : (upd H1 e (.lst [])) e = some (.lst []) := upd_same
    generalize upd H1 e (.lst []) = H2 at s2 hE2 ⊢
    refine ⟨_, rfl, d, xs, rfl, hD.same s2, hxl, fun H3 z s3 hz hZ => ?_⟩
    have s23 := s2.trans s3
    have hE3 := s3 _ _ hE2
    have hz0 : H z = none := s2.free hz
    have nze : z ≠ e := fun w => by rw [w, hE2] at hz; cases hz
    refine ⟨z, rfl, ⟨_, SqL.of hZ⟩, ?_⟩
    generalize hzv : ((zs 0 xs).map fun (i : Nat) => V.int i) = zv at hZ
    have nzl : (zs 0 xs).length ≤ xs.length := zs_length 0 xs
    have hl0 : H l = some (.lst (iV rest)) := by
      obtain ⟨dx, _, h2⟩ := hF
      exact h2
    have nel' : e ≠ l := fun w => by rw [w, hl0] at he0; cases he0
    have nzl' : z ≠ l := fun w => by rw [w, hl0] at hz0; cases hz0
    refine for_it (walk_list (K := K) (a := z) (xs := zv)) (feedInv C p d e z l rest xs pl H zv)
      ⟨0, l, pl, rest, [], [], _, _, rfl, fun b o _ h => s23 b o h, hF.keep s23, .inl rfl, nel', nzl', ndl, hE3, hZ, rfl, Nat.zero_le _, rfl, .nil, hBr, hNr, Nat.le_refl _, Nat.le_refl _⟩ (fun k σ H' _ h => ?_) ?_ ?_
    · obtain ⟨st, lk, pk, rk, ts, ws, y4, y5, _, _, _, _, _, _, _, _, h2, _⟩ := h
      exact SqL.of h2
    · rintro k x σ H4 H5 hk ⟨st, lk, pk, rk, ts, ws, y4, y5, rfl, bt, hFk, hlk, nel, nzlk, ndlk, hE, hZ4, hzs, hst, hgo, htl, hBk, hNk, hrk, htsl⟩ ⟨rfl, hx⟩
      obtain ⟨i, hi, rfl⟩ : ∃ i : Nat, (zs 0 xs)[k]? = some i ∧ x = V.int i := by
        rw [← hzv, List.getElem?_map] at hx
        cases e : (zs 0 xs)[k]? with
        | none => rw [e] at hx; cases hx
        | some i => rw [e] at hx; cases hx; exact ⟨i, rfl, rfl⟩
      have hklt : k < (zs 0 xs).length := (List.getElem?_eq_some_iff.mp hi).1
      have hdr : (zs 0 xs).drop k = i :: (zs 0 xs).drop (k + 1) := by
        rw [List.drop_eq_getElem_cons hklt, (List.getElem?_eq_some_iff.mp hi).2]
      obtain ⟨seg, r, exs, hNs, ei, ezs⟩ := zs_cons (hzs.symm.trans hdr)
      have hsl : st + seg.length + 1 + r.length = xs.length := by
        have e := congrArg List.length exs
        rw [List.length_drop, List.length_append, List.length_cons] at e
        omega
      have er : xs.drop (i + 1) = r := by
        have e := congrArg (List.drop (seg.length + 1)) exs
        rw [List.drop_drop] at e
        rw [show i + 1 = st + (seg.length + 1) by omega, e, List.drop_append]
        simp
      have eseg : (xs.drop st).take (i - st) = seg := by
        rw [exs, show i - st = seg.length by omega, List.take_left']
        rfl
      have hBs : By seg := by
        have := hBx.drop st
        rw [exs] at this
        exact this.left
      obtain ⟨dx, hp4, hl4⟩ := id hFk
      have hD4 : Rw H5 d (iV xs) := hD.at_ (fun o e => bt d o npd.symm e)
      -- piece
      refine ⟨_, rfl, p, C, dx, _, _, rfl, hp4, cl.cl, cl.nR, fd_get_rest _ _, lk, _, rfl, .inr (SqL.of hl4), _, rfl, _, rfl, _, rfl, _, rfl, _, rfl, d, _, rfl, hD4, fun H50 t s50 ht => ?_⟩
      rw [cut_nn, ← iV_drop, ← iV_take, eseg] at ht
      refine ⟨t, _, rfl, SqR.star ht, ?_, fun pc hpc => ?_⟩
      · rw [List.length_append, List.length_append, iV_len, iV_len]
        exact Nat.le_trans (show rk.length + (seg.length + 0) ≤ big by omega) (by decide)
      rw [List.append_nil, ← iV_append] at *
      have s5 := s50.trans (same_upd (o := .lst (iV (rk ++ seg))) hpc)
      have hPc : (upd H50 pc (.lst (iV (rk ++ seg)))) pc = some (.lst (iV (rk ++ seg))) := upd_same
      have hpc0 : H5 pc = none := s50.free hpc
      generalize upd H50 pc (.lst (iV (rk ++ seg))) = H6 at s5 hPc ⊢
      have hBp : By (rk ++ seg) := hBk.append hBs
      have hNp : NZ (rk ++ seg) := hNk.append hNs
      have hlp : (rk ++ seg).length ≤ big := by rw [List.length_append]; omega
      have hp6 := s5 _ _ hp4
      have hE6 := s5 _ _ hE
      have ge := goes_zero hNs rk pk r
      rw [← exs] at ge
      rw [ge] at hgo
      -- what is the same in both ways
      have npe : p ≠ e := ne_of hp4 hE (by intro w; cases w)
      have hsame5 : ∀ b o, b ≠ p → H b = some o → H6 b = some o := fun b o nb h => s5 _ _ (bt b o nb h)
      have hZ6 := s5 _ _ hZ4
      have hD6 := hD4.same s5
      have nde : d ≠ e := fun w => hD.some (w ▸ he0)
      have npz : p ≠ z := ne_of hp4 hZ4 (by intro w; cases w)
      have hfr : ∀ b, H6 b = none → H b = none := fun b h => by
        cases e1 : H b with
        | none => rfl
        | some o =>
          by_cases hb : b = p
          · rw [hb, hp6] at h
            cases h
          · rw [hsame5 b o hb e1] at h
            cases h
      have hne0 : ∀ b, H6 b = none → (upd H e (.lst [])) b = none := fun b h => by
        have nb : b ≠ e := fun w => by rw [w, hE6] at h; cases h
        rw [upd_ne nb]
        exact hfr b h
      have htH : Tls (upd H e (.lst [])) H6 ts ws := (htl.same s5).old fun b h => (upd_none h).2
      have fin : ∀ (H7 : Hp) (ws7 : List V) (ts7 : List Tell) (l1 : Addr), (∀ b o, b ≠ e → H6 b = some o → H7 b = some o) → H7 e = some (.lst ws7) → Tls (upd H e (.lst [])) H7 ts7 ws7 → ts7 = ts ++ (if rk ++ seg = [] then [] else [tell pk (rk ++ seg)]) → H7 l1 = none →
          feedInv C p d e z l rest xs pl H zv (k + 1) [some (.ref p), some (.ref d), some (.ref e), some (.int ((i : Int) + 1)), some (.int (i : Nat)), some (.ref pc)]
            (upd (upd (upd H7 l1 (.lst [])) p (.ins C dx (putF "rest" (.ref l1) (fdF lk (pk : Nat))))) p (.ins C dx (putF "place" (.int ((pk : Int) + (((iV (rk ++ seg)).length : Nat) + 1))) (fdF l1 (pk : Nat))))) := by
        intro H7 ws7 ts7 l1 k7 hE7 ht7 et7 hl1
        have hp7 := k7 p _ npe hp6
        have hz7 := k7 z _ nze hZ6
        have hd7 := hD6.at_ (fun o e => k7 d o nde e)
        have npl1 : p ≠ l1 := ne_of_none hp7 hl1
        have nel1 : e ≠ l1 := ne_of_none hE7 hl1
        have nzl1 : z ≠ l1 := ne_of_none hz7 hl1
        have h0l1 : H l1 = none := by
          refine hfr l1 ?_
          cases e1 : H6 l1 with
          | none => rfl
          | some o =>
            rw [k7 l1 o nel1.symm e1] at hl1
            cases hl1
        refine ⟨i + 1, l1, pk + (rk ++ seg).length + 1, [], ts7, ws7, some (.int (i : Nat)), some (.ref pc), by rw [show (i : Int) + 1 = ((i + 1 : Nat) : Int) by omega], fun b o nb h => ?_, ⟨dx, ?_, ?_⟩, .inr h0l1, nel1, nzl1, (fun w => hd7.some (w ▸ hl1)), ?_, ?_, ?_, by omega, ?_, ?_, .nil, .nil, Nat.zero_le _, ?_⟩
        · have nbe : b ≠ e := fun w => by rw [w, he0] at h; cases h
          rw [upd_ne nb, upd_ne nb, upd_ne (ne_of_none h h0l1)]
          exact k7 b o nbe (hsame5 b o nb h)
        · rw [upd_same, fd_place, iV_len, show (pk : Int) + (((rk ++ seg).length : Nat) + 1) = ((pk + (rk ++ seg).length + 1 : Nat) : Int) by omega]
        · rw [upd_ne npl1.symm, upd_ne npl1.symm, upd_same]
          rfl
        · rw [upd_ne npe.symm, upd_ne npe.symm, upd_ne nel1]
          exact hE7
        · rw [upd_ne npz.symm, upd_ne npz.symm, upd_ne nzl1]
          exact hz7
        · rw [er]
          exact ezs
        · rw [hgo, et7, er, List.append_assoc]
        · refine (Tls.more hl1 ht7).keep fun b o h1 h2 => ?_
          have nbp : b ≠ p := fun w => by
            obtain ⟨dx', h3, _⟩ := hF
            rw [w] at h1
            rw [(upd_none (upd_none h1).2).2] at h3
            cases h3
          rw [upd_ne nbp, upd_ne nbp, upd_ne (upd_none h1).1]
          exact h2
        · rw [et7, List.length_append]
          have : (if rk ++ seg = [] then [] else [tell pk (rk ++ seg)]).length ≤ 1 := by split <;> simp
          omega
      have hwl : ws.length < sizeLine := by
        rw [← pd_len htl]
        have := zs_length 0 xs
        exact Nat.lt_of_le_of_lt (show ts.length ≤ big by omega) (by decide)
      refine ⟨_, rfl, pc, _, rfl, .inl (SqL.of hPc), ((iV (rk ++ seg)).length : Nat), 0, rfl, rfl, _, rfl, ?_⟩
      refine ite2 (fun g => ?_) (fun g => ?_)
      · have g1 : rk ++ seg ≠ [] := by
          intro w
          rw [w] at g
          exact absurd (of_decide_eq_true g) (by decide)
        refine ⟨_, rfl, .inl ⟨rfl, _, SqL.of hE6⟩, _, rfl, p, C, dx, _, _, rfl, hp6, cl.cl, cl.nP, fd_get_place _ _, _, rfl, pc, pk, rk ++ seg, rfl, hPc, hBp, hNp, hlp, fun H7 v s7 tv => ?_⟩
        have hE7 := s7 _ _ hE6
        refine ⟨e, ws, v, rfl, rfl, hE7, hwl, ?_⟩
        have hp7 : (upd H7 e (.lst (ws ++ [v]))) p = some (.ins C dx (fdF lk (pk : Nat))) := by
          rw [upd_ne npe]
          exact s7 _ _ hp6
        have k7 : ∀ b o, b ≠ e → H6 b = some o → (upd H7 e (.lst (ws ++ [v]))) b = some o := fun b o nb h => by
          rw [upd_ne nb]
          exact s7 _ _ h
        have ht7 : Tls (upd H e (.lst [])) (upd H7 e (.lst (ws ++ [v]))) (ts ++ [tell pk (rk ++ seg)]) (ws ++ [v]) := by
          have h1 : Tls (upd H e (.lst [])) H7 (ts ++ [tell pk (rk ++ seg)]) (ws ++ [v]) := pd_append (htH.same s7) (.cons (tv.old hne0) .nil)
          refine h1.keep fun b o h1 h2 => ?_
          rw [upd_ne (upd_none h1).1]
          exact h2
        have hpc7 : (upd H7 e (.lst (ws ++ [v]))) pc = some (.lst (iV (rk ++ seg))) := by
          have n : pc ≠ e := fun w => by
            rw [w, hE] at hpc0
            cases hpc0
          exact k7 pc _ n hPc
        have hE7' : (upd H7 e (.lst (ws ++ [v]))) e = some (.lst (ws ++ [v])) := upd_same
        generalize upd H7 e (.lst (ws ++ [v])) = H8 at hp7 k7 ht7 hpc7 hE7' ⊢
        refine ⟨Nat.zero_le _, fun l1 hl1 => ?_⟩
        have npl1 : p ≠ l1 := ne_of_none hp7 hl1
        have npc1 : pc ≠ l1 := ne_of_none hpc7 hl1
        have npcp : pc ≠ p := ne_of hpc7 hp7 (by intro w; cases w)
        refine ⟨_, rfl, p, C, dx, fdF lk (pk : Nat), rfl, by rw [upd_ne npl1]; exact hp7, cl.cl, cl.nR, (by show 2 < 1000; decide), _, rfl, p, C, dx, fdF l1 (pk : Nat), .int (pk : Nat), rfl, by rw [upd_same, fd_rest], cl.cl, cl.nP, fd_get_place _ _, _, rfl, pc, _, rfl, .inl (SqL.of (by rw [upd_ne npcp, upd_ne npc1]; exact hpc7)), _, _, rfl, rfl, _, _, rfl, rfl, dx, fdF l1 (pk : Nat), by rw [upd_same, fd_rest], (by show 2 < 1000; decide), _, rfl, _, _, rfl, rfl, ?_⟩
        exact fin H8 (ws ++ [v]) _ l1 k7 hE7' ht7 (by rw [if_neg g1]) hl1
      · have g1 : rk ++ seg = [] := by
          cases hq : rk ++ seg with
          | nil => rfl
          | cons x t =>
            rw [hq] at g
            exact absurd (decide_eq_true (show (0 : Int) < (((iV (x :: t)).length : Nat) : Int) by rw [iV_len, List.length_cons]; omega)) g
        refine ⟨Nat.zero_le _, fun l1 hl1 => ?_⟩
        have npl1 : p ≠ l1 := ne_of_none hp6 hl1
        have npc1 : pc ≠ l1 := ne_of_none hPc hl1
        have npcp : pc ≠ p := ne_of hPc hp6 (by intro w; cases w)
        refine ⟨_, rfl, p, C, dx, fdF lk (pk : Nat), rfl, by rw [upd_ne npl1]; exact hp6, cl.cl, cl.nR, (by show 2 < 1000; decide), _, rfl, p, C, dx, fdF l1 (pk : Nat), .int (pk : Nat), rfl, by rw [upd_same, fd_rest], cl.cl, cl.nP, fd_get_place _ _, _, rfl, pc, _, rfl, .inl (SqL.of (by rw [upd_ne npcp, upd_ne npc1]; exact hPc)), _, _, rfl, rfl, _, _, rfl, rfl, dx, fdF l1 (pk : Nat), by rw [upd_same, fd_rest], (by show 2 < 1000; decide), _, rfl, _, _, rfl, rfl, ?_⟩
        exact fin H6 ws ts l1 (fun b o _ h => h) hE6 htH (by rw [if_pos g1, List.append_nil]) hl1
    · rintro σ H4 ⟨st, lk, pk, rk, ts, ws, y4, y5, rfl, bt, hFk, hlk, nel, nzlk, ndlk, hE, hZ4, hzs, hst, hgo, htl, hBk, hNk, hrk, htsl⟩
      obtain ⟨dx, hp4, hl4⟩ := id hFk
      have hD4 : Rw H4 d (iV xs) := hD.at_ (fun o e => bt d o npd.symm e)
      have hnz : NZ (xs.drop st) := by
        rw [List.drop_of_length_le (by rw [← hzv, List.length_map]; exact Nat.le_refl _)] at hzs
        exact nz_of_zs hzs.symm
      rw [goes_nz hnz, List.append_nil] at hgo
      refine ⟨_, rfl, p, C, dx, _, _, rfl, hp4, cl.cl, cl.nR, fd_get_rest _ _, .inl ⟨rfl, _, SqL.of hl4⟩, _, rfl, _, rfl, _, rfl, d, _, rfl, hD4, fun H40 t s40 ht => ?_⟩
      rw [cut_n0, ← iV_drop] at ht
      refine ⟨lk, t, iV rk, iV (xs.drop st), rfl, rfl, s40 _ _ hl4, ht, ?_, ?_⟩
      · rw [iV_len, iV_len, List.length_drop]
        exact Nat.le_trans (show rk.length + (xs.length - st) ≤ big by omega) (by decide)
      rw [← iV_append]
      have nplk : p ≠ lk := ne_of hp4 hl4 (by intro w; cases w)
      refine ⟨_, rfl, q _ lk e ws (fun b o n1 n2 h => ?_) ⟨dx, ?_, ?_⟩ hlk he0 nel ?_ ?_⟩
      · have nb : b ≠ lk := fun w => by
          rcases hlk with r | r
          · exact n2 (w.trans r)
          · rw [w, r] at h
            cases h
        rw [upd_ne nb]
        exact s40 _ _ (bt b o n1 h)
      · rw [hgo, upd_ne nplk]
        exact s40 _ _ hp4
      · rw [hgo, upd_same]
      · rw [upd_ne nel]
        exact s40 _ _ hE
      · rw [hgo]
        refine htl.keep fun b o h1 h2 => ?_
        rw [upd_ne (upd_none h1).1]
        exact s40 _ _ h2
theorem ok_unstreamed {f : Addr} {fd : FuncData} (F : Fun K "unstreamed" "unstreamed" s_unstreamed f fd) (cl : ClF K C) (m_mk : MkC P w K mg base C 1 "Feeder" (spFInit C)) (m_feed : MCal P w K mg base C 4 "feed" ["self", "data"] (spFFeedR C)) (m_done : MCal P w K mg base C 1 "done" ["self"] (spFDone C)) :
    FnOk P w K mg base CX0 5 f fd ["data"] spUnstR := by
  refine F.ok sc_unstreamed (fun vs H Q E h => ?_) (fun cdv A outer s H vs Q E hr h => ?_)
  · obtain ⟨d, xs, rfl, _⟩ := h
    rfl
  · obtain ⟨d, xs, rfl, hD, hB, hl, q⟩ := h
    refine ⟨_, (pss_cons (ps_set (i := 1) sc_unstreamed.nd rfl (.inl rfl) (pe_mk0 m_mk hr (by decide) (by rfl)))
      (pss_cons (ps_set (i := 2) sc_unstreamed.nd rfl (.inl rfl) (pe_mcal m_feed cl.cl hr (by decide) (pv 1) (pa_cons (pv 0) pa_nil)))
      (pss_cons (ps_expr (pe_bm PySem.F.plainAttrs_list PySem.F.slot_list_extend PySem.F.type_list_extend mt_extend (pv 2) (pa_cons (pe_mcal0 m_done cl.cl hr (by decide) (pv 1)) pa_nil)))
      (pss_one (ps_ret (pv 2)))))), ?_⟩
    intro p dx np ndx nex
    have s1 : Same H (upd (upd H dx (.own p)) p (.ins C dx [])) := fun b o e => by
      rw [upd_ne (ne_of_none e np), upd_ne (ne_of_none e ndx)]
      exact e
    refine ⟨p, dx, rfl, upd_same, fun H2 l k2 hl2 hF2 => ⟨rfl, ?_⟩⟩
    have s2 : Same H H2 := fun b o e => k2 b o (ne_of_none e np) (s1 _ _ e)
    have hl0 : H l = none := s1.free hl2
    have hD2 := hD.same s2
    have ndl : d ≠ l := fun w => hD.some (w ▸ hl0)
    obtain ⟨dx2, hp2, hL2⟩ := id hF2
    refine ⟨_, rfl, p, dx2, _, rfl, hp2, fd_no _ _ (by decide +kernel) (by decide +kernel), _, rfl, p, d, l, [], xs, 0, rfl, hF2, hD2, ndl, .nil, .nil, hB, by simpa using hl, fun H3 l3 r ws b3 hF3 hl3 hr0 nrl hR3 ht3 => ?_⟩
    obtain ⟨dx3, hp3, hL3⟩ := id hF3
    replace ht3 := ht3.old fun b h => (upd_none h).2
    have hgk := goes_keeps (pl := 0) By.nil NZ.nil hB
    have npr : p ≠ r := fun w => by rw [w, hr0] at hp2; cases hp2
    have hmany := goes_many [] 0 xs
    refine ⟨_, rfl, .inl ⟨rfl, _, SqL.of hR3⟩, _, rfl, p, dx3, _, rfl, hp3, fd_no _ _ (by decide +kernel) (by decide +kernel), p, l3, _, _, rfl, hF3, by have := hgk.2.2; simp at this; omega, fun H4 l4 r4 ws4 k4 hl4 hF4 hr4 nr4 hR4 ht4 => ?_⟩
    have hR3' := k4 r _ npr.symm hR3
    have hlen4 : ws4.length ≤ 1 := by
      rw [← pd_len ht4]
      unfold rests
      split <;> simp
    refine ⟨r, r4, ws, ws4, rfl, rfl, hR3', hR4, ?_, ?_⟩
    · rw [← pd_len ht3]
      exact Nat.le_trans (show (goes [] 0 xs).1.length + ws4.length ≤ big + 1 by omega) (by decide)
    have hfr2 : ∀ b, H2 b = none → H b = none := fun b h => s2.free h
    have hfr3 : ∀ b, H3 b = none → H b = none := fun b h => by
      cases e : H b with
      | none => rfl
      | some o =>
        have n1 : b ≠ p := ne_of_none e np
        have n2 : b ≠ l := fun w => by rw [w, hl0] at e; cases e
        rw [b3 b o n1 n2 (s2 _ _ e)] at h
        cases h
    refine ⟨_, rfl, q _ r (ws ++ ws4) (fun b o e => ?_) (hfr2 r hr0) upd_same ?_⟩
    · have n1 : b ≠ p := ne_of_none e np
      have n2 : b ≠ l := fun w => by rw [w, hl0] at e; cases e
      have n3 : b ≠ r := fun w => by rw [w, hfr2 r hr0] at e; cases e
      rw [upd_ne n3]
      exact k4 b o n1 (b3 b o n1 n2 (s2 _ _ e))
    · have nr : ∀ b, H2 b = none → b ≠ p := fun b h w => by rw [w, hp2] at h; cases h
      refine pd_append ((ht3.keep fun b o h1 h2 => ?_).old fun b h => none_upd (upd_none h).1 (hfr2 b (upd_none h).2)) ((ht4.keep fun b o h1 h2 => ?_).old fun b h => none_upd (fun w => ?_) (hfr3 b (upd_none h).2))
      · rw [upd_ne (upd_none h1).1]
        exact k4 b o (nr b (upd_none h1).2) h2
      · have nb : b ≠ r := fun w => by
          have := (upd_none h1).2
          rw [w, hR3] at this
          cases this
        rw [upd_ne nb]
        exact h2
      · have := (upd_none h).2
        rw [w, hR3] at this
        cases this
end
end K55
namespace K55
open PySem PySem.Spec PyProof.Rows L2 Tw Sb LamX
def spLawT (K : PySem.W.Frag) (PT : Addr) : Sp := fun vs H Q _ => ∃ (a : Addr) (ns : List Int), vs = [.ref a] ∧ SqL K H a (ns.map V.int) ∧ ns.length ≤ 63 ∧ H PT = some (.tbl #[]) ∧ ∀ H', Q (.bl true) H'
section
variable {P : Program} {w : World} {K : PySem.W.Frag} {mg : Str → Option Value} {base : Heap}
theorem ok_law {C CB CW fI c PT g f : Addr} {oc kV doc pm cdR ct oc' kV' doc' pm' ct' : Value} {od an od' an' : Option Addr} {osl osl' : Array (Option Value)} (T : Bt mg) (cl : ClF K C) (NB : NbC K mg "NoBytes" CB fI) (R : NbR K mg CB CW) (TB : TabB base mg c PT)
    (lk : K.lookup f = some ⟨oc', od', .func (PySem.W.fnOf "law" "law" (defArgs s_law) (defBody s_law) (defScope s_law) .none kV' doc' pm' an' (.ref c) ct'), osl'⟩) (hcd : PySem.W.codeIn K (.ref c) "law" = true)
    (lkR : K.lookup g = some ⟨oc, od, .func (PySem.W.fnOf "_law_refused" "_law_refused" (defArgs s__law_refused) (defBody s__law_refused) (defScope s__law_refused) .none kV doc pm an cdR ct), osl⟩) (hcR : PySem.W.codeIn K cdR "_law_refused" = true) (kpR : PySem.W.keepIn K (.ref g) = true) (mgR : mg "_law_refused" = some (.ref g))
    (bR : Binds K (PySem.W.fnOf "_law_refused" "_law_refused" (defArgs s__law_refused) (defBody s__law_refused) (defScope s__law_refused) .none kV doc pm an cdR ct) ["_law_deed", "_law_handed"] [])
    (xS : CalX P w K mg base 4 "streamed" ["parts"] (spStrmX CB)) (xU : CalX P w K mg base 5 "unstreamed" ["data"] (spUnX CB))
    (c__law_take : Cal P w K mg base 1 "_law_take" ["_law_state", "_law_many"] spTake) (c__law_wrong : Cal P w K mg base 2 "_law_wrong" ["_law_state", "_law_good"] spWrong) (c_streamed : Cal P w K mg base 4 "streamed" ["parts"] spStrm) (c_unstreamed : Cal P w K mg base 5 "unstreamed" ["data"] spUnstR)
    (c__law_refused : Cal P w K mg base 6 "_law_refused" ["_law_deed", "_law_handed"] (spRefD P w K mg base CB)) (c__law_any_refusal : Cal P w K mg base 6 "_law_any_refusal" ["_law_deed", "_law_handed"] (spRefD P w K mg base CB))
    (m_mk : MkC P w K mg base C 1 "Feeder" (spFInit C)) (m_feed : MCal P w K mg base C 4 "feed" ["self", "data"] (spFFeedR C)) (m_feedX : MCalX P w K mg base C 4 "feed" ["self", "data"] (spFeedX CB)) (m_done : MCal P w K mg base C 1 "done" ["self"] (spFDone C)) :
    FnOk P w K mg base CX0 7 f (PySem.W.fnOf "law" "law" (defArgs s_law) (defBody s_law) (defScope s_law) .none kV' doc' pm' an' (.ref c) ct') ["_law_script"] (spLawT K PT) := by
  refine fn_of lk hcd sc_law (fun vs H Q E h => ?_) fun A outer s H vs Q E hr h => ?_
  · obtain ⟨a, ns, rfl, _⟩ := h
    rfl
  · obtain ⟨a, ns, rfl, hS, hlen, hPT, q⟩ := h
    obtain ⟨t, d, h⟩ := law_body T cl NB R TB lkR hcR kpR mgR bR xS xU c__law_take c__law_wrong c_streamed c_unstreamed c__law_refused c__law_any_refusal m_mk m_feed m_feedX m_done hS hlen hPT q hr
    exact ⟨t, d.nox, h⟩
end
end K55
namespace K55
open PySem PySem.Spec PyProof.Rows L2 Tw Sb LamX
theorem all_mk {l : PySem.W.OpenLaw} {w : World} {K : PySem.W.Frag} {h : Heap} {mg : Str → Option Value} {fa C_Feeder C_NoBytes C_WireError fI C_NoText C_NoThing C_NoTurn fL cL PL : Addr} {t_LAST_BYTE t_LONGEST_RUN t_CHECK_BYTES t_CHECK_RANGE : Tok} {lq1 lq3 lq4 lq5 lq7 lr1 : Value} {lq2 lq6 lr2 : Option Addr} {lq8 lr3 : Array (Option Value)} {lvs : Array Value} (X : K.In h) (G : h.Ns mainGlobals mg) (hfa : mg "law" = some (.ref fa)) (own : OwnTab K fa h)
    (d_is_whole : DefIn K "is_whole" s_is_whole)
    (d_is_row : DefIn K "is_row" s_is_row)
    (d_is_bytes : DefIn K "is_bytes" s_is_bytes)
    (d_streamed : DefIn K "streamed" s_streamed)
    (d_unstreamed : DefIn K "unstreamed" s_unstreamed)
    (d__refuse_others : DefIn K "_refuse_others" s__refuse_others)
    (d__zeros : DefIn K "_zeros" s__zeros)
    (d__check : DefIn K "_check" s__check)
    (d__without_zeros : DefIn K "_without_zeros" s__without_zeros)
    (d__with_zeros : DefIn K "_with_zeros" s__with_zeros)
    (d__read_piece : DefIn K "_read_piece" s__read_piece)
    (d__law_take : DefIn K "_law_take" s__law_take)
    (d__law_wrong : DefIn K "_law_wrong" s__law_wrong)
    (d__law_refused : DefIn K "_law_refused" s__law_refused)
    (d__law_any_refusal : DefIn K "_law_any_refusal" s__law_any_refusal)
    (d_law : DefIn K "law" s_law)
    (cl_Feeder : ClIn K C_Feeder "Feeder")
    (m_Feeder___init__ : MethIn K C_Feeder "__init__" "Feeder.__init__" s_Feeder___init__)
    (m_Feeder_feed : MethIn K C_Feeder "feed" "Feeder.feed" s_Feeder_feed)
    (m_Feeder_done : MethIn K C_Feeder "done" "Feeder.done" s_Feeder_done)
    (m_NoBytes___init__ : MethIn K C_NoBytes "__init__" "NoBytes.__init__" s_NoBytes___init__)
    (na_Feeder_rest : PySem.W.findIn K (.ref C_Feeder) "rest" = some none)
    (na_Feeder_place : PySem.W.findIn K (.ref C_Feeder) "place" = some none)
    (na_NoBytes_why : PySem.W.findIn K (.ref C_NoBytes) "why" = some none)
    (g_LAST_BYTE : PySem.W.nsIn K mainGlobals "LAST_BYTE" = some (some (.int 255 t_LAST_BYTE)))
    (g_LONGEST_RUN : PySem.W.nsIn K mainGlobals "LONGEST_RUN" = some (some (.int 254 t_LONGEST_RUN)))
    (g_CHECK_BYTES : PySem.W.nsIn K mainGlobals "CHECK_BYTES" = some (some (.int 4 t_CHECK_BYTES)))
    (g_CHECK_RANGE : PySem.W.nsIn K mainGlobals "CHECK_RANGE" = some (some (.int 65521 t_CHECK_RANGE)))
    (z_isinstance : PySem.W.nsIn K mainGlobals "isinstance" = some none)
    (z_int : PySem.W.nsIn K mainGlobals "int" = some none)
    (z_bool : PySem.W.nsIn K mainGlobals "bool" = some none)
    (z_str : PySem.W.nsIn K mainGlobals "str" = some none)
    (z_list : PySem.W.nsIn K mainGlobals "list" = some none)
    (z_tuple : PySem.W.nsIn K mainGlobals "tuple" = some none)
    (z_len : PySem.W.nsIn K mainGlobals "len" = some none)
    (z_all : PySem.W.nsIn K mainGlobals "all" = some none)
    (z_sum : PySem.W.nsIn K mainGlobals "sum" = some none)
    (z_range : PySem.W.nsIn K mainGlobals "range" = some none)
    (z_zip : PySem.W.nsIn K mainGlobals "zip" = some none)
    (z_enumerate : PySem.W.nsIn K mainGlobals "enumerate" = some none)
    (e_iC : PySem.W.findIn K (.ref C_NoBytes) "__init__" = some (some (.ref fI)))
    (e_tI : PySem.W.typeIn K (.ref fI) = some (.type "function"))
    (e_g : PySem.W.nsIn K mainGlobals "NoBytes" = some (some (.ref C_NoBytes)))
    (e_gW : PySem.W.nsIn K mainGlobals "WireError" = some (some (.ref C_WireError)))
    (e_nV : PySem.W.nsIn K mainGlobals "ValueError" = some none)
    (e_cB : PySem.W.isClsIn K C_NoBytes = true)
    (e_tB : PySem.W.typeIn K (.ref C_NoBytes) = some (.type "type"))
    (e_sB : PySem.W.subIn K (.ref C_NoBytes) (.ref C_NoBytes) = some true)
    (e_xB : PySem.W.subIn K (.ref C_NoBytes) (.type "BaseException") = some true)
    (e_cW : PySem.W.isClsIn K C_WireError = true)
    (e_tW : PySem.W.typeIn K (.ref C_WireError) = some (.type "type"))
    (e_sW : PySem.W.subIn K (.ref C_NoBytes) (.ref C_WireError) = some true)
    (e_sV : PySem.W.subIn K (.ref C_NoBytes) (.type "ValueError") = some true)
    (e_xW : PySem.W.subIn K (.ref C_WireError) (.type "BaseException") = some true)
    (e_gNoText : PySem.W.nsIn K mainGlobals "NoText" = some (some (.ref C_NoText)))
    (e_xNoText : PySem.W.subIn K (.ref C_NoText) (.type "BaseException") = some true)
    (e_cNoText : PySem.W.isClsIn K C_NoText = true)
    (e_tNoText : PySem.W.typeIn K (.ref C_NoText) = some (.type "type"))
    (e_sNoText : PySem.W.subIn K (.ref C_NoBytes) (.ref C_NoText) = some false)
    (e_gNoThing : PySem.W.nsIn K mainGlobals "NoThing" = some (some (.ref C_NoThing)))
    (e_xNoThing : PySem.W.subIn K (.ref C_NoThing) (.type "BaseException") = some true)
    (e_cNoThing : PySem.W.isClsIn K C_NoThing = true)
    (e_tNoThing : PySem.W.typeIn K (.ref C_NoThing) = some (.type "type"))
    (e_sNoThing : PySem.W.subIn K (.ref C_NoBytes) (.ref C_NoThing) = some false)
    (e_gNoTurn : PySem.W.nsIn K mainGlobals "NoTurn" = some (some (.ref C_NoTurn)))
    (e_xNoTurn : PySem.W.subIn K (.ref C_NoTurn) (.type "BaseException") = some true)
    (e_cNoTurn : PySem.W.isClsIn K C_NoTurn = true)
    (e_tNoTurn : PySem.W.typeIn K (.ref C_NoTurn) = some (.type "type"))
    (e_sNoTurn : PySem.W.subIn K (.ref C_NoBytes) (.ref C_NoTurn) = some false)
    (n_law : PySem.W.nsIn K mainGlobals "law" = some (some (.ref fL)))
    (l_law : K.lookup fL = some ⟨lq1, lq2, .func (PySem.W.fnOf "law" "law" (defArgs s_law) (defBody s_law) (defScope s_law) .none lq3 lq4 lq5 lq6 (.ref cL) lq7), lq8⟩)
    (k_law : K.lookup cL = some ⟨lr1, lr2, .fields lvs, lr3⟩)
    (v_law : lvs[11]? = some (.ref PL))
    (h_law : PySem.W.codeHdIn K cL PL = true)
    (p_law : K.lookup PL = none)
    (oex : OexC K C_NoBytes)
    (xfc : XfC K C_NoBytes)
    (exc : ExcC K C_NoBytes) :
    LawAtS l w K CX0 7 63 "_law_script" mg fa h := by
  have T : Bt mg := bt_mk X G (by
    intro x hx
    simp only [List.mem_cons, List.not_mem_nil, or_false] at hx
    rcases hx with rfl | rfl | rfl | rfl | rfl | rfl | rfl | rfl | rfl | rfl | rfl | rfl
    · exact z_isinstance
    · exact z_int
    · exact z_bool
    · exact z_str
    · exact z_list
    · exact z_tuple
    · exact z_len
    · exact z_all
    · exact z_sum
    · exact z_range
    · exact z_zip
    · exact z_enumerate)
  obtain ⟨f, oc, od, an, osl, kV, dc, pm, cd, ct, a, lk, c, kp⟩ := d_law
  have e := hfa.symm.trans (PySem.W.mg_of X G a)
  cases e
  obtain ⟨hTab, eC⟩ := own_of own a n_law lk l_law rfl k_law v_law
  have eC : cd = .ref cL := eC
  subst eC
  refine ⟨PySem.W.fnOf "law" "law" (defArgs s_law) (defBody s_law) (defScope s_law) .none kV dc pm an (.ref cL) ct, [(cL, PL)], spLawT K PL, fun p hp => by rw [List.mem_singleton.mp hp]; exact hTab, fun p hp => by rw [List.mem_singleton.mp hp]; exact p_law, fun p hp => by rw [List.mem_singleton.mp hp]; exact PySem.W.codeHd_of_K X h_law, fun s v => .of_eq rfl, fun H a ns hl _ hP hS => ⟨a, ns, rfl, hS, hl, hP _ (.head _), fun _ => rfl⟩, fun base _ _ hTB => ?_⟩
  have TB := hTB _ (.head _)
  have gB := gi_mk X G g_LAST_BYTE
  have gR := gi_mk X G g_CHECK_RANGE
  have c1 : Cal l.prog w K mg base 1 "is_whole" ["thing"] (spWhole K) := cal_mk d_is_whole X G (fun _ _ _ _ _ _ us hl => match us, hl with | [_], _ => rfl) fun f fd F => ok_is_whole F T
  have c2 : Cal l.prog w K mg base 1 "is_row" ["thing"] (spRow K) := cal_mk d_is_row X G (fun _ _ _ _ _ _ us hl => match us, hl with | [_], _ => rfl) fun f fd F => ok_is_row F T
  have c3 : Cal l.prog w K mg base 2 "is_bytes" ["thing"] spBytes := cal_mk d_is_bytes X G (fun _ _ _ _ _ _ us hl => match us, hl with | [_], _ => rfl) fun f fd F => ok_is_bytes F T gB c2 c1
  have c4 : Cal l.prog w K mg base 3 "_refuse_others" ["data"] spRefuse := cal_mk d__refuse_others X G (fun _ _ _ _ _ _ us hl => match us, hl with | [_], _ => rfl) fun f fd F => ok_refuse F T c3
  have c5 : Cal l.prog w K mg base 1 "_zeros" ["data"] spZeros := cal_mk d__zeros X G (fun _ _ _ _ _ _ us hl => match us, hl with | [_], _ => rfl) fun f fd F => ok_zeros F T
  have c6 : Cal l.prog w K mg base 1 "_check" ["part"] spCheck := cal_mk d__check X G (fun _ _ _ _ _ _ us hl => match us, hl with | [_], _ => rfl) fun f fd F => ok_check F T gR
  have cl : ClF K C_Feeder := ⟨cl_Feeder.cls, na_Feeder_rest, na_Feeder_place⟩
  have gL := gi_mk X G g_LONGEST_RUN
  have gC := gi_mk X G g_CHECK_BYTES
  have c7 : Cal l.prog w K mg base 1 "_with_zeros" ["piece"] spWithZ := cal_mk d__with_zeros X G (fun _ _ _ _ _ _ us hl => match us, hl with | [_], _ => rfl) fun f fd F => ok_with_zeros F T gL
  have c8 : Cal l.prog w K mg base 2 "_read_piece" ["place", "piece"] spRead := cal_mk d__read_piece X G (fun _ _ _ _ _ _ us hl => match us, hl with | [_, _], _ => rfl) fun f fd F => ok_read_piece F T gC c7 c6
  have m1 : MkC l.prog w K mg base C_Feeder 1 "Feeder" (spFInit C_Feeder) := mkC_mk X G cl_Feeder.g m_Feeder___init__ cl_Feeder.mks cl_Feeder.kc (fun _ _ _ _ _ _ us hl => match us, hl with | [_], _ => rfl) fun f fd F => ok_finit F cl
  have m2 : MCal l.prog w K mg base C_Feeder 4 "feed" ["self", "data"] (spFFeedR C_Feeder) := mcal_mk m_Feeder_feed (fun _ _ _ _ _ _ us hl => match us, hl with | [_, _], _ => rfl) fun f fd F => ok_feed F T cl c4 c5 c8
  have m3 : MCal l.prog w K mg base C_Feeder 1 "done" ["self"] (spFDone C_Feeder) := mcal_mk m_Feeder_done (fun _ _ _ _ _ _ us hl => match us, hl with | [_], _ => rfl) fun f fd F => ok_fdone F T cl
  have c9 : Cal l.prog w K mg base 5 "unstreamed" ["data"] spUnstR := cal_mk d_unstreamed X G (fun _ _ _ _ _ _ us hl => match us, hl with | [_], _ => rfl) fun f fd F => ok_unstreamed F cl m1 m2 m3
  have w1 : Cal l.prog w K mg base 2 "_without_zeros" ["whole"] spWz := cal_mk d__without_zeros X G (fun _ _ _ _ _ _ us hl => match us, hl with | [_], _ => rfl) fun f fd F => ok_without_zeros F T gL c5
  have w2 : Cal l.prog w K mg base 4 "streamed" ["parts"] spStrm := cal_mk d_streamed X G (fun _ _ _ _ _ _ us hl => match us, hl with | [_], _ => rfl) fun f fd F => ok_streamed F c4 w1 c6
  have e1 : Cal l.prog w K mg base 1 "_law_take" ["_law_state", "_law_many"] spTake := cal_mk d__law_take X G (fun _ _ _ _ _ _ us hl => match us, hl with | [_, _], _ => rfl) fun f fd F => ok_take F
  have N : NbC K mg "NoBytes" C_NoBytes fI := ⟨oex, PySem.W.mg_of X G e_g, e_iC, e_tI, na_NoBytes_why⟩
  have R : NbR K mg C_NoBytes C_WireError := ⟨xfc, exc, PySem.W.mg_of X G e_gW, PySem.W.mg_none_of X G e_nV, Tw.exm_of e_xB e_cB e_tB e_sB, Tw.exm_b e_xW e_cW e_tW e_sW, Tw.kit_ref e_cW e_tW e_sW, Tw.kit_bltn (by decide +kernel) e_sV, ⟨C_NoText, PySem.W.mg_of X G e_gNoText, exm_b e_xNoText e_cNoText e_tNoText e_sNoText⟩, ⟨C_NoThing, PySem.W.mg_of X G e_gNoThing, exm_b e_xNoThing e_cNoThing e_tNoThing e_sNoThing⟩, ⟨C_NoTurn, PySem.W.mg_of X G e_gNoTurn, exm_b e_xNoTurn e_cNoTurn e_tNoTurn e_sNoTurn⟩⟩
  obtain ⟨fI1, oc1, od1, an1, osl1, kV1, dc1, pm1, cd1, ct1, a1, i1, l1, k1, kp1⟩ := m_NoBytes___init__
  have eI := N.iC.symm.trans a1
  cases eI
  have F1 := fun_mk (st := s_NoBytes___init__) l1 k1 kp1
  have b1 := F1.binds (ps := ["self", "why"]) (fun _ _ _ _ _ _ us hl => match us, hl with | [_, _], _ => rfl)
  have x1 : Cal l.prog w K mg base 2 "is_bytes" ["thing"] spBytesG := cal_mk d_is_bytes X G (fun _ _ _ _ _ _ us hl => match us, hl with | [_], _ => rfl) fun f fd F => ok_is_bytesG F T gB c2 c1
  have x2 : CalX l.prog w K mg base 3 "_refuse_others" ["data"] (spRefuseX C_NoBytes) := calX_mk d__refuse_others X G (fun _ _ _ _ _ _ us hl => match us, hl with | [_], _ => rfl) fun f fd F => ok_refuseX F T N (ok_nbinit F1 N) b1 x1
  have x3 : MCalX l.prog w K mg base C_Feeder 4 "feed" ["self", "data"] (spFeedX C_NoBytes) := mcalX_mk m_Feeder_feed (fun _ _ _ _ _ _ us hl => match us, hl with | [_, _], _ => rfl) fun f fd F => ok_feedX F T cl x2 c5 c8
  have xS : CalX l.prog w K mg base 4 "streamed" ["parts"] (spStrmX C_NoBytes) := calX_mk d_streamed X G (fun _ _ _ _ _ _ us hl => match us, hl with | [_], _ => rfl) fun f fd F => ok_streamedX F x2 w1 c6
  have xU : CalX l.prog w K mg base 5 "unstreamed" ["data"] (spUnX C_NoBytes) := calX_mk d_unstreamed X G (fun _ _ _ _ _ _ us hl => match us, hl with | [_], _ => rfl) fun f fd F => ok_unstreamedX F cl m1 x3 m3
  have e4 : Cal l.prog w K mg base 2 "_law_wrong" ["_law_state", "_law_good"] spWrong := cal_mk d__law_wrong X G (fun _ _ _ _ _ _ us hl => match us, hl with | [_, _], _ => rfl) fun f fd F => ok_wrong F T e1
  have e5 : Cal l.prog w K mg base 6 "_law_refused" ["_law_deed", "_law_handed"] (spRefD l.prog w K mg base C_NoBytes) := cal_mk d__law_refused X G (fun _ _ _ _ _ _ us hl => match us, hl with | [_, _], _ => rfl) fun f fd F => ok_refusedD F T N R
  have e6 : Cal l.prog w K mg base 6 "_law_any_refusal" ["_law_deed", "_law_handed"] (spRefD l.prog w K mg base C_NoBytes) := cal_mk d__law_any_refusal X G (fun _ _ _ _ _ _ us hl => match us, hl with | [_, _], _ => rfl) fun f fd F => ok_anyD F R
  obtain ⟨gR2, oc2, od2, an2, osl2, kV2, dc2, pm2, cd2, ct2, a2, lk2, c2', kp2⟩ := d__law_refused
  have F2 := fun_mk (st := s__law_refused) lk2 c2' kp2
  exact ok_law T cl N R TB lk c lk2 c2' kp2 (PySem.W.mg_of X G a2) (F2.binds (fun _ _ _ _ _ _ us hl => match us, hl with | [_, _], _ => rfl)) xS xU e1 e4 w2 c9 e5 e6 m1 m2 x3 m3
end K55
open PySem PySem.W PyProof.Rows
set_option maxHeartbeats 0 in
theorem PySem.Challenge.cw_thingwires_k55_what_is_no_bytes_holds : PySem.Challenge.rw_thingwires_k55_what_is_no_bytes.Holds := by
  w_on; o_law; k_head; (case hw => w_witness2)
  k_fill
  refine LamX.walk_ofOwn (l := PySem.Challenge.rw_thingwires_k55_what_is_no_bytes) (n := 63) (k := 7) (x := "_law_script") (CX := fun _ => L2.CX0) rfl (by decide) rfl ⟨rfl, by decide, by decide⟩ (by decide +kernel) (fun w h Y => PySem.W.km_in_of Y) ?F (fun _ _ _ _ _ h => h)
  case F =>
    intro w mg fa h _ KX G hmg own
    refine' K55.all_mk KX G hmg own (Tw.defIn_mk ?twa0 ?twl0 ?twc0 ?twk0) (Tw.defIn_mk ?twa1 ?twl1 ?twc1 ?twk1) (Tw.defIn_mk ?twa2 ?twl2 ?twc2 ?twk2) (Tw.defIn_mk ?twa3 ?twl3 ?twc3 ?twk3) (Tw.defIn_mk ?twa4 ?twl4 ?twc4 ?twk4) (Tw.defIn_mk ?twa5 ?twl5 ?twc5 ?twk5) (Tw.defIn_mk ?twa6 ?twl6 ?twc6 ?twk6) (Tw.defIn_mk ?twa7 ?twl7 ?twc7 ?twk7) (Tw.defIn_mk ?twa8 ?twl8 ?twc8 ?twk8) (Tw.defIn_mk ?twa9 ?twl9 ?twc9 ?twk9) (Tw.defIn_mk ?twa10 ?twl10 ?twc10 ?twk10) (Tw.defIn_mk ?twa11 ?twl11 ?twc11 ?twk11) (Tw.defIn_mk ?twa12 ?twl12 ?twc12 ?twk12) (Tw.defIn_mk ?twa13 ?twl13 ?twc13 ?twk13) (Tw.defIn_mk ?twa14 ?twl14 ?twc14 ?twk14) (Tw.defIn_mk ?twa15 ?twl15 ?twc15 ?twk15) (Tw.ClIn.mk ?twxg0 ?twxp0 ?twxh0 ?twxo0 ?twxs0 ?twxm0 ?twxk0) (Tw.methIn_mk ?twya0 ?twyi0 ?twyl0 ?twyc0 ?twyk0) (Tw.methIn_mk ?twya1 ?twyi1 ?twyl1 ?twyc1 ?twyk1) (Tw.methIn_mk ?twya2 ?twyi2 ?twyl2 ?twyc2 ?twyk2) (Tw.methIn_mk ?twya3 ?twyi3 ?twyl3 ?twyc3 ?twyk3) ?twn0 ?twn1 ?twn2 ?twg0 ?twg1 ?twg2 ?twg3 ?twz0 ?twz1 ?twz2 ?twz3 ?twz4 ?twz5 ?twz6 ?twz7 ?twz8 ?twz9 ?twz10 ?twz11 ?twe0 ?twe1 ?twe2 ?twe3 ?twe4 ?twe5 ?twe6 ?twe7 ?twe8 ?twe9 ?twe10 ?twe11 ?twe12 ?twe13 ?twe14 ?twe15 ?twe16 ?twe17 ?twe18 ?twe19 ?twe20 ?twe21 ?twe22 ?twe23 ?twe24 ?twe25 ?twe26 ?twe27 ?twe28 ?twe29 ?twe30 ?twe31 ?twe32 ?twe33 ?twe34 (Tw.oexC_mk ?tws0x0 ?tws0x1 ?tws0x2 ?tws0x3 ?tws0x4 ?tws0x5) (L2.XfC.mk ?tws1x0 ?tws1x1 ?tws1x2 ?tws1x3) (L2.ExcC.mk ?tws2x0 ?tws2x1 ?tws2x2 ?tws2x3 ?tws2x4 ?tws2x5 ?tws2x6 ?tws2x7)
    (case twe2 => k_is)
    (case twe3 => k_is)
    (case twe0 => k_is)
    (case twe14 => k_is)
    (case twe19 => k_is)
    (case twe24 => k_is)
    (case twa0 => k_is)
    (case twl0 => k_is)
    (case twc0 => k_is)
    (case twk0 => k_is)
    (case twa1 => k_is)
    (case twl1 => k_is)
    (case twc1 => k_is)
    (case twk1 => k_is)
    (case twa2 => k_is)
    (case twl2 => k_is)
    (case twc2 => k_is)
    (case twk2 => k_is)
    (case twa3 => k_is)
    (case twl3 => k_is)
    (case twc3 => k_is)
    (case twk3 => k_is)
    (case twa4 => k_is)
    (case twl4 => k_is)
    (case twc4 => k_is)
    (case twk4 => k_is)
    (case twa5 => k_is)
    (case twl5 => k_is)
    (case twc5 => k_is)
    (case twk5 => k_is)
    (case twa6 => k_is)
    (case twl6 => k_is)
    (case twc6 => k_is)
    (case twk6 => k_is)
    (case twa7 => k_is)
    (case twl7 => k_is)
    (case twc7 => k_is)
    (case twk7 => k_is)
    (case twa8 => k_is)
    (case twl8 => k_is)
    (case twc8 => k_is)
    (case twk8 => k_is)
    (case twa9 => k_is)
    (case twl9 => k_is)
    (case twc9 => k_is)
    (case twk9 => k_is)
    (case twa10 => k_is)
    (case twl10 => k_is)
    (case twc10 => k_is)
    (case twk10 => k_is)
    (case twa11 => k_is)
    (case twl11 => k_is)
    (case twc11 => k_is)
    (case twk11 => k_is)
    (case twa12 => k_is)
    (case twl12 => k_is)
    (case twc12 => k_is)
    (case twk12 => k_is)
    (case twa13 => k_is)
    (case twl13 => k_is)
    (case twc13 => k_is)
    (case twk13 => k_is)
    (case twa14 => k_is)
    (case twl14 => k_is)
    (case twc14 => k_is)
    (case twk14 => k_is)
    (case twa15 => k_is)
    (case twl15 => k_is)
    (case twc15 => k_is)
    (case twk15 => k_is)
    (case twxg0 => k_is)
    (case twxp0 => k_is)
    (case twxh0 => k_is)
    (case twxo0 => k_is)
    (case twxs0 => k_is)
    (case twxm0 => k_is)
    (case twxk0 => k_is)
    (case twya0 => k_is)
    (case twyi0 => k_is)
    (case twyl0 => k_is)
    (case twyc0 => k_is)
    (case twyk0 => k_is)
    (case twya1 => k_is)
    (case twyi1 => k_is)
    (case twyl1 => k_is)
    (case twyc1 => k_is)
    (case twyk1 => k_is)
    (case twya2 => k_is)
    (case twyi2 => k_is)
    (case twyl2 => k_is)
    (case twyc2 => k_is)
    (case twyk2 => k_is)
    (case twya3 => k_is)
    (case twyi3 => k_is)
    (case twyl3 => k_is)
    (case twyc3 => k_is)
    (case twyk3 => k_is)
    (case twn0 => k_is)
    (case twn1 => k_is)
    (case twn2 => k_is)
    (case twg0 => k_is)
    (case twg1 => k_is)
    (case twg2 => k_is)
    (case twg3 => k_is)
    (case twz0 => k_is)
    (case twz1 => k_is)
    (case twz2 => k_is)
    (case twz3 => k_is)
    (case twz4 => k_is)
    (case twz5 => k_is)
    (case twz6 => k_is)
    (case twz7 => k_is)
    (case twz8 => k_is)
    (case twz9 => k_is)
    (case twz10 => k_is)
    (case twz11 => k_is)
    (case twe1 => k_is)
    (case twe4 => k_is)
    (case twe5 => k_is)
    (case twe6 => k_is)
    (case twe7 => k_is)
    (case twe8 => k_is)
    (case twe9 => k_is)
    (case twe10 => k_is)
    (case twe11 => k_is)
    (case twe12 => k_is)
    (case twe13 => k_is)
    (case twe15 => k_is)
    (case twe16 => k_is)
    (case twe17 => k_is)
    (case twe18 => k_is)
    (case twe20 => k_is)
    (case twe21 => k_is)
    (case twe22 => k_is)
    (case twe23 => k_is)
    (case twe25 => k_is)
    (case twe26 => k_is)
    (case twe27 => k_is)
    (case twe28 => k_is)
    (case twe29 => k_is)
    (case twe30 => k_is)
    (case twe31 => k_is)
    (case twe32 => exact rfl)
    (case twe33 => kernel_rfl)
    (case twe34 => kernel_rfl)
    (case tws0x0 => k_is)
    (case tws0x1 => decide +kernel)
    (case tws0x2 => k_is)
    (case tws0x3 => k_is)
    (case tws0x4 => k_is)
    (case tws0x5 => k_is)
    (case tws1x0 => k_is)
    (case tws1x1 => k_is)
    (case tws1x2 => k_is)
    (case tws1x3 => k_is)
    (case tws2x0 => k_is)
    (case tws2x1 => k_is)
    (case tws2x2 => k_is)
    (case tws2x3 => k_is)
    (case tws2x4 => k_is)
    (case tws2x5 => k_is)
    (case tws2x6 => k_is)
    (case tws2x7 => k_is)
