import PyProof.Rows.All
import Wide.All
import OpenK.AllK
import Wide.FinOn
import HandS.ForMost
import HandS.IsInst
import HandS.Walk
import HandS.Defaults
import HandS.Codes
import PySem.Sem
import KE.GoesEnumKw
import HandS.Star
import HandS.SortKw
import HandS.Wide
import HandS.ListItems
import HandS.TupAny
import PyProof.AutoSeq1
import HandS.ExcInit
import HandS.ExcOwn
import HandS.ExcField
import HandS.WordsExc
import HandS.ExcIs
import KE.KExcIs
import HandS.Lambda
import HandS.ClsMeth
import KE.SortKeyHeap
import PyProof.Rows.TupSub
import PyProof.TupleOfSeq
import HandS.Iter
import HandS.DictComp
import HandS.MakeKwOnly
import HandS.TupMul
import HandS.DeepEq
import PyProof.EqAt
import KE.DataEq
import KE.KDictKeyed
import KE.KDictList
import KE.KDictWalk
import HandS.More
import HandS.Replace
import HandS.StrMore
import HandS.FStr
import HandS.ReplaceLit
import PyProof.FitsInt
import PyProof.Rows.StrMeet
import HandS.ReplaceList
import HandS.Flow
import KE.KSlice
import HandS.Zip
import HandS.TryMany
import HandS.Style
import KE.KUnpackStar
import PyProof.MakeMany
import HandS.Deep
import HandS.Finally
import KE.GoesZip
import KE.KDictZip
import PyProof.ListNew
import HandS.OwnEq
import HandS.Dict
import HandS.DictTup
import HandS.Conv
import KE.KDictPairs
import KE.KDictItemsList
import HandS.Text
import HandS.EndTab
import PySem.Challenge.RW_thingwires_k34_whole_readers_judged
set_option Elab.async false
set_option linter.all false
set_option maxRecDepth 100000
/-! TwKit: what all our proofs share: defs that may be called, the well of numbers, frames. -/
namespace Tw
open PySem PySem.Spec PyProof.Rows L2

/-! ### a def of the text, as the top has left it -/
def DefIn (K : PySem.W.Frag) (x : Str) (st : Stmt) : Prop := ∃ (f : Addr) (oc : Value) (od an : Option Addr) (osl : Array (Option Value)) (kV dc pm cd ct : Value),
  PySem.W.nsIn K mainGlobals x = some (some (.ref f)) ∧ K.lookup f = some ⟨oc, od, .func (PySem.W.fnOf x x (defArgs st) (defBody st) (defScope st) .none kV dc pm an cd ct), osl⟩ ∧ PySem.W.codeIn K cd x = true ∧ PySem.W.keepIn K (.ref f) = true

section
variable {P : Program} {w : World} {K : PySem.W.Frag} {mg : Str → Option Value} {base : Heap}
theorem defIn_mk {x : Str} {st : Stmt} {f : Addr} {oc : Value} {od an : Option Addr} {osl : Array (Option Value)} {kV dc pm cd ct : Value} (a : PySem.W.nsIn K mainGlobals x = some (some (.ref f)))
    (l : K.lookup f = some ⟨oc, od, .func (PySem.W.fnOf x x (defArgs st) (defBody st) (defScope st) .none kV dc pm an cd ct), osl⟩) (c : PySem.W.codeIn K cd x = true) (k : PySem.W.keepIn K (.ref f) = true) : DefIn K x st :=
  ⟨f, oc, od, an, osl, kV, dc, pm, cd, ct, a, l, c, k⟩
/-- a def by its name: a promise that is kept, called by place -/
structure Cal (P : Program) (w : World) (K : PySem.W.Frag) (mg : Str → Option Value) (base : Heap) (k : Nat) (x : Str) (ps : List Str) (sp : Sp) : Prop where
  ex : ∃ (f : Addr) (fd : FuncData), FnOk P w K mg base CX0 k f fd ps sp ∧ mg x = some (.ref f) ∧ PySem.W.keepIn K (.ref f) = true ∧ Binds K fd ps []
/-- .. by keywords alone, in the order ks; gV puts their values into the parameters' order -/
structure CalK (P : Program) (w : World) (K : PySem.W.Frag) (mg : Str → Option Value) (base : Heap) (k : Nat) (x : Str) (n : Nat) (ks : List Str) (gV : List V → List V → List V) (sp : Sp) : Prop where
  ex : ∃ (f : Addr) (fd : FuncData) (ps : List Str) (g : List Value → List Value → List Value), FnOk P w K mg base CX0 k f fd ps sp ∧ mg x = some (.ref f) ∧ PySem.W.keepIn K (.ref f) = true ∧ KBn K fd ps n ks g gV

theorem cal_mk {x : Str} {st : Stmt} {ps : List Str} {k : Nat} {sp : Sp} {h : Heap} (D : DefIn K x st) (X : K.In h) (G : h.Ns mainGlobals mg)
    (b : ∀ (kV doc pm : Value) (an : Option Addr) (cdv ct : Value) (us : List Value), us.length = ps.length → bindArgs (PySem.W.fnOf x x (defArgs st) (defBody st) (defScope st) .none kV doc pm an cdv ct) ⟨us, []⟩ = pure (ps.zip us))
    (ok : ∀ (f : Addr) (fd : FuncData), Fun K x x st f fd → FnOk P w K mg base CX0 k f fd ps sp) : Cal P w K mg base k x ps sp := by
  obtain ⟨f, oc, od, an, osl, kV, dc, pm, cd, ct, a, l, c, kp⟩ := D
  have F := fun_mk (st := st) l c kp
  exact ⟨f, _, ok f _ F, PySem.W.mg_of X G a, kp, F.binds b⟩
theorem calK_mk {x : Str} {st : Stmt} {ps : List Str} {k n : Nat} {ks : List Str} {sp : Sp} {h : Heap} (g : {α : Type} → List α → List α → List α) (D : DefIn K x st) (X : K.In h) (G : h.Ns mainGlobals mg)
    (b : ∀ (kV doc pm : Value) (an : Option Addr) (cdv ct : Value) (us ws : List Value), us.length = n → ws.length = ks.length → bindArgs (PySem.W.fnOf x x (defArgs st) (defBody st) (defScope st) .none kV doc pm an cdv ct) ⟨us, ks.zip ws⟩ = pure (ps.zip (g us ws)))
    (hrel : ∀ {vs : List V} {us : List Value} {zs : List V} {ws : List Value}, Vals vs us → Vals zs ws → Vals (g vs zs) (g us ws))
    (ok : ∀ (f : Addr) (fd : FuncData), Fun K x x st f fd → FnOk P w K mg base CX0 k f fd ps sp) : CalK P w K mg base k x n ks g sp := by
  obtain ⟨f, oc, od, an, osl, kV, dc, pm, cd, ct, a, l, c, kp⟩ := D
  have F := fun_mk (st := st) l c kp
  exact ⟨f, _, ps, g, ok f _ F, PySem.W.mg_of X G a, kp, fun s us ws _ h1 h2 => .of_eq (b _ _ _ _ _ _ us ws h1 h2), hrel⟩
end

section
variable {X : Cx} {k j n : Nat} {x : Str} {ps ks : List Str} {sp : Sp} {gV : List V → List V → List V} {p pos : Pos} {e : Expr} {es : List Expr} {kws : List Keyword} {t tk : TA}
theorem pe_cal (c : Cal X.prog X.w X.K X.mg X.base k x ps sp) (hr : Room j X.A) (hk : k ≤ j) (hg : Gl X x) (ha : PA X (e :: es) t)
    (hdb : (x == ("__debug__" : Str)) = false := by decide) (he : starEach (e :: es) X.env = (false, eval e X.env) :: starEach es X.env := by rfl) (hpl : (backTo pos (starEach es X.env)).any (·.1) = false := by rfl) :
    PE X (.Call (.Name x p) (e :: es) [] pos) (tCall sp [] E0 t) := by
  obtain ⟨f, fd, F, hm, kp, b⟩ := c.ex
  exact pe_call F (hr.mono hk) hg hm kp b .nil pass0 ha hdb he hpl
theorem pe_cal0 (c : Cal X.prog X.w X.K X.mg X.base k x ps sp) (hr : Room j X.A) (hk : k ≤ j) (hg : Gl X x) (hdb : (x == ("__debug__" : Str)) = false := by decide) :
    PE X (.Call (.Name x p) [] [] pos) (tCall sp [] E0 tNil) := by
  obtain ⟨f, fd, F, hm, kp, b⟩ := c.ex
  exact pe_call0 F (hr.mono hk) hg hm kp b .nil pass0 hdb
/-- f(a, .., k = v, ..) -/
theorem pe_calN (c : CalK X.prog X.w X.K X.mg X.base k x n ks gV sp) (hr : Room j X.A) (hk : k ≤ j) (hg : Gl X x) (ha : PA X (e :: es) t) (hkw : PK X kws tk) (hall : (backToKw pos (keywordEach kws X.env)).all (·.1.isSome) = true := by rfl) (hks : (backToKw pos (keywordEach kws X.env)).filterMap (·.1) = ks := by rfl)
    (hdb : (x == ("__debug__" : Str)) = false := by decide) (he : starEach (e :: es) X.env = (false, eval e X.env) :: starEach es X.env := by rfl)
    (hpl : ((backTo pos (starEach (e :: es) X.env)).any (·.1) || (backToKw pos (keywordEach kws X.env)).any (·.1.isNone)) = false := by rfl) :
    PE X (.Call (.Name x p) (e :: es) kws pos) (tCallN n ks.length sp gV E0 t tk) := by
  obtain ⟨f, fd, ps, g, F, hm, kp, b⟩ := c.ex
  exact pe_callN F (hr.mono hk) hg hm kp b pass0 ha hkw hall hks hdb he hpl
/-- f(k = v, ..) -/
theorem pe_calN0 (c : CalK X.prog X.w X.K X.mg X.base k x 0 ks gV sp) (hr : Room j X.A) (hk : k ≤ j) (hg : Gl X x) (hkw : PK X kws tk) (hall : (backToKw pos (keywordEach kws X.env)).all (·.1.isSome) = true := by rfl) (hks : (backToKw pos (keywordEach kws X.env)).filterMap (·.1) = ks := by rfl)
    (hdb : (x == ("__debug__" : Str)) = false := by decide) (hpl : ((backTo pos (starEach [] X.env)).any (·.1) || (backToKw pos (keywordEach kws X.env)).any (·.1.isNone)) = false := by rfl) :
    PE X (.Call (.Name x p) [] kws pos) (tCallN 0 ks.length sp gV E0 tNil tk) := by
  obtain ⟨f, fd, ps, g, F, hm, kp, b⟩ := c.ex
  refine ⟨fun pins s σ H Q I h => ?_⟩
  refine wpAny_Call_Name_kw (ld_glob I hg hm ?_ hdb)
  refine PySem.W.callWith_KW0 (h₀ := X.base) I.ok.mod.kin kp hall ?_ hpl
  refine thn (hkw.run pos pins s σ H _ I h) fun ws s2 ⟨zs, H2, I2, rz, l1, l2, q2⟩ => ⟨I2.kIn, ?_⟩
  rw [hks]
  exact run_fnN (us := []) (vs := []) F (hr.mono hk) b pass0 I2 .nil rz rfl l2 q2
end

/-! ### heaps -/
theorem same_upd {H : Hp} {p : Addr} {o : HO} (h : H p = none) : Same H (upd H p o) := fun b x e => by
  rw [upd_ne (ne_of_none e h)]
  exact e
theorem Same.tupq {K : PySem.W.Frag} {H H' : Hp} {a : Addr} {xs : List V} (e : Same H H') (h : SqT K H a xs) : SqT K H' a xs := by
  rcases h with (h | ⟨o, h⟩) | h
  · exact .inl (.inl (e _ _ h))
  · exact .inl (.inr ⟨o, e _ _ h⟩)
  · exact .inr h

/-- the well at a: a list of three numbers -/
def IsWl (H : Hp) (a : Addr) : Prop := ∃ x y z : Int, H a = some (.lst [.int x, .int y, .int z])
/-- all but the well at a stays; that is a well again -/
def Fw (a : Addr) (H H' : Hp) : Prop := (∀ b o, b ≠ a → H b = some o → H' b = some o) ∧ IsWl H' a
theorem IsWl.same {H H' : Hp} {a : Addr} (h : IsWl H a) (s : Same H H') : IsWl H' a := by
  obtain ⟨x, y, z, e⟩ := h
  exact ⟨x, y, z, s _ _ e⟩
theorem Fw.refl {H : Hp} {a : Addr} (h : IsWl H a) : Fw a H H := ⟨fun _ _ _ e => e, h⟩
theorem Fw.trans {a : Addr} {H H1 H2 : Hp} (f : Fw a H H1) (g : Fw a H1 H2) : Fw a H H2 := ⟨fun b o n e => g.1 b o n (f.1 b o n e), g.2⟩
theorem Fw.same {a : Addr} {H H1 H2 : Hp} (f : Fw a H H1) (g : Same H1 H2) : Fw a H H2 := ⟨fun b o n e => g b o (f.1 b o n e), f.2.same g⟩
theorem Fw.of_same {a : Addr} {H H1 : Hp} (h : IsWl H a) (g : Same H H1) : Fw a H H1 := (Fw.refl h).same g
theorem Fw.free {a : Addr} {H H' : Hp} (f : Fw a H H') (h : IsWl H a) {p : Addr} (e : H' p = none) : H p = none := by
  cases q : H p with
  | none => rfl
  | some o =>
    by_cases hp : p = a
    · subst hp
      obtain ⟨_, _, _, z⟩ := f.2
      rw [z] at e
      cases e
    · rw [f.1 p o hp q] at e
      cases e
theorem IsWl.ne {H : Hp} {a p : Addr} (h : IsWl H a) (e : H p = none) : p ≠ a := fun q => by
  obtain ⟨_, _, _, z⟩ := h
  rw [q, z] at e
  cases e
/-- the draw's promise: any number below many -/
def spDraw : Sp := fun vs H Q _ => ∃ (a : Addr) (m : Int), vs = [.ref a, .int m] ∧ IsWl H a ∧ 0 < m ∧ m < 1073741824 ∧ ∀ (r : Int) (H' : Hp), 0 ≤ r → r < m → Fw a H H' → Q (.int r) H'

theorem iteB {c : Bool} {A B : Prop} (h1 : c = true → A) (h2 : c = false → B) : if c = true then A else B := by
  cases c
  · exact iteF (h2 rfl)
  · exact iteT (h1 rfl)

/-! ### plain texts -/
/-- a text of at most n signs below 128 -/
structure Asc (n : Nat) (z : Str) : Prop where
  le : z.length ≤ n
  lt : ∀ c ∈ z.cps.toList, c < 128
theorem len_toList (z : Str) : z.length = z.cps.toList.length := by
  show z.cps.size = _
  simp
theorem Asc.mono {m n : Nat} {z : Str} (h : Asc m z) (e : m ≤ n) : Asc n z := ⟨Nat.le_trans h.le e, h.lt⟩
theorem Asc.nil {n : Nat} : Asc n ⟨#[]⟩ := ⟨Nat.zero_le _, fun c h => by simp at h⟩
theorem Asc.one {c : Nat} (h : c < 128) : Asc 1 ⟨#[c]⟩ := ⟨Nat.le_refl _, fun d hd => by
  have e : d = c := by simpa using hd
  omega⟩
theorem toList_append (a b : Str) : (a ++ b).cps.toList = a.cps.toList ++ b.cps.toList := TL.tl_append a b
theorem Asc.append {m n : Nat} {a b : Str} (ha : Asc m a) (hb : Asc n b) : Asc (m + n) (a ++ b) := by
  refine ⟨?_, fun c hc => ?_⟩
  · have h1 := ha.le
    have h2 := hb.le
    rw [len_toList] at h1 h2 ⊢
    rw [toList_append, List.length_append]
    omega
  · rw [toList_append] at hc
    rcases List.mem_append.mp hc with h | h
    · exact ha.lt c h
    · exact hb.lt c h
theorem Asc.cut {n : Nat} {a : Str} (ha : Asc n a) (lo hi : Option Int) : Asc n (cutS a lo hi) := by
  refine ⟨Nat.le_trans (cutS_length a lo hi) ha.le, fun c hc => ha.lt c ?_⟩
  have e : c ∈ (a.cps.toList.drop (HT.sIx a.length 0 lo)).take (HT.sIx a.length a.length hi - HT.sIx a.length 0 lo) := hc
  exact List.mem_of_mem_drop (List.mem_of_mem_take e)
theorem Asc.ok {n : Nat} {z : Str} (h : Asc n z) : PyData.strOk z = true := by
  unfold PyData.strOk
  rw [← Array.all_toList, List.all_eq_true]
  intro c hc
  exact decide_eq_true (Nat.lt_trans (h.lt c hc) (by decide))
theorem asc_toList {l : List Nat} {n : Nat} (h : l.length ≤ n) (k : ∀ c ∈ l, c < 128) : Asc n ⟨l.toArray⟩ := ⟨by rw [len_toList]; simpa using h, fun c hc => k c (by simpa using hc)⟩
/-- written texts -/
def ascB (n : Nat) (z : Str) : Bool := decide (z.length ≤ n) && z.cps.toList.all fun c => decide (c < 128)
theorem Asc.of {n : Nat} {z : Str} (h : ascB n z = true) : Asc n z := by
  unfold ascB at h
  simp only [Bool.and_eq_true, decide_eq_true_eq, List.all_eq_true] at h
  exact ⟨h.1, h.2⟩
theorem Asc.at {n : Nat} {z : Str} (h : Asc n z) {i : Nat} (hi : i < z.length) : ∃ c, atI z.cps.toList (i : Int) = some c ∧ c < 128 := by
  have e : i < z.cps.toList.length := by rw [← len_toList]; exact hi
  exact ⟨z.cps.toList[i], atI_nat (List.getElem?_eq_getElem e), h.lt _ (List.getElem_mem e)⟩
theorem Asc.atZ {n : Nat} {z : Str} (h : Asc n z) {i : Int} (h0 : 0 ≤ i) (hi : i < z.length) : ∃ c, atI z.cps.toList i = some c ∧ c < 128 := by
  obtain ⟨c, e, l⟩ := h.at (i := i.toNat) (by omega)
  rw [Int.toNat_of_nonneg h0] at e
  exact ⟨c, e, l⟩
end Tw
/-! Sb: what the streams tell, on lists of numbers alone (no Python here). -/
namespace Sb
def By (xs : List Int) : Prop := ∀ b ∈ xs, 0 ≤ b ∧ b ≤ 255
def NZ (xs : List Int) : Prop := ∀ b ∈ xs, b ≠ 0
theorem By.nil : By [] := fun _ h => by cases h
theorem By.append {xs ys : List Int} (h : By xs) (k : By ys) : By (xs ++ ys) := fun b hb => (List.mem_append.mp hb).elim (h b) (k b)
theorem By.cons {x : Int} {xs : List Int} (h0 : 0 ≤ x) (h1 : x ≤ 255) (k : By xs) : By (x :: xs) := fun b hb => by
  rcases List.mem_cons.mp hb with rfl | h
  · exact ⟨h0, h1⟩
  · exact k b h
theorem By.one {x : Int} (h0 : 0 ≤ x) (h1 : x ≤ 255) : By [x] := By.cons h0 h1 .nil
theorem By.take {xs : List Int} (h : By xs) (n : Nat) : By (xs.take n) := fun b hb => h b (List.mem_of_mem_take hb)
theorem By.drop {xs : List Int} (h : By xs) (n : Nat) : By (xs.drop n) := fun b hb => h b (List.mem_of_mem_drop hb)
theorem By.left {xs ys : List Int} (h : By (xs ++ ys)) : By xs := fun b hb => h b (List.mem_append_left _ hb)
theorem By.right {xs ys : List Int} (h : By (xs ++ ys)) : By ys := fun b hb => h b (List.mem_append_right _ hb)
theorem By.rep {x : Int} (n : Nat) (h0 : 0 ≤ x) (h1 : x ≤ 255) : By (List.replicate n x) := fun b hb => by
  rw [(List.mem_replicate.mp hb).2]
  exact ⟨h0, h1⟩
theorem NZ.nil : NZ [] := fun _ h => by cases h
theorem NZ.append {xs ys : List Int} (h : NZ xs) (k : NZ ys) : NZ (xs ++ ys) := fun b hb => (List.mem_append.mp hb).elim (h b) (k b)
theorem NZ.take {xs : List Int} (h : NZ xs) (n : Nat) : NZ (xs.take n) := fun b hb => h b (List.mem_of_mem_take hb)
theorem NZ.drop {xs : List Int} (h : NZ xs) (n : Nat) : NZ (xs.drop n) := fun b hb => h b (List.mem_of_mem_drop hb)

/-! ### zeros -/
def zs (off : Nat) : List Int → List Nat
  | [] => []
  | b :: r => if b = 0 then off :: zs (off + 1) r else zs (off + 1) r
theorem zs_append (off : Nat) (xs ys : List Int) : zs off (xs ++ ys) = zs off xs ++ zs (off + xs.length) ys := by
  induction xs generalizing off with
  | nil => rfl
  | cons b r ih =>
    have e : off + (b :: r).length = off + 1 + r.length := by rw [List.length_cons]; omega
    rw [e]
    by_cases h : b = 0
    · simp only [List.cons_append, zs, if_pos h, ih]
    · simp only [List.cons_append, zs, if_neg h, ih]
theorem zs_nz {xs : List Int} (h : NZ xs) (off : Nat) : zs off xs = [] := by
  induction xs generalizing off with
  | nil => rfl
  | cons b r ih =>
    have h1 : b ≠ 0 := h b (List.mem_cons_self ..)
    simp only [zs, if_neg h1]
    exact ih (fun c hc => h c (List.mem_cons_of_mem _ hc)) _
theorem zs_length (off : Nat) (xs : List Int) : (zs off xs).length ≤ xs.length := by
  induction xs generalizing off with
  | nil => exact Nat.le_refl _
  | cons b r ih =>
    have := ih (off + 1)
    by_cases h : b = 0
    · simp only [zs, if_pos h, List.length_cons]; omega
    · simp only [zs, if_neg h, List.length_cons]; omega
theorem nz_of_zs {xs : List Int} {off : Nat} (h : zs off xs = []) : NZ xs := by
  induction xs generalizing off with
  | nil => exact .nil
  | cons b r ih =>
    by_cases hb : b = 0
    · simp [zs, hb] at h
    · simp only [zs, if_neg hb] at h
      intro c hc
      rcases List.mem_cons.mp hc with rfl | q
      · exact hb
      · exact ih h c q
/-- the first zero: ahead of it none -/
theorem zs_cons {xs : List Int} {off z : Nat} {t : List Nat} (h : zs off xs = z :: t) : ∃ seg r, xs = seg ++ 0 :: r ∧ NZ seg ∧ z = off + seg.length ∧ t = zs (z + 1) r := by
  induction xs generalizing off with
  | nil => cases h
  | cons b r ih =>
    by_cases hb : b = 0
    · simp only [zs, if_pos hb] at h
      cases h
      exact ⟨[], r, by rw [hb]; rfl, .nil, rfl, rfl⟩
    · simp only [zs, if_neg hb] at h
      obtain ⟨seg, r', e, hn, ez, et⟩ := ih h
      refine ⟨b :: seg, r', by rw [e]; rfl, fun c hc => ?_, by rw [ez, List.length_cons]; omega, et⟩
      rcases List.mem_cons.mp hc with rfl | q
      · exact hb
      · exact hn c q
theorem zs_take_succ {xs : List Int} {i : Nat} {b : Int} (h : xs[i]? = some b) (off : Nat) : zs off (xs.take (i + 1)) = zs off (xs.take i) ++ if b = 0 then [off + i] else [] := by
  have hi : i < xs.length := (List.getElem?_eq_some_iff.mp h).1
  rw [List.take_add_one, h, zs_append]
  have e : (xs.take i).length = i := by rw [List.length_take]; omega
  rw [e]
  by_cases hb : b = 0
  · simp [zs, hb]
  · simp [zs, hb]

/-! ### the check -/
def wsum (k : Int) : List Int → Int
  | [] => 0
  | b :: r => k * b + wsum (k + 1) r
def check (p : List Int) : List Int := [p.sum % 65521 / 256, p.sum % 65521 % 256, wsum 1 p % 65521 / 256, wsum 1 p % 65521 % 256]
theorem wsum_append (k : Int) (xs ys : List Int) : wsum k (xs ++ ys) = wsum k xs + wsum (k + (xs.length : Int)) ys := by
  induction xs generalizing k with
  | nil => simp [wsum]
  | cons b r ih =>
    have e : k + ((b :: r).length : Int) = k + 1 + (r.length : Int) := by rw [List.length_cons]; push_cast; omega
    rw [e, List.cons_append]
    simp only [wsum, ih]
    omega
theorem check_length (p : List Int) : (check p).length = 4 := rfl
theorem check_by (p : List Int) : By (check p) := by
  intro b hb
  have h1 : 0 ≤ p.sum % 65521 ∧ p.sum % 65521 < 65521 := by omega
  have h2 : 0 ≤ wsum 1 p % 65521 ∧ wsum 1 p % 65521 < 65521 := by omega
  simp only [check, List.mem_cons, List.not_mem_nil, or_false] at hb
  rcases hb with rfl | rfl | rfl | rfl <;> omega

/-! ### runs undone -/
/-- by fuel: what is made, what is left -/
def undo : Nat → List Int → List Int → Option (List Int)
  | 0, acc, _ => some acc
  | _ + 1, acc, [] => some acc
  | f + 1, acc, n :: r =>
    if r.length + 1 < n.toNat then none
    else undo f (acc ++ r.take (n.toNat - 1) ++ if n < 255 ∧ n.toNat < r.length + 1 then [0] else []) ((n :: r).drop n.toNat)
def unrun (p : List Int) : Option (List Int) := undo p.length [] p
theorem undo_nil (f : Nat) (acc : List Int) : undo f acc [] = some acc := by cases f <;> rfl
theorem undo_length {f : Nat} {acc p w : List Int} (hp : ∀ b ∈ p, 1 ≤ b) (h : undo f acc p = some w) : w.length ≤ acc.length + p.length := by
  induction f generalizing acc p with
  | zero => simp only [undo, Option.some.injEq] at h; subst h; omega
  | succ f ih =>
    cases p with
    | nil => simp only [undo, Option.some.injEq] at h; subst h; simp
    | cons n r =>
      simp only [undo] at h
      split at h
      · cases h
      · rename_i hn
        have h1 := hp n (List.mem_cons_self ..)
        have q := ih (fun b hb => hp b (List.mem_of_mem_drop hb)) h
        have e : ((n :: r).drop n.toNat).length = r.length + 1 - n.toNat := by rw [List.length_drop, List.length_cons]
        rw [e, List.length_append, List.length_append, List.length_take] at q
        rw [List.length_cons]
        have e2 : (if n < 255 ∧ n.toNat < r.length + 1 then [(0 : Int)] else []).length ≤ 1 := by split <;> simp
        omega
theorem undo_by {f : Nat} {acc p w : List Int} (ha : By acc) (hp : By p) (h : undo f acc p = some w) : By w := by
  induction f generalizing acc p with
  | zero => simp only [undo, Option.some.injEq] at h; subst h; exact ha
  | succ f ih =>
    cases p with
    | nil => simp only [undo, Option.some.injEq] at h; subst h; exact ha
    | cons n r =>
      simp only [undo] at h
      split at h
      · cases h
      · refine ih ?_ (hp.drop _) h
        refine (ha.append (By.take (fun b hb => hp b (List.mem_cons_of_mem _ hb)) _)).append ?_
        split
        · exact .one (by omega) (by omega)
        · exact .nil
theorem unrun_length {p w : List Int} (hp : ∀ b ∈ p, 1 ≤ b) (h : unrun p = some w) : w.length ≤ p.length := by
  have := undo_length hp h
  simpa using this
theorem unrun_by {p w : List Int} (hp : By p) (h : unrun p = some w) : By w := undo_by .nil hp h

/-! ### what is told -/
inductive Tell where
  | part (pl : Nat) (bs : List Int)
  | torn (pl n : Nat)
deriving DecidableEq
def tell (pl : Nat) (p : List Int) : Tell :=
  match unrun p with
  | some w => if 4 ≤ w.length ∧ w.drop (w.length - 4) = check (w.take (w.length - 4)) then .part pl (w.take (w.length - 4)) else .torn pl p.length
  | none => .torn pl p.length
def goes : List Int → Nat → List Int → List Tell × List Int × Nat
  | pc, pl, [] => ([], pc, pl)
  | pc, pl, b :: r => if b = 0 then ((if pc = [] then [] else [tell pl pc]) ++ (goes [] (pl + pc.length + 1) r).1, (goes [] (pl + pc.length + 1) r).2) else goes (pc ++ [b]) pl r
def rests (pc : List Int) (pl : Nat) : List Tell := if pc = [] then [] else [.torn pl pc.length]
def unstr (xs : List Int) : List Tell := (goes [] 0 xs).1 ++ rests (goes [] 0 xs).2.1 (goes [] 0 xs).2.2
theorem goes_nz {seg : List Int} (h : NZ seg) (pc : List Int) (pl : Nat) : goes pc pl seg = ([], pc ++ seg, pl) := by
  induction seg generalizing pc with
  | nil => simp [goes]
  | cons b r ih =>
    have hb : b ≠ 0 := h b (List.mem_cons_self ..)
    simp only [goes, if_neg hb]
    rw [ih (fun c hc => h c (List.mem_cons_of_mem _ hc))]
    simp
theorem goes_append (pc : List Int) (pl : Nat) (xs ys : List Int) : goes pc pl (xs ++ ys) = ((goes pc pl xs).1 ++ (goes (goes pc pl xs).2.1 (goes pc pl xs).2.2 ys).1, (goes (goes pc pl xs).2.1 (goes pc pl xs).2.2 ys).2) := by
  induction xs generalizing pc pl with
  | nil => simp [goes]
  | cons b r ih =>
    by_cases hb : b = 0
    · simp only [List.cons_append, goes, if_pos hb, ih, List.append_assoc]
    · simp only [List.cons_append, goes, if_neg hb, ih]
theorem goes_zero {seg : List Int} (h : NZ seg) (pc : List Int) (pl : Nat) (r : List Int) :
    goes pc pl (seg ++ 0 :: r) = ((if pc ++ seg = [] then [] else [tell pl (pc ++ seg)]) ++ (goes [] (pl + (pc ++ seg).length + 1) r).1, (goes [] (pl + (pc ++ seg).length + 1) r).2) := by
  rw [goes_append, goes_nz h]
  simp only [goes, if_true, List.nil_append]
/-- the piece kept is of none but bytes, without zeros -/
theorem goes_keeps {pc xs : List Int} {pl : Nat} (h1 : By pc) (h2 : NZ pc) (hx : By xs) : By (goes pc pl xs).2.1 ∧ NZ (goes pc pl xs).2.1 ∧ (goes pc pl xs).2.1.length ≤ pc.length + xs.length := by
  induction xs generalizing pc pl with
  | nil => exact ⟨h1, h2, Nat.le_add_right _ _⟩
  | cons b r ih =>
    have hb := hx b (List.mem_cons_self ..)
    have hr : By r := fun c hc => hx c (List.mem_cons_of_mem _ hc)
    by_cases h0 : b = 0
    · simp only [goes, if_pos h0]
      obtain ⟨a, c, d⟩ := ih (pl := pl + pc.length + 1) By.nil NZ.nil hr
      refine ⟨a, c, ?_⟩
      rw [List.length_cons]
      have e : ([] : List Int).length = 0 := rfl
      omega
    · simp only [goes, if_neg h0]
      obtain ⟨a, c, d⟩ := ih (pc := pc ++ [b]) (pl := pl) (h1.append (.one hb.1 hb.2)) (h2.append fun c hc => by
        have e : c = b := by simpa using hc
        rw [e]; exact h0) hr
      refine ⟨a, c, ?_⟩
      rw [List.length_append] at d
      rw [List.length_cons]
      have e : [b].length = 1 := rfl
      omega
theorem goes_many (pc : List Int) (pl : Nat) (xs : List Int) : (goes pc pl xs).1.length ≤ xs.length := by
  induction xs generalizing pc pl with
  | nil => exact Nat.le_refl _
  | cons b r ih =>
    by_cases h0 : b = 0
    · simp only [goes, if_pos h0, List.length_append, List.length_cons]
      have := ih [] (pl + pc.length + 1)
      have e : (if pc = [] then [] else [tell pl pc]).length ≤ 1 := by split <;> simp
      omega
    · simp only [goes, if_neg h0, List.length_cons]
      have := ih (pc ++ [b]) pl
      omega
theorem undo_at {ns acc : List Int} {a k f : Nat} (h : ns[a]? = some (k : Int)) (hk : 1 ≤ k) (hf : ns.length - a ≤ f) :
    ∃ f', ns.length - (a + k) ≤ f' ∧ undo f acc (ns.drop a) = if ns.length < a + k then none else undo f' (acc ++ (ns.drop (a + 1)).take (k - 1) ++ if (k : Int) < 255 ∧ a + k < ns.length then [0] else []) (ns.drop (a + k)) := by
  have ha : a < ns.length := (List.getElem?_eq_some_iff.mp h).1
  have e : ns.drop a = (k : Int) :: ns.drop (a + 1) := by
    rw [List.drop_eq_getElem_cons ha]
    have := (List.getElem?_eq_some_iff.mp h).2
    rw [this]
  cases f with
  | zero => omega
  | succ f =>
    refine ⟨f, by omega, ?_⟩
    have e2 : ((k : Int) :: ns.drop (a + 1)).drop k = ns.drop (a + k) := by
      rw [← e, List.drop_drop]
    rw [e]
    simp only [undo, Int.toNat_natCast]
    rw [e2, List.length_drop]
    by_cases c : ns.length < a + k
    · rw [if_pos c, if_pos (by omega)]
    · rw [if_neg c, if_neg (by omega)]
      have e3 : (if (k : Int) < 255 ∧ k < ns.length - (a + 1) + 1 then [(0 : Int)] else []) = if (k : Int) < 255 ∧ a + k < ns.length then [0] else [] := by
        by_cases d : (k : Int) < 255 ∧ a + k < ns.length
        · rw [if_pos d, if_pos ⟨d.1, by omega⟩]
        · rw [if_neg d, if_neg (fun q => d ⟨q.1, by omega⟩)]
      rw [e3]
theorem byte_nat {ns : List Int} (hB : By ns) (hN : NZ ns) {a : Nat} {b : Int} (h : ns[a]? = some b) : ∃ k : Nat, b = (k : Int) ∧ 1 ≤ k ∧ k ≤ 255 := by
  have hm := List.mem_of_getElem? h
  have h1 := hB b hm
  have h2 := hN b hm
  exact ⟨b.toNat, by omega, by omega, by omega⟩
end Sb
/-! TwS: rules that we lack elsewhere: a statement that is never come to; enumerate over rows, counted from any number; the sum of a row. -/
namespace Tw
open PySem PySem.Spec PyProof.Rows L2

section
variable {X : Cx} {st : Stmt} {sts : List Stmt}
theorem ps_dead : PS X st (fun _ _ _ => False) := ⟨fun _ _ _ _ _ _ no => no.elim⟩
theorem pss_dead : PSs X sts (fun _ _ _ => False) := ⟨fun _ _ _ _ _ _ no => no.elim⟩
/-- a statement and what follows, by a word M that stands between -/
def tMid (t u : TS) : TS := fun D σ H => ∃ M : L2.St → Hp → Prop, t { D with nx := M } σ H ∧ ∀ σ1 H1, M σ1 H1 → u D σ1 H1
theorem pss_mid {t u : TS} (h1 : PS X st t) (h2 : PSs X sts u) : PSs X (st :: sts) (tMid t u) := by
  refine ⟨fun pins sh σ H D I hh => ?_⟩
  obtain ⟨M, ht, hu⟩ := hh
  refine wpAny_execs_cons (thn (h1.run pins sh σ H { D with nx := M } I ht) fun fl s1 q => ?_)
  cases fl with
  | next => exact q.elim fun σ1 q => q.elim fun H1 q => h2.run pins s1 σ1 H1 D q.1 (hu σ1 H1 q.2)
  | _ => exact q
end

/-! ### a built-in class called with keywords -/
section
variable {Mo : Model} {Ar : Around} {Ex : Value → Shared → Prop} {sh : Shared} {en : Env}
theorem tyCall_kw {ps : Pos} {T : String} {a : Expr} {as : List Expr} {ks : List Keyword} {Qv : Value → Shared → Prop}
    (go : wpAny Mo Ar (spliced (backTo ps (starEach (a :: as) en))) (fun us s1 => wpAny Mo Ar (evalAll ((backToKw ps (keywordEach ks en)).map (·.2))) (fun ws s2 => wpAny Mo Ar (call (.type T) us (((backToKw ps (keywordEach ks en)).filterMap (·.1)).zip ws)) Qv Ex s2) Ex s1) Ex sh)
    (e1 : backTo ps (starEach (a :: as) en) = (false, eval a en) :: backTo ps (starEach as en) := by rfl) (e2 : (backTo ps (starEach (a :: as) en)).any (·.1) = false := by rfl)
    (e3 : (backToKw ps (keywordEach ks en)).all (·.1.isSome) = true := by rfl) (e4 : (backToKw ps (keywordEach ks en)).any (·.1.isNone) = false := by rfl) :
    wpAny Mo Ar (callWith ps (.type T) [] (backTo ps (starEach (a :: as) en)) (backToKw ps (keywordEach ks en))) Qv Ex sh := by
  have ev : wpAny Mo Ar (evalArgs (.type T) true (backTo ps (starEach (a :: as) en)) (backToKw ps (keywordEach ks en))) (fun g s1 => wpAny Mo Ar (call (.type T) ([] ++ g.pos) g.kw) Qv Ex s1) Ex sh := by
    rw [e1] at go ⊢
    exact evalArgs_kwB e3 go
  unfold callWith
  refine wpAny_bind (wpAny_holding (wpAny_mono ev (fun g s1 hg => wpAny_bind (wpAny_standAt ?_)) fun _ _ z => z))
  simp only [e2, e4, Bool.or_false]
  exact wpAny_bind (wpAny_pure (wpAny_bind (wpAny_mono hg (fun r s2 hr => wpAny_bind (wpAny_holding (wpAny_point (wpAny_pure hr)))) fun _ _ z => z)))
end

/-! ### enumerate from c on -/
/-- the list at a, counted from c -/
def IteC (K : PySem.W.Frag) (a : Addr) (c : Int) : It where
  go := fun i H => ∃ (ys : List V) (y : V), SqL K H a ys ∧ ys[i]? = some y
  yld := fun i H v H' => ∃ T y, v = .ref T ∧ H T = none ∧ H' = upd H T (.tup [.int (c + (i : Nat)), y]) ∧ ∀ ys, SqL K H a ys → ys[i]? = some y
  stop := fun i H => ∃ ys : List V, SqL K H a ys ∧ ys.length = i
/-- the tuple at a -/
def ItuC (K : PySem.W.Frag) (a : Addr) (c : Int) : It where
  go := fun i H => ∃ (ys : List V) (y : V), SqT K H a ys ∧ ys[i]? = some y
  yld := fun i H v H' => ∃ T y, v = .ref T ∧ H T = none ∧ H' = upd H T (.tup [.int (c + (i : Nat)), y]) ∧ ∀ ys, SqT K H a ys → ys[i]? = some y
  stop := fun i H => ∃ ys : List V, SqT K H a ys ∧ ys.length = i

theorem turn_enC {P : Program} {w : World} {K : PySem.W.Frag} {es : List Expr} {kx : Nat} {tp : Pos} (a e it : Addr) (c : Int) :
    Turn P w K (.Tuple es kx tp) (IteC K a c) [e, it] e (fun i h => (∃ old, IsEnum h e it (c + (i : Nat)) old) ∧ h.IsListIter it a i ∧ e ≠ it) where
  mem := by simp
  obj := by
    rintro i h ⟨⟨old, h1⟩, ⟨o, h2, _, h3⟩, _⟩ b hb
    rcases (show b = e ∨ b = it by simpa using hb) with rfl | rfl
    · exact ⟨_, h1, fun v q => nomatch q⟩
    · exact ⟨o, h2, fun v q => by rw [h3] at q; cases q⟩
  keep := by
    rintro i h h' ⟨⟨old, h1⟩, h2, h3⟩ k
    exact ⟨⟨old, k e (by simp) _ h1⟩, h2.at fun o q => k it (by simp) o q, h3⟩
  item := by
    rintro X rfl rfl rfl cm i pins s σ H E I ff ⟨⟨old, h1⟩, h2, h3⟩ ⟨ys, y, h4, h5⟩
    obtain ⟨us, rv, pl, hz⟩ := I.list h4
    obtain ⟨u, hu, ru⟩ := rv.get h5
    have le : e < s.heap.objs.size := Heap.lt_size h1
    have li : it < s.heap.objs.size := by obtain ⟨_, q, _⟩ := h2; exact Heap.lt_size q
    have na : a ≠ it := fun z => by
      obtain ⟨o, q, q2, _⟩ := h2
      obtain ⟨o3, q3, q4, _⟩ := pl.isList
      rw [← z, q3] at q
      cases q
      rw [q4] at q2
      injection q2 with q2
      exact absurd q2 (by decide)
    have nea : e ≠ a := fun z => by
      obtain ⟨o3, q3, q4, _⟩ := pl.isList
      rw [← z, show s.heap.get? e = _ from h1] at q3
      cases q3
      injection q4 with q4
      exact absurd q4 (by decide)
    have ul : i < us.toArray.size := by
      have := (List.getElem?_eq_some_iff.mp hu).1
      simpa using this
    refine wpAny_pyNext_enum_itemC (Draws.list (A := X.A.in1) (I.ok.hd cm) it a na us.toArray) h1 ⟨h2, pl.isList⟩ ul h3 (fun q => ?_) fun x h' tk hx ho st hT hsz hk => ?_
    · rcases (show e = it ∨ e = a by simpa using q) with q | q
      · exact h3 q
      · exact nea q
    obtain rfl : x = u := by
      have q : us.toArray[i]? = some x := hx
      rw [List.getElem?_toArray, hu] at q
      cases q
      rfl
    refine ⟨_, rfl, wpAny_letOwnedTupleGo_enum (s := { s with heap := h', toks := tk + 1 }) ho fun h'' he' sb => ?_⟩
    have hT2 : h''.get? s.heap.objs.size = some { cls := .type "tuple", data := .seq #[.int (c + (i : Nat)) tk, x] } := (sb.2 _ (Nat.ne_of_gt le)).trans hT
    have nw : ObjOk X.prog X.w (upd H s.heap.objs.size (.tup [.int (c + (i : Nat)), y])) h'' s.heap.objs.size (.tup [.int (c + (i : Nat)), y]) :=
      ⟨by show 2 ≤ sizeLine; decide, [.int (c + (i : Nat)) tk, x], .cons ⟨_, rfl⟩ (.cons ru .nil), ⟨_, hT2, rfl, _, rfl⟩⟩
    have I1 : Inv X pins σ (upd H s.heap.objs.size (.tup [.int (c + (i : Nat)), y])) { s with heap := h'', toks := tk + 1 } :=
      I.turnedNew (ch := [e, it]) (fun b ob hb q => (sb.2 b (fun z => hb (by simp [z]))).trans (hk b ob (fun z => hb (by simp [z])) (fun z => hb (by simp [z])) q)) ff (Nat.le_refl _) nw
    refine ⟨.ref s.heap.objs.size, _, I1, rfl, ⟨_, y, rfl, I.hok.fresh (Nat.le_refl _), rfl, fun zs hz' => by rw [I.list_inj hz' h4]; exact h5⟩, ⟨⟨x, ?_⟩, st.1.at fun o q => (sb.2 it h3.symm).trans q, h3⟩, fun b hb => ?_⟩
    · rw [show (c + ((i + 1 : Nat) : Int)) = c + (i : Int) + 1 by omega]
      exact he'
    · have lb : b < s.heap.objs.size := by
        rcases (show b = e ∨ b = it by simpa using hb) with rfl | rfl
        · exact le
        · exact li
      rw [upd_ne (Nat.ne_of_lt lb)]
      exact (ff b hb).1
  done := by
    rintro X rfl rfl rfl cm i pins s σ H E I ff ⟨⟨old, h1⟩, h2, h3⟩ ⟨ys, h4, h5⟩
    obtain ⟨us, rv, pl, hz⟩ := I.list h4
    obtain ⟨f0, f1, f2, f3, f4, f5⟩ := ff it (by simp)
    have na : a ≠ it := fun z => by
      obtain ⟨o, q, q2, _⟩ := h2
      obtain ⟨o3, q3, q4, _⟩ := pl.isList
      rw [← z, q3] at q
      cases q
      rw [q4] at q2
      injection q2 with q2
      exact absurd q2 (by decide)
    have hl := rv.length
    have hn : us.toArray.size = i := by
      rw [List.size_toArray]
      omega
    have h2' : s.heap.IsListIter it a us.toArray.size := by
      rw [hn]
      exact h2
    exact wpAny_pyNext_enum_endD (Draws.list (A := X.A.in1) (I.ok.hd cm) it a na us.toArray) h1 ⟨h2', pl.isList⟩ fun h' eb => ⟨rfl, I.turned (t' := s.toks) (fun b o hb q => eb b o hb q) f0 f1 f3 f4 f5⟩
  self := by
    rintro A i s Q E ⟨⟨old, h1⟩, _⟩ h
    exact wpAny_pyIter_enum h1 h
theorem turn_enT {P : Program} {w : World} {K : PySem.W.Frag} {es : List Expr} {kx : Nat} {tp : Pos} (a e it : Addr) (c : Int) :
    Turn P w K (.Tuple es kx tp) (ItuC K a c) [e, it] e (fun i h => (∃ old, IsEnum h e it (c + (i : Nat)) old) ∧ h.IsTupleIter it a i ∧ e ≠ it) where
  mem := by simp
  obj := by
    rintro i h ⟨⟨old, h1⟩, ⟨o, h2, _, h3⟩, _⟩ b hb
    rcases (show b = e ∨ b = it by simpa using hb) with rfl | rfl
    · exact ⟨_, h1, fun v q => nomatch q⟩
    · exact ⟨o, h2, fun v q => by rw [h3] at q; cases q⟩
  keep := by
    rintro i h h' ⟨⟨old, h1⟩, h2, h3⟩ k
    exact ⟨⟨old, k e (by simp) _ h1⟩, h2.at fun o q => k it (by simp) o q, h3⟩
  item := by
    rintro X rfl rfl rfl cm i pins s σ H E I ff ⟨⟨old, h1⟩, h2, h3⟩ ⟨ys, y, h4, h5⟩
    obtain ⟨us, rv, pl, hz⟩ := I.tuple h4
    obtain ⟨u, hu, ru⟩ := rv.get h5
    have le : e < s.heap.objs.size := Heap.lt_size h1
    have li : it < s.heap.objs.size := by obtain ⟨_, q, _⟩ := h2; exact Heap.lt_size q
    have na : a ≠ it := fun z => by
      obtain ⟨o, q, q2, _⟩ := h2
      obtain ⟨o3, q3, q4, _⟩ := pl
      rw [← z, q3] at q
      cases q
      rw [q4] at q2
      injection q2 with q2
      exact absurd q2 (by decide)
    have nea : e ≠ a := fun z => by
      obtain ⟨o3, q3, q4, _⟩ := pl
      rw [← z, show s.heap.get? e = _ from h1] at q3
      cases q3
      injection q4 with q4
      exact absurd q4 (by decide)
    have ul : i < us.toArray.size := by
      have := (List.getElem?_eq_some_iff.mp hu).1
      simpa using this
    refine wpAny_pyNext_enum_itemC (Draws.tuple (A := X.A.in1) (I.ok.hd cm) it a na us.toArray) h1 ⟨h2, pl⟩ ul h3 (fun q => ?_) fun x h' tk hx ho st hT hsz hk => ?_
    · rcases (show e = it ∨ e = a by simpa using q) with q | q
      · exact h3 q
      · exact nea q
    obtain rfl : x = u := by
      have q : us.toArray[i]? = some x := hx
      rw [List.getElem?_toArray, hu] at q
      cases q
      rfl
    refine ⟨_, rfl, wpAny_letOwnedTupleGo_enum (s := { s with heap := h', toks := tk + 1 }) ho fun h'' he' sb => ?_⟩
    have hT2 : h''.get? s.heap.objs.size = some { cls := .type "tuple", data := .seq #[.int (c + (i : Nat)) tk, x] } := (sb.2 _ (Nat.ne_of_gt le)).trans hT
    have nw : ObjOk X.prog X.w (upd H s.heap.objs.size (.tup [.int (c + (i : Nat)), y])) h'' s.heap.objs.size (.tup [.int (c + (i : Nat)), y]) :=
      ⟨by show 2 ≤ sizeLine; decide, [.int (c + (i : Nat)) tk, x], .cons ⟨_, rfl⟩ (.cons ru .nil), ⟨_, hT2, rfl, _, rfl⟩⟩
    have I1 : Inv X pins σ (upd H s.heap.objs.size (.tup [.int (c + (i : Nat)), y])) { s with heap := h'', toks := tk + 1 } :=
      I.turnedNew (ch := [e, it]) (fun b ob hb q => (sb.2 b (fun z => hb (by simp [z]))).trans (hk b ob (fun z => hb (by simp [z])) (fun z => hb (by simp [z])) q)) ff (Nat.le_refl _) nw
    refine ⟨.ref s.heap.objs.size, _, I1, rfl, ⟨_, y, rfl, I.hok.fresh (Nat.le_refl _), rfl, fun zs hz' => by rw [I.tuple_inj hz' h4]; exact h5⟩, ⟨⟨x, ?_⟩, st.1.at fun o q => (sb.2 it h3.symm).trans q, h3⟩, fun b hb => ?_⟩
    · rw [show (c + ((i + 1 : Nat) : Int)) = c + (i : Int) + 1 by omega]
      exact he'
    · have lb : b < s.heap.objs.size := by
        rcases (show b = e ∨ b = it by simpa using hb) with rfl | rfl
        · exact le
        · exact li
      rw [upd_ne (Nat.ne_of_lt lb)]
      exact (ff b hb).1
  done := by
    rintro X rfl rfl rfl cm i pins s σ H E I ff ⟨⟨old, h1⟩, h2, h3⟩ ⟨ys, h4, h5⟩
    obtain ⟨us, rv, pl, hz⟩ := I.tuple h4
    obtain ⟨f0, f1, f2, f3, f4, f5⟩ := ff it (by simp)
    have na : a ≠ it := fun z => by
      obtain ⟨o, q, q2, _⟩ := h2
      obtain ⟨o3, q3, q4, _⟩ := pl
      rw [← z, q3] at q
      cases q
      rw [q4] at q2
      injection q2 with q2
      exact absurd q2 (by decide)
    have hl := rv.length
    have hn : us.toArray.size = i := by
      rw [List.size_toArray]
      omega
    have h2' : s.heap.IsTupleIter it a us.toArray.size := by
      rw [hn]
      exact h2
    exact wpAny_pyNext_enum_endD (Draws.tuple (A := X.A.in1) (I.ok.hd cm) it a na us.toArray) h1 ⟨h2', pl⟩ fun h' eb => ⟨rfl, I.turned (t' := s.toks) (fun b o hb q => eb b o hb q) f0 f1 f3 f4 f5⟩
  self := by
    rintro A i s Q E ⟨⟨old, h1⟩, _⟩ h
    exact wpAny_pyIter_enum h1 h

/-! ### enumerate(v), enumerate(v, start=k): how the walk begins -/
set_option maxHeartbeats 1000000 in
theorem meets_en1 {v : Value} {o : Obj} {Hh : Heap → Prop} (B : Begins v o Hh) :
    Meets (Builtin.«enumerate.__new__» ⟨[.type "enumerate", v], []⟩) (fun _ R z => Hh z.heap ∧
      R (.ok (.ret (.ref (z.heap.push o).objs.size))) { z with heap := (z.heap.push o).push { cls := .type "enumerate", data := .fields #[.none, .bool false, .ref z.heap.objs.size, rawInt 0, .none, .none] } }) := by
  refine .of_wp fun pg wo Ar R z hz => ?_
  obtain ⟨hp, g, d, tk, os⟩ := z
  obtain ⟨h1, h⟩ := hz
  have hsub := sub_enumerate
  have begin1 : ∀ {A' : Around} {E' : Value → Shared → Prop} {Q' : Value → Shared → Prop}, Q' (.ref hp.objs.size) ⟨hp.push o, g, d, tk, os⟩ → wpAny (model pg wo) A' (pyIter v) Q' E' ⟨hp, g, d, tk, os⟩ :=
    fun q => B.iter pg wo _ _ ⟨hp, g, d, tk, os⟩ _ h1 q
  wp_walk using begin1
  refine wpAny_stack_any fun stk => wpAny_pure ?_
  split
  · rename_i c _ _ _ _ _
    cases hc : (c == Value.type "enumerate") <;> (wp_walk using begin1; exact ⟨_, rfl, h⟩)
  · wp_walk using begin1
    exact ⟨_, rfl, h⟩
section
variable {pg : Program} {wo : World} {Ar : Around} {Ex : Value → Shared → Prop} {sh : Shared}
theorem en1_begins {v : Value} {o : Obj} {Hh : Heap → Prop} {Q : Value → Shared → Prop} (B : Begins v o Hh) (h1 : Hh sh.heap)
    (h : ∀ h', IsEnum h' (sh.heap.objs.size + 1) sh.heap.objs.size 0 .none → h'.get? sh.heap.objs.size = some o → (∀ b u, sh.heap.get? b = some u → h'.get? b = some u) → Q (.ref (sh.heap.objs.size + 1)) { sh with heap := h' }) :
    wpAny (model pg wo) Ar (call (.type "enumerate") [v]) Q Ex sh := by
  refine callType_new F.called_enumerate (by decide) (F.typeCall_enumerate_1 _) (F.newCall_enumerate_1 _) (fun obj => F.args_object_init_2 obj _) F.entry_enumerate_new (meets_en1 B) ⟨h1, ?_⟩
  have sz : (sh.heap.push o).objs.size = sh.heap.objs.size + 1 := Heap.size_push ..
  show _ ∧ _
  rw [sz]
  have ie : IsEnum ((sh.heap.push o).push { cls := .type "enumerate", data := .fields #[.none, .bool false, .ref sh.heap.objs.size, rawInt 0, .none, .none] }) (sh.heap.objs.size + 1) sh.heap.objs.size 0 .none := by
    have q := Heap.get?_push_size (sh.heap.push o) (o := { cls := .type "enumerate", data := .fields #[.none, .bool false, .ref sh.heap.objs.size, rawInt 0, .none, .none] }) rfl
    rw [sz] at q
    exact q
  exact ⟨⟨_, ie, rfl⟩, h _ ie (Heap.get?_push_of_some _ (Heap.get?_push_size _ B.free)) fun b u x => Heap.get?_push_of_some _ (Heap.get?_push_of_some _ x)⟩
end

/-- a row at a, list or tuple -/
def SqR (K : PySem.W.Frag) (H : Hp) (a : Addr) (xs : List V) : Prop := SqL K H a xs ∨ SqT K H a xs
theorem SqR.same {K : PySem.W.Frag} {H H' : Hp} {a : Addr} {xs : List V} (e : Same H H') (h : SqR K H a xs) : SqR K H' a xs := by
  rcases h with h | h
  · exact .inl (e.seq h)
  · exact .inr (Same.tupq e h)
/-- enumerate of a list or a tuple, counted from c: as one iterator -/
def ItrC (K : PySem.W.Frag) (a : Addr) (c : Int) (tup : Bool) : It := if tup = true then ItuC K a c else IteC K a c
def iEnC (K : PySem.W.Frag) (ta : TA) : TI := fun σ H R => ta σ H fun vs H1 => ∃ a xs, vs = [.ref a] ∧ SqR K H1 a xs ∧ ∀ b, (b = true → SqT K H1 a xs) → (b = false → SqL K H1 a xs) → R (ItrC K a 0 b) H1
def iEnK (K : PySem.W.Frag) (ta tk : TA) : TI := fun σ H R => ta σ H fun vs H1 => tk σ H1 fun zs H2 => ∃ a c xs, vs = [.ref a] ∧ zs = [.int c] ∧ (-(2 ^ 63) ≤ c ∧ c < 2 ^ 63) ∧ SqR K H2 a xs ∧ ∀ b, (b = true → SqT K H2 a xs) → (b = false → SqL K H2 a xs) → R (ItrC K a c b) H2
section
variable {X : Cx} {pins : List (Addr × Obj)} {σ : L2.St} {H : Hp} {s : Shared} {R : It → Hp → Prop} {es : List Expr} {kx : Nat} {tp : Pos}
theorem en_pie {a : Addr} {c : Int} {b : Bool} {h' : Heap} (I : Inv X pins σ H s) (hne : a < s.heap.objs.size)
    (he : IsEnum h' (s.heap.objs.size + 1) s.heap.objs.size c .none) (hi : if b = true then h'.IsTupleIter s.heap.objs.size a 0 else h'.IsListIter s.heap.objs.size a 0) (hk : ∀ z u, s.heap.get? z = some u → h'.get? z = some u)
    (q : R (ItrC X.K a c b) H) : wpAny (model X.prog X.w) X.A (pyIter (.ref (s.heap.objs.size + 1))) (PIE X pins σ (.Tuple es kx tp) R) X.xe { s with heap := h' } := by
  refine wpAny_pyIter_enum he ?_
  have I2 : Inv X pins σ H { s with heap := h' } := I.kept (t' := s.toks) hk
  have fp : ∀ z ∈ [s.heap.objs.size + 1, s.heap.objs.size], FpOk X pins H z := fun z hz => by
    have le : s.heap.objs.size ≤ z := by
      rcases (show z = s.heap.objs.size + 1 ∨ z = s.heap.objs.size by simpa using hz) with r | r <;> omega
    exact I.fpOk le (I.hok.fresh le)
  have he0 : IsEnum h' (s.heap.objs.size + 1) s.heap.objs.size (c + ((0 : Nat) : Int)) .none := by
    rw [show c + ((0 : Nat) : Int) = c by omega]
    exact he
  cases b with
  | true => exact ⟨s.heap.objs.size + 1, [s.heap.objs.size + 1, s.heap.objs.size], _, ItuC X.K a c, H, rfl, I2, turn_enT a _ _ c, ⟨⟨.none, he0⟩, hi, Nat.succ_ne_self _⟩, fp, q⟩
  | false => exact ⟨s.heap.objs.size + 1, [s.heap.objs.size + 1, s.heap.objs.size], _, IteC X.K a c, H, rfl, I2, turn_enC a _ _ c, ⟨⟨.none, he0⟩, hi, Nat.succ_ne_self _⟩, fp, q⟩
theorem pi_en {e : Expr} {ta : TA} {p pos : Pos} (hg : Gl X "enumerate") (hm : X.mg "enumerate" = none) (ha : PA X [e] ta) (hs : starEach [e] X.env = [(false, eval e X.env)] := by rfl) :
    PI X (.Tuple es kx tp) (.Call (.Name "enumerate" p) [e] [] pos) (iEnC X.K ta) := by
  refine ⟨fun pins s σ H R I h => Call_ (ld_blt I hg hm boot_enumerate (PyProof.Rows.callWith_type1 (thn (ha.run pos pins s σ H _ I h) fun us s1 hh => ?_) hs rfl))⟩
  obtain ⟨vs, H1, I1, rv, a, xs, rfl, hr, q⟩ := hh
  rw [Vals.ref1 rv]
  rcases hr with hr | hr
  · obtain ⟨its, _, pl, _⟩ := I1.list hr
    have lt : a < s1.heap.objs.size := by obtain ⟨_, z, _⟩ := pl.isList; exact Heap.lt_size z
    exact en1_begins (begins_list a its.toArray) pl.isList fun h' he hi hk => en_pie (b := false) I1 lt he ⟨_, hi, rfl, rfl⟩ hk (q false (fun z => nomatch z) fun _ => hr)
  · obtain ⟨its, _, pl, _⟩ := I1.tuple hr
    have lt : a < s1.heap.objs.size := by obtain ⟨_, z, _⟩ := pl; exact Heap.lt_size z
    exact en1_begins (begins_tuple a its.toArray) pl fun h' he hi hk => en_pie (b := true) I1 lt he ⟨_, hi, rfl, rfl⟩ hk (q true (fun _ => hr) fun z => nomatch z)
theorem pi_enK {e : Expr} {ta tk : TA} {p pos : Pos} {kws : List Keyword} (hg : Gl X "enumerate") (hm : X.mg "enumerate" = none) (ha : PA X [e] ta) (hk : PK X kws tk) (hks : (backToKw pos (keywordEach kws X.env)).filterMap (·.1) = [Str.ofString "start"] := by rfl)
    (e1 : backTo pos (starEach [e] X.env) = (false, eval e X.env) :: backTo pos (starEach [] X.env) := by rfl) (e2 : (backTo pos (starEach [e] X.env)).any (·.1) = false := by rfl)
    (e3 : (backToKw pos (keywordEach kws X.env)).all (·.1.isSome) = true := by rfl) (e4 : (backToKw pos (keywordEach kws X.env)).any (·.1.isNone) = false := by rfl) :
    PI X (.Tuple es kx tp) (.Call (.Name "enumerate" p) [e] kws pos) (iEnK X.K ta tk) := by
  refine ⟨fun pins s σ H R I h => wpAny_Call_Name_kw (ld_blt I hg hm boot_enumerate (tyCall_kw (thn (ha.run pos pins s σ H _ I h) fun us s1 ⟨vs, H1, I1, r1, q1⟩ => thn (hk.run pos pins s1 σ H1 _ I1 q1) fun ws s2 hh => ?_) e1 e2 e3 e4))⟩
  obtain ⟨zs, H2, I2, r2, a, c, xs, rfl, rfl, hc, hr, q⟩ := hh
  rw [hks, Vals.ref1 r1]
  cases r2 with
  | cons r rr =>
    cases rr
    obtain ⟨t, rfl⟩ := r
    show wpAny _ _ (call (.type "enumerate") [.ref a] [(Str.ofString "start", .int c t)]) _ _ _
    rcases hr with hr | hr
    · obtain ⟨its, _, pl, _⟩ := I2.list hr
      have lt : a < s2.heap.objs.size := by obtain ⟨_, z, _⟩ := pl.isList; exact Heap.lt_size z
      exact enum_begins_start (begins_list a its.toArray) pl.isList hc.1 hc.2 fun h' he hi _ hk => en_pie (b := false) I2 lt he ⟨_, hi, rfl, rfl⟩ hk (q false (fun z => nomatch z) fun _ => hr)
    · obtain ⟨its, _, pl, _⟩ := I2.tuple hr
      have lt : a < s2.heap.objs.size := by obtain ⟨_, z, _⟩ := pl; exact Heap.lt_size z
      exact enum_begins_start (begins_tuple a its.toArray) pl hc.1 hc.2 fun h' he hi _ hk => en_pie (b := true) I2 lt he ⟨_, hi, rfl, rfl⟩ hk (q true (fun _ => hr) fun z => nomatch z)
end
theorem walk_enC {K : PySem.W.Frag} {a : Addr} {xs : List V} {c : Int} {b : Bool} : Walk (ItrC K a c b) xs.length (fun H => if b = true then SqT K H a xs else SqL K H a xs) (YPair (fun i => some (.int (c + (i : Nat)))) (fun i => xs[i]?)) := by
  cases b with
  | true =>
    refine ⟨fun i _ hi q => ⟨xs, xs[i], q, by simp [hi]⟩, fun _ q => ⟨xs, q, rfl⟩, fun i H v H' _ q y => ?_⟩
    obtain ⟨T, x, y1, y2, y3, y4⟩ := y
    exact ⟨T, .int (c + (i : Nat)), x, y1, y2, y3, rfl, y4 xs q⟩
  | false =>
    refine ⟨fun i _ hi q => ⟨xs, xs[i], q, by simp [hi]⟩, fun _ q => ⟨xs, q, rfl⟩, fun i H v H' _ q y => ?_⟩
    obtain ⟨T, x, y1, y2, y3, y4⟩ := y
    exact ⟨T, .int (c + (i : Nat)), x, y1, y2, y3, rfl, y4 xs q⟩

/-! ### sum of a row -/
def rSumR (K : PySem.W.Frag) : List V → Hp → VK → Prop := fun vs H Q => ∃ (a : Addr) (ns : List Int), vs = [V.ref a] ∧ SqR K H a (ns.map V.int) ∧ Q (.int ns.sum) H
section
variable {X : Cx}
theorem tup_sum {pg : Program} {wo : World} {Ar : Around} {Ex : Value → Shared → Prop} {sh : Shared} {l : Addr} {its : List Value} {ns : List Int} {Q : Value → Shared → Prop} (hh : Ar.handled = none) (hl : sh.heap.IsTuple l its.toArray) (hi : IntsAre its ns)
    (h : ∀ h' tk t', (∀ b o, sh.heap.get? b = some o → h'.get? b = some o) → Q (.int ns.sum t') { sh with heap := h', toks := tk }) : wpAny (model pg wo) Ar (call (.builtin "sum") [.ref l]) Q Ex sh := by
  obtain ⟨xs, e⟩ := hi.allInts.items
  have hn : numsOf (intItems xs).toList = ns := by
    rw [← e]
    exact hi.numsOf
  rw [nums_intItems] at hn
  rw [e] at hl
  have lt : l < sh.heap.objs.size := by obtain ⟨_, z, _⟩ := hl; exact Heap.lt_size z
  refine call_sum_walkG (wpAny_pyIter_tuple hl ?_)
  have t1 : (sh.heap.push { cls := .type "tuple_iterator", data := .fields #[.ref l, .int 0 0] }).IsTupleIter sh.heap.objs.size l 0 := ⟨_, Heap.get?_push_size _ rfl, rfl, rfl⟩
  refine ⟨_, [_, l], [_], _, _, _, numAt xs, rfl, Walks.tuple (A := Ar.in1) hh _ l (Nat.ne_of_lt lt) (intItems xs), ⟨t1, hl.push _⟩, fun b hb => ?_, fun _ _ => intItems_at, fun h' tk t' hk => ?_⟩
  · show b < (sh.heap.push _).objs.size
    rw [Heap.size_push]
    rcases (show b = sh.heap.objs.size ∨ b = l by simpa using hb) with r | r
    · rw [r]; exact Nat.lt_succ_self _
    · rw [r]; exact Nat.lt_succ_of_lt lt
  · have kept : ∀ b o, sh.heap.get? b = some o → h'.get? b = some o := fun b o q => by
      refine hk b o (fun m => ?_) (Heap.get?_push_of_some _ q)
      have z : b = sh.heap.objs.size := by simpa using m
      exact absurd (z ▸ Heap.lt_size q) (Nat.lt_irrefl _)
    have fin := h h' tk t' kept
    rw [preSum_eq]
    have e3 : (intItems xs).size = xs.size := by simp [intItems]
    rw [e3, List.take_of_length_le (by simp), hn]
    exact fin
theorem cr_sumR (cm : X.calm = true) : CallR X (.builtin "sum") (rSumR X.K) := by
  rintro pins s σ H vs us Q I r ⟨a, ns, rfl, hs, q⟩
  rw [Vals.ref1 r]
  rcases hs with hs | hs
  · obtain ⟨its, rv, hl, _⟩ := I.list hs
    exact sum_raw (I.ok.hd cm) hl.isList rv.ints fun h' tk t' hk => ⟨.int _, H, I.kept hk, ⟨_, rfl⟩, q⟩
  · obtain ⟨its, rv, hl, _⟩ := I.tuple hs
    exact tup_sum (I.ok.hd cm) hl rv.ints fun h' tk t' hk => ⟨.int _, H, I.kept hk, ⟨_, rfl⟩, q⟩
end
end Tw
/-! TwO: methods and makings by name; rows; the law's state of draws; what is told of a stream, in the heap. -/
namespace Tw
open PySem PySem.Spec PyProof.Rows L2 Sb

/-- no built-in's name is the module's own -/
structure Bt (mg : Str → Option Value) : Prop where
  n_isinstance : mg "isinstance" = none
  n_int : mg "int" = none
  n_bool : mg "bool" = none
  n_str : mg "str" = none
  n_list : mg "list" = none
  n_tuple : mg "tuple" = none
  n_len : mg "len" = none
  n_all : mg "all" = none
  n_sum : mg "sum" = none
  n_range : mg "range" = none
  n_zip : mg "zip" = none
  n_enumerate : mg "enumerate" = none
def NoB (K : PySem.W.Frag) : Prop := ∀ x ∈ (["isinstance", "int", "bool", "str", "list", "tuple", "len", "all", "sum", "range", "zip", "enumerate"] : List Str), PySem.W.nsIn K mainGlobals x = some none
theorem bt_mk {K : PySem.W.Frag} {h : Heap} {mg : Str → Option Value} (X : K.In h) (G : h.Ns mainGlobals mg) (n : NoB K) : Bt mg := by
  constructor <;> exact PySem.W.mg_none_of X G (n _ (by simp))

/-! ### methods -/
def MethIn (K : PySem.W.Frag) (C : Addr) (m q : Str) (st : Stmt) : Prop := ∃ (f : Addr) (oc : Value) (od an : Option Addr) (osl : Array (Option Value)) (kV dc pm cd ct : Value),
  PySem.W.findIn K (.ref C) m = some (some (.ref f)) ∧ PySem.W.isFn K (.ref f) = true ∧ K.lookup f = some ⟨oc, od, .func (PySem.W.fnOf m q (defArgs st) (defBody st) (defScope st) .none kV dc pm an cd ct), osl⟩ ∧ PySem.W.codeIn K cd q = true ∧ PySem.W.keepIn K (.ref f) = true
section
variable {P : Program} {w : World} {K : PySem.W.Frag} {mg : Str → Option Value} {base : Heap} {C : Addr} {m q : Str} {st : Stmt} {ps : List Str} {k : Nat} {sp : Sp}
theorem methIn_mk {f : Addr} {oc : Value} {od an : Option Addr} {osl : Array (Option Value)} {kV dc pm cd ct : Value} (a : PySem.W.findIn K (.ref C) m = some (some (.ref f))) (i : PySem.W.isFn K (.ref f) = true)
    (l : K.lookup f = some ⟨oc, od, .func (PySem.W.fnOf m q (defArgs st) (defBody st) (defScope st) .none kV dc pm an cd ct), osl⟩) (c : PySem.W.codeIn K cd q = true) (kp : PySem.W.keepIn K (.ref f) = true) : MethIn K C m q st := ⟨f, oc, od, an, osl, kV, dc, pm, cd, ct, a, i, l, c, kp⟩
structure MCal (P : Program) (w : World) (K : PySem.W.Frag) (mg : Str → Option Value) (base : Heap) (C : Addr) (k : Nat) (m : Str) (ps : List Str) (sp : Sp) : Prop where
  ex : ∃ (f : Addr) (fd : FuncData), Meth K C m f ∧ FnOk P w K mg base CX0 k f fd ps sp ∧ Binds K fd ps []
theorem mcal_mk (D : MethIn K C m q st) (b : ∀ (kV doc pm : Value) (an : Option Addr) (cdv ct : Value) (us : List Value), us.length = ps.length → bindArgs (PySem.W.fnOf m q (defArgs st) (defBody st) (defScope st) .none kV doc pm an cdv ct) ⟨us, []⟩ = pure (ps.zip us))
    (ok : ∀ (f : Addr) (fd : FuncData), Fun K m q st f fd → FnOk P w K mg base CX0 k f fd ps sp) : MCal P w K mg base C k m ps sp := by
  obtain ⟨f, oc, od, an, osl, kV, dc, pm, cd, ct, a, i, l, c, kp⟩ := D
  have F := fun_mk (st := st) l c kp
  exact ⟨f, _, ⟨a, i, kp⟩, ok f _ F, F.binds b⟩
/-- C(), C's __init__ with self alone -/
structure MkC (P : Program) (w : World) (K : PySem.W.Frag) (mg : Str → Option Value) (base : Heap) (C : Addr) (k : Nat) (x : Str) (sp : Sp) : Prop where
  ex : ∃ (f : Addr) (fd : FuncData), Mk K C f ∧ FnOk P w K mg base CX0 k f fd ["self"] sp ∧ Binds K fd ["self"] []
  gC : mg x = some (.ref C)
theorem mkC_mk {h : Heap} {x : Str} (X : K.In h) (G : h.Ns mainGlobals mg) (g : PySem.W.nsIn K mainGlobals x = some (some (.ref C))) (D : MethIn K C "__init__" q st) (mk : PySem.W.makesIn K C = true) (kc : PySem.W.keepIn K (.ref C) = true)
    (b : ∀ (kV doc pm : Value) (an : Option Addr) (cdv ct : Value) (us : List Value), us.length = (["self"] : List Str).length → bindArgs (PySem.W.fnOf "__init__" q (defArgs st) (defBody st) (defScope st) .none kV doc pm an cdv ct) ⟨us, []⟩ = pure ((["self"] : List Str).zip us))
    (ok : ∀ (f : Addr) (fd : FuncData), Fun K "__init__" q st f fd → FnOk P w K mg base CX0 k f fd ["self"] sp) : MkC P w K mg base C k x sp := by
  obtain ⟨f, oc, od, an, osl, kV, dc, pm, cd, ct, a, i, l, c, kp⟩ := D
  have F := fun_mk (st := st) l c kp
  exact ⟨⟨f, _, ⟨mk, a, i, kc⟩, ok f _ F, F.binds b⟩, PySem.W.mg_of X G g⟩
end
section
variable {X : Cx} {j k : Nat} {C : Addr} {m x : Str} {ps : List Str} {sp : Sp} {o e : Expr} {es : List Expr} {to : TE} {t : TA} {pos apos p : Pos}
theorem pe_mcal {pl : Sem Bool} (M : MCal X.prog X.w X.K X.mg X.base C k m ps sp) (c : Cls X.K C) (hr : Room j X.A) (hk : k ≤ j) (ho : PE X o to) (ha : PA X (e :: es) t)
    (hst : starEach (e :: es) X.env = (false, eval e X.env) :: starEach es X.env := by rfl) (hpl : (backTo pos (starEach es X.env)).any (·.1) = false := by rfl)
    (ht : eval (.Call (.Attribute o m apos) (e :: es) [] pos) X.env = (do
      let ov ← eval o X.env
      standAt apos.atName
      let (f, first) ← holding [ov] (getMethod ov m pl)
      callWith pos f first (backTo pos (starEach (e :: es) X.env)) (backToKw pos (keywordEach [] X.env))) := by rfl) : PE X (.Call (.Attribute o m apos) (e :: es) [] pos) (tMeth C m sp [] E0 to t) := by
  obtain ⟨f, fd, hm, F, b⟩ := M.ex
  exact pe_meth ho c hm F (hr.mono hk) b .nil pass0 ha hst hpl ht
theorem pe_mcal0 {pl : Sem Bool} (M : MCal X.prog X.w X.K X.mg X.base C k m ps sp) (c : Cls X.K C) (hr : Room j X.A) (hk : k ≤ j) (ho : PE X o to)
    (ht : eval (.Call (.Attribute o m apos) [] [] pos) X.env = (do
      let ov ← eval o X.env
      standAt apos.atName
      let (f, first) ← holding [ov] (getMethod ov m pl)
      callWith pos f first (backTo pos (starEach [] X.env)) (backToKw pos (keywordEach [] X.env))) := by rfl) : PE X (.Call (.Attribute o m apos) [] [] pos) (tMeth C m sp [] E0 to tNil) := by
  obtain ⟨f, fd, hm, F, b⟩ := M.ex
  exact pe_meth0 ho c hm F (hr.mono hk) b .nil pass0 ht
theorem pe_mk0 (M : MkC X.prog X.w X.K X.mg X.base C k x sp) (hr : Room j X.A) (hk : k + 1 ≤ j) (hg : Gl X x) (hdb : (x == ("__debug__" : Str)) = false := by decide) : PE X (.Call (.Name x p) [] [] pos) (tMake C sp [] E0 tNil) := by
  obtain ⟨f, fd, hm, F, b⟩ := M.ex
  exact pe_make0 hm F (hr.mono hk) hg M.gC b .nil pass0 hdb
/-- either of two readings of what is walked -/
theorem pi_or {tg l : Expr} {a b : TI} (ha : PI X tg l a) (hb : PI X tg l b) : PI X tg l (fun σ H R => a σ H R ∨ b σ H R) := ⟨fun pins s σ H R I h => h.elim (ha.run pins s σ H R I) (hb.run pins s σ H R I)⟩
theorem pe_or2 {l : Expr} {a b : TE} (ha : PE X l a) (hb : PE X l b) : PE X l (fun σ H Q => a σ H Q ∨ b σ H Q) := ⟨fun pins s σ H Q I h => h.elim (ha.run pins s σ H Q I) (hb.run pins s σ H Q I)⟩
end

/-! ### rows -/
abbrev iV (xs : List Int) : List V := xs.map V.int
/-- the row at a -/
def Rw (H : Hp) (a : Addr) (xs : List V) : Prop := H a = some (.lst xs) ∨ H a = some (.tup xs)
theorem Rw.sq {K : PySem.W.Frag} {H : Hp} {a : Addr} {xs : List V} (h : Rw H a xs) : SqR K H a xs := h.elim (fun h => .inl (SqL.of h)) (fun h => .inr (SqT.of h))
theorem Rw.same {H H' : Hp} {a : Addr} {xs : List V} (h : Rw H a xs) (s : Same H H') : Rw H' a xs := h.elim (fun h => .inl (s _ _ h)) (fun h => .inr (s _ _ h))
theorem iV_len (xs : List Int) : (iV xs).length = xs.length := by simp
theorem iV_at {xs : List Int} {i : Nat} {v : V} (h : (iV xs)[i]? = some v) : ∃ b, xs[i]? = some b ∧ v = .int b := by
  rw [List.getElem?_map] at h
  cases e : xs[i]? with
  | none => rw [e] at h; cases h
  | some b => rw [e] at h; cases h; exact ⟨b, rfl, rfl⟩
theorem iV_atI {xs : List Int} {i : Nat} {b : Int} (h : xs[i]? = some b) : atI (iV xs) (i : Int) = some (.int b) := atI_nat (by rw [List.getElem?_map, h]; rfl)
theorem iV_append (xs ys : List Int) : iV (xs ++ ys) = iV xs ++ iV ys := List.map_append
theorem dp_ints {K : PySem.W.Frag} {H : Hp} : ∀ xs : List Int, DpAll K H (iV xs) (xs.map PyData.int)
  | [] => .nil
  | x :: r => .cons (.int x) (dp_ints r)
theorem lay_ints : ∀ xs : List Int, PyData.canLayAll0 (xs.map PyData.int) = true
  | [] => rfl
  | x :: r => by
    show (true && PyData.canLayAll0 (r.map PyData.int)) = true
    rw [lay_ints r]
    rfl
theorem dep_ints : ∀ xs : List Int, PyData.depthAll (xs.map PyData.int) = 0
  | [] => rfl
  | x :: r => by
    show max 0 (PyData.depthAll (r.map PyData.int)) = 0
    rw [dep_ints r]
    rfl
theorem sh_ints (xs : List Int) : SeqAt.shaped (.list (xs.map PyData.int)) = true := by
  unfold SeqAt.shaped
  rw [Bool.and_eq_true]
  refine ⟨lay_ints xs, decide_eq_true ?_⟩
  show PyData.depthAll _ + 1 ≤ 64
  rw [dep_ints]
  decide
theorem eqv_ints : ∀ xs ys : List Int, PyData.eqv (.list (xs.map PyData.int)) (.list (ys.map PyData.int)) = decide (xs = ys) := by
  have go : ∀ xs ys : List Int, PyData.eqvAll (xs.map PyData.int) (ys.map PyData.int) = decide (xs = ys) := by
    intro xs
    induction xs with
    | nil =>
      intro ys
      cases ys with
      | nil => rfl
      | cons y r => simp [PyData.eqvAll]
    | cons x r ih =>
      intro ys
      cases ys with
      | nil => simp [PyData.eqvAll]
      | cons y t =>
        simp only [List.map_cons, PyData.eqvAll, ih]
        by_cases e : x = y
        · subst e
          simp [PyData.eqv]
        · simp [PyData.eqv, e]
  intro xs ys
  have e := go xs ys
  simpa only [PyData.eqv] using e
theorem dpL {K : PySem.W.Frag} {H : Hp} {a : Addr} {xs : List Int} (h : H a = some (.lst (iV xs))) : Dp K H (.ref a) (.list (xs.map PyData.int)) := .lst (SqL.of h) (dp_ints xs)

/-! ### the law's state: a list of the numbers that are left, and three numbers -/
structure IsSt (H : Hp) (a b : Addr) : Prop where
  ne : a ≠ b
  ex : ∃ (ns : List Int) (x y z : Int), H a = some (.lst [.ref b, .int x, .int y, .int z]) ∧ H b = some (.lst (iV ns))
/-- all but the state stays -/
structure Fs (a b : Addr) (H H' : Hp) : Prop where
  keep : ∀ c o, c ≠ a → c ≠ b → H c = some o → H' c = some o
  st : IsSt H' a b
theorem IsSt.same {H H' : Hp} {a b : Addr} (h : IsSt H a b) (s : Same H H') : IsSt H' a b := by
  obtain ⟨ne, ns, x, y, z, e, f⟩ := h
  exact ⟨ne, ns, x, y, z, s _ _ e, s _ _ f⟩
theorem Fs.refl {H : Hp} {a b : Addr} (h : IsSt H a b) : Fs a b H H := ⟨fun _ _ _ _ e => e, h⟩
theorem Fs.trans {a b : Addr} {H H1 H2 : Hp} (f : Fs a b H H1) (g : Fs a b H1 H2) : Fs a b H H2 := ⟨fun c o n m e => g.keep c o n m (f.keep c o n m e), g.st⟩
theorem Fs.same {a b : Addr} {H H1 H2 : Hp} (f : Fs a b H H1) (g : Same H1 H2) : Fs a b H H2 := ⟨fun c o n m e => g c o (f.keep c o n m e), f.st.same g⟩
theorem Fs.of_same {a b : Addr} {H H1 : Hp} (h : IsSt H a b) (g : Same H H1) : Fs a b H H1 := (Fs.refl h).same g
theorem IsSt.na {H : Hp} {a b p : Addr} (h : IsSt H a b) (e : H p = none) : p ≠ a ∧ p ≠ b := by
  obtain ⟨_, _, _, _, _, e1, e2⟩ := h
  constructor
  · intro q
    rw [q, e1] at e
    cases e
  · intro q
    rw [q, e2] at e
    cases e
theorem Fs.free {a b p : Addr} {H H' : Hp} (f : Fs a b H H') (h : IsSt H a b) (e : H' p = none) : H p = none := by
  obtain ⟨n1, n2⟩ := f.st.na e
  cases q : H p with
  | none => rfl
  | some o =>
    rw [f.keep p o n1 n2 q] at e
    cases e
/-- a new thing at p, written later -/
theorem Fs.upd {a b p : Addr} {H H' : Hp} {o : HO} (f : Fs a b H H') (n1 : p ≠ a) (n2 : p ≠ b) (hp : H p = none) : Fs a b H (upd H' p o) := by
  obtain ⟨k, ne, ns, x, y, z, e1, e2⟩ := f
  refine ⟨fun c u m1 m2 e => ?_, ne, ns, x, y, z, ?_, ?_⟩
  · rw [upd_ne (ne_of_none e hp)]
    exact k c u m1 m2 e
  · rw [upd_ne n1.symm]
    exact e1
  · rw [upd_ne n2.symm]
    exact e2
/-- the draw's promise: any number below many -/
def spTake : Sp := fun vs H Q _ => ∃ (a b : Addr) (m : Int), vs = [.ref a, .int m] ∧ IsSt H a b ∧ 0 < m ∧ m < 1180591620717411303424 ∧ ∀ (r : Int) (H' : Hp), 0 ≤ r → r < m → Fs a b H H' → Q (.int r) H'

theorem Fs.kp {a b p : Addr} {H H1 H2 : Hp} {o : HO} (f : Fs a b H1 H2) (h : IsSt H a b) (hp : H p = none) (e : H1 p = some o) : H2 p = some o := f.keep p o (h.na hp).1 (h.na hp).2 e
/-- a list of bytes, new behind H -/
structure Nw (H H' : Hp) (r : Addr) (xs : List Int) : Prop where
  new : H r = none
  at_ : H' r = some (.lst (iV xs))
theorem Nw.st {a b r : Addr} {H H1 H2 : Hp} {xs : List Int} (n : Nw H H1 r xs) (h : IsSt H a b) (f : Fs a b H1 H2) : Nw H H2 r xs := ⟨n.new, f.kp h n.new n.at_⟩
theorem Nw.same {r : Addr} {H H1 H2 : Hp} {xs : List Int} (n : Nw H H1 r xs) (s : Same H1 H2) : Nw H H2 r xs := ⟨n.new, s _ _ n.at_⟩
/-- a function of the state alone that tells a new list of bytes, of at most N -/
def spGen (N : Nat) : Sp := fun vs H Q _ => ∃ (a b : Addr), vs = [.ref a] ∧ IsSt H a b ∧ ∀ (H' : Hp) (r : Addr) (xs : List Int), Fs a b H H' → Nw H H' r xs → By xs → xs.length ≤ N → Q (.ref r) H'
theorem rep_one {α : Type} (n : Nat) (x : α) : (List.replicate n [x]).flatten = List.replicate n x := by
  induction n with
  | zero => rfl
  | succ n ih => rw [List.replicate_succ, List.flatten_cons, ih, List.replicate_succ]; rfl
theorem iV_rep (n : Nat) (x : Int) : iV (List.replicate n x) = List.replicate n (V.int x) := List.map_replicate

/-! ### what is told -/
/-- t stands at v, all of it new behind H0 -/
def TlAt (H0 H : Hp) : Tell → V → Prop
  | .part pl bs, v => ∃ a l, v = .ref a ∧ H a = some (.tup [.str "part", .int (pl : Nat), .ref l]) ∧ H l = some (.lst (iV bs)) ∧ H0 a = none ∧ H0 l = none
  | .torn pl n, v => ∃ a, v = .ref a ∧ H a = some (.tup [.str "torn", .int (pl : Nat), .int (n : Nat)]) ∧ H0 a = none
abbrev Tls (H0 H : Hp) (ts : List Tell) (vs : List V) : Prop := Paired (TlAt H0 H) ts vs
theorem TlAt.keep {H0 H H' : Hp} {t : Tell} {v : V} (h : TlAt H0 H t v) (k : ∀ b o, H0 b = none → H b = some o → H' b = some o) : TlAt H0 H' t v := by
  cases t with
  | part pl bs =>
    obtain ⟨a, l, e, h1, h2, h3, h4⟩ := h
    exact ⟨a, l, e, k _ _ h3 h1, k _ _ h4 h2, h3, h4⟩
  | torn pl n =>
    obtain ⟨a, e, h1, h2⟩ := h
    exact ⟨a, e, k _ _ h2 h1, h2⟩
theorem TlAt.old {H0 H1 H : Hp} {t : Tell} {v : V} (h : TlAt H1 H t v) (k : ∀ b, H1 b = none → H0 b = none) : TlAt H0 H t v := by
  cases t with
  | part pl bs =>
    obtain ⟨a, l, e, h1, h2, h3, h4⟩ := h
    exact ⟨a, l, e, h1, h2, k _ h3, k _ h4⟩
  | torn pl n =>
    obtain ⟨a, e, h1, h2⟩ := h
    exact ⟨a, e, h1, k _ h2⟩
theorem pd_mono {α β : Type} {F G : α → β → Prop} (i : ∀ a b, F a b → G a b) : ∀ {xs : List α} {ys : List β}, Paired F xs ys → Paired G xs ys
  | _, _, .nil => .nil
  | _, _, .cons h t => .cons (i _ _ h) (pd_mono i t)
theorem pd_append {α β : Type} {F : α → β → Prop} : ∀ {xs zs : List α} {ys ws : List β}, Paired F xs ys → Paired F zs ws → Paired F (xs ++ zs) (ys ++ ws)
  | _, _, _, _, .nil, t => t
  | _, _, _, _, .cons h r, t => .cons h (pd_append r t)
theorem Tls.keep {H0 H H' : Hp} {ts : List Tell} {vs : List V} (h : Tls H0 H ts vs) (k : ∀ b o, H0 b = none → H b = some o → H' b = some o) : Tls H0 H' ts vs := pd_mono (fun _ _ q => q.keep k) h
theorem Tls.same {H0 H H' : Hp} {ts : List Tell} {vs : List V} (h : Tls H0 H ts vs) (s : Same H H') : Tls H0 H' ts vs := h.keep fun b o _ e => s b o e
theorem Tls.old {H0 H1 H : Hp} {ts : List Tell} {vs : List V} (h : Tls H1 H ts vs) (k : ∀ b, H1 b = none → H0 b = none) : Tls H0 H ts vs := pd_mono (fun _ _ q => q.old k) h
/-- .. as data -/
def Tell.pd : Tell → PyData
  | .part pl bs => .tuple [.str "part", .int (pl : Nat), .list (bs.map PyData.int)]
  | .torn pl n => .tuple [.str "torn", .int (pl : Nat), .int (n : Nat)]
theorem TlAt.dp {K : PySem.W.Frag} {H0 H : Hp} {t : Tell} {v : V} (h : TlAt H0 H t v) : Dp K H v (Tell.pd t) := by
  cases t with
  | part pl bs =>
    obtain ⟨a, l, e, h1, h2, _⟩ := h
    rw [e]
    exact .tup (SqT.of h1) (.cons (.str _) (.cons (.int _) (.cons (dpL h2) .nil)))
  | torn pl n =>
    obtain ⟨a, e, h1, _⟩ := h
    rw [e]
    exact .tup (SqT.of h1) (.cons (.str _) (.cons (.int _) (.cons (.int _) .nil)))
theorem Tls.dp {K : PySem.W.Frag} {H0 H : Hp} : ∀ {ts : List Tell} {vs : List V}, Tls H0 H ts vs → DpAll K H vs (ts.map Tell.pd)
  | _, _, .nil => .nil
  | _, _, .cons h t => .cons h.dp (Tls.dp t)
theorem tell_lay (t : Tell) : PyData.canLay0 (Tell.pd t) = true ∧ PyData.depth (Tell.pd t) ≤ 2 := by
  cases t with
  | part pl bs =>
    constructor
    · show (PyData.strOk "part" && (true && (PyData.canLayAll0 (bs.map PyData.int) && true))) = true
      rw [lay_ints, show PyData.strOk ("part" : Str) = true from by decide +kernel]
      rfl
    · show max 0 (max 0 (max (PyData.depthAll (bs.map PyData.int) + 1) 0)) + 1 ≤ 2
      rw [dep_ints]
      decide
  | torn pl n =>
    constructor
    · show (PyData.strOk "torn" && (true && (true && true))) = true
      rw [show PyData.strOk ("torn" : Str) = true from by decide +kernel]
      rfl
    · show max 0 (max 0 (max 0 0)) + 1 ≤ 2
      decide
theorem sh_tells (ts : List Tell) : SeqAt.shaped (.list (ts.map Tell.pd)) = true := by
  have h : PyData.canLayAll0 (ts.map Tell.pd) = true ∧ PyData.depthAll (ts.map Tell.pd) ≤ 2 := by
    induction ts with
    | nil => exact ⟨rfl, by decide⟩
    | cons t r ih =>
      obtain ⟨h1, h2⟩ := tell_lay t
      constructor
      · show (PyData.canLay0 (Tell.pd t) && PyData.canLayAll0 (r.map Tell.pd)) = true
        rw [h1, ih.1]
        rfl
      · show max (PyData.depth (Tell.pd t)) (PyData.depthAll (r.map Tell.pd)) ≤ 2
        have := ih.2
        omega
  unfold SeqAt.shaped
  rw [Bool.and_eq_true]
  refine ⟨h.1, decide_eq_true ?_⟩
  have := h.2
  show PyData.depthAll _ + 1 ≤ 64
  omega
end Tw
namespace K34
open PySem PySem.Spec PyProof.Rows L2 Tw
def topS (i : Nat) : Stmt := PySem.Challenge.pw_thingwires_k34_whole_readers_judged.main.body.getD i (.Pass ⟨0, 0, 0, 0⟩)
abbrev s__wall : Stmt := topS 0
abbrev N__wall : List Str := ["k"]
theorem sc__wall : FnScope N__wall ["k"] (defScope s__wall) := ⟨rfl, rfl, rfl, by decide +kernel, rfl, by decide +kernel, by decide +kernel⟩
abbrev s_is_whole : Stmt := topS 6
abbrev N_is_whole : List Str := ["thing"]
theorem sc_is_whole : FnScope N_is_whole ["thing"] (defScope s_is_whole) := ⟨rfl, rfl, rfl, by decide +kernel, rfl, by decide +kernel, by decide +kernel⟩
abbrev s_is_code : Stmt := topS 7
abbrev N_is_code : List Str := ["code"]
theorem sc_is_code : FnScope N_is_code ["code"] (defScope s_is_code) := ⟨rfl, rfl, rfl, by decide +kernel, rfl, by decide +kernel, by decide +kernel⟩
abbrev s_is_text : Stmt := topS 8
abbrev N_is_text : List Str := ["thing", "sign"]
theorem sc_is_text : FnScope N_is_text ["thing"] (defScope s_is_text) := ⟨rfl, rfl, rfl, by decide +kernel, rfl, by decide +kernel, by decide +kernel⟩
abbrev s_is_row : Stmt := topS 9
abbrev N_is_row : List Str := ["thing"]
theorem sc_is_row : FnScope N_is_row ["thing"] (defScope s_is_row) := ⟨rfl, rfl, rfl, by decide +kernel, rfl, by decide +kernel, by decide +kernel⟩
abbrev s_keeps_bounds : Stmt := topS 10
abbrev N_keeps_bounds : List Str := ["number", "low", "high"]
theorem sc_keeps_bounds : FnScope N_keeps_bounds ["number", "low", "high"] (defScope s_keeps_bounds) := ⟨rfl, rfl, rfl, by decide +kernel, rfl, by decide +kernel, by decide +kernel⟩
abbrev s_keeps_figures : Stmt := topS 11
abbrev N_keeps_figures : List Str := ["number"]
theorem sc_keeps_figures : FnScope N_keeps_figures ["number"] (defScope s_keeps_figures) := ⟨rfl, rfl, rfl, by decide +kernel, rfl, by decide +kernel, by decide +kernel⟩
abbrev s_alike : Stmt := topS 12
abbrev N_alike : List Str := ["one", "other", "ahead", "left", "right"]
theorem sc_alike : FnScope N_alike ["one", "other"] (defScope s_alike) := ⟨rfl, rfl, rfl, by decide +kernel, rfl, by decide +kernel, by decide +kernel⟩
abbrev s__are_equal : Stmt := topS 13
abbrev N__are_equal : List Str := ["one", "other"]
theorem sc__are_equal : FnScope N__are_equal ["one", "other"] (defScope s__are_equal) := ⟨rfl, rfl, rfl, by decide +kernel, rfl, by decide +kernel, by decide +kernel⟩
abbrev s_by_number : Stmt := topS 18
abbrev N_by_number : List Str := ["row", "number", "entry"]
theorem sc_by_number : FnScope N_by_number ["row", "number"] (defScope s_by_number) := ⟨rfl, rfl, rfl, by decide +kernel, rfl, by decide +kernel, by decide +kernel⟩
abbrev s_pair_word : Stmt := topS 20
abbrev N_pair_word : List Str := ["pair", "one", "other"]
theorem sc_pair_word : FnScope N_pair_word ["pair"] (defScope s_pair_word) := ⟨rfl, rfl, rfl, by decide +kernel, rfl, by decide +kernel, by decide +kernel⟩
abbrev s_inner_pair : Stmt := topS 21
abbrev N_inner_pair : List Str := ["pair", "one", "other", "word"]
theorem sc_inner_pair : FnScope N_inner_pair ["pair"] (defScope s_inner_pair) := ⟨rfl, rfl, rfl, by decide +kernel, rfl, by decide +kernel, by decide +kernel⟩
abbrev s_gone_into : Stmt := topS 22
abbrev N_gone_into : List Str := ["old", "new", "pair", "one", "other", "word", "likes", "field", "inner", "case"]
theorem sc_gone_into : FnScope N_gone_into ["old", "new", "pair"] (defScope s_gone_into) := ⟨rfl, rfl, rfl, by decide +kernel, rfl, by decide +kernel, by decide +kernel⟩
abbrev s_pairs_met : Stmt := topS 23
abbrev N_pairs_met : List Str := ["old", "new", "met", "ahead", "pair", "way", "into", "steps", "inner"]
theorem sc_pairs_met : FnScope N_pairs_met ["old", "new"] (defScope s_pairs_met) := ⟨rfl, rfl, rfl, by decide +kernel, rfl, by decide +kernel, by decide +kernel⟩
abbrev s__likes : Stmt := topS 24
abbrev N__likes : List Str := ["row", "new_row", "likes", "entry", "found"]
theorem sc__likes : FnScope N__likes ["row", "new_row"] (defScope s__likes) := ⟨rfl, rfl, rfl, by decide +kernel, rfl, by decide +kernel, by decide +kernel⟩
abbrev s_made : Stmt := topS 26
abbrev N_made : List Str := ["old", "new", "pairs", "places", "at", "pair"]
theorem sc_made : FnScope N_made ["old", "new"] (defScope s_made) := ⟨rfl, rfl, rfl, by decide +kernel, rfl, by decide +kernel, by decide +kernel⟩
abbrev s__step : Stmt := topS 27
abbrev N__step : List Str := ["old", "new", "pair", "places", "one", "other", "word"]
theorem sc__step : FnScope N__step ["old", "new", "pair", "places"] (defScope s__step) := ⟨rfl, rfl, rfl, by decide +kernel, rfl, by decide +kernel, by decide +kernel⟩
abbrev s__choice_step : Stmt := topS 28
abbrev N__choice_step : List Str := ["cases", "new_cases", "places", "likes", "number", "_", "inner", "like", "first"]
theorem sc__choice_step : FnScope N__choice_step ["cases", "new_cases", "places"] (defScope s__choice_step) := ⟨rfl, rfl, rfl, by decide +kernel, rfl, by decide +kernel, by decide +kernel⟩
abbrev s__content_place : Stmt := topS 29
abbrev N__content_place : List Str := ["inner", "new_inner", "places"]
theorem sc__content_place : FnScope N__content_place ["inner", "new_inner", "places"] (defScope s__content_place) := ⟨rfl, rfl, rfl, by decide +kernel, rfl, by decide +kernel, by decide +kernel⟩
abbrev s__node_step : Stmt := topS 30
abbrev N__node_step : List Str := ["fields", "new_fields", "kind", "places", "likes", "defaults", "lacks", "number", "name", "of", "left", "like"]
theorem sc__node_step : FnScope N__node_step ["fields", "new_fields", "kind", "places"] (defScope s__node_step) := ⟨rfl, rfl, rfl, by decide +kernel, rfl, by decide +kernel, by decide +kernel⟩
abbrev s_is_name : Stmt := topS 37
abbrev N_is_name : List Str := ["thing", "letter"]
theorem sc_is_name : FnScope N_is_name ["thing"] (defScope s_is_name) := ⟨rfl, rfl, rfl, by decide +kernel, rfl, by decide +kernel, by decide +kernel⟩
abbrev s__names : Stmt := topS 39
abbrev N__names : List Str := ["rows", "name"]
theorem sc__names : FnScope N__names ["rows"] (defScope s__names) := ⟨rfl, rfl, rfl, by decide +kernel, rfl, by decide +kernel, by decide +kernel⟩
abbrev s__by_numbers : Stmt := topS 40
abbrev N__by_numbers : List Str := ["rows", "name", "row"]
theorem sc__by_numbers : FnScope N__by_numbers ["rows"] (defScope s__by_numbers) := ⟨rfl, rfl, rfl, by decide +kernel, rfl, by decide +kernel, by decide +kernel⟩
abbrev s__refuse_rows : Stmt := topS 41
abbrev N__refuse_rows : List Str := ["word", "rows", "kinds", "choices", "name", "row", "at", "entry", "why"]
theorem sc__refuse_rows : FnScope N__refuse_rows ["word", "rows", "kinds", "choices"] (defScope s__refuse_rows) := ⟨rfl, rfl, rfl, by decide +kernel, rfl, by decide +kernel, by decide +kernel⟩
abbrev s__fault : Stmt := topS 42
abbrev N__fault : List Str := ["word", "entry", "earlier", "kinds", "choices", "number", "name", "of", "least", "other"]
theorem sc__fault : FnScope N__fault ["word", "entry", "earlier", "kinds", "choices"] (defScope s__fault) := ⟨rfl, rfl, rfl, by decide +kernel, rfl, by decide +kernel, by decide +kernel⟩
abbrev s_is_sort : Stmt := topS 43
abbrev N_is_sort : List Str := ["of", "kinds", "choices", "is_inside", "word"]
theorem sc_is_sort : FnScope N_is_sort ["of", "kinds", "choices"] (defScope s_is_sort) := ⟨rfl, rfl, rfl, by decide +kernel, rfl, by decide +kernel, by decide +kernel⟩
abbrev s__first_word : Stmt := topS 44
abbrev N__first_word : List Str := ["of"]
theorem sc__first_word : FnScope N__first_word ["of"] (defScope s__first_word) := ⟨rfl, rfl, rfl, by decide +kernel, rfl, by decide +kernel, by decide +kernel⟩
abbrev s__is_inmost : Stmt := topS 45
abbrev N__is_inmost : List Str := ["word", "of", "kinds", "choices"]
theorem sc__is_inmost : FnScope N__is_inmost ["word", "of", "kinds", "choices"] (defScope s__is_inmost) := ⟨rfl, rfl, rfl, by decide +kernel, rfl, by decide +kernel, by decide +kernel⟩
abbrev s__is_most : Stmt := topS 46
abbrev N__is_most : List Str := ["most", "limit"]
theorem sc__is_most : FnScope N__is_most ["most", "limit"] (defScope s__is_most) := ⟨rfl, rfl, rfl, by decide +kernel, rfl, by decide +kernel, by decide +kernel⟩
abbrev s__are_bounds : Stmt := topS 47
abbrev N__are_bounds : List Str := ["low", "high"]
theorem sc__are_bounds : FnScope N__are_bounds ["low", "high"] (defScope s__are_bounds) := ⟨rfl, rfl, rfl, by decide +kernel, rfl, by decide +kernel, by decide +kernel⟩
abbrev s__is_default : Stmt := topS 48
abbrev N__is_default : List Str := ["of", "default", "word"]
theorem sc__is_default : FnScope N__is_default ["of", "default"] (defScope s__is_default) := ⟨rfl, rfl, rfl, by decide +kernel, rfl, by decide +kernel, by decide +kernel⟩
abbrev s__refuse_comings_back : Stmt := topS 49
abbrev N__refuse_comings_back : List Str := ["choices", "name", "at", "_", "content"]
theorem sc__refuse_comings_back : FnScope N__refuse_comings_back ["choices"] (defScope s__refuse_comings_back) := ⟨rfl, rfl, rfl, by decide +kernel, rfl, by decide +kernel, by decide +kernel⟩
abbrev s_judge_reader : Stmt := topS 51
abbrev N_judge_reader : List Str := ["old", "new", "steps", "right", "at", "step", "other"]
theorem sc_judge_reader : FnScope N_judge_reader ["old", "new", "steps"] (defScope s_judge_reader) := ⟨rfl, rfl, rfl, by decide +kernel, rfl, by decide +kernel, by decide +kernel⟩
abbrev s__law_draw : Stmt := topS 53
abbrev N__law_draw : List Str := ["_law_well", "_law_many", "_law_found", "_law_low"]
theorem sc__law_draw : FnScope N__law_draw ["_law_well", "_law_many"] (defScope s__law_draw) := ⟨rfl, rfl, rfl, by decide +kernel, rfl, by decide +kernel, by decide +kernel⟩
abbrev s__law_sort : Stmt := topS 54
abbrev N__law_sort : List Str := ["_law_well", "_law_kinds", "_law_kind", "_law_low", "_law_some"]
theorem sc__law_sort : FnScope N__law_sort ["_law_well", "_law_kinds"] (defScope s__law_sort) := ⟨rfl, rfl, rfl, by decide +kernel, rfl, by decide +kernel, by decide +kernel⟩
abbrev s__law_left : Stmt := topS 55
abbrev N__law_left : List Str := ["_law_sort_here", "_law_some"]
theorem sc__law_left : FnScope N__law_left ["_law_sort_here"] (defScope s__law_left) := ⟨rfl, rfl, rfl, by decide +kernel, rfl, by decide +kernel, by decide +kernel⟩
abbrev s__law_schema : Stmt := topS 56
abbrev N__law_schema : List Str := ["_law_well", "_law_kinds", "_law_stem", "_law_rows", "_law_kind", "_law_k", "_law_sort_here", "_law_left_here", "_law_cases", "_law_bare"]
theorem sc__law_schema : FnScope N__law_schema ["_law_well", "_law_kinds", "_law_stem"] (defScope s__law_schema) := ⟨rfl, rfl, rfl, by decide +kernel, rfl, by decide +kernel, by decide +kernel⟩
abbrev s__law_other : Stmt := topS 57
abbrev N__law_other : List Str := ["_law_well", "_law_part", "_law_way", "_law_at"]
theorem sc__law_other : FnScope N__law_other ["_law_well", "_law_part"] (defScope s__law_other) := ⟨rfl, rfl, rfl, by decide +kernel, rfl, by decide +kernel, by decide +kernel⟩
abbrev s__law_spoilt : Stmt := topS 58
abbrev N__law_spoilt : List Str := ["_law_well", "_law_steps", "_law_way", "_law_at", "_law_step", "_law_place", "_law_other_here"]
theorem sc__law_spoilt : FnScope N__law_spoilt ["_law_well", "_law_steps"] (defScope s__law_spoilt) := ⟨rfl, rfl, rfl, by decide +kernel, rfl, by decide +kernel, by decide +kernel⟩
abbrev s__law_due : Stmt := topS 59
abbrev N__law_due : List Str := ["_law_steps", "_law_others", "_law_at"]
theorem sc__law_due : FnScope N__law_due ["_law_steps", "_law_others"] (defScope s__law_due) := ⟨rfl, rfl, rfl, by decide +kernel, rfl, by decide +kernel, by decide +kernel⟩
abbrev s_law : Stmt := topS 60
abbrev N_law : List Str := ["_law_script", "_law_cell", "_law_well", "_law_kinds", "_law_old", "_law_new", "_law_steps", "_law_k", "_law_others", "_law_found"]
theorem sc_law : FnScope N_law ["_law_script"] (defScope s_law) := ⟨rfl, rfl, rfl, by decide +kernel, rfl, by decide +kernel, by decide +kernel⟩
abbrev s_NoSchema___init__ : Stmt := inClass (topS 16) 0
abbrev N_NoSchema___init__ : List Str := ["self", "path", "why"]
theorem sc_NoSchema___init__ : FnScope N_NoSchema___init__ ["self", "path", "why"] (defScope s_NoSchema___init__) := ⟨rfl, rfl, rfl, by decide +kernel, rfl, by decide +kernel, by decide +kernel⟩
abbrev s_Schema___init__ : Stmt := inClass (topS 38) 0
abbrev N_Schema___init__ : List Str := ["self", "kinds", "choices", "root", "given", "kind_names", "choice_names"]
theorem sc_Schema___init__ : FnScope N_Schema___init__ ["self", "kinds", "choices", "root"] (defScope s_Schema___init__) := ⟨rfl, rfl, rfl, by decide +kernel, rfl, by decide +kernel, by decide +kernel⟩
abbrev s_Schema_check : Stmt := inClass (topS 38) 1
abbrev N_Schema_check : List Str := ["self", "thing"]
theorem sc_Schema_check : FnScope N_Schema_check ["self", "thing"] (defScope s_Schema_check) := ⟨rfl, rfl, rfl, by decide +kernel, rfl, by decide +kernel, by decide +kernel⟩
end K34
/-! TwP: what the streams' defs promise. -/
namespace Tw
open PySem PySem.Spec PyProof.Rows L2 Sb
theorem TyX.same {K : PySem.W.Frag} {H H' : Hp} {v : V} {t : Value} (s : Same H H') (h : TyX K H v t) : TyX K H' v t := by
  cases h with
  | base b =>
    refine .base ?_
    cases b with
    | non => exact .non
    | bl y => exact .bl y
    | int i => exact .int i
    | str y => exact .str y
    | flt y => exact .flt y
    | lst e => exact .lst (s _ _ e)
    | frz e => exact .frz (s _ _ e)
    | tup e => exact .tup (s _ _ e)
    | dK e => exact .dK (s _ _ e)
    | dT e => exact .dT (s _ _ e)
    | ins e c h1 h2 h3 h4 => exact .ins (s _ _ e) c h1 h2 h3 h4
  | byt b => exact .byt b
  | set e => exact .set (s _ _ e)
  | kList e c => exact .kList e c
  | kTuple e c => exact .kTuple e c
  | kDict e c => exact .kDict e c
  | fTuple e => exact .fTuple (s _ _ e)
  | fDict e => exact .fDict (s _ _ e)
theorem Rw.ty {K : PySem.W.Frag} {H : Hp} {a : Addr} {xs : List V} (h : Rw H a xs) : ∃ t, TyX K H (.ref a) t ∧ PySem.W.kitAny K t [.type "list", .type "tuple"] = some true := by
  rcases h with h | h
  · exact ⟨.type "list", .base (.lst h), kitAny_cons (b := true) (kit_ty (by decide +kernel)) (fun z => nomatch z) fun _ => rfl⟩
  · exact ⟨.type "tuple", .base (.tup h), kitAny_cons (b := false) (kit_ty (by decide +kernel)) (fun _ => kitAny_cons (b := true) (kit_ty (by decide +kernel)) (fun z => nomatch z) fun _ => rfl) fun z => nomatch z⟩
/-- a module's number -/
abbrev Gi (mg : Str → Option Value) (x : Str) (n : Int) : Prop := ∃ u, mg x = some u ∧ RelV (.int n) u
abbrev big : Nat := 4000000
def spWhole (K : PySem.W.Frag) : Sp := fun vs H Q _ => ∃ (v : V) (t : Value) (b1 b2 : Bool), vs = [v] ∧ TyX K H v t ∧ PySem.W.kitOne K t (.type "int") = some b1 ∧ (b1 = true → PySem.W.kitOne K t (.type "bool") = some b2) ∧ Q (.bl (b1 && !b2)) H
def spRow (K : PySem.W.Frag) : Sp := fun vs H Q _ => ∃ (v : V) (t : Value) (b : Bool), vs = [v] ∧ TyX K H v t ∧ PySem.W.kitAny K t [.type "list", .type "tuple"] = some b ∧ ∀ H', Same H H' → Q (.bl b) H'
/-- rows of bytes are asked of alone -/
def spBytes : Sp := fun vs H Q _ => ∃ (a : Addr) (ns : List Int), vs = [.ref a] ∧ Rw H a (iV ns) ∧ By ns ∧ ns.length ≤ big ∧ ∀ H', Same H H' → Q (.bl true) H'
def spRefuse : Sp := fun vs H Q _ => ∃ (a : Addr) (ns : List Int), vs = [.ref a] ∧ Rw H a (iV ns) ∧ By ns ∧ ns.length ≤ big ∧ ∀ H', Same H H' → Q .non H'
def spZeros : Sp := fun vs H Q _ => ∃ (a : Addr) (ns : List Int), vs = [.ref a] ∧ Rw H a (iV ns) ∧ ns.length ≤ big ∧ ∀ (H' : Hp) (p : Addr), Same H H' → H p = none → H' p = some (.lst ((zs 0 ns).map fun (i : Nat) => V.int i)) → Q (.ref p) H'
def spCheck : Sp := fun vs H Q _ => ∃ (a : Addr) (ns : List Int), vs = [.ref a] ∧ Rw H a (iV ns) ∧ By ns ∧ ns.length ≤ big ∧ ∀ (H' : Hp) (p : Addr), Same H H' → H p = none → H' p = some (.lst (iV (check ns))) → Q (.ref p) H'
def optL (H0 H : Hp) : Option (List Int) → V → Prop
  | none, v => v = .non
  | some w, v => ∃ p, v = .ref p ∧ H0 p = none ∧ H p = some (.lst (iV w))
/-- runs undone, of pieces without zeros -/
def spWithZ : Sp := fun vs H Q _ => ∃ (a : Addr) (ns : List Int), vs = [.ref a] ∧ H a = some (.lst (iV ns)) ∧ By ns ∧ NZ ns ∧ ns.length ≤ big ∧ ∀ (H' : Hp) (v : V), Same H H' → optL H H' (unrun ns) v → Q v H'
def spRead : Sp := fun vs H Q _ => ∃ (a : Addr) (pl : Nat) (ns : List Int), vs = [.int (pl : Nat), .ref a] ∧ H a = some (.lst (iV ns)) ∧ By ns ∧ NZ ns ∧ ns.length ≤ big ∧ ∀ (H' : Hp) (v : V), Same H H' → TlAt H H' (tell pl ns) v → Q v H'

/-! ### cuts by natural places -/
theorem sIx_natV (n d k : Nat) : HT.sIx n d (some (k : Int)) = min k n := HT.sIx_nat n d k
theorem cut_nn (xs : List V) (i j : Nat) : cutV xs (some (i : Int)) (some (j : Int)) = (xs.drop i).take (j - i) := by
  unfold cutV
  rw [sIx_natV, sIx_natV]
  by_cases h : i ≤ xs.length
  · rw [Nat.min_eq_left h]
    by_cases h2 : j ≤ xs.length
    · rw [Nat.min_eq_left h2]
    · rw [Nat.min_eq_right (show xs.length ≤ j by omega), List.take_of_length_le (by rw [List.length_drop]; omega), List.take_of_length_le (by rw [List.length_drop]; omega)]
  · rw [Nat.min_eq_right (show xs.length ≤ i by omega), List.drop_of_length_le (Nat.le_refl _), List.drop_of_length_le (show xs.length ≤ i by omega)]
    simp
theorem cut_n0 (xs : List V) (i : Nat) : cutV xs (some (i : Int)) none = xs.drop i := by
  unfold cutV
  rw [sIx_natV, show HT.sIx xs.length xs.length none = xs.length from HT.sIx_none _ _]
  by_cases h : i ≤ xs.length
  · rw [Nat.min_eq_left h, List.take_of_length_le (by rw [List.length_drop]; omega)]
  · rw [Nat.min_eq_right (show xs.length ≤ i by omega), List.drop_of_length_le (Nat.le_refl _), List.drop_of_length_le (show xs.length ≤ i by omega)]
    simp
theorem cut_0n (xs : List V) (j : Nat) : cutV xs none (some (j : Int)) = xs.take j := by
  unfold cutV
  rw [sIx_natV, show HT.sIx xs.length 0 none = 0 from HT.sIx_none _ _, List.drop_zero, Nat.sub_zero]
  by_cases h : j ≤ xs.length
  · rw [Nat.min_eq_left h]
  · rw [Nat.min_eq_right (show xs.length ≤ j by omega), List.take_of_length_le (Nat.le_refl _), List.take_of_length_le (show xs.length ≤ j by omega)]
/-- a negative place, counted from the end -/
theorem sIx_neg (n d k : Nat) (h0 : 1 ≤ k) (hk : k ≤ n) : HT.sIx n d (some (-(k : Int))) = n - k := by
  unfold HT.sIx
  simp only
  split <;> omega
theorem cut_0m (xs : List V) (k : Nat) (h0 : 1 ≤ k) (hk : k ≤ xs.length) : cutV xs none (some (-(k : Int))) = xs.take (xs.length - k) := by
  unfold cutV
  rw [sIx_neg _ _ _ h0 hk, show HT.sIx xs.length 0 none = 0 from HT.sIx_none _ _, List.drop_zero, Nat.sub_zero]
theorem cut_m0 (xs : List V) (k : Nat) (h0 : 1 ≤ k) (hk : k ≤ xs.length) : cutV xs (some (-(k : Int))) none = xs.drop (xs.length - k) := by
  unfold cutV
  rw [sIx_neg _ _ _ h0 hk, show HT.sIx xs.length xs.length none = xs.length from HT.sIx_none _ _, List.take_of_length_le (by rw [List.length_drop]; omega)]
theorem iV_take (xs : List Int) (n : Nat) : iV (xs.take n) = (iV xs).take n := List.map_take
theorem iV_drop (xs : List Int) (n : Nat) : iV (xs.drop n) = (iV xs).drop n := List.map_drop
theorem iV_snoc (xs : List Int) (b : Int) : iV (xs ++ [b]) = iV xs ++ [V.int b] := iV_append xs [b]
theorem iteNF {c A B : Prop} [Decidable c] (hc : ¬ c) (h : A) : if (!decide c) = true then A else B := by
  rw [decide_eq_false hc]
  exact iteT h

/-! ### the feeder -/
theorem rest_place : ¬ (("rest" : Str) = "place") := by decide +kernel
theorem place_rest : ¬ (("place" : Str) = "rest") := by decide +kernel
abbrev fdF (l : Addr) (n : Int) : List (Str × V) := [("rest", .ref l), ("place", .int n)]
theorem fd_init (l : Addr) (n : Int) : putF "place" (.int n) (putF "rest" (.ref l) []) = fdF l n := by
  show (if ("rest" : Str) = "place" then _ else (("rest" : Str), V.ref l) :: putF "place" (.int n) []) = _
  rw [if_neg rest_place]
  rfl
theorem fd_rest (l m : Addr) (n : Int) : putF "rest" (.ref m) (fdF l n) = fdF m n := by
  show (if ("rest" : Str) = "rest" then (("rest" : Str), V.ref m) :: [(("place" : Str), V.int n)] else _) = _
  rw [if_pos rfl]
theorem fd_place (l : Addr) (n k : Int) : putF "place" (.int k) (fdF l n) = fdF l k := by
  show (if ("rest" : Str) = "place" then _ else (("rest" : Str), V.ref l) :: (if ("place" : Str) = "place" then [(("place" : Str), V.int k)] else _)) = _
  rw [if_neg rest_place, if_pos rfl]
theorem fd_get_rest (l : Addr) (n : Int) : (fdF l n).lookup ("rest" : Str) = some (.ref l) := by simp [fdF, List.lookup]
theorem fd_get_place (l : Addr) (n : Int) : (fdF l n).lookup ("place" : Str) = some (.int n) := by
  have e : (("place" : Str) == ("rest" : Str)) = false := by decide +kernel
  simp [fdF, List.lookup, e]
theorem fd_no (l : Addr) (n : Int) {m : Str} (h1 : (m == ("rest" : Str)) = false) (h2 : (m == ("place" : Str)) = false) : (fdF l n).lookup m = none := by simp [fdF, List.lookup, h1, h2]
/-- a feeder at p that holds rest, in the list at l, from the place pl on -/
def FdAt (C : Addr) (H : Hp) (p l : Addr) (rest : List Int) (pl : Nat) : Prop := ∃ dx, H p = some (.ins C dx (fdF l (pl : Nat))) ∧ H l = some (.lst (iV rest))
structure ClF (K : PySem.W.Frag) (C : Addr) : Prop where
  cl : Cls K C
  nR : NoAttr K C "rest"
  nP : NoAttr K C "place"
theorem FdAt.ne {C : Addr} {H : Hp} {p l : Addr} {r : List Int} {n : Nat} (h : FdAt C H p l r n) : p ≠ l := by
  obtain ⟨dx, h1, h2⟩ := h
  exact ne_of h1 h2 (by intro z; cases z)
theorem FdAt.keep {C : Addr} {H H' : Hp} {p l : Addr} {r : List Int} {n : Nat} (h : FdAt C H p l r n) (s : Same H H') : FdAt C H' p l r n := by
  obtain ⟨dx, h1, h2⟩ := h
  exact ⟨dx, s _ _ h1, s _ _ h2⟩
/-- all but two places stay -/
def But (p l : Addr) (H H' : Hp) : Prop := ∀ b o, b ≠ p → b ≠ l → H b = some o → H' b = some o
theorem But.refl {p l : Addr} {H : Hp} : But p l H H := fun _ _ _ _ e => e
theorem But.trans {p l : Addr} {H H1 H2 : Hp} (h : But p l H H1) (k : But p l H1 H2) : But p l H H2 := fun b o n m e => k b o n m (h b o n m e)
theorem But.same {p l : Addr} {H H1 H2 : Hp} (h : But p l H H1) (k : Same H1 H2) : But p l H H2 := fun b o n m e => k b o (h b o n m e)
def spFInit (C : Addr) : Sp := fun vs H Q _ => ∃ (p dx : Addr), vs = [.ref p] ∧ H p = some (.ins C dx []) ∧ ∀ (H' : Hp) (l : Addr), (∀ b o, b ≠ p → H b = some o → H' b = some o) → H l = none → FdAt C H' p l [] 0 → Q .non H'
def spFDone (C : Addr) : Sp := fun vs H Q _ => ∃ (p l : Addr) (rest : List Int) (pl : Nat), vs = [.ref p] ∧ FdAt C H p l rest pl ∧ rest.length ≤ big ∧
  ∀ (H' : Hp) (l' r : Addr) (ws : List V), (∀ b o, b ≠ p → H b = some o → H' b = some o) → H l' = none → FdAt C H' p l' [] 0 → H r = none → r ≠ l' → H' r = some (.lst ws) → Tls (upd H r (.lst [])) H' (rests rest pl) ws → Q (.ref r) H'
def spFFeed (C : Addr) : Sp := fun vs H Q _ => ∃ (p d l : Addr) (rest xs : List Int) (pl : Nat), vs = [.ref p, .ref d] ∧ FdAt C H p l rest pl ∧ H d = some (.lst (iV xs)) ∧ d ≠ l ∧ By rest ∧ NZ rest ∧ By xs ∧ rest.length + xs.length ≤ big ∧
  ∀ (H' : Hp) (l' r : Addr) (ws : List V), But p l H H' → FdAt C H' p l' (goes rest pl xs).2.1 (goes rest pl xs).2.2 → (l' = l ∨ H l' = none) → H r = none → r ≠ l' → H' r = some (.lst ws) → Tls (upd H r (.lst [])) H' (goes rest pl xs).1 ws → Q (.ref r) H'
def spUnst : Sp := fun vs H Q _ => ∃ (d : Addr) (xs : List Int), vs = [.ref d] ∧ H d = some (.lst (iV xs)) ∧ By xs ∧ xs.length ≤ big ∧ ∀ (H' : Hp) (r : Addr) (ws : List V), Same H H' → H r = none → H' r = some (.lst ws) → Tls (upd H r (.lst [])) H' (unstr xs) ws → Q (.ref r) H'
theorem Tls.more {H0 H : Hp} {x : Addr} {o : HO} (hx : H x = none) : ∀ {ts : List Tell} {ws : List V}, Tls H0 H ts ws → Tls (upd H0 x o) H ts ws := by
  have go : ∀ (t : Tell) (v : V), TlAt H0 H t v → TlAt (upd H0 x o) H t v := by
    intro t v h
    cases t with
    | part pl bs =>
      obtain ⟨a, l, e, h1, h2, h3, h4⟩ := h
      exact ⟨a, l, e, h1, h2, by rw [upd_ne (ne_of_none h1 hx)]; exact h3, by rw [upd_ne (ne_of_none h2 hx)]; exact h4⟩
    | torn pl n =>
      obtain ⟨a, e, h1, h2⟩ := h
      exact ⟨a, e, h1, by rw [upd_ne (ne_of_none h1 hx)]; exact h2⟩
  intro ts ws h
  exact pd_mono go h
theorem upd_none {H0 : Hp} {x b : Addr} {o : HO} (h : upd H0 x o b = none) : b ≠ x ∧ H0 b = none := by
  have n : b ≠ x := fun z => by rw [z, upd_same] at h; cases h
  rw [upd_ne n] at h
  exact ⟨n, h⟩
theorem none_upd {H0 : Hp} {x b : Addr} {o : HO} (n : b ≠ x) (h : H0 b = none) : upd H0 x o b = none := by
  rw [upd_ne n]
  exact h
theorem pd_len {α β : Type} {F : α → β → Prop} : ∀ {xs : List α} {ys : List β}, Paired F xs ys → xs.length = ys.length
  | _, _, .nil => rfl
  | _, _, .cons _ t => by rw [List.length_cons, List.length_cons, pd_len t]
theorem seq0 {α : Type} {x : α} {xs : List α} (f : α → V) : seqIndex? 0 ((x :: xs).map f).length = some 0 := by
  rw [List.length_map, List.length_cons]
  unfold seqIndex?
  simp
theorem iV_at0 {xs : List Int} {i : Nat} {b : Int} (h : xs[i]? = some b) : atI (iV xs) (0 + (i : Int)) = some (.int b) := by
  rw [show (0 : Int) + (i : Int) = (i : Int) by omega]
  exact iV_atI h
theorem cutB {xs : List Int} (h : By xs) (lo hi : Option Int) : ∃ ys, cutV (iV xs) lo hi = iV ys ∧ By ys ∧ ys.length ≤ xs.length := by
  refine ⟨(xs.drop (HT.sIx (iV xs).length 0 lo)).take (HT.sIx (iV xs).length (iV xs).length hi - HT.sIx (iV xs).length 0 lo), ?_, (h.drop _).take _, ?_⟩
  · unfold cutV
    rw [iV_take, iV_drop]
  · rw [List.length_take, List.length_drop]
    omega
/-- the check of a list -/
def spCheckL : Sp := fun vs H Q _ => ∃ (a : Addr) (ns : List Int), vs = [.ref a] ∧ H a = some (.lst (iV ns)) ∧ By ns ∧ ns.length ≤ big ∧ ∀ (H' : Hp) (p : Addr), Same H H' → Nw H H' p (check ns) → Q (.ref p) H'
/-- some new list of bytes, of at most twice as many and two -/
def spRunsL : Sp := fun vs H Q _ => ∃ (a : Addr) (ns : List Int), vs = [.ref a] ∧ H a = some (.lst (iV ns)) ∧ By ns ∧ ns.length ≤ 100000 ∧ ∀ (H' : Hp) (p : Addr) (xs : List Int), Same H H' → Nw H H' p xs → By xs → xs.length ≤ 2 * ns.length + 1 → Q (.ref p) H'
/-- what the law undoes -/
def spUndoneL : Sp := fun vs H Q _ => ∃ (a : Addr) (ns : List Int), vs = [.ref a] ∧ H a = some (.lst (iV ns)) ∧ By ns ∧ NZ ns ∧ ns.length ≤ big ∧ ∀ (H' : Hp) (v : V), Same H H' → optL H H' (unrun ns) v → Q v H'
theorem ixN_at {v : Int} {n : Nat} (h0 : 0 ≤ v) (h : v.toNat < n) : ixN n v = some v.toNat := by
  unfold ixN
  rw [if_pos h0, if_pos (by omega)]
theorem By.set {xs : List Int} (h : By xs) (i : Nat) {y : Int} (h0 : 0 ≤ y) (h1 : y ≤ 255) : By (xs.set i y) := fun b hb => by
  rcases List.mem_or_eq_of_mem_set hb with q | q
  · exact h b q
  · rw [q]
    exact ⟨h0, h1⟩
theorem iV_set (xs : List Int) (i : Nat) (y : Int) : (iV xs).set i (.int y) = iV (xs.set i y) := List.map_set.symm
/-- what the law tells of a piece -/
def spToldL : Sp := fun vs H Q _ => ∃ (a : Addr) (pl : Nat) (en : Bool) (ns : List Int), vs = [.ref a, .int (pl : Nat), .bl en] ∧ H a = some (.lst (iV ns)) ∧ By ns ∧ NZ ns ∧ ns.length ≤ big ∧ ∀ (H' : Hp) (v : V), Same H H' → TlAt H H' (if en = true then tell pl ns else .torn pl ns.length) v → Q v H'
/-- what is due of a stream -/
def spDueL : Sp := fun vs H Q _ => ∃ (d : Addr) (xs : List Int), vs = [.ref d] ∧ H d = some (.lst (iV xs)) ∧ By xs ∧ xs.length ≤ big ∧ ∀ (H' : Hp) (r : Addr) (ws : List V), Same H H' → H r = none → H' r = some (.lst ws) → Tls H H' (unstr xs) ws → Q (.ref r) H'
theorem pd_at {α β : Type} {F : α → β → Prop} : ∀ {xs : List α} {ys : List β} {i : Nat} {y : β}, Paired F xs ys → ys[i]? = some y → ∃ x, xs[i]? = some x ∧ F x y
  | _, _, 0, _, .cons h _, e => by
    cases e
    exact ⟨_, rfl, h⟩
  | _, _, i + 1, _, .cons _ t, e => by
    obtain ⟨x, h1, h2⟩ := pd_at (i := i) t (by simpa using e)
    exact ⟨x, by simpa using h1, h2⟩
theorem cutI (xs : List Int) (lo hi : Option Int) : ∃ ys, cutV (iV xs) lo hi = iV ys ∧ ys.length ≤ xs.length := by
  refine ⟨(xs.drop (HT.sIx (iV xs).length 0 lo)).take (HT.sIx (iV xs).length (iV xs).length hi - HT.sIx (iV xs).length 0 lo), ?_, ?_⟩
  · unfold cutV
    rw [iV_take, iV_drop]
  · rw [List.length_take, List.length_drop]
    omega
theorem eqv_int_refl (xs : List Int) : PyData.eqv (.list (xs.map PyData.int)) (.list (xs.map PyData.int)) = true := by
  rw [eqv_ints]
  exact decide_eq_true rfl
theorem tell_refl (t : Tell) : PyData.eqv (Tell.pd t) (Tell.pd t) = true := by
  cases t with
  | part pl bs =>
    have e := eqv_int_refl bs
    simp only [Tell.pd, PyData.eqv, PyData.eqvAll] at e ⊢
    simp [e]
  | torn pl n => simp [Tell.pd, PyData.eqv, PyData.eqvAll]
theorem tells_refl (ts : List Tell) : PyData.eqv (.list (ts.map Tell.pd)) (.list (ts.map Tell.pd)) = true := by
  have go : ∀ ts : List Tell, PyData.eqvAll (ts.map Tell.pd) (ts.map Tell.pd) = true := by
    intro ts
    induction ts with
    | nil => rfl
    | cons t r ih =>
      simp only [List.map_cons, PyData.eqvAll, tell_refl t, ih, Bool.and_self]
  have e := go ts
  simpa only [PyData.eqv] using e
def spLaw (K : PySem.W.Frag) : Sp := fun vs H Q _ => ∃ (a : Addr) (ns : List Int), vs = [.ref a] ∧ SqL K H a (ns.map V.int) ∧ ns.length ≤ 63 ∧ ∀ H', Q (.bl true) H'
/-- the facts of a class at C with __init__, as the top left it -/
structure ClIn (K : PySem.W.Frag) (C : Addr) (x : Str) : Prop where
  g : PySem.W.nsIn K mainGlobals x = some (some (.ref C))
  pg : PySem.W.plainGet K C Str.empty = true
  hd : PySem.W.hasDictIn K C = true
  po : PySem.W.plainOver K C = true
  sa : PySem.W.findIn K (.ref C) "__setattr__" = some (some (.builtin "object.__setattr__"))
  mks : PySem.W.makesIn K C = true
  kc : PySem.W.keepIn K (.ref C) = true
theorem ClIn.cls {K : PySem.W.Frag} {C : Addr} {x : Str} (c : ClIn K C x) : Cls K C := ⟨c.pg, c.hd, c.po, c.sa⟩
theorem gi_mk {K : PySem.W.Frag} {h : Heap} {mg : Str → Option Value} {x : Str} {n : Int} {t : Tok} (X : K.In h) (G : h.Ns mainGlobals mg) (g : PySem.W.nsIn K mainGlobals x = some (some (.int n t))) : Gi mg x n := ⟨_, PySem.W.mg_of X G g, _, rfl⟩
/-! ### list(x), tuple(x), in comprehensions too -/
def rListOf (K : PySem.W.Frag) : List V → Hp → VK → Prop := fun xs H Q => ∃ p ys, xs = [.ref p] ∧ (SqL K H p ys ∨ SqT K H p ys) ∧ ∀ l, H l = none → Q (.ref l) (upd H l (.lst ys))
def rTupOf (K : PySem.W.Frag) : List V → Hp → VK → Prop := fun xs H Q => ∃ p ys, xs = [.ref p] ∧ ((SqL K H p ys ∧ ∀ l, H l = none → Q (.ref l) (upd H l (.tup ys))) ∨ (SqT K H p ys ∧ Q (.ref p) H))
theorem cr_listK {X : Cx} : CallR X (.type "list") (rListOf X.K) := call_list_of
theorem cr_tupK {X : Cx} : CallR X (.type "tuple") (rTupOf X.K) := call_tuple_of
end Tw
/-! Sw: how a part is written, and that it is read back. -/
namespace Sb
/-- a stretch without zeros in runs -/
def encS (last : Bool) (seg : List Int) : List Int :=
  if 254 < seg.length ∨ (seg.length = 254 ∧ last = false) then 255 :: (seg.take 254 ++ encS last (seg.drop 254)) else (((seg.length : Nat) : Int) + 1) :: seg
termination_by seg.length
decreasing_by
  rw [List.length_drop]
  omega
theorem encS_full {last : Bool} {seg : List Int} (h : 254 < seg.length ∨ (seg.length = 254 ∧ last = false)) : encS last seg = 255 :: (seg.take 254 ++ encS last (seg.drop 254)) := by
  rw [encS, if_pos h]
theorem encS_end {last : Bool} {seg : List Int} (h : ¬ (254 < seg.length ∨ (seg.length = 254 ∧ last = false))) : encS last seg = (((seg.length : Nat) : Int) + 1) :: seg := by
  rw [encS, if_neg h]
theorem encS_ne (last : Bool) (seg : List Int) : encS last seg ≠ [] := by
  rw [encS]
  split <;> simp
/-- behind the stretch seg -/
def enc (seg : List Int) : List Int → List Int
  | [] => encS true seg
  | b :: r => if b = 0 then encS false seg ++ enc [] r else enc (seg ++ [b]) r
theorem enc_ne (seg xs : List Int) : enc seg xs ≠ [] := by
  cases xs with
  | nil => exact encS_ne _ _
  | cons b r =>
    by_cases h : b = 0
    · simp only [enc, if_pos h]
      intro e
      exact encS_ne _ _ (List.append_eq_nil_iff.mp e).1
    · simp only [enc, if_neg h]
      exact enc_ne (seg ++ [b]) r
theorem enc_nz {seg : List Int} (pre : List Int) (h : NZ seg) (r : List Int) : enc pre (seg ++ 0 :: r) = encS false (pre ++ seg) ++ enc [] r := by
  induction seg generalizing pre with
  | nil => simp [enc]
  | cons b t ih =>
    have hb : b ≠ 0 := h b (List.mem_cons_self ..)
    simp only [List.cons_append, enc, if_neg hb]
    rw [ih _ fun c hc => h c (List.mem_cons_of_mem _ hc)]
    simp
theorem enc_end {seg : List Int} (pre : List Int) (h : NZ seg) : enc pre seg = encS true (pre ++ seg) := by
  induction seg generalizing pre with
  | nil => simp [enc]
  | cons b t ih =>
    have hb : b ≠ 0 := h b (List.mem_cons_self ..)
    simp only [enc, if_neg hb]
    rw [ih _ fun c hc => h c (List.mem_cons_of_mem _ hc)]
    simp
theorem encS_len (last : Bool) (seg : List Int) : (encS last seg).length ≤ seg.length + seg.length / 254 + 1 := by
  rw [encS]
  split
  · rename_i h
    have l := encS_len last (seg.drop 254)
    rw [List.length_cons, List.length_append, List.length_take]
    rw [List.length_drop] at l
    omega
  · rw [List.length_cons]
    omega
termination_by seg.length
decreasing_by
  rw [List.length_drop]
  omega
theorem enc_len (seg xs : List Int) : (enc seg xs).length ≤ 2 * (seg.length + xs.length) + 1 := by
  induction xs generalizing seg with
  | nil =>
    have := encS_len true seg
    simp only [enc]
    have e : ([] : List Int).length = 0 := rfl
    omega
  | cons b r ih =>
    by_cases h : b = 0
    · simp only [enc, if_pos h, List.length_append, List.length_cons]
      have := encS_len false seg
      have := ih []
      have e : ([] : List Int).length = 0 := rfl
      omega
    · simp only [enc, if_neg h, List.length_cons]
      have := ih (seg ++ [b])
      rw [List.length_append] at this
      have e : [b].length = 1 := rfl
      omega
/-- bytes, none of them 0 -/
def Ps (xs : List Int) : Prop := ∀ b ∈ xs, 1 ≤ b ∧ b ≤ 255
theorem Ps.by {xs : List Int} (h : Ps xs) : By xs := fun b hb => by
  have := h b hb
  omega
theorem Ps.nz {xs : List Int} (h : Ps xs) : NZ xs := fun b hb => by
  have := h b hb
  omega
theorem Ps.of {xs : List Int} (h : By xs) (k : NZ xs) : Ps xs := fun b hb => by
  have := h b hb
  have := k b hb
  omega
theorem Ps.append {xs ys : List Int} (h : Ps xs) (k : Ps ys) : Ps (xs ++ ys) := fun b hb => (List.mem_append.mp hb).elim (h b) (k b)
theorem Ps.cons {x : Int} {xs : List Int} (h0 : 1 ≤ x ∧ x ≤ 255) (k : Ps xs) : Ps (x :: xs) := fun b hb => by
  rcases List.mem_cons.mp hb with rfl | h
  · exact h0
  · exact k b h
theorem Ps.take {xs : List Int} (h : Ps xs) (n : Nat) : Ps (xs.take n) := fun b hb => h b (List.mem_of_mem_take hb)
theorem Ps.drop {xs : List Int} (h : Ps xs) (n : Nat) : Ps (xs.drop n) := fun b hb => h b (List.mem_of_mem_drop hb)
theorem Ps.nil : Ps [] := fun _ h => by cases h
theorem encS_ps {last : Bool} {seg : List Int} (h : Ps seg) : Ps (encS last seg) := by
  rw [encS]
  split
  · exact .cons ⟨by decide, by decide⟩ ((h.take _).append (encS_ps (h.drop _)))
  · rename_i k
    exact .cons ⟨by omega, by omega⟩ h
termination_by seg.length
decreasing_by
  rw [List.length_drop]
  omega
theorem enc_ps {seg xs : List Int} (h : Ps seg) (k : By xs) : Ps (enc seg xs) := by
  induction xs generalizing seg with
  | nil => exact encS_ps h
  | cons b r ih =>
    have hb := k b (List.mem_cons_self ..)
    have hr : By r := fun c hc => k c (List.mem_cons_of_mem _ hc)
    by_cases e : b = 0
    · simp only [enc, if_pos e]
      exact (encS_ps h).append (ih .nil hr)
    · simp only [enc, if_neg e]
      exact ih (h.append (.cons ⟨by omega, by omega⟩ .nil)) hr

/-! ### undone again -/
/-- as undo, and refused where a run of none stands at the end behind a full one -/
def undoA : Nat → Int → List Int → List Int → Option (List Int)
  | 0, _, acc, _ => some acc
  | _ + 1, _, acc, [] => some acc
  | f + 1, ah, acc, n :: r =>
    if r.length + 1 < n.toNat then none
    else if n = 1 ∧ ah = 255 ∧ r = [] then none
    else undoA f n (acc ++ r.take (n.toNat - 1) ++ if n < 255 ∧ n.toNat < r.length + 1 then [0] else []) ((n :: r).drop n.toNat)
theorem undoA_nil (f : Nat) (ah : Int) (acc : List Int) : undoA f ah acc [] = some acc := by cases f <;> rfl
/-- where undoA tells something, undo tells it -/
theorem undo_of {f : Nat} {ah : Int} {acc p w : List Int} (h : undoA f ah acc p = some w) : undo f acc p = some w := by
  induction f generalizing ah acc p with
  | zero => exact h
  | succ f ih =>
    cases p with
    | nil => exact h
    | cons n r =>
      simp only [undoA] at h
      simp only [undo]
      split at h
      · cases h
      · rename_i h1
        rw [if_neg h1]
        split at h
        · cases h
        · exact ih h
/-- a written run, behind it something -/
theorem undoA_run {f : Nat} {ah n : Int} {acc seg t : List Int} (hn : n = ((seg.length : Nat) : Int) + 1) (hl : seg.length ≤ 254) (hz : ¬ (n = 1 ∧ ah = 255 ∧ t = [])) :
    undoA (f + 1) ah acc (n :: (seg ++ t)) = undoA f n (acc ++ seg ++ if n < 255 ∧ t ≠ [] then [0] else []) t := by
  have en : n.toNat = seg.length + 1 := by omega
  have e1 : ¬ ((seg ++ t).length + 1 < n.toNat) := by rw [List.length_append, en]; omega
  have e2 : ¬ (n = 1 ∧ ah = 255 ∧ seg ++ t = []) := fun q => hz ⟨q.1, q.2.1, (List.append_eq_nil_iff.mp q.2.2).2⟩
  have e3 : (seg ++ t).take (n.toNat - 1) = seg := by rw [en, Nat.add_sub_cancel, List.take_left']; rfl
  have e4 : (n :: (seg ++ t)).drop n.toNat = t := by
    rw [en, List.drop_succ_cons, List.drop_left']
    rfl
  have e5 : (if n < 255 ∧ n.toNat < (seg ++ t).length + 1 then [(0 : Int)] else []) = if n < 255 ∧ t ≠ [] then [0] else [] := by
    rw [List.length_append, en]
    cases t with
    | nil => simp
    | cons x t => simp
  simp only [undoA]
  rw [if_neg e1, if_neg e2, e3, e4, e5]
theorem undoA_encS {last : Bool} {seg : List Int} {f : Nat} {ah : Int} {acc t : List Int} (ht : last = true ↔ t = []) (ha : seg = [] → last = true → ah ≠ 255) (hf : (encS last seg ++ t).length ≤ f) :
    ∃ f' ah', t.length ≤ f' ∧ (last = false → ah' ≠ 255) ∧ undoA f ah acc (encS last seg ++ t) = undoA f' ah' (acc ++ seg ++ if t = [] then [] else [0]) t := by
  by_cases h : 254 < seg.length ∨ (seg.length = 254 ∧ last = false)
  · have el : (seg.take 254).length = 254 := by rw [List.length_take]; omega
    rw [encS_full h] at hf ⊢
    cases f with
    | zero => simp at hf
    | succ f =>
      have e0 : (255 :: (seg.take 254 ++ encS last (seg.drop 254))) ++ t = 255 :: (seg.take 254 ++ (encS last (seg.drop 254) ++ t)) := by simp
      rw [e0] at hf ⊢
      rw [undoA_run (by rw [el]; rfl) (by rw [el]; exact Nat.le_refl _) (fun q => absurd q.1 (by decide))]
      rw [if_neg (fun q => absurd q.1 (by decide)), List.append_nil]
      have hf2 : (encS last (seg.drop 254) ++ t).length ≤ f := by
        rw [List.length_cons, List.length_append] at hf
        omega
      obtain ⟨f', ah', h1, h2, h3⟩ := undoA_encS (seg := seg.drop 254) (ah := 255) (acc := acc ++ seg.take 254) ht (fun e l => by
        have := congrArg List.length e
        rw [List.length_drop] at this
        rcases h with h | h
        · simp at this
          omega
        · rw [h.2] at l
          cases l) hf2
      refine ⟨f', ah', h1, h2, ?_⟩
      rw [h3, List.append_assoc acc, List.take_append_drop]
  · rw [encS_end h] at hf ⊢
    cases f with
    | zero => simp at hf
    | succ f =>
      have hl : seg.length ≤ 254 := by omega
      have e0 : ((((seg.length : Nat) : Int) + 1) :: seg) ++ t = (((seg.length : Nat) : Int) + 1) :: (seg ++ t) := rfl
      rw [e0] at hf ⊢
      have hz : ¬ (((seg.length : Nat) : Int) + 1 = 1 ∧ ah = 255 ∧ t = []) := fun q => ha (List.length_eq_zero_iff.mp (by omega)) (ht.mpr q.2.2) q.2.1
      rw [undoA_run rfl hl hz]
      have e6 : (if ((seg.length : Nat) : Int) + 1 < 255 ∧ t ≠ [] then [(0 : Int)] else []) = if t = [] then [] else [0] := by
        by_cases c : t = []
        · rw [if_pos c, if_neg fun q => q.2 c]
        · have l : last = false := by
            cases hq : last with
            | false => rfl
            | true => exact absurd (ht.mp hq) c
          have : ¬ seg.length = 254 := fun e => h (.inr ⟨e, l⟩)
          rw [if_neg c, if_pos ⟨by omega, c⟩]
      rw [e6]
      refine ⟨f, ((seg.length : Nat) : Int) + 1, ?_, fun l => ?_, rfl⟩
      · rw [List.length_cons, List.length_append] at hf
        omega
      · intro e
        exact h (.inr ⟨by omega, l⟩)
termination_by seg.length
decreasing_by
  rw [List.length_drop]
  omega
theorem undoA_enc {seg xs : List Int} {f : Nat} {ah : Int} {acc : List Int} (ha : ah ≠ 255) (hf : (enc seg xs).length ≤ f) : undoA f ah acc (enc seg xs) = some (acc ++ seg ++ xs) := by
  induction xs generalizing seg f ah acc with
  | nil =>
    simp only [enc] at hf ⊢
    have hf' : (encS true seg ++ []).length ≤ f := by rw [List.append_nil]; exact hf
    obtain ⟨f', ah', h1, h2, h3⟩ := undoA_encS (acc := acc) (t := []) (by simp) (fun _ _ => ha) hf'
    rw [List.append_nil] at h3
    rw [h3, undoA_nil]
    simp
  | cons b r ih =>
    by_cases h : b = 0
    · simp only [enc, if_pos h] at hf ⊢
      obtain ⟨f', ah', h1, h2, h3⟩ := undoA_encS (acc := acc) (t := enc [] r) (by
        constructor
        · intro q
          cases q
        · intro q
          exact absurd q (enc_ne _ _)) (fun _ q => by cases q) hf
      rw [h3, ih (h2 rfl) h1, if_neg (enc_ne _ _), h]
      simp
    · simp only [enc, if_neg h] at hf ⊢
      rw [ih ha hf]
      simp
theorem unrun_enc (xs : List Int) : unrun (enc [] xs) = some xs := by
  have h := undoA_enc (seg := []) (xs := xs) (ah := 0) (acc := []) (by decide) (Nat.le_refl _)
  have := undo_of h
  simpa [unrun] using this

/-! ### streams -/
def whole (p : List Int) : List Int := p ++ check p
def piece (p : List Int) : List Int := enc [] (whole p)
def strm (ps : List (List Int)) : List Int := (ps.map fun p => piece p ++ [0]).flatten
theorem whole_by {p : List Int} (h : By p) : By (whole p) := h.append (check_by p)
theorem whole_len (p : List Int) : (whole p).length = p.length + 4 := by
  unfold whole
  rw [List.length_append, check_length]
theorem piece_ps {p : List Int} (h : By p) : Ps (piece p) := enc_ps .nil (whole_by h)
theorem piece_ne (p : List Int) : piece p ≠ [] := enc_ne _ _
theorem piece_len (p : List Int) : (piece p).length ≤ 2 * p.length + 9 := by
  have := enc_len [] (whole p)
  rw [whole_len] at this
  have e : ([] : List Int).length = 0 := rfl
  unfold piece
  omega
theorem strm_append (ps qs : List (List Int)) : strm (ps ++ qs) = strm ps ++ strm qs := by simp [strm]
theorem strm_cons (p : List Int) (ps : List (List Int)) : strm (p :: ps) = piece p ++ 0 :: strm ps := by simp [strm]
theorem strm_one (p : List Int) : strm [p] = piece p ++ [0] := by simp [strm]
theorem strm_by {ps : List (List Int)} (h : ∀ p ∈ ps, By p) : By (strm ps) := by
  induction ps with
  | nil => exact .nil
  | cons p r ih =>
    rw [strm_cons]
    refine ((piece_ps (h p (List.mem_cons_self ..))).by).append (.cons (by decide) (by decide) (ih fun q hq => h q (List.mem_cons_of_mem _ hq)))
/-- a written part is told whole -/
theorem tell_piece (pl : Nat) (p : List Int) : tell pl (piece p) = .part pl p := by
  unfold tell piece
  rw [unrun_enc]
  have e1 : (whole p).length - 4 = p.length := by rw [whole_len]; omega
  have e2 : (whole p).take p.length = p := by unfold whole; rw [List.take_left']; rfl
  have e3 : (whole p).drop p.length = check p := by unfold whole; rw [List.drop_left']; rfl
  show (if 4 ≤ (whole p).length ∧ _ then _ else _) = _
  rw [e1, e2, e3, if_pos ⟨by rw [whole_len]; omega, rfl⟩]
theorem goes_piece (pl : Nat) {p : List Int} (h : By p) (r : List Int) : goes [] pl (piece p ++ 0 :: r) = (.part pl p :: (goes [] (pl + (piece p).length + 1) r).1, (goes [] (pl + (piece p).length + 1) r).2) := by
  rw [goes_zero (piece_ps h).nz, List.nil_append, if_neg (piece_ne p), tell_piece]
  rfl
theorem undoA_at {ns acc : List Int} {a k f : Nat} {ah : Int} (h : ns[a]? = some (k : Int)) (hk : 1 ≤ k) (hf : ns.length - a ≤ f) :
    ∃ f', ns.length - (a + k) ≤ f' ∧ undoA f ah acc (ns.drop a) = if ns.length < a + k then none else if k = 1 ∧ ah = 255 ∧ a + 1 = ns.length then none else
      undoA f' (k : Int) (acc ++ (ns.drop (a + 1)).take (k - 1) ++ if (k : Int) < 255 ∧ a + k < ns.length then [0] else []) (ns.drop (a + k)) := by
  have ha : a < ns.length := (List.getElem?_eq_some_iff.mp h).1
  have e : ns.drop a = (k : Int) :: ns.drop (a + 1) := by
    rw [List.drop_eq_getElem_cons ha]
    have := (List.getElem?_eq_some_iff.mp h).2
    rw [this]
  cases f with
  | zero => omega
  | succ f =>
    refine ⟨f, by omega, ?_⟩
    have e2 : ((k : Int) :: ns.drop (a + 1)).drop k = ns.drop (a + k) := by
      rw [← e, List.drop_drop]
    rw [e]
    simp only [undoA, Int.toNat_natCast]
    rw [e2, List.length_drop]
    by_cases c : ns.length < a + k
    · rw [if_pos c, if_pos (by omega)]
    · rw [if_neg c, if_neg (by omega)]
      have e4 : ((k : Int) = 1 ∧ ah = 255 ∧ ns.drop (a + 1) = []) ↔ (k = 1 ∧ ah = 255 ∧ a + 1 = ns.length) := by
        constructor
        · rintro ⟨h1, h2, h3⟩
          have := congrArg List.length h3
          rw [List.length_drop] at this
          simp at this
          exact ⟨by omega, h2, by omega⟩
        · rintro ⟨h1, h2, h3⟩
          exact ⟨by omega, h2, List.drop_of_length_le (by omega)⟩
      by_cases d2 : k = 1 ∧ ah = 255 ∧ a + 1 = ns.length
      · rw [if_pos d2, if_pos (e4.mpr d2)]
      · rw [if_neg d2, if_neg (fun q => d2 (e4.mp q))]
        have e3 : (if (k : Int) < 255 ∧ k < ns.length - (a + 1) + 1 then [(0 : Int)] else []) = if (k : Int) < 255 ∧ a + k < ns.length then [0] else [] := by
          by_cases d : (k : Int) < 255 ∧ a + k < ns.length
          · rw [if_pos d, if_pos ⟨d.1, by omega⟩]
          · rw [if_neg d, if_neg (fun q => d ⟨q.1, by omega⟩)]
        rw [e3]
theorem undoA_piece (p : List Int) : undoA (piece p).length 0 [] (piece p) = some (whole p) := by
  have h := undoA_enc (seg := []) (xs := whole p) (ah := 0) (acc := []) (by decide) (Nat.le_refl _)
  simpa [piece] using h
/-- cut at the zeros: the pieces that a zero ends, and what is left -/
def cutz : List Int → List Int → List (List Int) × List Int
  | pc, [] => ([], pc)
  | pc, b :: r => if b = 0 then (pc :: (cutz [] r).1, (cutz [] r).2) else cutz (pc ++ [b]) r
theorem cutz_zero {seg : List Int} (h : NZ seg) (pc r : List Int) : cutz pc (seg ++ 0 :: r) = ((pc ++ seg) :: (cutz [] r).1, (cutz [] r).2) := by
  induction seg generalizing pc with
  | nil => simp [cutz]
  | cons b t ih =>
    have hb : b ≠ 0 := h b (List.mem_cons_self ..)
    simp only [List.cons_append, cutz, if_neg hb]
    rw [ih fun c hc => h c (List.mem_cons_of_mem _ hc)]
    simp
theorem cutz_strm {ps : List (List Int)} (h : ∀ p ∈ ps, By p) : cutz [] (strm ps) = (ps.map piece, []) := by
  induction ps with
  | nil => rfl
  | cons p r ih =>
    rw [strm_cons, cutz_zero (piece_ps (h p (List.mem_cons_self ..))).nz, ih fun q hq => h q (List.mem_cons_of_mem _ hq)]
    rfl
end Sb
/-! TwR: a row walked, list or tuple; what writing streams promises. -/
namespace Tw
open PySem PySem.Spec PyProof.Rows L2 Sb
def ItR (K : PySem.W.Frag) (a : Addr) (b : Bool) : It := if b = true then Itt K a else Itl K a
def iRow (K : PySem.W.Frag) (tl : TE) : TI := fun σ H R => tl σ H fun x H1 => ∃ a xs, x = .ref a ∧ SqR K H1 a xs ∧ ∀ b, (b = true → SqT K H1 a xs) → (b = false → SqL K H1 a xs) → R (ItR K a b) H1
theorem pi_row {X : Cx} {tg l : Expr} {tl : TE} (he : PE X l tl) : PI X tg l (iRow X.K tl) := by
  refine ⟨fun pins s σ H R I h => thn (he.run pins s σ H _ I h) fun v s1 hh => ?_⟩
  obtain ⟨x, H1, I1, rx, a, xs, rfl, hr, q⟩ := hh
  cases rx
  have fp : ∀ b ∈ [s1.heap.objs.size], FpOk X pins H1 b := fun b hb => by
    have e : b = s1.heap.objs.size := by simpa using hb
    rw [e]
    exact I1.fpOk (Nat.le_refl _) (I1.hok.fresh (Nat.le_refl _))
  rcases hr with hr | hr
  · obtain ⟨its, _, pl, _⟩ := I1.list hr
    exact wpAny_pyIter_list pl.isList ⟨s1.heap.objs.size, [s1.heap.objs.size], _, Itl X.K a, H1, rfl, I1.kept (t' := s1.toks) fun b o e => Heap.get?_push_of_some _ e, turn_list a _, ⟨_, Heap.get?_push_size _ rfl, rfl, rfl⟩, fp, q false (fun z => nomatch z) fun _ => hr⟩
  · obtain ⟨its, _, pl, _⟩ := I1.tuple hr
    exact wpAny_pyIter_tuple (show s1.heap.IsTuple a its.toArray from pl) ⟨s1.heap.objs.size, [s1.heap.objs.size], _, Itt X.K a, H1, rfl, I1.kept (t' := s1.toks) fun b o e => Heap.get?_push_of_some _ e, turn_tuple a _, ⟨_, Heap.get?_push_size _ rfl, rfl, rfl⟩, fp, q true (fun _ => hr) fun z => nomatch z⟩
theorem walk_row {K : PySem.W.Frag} {a : Addr} {xs : List V} {b : Bool} : Walk (ItR K a b) xs.length (fun H => if b = true then SqT K H a xs else SqL K H a xs) (YAt xs) := by
  cases b with
  | true => exact walk_tup
  | false => exact walk_list
theorem SqR.star {K : PySem.W.Frag} {H : Hp} {a : Addr} {xs : List V} (h : Rw H a xs) : SqT K H a xs ∨ SqL K H a xs := h.elim (fun h => .inr (SqL.of h)) (fun h => .inl (SqT.of h))
/-- the runs of a whole -/
def spWz : Sp := fun vs H Q _ => ∃ (a : Addr) (xs : List Int), vs = [.ref a] ∧ H a = some (.lst (iV xs)) ∧ By xs ∧ xs.length ≤ 200000 ∧ ∀ (H' : Hp) (p : Addr), Same H H' → Nw H H' p (enc [] xs) → Q (.ref p) H'
/-- rows of bytes -/
def PartAt (H : Hp) (p : List Int) (v : V) : Prop := ∃ r, v = .ref r ∧ Rw H r (iV p) ∧ By p ∧ p.length ≤ 100000
theorem PartAt.same {H H' : Hp} {p : List Int} {v : V} (h : PartAt H p v) (s : Same H H') : PartAt H' p v := by
  obtain ⟨r, e, h1, h2, h3⟩ := h
  exact ⟨r, e, h1.same s, h2, h3⟩
def spStrm : Sp := fun vs H Q _ => ∃ (a : Addr) (ps : List (List Int)) (ws : List V), vs = [.ref a] ∧ Rw H a ws ∧ Paired (PartAt H) ps ws ∧ (strm ps).length ≤ big ∧ ∀ (H' : Hp) (r : Addr), Same H H' → Nw H H' r (strm ps) → Q (.ref r) H'
theorem strm_take_len (ps : List (List Int)) (k : Nat) : (strm (ps.take k)).length ≤ (strm ps).length := by
  have e := congrArg List.length (strm_append (ps.take k) (ps.drop k))
  rw [List.take_append_drop, List.length_append] at e
  omega
theorem SqT.at_ {K : PySem.W.Frag} {H H' : Hp} {a : Addr} {xs : List V} (k : ∀ o, H a = some o → H' a = some o) (h : SqT K H a xs) : SqT K H' a xs := by
  rcases h with (h | ⟨o, h⟩) | h
  · exact .inl (.inl (k _ h))
  · exact .inl (.inr ⟨o, k _ h⟩)
  · exact .inr h
theorem SqL.at_ {K : PySem.W.Frag} {H H' : Hp} {a : Addr} {xs : List V} (k : ∀ o, H a = some o → H' a = some o) (h : SqL K H a xs) : SqL K H' a xs := by
  rcases h with (h | ⟨o, h⟩) | h
  · exact .inl (.inl (k _ h))
  · exact .inl (.inr ⟨o, k _ h⟩)
  · exact .inr h
/-- what stands at a row's place stays while the row stays -/
theorem Rw.keeps {H H0 H' : Hp} {a : Addr} {xs : List V} (h : Rw H a xs) (s : Same H H0) (s' : Same H H') : ∀ o, H0 a = some o → H' a = some o := fun o e => by
  rcases h with h | h
  · rw [s _ _ h] at e
    rw [← e]
    exact s' _ _ h
  · rw [s _ _ h] at e
    rw [← e]
    exact s' _ _ h
end Tw
/-! TwX: a list grows by a row; slices of rows. -/
namespace Tw
open PySem PySem.Spec PyProof.Rows L2 Sb
open AutoSeq1 (wpAny_loadPart')
section
theorem ext_tup (l : Addr) (ia : Array Value) (n : Nat) (b : Addr) (ib : Array Value) (m : Nat) (dd : Option Addr) (ss : Array (Option Value)) (h0 : ¬(!ia.isEmpty && Builtin.List.listTooLong (ia.size + ib.size)) = true) (h1 : ia.size ≤ sizeLine) (h2 : ia.size + ib.size ≤ sizeLine + 1) :
    Meets (Builtin.«list.extend» ⟨[.ref l, .ref b], []⟩) (fun _ R z => z.heap.get? l = some { cls := .type "list", dict := none, data := .seq ia n, slots := #[] } ∧ z.heap.get? b = some { cls := .type "tuple", dict := dd, data := .seq ib m, slots := ss } ∧
      R (.ok (.ret Value.none)) { z with heap := z.heap.update l (Obj.mapSeq fun x => x ++ ib), toks := z.toks }) := by
  refine .of_wp fun pg wo Ar R z hz => ?_
  obtain ⟨hp, g, d, tk, os⟩ := z
  obtain ⟨hl, hb, h⟩ := hz
  have k1 := AutoSeq1.idx_int
  have k2 := AutoSeq1.sub_tuple_tuple
  have k3 := AutoSeq1.sub_list_list
  have k4 := AutoSeq1.sub_tuple_list
  have k5 := AutoSeq1.sub_list_tuple
  have k6 : (ia ++ ib).size ≤ sizeLine + 1 := by
    rw [Array.size_append]
    exact h2
  wp_walk using (PySem.wpAny_updateSeq hl rfl (hz := h1) (_hz' := k6)), wpAny_loadPart' hl, wpAny_loadPart' hb
  exact ⟨_, rfl, h⟩
end
def rExtR : V → List V → Hp → VK → Prop := fun x vs H Q => ∃ l b xs zs, x = .ref l ∧ vs = [.ref b] ∧ H l = some (.lst xs) ∧ Rw H b zs ∧ xs.length + zs.length ≤ sizeLine ∧ Q .non (upd H l (.lst (xs ++ zs)))
theorem mt_extR {X : Cx} : MtM X "list.extend" rExtR := by
  rintro pins s σ H x vs v us Q I rx rv ⟨l, b, xs, zs, rfl, rfl, hH, hB, hz, q⟩
  rcases hB with hB | hB
  · exact mt_extend pins s σ H (.ref l) [.ref b] v us Q I rx rv ⟨l, b, xs, zs, rfl, rfl, hH, hB, hz, q⟩
  · cases rx
    obtain ⟨u, rfl, ru⟩ := rv.one
    cases ru
    obtain ⟨z, its, n, r, hl, e⟩ := I.lstM hH
    obtain ⟨its2, r2, ⟨⟨c2, d2, dt2, sl2⟩, e2, hc2, m, hd2⟩, _⟩ := I.tuple (SqT.of (K := X.K) hB)
    replace hc2 : c2 = .type "tuple" := hc2
    replace hd2 : dt2 = .seq its2.toArray m := hd2
    subst hc2 hd2
    have l2 := r2.length
    have sz : its.toArray.size + its2.toArray.size ≤ sizeLine := by
      rw [List.size_toArray, List.size_toArray]
      omega
    have lg : ¬ (!its.toArray.isEmpty && Builtin.List.listTooLong (its.toArray.size + its2.toArray.size)) = true := by
      rw [notLongL sz, Bool.and_false]
      exact Bool.false_ne_true
    refine call_meets F.slot_list_extend ⟨_, e, rfl⟩ F.entry_list_extend (F.args_list_extend_2 _ _) (ext_tup l its.toArray n b its2.toArray m d2 sl2 lg (by rw [List.size_toArray]; omega) (by omega)) ⟨e, e2, .non, _, I.lset (its' := its ++ its2) hH e (by simp) (r.append r2) ?_, rfl, q⟩
    rw [List.length_append]
    omega
/-- a slice of a row is a row -/
def rSlR : V → Option Int → Option Int → Hp → VK → Prop := fun x lo hi H Q => ∃ a xs, x = .ref a ∧ Rw H a xs ∧ ∀ (H' : Hp) (t : Addr), Same H H' → Rw H' t (cutV xs lo hi) → Q (.ref t) H'
theorem sl_row {X : Cx} : SlR X rSlR := by
  intro pins s σ H x v vl vu lo hi sl Q I rx hs pl pu h
  refine SlR.or (sl_list (X := X)) (sl_tupA (X := X)) pins s σ H x v vl vu lo hi sl Q I rx hs pl pu ?_
  obtain ⟨a, xs, rfl, hr, q⟩ := h
  rcases hr with hr | hr
  · exact .inl ⟨a, xs, rfl, SqL.of hr, fun p hp => q _ p (same_upd hp) (.inl upd_same)⟩
  · refine .inr ⟨a, xs, rfl, SqT.of hr, fun e => q H a (Same.refl _) ?_, fun _ p hp => q _ p (same_upd hp) (.inr upd_same)⟩
    have c : cutV xs lo hi = xs := by
      unfold cutV
      rw [e.1, e.2, List.drop_zero, Nat.sub_zero, List.take_length]
    rw [c]
    exact .inr hr
def spFFeedR (C : Addr) : Sp := fun vs H Q _ => ∃ (p d l : Addr) (rest xs : List Int) (pl : Nat), vs = [.ref p, .ref d] ∧ FdAt C H p l rest pl ∧ Rw H d (iV xs) ∧ d ≠ l ∧ By rest ∧ NZ rest ∧ By xs ∧ rest.length + xs.length ≤ big ∧
  ∀ (H' : Hp) (l' r : Addr) (ws : List V), But p l H H' → FdAt C H' p l' (goes rest pl xs).2.1 (goes rest pl xs).2.2 → (l' = l ∨ H l' = none) → H r = none → r ≠ l' → H' r = some (.lst ws) → Tls (upd (upd H r (.lst [])) l' (.lst [])) H' (goes rest pl xs).1 ws → Q (.ref r) H'
def spUnstR : Sp := fun vs H Q _ => ∃ (d : Addr) (xs : List Int), vs = [.ref d] ∧ Rw H d (iV xs) ∧ By xs ∧ xs.length ≤ big ∧ ∀ (H' : Hp) (r : Addr) (ws : List V), Same H H' → H r = none → H' r = some (.lst ws) → Tls (upd H r (.lst [])) H' (unstr xs) ws → Q (.ref r) H'
theorem Rw.ne {H : Hp} {a p : Addr} {xs : List V} {o : HO} (h : Rw H a xs) (e : H p = some o) (n1 : ∀ ys, o ≠ .lst ys) (n2 : ∀ ys, o ≠ .tup ys) : a ≠ p := fun w => by
  rcases h with h | h
  · rw [w, e] at h
    exact n1 _ (Option.some.inj h)
  · rw [w, e] at h
    exact n2 _ (Option.some.inj h)
theorem Rw.at_ {H H' : Hp} {a : Addr} {xs : List V} (h : Rw H a xs) (k : ∀ o, H a = some o → H' a = some o) : Rw H' a xs := h.elim (fun h => .inl (k _ h)) (fun h => .inr (k _ h))
theorem Rw.some {H : Hp} {a : Addr} {xs : List V} (h : Rw H a xs) (e : H a = none) : False := by
  rcases h with h | h
  · rw [h] at e
    cases e
  · rw [h] at e
    cases e
end Tw
/-! TwE: what is no bytes; the error that is raised of it. -/
namespace Tw
open PySem PySem.Spec PyProof.Rows L2 Sb
/-- a thing out of a row: is it a byte? -/
inductive ElT (H : Hp) : V → Bool → Prop
  | int (n : Int) : ElT H (.int n) (decide (0 ≤ n) && decide (n ≤ 255))
  | bl (c : Bool) : ElT H (.bl c) false
  | non : ElT H .non false
  | str (s : Str) : ElT H (.str s) false
  | row {a : Addr} {xs : List V} : Rw H a xs → ElT H (.ref a) false
theorem ElT.same {H H' : Hp} {x : V} {b : Bool} (h : ElT H x b) (s : Same H H') : ElT H' x b := by
  cases h with
  | int n => exact .int n
  | bl c => exact .bl c
  | non => exact .non
  | str z => exact .str z
  | row h => exact .row (h.same s)
/-- a thing: is it a row of bytes? -/
inductive ByT (H : Hp) : V → Bool → Prop
  | row {a : Addr} {xs : List V} {bs : List Bool} : Rw H a xs → Paired (ElT H) xs bs → xs.length ≤ big → ByT H (.ref a) (bs.all id)
  | int (n : Int) : ByT H (.int n) false
  | bl (c : Bool) : ByT H (.bl c) false
  | non : ByT H .non false
  | str (s : Str) : ByT H (.str s) false
theorem ByT.same {H H' : Hp} {x : V} {b : Bool} (h : ByT H x b) (s : Same H H') : ByT H' x b := by
  cases h with
  | row h p l => exact .row (h.same s) (pd_mono (fun _ _ q => q.same s) p) l
  | int n => exact .int n
  | bl c => exact .bl c
  | non => exact .non
  | str z => exact .str z
def spBytesG : Sp := fun vs H Q _ => ∃ (v : V) (b : Bool), vs = [v] ∧ ByT H v b ∧ ∀ H', Same H H' → Q (.bl b) H'
/-- the error of the class at C, told why -/
def spRefuseX (C : Addr) : Sp := fun vs H Q E => ∃ (v : V) (b : Bool), vs = [v] ∧ ByT H v b ∧ (b = true → ∀ H', Same H H' → Q .non H') ∧
  (b = false → ∀ (H' : Hp) (d : Addr), Same H H' → H d = none → H' d = some (.xd [(("why" : Str), .str "wire")]) → E (.ref C) (some d) H')
def spNbInit (C : Addr) : Sp := fun vs H Q _ => ∃ (a : Addr) (y : V), vs = [.ref a, y] ∧ H a = some (exo a C none) ∧ ∀ dx, H dx = none → dx ≠ a → Q .non (upd (upd H dx (exd dx [(("why" : Str), y)])) a (exo a C (some dx)))
/-- what the top says of the error's class -/
structure NbC (K : PySem.W.Frag) (mg : Str → Option Value) (x : Str) (C fI : Addr) : Prop where
  oex : OexC K C
  g : mg x = some (.ref C)
  iC : PySem.W.findIn K (.ref C) "__init__" = some (some (.ref fI))
  tI : PySem.W.typeIn K (.ref fI) = some (.type "function")
  no : PySem.W.findIn K (.ref C) "why" = some none
end Tw
/-! TwF: calls that may raise, inside of a try or out of a def; isinstance of a caught error that has fields. -/
namespace Tw
open PySem PySem.Spec PyProof.Rows L2 Sb
section
variable {X : Cx} {CX : CXT} {k j : Nat} {f C : Addr} {fd : FuncData} {ps : List Str} {sp : Sp} {E : L2.St → XK} {x m : Str} {p pos apos : Pos} {e o : Expr} {es : List Expr} {to : TE} {t : TA}
/-- the reading of o.m(..), what it lets out told at the slots -/
def tMethA (C : Addr) (m : Str) (sp : Sp) (E : L2.St → XK) (to : TE) (t : TA) : TE := fun σ H Q => to σ H fun x H1 => ∃ a dx fs, x = .ref a ∧ H1 a = some (.ins C dx fs) ∧ fs.lookup m = none ∧ t σ H1 fun vs H2 => sp (x :: vs) H2 Q (E σ)
theorem pe_methA {pl : Sem Bool} (ho : PE X o to) (c : Cls X.K C) (hm : Meth X.K C m f) (F : FnOk X.prog X.w X.K X.mg X.base CX k f fd ps sp) (hr : Room k X.A) (hb : Binds X.K fd ps []) (hx : ∀ σ, PassesAt CX X σ (E σ)) (ha : PA X (e :: es) t)
    (hst : starEach (e :: es) X.env = (false, eval e X.env) :: starEach es X.env := by rfl) (hpl : (backTo pos (starEach es X.env)).any (·.1) = false := by rfl)
    (ht : eval (.Call (.Attribute o m apos) (e :: es) [] pos) X.env = (do
      let ov ← eval o X.env
      standAt apos.atName
      let (f, first) ← holding [ov] (getMethod ov m pl)
      callWith pos f first (backTo pos (starEach (e :: es) X.env)) (backToKw pos (keywordEach [] X.env))) := by rfl) :
    PE X (.Call (.Attribute o m apos) (e :: es) [] pos) (tMethA C m sp E to t) := ⟨fun pins s σ H Q I h =>
  PySem.W.methodCall_KW (pl := pl) (thn (ho.run pins s σ H _ I h) fun u s1 z => by
    obtain ⟨y, H1, I1, ry, a, dx, fs, rfl, ea, l, q⟩ := z
    obtain rfl : u = Value.ref a := ry
    exact getmeth_ok I1 ea c hm l (PySem.W.callWith_K (first := [.ref a]) (h₀ := X.base) I.ok.mod.kin hm.kp (thn (ha.run pos pins s1 σ H1 _ I1 q) fun us s2 z2 => by
      obtain ⟨vs, H2, I2, r, q2⟩ := z2
      exact ⟨I2.kIn, run_fnS (us := .ref a :: us) (vs := .ref a :: vs) F hr hb (hx σ) I2 (.cons rfl r) q2⟩) hst hpl)) ht⟩
/-- a def of the module that may raise -/
structure CalX (P : Program) (w : World) (K : PySem.W.Frag) (mg : Str → Option Value) (base : Heap) (k : Nat) (x : Str) (ps : List Str) (sp : Sp) : Prop where
  ex : ∃ (f : Addr) (fd : FuncData), FnOk P w K mg base (L2.CX P w) k f fd ps sp ∧ mg x = some (.ref f) ∧ PySem.W.keepIn K (.ref f) = true ∧ Binds K fd ps []
theorem pe_calX {W : WX} (c : CalX X.prog X.w X.K X.mg X.base k x ps sp) (hr : Room j X.A) (hk : k ≤ j) (hg : Gl X x) (tk : Takes X W) (ha : PA X (e :: es) t)
    (hdb : (x == ("__debug__" : Str)) = false := by decide) (he : starEach (e :: es) X.env = (false, eval e X.env) :: starEach es X.env := by rfl) (hpl : (backTo pos (starEach es X.env)).any (·.1) = false := by rfl) :
    PE X (.Call (.Name x p) (e :: es) [] pos) (tCallS sp (WE W) t) := by
  obtain ⟨f, fd, F, hm, kp, b⟩ := c.ex
  exact pe_callS F (hr.mono hk) hg hm kp b (fun σ => passAt tk σ) ha hdb he hpl
theorem calX_mk {P : Program} {w : World} {K : PySem.W.Frag} {mg : Str → Option Value} {base h : Heap} {st : Stmt} (D : DefIn K x st) (X : K.In h) (G : h.Ns mainGlobals mg)
    (b : ∀ (kV doc pm : Value) (an : Option Addr) (cdv ct : Value) (us : List Value), us.length = ps.length → bindArgs (PySem.W.fnOf x x (defArgs st) (defBody st) (defScope st) .none kV doc pm an cdv ct) ⟨us, []⟩ = pure (ps.zip us))
    (ok : ∀ (f : Addr) (fd : FuncData), Fun K x x st f fd → FnOk P w K mg base (L2.CX P w) k f fd ps sp) : CalX P w K mg base k x ps sp := by
  obtain ⟨f, oc, od, an, osl, kV, dc, pm, cd, ct, a, l, c, kp⟩ := D
  have F := fun_mk (st := st) l c kp
  exact ⟨f, _, ok f _ F, PySem.W.mg_of X G a, kp, F.binds b⟩
/-- a method that may raise -/
structure MCalX (P : Program) (w : World) (K : PySem.W.Frag) (mg : Str → Option Value) (base : Heap) (C : Addr) (k : Nat) (m : Str) (ps : List Str) (sp : Sp) : Prop where
  ex : ∃ (f : Addr) (fd : FuncData), Meth K C m f ∧ FnOk P w K mg base (L2.CX P w) k f fd ps sp ∧ Binds K fd ps []
theorem mcalX_mk {P : Program} {w : World} {K : PySem.W.Frag} {mg : Str → Option Value} {base : Heap} {q : Str} {st : Stmt} (D : MethIn K C m q st) (b : ∀ (kV doc pm : Value) (an : Option Addr) (cdv ct : Value) (us : List Value), us.length = ps.length → bindArgs (PySem.W.fnOf m q (defArgs st) (defBody st) (defScope st) .none kV doc pm an cdv ct) ⟨us, []⟩ = pure (ps.zip us))
    (ok : ∀ (f : Addr) (fd : FuncData), Fun K m q st f fd → FnOk P w K mg base (L2.CX P w) k f fd ps sp) : MCalX P w K mg base C k m ps sp := by
  obtain ⟨f, oc, od, an, osl, kV, dc, pm, cd, ct, a, i, l, c, kp⟩ := D
  have F := fun_mk (st := st) l c kp
  exact ⟨f, _, ⟨a, i, kp⟩, ok f _ F, F.binds b⟩
theorem pe_mcalX {W : WX} {pl : Sem Bool} (M : MCalX X.prog X.w X.K X.mg X.base C k m ps sp) (c : Cls X.K C) (hr : Room j X.A) (hk : k ≤ j) (tk : Takes X W) (ho : PE X o to) (ha : PA X (e :: es) t)
    (hst : starEach (e :: es) X.env = (false, eval e X.env) :: starEach es X.env := by rfl) (hpl : (backTo pos (starEach es X.env)).any (·.1) = false := by rfl)
    (ht : eval (.Call (.Attribute o m apos) (e :: es) [] pos) X.env = (do
      let ov ← eval o X.env
      standAt apos.atName
      let (f, first) ← holding [ov] (getMethod ov m pl)
      callWith pos f first (backTo pos (starEach (e :: es) X.env)) (backToKw pos (keywordEach [] X.env))) := by rfl) : PE X (.Call (.Attribute o m apos) (e :: es) [] pos) (tMethA C m sp (WE W) to t) := by
  obtain ⟨f, fd, hm, F, b⟩ := M.ex
  exact pe_methA ho c hm F (hr.mono hk) b (fun σ => passAt tk σ) ha hst hpl ht
end
/-- isinstance(e, c), e the error that the suite holds: of the class at D, its fields in a dict -/
def rIsX (K : PySem.W.Frag) (D a : Addr) (cls : Value) (d : Option Addr) : List V → Hp → VK → Prop := fun xs H Q => ∃ (c : V) (cv : Value) (b : Bool) (dd : Addr) (fs : List (Str × V)), xs = [.ref a, c] ∧ cls = .ref D ∧ d = some dd ∧ H dd = some (.xd fs) ∧ (∀ u, RelV c u → u = cv) ∧ PySem.W.kitOne K (.ref D) cv = some b ∧ Q (.bl b) H
theorem call_isX {X : Cx} {a D : Addr} {oe : Obj} {cls : Value} {d : Option Addr} {pn : List (Addr × Obj)} (C : ExcC X.K D) (hz : Zc cls d oe) (hf : ∃ vs, oe.data = .fields vs) : CallR (X.suite a ((a, oe) :: pn)) (.builtin "isinstance") (rIsX X.K D a cls d) := by
  rintro pins s σ H xs us Q I r ⟨c, cv, b, dd, fs, rfl, rfl, rfl, hdd, hcv, e, q⟩
  obtain ⟨u1, u2, rfl, rx, rt⟩ : ∃ u1 u2, us = [u1, u2] ∧ RelV (.ref a) u1 ∧ RelV c u2 := by
    cases r with
    | cons rx rr =>
      cases rr with
      | cons rt rr =>
        cases rr
        exact ⟨_, _, rfl, rx, rt⟩
  cases rx
  obtain rfl := hcv _ rt
  have at_ : s.heap.get? a = some oe := (I.pin (a, oe) (List.mem_append_left _ List.mem_cons_self)).1
  have hx : ObjOk X.prog X.w H s.heap dd (.xd fs) := I.hok dd _ hdd
  obtain ⟨mA, hns, _⟩ := hx
  obtain ⟨od, ho, _⟩ := lookIn_ns hns
  obtain ⟨vs, hv⟩ := hf
  have J : PySem.W.InstAt s.heap a oe D (some od) := ⟨at_, hz.1, by unfold PySem.W.notCls; rw [hv] <;> rfl, by rw [hz.2]; exact ho⟩
  have hcl : (PySem.W.clsIn X.K D).isSome = true := by
    obtain ⟨cd, hc, _⟩ := PySem.W.any_some C.hd
    rw [hc]
    rfl
  exact PySem.W.kia_one (PySem.W.kitx_exc hcl C.hg C.hk C.hs C.ha C.hn C.ht C.hm) I.kIn J e (fun z => nomatch z) fun tk => ⟨.bl b, H, I.kept (t' := tk) fun _ _ z => z, rfl, q⟩
end Tw
namespace Tw
open PySem PySem.Spec PyProof.Rows L2 Sb
theorem oexC_mk {K : PySem.W.Frag} {C : Addr} {nm q : Str} {N : Addr} {bs bm : List Value} {sn : List Str} {sub : List Value} {ab : Bool} {col : Option Bool} {dd : Option Addr} {k0 k1 k2 k3 k5 : Option Value}
    (ox : K.lookup C = some (excClassObj nm q C N bs bm true sn sub ab col dd k0 k1 k2 k3 k5 "ValueError.__new__")) (orf : PySem.HandSPX.refsVE bm = true) (sa : PySem.W.findIn K (.ref C) "__setattr__" = some (some (.builtin "object.__setattr__"))) (ex : PySem.W.subIn K (.ref C) (.type "BaseException") = some true)
    (ty : PySem.W.typeIn K (.ref C) = some (.type "type")) (kC : PySem.W.keepIn K (.ref C) = true) : OexC K C := ⟨⟨nm, q, N, bs, bm, sn, sub, ab, col, dd, k0, k1, k2, k3, k5, ox, orf⟩, sa, ex, ty, kC⟩
end Tw
namespace Tw
open PySem PySem.Spec PyProof.Rows L2 Sb
theorem kit_ref {K : PySem.W.Frag} {B S : Addr} (h2 : PySem.W.isClsIn K S = true) (h3 : PySem.W.typeIn K (.ref S) = some (.type "type")) (h4 : PySem.W.subIn K (.ref B) (.ref S) = some true) : PySem.W.kitOne K (.ref B) (.ref S) = some true := by
  unfold PySem.W.kitOne
  split
  · rfl
  · have h2' : (PySem.W.clsIn K S).isSome = true := h2
    show (if ((PySem.W.clsIn K S).isSome && PySem.W.typeIn K (.ref S) == some (.type "type")) = true then PySem.W.subIn K (.ref B) (.ref S) else none) = some true
    rw [if_pos (by rw [h2', h3] <;> rfl)]
    exact h4
theorem kit_bltn {K : PySem.W.Frag} {B : Addr} {t : String} (h : PySem.W.kitMeta t = true) (h4 : PySem.W.subIn K (.ref B) (.type t) = some true) : PySem.W.kitOne K (.ref B) (.type t) = some true := by
  unfold PySem.W.kitOne
  split
  · rfl
  · show (if PySem.W.kitMeta t = true then PySem.W.subIn K (.ref B) (.type t) else none) = some true
    rw [if_pos h]
    exact h4
theorem exm_of {K : PySem.W.Frag} {B S : Addr} (h1 : PySem.W.subIn K (.ref S) (.type "BaseException") = some true) (h2 : PySem.W.isClsIn K S = true) (h3 : PySem.W.typeIn K (.ref S) = some (.type "type")) (h4 : PySem.W.subIn K (.ref B) (.ref S) = some true) : PySem.W.exmOne K (.ref B) (.ref S) = some true := by
  have h2' : (PySem.W.clsIn K S).isSome = true := h2
  show (if (PySem.W.subIn K (.ref S) (.type "BaseException") == some true) = true then (if ((PySem.W.clsIn K S).isSome && PySem.W.typeIn K (.ref S) == some (.type "type")) = true then PySem.W.subIn K (.ref B) (.ref S) else none) else none) = some true
  rw [if_pos (by rw [h1] <;> rfl), if_pos (by rw [h2', h3] <;> rfl)]
  exact h4
end Tw
set_option maxHeartbeats 2000000
/-! TwLam: a lambda of one parameter handed to a def, which calls it. -/
namespace Tw
open PySem PySem.Spec PyProof.Rows L2 Sb LamX
/-! ### what a function made in X captures -/
/-- each captured name is a cell of the maker's -/
def Caps (outer names : List (Str × NameKind)) : Prop := ∀ y ∈ names, y.2 = .free → outer.lookup y.1 = some .cell ∨ outer.lookup y.1 = some .free
theorem Caps.cells {X : Cx} {names : List (Str × NameKind)} (C : Caps X.env.scope.names names) (ok : X.Ok) (y : Str × NameKind) (hy : y ∈ names) (e : y.2 = .free) : ∃ c, X.env.cells.lookup y.1 = some c :=
  ok.has y.1 (C y hy e)
theorem Caps.sub {X : Cx} {names : List (Str × NameKind)} (C : Caps X.env.scope.names names) (ok : X.Ok) {y : Str} {c : Addr} (e : (cloFrom X.env.cells names []).lookup y = some c) : X.env.cells.lookup y = some c := by
  cases cloFrom_mem (PySem.mem_of_lookup e) with
  | inl m => cases m
  | inr m =>
    obtain ⟨d, k⟩ := C.cells ok (y, .free) m.1 rfl
    have k : X.env.cells.lookup y = some d := k
    have : c = d := by simpa [k] using m.2
    exact this ▸ k
theorem Caps.got {X : Cx} {names : List (Str × NameKind)} (C : Caps X.env.scope.names names) (ok : X.Ok) {y : Str} (e : names.lookup y = some .free) : ∃ c, (cloFrom X.env.cells names []).lookup y = some c ∧ X.env.cells.lookup y = some c :=
  let ⟨c, q⟩ := mem_lookup (cloFrom_has (cells := X.env.cells) (acc := []) (PySem.mem_of_lookup e))
  ⟨c, q, C.sub ok q⟩
/-- what the maker knows of a captured name stands in its cell -/
theorem Caps.val {X : Cx} {names : List (Str × NameKind)} {pins : List (Addr × Obj)} {σ : L2.St} {H : Hp} {s : Shared} (C : Caps X.env.scope.names names) (I : Inv X pins σ H s) {i : Nat} {y : Str} {v : V} (e : names.lookup y = some .free) (hN : X.N[i]? = some y) (hs : σ[i]? = some (some v)) :
    ∃ u c, RelV v u ∧ (cloFrom X.env.cells names []).lookup y = some c ∧ H c = none ∧ s.heap.IsCell c (some u) := by
  have no : X.env.kindOf y ≠ some .local := fun z => by
    have z : X.env.scope.names.lookup y = some .local := z
    cases C _ (PySem.mem_of_lookup e) rfl with
    | inl k => exact absurd (z.symm.trans k) (by simp)
    | inr k => exact absurd (z.symm.trans k) (by simp)
  obtain ⟨c, k1, k2⟩ := C.got I.ok e
  obtain ⟨m, _, known⟩ := I.loc
  obtain ⟨u, r, at_⟩ := known i y v hN hs ((C _ (PySem.mem_of_lookup e) rfl).elim (.inr ∘ .inl) (.inr ∘ .inr))
  cases at_ with
  | inl l => exact absurd l.1 no
  | inr l =>
    obtain ⟨_, d, k3, k4⟩ := l
    cases k2.symm.trans k3
    exact ⟨u, c, r, k1, I.freeC y c k2, k4⟩
/-- one parameter p, no other name of its own -/
structure LamS1 (sc scope : Scope) (p : Str) : Prop where
  fn : scope.kind = .function ∧ scope.isCoroutine = false ∧ scope.isGenerator = false
  own : ∀ y ∈ scope.names, y.2 ≠ .cell ∧ (y.2 = .local → y.1 = p)
  par : scope.names.lookup p = some .local
  caps : Caps sc.names scope.names
/-- the context of the lambda's body: the maker's names, and behind them the parameter -/
def lamCx1 (X : Cx) (A : Around) (outer : List Env) (s : Shared) (H : Hp) (E : XK) (scope : Scope) (f c' : Addr) (p : Str) : Cx :=
  { lamCx X A outer s H E scope f c' with N := X.N ++ [p] }
section
variable {X : Cx} {pins : List (Addr × Obj)} {σ : L2.St} {H HZ : Hp} {s s1 : Shared}
/-- a cell that stood there holds the same behind what a call may touch -/
theorem cell_stays {h₁ : Heap} {fs : List Addr} {c : Addr} {v : Option Value} (un : Un fs [] H HZ s.heap s1.heap) (kp : ∀ b o, s1.heap.get? b = some o → h₁.get? b = some o) (n : H c = none) (z : s.heap.IsCell c v) : HZ c = none ∧ h₁.IsCell c v :=
  let ⟨o, ho, hd⟩ := z
  let ⟨_, q⟩ := un.any ho n List.not_mem_nil
  ⟨un.free c o ho n List.not_mem_nil, _, kp _ _ q, hd⟩
theorem lam_ok1 {A : Around} {outer : List Env} {E : XK} {scope : Scope} {f c' : Addr} {p : Str} (I : Inv X pins σ H s) (L : LamS1 X.env.scope scope p) (e0 : Env0 X.prog X.w X.K X.mg X.base A outer s1 HZ) (hd : A.handled = none) : (lamCx1 X A outer s1 HZ E scope f c' p).Ok where
  mod := e0.mod
  kind := L.fn.1
  glob := rfl
  blt := rfl
  above := Nat.le_refl _
  inj := fun y z c h1 h2 => I.ok.inj y z c (L.caps.sub I.ok h1) (L.caps.sub I.ok h2)
  has := fun y hy => by
    cases hy with
    | inl k => exact absurd rfl (L.own (y, .cell) (PySem.mem_of_lookup k)).1
    | inr k => exact let ⟨c, q, _⟩ := L.caps.got I.ok k; ⟨c, q⟩
  cab := fun _ _ z => absurd z Bool.false_ne_true
  hd := fun _ => hd
  frames := Around.frames_deeper e0.frames
  stk := Or.inr ⟨rfl, rfl⟩
  exf := fun _ z => nomatch (show _ ∈ ([] : List Addr) from z)
  bs := e0.bs
  bsz := e0.bsz
  noex := fun _ _ _ => List.not_mem_nil
  exfs := fun _ z => nomatch (show _ ∈ ([] : List Addr) from z)
  funs := e0.funs
  frf := e0.frf
theorem lam_start1 {A : Around} {outer : List Env} {E : XK} {scope : Scope} {f c' : Addr} {h₁ : Heap} {tk : Nat} {p : Str} {v : V} {u : Value} (I : Inv X pins σ H s) (L : LamS1 X.env.scope scope p) (hp : p ∉ X.N) (rv : RelV v u) (e0 : Env0 X.prog X.w X.K X.mg X.base A outer s1 HZ) (hd : A.handled = none)
    (un : Un (frs X.stack) [] H HZ s.heap s1.heap) (hns : h₁.Ns s1.heap.objs.size fun y => ([(p, u)] : List (Str × Value)).reverse.lookup y) (kp : ∀ b o, s1.heap.get? b = some o → h₁.get? b = some o) :
    Inv (lamCx1 X A outer s1 HZ E scope f c' p) [] (σ ++ [some v]) HZ { s1 with heap := h₁, toks := tk } where
  ok := lam_ok1 I L e0 hd
  os := rfl
  bare := e0.bare
  base := Un.kept kp
  loc := ⟨_, hns, fun i y w hN hs vis => by
    have hN : (X.N ++ [p])[i]? = some y := hN
    rcases Nat.lt_or_ge i X.N.length with hi | hi
    · rw [List.getElem?_append_left hi] at hN
      rw [List.getElem?_append_left (I.len ▸ hi)] at hs
      have hf : scope.names.lookup y = some .free := by
        rcases (show Vis scope y from vis) with k | k | k
        · exact absurd ((L.own (y, .local) (PySem.mem_of_lookup k)).2 rfl ▸ List.mem_of_getElem? hN) hp
        · exact absurd rfl (L.own (y, .cell) (PySem.mem_of_lookup k)).1
        · exact k
      obtain ⟨u', c, r, k1, k2, k3⟩ := L.caps.val I hf hN hs
      exact ⟨u', r, .inr ⟨.inr hf, c, k1, (cell_stays un kp k2 k3).2⟩⟩
    · have h0 : i - X.N.length = 0 := by
        have := (List.getElem?_eq_some_iff.mp hN).1
        rw [List.length_append] at this
        simp at this
        omega
      rw [List.getElem?_append_right hi, h0] at hN
      rw [List.getElem?_append_right (by rw [I.len]; exact hi), I.len, h0] at hs
      cases hN
      cases hs
      exact ⟨u, rv, .inl ⟨L.par, by simp⟩⟩⟩
  cell := fun y c e => let ⟨w, z⟩ := I.cell y c (L.caps.sub I.ok e)
    ⟨w, (cell_stays un kp (I.freeC y c (L.caps.sub I.ok e)) z).2⟩
  free := e0.hok.fresh (Nat.le_refl _)
  freeC := fun y c e => let ⟨_, z⟩ := I.cell y c (L.caps.sub I.ok e)
    (cell_stays un kp (I.freeC y c (L.caps.sub I.ok e)) z).1
  pin := fun q hq => nomatch (show q ∈ ([] : List (Addr × Obj)) from hq)
  hok := e0.hok.kept kp
  len := by
    show (σ ++ [some v]).length = (X.N ++ [p]).length
    rw [List.length_append, List.length_append, I.len] <;> rfl
/-- the lambda at f, called with u from the frames outer -/
theorem lam_run {A : Around} {outer : List Env} {f c' : Addr} {pm ctv : Value} {params : Arguments} {body : Expr} {scope : Scope} {k : Nat} {pr : Str} {E : XK} {t : TE} {v : V} {u : Value} {H2 : Hp} {s2 : Shared} {Q : VK}
    (I : Inv X pins σ H s) (L : LamS1 X.env.scope scope pr) (hpr : pr ∉ X.N) (un : Un (frs X.stack) [] H H2 s.heap s2.heap) (nl : s2.heap.NoLimit) (e0 : Env0 X.prog X.w X.K X.mg X.base A outer s2 H2) (hr : Room (k + 1) A)
    (hf : s2.heap.get? f = some (PySem.W.kla_obj "<lambda>" (X.env.qual ++ "<lambda>") params body scope (cloFrom X.env.cells scope.names []) pm c' ctv)) (hc : H2 c' = some (CodeO c' (X.env.qual ++ "<lambda>")))
    (hbind : bindArgs (PySem.W.kla_fn "<lambda>" (X.env.qual ++ "<lambda>") params body scope (cloFrom X.env.cells scope.names []) pm (.ref c') ctv) ⟨[u], []⟩ = pure [(pr, u)]) (rv : RelV v u)
    (hbody : Room k (A.deeper (lamEnv X scope s2.heap.objs.size f c')) → PE (lamCx1 X A outer s2 H2 E scope f c' pr) body t) (ht : t (σ ++ [some v]) H2 Q) :
    codeAny (model X.prog X.w) A (.call (.ref f) ⟨[u], []⟩) (CR (L2.CX X.prog X.w) outer X.prog X.w H2 s2 Q E) s2 := by
  have known : ∃ (oc : Obj) (vs : Array Value) (t : Tok), s2.heap.get? c' = some oc ∧ oc.data = .fields vs ∧ vs[1]? = some (.str (X.env.qual ++ "<lambda>") t) := (e0.hok c' _ hc).1
  obtain ⟨oc, vs, tq, k1, k2, k3⟩ := known
  apply PySem.W.kla_callFunE hr.depth hf rfl L.fn.2.1 L.fn.2.2 rfl ⟨c', oc, vs, tq, rfl, k1, k2, k3⟩
  rw [hbind]
  apply wpAny_pure
  refine wpAny_newFunctionEnv (fun y hy => (L.own y hy).1) (fun y hy => by rw [List.mem_singleton.mp hy]; exact L.par) (fun h₁ hns hsb => ?_) L.fn.1
  refine ⟨nl.fresh _ hsb, ?_⟩
  have old : ∀ b o, s2.heap.get? b = some o → h₁.get? b = some o := fun b o e => hsb.extBut b o (Nat.ne_of_lt (Heap.lt_size e)) (Heap.get?_push_of_some _ e)
  have J := lam_start1 (E := E) (f := f) (c' := c') (tk := s2.toks + ([(pr, u)] : List (Str × Value)).length) I L hpr rv e0 hr.hd un hns old
  exact PySem.W.kla_codeExpr (wpAny_mono ((hbody (hr.deeper _)).run [] _ _ H2 Q J ht) (fun _ _ ⟨w, H', Z, r, q⟩ => ⟨w, H', Z.os, Z.bare, Z.base, Z.hok, r, q⟩) fun _ _ x => x)
/-- a(e), in the def that got the lambda as a: Z is that def's context, entered at s -/
theorem pe_act1 {CXg : CXT} {Eg : XK} {Ng : List Str} {qg : Str} {sg : Scope} {g f c' : Addr} {cdg pm ctv : Value} {params : Arguments} {body : Expr} {scope : Scope} {k i : Nat} {a pr : Str} {pn : List (Addr × Obj)} {xe : Value → Shared → Prop} {W : WX} {tb : XK → TE} {p1 p2 : Pos} {e : Expr} {t : TA} {Z : Cx}
    (hZ : Z = (cxOf CXg X.prog X.w X.K X.mg X.base Ng qg sg g cdg X.A X.stack s H Eg).tr pn xe)
    (I : Inv X pins σ H s) (L : LamS1 X.env.scope scope pr) (hpr : pr ∉ X.N) (hf : s.heap.get? f = some (PySem.W.kla_obj "<lambda>" (X.env.qual ++ "<lambda>") params body scope (cloFrom X.env.cells scope.names []) pm c' ctv)) (hfn : H f = none) (hfr : f ∉ frs X.stack)
    (hbind : ∀ u, bindArgs (PySem.W.kla_fn "<lambda>" (X.env.qual ++ "<lambda>") params body scope (cloFrom X.env.cells scope.names []) pm (.ref c') ctv) ⟨[u], []⟩ = pure [(pr, u)])
    (tk : Takes Z W) (hr : Room (k + 1) (X.A.deeper (envOfC qg sg s.heap.objs.size g cdg)))
    (hbody : ∀ (A : Around) (outer : List Env) (s : Shared) (H : Hp) (E : XK), Room k (A.deeper (lamEnv X scope s.heap.objs.size f c')) → PE (lamCx1 X A outer s H E scope f c' pr) body (tb E))
    (ha : PA Z [e] t) (hN : Ng[i]? = some a) (hv : Vis sg a) (h1 : (a == ("__debug__" : Str)) = false) (h2 : (a == ("__classdict__" : Str)) = false) (hst : starEach [e] Z.env = (false, eval e Z.env) :: starEach [] Z.env) :
    PE Z (.Call (.Name a p1) [e] [] p2) (fun σZ HZ Q => σZ[i]? = some (some (.ref f)) ∧ t σZ HZ fun vs H2 => ∃ v, vs = [v] ∧ H2 c' = some (CodeO c' (X.env.qual ++ "<lambda>")) ∧ tb (WE W σZ) (σ ++ [some v]) H2 Q) := by
  subst hZ
  have stays : ∀ {pz σz Hz sz}, Inv ((cxOf CXg X.prog X.w X.K X.mg X.base Ng qg sg g cdg X.A X.stack s H Eg).tr pn xe) pz σz Hz sz → sz.heap.get? f = some (PySem.W.kla_obj "<lambda>" (X.env.qual ++ "<lambda>") params body scope (cloFrom X.env.cells scope.names []) pm c' ctv) :=
    fun J => J.base.keep f _ hf hfn hfr List.not_mem_nil
  constructor
  intro pz sz σz Hz Q J ⟨hs, ht⟩
  refine wpAny_Call_Name_kw (thn ((pe_var (pos := p1) (i := i) hN hv h1 h2).run pz sz σz Hz (fun w H1 => w = .ref f ∧ H1 = Hz) J ⟨.ref f, hs, rfl, rfl⟩) ?_)
  rintro _ s1 ⟨_, _, J1, r1, rfl, rfl⟩
  cases r1
  refine PySem.W.callWith_F ⟨_, _, _, _, stays J1⟩ (thn (ha.run p2 pz s1 σz _ _ J1 ht) ?_) hst
  rintro us s2 ⟨_, H2, J2, rvs, v, rfl, hc, hb⟩
  obtain ⟨u, rfl, rv⟩ : ∃ u, us = [u] ∧ RelV v u := by
    cases rvs with
    | cons r z =>
      cases z
      exact ⟨_, rfl, r⟩
  have go := lam_run (Q := Q) (E := WE W σz) I L hpr J2.base J2.nolimit J2.env0 hr (stays J2) hc (hbind u) rv (hbody _ _ s2 H2 (WE W σz)) hb
  exact ⟨⟨_, _, _, _, stays J2⟩, wpAny_call (codeAny_mono go fun
    | .error x, s', q => passAt tk σz pz H2 s2 x s' J2 q
    | .ok (.ret _), _, q => J2.after q
    | .ok .next, _, q => q.elim
    | .ok .brk, _, q => q.elim
    | .ok .cont, _, q => q.elim)⟩
/-- f, made and known to nothing, is pinned -/
theorem pin_lam (I : Inv X pins σ H s) {f : Addr} {o : Obj} (hst : ∀ b, b = X.env.locals ∨ b ∈ X.fs → b ∈ frs X.stack) (hf : s.heap.get? f = some o) (hfn : H f = none) (hfr : f ∉ frs X.stack) (hc : ∀ v, o.data ≠ .cell v) : Inv X ((f, o) :: pins) σ H s := by
  apply I.pins_of
  intro q m
  cases m with
  | head => exact ⟨hf, hfn, fun z => hfr (hst _ (.inl z)), fun z => hfr (hst _ (.inr z)), hc⟩
  | tail _ m => exact I.pin q (List.mem_append_right _ m)
end
/-- what the def's caller a(b) reads: it got f as a -/
def tAct (f : Addr) (W : WX) (tl : V → XK → Hp → VK → Prop) : TE := fun σZ HZ Q => σZ[0]? = some (some (.ref f)) ∧ ∃ v, σZ[1]? = some (some v) ∧ tl v (WE W σZ) HZ Q
/-- a context in which a(b) is read so -/
def ActOk (Z : Cx) (a b : Str) (f : Addr) (tl : V → XK → Hp → VK → Prop) : Prop :=
  ∀ (W : WX) (pn : List (Addr × Obj)) (xe : Value → Shared → Prop) (p1 p2 p3 : Pos), Takes (Z.tr pn xe) W → PE (Z.tr pn xe) (.Call (.Name a p1) [.Name b p3] [] p2) (tAct f W tl)
/-- the def x(a, b) that calls a(b): TT is what it makes of a's reading, of what it was handed as b -/
def GivesD (P : Program) (w : World) (K : PySem.W.Frag) (mg : Str → Option Value) (base : Heap) (Ng : List Str) (x : Str) (sg : Scope) (bg : List Stmt) (a b : Str) (TT : (V → XK → Hp → VK → Prop) → V → Hp → VK → Prop) : Prop :=
  ∀ (CX : CXT) (EX : XK) (A : Around) (outer : List Env) (g : Addr) (cdg : Value) (f : Addr) (hv : V) (s : Shared) (H : Hp) (Q : VK) (tl : V → XK → Hp → VK → Prop),
    ActOk (cxOf CX P w K mg base Ng x sg g cdg A outer s H EX) a b f tl → TT tl hv H Q →
    ∃ t, PSs (cxOf CX P w K mg base Ng x sg g cdg A outer s H EX).nox bg t ∧ t { nx := fun _ H' => Q .non H', rt := Q } (L2.start Ng [.ref f, hv]) H
def tLam1 (T : List (Addr × Str)) (q : Str) (j : Nat) (TT : (V → XK → Hp → VK → Prop) → V → Hp → VK → Prop) (t : XK → TE) : TE := fun σ H Q =>
  Tabs T H ∧ ∃ hv, σ[j]? = some (some hv) ∧ ∀ (c' : Addr) (H1 : Hp), ExtN H H1 → Tabs T H1 → H1 c' = some (CodeO c' q) → TT (fun v E H' Q' => H' c' = some (CodeO c' q) ∧ t E (σ ++ [some v]) H' Q') hv H1 Q
section
variable {X : Cx}
/-- x(lambda pr: body, y) -/
theorem pe_lamcall1 {T : List (Addr × Str)} {TT : (V → XK → Hp → VK → Prop) → V → Hp → VK → Prop} {x a b y pr : Str} {g c P : Addr} {k j : Nat} {pg : Arguments} {bg : List Stmt} {sg : Scope} {dV kV doc pm cdv ct oc : Value} {an od : Option Addr} {osl : Array (Option Value)} {Ng : List Str}
    {params : Arguments} {body : Expr} {scope : Scope} {t : XK → TE} {p lpos py pos : Pos} (hg : Gl X x) (hm : X.mg x = some (.ref g)) (hk : PySem.W.keepIn X.K (.ref g) = true)
    (lk : X.K.lookup g = some ⟨oc, od, .func (PySem.W.fnOf x x pg bg sg dV kV doc pm an cdv ct), osl⟩) (hcg : PySem.W.codeIn X.K cdv x = true) (hb : L2.Binds X.K (PySem.W.fnOf x x pg bg sg dV kV doc pm an cdv ct) [a, b] []) (Sg : FnScope Ng [a, b] sg) (hNa : Ng[0]? = some a) (hNb : Ng[1]? = some b) (hva : Vis sg a) (hvb : Vis sg b)
    (hG : GivesD X.prog X.w X.K X.mg X.base Ng x sg bg a b TT) (hNy : X.N[j]? = some y) (hvy : Vis X.env.scope y)
    (TB : TabB X.base X.mg c P) (hcode : X.env.code = .ref c) (hmT : (P, X.env.qual ++ "<lambda>") ∈ T) (hu : ∀ p ∈ T, p.1 = P → p.2 = X.env.qual ++ "<lambda>") (hr : Room (k + 2) X.A) (L : LamS1 X.env.scope scope pr) (hpr : pr ∉ X.N) (hdef : defaultsOf params X.env = ([], []))
    (hst : ∀ b, b = X.env.locals ∨ b ∈ X.fs → b ∈ frs X.stack)
    (hbind : ∀ (q : Str) (cl : List (Str × Addr)) (pm cv ctv u : Value), bindArgs (PySem.W.kla_fn "<lambda>" q params body scope cl pm cv ctv) ⟨[u], []⟩ = pure [(pr, u)])
    (hbody : ∀ (A : Around) (outer : List Env) (s : Shared) (H : Hp) (E : XK) (f c' : Addr), Room k (A.deeper (lamEnv X scope s.heap.objs.size f c')) → PE (lamCx1 X A outer s H E scope f c' pr) body (t E))
    (hdb : (x == ("__debug__" : Str)) = false := by decide) (n1 : (a == ("__debug__" : Str)) = false := by decide) (n2 : (a == ("__classdict__" : Str)) = false := by decide)
    (n3 : (b == ("__debug__" : Str)) = false := by decide) (n4 : (b == ("__classdict__" : Str)) = false := by decide) (n5 : (y == ("__debug__" : Str)) = false := by decide) (n6 : (y == ("__classdict__" : Str)) = false := by decide) :
    PE X (.Call (.Name x p) [.Lambda params body scope lpos, .Name y py] [] pos) (tLam1 T (X.env.qual ++ "<lambda>") j TT t) := by
  constructor
  intro pins s σ H Q I ⟨hT, hv, hy, h⟩
  apply wpAny_Call_Name_kw
  refine ld_glob I hg hm ?_ hdb
  apply PySem.W.callWith_K (h₀ := X.base) I.mod.kin hk (he := rfl) (hplain := rfl)
  show wpAny _ _ (spliced ((false, eval (.Lambda params body scope lpos) X.env) :: backTo pos (starEach [.Name y py] X.env))) _ _ s
  apply Calls.spliced_cons
  apply lam_make2 I TB hcode hmT hu hT hdef (L.caps.cells I.ok)
  intro f c' _ _ H1 s' I1 eN T1 hf hfn hfr hco
  have P1 := pin_lam I1 hst hf hfn hfr (fun v z => nomatch z)
  refine thn ((pa_cons (pe_var (pos := py) hNy hvy n5 n6) pa_nil).run pos _ s' σ H1 (fun vs H2 => vs = [hv] ∧ H2 = H1) P1 ⟨hv, hy, rfl, rfl⟩) ?_
  rintro us s2 ⟨_, H2, P2, rvs, rfl, rfl⟩
  obtain ⟨u, rfl, ru⟩ : ∃ u, us = [u] ∧ RelV hv u := by
    cases rvs with
    | cons r z =>
      cases z
      exact ⟨_, rfl, r⟩
  have I2 := ClX.unpin P2
  have act : ActOk (cxOf C8.CX0 X.prog X.w X.K X.mg X.base Ng x sg g cdv X.A X.stack s2 H2 C8.E0) a b f (fun v E H' Q' => H' c' = some (CodeO c' (X.env.qual ++ "<lambda>")) ∧ t E (σ ++ [some v]) H' Q') ∨ ¬ Room (k + 1) (X.A.deeper (envOfC x sg s2.heap.objs.size g cdv)) := by
    by_cases hr' : Room (k + 1) (X.A.deeper (envOfC x sg s2.heap.objs.size g cdv))
    · refine .inl fun W pn xe p1 p2 p3 tk => ⟨fun pz sz σz Hz Q' J hz => ?_⟩
      obtain ⟨z1, v, z3, z2, z4⟩ := hz
      exact (pe_act1 (i := 0) rfl I2 L hpr (ClX.pin_at P2) (ClX.pin_un P2) hfr (hbind _ _ _ _ _) tk hr' (fun A o s H E r => hbody A o s H E f c' r) (pa_cons (pe_var (pos := p3) hNb hvb n3 n4) pa_nil) hNa hva n1 n2 rfl).run pz sz σz Hz Q' J ⟨z1, v, z3, v, rfl, z2, z4⟩
    · exact .inr hr'
  refine ⟨I2.kIn, wpAny_call (codeAny_mono (run_ofS (CX := C8.CX0) (E := C8.E0) (Q := Q) (N := Ng) (ps := [a, b]) (us := [.ref f, u]) (vs := [.ref f, hv]) lk hcg Sg hr I2.env0 (hb s2 [.ref f, u] I2.kIn rfl) (.cons rfl (.cons ru .nil)) rfl fun hr' => ?_) fun
    | .error _, _, q => q.elim
    | .ok (.ret _), _, q => I2.after q
    | .ok .next, _, q => q.elim
    | .ok .brk, _, q => q.elim
    | .ok .cont, _, q => q.elim)⟩
  cases act with
  | inr z => exact absurd hr' z
  | inl act => exact let ⟨t', d, q⟩ := hG C8.CX0 C8.E0 X.A X.stack g cdv f hv s2 H2 Q _ act (h c' H2 eN T1 hco); ⟨t', d.nox, q⟩
/-- a(b), a known function handed as a -/
theorem act_fn {k : Nat} {f : Addr} {fd : FuncData} {ps : List Str} {sp : Sp} {a b : Str} (F : FnOk X.prog X.w X.K X.mg X.base (L2.CX X.prog X.w) k f fd ps sp) (hr : Room k X.A) (hk : PySem.W.keepIn X.K (.ref f) = true) (hb : L2.Binds X.K fd ps [])
    (hNa : X.N[0]? = some a) (hNb : X.N[1]? = some b) (hva : Vis X.env.scope a) (hvb : Vis X.env.scope b)
    (n1 : (a == ("__debug__" : Str)) = false := by decide) (n2 : (a == ("__classdict__" : Str)) = false := by decide) (n3 : (b == ("__debug__" : Str)) = false := by decide) (n4 : (b == ("__classdict__" : Str)) = false := by decide) :
    ActOk X a b f (fun v E H Q => sp [v] H Q E) := fun W pn xe p1 p2 p3 tk => ⟨fun pins s σ H Q I ⟨h1, v, h2, h3⟩ => by
  apply wpAny_Call_Name_kw
  refine thn ((pe_var (X := X.tr pn xe) (pos := p1) (i := 0) hNa hva n1 n2).run pins s σ H (fun w H1 => w = .ref f ∧ H1 = H) I ⟨.ref f, h1, rfl, rfl⟩) ?_
  rintro _ s1 ⟨_, _, I1, r1, rfl, rfl⟩
  cases r1
  apply PySem.W.callWith_K (h₀ := X.base) I1.mod.kin hk (he := rfl) (hplain := rfl)
  refine thn ((pa_cons (pe_var (X := X.tr pn xe) (pos := p3) hNb hvb n3 n4) pa_nil).run p2 pins s1 σ _ (fun vs H2 => vs = [v] ∧ H2 = _) I1 ⟨v, h2, rfl, rfl⟩) ?_
  rintro us s2 ⟨_, _, I2, r, rfl, rfl⟩
  exact ⟨I2.kIn, run_fnS (X := X.tr pn xe) F hr hb (passAt tk σ) I2 r h3⟩⟩
end
end Tw
set_option maxHeartbeats 2000000
/-! TwSort: sorted(row, key=lambda p: p[0]), the row a list or a tuple of tuples whose first things are ints. -/
namespace Tw
open PySem PySem.Spec PyProof.Rows L2 Sb LamX
/-- p[0] -/
def FirstOf (pr : Str) (body : Expr) : Prop := ∃ p1 p2 p3 j, body = .Subscript (.Name pr p1) (.Constant (.int 0) j p2) p3
/-- the lambda of one parameter and no other name -/
structure LamF (scope : Scope) (pr : Str) (body : Expr) : Prop where
  fn : scope.kind = .function ∧ scope.isCoroutine = false ∧ scope.isGenerator = false
  names : scope.names = [(pr, .local)]
  body : FirstOf pr body
  d1 : (pr == ("__debug__" : Str)) = false
theorem lam_first {prog : Program} {w : World} {A : Around} {s : Shared} {f c' a : Addr} {q : Str} {params : Arguments} {body : Expr} {scope : Scope} {cl : List (Str × Addr)} {pm ctv : Value} {pr : Str} {items : Array Value} {n : Int} {t : Tok} (hroom : A.depth < recursionLimit) (L : LamF scope pr body)
    (hf : s.heap.get? f = some (PySem.W.kla_obj "<lambda>" q params body scope cl pm c' ctv)) (hc : ∃ (oc : Obj) (vs : Array Value) (t : Tok), s.heap.get? c' = some oc ∧ oc.data = .fields vs ∧ vs[1]? = some (.str q t))
    (hb : bindArgs (PySem.W.kla_fn "<lambda>" q params body scope cl pm (.ref c') ctv) ⟨[.ref a], []⟩ = pure [(pr, .ref a)]) (ht : IsTup s.heap a items) (h0 : items[0]? = some (.int n t)) (nl : s.heap.NoLimit) :
    wpAny (model prog w) A (call (.ref f) [.ref a]) (PySem.W.KeyPure (.int n) s) (fun _ _ => False) s := by
  obtain ⟨p1, p2, p3, j, rfl⟩ := L.body
  obtain ⟨oc, vs, tq, k1, k2, k3⟩ := hc
  apply wpAny_call
  apply PySem.W.kla_callFunE hroom hf rfl L.fn.2.1 L.fn.2.2 rfl ⟨c', oc, vs, tq, rfl, k1, k2, k3⟩
  rw [hb]
  apply wpAny_pure
  refine wpAny_newFunctionEnv (fun y hy => ?_) (fun y hy => ?_) (fun h₁ hns hsb => ?_) L.fn.1
  · rw [L.names, List.mem_singleton] at hy
    rw [hy]
    exact fun z => nomatch z
  · rw [List.mem_singleton.mp hy, L.names]
    simp
  refine ⟨nl.fresh _ hsb, ?_⟩
  have old : ∀ b o, s.heap.get? b = some o → h₁.get? b = some o := fun b o e => hsb.extBut b o (Nat.ne_of_lt (Heap.lt_size e)) (Heap.get?_push_of_some _ e)
  obtain ⟨ot, e1, e2, e3⟩ := ht
  apply PySem.W.kla_codeExpr
  apply Subscript_
  refine wpAny_Name (wpAny_loadName_local L.fn.1 (show scope.names.lookup pr = some .local by rw [L.names]; simp) hns (show List.lookup pr [(pr, Value.ref a)].reverse = some (.ref a) by simp) ?_) L.d1
  apply wpAny_Constant_int
  refine subscriptTail_builtinR (x := .int n t) (IsTup.typeIs ⟨ot, old _ _ e1, e2, e3⟩) slot_tuple_getitem.lookup (getItem_tuple (j := 0) (x := .int n t) ⟨ot, old _ _ e1, e2, e3⟩ (by decide) (by decide) ?_ h0 ⟨rfl, ?_⟩) (by rfl)
  · have : 0 < items.size := by
      rcases Nat.eq_zero_or_pos items.size with z | z
      · rw [Array.getElem?_eq_none (by omega)] at h0
        cases h0
      · exact z
    exact seqIndex_of (by decide) (by omega)
  · exact ⟨h₁, _, rfl, old, .int n t⟩
theorem SqL.extN {K : PySem.W.Frag} {H H' : Hp} {a : Addr} {xs : List V} (h : SqL K H a xs) (e : ExtN H H') : SqL K H' a xs := by
  rcases h with (h | ⟨o, h⟩) | h
  · exact .inl (.inl (e _ _ h fun _ z => nomatch z))
  · exact .inl (.inr ⟨o, e _ _ h fun _ z => nomatch z⟩)
  · exact .inr h
theorem SqT.extN {K : PySem.W.Frag} {H H' : Hp} {a : Addr} {xs : List V} (h : SqT K H a xs) (e : ExtN H H') : SqT K H' a xs := by
  rcases h with (h | ⟨o, h⟩) | h
  · exact .inl (.inl (e _ _ h fun _ z => nomatch z))
  · exact .inl (.inr ⟨o, e _ _ h fun _ z => nomatch z⟩)
  · exact .inr h
/-- sorted(row, key=f): what f tells of a thing is its key -/
theorem sorted_by {prog : Program} {w : World} {A : Around} {E : Value → Shared → Prop} {s : Shared} {β : Type} {R : Value → β → Prop} {l f : Addr} {o : Obj} {S : String} {its : Array Value} {n : Nat} {bs : List β} {key : β → Int} {Q : Value → Shared → Prop}
    (hS : S = "list" ∨ S = "tuple") (ho : s.heap.get? l = some o) (hc : o.cls = .type S) (hd : o.data = .seq its n) (e : PySem.W.EachIs R its.toList bs) (hL : bs.length ≤ sizeLine) (hu : A.units + 2 < cLine)
    (turn : ∀ (v : Value) (x : β), R v x → x ∈ bs → ∀ (h : Heap) (tk : Nat), (∀ b o, s.heap.get? b = some o → h.get? b = some o) → wpAny (model prog w) A.in1.in1 (call (.ref f) [v]) (PySem.W.KeyPure (.int (key x)) { s with heap := h, toks := tk }) (fun _ _ => False) { s with heap := h, toks := tk })
    (q : ∀ (out : List Value) (c tk : Nat) (h1 h' : Heap) (r : Addr), (∀ b o, s.heap.get? b = some o → h1.get? b = some o) → (∀ b o, h1.get? b = some o → h'.get? b = some o) → h1.objs.size ≤ r → h'.get? r = some (seqObj "list" out.toArray c) → PySem.W.EachIs R out (bs.mergeSort fun a b => decide (key a ≤ key b)) → Q (.ref r) { s with heap := h', toks := tk }) :
    wpAny (model prog w) A (call (.builtin "sorted") [.ref l] [(Str.ofString "key", .ref f)]) Q E s := by
  have hz : its.size = bs.length := by
    have := e.length
    rw [← this, Array.length_toList]
  apply call_function_entry_kw kind_sorted plain_sorted entry_sorted (ksk_s1 _ _)
  unfold Builtin.«sorted»
  apply wpAny_bind (m := checkCount "sorted" 1 1 _)
  apply wpAny_pure
  apply wpAny_bind
  refine wpAny_collect_seq l hS ho hc hd (fun h1 k1 => ?_) (by omega)
  apply wpAny_bind
  refine wpAny_newList ?_ (by rw [Array.length_toList]; omega)
  have up : ∀ {h : Heap}, PySem.W.KeepsBut h1.objs.size (h1.push { cls := .type "list", data := .seq its.toList.toArray }) h → ∀ b o, s.heap.get? b = some o → h.get? b = some o := fun k b o z =>
    k b o (Nat.ne_of_lt (Heap.lt_size (k1 b o z))) (Heap.get?_push_of_some _ (k1 b o z))
  apply wpAny_bind
  apply wpAny_holding
  refine PySem.W.list_sort_key_data (R := R) (bs := bs) (vs := its.toList) (n := 0) (b := false) (fun x => .int (key x)) (Heap.get?_push_size _ rfl) e ?_ ?_ hL ?_ (ksk_l1 _ _) (ksk_t1 _ _) ?_ ?_
  · rintro d hd d' hd'
    obtain ⟨x, _, rfl⟩ := List.mem_map.mp hd
    obtain ⟨y, _, rfl⟩ := List.mem_map.mp hd'
    rfl
  · refine .inr fun d hd => ?_
    obtain ⟨x, _, rfl⟩ := List.mem_map.mp hd
    constructor
    · intro z
      cases z
    · intro _ z
      cases z
  · intro x _
    show A.units + 1 + 1 + 0 < cLine
    omega
  · intro v x hR hx h tk kp
    exact turn v x hR hx h tk (up kp)
  · intro out c h' tk kp hat _ ho2
    apply wpAny_pure
    rw [PySem.W.dataLe_int] at ho2
    exact ⟨_, rfl, q out c tk h1 h' _ k1 (fun b o z => kp b o (Nat.ne_of_lt (Heap.lt_size z)) (Heap.get?_push_of_some _ z)) (Nat.le_refl _) hat ho2⟩
theorem each_of_vals : ∀ {ps : List (V × Int)} {us : List Value}, Vals (ps.map Prod.fst) us → PySem.W.EachIs (fun u p => RelV p.1 u) us ps
  | [], _, r => by
    cases r
    exact .nil
  | p :: ps, _, r => by
    cases r with
    | cons h r => exact .cons h (each_of_vals r)
theorem vals_of_each : ∀ {ps : List (V × Int)} {us : List Value}, PySem.W.EachIs (fun u p => RelV p.1 u) us ps → Vals (ps.map Prod.fst) us
  | _, _, .nil => .nil
  | _, _, .cons h r => .cons h (vals_of_each r)
/-- the things sorted by their keys, as they stood where two are alike -/
def byKey (ps : List (V × Int)) : List (V × Int) := ps.mergeSort fun a b => decide (a.2 ≤ b.2)
def tSortLam (K : PySem.W.Frag) (T : List (Addr × Str)) (tx : TE) : TE := fun σ H Q => tx σ H fun x H1 => ∃ (l : Addr) (ps : List (V × Int)), x = .ref l ∧ SqR K H1 l (ps.map Prod.fst) ∧ (∀ p ∈ ps, ∃ (a : Addr) (ys : List V), p.1 = .ref a ∧ SqT K H1 a (.int p.2 :: ys)) ∧ Tabs T H1 ∧
  ∀ (H2 : Hp) (r : Addr), ExtN H1 H2 → Tabs T H2 → H2 r = none → Q (.ref r) (upd H2 r (.lst ((byKey ps).map Prod.fst)))
section
variable {X : Cx}
theorem pe_sortLam (Kk : PySem.W.Frag) {T : List (Addr × Str)} {c P : Addr} {pr : Str} {params : Arguments} {body : Expr} {scope : Scope} {e : Expr} {tx : TE} {p lpos kp pos : Pos} (hg : Gl X "sorted") (hm : X.mg "sorted" = none) (hx : PE X e tx)
    (TB : TabB X.base X.mg c P) (hcode : X.env.code = .ref c) (hmT : (P, X.env.qual ++ "<lambda>") ∈ T) (hu : ∀ p ∈ T, p.1 = P → p.2 = X.env.qual ++ "<lambda>") (hr : Room 1 X.A) (L : LamF scope pr body) (hdef : defaultsOf params X.env = ([], []))
    (hbind : ∀ (q : Str) (cl : List (Str × Addr)) (pm cv ctv u : Value), bindArgs (PySem.W.kla_fn "<lambda>" q params body scope cl pm cv ctv) ⟨[u], []⟩ = pure [(pr, u)])
    (he : backTo pos (starEach [e] X.env) = (false, eval e X.env) :: backTo pos (starEach [] X.env) := by rfl) (hpl : (backTo pos (starEach [e] X.env)).any (·.1) = false := by rfl) (hKk : X.K = Kk := by rfl) :
    PE X (.Call (.Name "sorted" p) [e] [⟨some "key", .Lambda params body scope lpos, kp⟩] pos) (tSortLam Kk T tx) := by
  subst hKk
  constructor
  intro pins s σ H Q I h
  apply wpAny_Call_Name_kw
  refine ld_blt I hg hm (u := .builtin "sorted") (by decide +kernel) ?_ (by decide) (by decide)
  apply callWith_kw (he := he) (hplain := hpl) (hall := rfl) (hkw := rfl)
  rw [he]
  apply Calls.spliced_cons
  refine thn (hx.run pins s σ H _ I h) ?_
  rintro u s1 ⟨x, H1, I1, rx, l, ps, rfl, hq, hk, hT, q⟩
  cases rx
  apply Calls.spliced_nil
  apply kws_cons
  apply lam_make2 I1 TB hcode hmT hu hT hdef (fun y hy z => by rw [L.names, List.mem_singleton] at hy; rw [hy] at z; cases z)
  intro f c' pm ctv H2 s2 I2 eN T2 hf hfn hfr hco
  apply kws_nil
  show wpAny _ _ (call (.builtin "sorted") [.ref l] [(Str.ofString "key", .ref f)]) _ _ _
  obtain ⟨S, o, its, n, hS, ho, hc, hd, r, hz⟩ : ∃ (S : String) (o : Obj) (its : Array Value) (n : Nat), (S = "list" ∨ S = "tuple") ∧ s2.heap.get? l = some o ∧ o.cls = .type S ∧ o.data = .seq its n ∧ Vals (ps.map Prod.fst) its.toList ∧ (ps.map Prod.fst).length ≤ sizeLine := by
    rcases hq with hq | hq
    · obtain ⟨its, r, ⟨o, n, z1, z2, z3, z4⟩, hz⟩ := I2.list (SqL.extN hq eN)
      exact ⟨"list", o, _, n, .inl rfl, z1, z2, z4, by simpa using r, hz⟩
    · obtain ⟨its, r, ⟨o, z1, z2, n, z4⟩, hz⟩ := I2.tuple (SqT.extN hq eN)
      exact ⟨"tuple", o, _, n, .inr rfl, z1, z2, z4, by simpa using r, hz⟩
  have hdep : X.A.depth < recursionLimit := hr.depth
  rw [List.length_map] at hz
  refine sorted_by (R := fun u (p : V × Int) => RelV p.1 u) (bs := ps) (key := Prod.snd) hS ho hc hd (each_of_vals r) hz (by have := hr.un; omega) (fun v x rv hx h tk kp => ?_) (fun out c tk h1 h' r k1 kp hsz hat ho2 => ?_)
  · obtain ⟨x, n⟩ := x
    obtain ⟨a, ys, ex, hy⟩ := hk _ hx
    have ex : x = .ref a := ex
    subst ex
    cases (show RelV (.ref a) v from rv)
    have hy : SqT X.K H1 a (.int n :: ys) := hy
    obtain ⟨it2, r2, ⟨ot, y1, y2, y3⟩, _⟩ := I2.tuple (SqT.extN hy eN)
    obtain ⟨w0, rr, rfl, t0, rfl⟩ : ∃ w0 rr, it2 = w0 :: rr ∧ ∃ t, w0 = Value.int n t := by
      cases r2 with
      | cons z1 z2 => exact ⟨_, _, rfl, z1⟩
    obtain ⟨⟨oc, vs, tq, c1, c2, c3⟩, _⟩ := I2.hok c' _ hco
    refine lam_first (t := t0) hdep L (kp _ _ hf) ⟨oc, vs, tq, kp _ _ c1, c2, c3⟩ (hbind _ _ _ _ _ _) ⟨ot, kp _ _ y1, y2, y3⟩ (by simp) ?_
    exact I2.nolimit.keeps kp
  · have I3 := I2.kept (t' := s2.toks) k1
    have fr := I3.hok.fresh hsz
    refine ⟨.ref r, upd H2 r (.lst ((byKey ps).map Prod.fst)), I3.laid kp hsz ⟨?_, _, c, vals_of_each ho2, hat⟩, rfl, q H2 r eN T2 fr⟩
    unfold byKey
    rw [List.length_map, List.length_mergeSort]
    exact hz
end
end Tw
/-! TwT: data of tuples alone (they stay, whatever else is changed); names; sorts; entries of a schema's rows. -/
namespace Tw
open PySem PySem.Spec PyProof.Rows L2 Sb LamX
/-! ### data of tuples -/
mutual
inductive Td (K : PySem.W.Frag) (H : Hp) : V → PyData → Prop
  | non : Td K H .non .none
  | bl (b : Bool) : Td K H (.bl b) (.bool b)
  | int (n : Int) : Td K H (.int n) (.int n)
  | str (s : Str) : Td K H (.str s) (.str s)
  | tup {a : Addr} {xs : List V} {ds : List PyData} : SqT K H a xs → Tds K H xs ds → Td K H (.ref a) (.tuple ds)
inductive Tds (K : PySem.W.Frag) (H : Hp) : List V → List PyData → Prop
  | nil : Tds K H [] []
  | cons {x : V} {xs : List V} {d : PyData} {ds : List PyData} : Td K H x d → Tds K H xs ds → Tds K H (x :: xs) (d :: ds)
end
/-- what stands of tuples, stands -/
def KeepT (K : PySem.W.Frag) (H H' : Hp) : Prop := ∀ a xs, SqT K H a xs → SqT K H' a xs
theorem KeepT.same {K : PySem.W.Frag} {H H' : Hp} (s : Same H H') : KeepT K H H' := fun a xs h => by
  rcases h with (h | ⟨o, h⟩) | h
  · exact .inl (.inl (s _ _ h))
  · exact .inl (.inr ⟨o, s _ _ h⟩)
  · exact .inr h
theorem KeepT.extN {K : PySem.W.Frag} {H H' : Hp} (s : ExtN H H') : KeepT K H H' := fun _ _ h => SqT.extN h s
/-- all but some objects that are no tuples stay -/
theorem KeepT.but {K : PySem.W.Frag} {H H' : Hp} (k : ∀ b o, H b = some o → (∀ xs, o = .tup xs → H' b = some o) ∧ (∀ q xs, o = .frz q (.tup xs) → H' b = some o)) : KeepT K H H' := fun a xs h => by
  rcases h with (h | ⟨o, h⟩) | h
  · exact .inl (.inl ((k _ _ h).1 _ rfl))
  · exact .inl (.inr ⟨o, (k _ _ h).2 _ _ rfl⟩)
  · exact .inr h
theorem KeepT.trans {K : PySem.W.Frag} {H H1 H2 : Hp} (a : KeepT K H H1) (b : KeepT K H1 H2) : KeepT K H H2 := fun c xs h => b c xs (a c xs h)
mutual
theorem Td.keep {K : PySem.W.Frag} {H H' : Hp} (k : KeepT K H H') : ∀ {v : V} {d : PyData}, Td K H v d → Td K H' v d
  | _, _, .non => .non
  | _, _, .bl b => .bl b
  | _, _, .int n => .int n
  | _, _, .str s => .str s
  | _, _, .tup h r => .tup (k _ _ h) (Tds.keep k r)
theorem Tds.keep {K : PySem.W.Frag} {H H' : Hp} (k : KeepT K H H') : ∀ {v : List V} {d : List PyData}, Tds K H v d → Tds K H' v d
  | _, _, .nil => .nil
  | _, _, .cons h r => .cons (Td.keep k h) (Tds.keep k r)
end
mutual
theorem Td.dp {K : PySem.W.Frag} {H : Hp} : ∀ {v : V} {d : PyData}, Td K H v d → Dp K H v d
  | _, _, .non => .non
  | _, _, .bl b => .bl b
  | _, _, .int n => .int n
  | _, _, .str s => .str s
  | _, _, .tup h r => .tup h (Tds.dp r)
theorem Tds.dp {K : PySem.W.Frag} {H : Hp} : ∀ {v : List V} {d : List PyData}, Tds K H v d → DpAll K H v d
  | _, _, .nil => .nil
  | _, _, .cons h r => .cons (Td.dp h) (Tds.dp r)
end
theorem Td.row {K : PySem.W.Frag} {H : Hp} {v : V} {ds : List PyData} (h : Td K H v (.tuple ds)) : ∃ a xs, v = .ref a ∧ SqT K H a xs ∧ Tds K H xs ds := by
  cases h with
  | tup q r => exact ⟨_, _, rfl, q, r⟩
theorem Td.toInt {K : PySem.W.Frag} {H : Hp} {v : V} {n : Int} (h : Td K H v (.int n)) : v = .int n := by cases h; rfl
theorem Td.toStr {K : PySem.W.Frag} {H : Hp} {v : V} {s : Str} (h : Td K H v (.str s)) : v = .str s := by cases h; rfl
theorem Td.toBool {K : PySem.W.Frag} {H : Hp} {v : V} {b : Bool} (h : Td K H v (.bool b)) : v = .bl b := by cases h; rfl
theorem Td.toNone {K : PySem.W.Frag} {H : Hp} {v : V} (h : Td K H v .none) : v = .non := by cases h; rfl
theorem Tds.len {K : PySem.W.Frag} {H : Hp} : ∀ {xs : List V} {ds : List PyData}, Tds K H xs ds → xs.length = ds.length
  | _, _, .nil => rfl
  | _, _, .cons _ r => congrArg (· + 1) (Tds.len r)
theorem Tds.append {K : PySem.W.Frag} {H : Hp} : ∀ {xs ys : List V} {ds es : List PyData}, Tds K H xs ds → Tds K H ys es → Tds K H (xs ++ ys) (ds ++ es)
  | _, _, _, _, .nil, t => t
  | _, _, _, _, .cons h r, t => .cons h (Tds.append r t)
theorem SqT.ty {K : PySem.W.Frag} {H : Hp} {a : Addr} {xs : List V} (h : SqT K H a xs) : TyX K H (.ref a) (.type "tuple") := by
  rcases h with (h | ⟨o, h⟩) | ⟨o, its, n, h, c, _⟩
  · exact .base (.tup h)
  · exact .fTuple h
  · exact .kTuple h c
theorem Td.ty {K : PySem.W.Frag} {H : Hp} {v : V} {ds : List PyData} (h : Td K H v (.tuple ds)) : TyX K H v (.type "tuple") := by
  cases h with
  | tup q r => exact SqT.ty q
/-- a bound, as data and as a value -/
def oI : Option Int → PyData
  | none => .none
  | some n => .int n
def oV : Option Int → V
  | none => .non
  | some n => .int n
/-! ### more of the built-ins' names -/
structure Bu (mg : Str → Option Value) extends Bt mg where
  n_abs : mg "abs" = none
  n_ord : mg "ord" = none
  n_sorted : mg "sorted" = none
  n_min : mg "min" = none
  n_dict : mg "dict" = none
theorem oV_none : decide (oV none = V.non) = true := decide_eq_true rfl
theorem oV_some (n : Int) : decide (oV (some n) = V.non) = false := decide_eq_false (fun z => nomatch z)
theorem iteY {p : Prop} [Decidable p] {A B : Prop} (h : p) (a : A) : if decide p = true then A else B := by
  rw [if_pos (decide_eq_true h)]
  exact a
theorem iteN {p : Prop} [Decidable p] {A B : Prop} (h : ¬ p) (b : B) : if decide p = true then A else B := by
  rw [if_neg (fun z => h (of_decide_eq_true z))]
  exact b
theorem iteNY {p : Prop} [Decidable p] {A B : Prop} (h : p) (b : B) : if (!decide p) = true then A else B := by
  rw [decide_eq_true h]
  exact b
theorem iteNN {p : Prop} [Decidable p] {A B : Prop} (h : ¬ p) (a : A) : if (!decide p) = true then A else B := by
  rw [decide_eq_false h]
  exact a
theorem sne {x y : Str} (h : x ≠ y) : ¬ V.str x = V.str y := fun z => h (V.str.inj z)
theorem ine {x y : Int} (h : x ≠ y) : ¬ V.int x = V.int y := fun z => h (V.int.inj z)
theorem at0 {a : V} {r : List V} : atI (a :: r) 0 = some a := atI_nat (xs := a :: r) (j := 0) rfl
theorem at1 {a b : V} {r : List V} : atI (a :: b :: r) 1 = some b := atI_nat (xs := a :: b :: r) (j := 1) rfl
theorem at2 {a b c : V} {r : List V} : atI (a :: b :: c :: r) 2 = some c := atI_nat (xs := a :: b :: c :: r) (j := 2) rfl
theorem at3 {a b c d : V} {r : List V} : atI (a :: b :: c :: d :: r) 3 = some d := atI_nat (xs := a :: b :: c :: d :: r) (j := 3) rfl
/-! ### names -/
def alpha : Str := "abcdefghijklmnopqrstuvwxyz"
def isLow (c : Nat) : Bool := decide (97 ≤ c ∧ c ≤ 122)
def isNm (z : Str) : Bool := decide (1 ≤ z.length) && decide (z.length ≤ 8) && z.cps.toList.all isLow
def nmV : V → Bool
  | .str z => isNm z
  | _ => false
theorem mem_alpha (c : Nat) : decide (c ∈ alpha.cps.toList) = isLow c := by
  have e : alpha.cps.toList = (List.range 26).map (· + 97) := by decide +kernel
  rw [e]
  unfold isLow
  simp only [List.mem_map, List.mem_range]
  by_cases h : 97 ≤ c ∧ c ≤ 122
  · rw [decide_eq_true h]
    exact decide_eq_true ⟨c - 97, by omega, by omega⟩
  · rw [decide_eq_false h]
    refine decide_eq_false ?_
    rintro ⟨a, h1, h2⟩
    omega
theorem nm_asc {z : Str} (h : isNm z = true) : Asc 8 z := by
  unfold isNm at h
  simp only [Bool.and_eq_true, decide_eq_true_eq, List.all_eq_true] at h
  refine ⟨h.1.2, fun c hc => ?_⟩
  have := h.2 c hc
  unfold isLow at this
  have := of_decide_eq_true this
  omega
/-- what is_name is asked of: any value whose kind is known; a text of at most a thousand signs -/
def spName (K : PySem.W.Frag) : Sp := fun vs H Q _ => ∃ (v : V) (t : Value) (b : Bool), vs = [v] ∧ TyX K H v t ∧ PySem.W.kitOne K t (.type "str") = some b ∧ (b = true → ∃ z, v = .str z ∧ Asc 1000 z) ∧ (b = false → nmV v = false) ∧ ∀ H', Same H H' → Q (.bl (nmV v)) H'
/-- a name handed to it -/
theorem name_yes {K : PySem.W.Frag} {H : Hp} {z : Str} (h : isNm z = true) {Q : VK} {E : XK} (q : ∀ H', Same H H' → Q (.bl true) H') : spName K [.str z] H Q E :=
  ⟨.str z, .type "str", true, rfl, .base (.str z), kit_ty (by decide +kernel), fun _ => ⟨z, rfl, (nm_asc h).mono (by decide)⟩, (fun z => nomatch z), fun H' s => by
    rw [show nmV (.str z) = isNm z from rfl, h]
    exact q H' s⟩
/-! ### sorts -/
inductive So
  | num (lo hi : Option Int)
  | tru
  | txt (n : Int)
  | row (n : Int) (s : So)
  | may (s : So)
  | nod (k : Str)
  | cho (c : Str)
def So.word : So → Str
  | num _ _ => "number"
  | tru => "truth"
  | txt _ => "text"
  | row _ _ => "row"
  | may _ => "maybe"
  | nod _ => "node"
  | cho _ => "choice"
def So.rest : So → List PyData
  | num lo hi => [oI lo, oI hi]
  | tru => []
  | txt n => [.int n]
  | row n s => [.int n, .tuple (.str s.word :: s.rest)]
  | may s => [.tuple (.str s.word :: s.rest)]
  | nod k => [.str k]
  | cho c => [.str c]
/-- the sort as data -/
def So.pd (s : So) : PyData := .tuple (.str s.word :: s.rest)
def loHi : Option Int → Option Int → Prop
  | some a, some b => a ≤ b
  | _, _ => True
def So.ok (ks cs : List Str) : Bool → So → Prop
  | _, num lo hi => loHi lo hi
  | _, tru => True
  | _, txt n => 0 ≤ n ∧ n ≤ 40
  | _, row n s => 0 ≤ n ∧ n ≤ 20 ∧ s.ok ks cs false
  | i, may s => i = false ∧ s.ok ks cs true
  | _, nod k => isNm k = true ∧ k ∈ ks
  | _, cho c => isNm c = true ∧ c ∈ cs
def So.depth : So → Nat
  | row _ s => s.depth + 1
  | may s => s.depth + 1
  | _ => 0
def So.inmost : So → Prop
  | row _ _ => False
  | may _ => False
  | _ => True
theorem Td.oV {K : PySem.W.Frag} {H : Hp} {v : V} {o : Option Int} (h : Td K H v (oI o)) : v = Tw.oV o := by
  cases o with
  | none => exact h.toNone
  | some n => exact h.toInt
/-- a text of plain signs -/
def plainC (c : Nat) : Bool := decide (32 ≤ c ∧ c ≤ 126 ∧ c ≠ 37)
def figs : Int := 999999999999999999999999999999999999999999999999999999999999
/-- what may stand as a default of a sort -/
def DefOk : So → PyData → Prop
  | .num lo hi, .int n => (∀ a, lo = some a → a ≤ n) ∧ (∀ b, hi = some b → n ≤ b) ∧ -figs ≤ n ∧ n ≤ figs
  | .tru, .bool _ => True
  | .txt m, .str z => (z.length : Int) ≤ m ∧ z.cps.toList.all plainC = true ∧ z.length ≤ 40
  | .row _ _, .tuple [] => True
  | .may _, .none => True
  | _, _ => False
/-! ### entries -/
structure En where
  num : Int
  name : Str
  of : Option So
  left : Option PyData
def En.pd (e : En) : PyData := .tuple ([.int e.num, .str e.name, e.of.elim .none So.pd] ++ e.left.toList)
/-- an entry that may stand in a kind's row (k) or in a choice's, behind the earlier ones -/
structure EnOk (k : Bool) (ks cs : List Str) (earlier : List En) (e : En) : Prop where
  name : isNm e.name = true
  newN : e.name ∉ earlier.map En.name
  lo : (if k = true then 1 else 0) ≤ e.num
  hi : e.num ≤ 99
  newI : e.num ∉ earlier.map En.num
  none : e.of = none → k = false ∧ e.left = none
  some : ∀ s, e.of = some s → e.num ≠ 0 ∧ s.ok ks cs false ∧ (∀ d, e.left = some d → k = true ∧ DefOk s d)
/-- the rows of a schema: each kind's (choice's) entries -/
def RowOk (k : Bool) (ks cs : List Str) (es : List En) : Prop := ∀ i e, es[i]? = some e → EnOk k ks cs (es.take i) e
/-- a row at a, a list or a tuple -/
def EnRow (K : PySem.W.Frag) (H : Hp) (es : List En) (v : V) : Prop := ∃ a xs, v = .ref a ∧ SqR K H a xs ∧ Tds K H xs (es.map En.pd)
theorem Tds.at_ {K : PySem.W.Frag} {H : Hp} : ∀ {xs : List V} {ds : List PyData} {i : Nat} {x : V}, Tds K H xs ds → xs[i]? = some x → ∃ d, ds[i]? = some d ∧ Td K H x d
  | _, _, 0, _, .cons h _, e => ⟨_, rfl, by cases e; exact h⟩
  | _, _, i + 1, _, .cons _ r, e => Tds.at_ (i := i) r e
theorem Tds.take {K : PySem.W.Frag} {H : Hp} : ∀ {xs : List V} {ds : List PyData} (i : Nat), Tds K H xs ds → Tds K H (xs.take i) (ds.take i)
  | _, _, 0, _ => .nil
  | _, _, _ + 1, .nil => .nil
  | _, _, i + 1, .cons h r => .cons h (Tds.take i r)
theorem Tds.drop {K : PySem.W.Frag} {H : Hp} : ∀ {xs : List V} {ds : List PyData} (i : Nat), Tds K H xs ds → Tds K H (xs.drop i) (ds.drop i)
  | _, _, 0, h => h
  | _, _, _ + 1, .nil => .nil
  | _, _, i + 1, .cons _ r => Tds.drop i r
/-- a list of names -/
def NmL (H : Hp) (a : Addr) (ks : List Str) : Prop := H a = some (.lst (ks.map V.str))
theorem NmL.same {H H' : Hp} {a : Addr} {ks : List Str} (h : NmL H a ks) (s : Same H H') : NmL H' a ks := s _ _ h
theorem flat_strs : ∀ ks : List Str, (ks.map V.str).all flatV = true
  | [] => rfl
  | _ :: r => flat_strs r
theorem in_strs {k : Str} : ∀ {ks : List Str}, k ∈ ks → inV (.str k) (ks.map V.str) = true
  | a :: r, h => by
    show ((a == k) || inV (.str k) (r.map V.str)) = true
    rcases List.mem_cons.mp h with rfl | h
    · simp
    · rw [in_strs h, Bool.or_true]
theorem nin_strs {k : Str} : ∀ {ks : List Str}, k ∉ ks → inV (.str k) (ks.map V.str) = false
  | [], _ => rfl
  | a :: r, h => by
    show ((a == k) || inV (.str k) (r.map V.str)) = false
    rw [nin_strs (fun z => h (List.mem_cons_of_mem _ z)), Bool.or_false]
    exact beq_eq_false_iff_ne.mpr fun e => h (e ▸ List.mem_cons_self)
theorem flat_ints : ∀ ks : List Int, (ks.map V.int).all flatV = true
  | [] => rfl
  | _ :: r => flat_ints r
theorem nin_ints {k : Int} : ∀ {ks : List Int}, k ∉ ks → inV (.int k) (ks.map V.int) = false
  | [], _ => rfl
  | a :: r, h => by
    show ((a == k) || inV (.int k) (r.map V.int)) = false
    rw [nin_ints (fun z => h (List.mem_cons_of_mem _ z)), Bool.or_false]
    exact beq_eq_false_iff_ne.mpr fun e => h (e ▸ List.mem_cons_self)
theorem So.word_row : ∀ {s : So}, s.inmost → s.word ≠ "row" ∧ s.word ≠ "maybe"
  | .num _ _, _ => ⟨show ("number" : Str) ≠ "row" by decide +kernel, show ("number" : Str) ≠ "maybe" by decide +kernel⟩
  | .tru, _ => ⟨show ("truth" : Str) ≠ "row" by decide +kernel, show ("truth" : Str) ≠ "maybe" by decide +kernel⟩
  | .txt _, _ => ⟨show ("text" : Str) ≠ "row" by decide +kernel, show ("text" : Str) ≠ "maybe" by decide +kernel⟩
  | .nod _, _ => ⟨show ("node" : Str) ≠ "row" by decide +kernel, show ("node" : Str) ≠ "maybe" by decide +kernel⟩
  | .cho _, _ => ⟨show ("choice" : Str) ≠ "row" by decide +kernel, show ("choice" : Str) ≠ "maybe" by decide +kernel⟩
  | .row _ _, h => h.elim
  | .may _, h => h.elim
theorem So.rest_len : ∀ s : So, s.rest.length ≤ 2
  | .num _ _ => Nat.le_refl _
  | .tru => Nat.zero_le _
  | .txt _ => by show 1 ≤ 2; decide
  | .nod _ => by show 1 ≤ 2; decide
  | .cho _ => by show 1 ≤ 2; decide
  | .row _ _ => Nat.le_refl _
  | .may _ => by show 1 ≤ 2; decide
theorem cut3 (a b c : V) (ys : List V) : cutV (a :: b :: c :: ys) none (some 3) = [a, b, c] := by
  unfold cutV
  rw [HT.sIx_none, show (some (3 : Int)) = some ((3 : Nat) : Int) from rfl, HT.sIx_nat]
  show List.take (min 3 (ys.length + 3) - 0) (a :: b :: c :: ys) = _
  rw [Nat.min_eq_left (by omega)]
  rfl
theorem whole3 {a b c : V} {ys : List V} (h : HT.sIx (a :: b :: c :: ys).length (a :: b :: c :: ys).length (some 3) = (a :: b :: c :: ys).length) : ys = [] := by
  rw [show (some (3 : Int)) = some ((3 : Nat) : Int) from rfl, HT.sIx_nat] at h
  simp only [List.length_cons] at h
  exact List.length_eq_zero_iff.mp (by omega)
/-! ### a dict while it is walked -/
theorem unlock {H H' : Hp} {d : Addr} {u : HO} {od : Obj} (hd : H d = some u) (s : Same (upd H d (.frz od u)) H') : Same H (upd H' d u) := fun b o e => by
  by_cases hb : b = d
  · subst hb
    rw [upd_same, ← hd, e]
  · rw [upd_ne hb]
    exact s b o (by rw [upd_ne hb]; exact e)
theorem lock_keep {K : PySem.W.Frag} {H : Hp} {d : Addr} {kvs : List (Key × V)} {od : Obj} (hd : H d = some (.dK kvs)) : KeepT K H (upd H d (.frz od (.dK kvs))) := KeepT.but fun b o e => by
  have nb : (∀ k, o ≠ .dK k) → b ≠ d := fun n w => by
    rw [w, hd] at e
    exact n _ (Option.some.inj e).symm
  refine ⟨fun xs w => ?_, fun q xs w => ?_⟩
  · rw [upd_ne (nb fun k z => by rw [w] at z; cases z)]
    exact e
  · rw [upd_ne (nb fun k z => by rw [w] at z; cases z)]
    exact e
theorem lock_list {K : PySem.W.Frag} {H : Hp} {d a : Addr} {kvs : List (Key × V)} {xs : List V} {od : Obj} (hd : H d = some (.dK kvs)) (h : SqL K H a xs) : SqL K (upd H d (.frz od (.dK kvs))) a xs := by
  have nb : ∀ {b : Addr} {o : HO}, H b = some o → (∀ k, o ≠ .dK k) → b ≠ d := fun e n w => by
    rw [w, hd] at e
    exact n _ (Option.some.inj e).symm
  rcases h with (h | ⟨o, h⟩) | h
  · exact .inl (.inl (by rw [upd_ne (nb h fun k z => nomatch z)]; exact h))
  · exact .inl (.inr ⟨o, by rw [upd_ne (nb h fun k z => nomatch z)]; exact h⟩)
  · exact .inr h
theorem unlock_keep {K : PySem.W.Frag} {H : Hp} {d : Addr} {kvs : List (Key × V)} {od : Obj} (hd : H d = some (.frz od (.dK kvs))) : KeepT K H (upd H d (.dK kvs)) := KeepT.but fun b o e => by
  have nb : (∀ q k, o ≠ .frz q (.dK k)) → b ≠ d := fun n w => by
    rw [w, hd] at e
    exact n _ _ (Option.some.inj e).symm
  refine ⟨fun xs w => ?_, fun q xs w => ?_⟩
  · rw [upd_ne (nb fun q k z => by rw [w] at z; cases z)]
    exact e
  · rw [upd_ne (nb fun q k z => by rw [w] at z; cases z)]
    exact e
/-! ### a schema's rows by their names -/
abbrev TRow := Str × List En
/-- the entries of a dict, name by name -/
def RowIs (K : PySem.W.Frag) (H : Hp) (kv : Key × V) (r : TRow) : Prop := kv.1 = .inr r.1 ∧ EnRow K H r.2 kv.2
def TabOk (k : Bool) (ks cs : List Str) (tb : List TRow) : Prop := ∀ r ∈ tb, isNm r.1 = true ∧ RowOk k ks cs r.2 ∧ r.2.length ≤ 100 ∧ (k = false → r.2 ≠ [])
theorem rows_keys {K : PySem.W.Frag} {H : Hp} : ∀ {kvs : List (Key × V)} {tb : List TRow}, Paired (RowIs K H) kvs tb → kvs.map Prod.fst = (tb.map Prod.fst).map Sum.inr
  | _, _, .nil => rfl
  | _, _, .cons h r => by rw [List.map_cons, List.map_cons, List.map_cons, h.1, rows_keys r]
theorem pd_atL {α β : Type} {F : α → β → Prop} : ∀ {xs : List α} {ys : List β} {i : Nat} {x : α}, Paired F xs ys → xs[i]? = some x → ∃ y, ys[i]? = some y ∧ F x y
  | _, _, 0, _, .cons h _, e => ⟨_, rfl, by cases e; exact h⟩
  | _, _, i + 1, _, .cons _ r, e => pd_atL (i := i) r e
theorem key_at {kvs : List (Key × V)} {ks : List Str} (h : kvs.map Prod.fst = ks.map Sum.inr) {i : Nat} {k : Key} {v : V} (e : kvs[i]? = some (k, v)) : ∃ z, ks[i]? = some z ∧ k = .inr z := by
  have e1 : (kvs.map Prod.fst)[i]? = some k := by rw [List.getElem?_map, e] <;> rfl
  rw [h, List.getElem?_map] at e1
  obtain ⟨z, hz, rfl⟩ := Option.map_eq_some_iff.mp e1
  exact ⟨z, hz, rfl⟩
/-- a slice of a row, list or tuple, is a row -/
def rSlQ (K : PySem.W.Frag) : V → Option Int → Option Int → Hp → VK → Prop := fun x lo hi H Q => ∃ a xs, x = .ref a ∧ SqR K H a xs ∧ ∀ (H' : Hp) (t : Addr), Same H H' → SqR K H' t (cutV xs lo hi) → Q (.ref t) H'
theorem sl_sqr {X : Cx} : SlR X (rSlQ X.K) := by
  intro pins s σ H x v vl vu lo hi sl Q I rx hs pl pu ⟨a, xs, e, hr, q⟩
  subst e
  apply SlR.or (sl_list (X := X)) (sl_tupA (X := X)) pins s σ H _ v vl vu lo hi sl Q I rx hs pl pu
  cases hr with
  | inl h => exact .inl ⟨a, xs, rfl, h, fun p hp => q _ p (same_upd hp) (.inl (SqL.of upd_same))⟩
  | inr h =>
    refine .inr ⟨a, xs, rfl, h, fun w => q H a (Same.refl _) (.inr ?_), fun _ p hp => q _ p (same_upd hp) (.inr (SqT.of upd_same))⟩
    unfold cutV
    rw [w.1, w.2, List.drop_zero, Nat.sub_zero, List.take_length]
    exact h
theorem cut_take (xs : List V) (n : Nat) (h : n ≤ xs.length) : cutV xs none (some (n : Int)) = xs.take n := by
  unfold cutV
  rw [HT.sIx_none, HT.sIx_nat, List.drop_zero, Nat.sub_zero, Nat.min_eq_left h]
theorem SqL.ty {K : PySem.W.Frag} {H : Hp} {a : Addr} {xs : List V} (h : SqL K H a xs) : TyX K H (.ref a) (.type "list") := by
  rcases h with (h | ⟨o, h⟩) | ⟨o, its, n, h, c, _⟩
  · exact .base (.lst h)
  · exact .base (.frz h)
  · exact .kList h c
theorem SqR.ty {K : PySem.W.Frag} {H : Hp} {a : Addr} {xs : List V} (h : SqR K H a xs) : ∃ t, TyX K H (.ref a) t ∧ PySem.W.kitAny K t [.type "list", .type "tuple"] = some true := by
  cases h with
  | inl h => exact ⟨_, SqL.ty h, kitAny_cons (b := true) (kit_ty (by decide +kernel)) (fun z => nomatch z) fun _ => rfl⟩
  | inr h => exact ⟨_, SqT.ty h, kitAny_cons (b := false) (kit_ty (by decide +kernel)) (fun _ => kitAny_cons (b := true) (kit_ty (by decide +kernel)) (fun z => nomatch z) fun _ => rfl) fun z => nomatch z⟩
theorem SqR.len {K : PySem.W.Frag} {H : Hp} {a : Addr} {xs : List V} (h : SqR K H a xs) : LenV K (.ref a) H xs.length := h.elim (fun h => .inl ⟨xs, h, rfl⟩) fun h => .inr ⟨xs, h, rfl⟩
theorem TabOk.at {k : Bool} {ks cs : List Str} {tb : List TRow} (h : TabOk k ks cs tb) {i : Nat} {r : TRow} (e : tb[i]? = some r) : isNm r.1 = true ∧ RowOk k ks cs r.2 ∧ r.2.length ≤ 100 ∧ (k = false → r.2 ≠ []) := h r (List.mem_of_getElem? e)
/-! ### a row sorted by its numbers -/
def sortEn (es : List En) : List En := es.mergeSort fun a b => decide (a.num ≤ b.num)
theorem zip_fst {α β : Type} : ∀ {xs : List α} {ys : List β}, xs.length = ys.length → (xs.zip ys).map Prod.fst = xs
  | [], [], _ => rfl
  | x :: xs, y :: ys, h => by
    show x :: (xs.zip ys).map Prod.fst = _
    rw [zip_fst (Nat.succ.inj h)]
theorem zip_snd {α β : Type} : ∀ {xs : List α} {ys : List β}, xs.length = ys.length → (xs.zip ys).map Prod.snd = ys
  | [], [], _ => rfl
  | x :: xs, y :: ys, h => by
    show y :: (xs.zip ys).map Prod.snd = _
    rw [zip_snd (Nat.succ.inj h)]
theorem Tds.of_zip {K : PySem.W.Frag} {H : Hp} : ∀ {ps : List (V × En)}, (∀ p ∈ ps, Td K H p.1 p.2.pd) → Tds K H (ps.map Prod.fst) ((ps.map Prod.snd).map En.pd)
  | [], _ => .nil
  | p :: ps, h => .cons (h p List.mem_cons_self) (Tds.of_zip fun q hq => h q (List.mem_cons_of_mem _ hq))
theorem Tds.zip {K : PySem.W.Frag} {H : Hp} : ∀ {xs : List V} {es : List En}, Tds K H xs (es.map En.pd) → ∀ p ∈ xs.zip es, Td K H p.1 p.2.pd
  | [], _, _, _, hp => by simp at hp
  | _ :: _, [], _, _, hp => by simp at hp
  | x :: xs, e :: es, .cons h r, p, hp => by
    rcases List.mem_cons.mp hp with rfl | hp
    · exact h
    · exact Tds.zip r p hp
/-- .. as sorted by a lambda's keys -/
theorem sort_row {K : PySem.W.Frag} {H : Hp} {xs : List V} {es : List En} (h : Tds K H xs (es.map En.pd)) : ∃ ps : List (V × Int), ps.map Prod.fst = xs ∧ (∀ p ∈ ps, ∃ (a : Addr) (ys : List V), p.1 = .ref a ∧ SqT K H a (.int p.2 :: ys)) ∧ (∀ H', KeepT K H H' → Tds K H' ((byKey ps).map Prod.fst) ((sortEn es).map En.pd)) ∧ (byKey ps).length = es.length := by
  have hl : xs.length = es.length := by rw [h.len, List.length_map]
  refine ⟨(xs.zip es).map fun p => (p.1, p.2.num), ?_, ?_, ?_, ?_⟩
  · rw [List.map_map]
    exact zip_fst hl
  · intro p hp
    obtain ⟨q, hq, rfl⟩ := List.mem_map.mp hp
    obtain ⟨a, xs', e, h1, h2⟩ := Td.row (show Td K H q.1 (.tuple (.int q.2.num :: _)) from h.zip q hq)
    cases h2 with
    | cons t1 t2 =>
      cases t1
      exact ⟨a, _, e, h1⟩
  · intro H' k
    have e1 : byKey ((xs.zip es).map fun p => (p.1, p.2.num)) = ((xs.zip es).mergeSort fun a b => decide (a.2.num ≤ b.2.num)).map fun p => (p.1, p.2.num) := by
      unfold byKey
      exact (List.map_mergeSort (r := fun a b : V × En => decide (a.2.num ≤ b.2.num)) (s := fun a b : V × Int => decide (a.2 ≤ b.2)) (f := fun p : V × En => (p.1, p.2.num)) (fun _ _ _ _ => rfl)).symm
    have e2 : sortEn es = ((xs.zip es).mergeSort fun a b => decide (a.2.num ≤ b.2.num)).map Prod.snd := by
      rw [List.map_mergeSort (r := fun a b : V × En => decide (a.2.num ≤ b.2.num)) (s := fun a b : En => decide (a.num ≤ b.num)) (f := Prod.snd) (fun _ _ _ _ => rfl), zip_snd hl] <;> rfl
    rw [e1, e2, List.map_map]
    exact Tds.of_zip fun p hp => (h.zip p (List.mem_mergeSort.mp hp)).keep k
  · unfold byKey
    rw [List.length_mergeSort, List.length_map, List.length_zip, hl, Nat.min_self]
/-- the rows as a schema has them: tuples, by rising numbers -/
def RowT (K : PySem.W.Frag) (H : Hp) (kv : Key × V) (r : TRow) : Prop := kv.1 = .inr r.1 ∧ ∃ a xs, kv.2 = .ref a ∧ SqT K H a xs ∧ Tds K H xs (r.2.map En.pd)
def sortT (tb : List TRow) : List TRow := tb.map fun r => (r.1, sortEn r.2)
theorem RowT.keep {K : PySem.W.Frag} {H H' : Hp} (k : KeepT K H H') {kv : Key × V} {r : TRow} (h : RowT K H kv r) : RowT K H' kv r := by
  obtain ⟨e, a, xs, e2, h1, h2⟩ := h
  exact ⟨e, a, xs, e2, k _ _ h1, h2.keep k⟩
/-! ### the tables stay where other things are changed -/
/-- no table, no code object -/
def NoTab (o : HO) : Prop := (∀ ps, o ≠ .tbl ps) ∧ ∀ c q, o ≠ CodeO c q
theorem tabs_put {T : List (Addr × Str)} {H : Hp} {d : Addr} {o1 : HO} (h : Tabs T H) (hd : ∀ o, H d = some o → NoTab o) : Tabs T (upd H d o1) := fun p hp => by
  obtain ⟨ps, h1, h2, h3⟩ := h p hp
  refine ⟨ps, ?_, h2, fun pos cv hc => ?_⟩
  · rw [upd_ne (show p.1 ≠ d from fun w => (hd _ (by rw [← w]; exact h1)).1 ps rfl)]
    exact h1
  · obtain ⟨c, e1, e2⟩ := h3 pos cv hc
    refine ⟨c, e1, ?_⟩
    rw [upd_ne (show c ≠ d from fun w => (hd _ (by rw [← w]; exact e2)).2 c p.2 rfl)]
    exact e2
theorem tabs_new {T : List (Addr × Str)} {H : Hp} {d : Addr} {o1 : HO} (h : Tabs T H) (hd : H d = none) : Tabs T (upd H d o1) := tabs_put h fun o e => by rw [hd] at e; cases e
theorem NoTab.dK {kvs : List (Key × V)} : NoTab (.dK kvs) := And.intro (fun _ z => nomatch z) (fun c q (z : HO.dK kvs = CodeO c q) => by unfold CodeO at z; cases z)
theorem NoTab.frz {o : Obj} {u : HO} : NoTab (.frz o u) := And.intro (fun _ z => nomatch z) (fun c q (z : HO.frz o u = CodeO c q) => by unfold CodeO at z; cases z)
theorem NoTab.lst {xs : List V} : NoTab (.lst xs) := And.intro (fun _ z => nomatch z) (fun c q (z : HO.lst xs = CodeO c q) => by unfold CodeO at z; cases z)
theorem NoTab.ins {C dx : Addr} {fs : List (Str × V)} : NoTab (.ins C dx fs) := And.intro (fun _ z => nomatch z) (fun c q (z : HO.ins C dx fs = CodeO c q) => by unfold CodeO at z; cases z)
theorem extN_new {H H' : Hp} {d : Addr} {o : HO} (e : ExtN H H') (hd : H d = none) : ExtN H (upd H' d o) := fun b u q n => by
  rw [upd_ne (ne_of_none q hd)]
  exact e b u q n
theorem putK_new {kvs : List (Key × V)} {k : Key} {v : V} (h : k ∉ kvs.map Prod.fst) : putK kvs k v = kvs ++ [(k, v)] := by
  unfold putK
  rw [if_neg]
  intro hh
  obtain ⟨x, hx, hk⟩ := List.any_eq_true.mp hh
  exact h (List.mem_map.mpr ⟨x, hx, of_decide_eq_true hk⟩)
theorem rowsT_keys {K : PySem.W.Frag} {H : Hp} : ∀ {kvs : List (Key × V)} {tb : List TRow}, Paired (RowT K H) kvs tb → kvs.map Prod.fst = (tb.map Prod.fst).map Sum.inr
  | _, _, .nil => rfl
  | _, _, .cons h r => by rw [List.map_cons, List.map_cons, List.map_cons, h.1, rowsT_keys r]
/-- the row of a name -/
theorem val_row {K : PySem.W.Frag} {H : Hp} {r : TRow} : ∀ {kvs : List (Key × V)} {tb : List TRow}, Paired (RowT K H) kvs tb → (tb.map Prod.fst).Nodup → r ∈ tb → ∃ a xs, valV kvs (.inr r.1) = some (.ref a) ∧ SqT K H a xs ∧ Tds K H xs (r.2.map En.pd)
  | [], [], .nil, _, hm => nomatch hm
  | (k, v) :: kvs, r0 :: tb, .cons h hr, nd, hm => by
    rw [List.map_cons, List.nodup_cons] at nd
    obtain ⟨hk, a, xs, e, h1, h2⟩ := h
    have hk : k = .inr r0.1 := hk
    have e : v = .ref a := e
    subst hk e
    rcases List.mem_cons.mp hm with rfl | hm
    · exact ⟨a, xs, by simp [valV], h1, h2⟩
    · obtain ⟨a', xs', g1, g2⟩ := val_row hr nd.2 hm
      have ne : (Sum.inr r0.1 : Key) ≠ .inr r.1 := fun z => nd.1 (List.mem_map.mpr ⟨r, hm, (Sum.inr.inj z).symm⟩)
      refine ⟨a', xs', ?_, g2⟩
      unfold valV at g1 ⊢
      rw [List.find?_cons, decide_eq_false ne]
      exact g1
/-- no choice comes back to itself by its first cases -/
def Fwd (tb : List TRow) : Prop := ∃ rank : Str → Nat, ∀ r ∈ tb, ∀ e, r.2[0]? = some e → ∀ c, e.of = some (.cho c) → rank r.1 < rank c ∧ c ∈ tb.map Prod.fst
/-! ### a schema's object -/
structure ClS (K : PySem.W.Frag) (C : Addr) : Prop where
  cl : Cls K C
  nK : NoAttr K C "kinds"
  nC : NoAttr K C "choices"
  nR : NoAttr K C "root"
/-- all but the object at p and the tables stay -/
def ButN (p : Addr) (H H' : Hp) : Prop := ∀ b o, b ≠ p → H b = some o → (∀ ps, o ≠ .tbl ps) → H' b = some o
theorem ButN.of {p : Addr} {H H' : Hp} (e : ExtN H H') : ButN p H H' := fun b o _ => e b o
theorem ButN.trans {p : Addr} {H H1 H2 : Hp} (a : ButN p H H1) (b : ButN p H1 H2) : ButN p H H2 := fun c o h e n => b c o h (a c o h e n) n
theorem ButN.put {p : Addr} {H H' : Hp} {o : HO} (a : ButN p H H') : ButN p H (upd H' p o) := fun c u h e n => by
  rw [upd_ne h]
  exact a c u h e n
theorem keepT_ins {K : PySem.W.Frag} {H : Hp} {p C dx : Addr} {fs fs' : List (Str × V)} (h : H p = some (.ins C dx fs)) : KeepT K H (upd H p (.ins C dx fs')) := KeepT.but fun b o e => by
  have nb : (∀ fs, o ≠ .ins C dx fs) → b ≠ p := fun n w => by
    rw [w, h] at e
    exact n _ (Option.some.inj e).symm
  exact ⟨fun xs w => by rw [upd_ne (nb fun k z => by rw [w] at z; cases z)]; exact e, fun q xs w => by rw [upd_ne (nb fun k z => by rw [w] at z; cases z)]; exact e⟩
/-- nothing but a table stands there -/
def New (H : Hp) (b : Addr) : Prop := ∀ o, H b = some o → ∃ ps, o = .tbl ps
/-- the schema at p: its rows (their tables out of N), its root -/
def ScAt (K : PySem.W.Frag) (C : Addr) (N : Addr → Prop) (H : Hp) (p : Addr) (tb1 tb2 : List TRow) (s : So) : Prop := ∃ (dx k1 k2 : Addr) (kv1 kv2 : List (Key × V)) (rv : V), N k1 ∧ N k2 ∧ H p = some (.ins C dx [("kinds", .ref k1), ("choices", .ref k2), ("root", rv)]) ∧ H k1 = some (.dK kv1) ∧ Paired (RowT K H) kv1 (sortT tb1) ∧ H k2 = some (.dK kv2) ∧ Paired (RowT K H) kv2 (sortT tb2) ∧ Td K H rv s.pd
/-- what makes a schema -/
structure ScOk (tb1 tb2 : List TRow) (s : So) : Prop where
  t1 : TabOk true (tb1.map Prod.fst) (tb2.map Prod.fst) tb1
  t2 : TabOk false (tb1.map Prod.fst) (tb2.map Prod.fst) tb2
  n1 : (tb1.map Prod.fst).Nodup
  n2 : (tb2.map Prod.fst).Nodup
  l1 : tb1.length ≤ 1000
  l2 : tb2.length ≤ 1000
  ok : s.ok (tb1.map Prod.fst) (tb2.map Prod.fst) false
  fwd : Fwd (sortT tb2)
end Tw
namespace K34
open PySem PySem.Spec PyProof.Rows L2 Tw Sb LamX
section
variable {P : Program} {w : World} {K : PySem.W.Frag} {mg : Str → Option Value} {base : Heap}
theorem ok_is_whole {f : Addr} {fd : FuncData} (F : Fun K "is_whole" "is_whole" s_is_whole f fd) (T : Bt mg) : FnOk P w K mg base CX0 1 f fd ["thing"] (spWhole K) := by
  refine F.ok sc_is_whole (fun vs H Q E h => ?_) (fun cdv A outer s H vs Q E hr h => ?_)
  · obtain ⟨v, t, b1, b2, rfl, _⟩ := h
    rfl
  · obtain ⟨v, t, b1, b2, rfl, hT, h1, h2, q⟩ := h
    refine ⟨_, (pss_one (ps_ret (pe_and (pe_callB (id := "isinstance") (r := rIsi K) call_isi (by rfl) T.n_isinstance (by decide +kernel) (pa_cons (pv 0) (pa_cons (pe_bltn (v := .ty "int") rfl T.n_int (by decide +kernel) rfl) pa_nil))) (pe_one (pe_not (pe_callB (id := "isinstance") (r := rIsi K) call_isi (by rfl) T.n_isinstance (by decide +kernel) (pa_cons (pv 0) (pa_cons (pe_bltn (v := .ty "bool") rfl T.n_bool (by decide +kernel) rfl) pa_nil)))))))), ?_⟩
    refine ⟨v, rfl, v, .ty "int", t, .type "int", b1, rfl, .ty "int", hT, h1, b1, rfl, ?_⟩
    cases b1 with
    | true => exact ⟨v, rfl, v, .ty "bool", t, .type "bool", b2, rfl, .ty "bool", hT, h2 rfl, b2, rfl, q⟩
    | false => exact q
theorem ok_is_row {f : Addr} {fd : FuncData} (F : Fun K "is_row" "is_row" s_is_row f fd) (T : Bt mg) : FnOk P w K mg base CX0 1 f fd ["thing"] (spRow K) := by
  refine F.ok sc_is_row (fun vs H Q E h => ?_) (fun cdv A outer s H vs Q E hr h => ?_)
  · obtain ⟨v, t, b, rfl, _⟩ := h
    rfl
  · obtain ⟨v, t, b, rfl, hT, h1, q⟩ := h
    refine ⟨_, (pss_one (ps_ret (pe_callB (id := "isinstance") (r := rIsiT K) call_isiT (by rfl) T.n_isinstance (by decide +kernel) (pa_cons (pv 0) (pa_cons (pe_tup (pa_cons (pe_bltn (v := .ty "list") rfl T.n_list (by decide +kernel) rfl) (pa_cons (pe_bltn (v := .ty "tuple") rfl T.n_tuple (by decide +kernel) rfl) pa_nil))) pa_nil))))), ?_⟩
    refine ⟨v, rfl, by show 2 ≤ sizeLine; decide, fun p hp => ?_⟩
    exact ⟨v, p, _, t, _, b, rfl, upd_same, .cons (.ty _) (.cons (.ty _) .nil), TyX.same (same_upd hp) hT, h1, q _ (same_upd hp)⟩
theorem ok_is_name {f : Addr} {fd : FuncData} (F : Fun K "is_name" "is_name" s_is_name f fd) (T : Bt mg) (g_LETTERS : ∃ u, mg "LETTERS" = some u ∧ RelV (.str alpha) u) (g_MOST_LETTERS : Gi mg "MOST_LETTERS" 8) : FnOk P w K mg base CX0 1 f fd ["thing"] (spName K) := by
  refine F.ok sc_is_name (fun vs H Q E h => ?_) (fun cdv A outer s H vs Q E hr h => ?_)
  · obtain ⟨v, t, b, rfl, _⟩ := h
    rfl
  · obtain ⟨v, t, b, rfl, hT, hk, h1, h0, q⟩ := h
    refine ⟨_, (pss_cons (ps_if (PW.pt (pw_or (pt_not (pt_val (pe_callB (id := "isinstance") (r := rIsi K) call_isi (by rfl) T.n_isinstance (by decide +kernel) (pa_cons (pv 0) (pa_cons (pe_bltn (v := .ty "str") rfl T.n_str (by decide +kernel) rfl) pa_nil))))) (pw_or1 (pt_not (pt_chain op_le op_le pe_int (pe_callB call_len_str (by rfl) T.n_len (by decide +kernel) (pa_cons (pv 0) pa_nil)) (C8.pe_gc rfl g_MOST_LETTERS))))))
        (pss_one (ps_ret pe_bl))
        pss_nil)
      (pss_one (ps_ret (pe_callB (cr_all rfl) (by rfl) T.n_all (by decide +kernel) (pa_cons (pe_lc (own := [("letter", 1)]) rfl sc_is_name.nd (pi_str (pv 0)) (blkOk_by (N := N_is_name) (sc := defScope s_is_name) (by decide +kernel)) (fun _ _ _ _ _ => (pg_name (i := 1) sc_is_name.nd rfl (.inl rfl))) (fun _ _ _ _ _ => pts_nil) (fun _ _ _ _ _ => (pe_cmpR op_in_sign (pv 1) (C8.pe_gc rfl g_LETTERS) (by rfl)))) pa_nil))))), ?_⟩
    refine ⟨v, rfl, v, .ty "str", t, .type "str", b, rfl, .ty "str", hT, hk, b, rfl, ?_⟩
    cases b with
    | false =>
      refine iteT ?_
      have e := h0 rfl
      rw [e] at q
      exact q _ (Same.refl _)
    | true =>
      obtain ⟨z, rfl, hz⟩ := h1 rfl
      have hzl : z.length ≤ sizeLine := Nat.le_trans hz.le (by decide)
      refine iteF ?_
      refine ⟨.str z, rfl, z, rfl, hzl, 1, (z.length : Int), rfl, rfl, _, rfl, ?_⟩
      refine ite2 (fun g1 => ?_) (fun g1 => ?_)
      · refine ⟨_, _, rfl, rfl, _, rfl, ?_⟩
        refine ite2 (fun g2 => ?_) (fun g2 => ?_)
        · have e8 : ¬ (z.length : Int) ≤ 8 := by simpa using g2
          have e : nmV (.str z) = false := by
            show isNm z = false
            unfold isNm
            rw [decide_eq_false (show ¬ z.length ≤ 8 by omega)]
            simp
          rw [e] at q
          exact q _ (Same.refl _)
        · have e8 : (z.length : Int) ≤ 8 := by simpa using g2
          have e1 : 1 ≤ (z.length : Int) := by simpa using g1
          have hsz : z.cps.size = z.cps.toList.length := by simp
          refine ⟨.str z, rfl, z, rfl, fun D hD => lc_it walk_str (fun i H' => Same H H' ∧ H' D = some (.lst ((z.cps.toList.take i).map fun c => V.bl (isLow c)))) ⟨same_upd hD, upd_same⟩ (fun _ _ _ _ => trivial) ?_ ?_⟩
          · rintro i x H1 H2 hi ⟨hs, hl⟩ ⟨rfl, c, hc, rfl⟩
            refine ⟨rfl, _, rfl, c, alpha, rfl, rfl, _, hl, ?_, ?_, ?_⟩
            · rw [List.length_map, List.length_take]
              exact Nat.lt_of_le_of_lt (Nat.min_le_left _ _) (small1000 (by have e : z.cps.size = z.length := rfl; omega))
            · intro b o e
              have n : b ≠ D := ne_of_none e hD
              rw [upd_ne n]
              exact hs b o e
            · rw [upd_same, mem_alpha]
              have hc' : z.cps.toList[i]? = some c := by simpa using hc
              rw [List.take_add_one, hc', List.map_append]
              rfl
          · rintro H1 ⟨hs, hl⟩
            rw [hsz, List.take_length] at hl
            refine ⟨D, z.cps.toList.map isLow, rfl, .inl (.inl (by rw [hl, List.map_map]; rfl)), ?_⟩
            have e : nmV (.str z) = (z.cps.toList.map isLow).all id := by
              show isNm z = _
              unfold isNm
              rw [decide_eq_true (show 1 ≤ z.length by omega), decide_eq_true (show z.length ≤ 8 by omega), List.all_map]
              rfl
            rw [← e]
            exact q _ hs
      · refine ⟨_, rfl, ?_⟩
        have e1 : ¬ 1 ≤ (z.length : Int) := by simpa using g1
        have e : nmV (.str z) = false := by
          show isNm z = false
          unfold isNm
          rw [decide_eq_false (show ¬ 1 ≤ z.length by omega)]
          rfl
        rw [e] at q
        exact q _ (Same.refl _)
end
end K34
namespace K34
open PySem PySem.Spec PyProof.Rows L2 Tw Sb LamX
def spCode : Sp := fun vs H Q _ => ∃ (c : Nat), vs = [.int c] ∧ plainC c = true ∧ Q (.bl true) H
def spText : Sp := fun vs H Q _ => ∃ (z : Str), vs = [.str z] ∧ z.cps.toList.all plainC = true ∧ z.length ≤ 1000 ∧ ∀ H', Same H H' → Q (.bl true) H'
def spKB : Sp := fun vs H Q _ => ∃ (n : Int) (lo hi : Option Int), vs = [.int n, oV lo, oV hi] ∧ (∀ a, lo = some a → a ≤ n) ∧ (∀ b, hi = some b → n ≤ b) ∧ Q (.bl true) H
def spKF : Sp := fun vs H Q _ => ∃ (n : Int), vs = [.int n] ∧ -figs ≤ n ∧ n ≤ figs ∧ Q (.bl true) H
def spMost : Sp := fun vs H Q _ => ∃ (m l : Int), vs = [.int m, .int l] ∧ 0 ≤ m ∧ m ≤ l ∧ Q (.bl true) H
def spBounds : Sp := fun vs H Q _ => ∃ (lo hi : Option Int), vs = [oV lo, oV hi] ∧ loHi lo hi ∧ Q (.bl true) H
def spFirst (K : PySem.W.Frag) : Sp := fun vs H Q _ => ∃ (v : V) (s : Str) (r : List PyData), vs = [v] ∧ Td K H v (.tuple (.str s :: r)) ∧ r.length ≤ 1000 ∧ Q (.str s) H
section
variable {P : Program} {w : World} {K : PySem.W.Frag} {mg : Str → Option Value} {base : Heap}
theorem ok_is_code {f : Addr} {fd : FuncData} (F : Fun K "is_code" "is_code" s_is_code f fd) (g_FIRST_SIGN : Gi mg "FIRST_SIGN" 32) (g_LAST_SIGN : Gi mg "LAST_SIGN" 126) (g_PERCENT_SIGN : Gi mg "PERCENT_SIGN" 37) : FnOk P w K mg base CX0 1 f fd ["code"] spCode := by
  refine F.ok sc_is_code (fun vs H Q E h => ?_) (fun cdv A outer s H vs Q E hr h => ?_)
  · obtain ⟨c, rfl, _⟩ := h
    rfl
  · obtain ⟨c, rfl, hc, q⟩ := h
    refine ⟨_, (pss_one (ps_ret (pe_and (pe_chain op_le op_le (C8.pe_gc rfl g_FIRST_SIGN) (pv 0) (C8.pe_gc rfl g_LAST_SIGN)) (pe_one (pe_cmpR op_ne (pv 0) (C8.pe_gc rfl g_PERCENT_SIGN) (nomark _)))))), ?_⟩
    unfold plainC at hc
    have hc := of_decide_eq_true hc
    refine ⟨_, rfl, 32, c, rfl, rfl, _, rfl, ?_⟩
    rw [decide_eq_true (show (32 : Int) ≤ c by omega)]
    refine ⟨c, 126, rfl, rfl, ?_⟩
    dsimp only
    rw [decide_eq_true (show (c : Int) ≤ 126 by omega)]
    refine ⟨_, rfl, _, rfl, rfl, ?_⟩
    rw [decide_eq_false (show ¬ V.int (c : Int) = V.int 37 from fun z => by have := V.int.inj z; omega)]
    exact q
theorem ok_keeps_bounds {f : Addr} {fd : FuncData} (F : Fun K "keeps_bounds" "keeps_bounds" s_keeps_bounds f fd) : FnOk P w K mg base CX0 1 f fd ["number", "low", "high"] spKB := by
  refine F.ok sc_keeps_bounds (fun vs H Q E h => ?_) (fun cdv A outer s H vs Q E hr h => ?_)
  · obtain ⟨n, lo, hi, rfl, _⟩ := h
    rfl
  · obtain ⟨n, lo, hi, rfl, h1, h2, q⟩ := h
    refine ⟨_, (pss_cons (ps_if (PW.pt (pw_and (pt_cmpR op_notN (pv 1) pe_non (nomark _)) (pw_and1 (pt_cmpR op_lt (pv 0) (pv 1) (nomark _)))))
        (pss_one (ps_ret pe_bl))
        pss_nil)
      (pss_one (ps_ret (pe_or (pe_cmpR op_isN (pv 2) pe_non (nomark _)) (pe_one (pe_cmpR op_le (pv 0) (pv 2) (nomark _))))))), ?_⟩
    have fin : (tRet (tOrV (tOp (fun x y H Q => y = V.non ∧ Q (V.bl (decide (x = V.non))) H) (tVar 2) (tC V.non)) (tOp (rI0 fun i j => V.bl (decide (i ≤ j))) (tVar 0) (tVar 2)))) { nx := fun x H' => Q V.non H', rt := Q } (L2.start N_keeps_bounds [V.int n, oV lo, oV hi]) H := by
      refine ⟨_, rfl, rfl, _, rfl, ?_⟩
      cases hi with
      | none =>
        rw [oV_none]
        exact q
      | some b =>
        rw [oV_some]
        refine ⟨_, rfl, _, rfl, n, b, rfl, rfl, ?_⟩
        dsimp only
        rw [decide_eq_true (h2 b rfl)]
        exact q
    refine ⟨_, rfl, rfl, _, rfl, ?_⟩
    cases lo with
    | none =>
      rw [oV_none]
      exact iteF fin
    | some a =>
      rw [oV_some]
      refine ⟨_, rfl, _, rfl, n, a, rfl, rfl, _, rfl, ?_⟩
      rw [decide_eq_false (show ¬ n < a by have := h1 a rfl; omega)]
      exact iteF fin
theorem ok_keeps_figures {f : Addr} {fd : FuncData} (F : Fun K "keeps_figures" "keeps_figures" s_keeps_figures f fd) (T : Bu mg) (g_GREATEST_NUMBER : Gi mg "GREATEST_NUMBER" figs) : FnOk P w K mg base CX0 1 f fd ["number"] spKF := by
  refine F.ok sc_keeps_figures (fun vs H Q E h => ?_) (fun cdv A outer s H vs Q E hr h => ?_)
  · obtain ⟨n, rfl, _⟩ := h
    rfl
  · obtain ⟨n, rfl, h1, h2, q⟩ := h
    refine ⟨_, (pss_one (ps_ret (pe_cmpR op_le (pe_callB call_abs (by rfl) T.n_abs (by decide +kernel) (pa_cons (pv 0) pa_nil)) (C8.pe_gc rfl g_GREATEST_NUMBER) (nomark _)))), ?_⟩
    refine ⟨_, rfl, n, rfl, _, figs, rfl, rfl, ?_⟩
    dsimp only
    rw [decide_eq_true (show (if n < 0 then -n else n) ≤ figs by split <;> omega)]
    exact q
theorem ok_is_most {f : Addr} {fd : FuncData} (F : Fun K "_is_most" "_is_most" s__is_most f fd) (c_is_whole : Cal P w K mg base 1 "is_whole" ["thing"] (spWhole K)) : FnOk P w K mg base CX0 2 f fd ["most", "limit"] spMost := by
  refine F.ok sc__is_most (fun vs H Q E h => ?_) (fun cdv A outer s H vs Q E hr h => ?_)
  · obtain ⟨m, l, rfl, _⟩ := h
    rfl
  · obtain ⟨m, l, rfl, h1, h2, q⟩ := h
    refine ⟨_, (pss_one (ps_ret (pe_and (pe_cal c_is_whole hr (by decide) (by rfl) (pa_cons (pv 0) pa_nil)) (pe_one (pe_chain op_le op_le pe_int (pv 0) (pv 1)))))), ?_⟩
    refine ⟨_, rfl, .int m, .type "int", true, false, rfl, .base (.int m), kit_ty (by decide +kernel), fun _ => kit_ty (by decide +kernel), ?_⟩
    refine ⟨_, rfl, _, rfl, 0, m, rfl, rfl, ?_⟩
    dsimp only
    rw [decide_eq_true h1]
    refine ⟨_, rfl, ?_⟩
    refine iteT ⟨_, rfl, m, l, rfl, rfl, ?_⟩
    dsimp only
    rw [decide_eq_true h2]
    exact q
theorem ok_are_bounds {f : Addr} {fd : FuncData} (F : Fun K "_are_bounds" "_are_bounds" s__are_bounds f fd) (c_is_whole : Cal P w K mg base 1 "is_whole" ["thing"] (spWhole K)) : FnOk P w K mg base CX0 2 f fd ["low", "high"] spBounds := by
  refine F.ok sc__are_bounds (fun vs H Q E h => ?_) (fun cdv A outer s H vs Q E hr h => ?_)
  · obtain ⟨lo, hi, rfl, _⟩ := h
    rfl
  · obtain ⟨lo, hi, rfl, h1, q⟩ := h
    refine ⟨_, (pss_cons (ps_if (PW.pt (pw_and (pt_cmpR op_notN (pv 0) pe_non (nomark _)) (pw_and1 (pt_not (pt_val (pe_cal c_is_whole hr (by decide) (by rfl) (pa_cons (pv 0) pa_nil)))))))
        (pss_one (ps_ret pe_bl))
        pss_nil)
      (pss_cons (ps_if (PW.pt (pw_and (pt_cmpR op_notN (pv 1) pe_non (nomark _)) (pw_and1 (pt_not (pt_val (pe_cal c_is_whole hr (by decide) (by rfl) (pa_cons (pv 1) pa_nil)))))))
        (pss_one (ps_ret pe_bl))
        pss_nil)
      (pss_one (ps_ret (pe_or (pe_cmpR op_isN (pv 0) pe_non (nomark _)) (pe_or (pe_cmpR op_isN (pv 1) pe_non (nomark _)) (pe_one (pe_cmpR op_le (pv 0) (pv 1) (nomark _))))))))), ?_⟩
    have fin : (tRet (tOrV (tOp (fun x y H Q => y = V.non ∧ Q (V.bl (decide (x = V.non))) H) (tVar 0) (tC V.non)) (tOrV (tOp (fun x y H Q => y = V.non ∧ Q (V.bl (decide (x = V.non))) H) (tVar 1) (tC V.non)) (tOp (rI0 fun i j => V.bl (decide (i ≤ j))) (tVar 0) (tVar 1))))) { nx := fun x H' => Q V.non H', rt := Q } (L2.start N__are_bounds [oV lo, oV hi]) H := by
      refine ⟨_, rfl, rfl, _, rfl, ?_⟩
      cases lo with
      | none =>
        rw [oV_none]
        exact q
      | some a =>
        rw [oV_some]
        refine ⟨_, rfl, rfl, _, rfl, ?_⟩
        cases hi with
        | none =>
          rw [oV_none]
          exact q
        | some b =>
          rw [oV_some]
          refine ⟨_, rfl, _, rfl, a, b, rfl, rfl, ?_⟩
          dsimp only
          rw [decide_eq_true (show a ≤ b from h1)]
          exact q
    have fin2 : (tSeq (tIfS (tAnd (tTest (tOp (fun x y H Q => y = V.non ∧ Q (V.bl !decide (x = V.non)) H) (tVar 1) (tC V.non))) (tNot (tB (tCall (spWhole K) [] E0 (tCons (tVar 1) tNil))))) (tRet (tC (V.bl false))) tNext) (tRet (tOrV (tOp (fun x y H Q => y = V.non ∧ Q (V.bl (decide (x = V.non))) H) (tVar 0) (tC V.non)) (tOrV (tOp (fun x y H Q => y = V.non ∧ Q (V.bl (decide (x = V.non))) H) (tVar 1) (tC V.non)) (tOp (rI0 fun i j => V.bl (decide (i ≤ j))) (tVar 0) (tVar 1)))))) { nx := fun x H' => Q V.non H', rt := Q } (L2.start N__are_bounds [oV lo, oV hi]) H := by
      refine ⟨_, rfl, rfl, _, rfl, ?_⟩
      cases hi with
      | none =>
        rw [oV_none]
        exact iteF fin
      | some a =>
        rw [oV_some]
        exact ⟨_, rfl, .int a, .type "int", true, false, rfl, .base (.int a), kit_ty (by decide +kernel), fun _ => kit_ty (by decide +kernel), true, rfl, iteF fin⟩
    refine ⟨_, rfl, rfl, _, rfl, ?_⟩
    cases lo with
    | none =>
      rw [oV_none]
      exact iteF fin2
    | some a =>
      rw [oV_some]
      exact ⟨_, rfl, .int a, .type "int", true, false, rfl, .base (.int a), kit_ty (by decide +kernel), fun _ => kit_ty (by decide +kernel), true, rfl, iteF fin2⟩
theorem ok_first_word {f : Addr} {fd : FuncData} (F : Fun K "_first_word" "_first_word" s__first_word f fd) (T : Bu mg) : FnOk P w K mg base CX0 1 f fd ["of"] (spFirst K) := by
  refine F.ok sc__first_word (fun vs H Q E h => ?_) (fun cdv A outer s H vs Q E hr h => ?_)
  · obtain ⟨v, s, r, rfl, _⟩ := h
    rfl
  · obtain ⟨v, z, r, rfl, h1, hl, q⟩ := h
    refine ⟨_, (pss_cons (ps_if (PW.pt (pw_and (pt_val (pe_callB (id := "isinstance") (r := rIsi K) call_isi (by rfl) T.n_isinstance (by decide +kernel) (pa_cons (pv 0) (pa_cons (pe_bltn (v := .ty "tuple") rfl T.n_tuple (by decide +kernel) rfl) pa_nil)))) (pw_and (pt_cmpR op_gt (pe_callB call_len_seq (by rfl) T.n_len (by decide +kernel) (pa_cons (pv 0) pa_nil)) pe_int (nomark _)) (pw_and1 (pt_val (pe_callB (id := "isinstance") (r := rIsi K) call_isi (by rfl) T.n_isinstance (by decide +kernel) (pa_cons (pe_ix (r := rIxT K) ix_tup (pv 0) pe_int (fun _ _ => rfl)) (pa_cons (pe_bltn (v := .ty "str") rfl T.n_str (by decide +kernel) rfl) pa_nil))))))))
        (pss_one (ps_ret (pe_ix (r := rIxT K) ix_tup (pv 0) pe_int (fun _ _ => rfl))))
        pss_nil)
      (pss_one (ps_ret pe_str))), ?_⟩
    obtain ⟨a, xs, rfl, hq, ht⟩ := h1.row
    cases ht with
    | cons hx hr' =>
      cases hx
      refine ⟨_, rfl, .ref a, .ty "tuple", .type "tuple", .type "tuple", true, rfl, .ty "tuple", SqT.ty hq, kit_ty (by decide +kernel), true, rfl, ?_⟩
      refine ⟨_, rfl, a, _, rfl, .inr hq, _, 0, rfl, rfl, _, rfl, ?_⟩
      dsimp only
      rw [decide_eq_true (show (0 : Int) < ((V.str z :: _ : List V).length : Nat) by simp only [List.length_cons]; omega)]
      refine iteT ⟨_, rfl, a, _, 0, .str z, rfl, rfl, hq, at0, .str z, .ty "str", .type "str", .type "str", true, rfl, .ty "str", .base (.str z), kit_ty (by decide +kernel), true, rfl, ?_⟩
      exact iteT ⟨_, rfl, a, _, 0, .str z, rfl, rfl, hq, at0, q⟩
end
end K34
namespace K34
open PySem PySem.Spec PyProof.Rows L2 Tw Sb LamX
def spInmost (K : PySem.W.Frag) : Sp := fun vs H Q _ => ∃ (v : V) (s : So) (i : Bool) (a b : Addr) (ks cs : List Str), vs = [.str s.word, v, .ref a, .ref b] ∧ Td K H v s.pd ∧ NmL H a ks ∧ NmL H b cs ∧ s.inmost ∧ s.ok ks cs i ∧ ∀ H', Same H H' → Q (.bl true) H'
def spSort (K : PySem.W.Frag) : Sp := fun vs H Q _ => ∃ (v : V) (s : So) (a b : Addr) (ks cs : List Str), vs = [v, .ref a, .ref b] ∧ Td K H v s.pd ∧ NmL H a ks ∧ NmL H b cs ∧ s.ok ks cs false ∧ ∀ H', Same H H' → Q (.bl true) H'
def spDeflt (K : PySem.W.Frag) : Sp := fun vs H Q _ => ∃ (v u : V) (s : So) (d : PyData), vs = [v, u] ∧ Td K H v s.pd ∧ Td K H u d ∧ DefOk s d ∧ ∀ H', Same H H' → Q (.bl true) H'
section
variable {P : Program} {w : World} {K : PySem.W.Frag} {mg : Str → Option Value} {base : Heap}
theorem ok_is_text {f : Addr} {fd : FuncData} (F : Fun K "is_text" "is_text" s_is_text f fd) (T : Bu mg) (c_is_code : Cal P w K mg base 1 "is_code" ["code"] spCode) : FnOk P w K mg base CX0 2 f fd ["thing"] spText := by
  refine F.ok sc_is_text (fun vs H Q E h => ?_) (fun cdv A outer s H vs Q E hr h => ?_)
  · obtain ⟨z, rfl, _⟩ := h
    rfl
  · obtain ⟨z, rfl, hp, hl, q⟩ := h
    refine ⟨_, (pss_one (ps_ret (pe_and (pe_callB (id := "isinstance") (r := rIsi K) call_isi (by rfl) T.n_isinstance (by decide +kernel) (pa_cons (pv 0) (pa_cons (pe_bltn (v := .ty "str") rfl T.n_str (by decide +kernel) rfl) pa_nil))) (pe_one (pe_callB (cr_all rfl) (by rfl) T.n_all (by decide +kernel) (pa_cons (pe_lc (own := [("sign", 1)]) rfl sc_is_text.nd (pi_str (pv 0)) (blkOk_by (N := N_is_text) (sc := defScope s_is_text) (by decide +kernel)) (fun _ _ _ _ _ => (pg_name (i := 1) sc_is_text.nd rfl (.inl rfl))) (fun _ _ _ _ _ => pts_nil) (fun _ _ _ _ _ => (pe_cal c_is_code hr (by decide) (by rfl) (pa_cons (pe_callB call_ord (by rfl) T.n_ord (by decide +kernel) (pa_cons (pv 1) pa_nil)) pa_nil)))) pa_nil)))))), ?_⟩
    refine ⟨_, rfl, .str z, .ty "str", .type "str", .type "str", true, rfl, .ty "str", .base (.str z), kit_ty (by decide +kernel), true, rfl, ?_⟩
    refine iteT ⟨.str z, rfl, z, rfl, fun D hD => lc_it walk_str (fun i H' => Same H H' ∧ H' D = some (.lst (List.replicate i (.bl true)))) ⟨same_upd hD, upd_same⟩ (fun _ _ _ _ => trivial) ?_ ?_⟩
    · rintro i x H1 H2 hi ⟨hs, hL⟩ ⟨rfl, c, hc, rfl⟩
      have hc' : c ∈ z.cps.toList := List.mem_of_getElem? (by simpa using hc)
      refine ⟨rfl, _, rfl, ⟨#[c]⟩, rfl, rfl, c, rfl, List.all_eq_true.mp hp c hc', _, hL, ?_, fun b o e => ?_, ?_⟩
      · rw [List.length_replicate]
        exact small1000 (by have e : z.cps.size = z.length := rfl; omega)
      · rw [upd_ne (ne_of_none e hD)]
        exact hs b o e
      · rw [upd_same, List.replicate_succ']
    · rintro H1 ⟨hs, hL⟩
      refine ⟨D, List.replicate z.cps.size true, rfl, .inl (.inl (by rw [hL, List.map_replicate])), ?_⟩
      rw [show (List.replicate z.cps.size true).all id = true by simp]
      exact q _ hs
theorem ok_is_inmost {f : Addr} {fd : FuncData} (F : Fun K "_is_inmost" "_is_inmost" s__is_inmost f fd) (T : Bu mg) (g_MOST_SIGNS : Gi mg "MOST_SIGNS" 40) (c_is_name : Cal P w K mg base 1 "is_name" ["thing"] (spName K)) (c__is_most : Cal P w K mg base 2 "_is_most" ["most", "limit"] spMost) (c__are_bounds : Cal P w K mg base 2 "_are_bounds" ["low", "high"] spBounds) :
    FnOk P w K mg base CX0 3 f fd ["word", "of", "kinds", "choices"] (spInmost K) := by
  refine F.ok sc__is_inmost (fun vs H Q E h => ?_) (fun cdv A outer s H vs Q E hr h => ?_)
  · obtain ⟨v, z, i, a, b, ks, cs, rfl, _⟩ := h
    rfl
  · obtain ⟨v, z, i, a, b, ks, cs, rfl, hT, hk, hc, hm, ho, q⟩ := h
    refine ⟨_, (pss_cons (ps_if (pt_cmpR op_eq (pv 0) pe_str (nomark _))
        (pss_one (ps_ret (pe_and (pe_cmpR op_eq (pe_callB call_len_seq (by rfl) T.n_len (by decide +kernel) (pa_cons (pv 1) pa_nil)) pe_int (nomark _)) (pe_one (pe_cal c__are_bounds hr (by decide) (by rfl) (pa_cons (pe_ix (r := rIxT K) ix_tup (pv 1) pe_int (fun _ _ => rfl)) (pa_cons (pe_ix (r := rIxT K) ix_tup (pv 1) pe_int (fun _ _ => rfl)) pa_nil)))))))
        pss_nil)
      (pss_cons (ps_if (pt_cmpR op_eq (pv 0) pe_str (nomark _))
        (pss_one (ps_ret (pe_cmpR op_eq (pe_callB call_len_seq (by rfl) T.n_len (by decide +kernel) (pa_cons (pv 1) pa_nil)) pe_int (nomark _))))
        pss_nil)
      (pss_cons (ps_if (pt_cmpR op_eq (pv 0) pe_str (nomark _))
        (pss_one (ps_ret (pe_and (pe_cmpR op_eq (pe_callB call_len_seq (by rfl) T.n_len (by decide +kernel) (pa_cons (pv 1) pa_nil)) pe_int (nomark _)) (pe_one (pe_cal c__is_most hr (by decide) (by rfl) (pa_cons (pe_ix (r := rIxT K) ix_tup (pv 1) pe_int (fun _ _ => rfl)) (pa_cons (C8.pe_gc rfl g_MOST_SIGNS) pa_nil)))))))
        pss_nil)
      (pss_cons (ps_if (pt_cmpR op_eq (pv 0) pe_str (nomark _))
        (pss_one (ps_ret (pe_and (pe_cmpR op_eq (pe_callB call_len_seq (by rfl) T.n_len (by decide +kernel) (pa_cons (pv 1) pa_nil)) pe_int (nomark _)) (pe_and (pe_cal c_is_name hr (by decide) (by rfl) (pa_cons (pe_ix (r := rIxT K) ix_tup (pv 1) pe_int (fun _ _ => rfl)) pa_nil)) (pe_one (pe_cmpR op_in_seq (pe_ix (r := rIxT K) ix_tup (pv 1) pe_int (fun _ _ => rfl)) (pv 2) (by rfl)))))))
        pss_nil)
      (pss_cons (ps_if (pt_cmpR op_eq (pv 0) pe_str (nomark _))
        (pss_one (ps_ret (pe_and (pe_cmpR op_eq (pe_callB call_len_seq (by rfl) T.n_len (by decide +kernel) (pa_cons (pv 1) pa_nil)) pe_int (nomark _)) (pe_and (pe_cal c_is_name hr (by decide) (by rfl) (pa_cons (pe_ix (r := rIxT K) ix_tup (pv 1) pe_int (fun _ _ => rfl)) pa_nil)) (pe_one (pe_cmpR op_in_seq (pe_ix (r := rIxT K) ix_tup (pv 1) pe_int (fun _ _ => rfl)) (pv 3) (by rfl)))))))
        pss_nil)
      (pss_one (ps_ret pe_bl))))))), ?_⟩
    obtain ⟨p, xs, rfl, hq, ht⟩ := hT.row
    have len : ∀ {ds : List PyData}, Tds K H xs ds → xs.length = ds.length := fun h => h.len
    cases z with
    | row n s => exact hm.elim
    | may s => exact hm.elim
    | num lo hi =>
      refine ⟨_, rfl, rfl, _, rfl, iteY rfl ?_⟩
      refine ⟨_, rfl, p, _, rfl, .inr hq, rfl, _, rfl, ?_⟩
      rw [len ht]
      obtain ⟨x0, x1, x2, rfl, h1, h2⟩ : ∃ x0 x1 x2, xs = [x0, x1, x2] ∧ x1 = oV lo ∧ x2 = oV hi := by
        cases ht with
        | cons t0 t1 =>
          cases t1 with
          | cons t1 t2 =>
            cases t2 with
            | cons t2 t3 =>
              cases t3
              exact ⟨_, _, _, rfl, t1.oV, t2.oV⟩
      subst h1 h2
      refine iteY rfl ⟨_, rfl, p, _, 1, oV lo, rfl, rfl, hq, at1, _, rfl, p, _, 2, oV hi, rfl, rfl, hq, at2, lo, hi, rfl, ho, ?_⟩
      exact q _ (Same.refl _)
    | tru =>
      refine ⟨_, rfl, rfl, _, rfl, iteN (sne (show ("truth" : Str) ≠ "number" by decide +kernel)) ?_⟩
      refine ⟨_, rfl, rfl, _, rfl, iteY rfl ?_⟩
      refine ⟨_, rfl, p, _, rfl, .inr hq, rfl, ?_⟩
      rw [len ht]
      exact q _ (Same.refl _)
    | txt n =>
      refine ⟨_, rfl, rfl, _, rfl, iteN (sne (show ("text" : Str) ≠ "number" by decide +kernel)) ?_⟩
      refine ⟨_, rfl, rfl, _, rfl, iteN (sne (show ("text" : Str) ≠ "truth" by decide +kernel)) ?_⟩
      refine ⟨_, rfl, rfl, _, rfl, iteY rfl ?_⟩
      refine ⟨_, rfl, p, _, rfl, .inr hq, rfl, _, rfl, ?_⟩
      rw [len ht]
      obtain ⟨x0, x1, rfl, h1⟩ : ∃ x0 x1, xs = [x0, x1] ∧ x1 = .int n := by
        cases ht with
        | cons t0 t1 =>
          cases t1 with
          | cons t1 t2 =>
            cases t2
            exact ⟨_, _, rfl, t1.toInt⟩
      subst h1
      refine iteY rfl ⟨_, rfl, p, _, 1, .int n, rfl, rfl, hq, at1, n, 40, rfl, ho.1, ho.2, ?_⟩
      exact q _ (Same.refl _)
    | nod k =>
      refine ⟨_, rfl, rfl, _, rfl, iteN (sne (show ("node" : Str) ≠ "number" by decide +kernel)) ?_⟩
      refine ⟨_, rfl, rfl, _, rfl, iteN (sne (show ("node" : Str) ≠ "truth" by decide +kernel)) ?_⟩
      refine ⟨_, rfl, rfl, _, rfl, iteN (sne (show ("node" : Str) ≠ "text" by decide +kernel)) ?_⟩
      refine ⟨_, rfl, rfl, _, rfl, iteY rfl ?_⟩
      refine ⟨_, rfl, p, _, rfl, .inr hq, rfl, _, rfl, ?_⟩
      rw [len ht]
      obtain ⟨x0, x1, rfl, h1⟩ : ∃ x0 x1, xs = [x0, x1] ∧ x1 = .str k := by
        cases ht with
        | cons t0 t1 =>
          cases t1 with
          | cons t1 t2 =>
            cases t2
            exact ⟨_, _, rfl, t1.toStr⟩
      subst h1
      refine iteY rfl ⟨_, rfl, p, _, 1, .str k, rfl, rfl, hq, at1, .str k, .type "str", true, rfl, .base (.str k), kit_ty (by decide +kernel), fun _ => ⟨k, rfl, (nm_asc ho.1).mono (by decide)⟩, (fun z => nomatch z), fun H1 s1 => ⟨true, congrArg V.bl ho.1, iteT ?_⟩⟩
      refine ⟨_, rfl, p, _, 1, .str k, rfl, rfl, KeepT.same s1 _ _ hq, at1, _, rfl, a, _, rfl, .inl (SqL.of (s1 _ _ hk)), rfl, flat_strs ks, ?_⟩
      rw [in_strs ho.2]
      exact q _ s1
    | cho k =>
      refine ⟨_, rfl, rfl, _, rfl, iteN (sne (show ("choice" : Str) ≠ "number" by decide +kernel)) ?_⟩
      refine ⟨_, rfl, rfl, _, rfl, iteN (sne (show ("choice" : Str) ≠ "truth" by decide +kernel)) ?_⟩
      refine ⟨_, rfl, rfl, _, rfl, iteN (sne (show ("choice" : Str) ≠ "text" by decide +kernel)) ?_⟩
      refine ⟨_, rfl, rfl, _, rfl, iteN (sne (show ("choice" : Str) ≠ "node" by decide +kernel)) ?_⟩
      refine ⟨_, rfl, rfl, _, rfl, iteY rfl ?_⟩
      refine ⟨_, rfl, p, _, rfl, .inr hq, rfl, _, rfl, ?_⟩
      rw [len ht]
      obtain ⟨x0, x1, rfl, h1⟩ : ∃ x0 x1, xs = [x0, x1] ∧ x1 = .str k := by
        cases ht with
        | cons t0 t1 =>
          cases t1 with
          | cons t1 t2 =>
            cases t2
            exact ⟨_, _, rfl, t1.toStr⟩
      subst h1
      refine iteY rfl ⟨_, rfl, p, _, 1, .str k, rfl, rfl, hq, at1, .str k, .type "str", true, rfl, .base (.str k), kit_ty (by decide +kernel), fun _ => ⟨k, rfl, (nm_asc ho.1).mono (by decide)⟩, (fun z => nomatch z), fun H1 s1 => ⟨true, congrArg V.bl ho.1, iteT ?_⟩⟩
      refine ⟨_, rfl, p, _, 1, .str k, rfl, rfl, KeepT.same s1 _ _ hq, at1, _, rfl, b, _, rfl, .inl (SqL.of (s1 _ _ hc)), rfl, flat_strs cs, ?_⟩
      rw [in_strs ho.2]
      exact q _ s1
theorem ok_is_sort {f : Addr} {fd : FuncData} (F : Fun K "is_sort" "is_sort" s_is_sort f fd) (T : Bu mg) (g_MOST_IN_ROW : Gi mg "MOST_IN_ROW" 20) (c__first_word : Cal P w K mg base 1 "_first_word" ["of"] (spFirst K)) (c__is_most : Cal P w K mg base 2 "_is_most" ["most", "limit"] spMost) (c__is_inmost : Cal P w K mg base 3 "_is_inmost" ["word", "of", "kinds", "choices"] (spInmost K)) :
    FnOk P w K mg base CX0 4 f fd ["of", "kinds", "choices"] (spSort K) := by
  refine F.ok sc_is_sort (fun vs H Q E h => ?_) (fun cdv A outer s H vs Q E hr h => ?_)
  · obtain ⟨v, z, a, b, ks, cs, rfl, _⟩ := h
    rfl
  · obtain ⟨v, z, a, b, ks, cs, rfl, hT, hk, hc, ho, q⟩ := h
    refine ⟨_, (pss_cons (ps_set (i := 3) sc_is_sort.nd rfl (.inl rfl) pe_bl)
      (pss_one (ps_while PassesOwn.never (pt_val pe_bl)
        (pss_cons (ps_set (i := 4) sc_is_sort.nd rfl (.inl rfl) (pe_cal c__first_word hr (by decide) (by rfl) (pa_cons (pv 0) pa_nil)))
        (pss_one (ps_if (PW.pt (pw_and (pt_cmpR op_eq (pv 4) pe_str (nomark _)) (pw_and (pt_cmpR op_eq (pe_callB call_len_seq (by rfl) T.n_len (by decide +kernel) (pa_cons (pv 0) pa_nil)) pe_int (nomark _)) (pw_and1 (pt_val (pe_cal c__is_most hr (by decide) (by rfl) (pa_cons (pe_ix (r := rIxT K) ix_tup (pv 0) pe_int (fun _ _ => rfl)) (pa_cons (C8.pe_gc rfl g_MOST_IN_ROW) pa_nil))))))))
          (pss_cons (ps_set (i := 0) sc_is_sort.nd rfl (.inl rfl) (pe_ix (r := rIxT K) ix_tup (pv 0) pe_int (fun _ _ => rfl)))
          (pss_one (ps_set (i := 3) sc_is_sort.nd rfl (.inl rfl) pe_bl)))
          (pss_one (ps_if (PW.pt (pw_and (pt_cmpR op_eq (pv 4) pe_str (nomark _)) (pw_and (pt_cmpR op_eq (pe_callB call_len_seq (by rfl) T.n_len (by decide +kernel) (pa_cons (pv 0) pa_nil)) pe_int (nomark _)) (pw_and1 (pt_not (pt_val (pv 3)))))))
            (pss_cons (ps_set (i := 0) sc_is_sort.nd rfl (.inl rfl) (pe_ix (r := rIxT K) ix_tup (pv 0) pe_int (fun _ _ => rfl)))
            (pss_one (ps_set (i := 3) sc_is_sort.nd rfl (.inl rfl) pe_bl)))
            (pss_one (ps_ret (pe_cal c__is_inmost hr (by decide) (by rfl) (pa_cons (pv 4) (pa_cons (pv 0) (pa_cons (pv 1) (pa_cons (pv 2) pa_nil))))))))))))))), ?_⟩
    refine ⟨fun m σ H' => ∃ (v : V) (z : So) (i : Bool) (y : Option V), σ = [some v, some (.ref a), some (.ref b), some (.bl i), y] ∧ Td K H v z.pd ∧ z.ok ks cs i ∧ H = H' ∧ z.depth = m, ⟨z.depth, v, z, false, none, rfl, hT, ho, rfl, rfl⟩, ?_⟩
    rintro m σ H' ⟨v, z, i, y, rfl, hT, ho, rfl, rfl⟩
    refine ⟨true, rfl, iteT ?_⟩
    refine ⟨fun σ' H' => ∃ m', m' < z.depth ∧ ∃ (v : V) (z : So) (i : Bool) (y : Option V), σ' = [some v, some (.ref a), some (.ref b), some (.bl i), y] ∧ Td K H v z.pd ∧ z.ok ks cs i ∧ H = H' ∧ z.depth = m', fun σ' H' h => h, ?_⟩
    refine ⟨_, rfl, v, z.word, z.rest, rfl, hT, Nat.le_trans z.rest_len (by decide), ?_⟩
    obtain ⟨p, xs, rfl, hq, ht⟩ := hT.row
    by_cases him : z.inmost
    · obtain ⟨n1, n2⟩ := So.word_row him
      refine ⟨_, rfl, rfl, _, rfl, iteN (sne n1) ?_⟩
      refine ⟨_, rfl, rfl, _, rfl, iteN (sne n2) ?_⟩
      exact ⟨_, rfl, _, rfl, _, rfl, _, rfl, _, z, i, a, b, ks, cs, rfl, hT, hk, hc, him, ho, q⟩
    cases z with
    | row n z =>
      obtain ⟨x0, x1, x2, rfl, h1, h2⟩ : ∃ x0 x1 x2, xs = [x0, x1, x2] ∧ x1 = .int n ∧ Td K H x2 z.pd := by
        cases ht with
        | cons t0 t1 =>
          cases t1 with
          | cons t1 t2 =>
            cases t2 with
            | cons t2 t3 =>
              cases t3
              exact ⟨_, _, _, rfl, t1.toInt, t2⟩
      subst h1
      refine ⟨_, rfl, rfl, _, rfl, iteY rfl ?_⟩
      refine ⟨_, rfl, p, _, rfl, .inr hq, rfl, _, rfl, iteY rfl ?_⟩
      refine ⟨_, rfl, p, _, 1, .int n, rfl, rfl, hq, at1, n, 20, rfl, ho.1, ho.2.1, true, rfl, iteT ?_⟩
      refine ⟨_, rfl, p, _, 2, x2, rfl, rfl, hq, at2, ?_⟩
      exact ⟨z.depth, Nat.lt_succ_self _, x2, z, false, _, rfl, h2, ho.2.2, rfl, rfl⟩
    | may z =>
      obtain ⟨x0, x1, rfl, h1⟩ : ∃ x0 x1, xs = [x0, x1] ∧ Td K H x1 z.pd := by
        cases ht with
        | cons t0 t1 =>
          cases t1 with
          | cons t1 t2 =>
            cases t2
            exact ⟨_, _, rfl, t1⟩
      obtain ⟨rfl, ho⟩ := ho
      refine ⟨_, rfl, rfl, _, rfl, iteN (sne (show ("maybe" : Str) ≠ "row" by decide +kernel)) ?_⟩
      refine ⟨_, rfl, rfl, _, rfl, iteY rfl ?_⟩
      refine ⟨_, rfl, p, _, rfl, .inr hq, rfl, _, rfl, iteY rfl ?_⟩
      refine ⟨_, rfl, false, rfl, iteT ?_⟩
      refine ⟨_, rfl, p, _, 1, x1, rfl, rfl, hq, at1, ?_⟩
      exact ⟨z.depth, Nat.lt_succ_self _, x1, z, true, _, rfl, h1, ho, rfl, rfl⟩
    | num lo hi => exact absurd trivial him
    | tru => exact absurd trivial him
    | txt n => exact absurd trivial him
    | nod k => exact absurd trivial him
    | cho k => exact absurd trivial him
end
end K34
namespace K34
open PySem PySem.Spec PyProof.Rows L2 Tw Sb LamX
/-- the word of a kind's row, of a choice's -/
def wordB (k : Bool) : Str := if k = true then "kind" else "choice"
def spFault (K : PySem.W.Frag) : Sp := fun vs H Q _ => ∃ (k : Bool) (v : V) (e : En) (es : List En) (r a b : Addr) (xs : List V) (ks cs : List Str), vs = [.str (wordB k), v, .ref r, .ref a, .ref b] ∧ Td K H v e.pd ∧ SqR K H r xs ∧ Tds K H xs (es.map En.pd) ∧ es.length ≤ 1000 ∧ NmL H a ks ∧ NmL H b cs ∧ EnOk k ks cs es e ∧ ∀ H', Same H H' → Q .non H'
theorem ifK {k : Bool} {A B : Prop} (h1 : k = true → A) (h2 : k = false → B) : if decide (V.str (wordB k) = V.str "kind") = true then A else B := by
  cases k with
  | true => exact iteY rfl (h1 rfl)
  | false => exact iteN (sne (show ("choice" : Str) ≠ "kind" by decide +kernel)) (h2 rfl)
theorem Tds.entry {K : PySem.W.Frag} {H : Hp} {v : V} {e : En} (h : Td K H v e.pd) : ∃ (p : Addr) (x2 : V) (ys : List V), v = .ref p ∧ SqT K H p (.int e.num :: .str e.name :: x2 :: ys) ∧ Td K H x2 (e.of.elim .none So.pd) ∧ Tds K H ys e.left.toList := by
  obtain ⟨p, xs, rfl, hq, ht⟩ := h.row
  cases ht with
  | cons t0 t1 =>
    cases t1 with
    | cons t1 t2 =>
      cases t2 with
      | cons t2 t3 =>
        cases t0
        cases t1
        exact ⟨p, _, _, rfl, hq, t2, t3⟩
section
variable {P : Program} {w : World} {K : PySem.W.Frag} {mg : Str → Option Value} {base : Heap}
theorem ok_is_default {f : Addr} {fd : FuncData} (F : Fun K "_is_default" "_is_default" s__is_default f fd) (T : Bu mg) (c_is_whole : Cal P w K mg base 1 "is_whole" ["thing"] (spWhole K)) (c_keeps_bounds : Cal P w K mg base 1 "keeps_bounds" ["number", "low", "high"] spKB) (c_keeps_figures : Cal P w K mg base 1 "keeps_figures" ["number"] spKF) (c_is_text : Cal P w K mg base 2 "is_text" ["thing"] spText) :
    FnOk P w K mg base CX0 3 f fd ["of", "default"] (spDeflt K) := by
  refine F.ok sc__is_default (fun vs H Q E h => ?_) (fun cdv A outer s H vs Q E hr h => ?_)
  · obtain ⟨v, u, z, d, rfl, _⟩ := h
    rfl
  · obtain ⟨v, u, z, d, rfl, hT, hU, hd, q⟩ := h
    refine ⟨_, (pss_cons (ps_set (i := 2) sc__is_default.nd rfl (.inl rfl) (pe_ix (r := rIxT K) ix_tup (pv 0) pe_int (fun _ _ => rfl)))
      (pss_cons (ps_if (pt_cmpR op_eq (pv 2) pe_str (nomark _))
        (pss_one (ps_ret (pe_and (pe_cal c_is_whole hr (by decide) (by rfl) (pa_cons (pv 1) pa_nil)) (pe_and (pe_cal c_keeps_bounds hr (by decide) (by rfl) (pa_cons (pv 1) (pa_cons (pe_ix (r := rIxT K) ix_tup (pv 0) pe_int (fun _ _ => rfl)) (pa_cons (pe_ix (r := rIxT K) ix_tup (pv 0) pe_int (fun _ _ => rfl)) pa_nil)))) (pe_one (pe_cal c_keeps_figures hr (by decide) (by rfl) (pa_cons (pv 1) pa_nil)))))))
        pss_nil)
      (pss_cons (ps_if (pt_cmpR op_eq (pv 2) pe_str (nomark _))
        (pss_one (ps_ret (pe_callB (id := "isinstance") (r := rIsi K) call_isi (by rfl) T.n_isinstance (by decide +kernel) (pa_cons (pv 1) (pa_cons (pe_bltn (v := .ty "bool") rfl T.n_bool (by decide +kernel) rfl) pa_nil)))))
        pss_nil)
      (pss_cons (ps_if (pt_cmpR op_eq (pv 2) pe_str (nomark _))
        (pss_one (ps_ret (pe_and (pe_cal c_is_text hr (by decide) (by rfl) (pa_cons (pv 1) pa_nil)) (pe_one (pe_cmpR op_le (pe_callB call_len (by rfl) T.n_len (by decide +kernel) (pa_cons (pv 1) pa_nil)) (pe_ix (r := rIxT K) ix_tup (pv 0) pe_int (fun _ _ => rfl)) (nomark _))))))
        pss_nil)
      (pss_cons (ps_if (pt_cmpR op_eq (pv 2) pe_str (nomark _))
        (pss_one (ps_ret (pe_and (pe_callB (id := "isinstance") (r := rIsi K) call_isi (by rfl) T.n_isinstance (by decide +kernel) (pa_cons (pv 1) (pa_cons (pe_bltn (v := .ty "tuple") rfl T.n_tuple (by decide +kernel) rfl) pa_nil))) (pe_one (pe_cmpR op_eq (pe_callB call_len (by rfl) T.n_len (by decide +kernel) (pa_cons (pv 1) pa_nil)) pe_int (nomark _))))))
        pss_nil)
      (pss_one (ps_ret (pe_and (pe_cmpR op_eq (pv 2) pe_str (nomark _)) (pe_one (pe_cmpR op_isN (pv 1) pe_non (nomark _))))))))))), ?_⟩
    obtain ⟨p, xs, rfl, hq, ht⟩ := hT.row
    obtain ⟨ys, rfl, hr'⟩ : ∃ ys, xs = .str z.word :: ys ∧ Tds K H ys z.rest := by
      cases ht with
      | cons t0 t1 =>
        cases t0
        exact ⟨_, rfl, t1⟩
    refine ⟨_, rfl, p, _, 0, .str z.word, rfl, rfl, hq, at0, ?_⟩
    cases z with
    | num lo hi =>
      cases d with
      | int n =>
        obtain rfl := hU.toInt
        obtain ⟨d1, d2, d3, d4⟩ := hd
        obtain ⟨x1, x2, rfl, h1, h2⟩ : ∃ x1 x2, ys = [x1, x2] ∧ x1 = oV lo ∧ x2 = oV hi := by
          cases hr' with
          | cons t1 t2 =>
            cases t2 with
            | cons t2 t3 =>
              cases t3
              exact ⟨_, _, rfl, t1.oV, t2.oV⟩
        subst h1 h2
        refine ⟨_, rfl, rfl, _, rfl, iteY rfl ?_⟩
        refine ⟨_, rfl, .int n, .type "int", true, false, rfl, .base (.int n), kit_ty (by decide +kernel), fun _ => kit_ty (by decide +kernel), true, rfl, iteT ?_⟩
        refine ⟨_, rfl, _, rfl, p, _, 1, oV lo, rfl, rfl, hq, at1, _, rfl, p, _, 2, oV hi, rfl, rfl, hq, at2, n, lo, hi, rfl, d1, d2, true, rfl, iteT ?_⟩
        exact ⟨_, rfl, n, rfl, d3, d4, q _ (Same.refl _)⟩
      | _ => exact hd.elim
    | tru =>
      cases d with
      | bool b =>
        obtain rfl := hU.toBool
        refine ⟨_, rfl, rfl, _, rfl, iteN (sne (show ("truth" : Str) ≠ "number" by decide +kernel)) ?_⟩
        refine ⟨_, rfl, rfl, _, rfl, iteY rfl ?_⟩
        exact ⟨_, rfl, .bl b, .ty "bool", .type "bool", .type "bool", true, rfl, .ty "bool", .base (.bl b), kit_ty (by decide +kernel), q _ (Same.refl _)⟩
      | _ => exact hd.elim
    | txt m =>
      cases d with
      | str z =>
        obtain rfl := hU.toStr
        obtain ⟨d1, d2, d3⟩ := hd
        obtain ⟨x1, rfl, h1⟩ : ∃ x1, ys = [x1] ∧ x1 = .int m := by
          cases hr' with
          | cons t1 t2 =>
            cases t2
            exact ⟨_, rfl, t1.toInt⟩
        subst h1
        refine ⟨_, rfl, rfl, _, rfl, iteN (sne (show ("text" : Str) ≠ "number" by decide +kernel)) ?_⟩
        refine ⟨_, rfl, rfl, _, rfl, iteN (sne (show ("text" : Str) ≠ "truth" by decide +kernel)) ?_⟩
        refine ⟨_, rfl, rfl, _, rfl, iteY rfl ?_⟩
        refine ⟨_, rfl, z, rfl, d2, by omega, fun H1 s1 => ⟨true, rfl, iteT ?_⟩⟩
        refine ⟨_, rfl, .str z, _, rfl, ⟨Nat.le_trans d3 (by decide), rfl⟩, _, rfl, p, _, 1, .int m, rfl, rfl, KeepT.same s1 _ _ hq, at1, z.length, m, rfl, rfl, ?_⟩
        dsimp only
        rw [decide_eq_true d1]
        exact q _ s1
      | _ => exact hd.elim
    | row m z =>
      cases d with
      | tuple ds =>
        cases ds with
        | cons d ds => exact hd.elim
        | nil =>
          obtain ⟨a, us, rfl, hua, hus⟩ := hU.row
          cases hus
          refine ⟨_, rfl, rfl, _, rfl, iteN (sne (show ("row" : Str) ≠ "number" by decide +kernel)) ?_⟩
          refine ⟨_, rfl, rfl, _, rfl, iteN (sne (show ("row" : Str) ≠ "truth" by decide +kernel)) ?_⟩
          refine ⟨_, rfl, rfl, _, rfl, iteN (sne (show ("row" : Str) ≠ "text" by decide +kernel)) ?_⟩
          refine ⟨_, rfl, rfl, _, rfl, iteY rfl ?_⟩
          refine ⟨_, rfl, .ref a, .ty "tuple", .type "tuple", .type "tuple", true, rfl, .ty "tuple", SqT.ty hua, kit_ty (by decide +kernel), true, rfl, iteT ?_⟩
          exact ⟨_, rfl, _, 0, rfl, .inr ⟨_, hua, rfl⟩, rfl, q _ (Same.refl _)⟩
      | _ => exact hd.elim
    | may z =>
      cases d with
      | none =>
        obtain rfl := hU.toNone
        refine ⟨_, rfl, rfl, _, rfl, iteN (sne (show ("maybe" : Str) ≠ "number" by decide +kernel)) ?_⟩
        refine ⟨_, rfl, rfl, _, rfl, iteN (sne (show ("maybe" : Str) ≠ "truth" by decide +kernel)) ?_⟩
        refine ⟨_, rfl, rfl, _, rfl, iteN (sne (show ("maybe" : Str) ≠ "text" by decide +kernel)) ?_⟩
        refine ⟨_, rfl, rfl, _, rfl, iteN (sne (show ("maybe" : Str) ≠ "row" by decide +kernel)) ?_⟩
        refine ⟨_, rfl, rfl, _, rfl, iteY rfl ?_⟩
        exact ⟨_, rfl, rfl, q _ (Same.refl _)⟩
      | _ => exact hd.elim
    | nod k => cases d <;> exact hd.elim
    | cho k => cases d <;> exact hd.elim
theorem ok_fault {f : Addr} {fd : FuncData} (F : Fun K "_fault" "_fault" s__fault f fd) (T : Bu mg) (g_LAST_NUMBER : Gi mg "LAST_NUMBER" 99) (c_is_name : Cal P w K mg base 1 "is_name" ["thing"] (spName K)) (c_is_whole : Cal P w K mg base 1 "is_whole" ["thing"] (spWhole K)) (c_is_sort : Cal P w K mg base 4 "is_sort" ["of", "kinds", "choices"] (spSort K)) (c__is_default : Cal P w K mg base 3 "_is_default" ["of", "default"] (spDeflt K)) :
    FnOk P w K mg base CX0 5 f fd ["word", "entry", "earlier", "kinds", "choices"] (spFault K) := by
  refine F.ok sc__fault (fun vs H Q E h => ?_) (fun cdv A outer s H vs Q E hr h => ?_)
  · obtain ⟨k, v, e, es, r, a, b, xs, ks, cs, rfl, _⟩ := h
    rfl
  · obtain ⟨k, v, e, es, r, a, b, xs, ks, cs, rfl, hT, hR, hX, hL, hk, hc, ok, q⟩ := h
    refine ⟨_, (pss_mid (ps_if (PW.pt (pw_or (pt_not (pt_val (pe_callB (id := "isinstance") (r := rIsi K) call_isi (by rfl) T.n_isinstance (by decide +kernel) (pa_cons (pv 1) (pa_cons (pe_bltn (v := .ty "tuple") rfl T.n_tuple (by decide +kernel) rfl) pa_nil))))) (pw_or1 (pt_cmpR op_notIn_seq (pe_callB call_len_seq (by rfl) T.n_len (by decide +kernel) (pa_cons (pv 1) pa_nil)) (pe_ifExp (pt_cmpR op_eq (pv 0) pe_str (nomark _)) (pe_tup (pa_cons pe_int (pa_cons pe_int pa_nil))) (pe_tup (pa_cons pe_int pa_nil))) (by rfl)))))
        (pss_one (ps_ret pe_str))
        pss_nil)
      (pss_mid (ps_asg (pe_slice (r := rSlA K) sl_tupA (pv 1) po_none (po_some pe_int)) (pg_tup rfl (pgs_cons (pg_name (i := 5) sc__fault.nd rfl (.inl rfl)) (pgs_cons (pg_name (i := 6) sc__fault.nd rfl (.inl rfl)) (pgs_cons (pg_name (i := 7) sc__fault.nd rfl (.inl rfl)) pgs_nil)))))
      (pss_mid (ps_if (PW.pt (pw_or (pt_not (pt_val (pe_cal c_is_name hr (by decide) (by rfl) (pa_cons (pv 6) pa_nil)))) (pw_or1 (pt_cmpR op_in_seq (pv 6) (pe_lc (own := [("other", 9)]) rfl sc__fault.nd (pi_or (pi_list (pv 2)) (pi_tup (pv 2))) (blkOk_by (N := N__fault) (sc := defScope s__fault) (by decide +kernel)) (fun _ _ _ _ _ => (pg_name (i := 9) sc__fault.nd rfl (.inl rfl))) (fun _ _ _ _ _ => pts_nil) (fun _ _ _ _ _ => (pe_ix (r := rIxT K) ix_tup (pv 9) pe_int (fun _ _ => rfl)))) (by rfl)))))
        (pss_one (ps_ret pe_str))
        pss_nil)
      (pss_mid (ps_set (i := 8) sc__fault.nd rfl (.inl rfl) (pe_ifExp (pt_cmpR op_eq (pv 0) pe_str (nomark _)) pe_int pe_int))
      (pss_mid (ps_if (PW.pt (pw_or (pt_not (pt_val (pe_cal c_is_whole hr (by decide) (by rfl) (pa_cons (pv 5) pa_nil)))) (pw_or (pt_not (pt_chain op_le op_le (pv 8) (pv 5) (C8.pe_gc rfl g_LAST_NUMBER))) (pw_or1 (pt_cmpR op_in_seq (pv 5) (pe_lc (own := [("other", 9)]) rfl sc__fault.nd (pi_or (pi_list (pv 2)) (pi_tup (pv 2))) (blkOk_by (N := N__fault) (sc := defScope s__fault) (by decide +kernel)) (fun _ _ _ _ _ => (pg_name (i := 9) sc__fault.nd rfl (.inl rfl))) (fun _ _ _ _ _ => pts_nil) (fun _ _ _ _ _ => (pe_ix (r := rIxT K) ix_tup (pv 9) pe_int (fun _ _ => rfl)))) (by rfl))))))
        (pss_one (ps_ret pe_str))
        pss_nil)
      (pss_mid (ps_if (PW.pt (pw_and (pt_cmpR op_eq (pv 0) pe_str (nomark _)) (pw_and1 (pt_cmpR op_isN (pv 7) pe_non (nomark _)))))
        (pss_one (ps_ret pe_non))
        pss_nil)
      (pss_cons (ps_if (PW.pt (pw_or (pt_cmpR op_eq (pv 5) pe_int (nomark _)) (pw_or1 (pt_not (pt_val (pe_cal c_is_sort hr (by decide) (by rfl) (pa_cons (pv 7) (pa_cons (pv 3) (pa_cons (pv 4) pa_nil)))))))))
        (pss_one (ps_ret pe_str))
        pss_nil)
      (pss_cons (ps_if (PW.pt (pw_and (pt_cmpR op_eq (pe_callB call_len_seq (by rfl) T.n_len (by decide +kernel) (pa_cons (pv 1) pa_nil)) pe_int (nomark _)) (pw_and1 (pt_not (pt_val (pe_cal c__is_default hr (by decide) (by rfl) (pa_cons (pv 7) (pa_cons (pe_ix (r := rIxT K) ix_tup (pv 1) pe_int (fun _ _ => rfl)) pa_nil))))))))
        (pss_one (ps_ret pe_str))
        pss_nil)
      (pss_one (ps_ret pe_non)))))))))), ?_⟩
    obtain ⟨p, x2, ys, rfl, hq, h2, hl⟩ := Tds.entry hT
    have hlen : ys.length = e.left.toList.length := hl.len
    have hleft : e.left.toList.length ≤ 1 := by cases e.left <;> simp
    refine ⟨fun σ H' => σ = L2.start N__fault [V.str (wordB k), V.ref p, V.ref r, V.ref a, V.ref b] ∧ Same H H', ?_, ?_⟩
    · refine ⟨_, rfl, .ref p, .ty "tuple", .type "tuple", .type "tuple", true, rfl, .ty "tuple", SqT.ty hq, kit_ty (by decide +kernel), true, rfl, iteF ?_⟩
      refine ⟨_, rfl, p, _, rfl, .inr hq, _, rfl, rfl, _, rfl, ifK (fun ek => ?_) (fun ek => ?_)⟩
      · refine ⟨by show 2 ≤ sizeLine; decide, fun t ht => ⟨t, _, rfl, .inr (SqT.of upd_same), rfl, rfl, _, rfl, ?_⟩⟩
        have e1 : inV (.int ((V.int e.num :: V.str e.name :: x2 :: ys).length : Nat)) [.int 3, .int 4] = true := by
          rcases ys with _ | ⟨y, _ | _⟩
          · rfl
          · rfl
          · exact absurd (hlen ▸ hleft) (by simp)
        rw [e1]
        exact iteF ⟨rfl, same_upd ht⟩
      · refine ⟨by show 1 ≤ sizeLine; decide, fun t ht => ⟨t, _, rfl, .inr (SqT.of upd_same), rfl, rfl, _, rfl, ?_⟩⟩
        have e0 : ys = [] := by
          have : e.left = none := by
            cases eo : e.of with
            | none => exact (ok.none eo).2
            | some z =>
              cases el : e.left with
              | none => rfl
              | some d =>
                rw [ek] at ok
                exact nomatch ((ok.some z eo).2.2 d el).1
          rw [this] at hlen
          exact List.length_eq_zero_iff.mp hlen
        subst e0
        rw [show inV (.int (([V.int e.num, V.str e.name, x2] : List V).length : Nat)) [.int 3] = true from rfl]
        exact iteF ⟨rfl, same_upd ht⟩
    rintro σ H1 ⟨rfl, s1⟩
    have hq1 := KeepT.same s1 _ _ hq
    have hR1 := hR.same s1
    have hX1 := hX.keep (KeepT.same s1)
    -- the three
    refine ⟨fun σ H' => σ = [some (.str (wordB k)), some (.ref p), some (.ref r), some (.ref a), some (.ref b), some (.int e.num), some (.str e.name), some x2, none, none] ∧ Same H H', ?_, ?_⟩
    · refine ⟨_, rfl, 3, rfl, p, _, rfl, hq1, fun hw => ?_, fun hw t ht => ?_⟩
      · have e0 := whole3 hw.2
        subst e0
        exact ⟨p, _, rfl, hq1, rfl, _, _, rfl, _, _, rfl, _, _, rfl, rfl, rfl, s1⟩
      · refine ⟨t, _, rfl, SqT.of upd_same, ?_, ?_⟩
        · rw [cut3] <;> rfl
        · rw [cut3]
          exact ⟨_, _, rfl, _, _, rfl, _, _, rfl, rfl, rfl, s1.trans (same_upd ht)⟩
    rintro σ H2 ⟨rfl, s2⟩
    -- the name
    have hlx : xs.length = es.length := by rw [hX.len, List.length_map]
    have part : ∀ {i : Nat} {x : V} {H4 : Hp}, Same H H4 → xs[i]? = some x → ∃ (e : En) (p : Addr) (x2 : V) (ys : List V), es[i]? = some e ∧ x = .ref p ∧ SqT K H4 p (.int e.num :: .str e.name :: x2 :: ys) := fun {i x H4} s4 hx => by
      obtain ⟨d, hd, td⟩ := hX.at_ hx
      rw [List.getElem?_map] at hd
      obtain ⟨e, he, rfl⟩ := Option.map_eq_some_iff.mp hd
      obtain ⟨p, x2, ys, rfl, hp, _⟩ := Tds.entry (td.keep (KeepT.same s4))
      exact ⟨e, p, x2, ys, he, rfl, hp⟩
    have s02 : Same H H2 := s2
    refine ⟨fun σ H' => σ = [some (.str (wordB k)), some (.ref p), some (.ref r), some (.ref a), some (.ref b), some (.int e.num), some (.str e.name), some x2, none, none] ∧ Same H H', ?_, ?_⟩
    · refine ⟨_, rfl, .str e.name, .type "str", true, rfl, .base (.str e.name), kit_ty (by decide +kernel), fun _ => ⟨e.name, rfl, (nm_asc ok.name).mono (by decide)⟩, (fun z => nomatch z), fun H3 s3 => ⟨true, congrArg V.bl ok.name, ?_⟩⟩
      have s03 := s02.trans s3
      refine iteF ⟨_, rfl, ?_⟩
      have turn : ∀ (D : Addr) (i : Nat) (x : V) (H4 : Hp), H3 D = none → xs[i]? = some x → Same H3 H4 → H4 D = some (.lst (((es.take i).map En.name).map V.str)) → ∃ (p : Addr) (zs : List V) (y : V), x = .ref p ∧ SqT K H4 p zs ∧ atI zs 1 = some y ∧ ∃ acc, H4 D = some (.lst acc) ∧ acc.length < sizeLine ∧ Same H3 (upd H4 D (.lst (acc ++ [y]))) ∧ (upd H4 D (.lst (acc ++ [y]))) D = some (.lst (((es.take (i + 1)).map En.name).map V.str)) := by
        intro D i x H4 hD hx hs hL'
        obtain ⟨e, p, x2, ys, he, rfl, hp⟩ := part (s03.trans hs) hx
        refine ⟨p, _, .str e.name, rfl, hp, at1, _, hL', ?_, fun b o q => ?_, ?_⟩
        · rw [List.length_map, List.length_map, List.length_take]
          exact small1000 (by omega)
        · rw [upd_ne (ne_of_none q hD)]
          exact hs b o q
        · rw [upd_same, List.take_add_one, he, List.map_append, List.map_append] <;> rfl
      have fin : ∀ (H4 : Hp), Same H3 H4 → (inV (.str e.name) (((es.take xs.length).map En.name).map V.str)) = false := fun H4 _ => nin_strs (by rw [hlx, List.take_length]; exact ok.newN)
      rcases hR.same s03 with hL' | hL'
      · refine .inl ⟨_, rfl, r, rfl, ⟨_, hL'⟩, fun D hD => lc_it walk_list (fun i H' => Same H3 H' ∧ H' D = some (.lst (((es.take i).map En.name).map V.str))) ⟨same_upd hD, upd_same⟩ (fun _ _ _ h => h.1.seq hL') ?_ ?_⟩
        · rintro i x H4 H5 hi ⟨hs, hD2⟩ ⟨rfl, hx⟩
          obtain ⟨p, zs, y, rfl, k1, k2, k3⟩ := turn D i x _ hD hx hs hD2
          exact ⟨rfl, _, rfl, p, zs, 1, y, rfl, rfl, k1, k2, k3⟩
        · rintro H4 ⟨hs, hD2⟩
          refine ⟨D, _, rfl, .inl (SqL.of hD2), rfl, flat_strs _, _, rfl, ?_⟩
          rw [fin H4 hs]
          exact iteF ⟨rfl, s03.trans hs⟩
      · refine .inr ⟨_, rfl, r, rfl, ⟨_, hL'⟩, fun D hD => lc_it walk_tup (fun i H' => Same H3 H' ∧ H' D = some (.lst (((es.take i).map En.name).map V.str))) ⟨same_upd hD, upd_same⟩ (fun _ _ _ h => KeepT.same h.1 _ _ hL') ?_ ?_⟩
        · rintro i x H4 H5 hi ⟨hs, hD2⟩ ⟨rfl, hx⟩
          obtain ⟨p, zs, y, rfl, k1, k2, k3⟩ := turn D i x _ hD hx hs hD2
          exact ⟨rfl, _, rfl, p, zs, 1, y, rfl, rfl, k1, k2, k3⟩
        · rintro H4 ⟨hs, hD2⟩
          refine ⟨D, _, rfl, .inl (SqL.of hD2), rfl, flat_strs _, _, rfl, ?_⟩
          rw [fin H4 hs]
          exact iteF ⟨rfl, s03.trans hs⟩
    rintro σ H3 ⟨rfl, s3⟩
    -- the least
    refine ⟨fun σ H' => ∃ l : Int, σ = [some (.str (wordB k)), some (.ref p), some (.ref r), some (.ref a), some (.ref b), some (.int e.num), some (.str e.name), some x2, some (.int l), none] ∧ l ≤ e.num ∧ Same H H', ?_, ?_⟩
    · refine ⟨_, rfl, rfl, _, rfl, ifK (fun ek => ?_) (fun ek => ?_)⟩
      · exact ⟨1, rfl, by have := ok.lo; rw [if_pos ek] at this; exact this, s3⟩
      · exact ⟨0, rfl, by have := ok.lo; rw [if_neg (by rw [ek]; decide)] at this; exact this, s3⟩
    rintro σ H4 ⟨l, rfl, hle, s4⟩
    -- the number
    refine ⟨fun σ H' => σ = [some (.str (wordB k)), some (.ref p), some (.ref r), some (.ref a), some (.ref b), some (.int e.num), some (.str e.name), some x2, some (.int l), none] ∧ Same H H', ?_, ?_⟩
    · refine ⟨_, rfl, .int e.num, .type "int", true, false, rfl, .base (.int e.num), kit_ty (by decide +kernel), fun _ => kit_ty (by decide +kernel), true, rfl, iteF ?_⟩
      refine ⟨_, rfl, _, rfl, l, e.num, rfl, rfl, _, rfl, iteY hle ⟨e.num, 99, rfl, rfl, _, rfl, iteNY ok.hi ?_⟩⟩
      refine ⟨_, rfl, ?_⟩
      have turn : ∀ (D : Addr) (i : Nat) (x : V) (H5 : Hp), H4 D = none → xs[i]? = some x → Same H4 H5 → H5 D = some (.lst (((es.take i).map En.num).map V.int)) → ∃ (p : Addr) (zs : List V) (y : V), x = .ref p ∧ SqT K H5 p zs ∧ atI zs 0 = some y ∧ ∃ acc, H5 D = some (.lst acc) ∧ acc.length < sizeLine ∧ Same H4 (upd H5 D (.lst (acc ++ [y]))) ∧ (upd H5 D (.lst (acc ++ [y]))) D = some (.lst (((es.take (i + 1)).map En.num).map V.int)) := by
        intro D i x H5 hD hx hs hL'
        obtain ⟨e, p, x2, ys, he, rfl, hp⟩ := part (s4.trans hs) hx
        refine ⟨p, _, .int e.num, rfl, hp, at0, _, hL', ?_, fun b o q => ?_, ?_⟩
        · rw [List.length_map, List.length_map, List.length_take]
          exact small1000 (by omega)
        · rw [upd_ne (ne_of_none q hD)]
          exact hs b o q
        · rw [upd_same, List.take_add_one, he, List.map_append, List.map_append] <;> rfl
      have fin : inV (.int e.num) (((es.take xs.length).map En.num).map V.int) = false := nin_ints (by rw [hlx, List.take_length]; exact ok.newI)
      rcases hR.same s4 with hL' | hL'
      · refine .inl ⟨_, rfl, r, rfl, ⟨_, hL'⟩, fun D hD => lc_it walk_list (fun i H' => Same H4 H' ∧ H' D = some (.lst (((es.take i).map En.num).map V.int))) ⟨same_upd hD, upd_same⟩ (fun _ _ _ h => h.1.seq hL') ?_ ?_⟩
        · rintro i x H5 H6 hi ⟨hs, hD2⟩ ⟨rfl, hx⟩
          obtain ⟨p, zs, y, rfl, k1, k2, k3⟩ := turn D i x _ hD hx hs hD2
          exact ⟨rfl, _, rfl, p, zs, 0, y, rfl, rfl, k1, k2, k3⟩
        · rintro H5 ⟨hs, hD2⟩
          refine ⟨D, _, rfl, .inl (SqL.of hD2), rfl, flat_ints _, _, rfl, ?_⟩
          rw [fin]
          exact iteF ⟨rfl, s4.trans hs⟩
      · refine .inr ⟨_, rfl, r, rfl, ⟨_, hL'⟩, fun D hD => lc_it walk_tup (fun i H' => Same H4 H' ∧ H' D = some (.lst (((es.take i).map En.num).map V.int))) ⟨same_upd hD, upd_same⟩ (fun _ _ _ h => KeepT.same h.1 _ _ hL') ?_ ?_⟩
        · rintro i x H5 H6 hi ⟨hs, hD2⟩ ⟨rfl, hx⟩
          obtain ⟨p, zs, y, rfl, k1, k2, k3⟩ := turn D i x _ hD hx hs hD2
          exact ⟨rfl, _, rfl, p, zs, 0, y, rfl, rfl, k1, k2, k3⟩
        · rintro H5 ⟨hs, hD2⟩
          refine ⟨D, _, rfl, .inl (SqL.of hD2), rfl, flat_ints _, _, rfl, ?_⟩
          rw [fin]
          exact iteF ⟨rfl, s4.trans hs⟩
    rintro σ H5 ⟨rfl, s5⟩
    have h25 := h2.keep (KeepT.same s5)
    have hl5 := hl.keep (KeepT.same s5)
    have hq5 := KeepT.same s5 _ _ hq
    refine ⟨fun σ H' => σ = [some (.str (wordB k)), some (.ref p), some (.ref r), some (.ref a), some (.ref b), some (.int e.num), some (.str e.name), some x2, some (.int l), none] ∧ H5 = H' ∧ e.of ≠ none, ?_, ?_⟩
    · cases eo : e.of with
      | none =>
        obtain ⟨rfl, _⟩ := ok.none eo
        rw [eo] at h25
        obtain rfl := h25.toNone
        exact ⟨_, rfl, rfl, _, rfl, iteY rfl ⟨_, rfl, rfl, _, rfl, iteY rfl (q _ s5)⟩⟩
      | some z =>
        rw [eo] at h25
        have nn : ¬ x2 = V.non := fun w => by
          obtain ⟨p, _, e, _⟩ := Td.row (show Td K H5 x2 (.tuple (.str z.word :: z.rest)) from h25)
          rw [w] at e
          cases e
        refine ⟨_, rfl, rfl, _, rfl, ?_⟩
        cases k with
        | true => exact iteN (sne (show ("kind" : Str) ≠ "choice" by decide +kernel)) ⟨rfl, rfl, fun w => nomatch w⟩
        | false => exact iteY rfl ⟨_, rfl, rfl, _, rfl, iteN nn ⟨rfl, rfl, fun w => nomatch w⟩⟩
    rintro σ H6 ⟨rfl, rfl, no⟩
    obtain ⟨z, eo⟩ := Option.ne_none_iff_exists'.mp no
    obtain ⟨n0, zok, dok⟩ := ok.some z eo
    rw [eo] at h25
    have h25 : Td K H5 x2 z.pd := h25
    refine ⟨_, rfl, rfl, _, rfl, iteN (ine n0) ?_⟩
    refine ⟨_, rfl, _, rfl, _, rfl, x2, z, a, b, ks, cs, rfl, h25, s5 _ _ hk, s5 _ _ hc, zok, fun H6 s6 => ⟨true, rfl, iteF ?_⟩⟩
    refine ⟨_, rfl, p, _, rfl, .inr (KeepT.same s6 _ _ hq5), rfl, _, rfl, ?_⟩
    have s06 := s5.trans s6
    cases el : e.left with
    | none =>
      have e0 : ys = [] := List.length_eq_zero_iff.mp (by rw [hlen, el]; rfl)
      subst e0
      exact iteN (ine (show (3 : Int) ≠ 4 by decide)) (q _ s06)
    | some d =>
      obtain ⟨_, hd⟩ := dok d el
      rw [el] at hl
      obtain ⟨y, rfl, hy⟩ : ∃ y, ys = [y] ∧ Td K H y d := by
        cases hl with
        | cons t1 t2 =>
          cases t2
          exact ⟨_, rfl, t1⟩
      refine iteY rfl ⟨_, rfl, _, rfl, p, _, 3, y, rfl, rfl, KeepT.same s6 _ _ hq5, at3, x2, y, z, d, rfl, h25.keep (KeepT.same s6), hy.keep (KeepT.same s06), hd, fun H7 s7 => ⟨true, rfl, iteF ?_⟩⟩
      exact q _ (s06.trans s7)
end
end K34
namespace K34
open PySem PySem.Spec PyProof.Rows L2 Tw Sb LamX
def spNames : Sp := fun vs H Q _ => ∃ (d : Addr) (kvs : List (Key × V)) (ks : List Str), vs = [.ref d] ∧ H d = some (.dK kvs) ∧ kvs.map Prod.fst = ks.map Sum.inr ∧ (∀ k ∈ ks, isNm k = true) ∧ ks.length ≤ 1000 ∧ ∀ (H' : Hp) (r : Addr), Same H H' → H r = none → NmL H' r ks → Q (.ref r) H'
def spRows (K : PySem.W.Frag) : Sp := fun vs H Q _ => ∃ (k : Bool) (d a b : Addr) (kvs : List (Key × V)) (tb : List TRow) (ks cs : List Str), vs = [.str (wordB k), .ref d, .ref a, .ref b] ∧ H d = some (.dK kvs) ∧ Paired (RowIs K H) kvs tb ∧ TabOk k ks cs tb ∧ NmL H a ks ∧ NmL H b cs ∧ ∀ H', Same H H' → Q .non H'
section
variable {P : Program} {w : World} {K : PySem.W.Frag} {mg : Str → Option Value} {base : Heap}
theorem ok_names {f : Addr} {fd : FuncData} (F : Fun K "_names" "_names" s__names f fd) (T : Bu mg) (c_is_name : Cal P w K mg base 1 "is_name" ["thing"] (spName K)) : FnOk P w K mg base CX0 2 f fd ["rows"] spNames := by
  refine F.ok sc__names (fun vs H Q E h => ?_) (fun cdv A outer s H vs Q E hr h => ?_)
  · obtain ⟨d, kvs, ks, rfl, _⟩ := h
    rfl
  · obtain ⟨d, kvs, ks, rfl, hd, hk, hn, hl, q⟩ := h
    refine ⟨_, (pss_one (ps_ret (pe_lock (pe_lc (own := [("name", 1)]) rfl sc__names.nd (pi_keys (pv 0)) (blkOk_by (N := N__names) (sc := defScope s__names) (by decide +kernel)) (fun _ _ _ _ _ => (pg_name (i := 1) sc__names.nd rfl (.inl rfl))) (fun _ _ _ _ _ => (pts_one (pt_val (pe_cal c_is_name hr (by decide) (by rfl) (pa_cons (pv 1) pa_nil))))) (fun _ _ _ _ _ => (pv 1)))))), ?_⟩
    refine ⟨d, _, hd, trivial, fun od => ?_⟩
    have hd1 : (upd H d (.frz od (.dK kvs))) d = some (.frz od (.dK kvs)) := upd_same
    refine ⟨_, rfl, d, od, rfl, .inl ⟨kvs, hd1, fun D hD => lc_it walk_keys (fun i H' => Same (upd H d (.frz od (.dK kvs))) H' ∧ H' D = some (.lst ((ks.take i).map V.str))) ⟨same_upd hD, upd_same⟩ (fun _ _ _ h => h.1 _ _ hd1) ?_ ?_⟩⟩
    · rintro i x H2 H3 hi ⟨hs, hD2⟩ ⟨rfl, k, v, hy, rfl⟩
      obtain ⟨z, hz, rfl⟩ := key_at hk hy
      have nz := hn z (List.mem_of_getElem? hz)
      refine ⟨rfl, _, rfl, .str z, .type "str", true, rfl, .base (.str z), kit_ty (by decide +kernel), fun _ => ⟨z, rfl, (nm_asc nz).mono (by decide)⟩, (fun z => nomatch z), fun H4 s4 => ⟨true, congrArg V.bl nz, iteT ⟨_, rfl, _, s4 _ _ hD2, ?_, fun b o e => ?_, ?_⟩⟩⟩
      · rw [List.length_map, List.length_take]
        exact small1000 (by have := (List.getElem?_eq_some_iff.mp hz).1; omega)
      · rw [upd_ne (ne_of_none e hD)]
        exact s4 _ _ (hs b o e)
      · rw [upd_same, List.take_add_one, hz, List.map_append] <;> rfl
    · rintro H2 ⟨hs, hD2⟩
      have hlen : kvs.length = ks.length := by
        have := congrArg List.length hk
        simpa using this
      rw [hlen, List.take_length] at hD2
      have hne : D ≠ d := fun w => by rw [w, hd1] at hD; cases hD
      refine ⟨hs _ _ hd1, q _ D (unlock hd hs) ?_ ?_⟩
      · rw [upd_ne hne] at hD
        exact hD
      · show upd H2 d (.dK kvs) D = _
        rw [upd_ne hne]
        exact hD2
theorem ok_refuse_rows {f : Addr} {fd : FuncData} (F : Fun K "_refuse_rows" "_refuse_rows" s__refuse_rows f fd) (T : Bu mg) (c_is_name : Cal P w K mg base 1 "is_name" ["thing"] (spName K)) (c_is_row : Cal P w K mg base 1 "is_row" ["thing"] (spRow K)) (c__fault : Cal P w K mg base 5 "_fault" ["word", "entry", "earlier", "kinds", "choices"] (spFault K)) :
    FnOk P w K mg base CX0 6 f fd ["word", "rows", "kinds", "choices"] (spRows K) := by
  refine F.ok sc__refuse_rows (fun vs H Q E h => ?_) (fun cdv A outer s H vs Q E hr h => ?_)
  · obtain ⟨k, d, a, b, kvs, tb, ks, cs, rfl, _⟩ := h
    rfl
  · obtain ⟨k, d, a, b, kvs, tb, ks, cs, rfl, hd, hp, ok, hk, hc, q⟩ := h
    refine ⟨_, (pss_one (ps_lock (ps_for PassesOwn.never rfl (pi_items (pv 1)) (pg_tup rfl (pgs_cons (pg_name (i := 4) sc__refuse_rows.nd rfl (.inl rfl)) (pgs_cons (pg_name (i := 5) sc__refuse_rows.nd rfl (.inl rfl)) pgs_nil)))
        (pss_cons (ps_if (pt_not (pt_val (pe_cal c_is_name hr (by decide) (by rfl) (pa_cons (pv 4) pa_nil))))
          (pss_one ps_dead)
          pss_nil)
        (pss_mid (ps_if (PW.pt (pw_or (pt_not (pt_val (pe_cal c_is_row hr (by decide) (by rfl) (pa_cons (pv 5) pa_nil)))) (pw_or1 (PW.pt (pw_and (pt_cmpR op_eq (pv 0) pe_str (nomark _)) (pw_and1 (pt_cmpR op_eq (pe_callB call_len (by rfl) T.n_len (by decide +kernel) (pa_cons (pv 5) pa_nil)) pe_int (nomark _))))))))
          (pss_one ps_dead)
          pss_nil)
        (pss_one (ps_for PassesOwn.never rfl (pi_en rfl T.n_enumerate (pa_cons (pv 5) pa_nil)) (pg_tup rfl (pgs_cons (pg_name (i := 6) sc__refuse_rows.nd rfl (.inl rfl)) (pgs_cons (pg_name (i := 7) sc__refuse_rows.nd rfl (.inl rfl)) pgs_nil)))
          (pss_cons (ps_set (i := 8) sc__refuse_rows.nd rfl (.inl rfl) (pe_cal c__fault hr (by decide) (by rfl) (pa_cons (pv 0) (pa_cons (pv 7) (pa_cons (pe_slice (r := rSlQ K) sl_sqr (pv 5) po_none (po_some (pv 6))) (pa_cons (pv 2) (pa_cons (pv 3) pa_nil)))))))
          (pss_one (ps_if (pt_cmpR op_notN (pv 8) pe_non (nomark _))
            (pss_one ps_dead)
            pss_nil)))))))))), ?_⟩
    refine ⟨d, _, hd, trivial, fun od => ?_⟩
    have hd1 : (upd H d (.frz od (.dK kvs))) d = some (.frz od (.dK kvs)) := upd_same
    have nl : ∀ {c : Addr} {xs : List V}, H c = some (.lst xs) → (upd H d (.frz od (.dK kvs))) c = some (.lst xs) := fun {c xs} e => by
      rw [upd_ne (ne_of e hd (by intro z; cases z))]
      exact e
    have hk1 := nl hk
    have hc1 := nl hc
    have hrow : ∀ {v : V} {es : List En}, EnRow K H es v → ∃ a xs, v = .ref a ∧ SqR K (upd H d (.frz od (.dK kvs))) a xs ∧ Tds K (upd H d (.frz od (.dK kvs))) xs (es.map En.pd) := fun ⟨a, xs, e, h1, h2⟩ =>
      ⟨a, xs, e, h1.elim (fun h => .inl (lock_list hd h)) (fun h => .inr (lock_keep hd _ _ h)), h2.keep (lock_keep hd)⟩
    generalize hH1 : upd H d (.frz od (.dK kvs)) = H1 at hd1 hk1 hc1 hrow ⊢
    refine ⟨_, rfl, d, od, kvs, rfl, hd1, ?_⟩
    refine for_it walk_items (fun i σ H' => ∃ (y4 y5 y6 y7 y8 : Option V), σ = [some (.str (wordB k)), some (.ref d), some (.ref a), some (.ref b), y4, y5, y6, y7, y8] ∧ Same H1 H') ⟨none, none, none, none, none, rfl, Same.refl _⟩ (fun _ _ _ _ ⟨_, _, _, _, _, _, s⟩ => s _ _ hd1) ?_ ?_
    · rintro i x σ H2 H3 hi ⟨y4, y5, y6, y7, y8, rfl, s2⟩ ⟨T1, kx, v, rfl, hT1, rfl, e1, e2⟩
      obtain ⟨⟨key, v'⟩, he, rfl⟩ := Option.map_eq_some_iff.mp e1
      have e2 : Option.map Prod.snd kvs[i]? = some v := e2
      rw [he] at e2
      cases e2
      obtain ⟨r, hr1, hk', hrw⟩ := pd_atL hp he
      have hk' : key = .inr r.1 := hk'
      subst hk'
      obtain ⟨rn, rok, rl, rne⟩ := ok.at hr1
      obtain ⟨p, xs, hvp, hR, hX⟩ := hrow hrw
      have hvp : v' = .ref p := hvp
      subst hvp
      have s3 := s2.trans (same_upd (o := .tup [kV (.inr r.1), .ref p]) hT1)
      refine ⟨T1, _, rfl, SqT.of upd_same, rfl, _, _, rfl, _, _, rfl, rfl, ?_⟩
      refine ⟨_, rfl, .str r.1, .type "str", true, rfl, .base (.str r.1), kit_ty (by decide +kernel), fun _ => ⟨r.1, rfl, (nm_asc rn).mono (by decide)⟩, (fun z => nomatch z), fun H4 s4 => ⟨true, congrArg V.bl rn, iteF ?_⟩⟩
      have s4 := s3.trans s4
      have hlx : xs.length = r.2.length := by rw [hX.len, List.length_map]
      refine ⟨fun σ H' => σ = [some (.str (wordB k)), some (.ref d), some (.ref a), some (.ref b), some (.str r.1), some (.ref p), y6, y7, y8] ∧ Same H1 H', ?_, ?_⟩
      · obtain ⟨ty, t1, t2⟩ := (hR.same s4).ty
        refine ⟨_, rfl, .ref p, ty, true, rfl, t1, t2, fun H5 s5 => ⟨true, rfl, iteF ?_⟩⟩
        have s5 := s4.trans s5
        refine ⟨_, rfl, rfl, _, rfl, ?_⟩
        cases k with
        | true => exact iteN (sne (show ("kind" : Str) ≠ "choice" by decide +kernel)) ⟨rfl, s5⟩
        | false =>
          have ne : r.2.length ≠ 0 := fun z => rne rfl (List.length_eq_zero_iff.mp z)
          exact iteY rfl ⟨_, rfl, _, _, rfl, (hR.same s5).len, rfl, _, rfl, iteN (ine (by omega)) ⟨rfl, s5⟩⟩
      rintro σ H5 ⟨rfl, s5⟩
      refine ⟨_, rfl, p, xs, rfl, hR.same s5, fun bt hb1 hb0 => ?_⟩
      refine for_it (walk_enC (K := K) (a := p) (xs := xs) (c := 0) (b := bt)) (fun j σ H' => ∃ (y6 y7 y8 : Option V), σ = [some (.str (wordB k)), some (.ref d), some (.ref a), some (.ref b), some (.str r.1), some (.ref p), y6, y7, y8] ∧ Same H5 H') ⟨y6, y7, y8, rfl, Same.refl _⟩ (fun _ _ _ _ h => ?_) ?_ ?_
      · obtain ⟨_, _, _, _, s⟩ := h
        cases bt with
        | true => exact KeepT.same s _ _ (hb1 rfl)
        | false => exact s.seq (hb0 rfl)
      · rintro j x σ H6 H7 hj ⟨y6, y7, y8, rfl, s6⟩ ⟨T2, x1, y1, rfl, hT2, rfl, e1, e2⟩
        cases e1
        obtain ⟨de, hde, td⟩ := hX.at_ e2
        rw [List.getElem?_map] at hde
        obtain ⟨e, he', rfl⟩ := Option.map_eq_some_iff.mp hde
        have s7 := (s5.trans s6).trans (same_upd (o := .tup [.int (0 + (j : Nat)), y1]) hT2)
        refine ⟨T2, _, rfl, SqT.of upd_same, rfl, _, _, rfl, _, _, rfl, rfl, ?_⟩
        refine ⟨_, rfl, _, rfl, _, rfl, _, rfl, 0 + (j : Nat), rfl, p, xs, rfl, hR.same s7, fun H8 t s8 ht => ?_⟩
        have s8' := s7.trans s8
        rw [show (0 + (j : Nat) : Int) = (j : Int) by omega, cut_take xs j (Nat.le_of_lt hj)] at ht
        refine ⟨_, rfl, _, rfl, k, y1, e, r.2.take j, t, a, b, xs.take j, ks, cs, rfl, td.keep (KeepT.same s8'), ht, ?_, ?_, s8' _ _ hk1, s8' _ _ hc1, rok j e he', fun H9 s9 => ?_⟩
        · have := (hX.keep (KeepT.same s8')).take j
          rw [← List.map_take] at this
          exact this
        · rw [List.length_take]
          omega
        refine ⟨_, rfl, rfl, _, rfl, iteNY rfl ?_⟩
        exact ⟨_, _, _, rfl, (s6.trans (same_upd (o := .tup [.int (0 + (j : Nat)), y1]) hT2)).trans (s8.trans s9)⟩
      · rintro σ H6 ⟨y6, y7, y8, rfl, s6⟩
        exact ⟨_, _, _, _, _, rfl, s5.trans s6⟩
    · rintro σ H2 ⟨y4, y5, y6, y7, y8, rfl, s2⟩
      subst hH1
      exact ⟨s2 _ _ hd1, q _ (unlock hd s2)⟩
end
end K34
namespace K34
open PySem PySem.Spec PyProof.Rows L2 Tw Sb LamX
def spByN (K : PySem.W.Frag) (TS : List (Addr × Str)) : Sp := fun vs H Q _ => ∃ (d : Addr) (kvs : List (Key × V)) (tb : List TRow), vs = [.ref d] ∧ H d = some (.dK kvs) ∧ Paired (RowIs K H) kvs tb ∧ (tb.map Prod.fst).Nodup ∧ tb.length ≤ 1000 ∧ Tabs TS H ∧
  ∀ (H' : Hp) (r : Addr) (kvs' : List (Key × V)), ExtN H H' → Tabs TS H' → H r = none → H' r = some (.dK kvs') → Paired (RowT K H') kvs' (sortT tb) → Q (.ref r) H'
section
variable {P : Program} {w : World} {K : PySem.W.Frag} {mg : Str → Option Value} {base : Heap}
theorem ok_by_numbers {c PT f : Addr} {oc kV doc pm ct : Value} {od an : Option Addr} {osl : Array (Option Value)} {TS : List (Addr × Str)} (lk : K.lookup f = some ⟨oc, od, .func (PySem.W.fnOf "_by_numbers" "_by_numbers" (defArgs s__by_numbers) (defBody s__by_numbers) (defScope s__by_numbers) .none kV doc pm an (.ref c) ct), osl⟩) (hcd : PySem.W.codeIn K (.ref c) "_by_numbers" = true)
    (T : Bu mg) (TB : TabB base mg c PT) (hB : (PT, ("_by_numbers.<locals>.<lambda>" : Str)) ∈ TS) (hu : ∀ p ∈ TS, p.1 = PT → p.2 = ("_by_numbers.<locals>.<lambda>" : Str)) :
    FnOk P w K mg base CX0 4 f (PySem.W.fnOf "_by_numbers" "_by_numbers" (defArgs s__by_numbers) (defBody s__by_numbers) (defScope s__by_numbers) .none kV doc pm an (.ref c) ct) ["rows"] (spByN K TS) := by
  refine fn_of lk hcd sc__by_numbers (fun vs H Q E h => ?_) fun A outer s H vs Q E hr h => ?_
  · obtain ⟨d, kvs, tb, rfl, _⟩ := h
    rfl
  · obtain ⟨d, kvs, tb, rfl, hd, hp, hnd, hl, hT, q⟩ := h
    have body : ∃ t, PSs ((cxOf CX0 P w K mg base N__by_numbers "_by_numbers" (defScope s__by_numbers) f (.ref c) A outer s H E).nox) (defBody s__by_numbers) t ∧ t { nx := fun _ H' => Q .non H', rt := Q } (L2.start N__by_numbers [.ref d]) H := by
     refine ⟨_, (pss_one (ps_ret (pe_lock (pe_dc (X := (cxOf CX0 P w K mg base N__by_numbers "_by_numbers" (defScope s__by_numbers) f (.ref c) A outer s H E).nox) (own := [("name", 1), ("row", 2)]) (g := gTup K 2 (gCons (gName 1) (gCons (gName 2) gNil))) rfl sc__by_numbers.nd (pi_items (pv 0)) (blkOk_by (N := N__by_numbers) (sc := defScope s__by_numbers) (by decide +kernel)) (fun _ _ _ _ _ => pg_tup rfl (pgs_cons (pg_name (i := 1) sc__by_numbers.nd rfl (.inl rfl)) (pgs_cons (pg_name (i := 2) sc__by_numbers.nd rfl (.inl rfl)) pgs_nil))) (fun _ _ _ _ _ => pts_nil) (fun _ _ _ _ _ => (pv 1)) (fun _ _ _ _ _ => pe_callTy (T := "tuple") (r := rTupOf K) cr_tupK (by rfl) T.n_tuple (by decide +kernel) (pa_cons (pe_sortLam K (T := TS) (pr := "entry") (by rfl) T.n_sorted (pv 2) TB rfl hB hu (hr.mono (show 1 ≤ 3 by decide)) ⟨⟨rfl, rfl, rfl⟩, rfl, ⟨_, _, _, _, rfl⟩, by decide⟩ rfl (fun _ _ _ _ _ _ => rfl)) pa_nil)))))), ?_⟩
     refine ⟨d, _, hd, trivial, fun od => ?_⟩
     have hd1 : (upd H d (.frz od (.dK kvs))) d = some (.frz od (.dK kvs)) := upd_same
     have hT1 : Tabs TS (upd H d (.frz od (.dK kvs))) := tabs_put hT fun o e => by rw [hd] at e; cases e; exact .dK
     have hback : ∀ H', ExtN (upd H d (.frz od (.dK kvs))) H' → ExtN H (upd H' d (.dK kvs)) := fun H' e b o q n => by
       by_cases hb : b = d
       · subst hb
         rw [upd_same, ← hd, q]
       · rw [upd_ne hb]
         exact e b o (by rw [upd_ne hb]; exact q) n
     have hrow : ∀ {v : V} {es : List En}, EnRow K H es v → ∃ a xs, v = .ref a ∧ SqR K (upd H d (.frz od (.dK kvs))) a xs ∧ Tds K (upd H d (.frz od (.dK kvs))) xs (es.map En.pd) := fun ⟨a, xs, e, h1, h2⟩ =>
       ⟨a, xs, e, h1.elim (fun h => .inl (lock_list hd h)) (fun h => .inr (lock_keep hd _ _ h)), h2.keep (lock_keep hd)⟩
     have hfree : ∀ {D : Addr}, (upd H d (.frz od (.dK kvs))) D = none → D ≠ d ∧ H D = none := fun {D} e => by
       have n : D ≠ d := fun w => by rw [w, upd_same] at e; cases e
       rw [upd_ne n] at e
       exact ⟨n, e⟩
     generalize upd H d (.frz od (.dK kvs)) = H1 at hd1 hT1 hback hrow hfree ⊢
     refine ⟨_, rfl, d, od, kvs, rfl, hd1, fun D hD => ?_⟩
     refine ⟨fun i m H' => m = kvs.length - i ∧ i ≤ kvs.length ∧ ExtN H1 H' ∧ Tabs TS H' ∧ ∃ kvs', H' D = some (.dK kvs') ∧ Paired (RowT K H') kvs' (sortT (tb.take i)), ⟨_, rfl, Nat.zero_le _, extN_new (.refl _) hD, tabs_new hT1 hD, [], upd_same, .nil⟩, ?_⟩
     rintro i m H' ⟨rfl, hi, e1, tT, kvs', hD', pr⟩
     have hd2 : H' d = some (.frz od (.dK kvs)) := e1 _ _ hd1 fun _ z => nomatch z
     by_cases hlt : i < kvs.length
     · refine .inr ⟨⟨hd2, hlt⟩, fun H' => i + 1 ≤ kvs.length ∧ ExtN H1 H' ∧ Tabs TS H' ∧ ∃ kvs', H' D = some (.dK kvs') ∧ Paired (RowT K H') kvs' (sortT (tb.take (i + 1))), fun H' h => ⟨kvs.length - (i + 1), by omega, rfl, h.1, h.2⟩, ?_⟩
       rintro x H2 ⟨T1, k, v, he, rfl, hT1', rfl⟩
       obtain ⟨r, hr1, hk', hrw⟩ := pd_atL hp he
       have hk' : k = .inr r.1 := hk'
       subst hk'
       obtain ⟨l, xs, hv, hR, hX⟩ := hrow hrw
       have hv : v = .ref l := hv
       subst hv
       obtain ⟨ps, p1, p2, p3, p4⟩ := sort_row hX
       have nTD : D ≠ T1 := ne_of_none hD' hT1'
       have e2 : ExtN H1 (upd H' T1 (.tup [L2.kV (.inr r.1), .ref l])) := fun b o q n => by
         rw [upd_ne (ne_of_none (e1 b o q n) hT1')]
         exact e1 b o q n
       refine ⟨T1, _, rfl, SqT.of upd_same, rfl, _, _, rfl, _, _, rfl, rfl, rfl, ?_⟩
       have k2 : KeepT K H1 (upd H' T1 (.tup [L2.kV (.inr r.1), .ref l])) := KeepT.extN e2
       have sq2 : SqR K (upd H' T1 (.tup [L2.kV (.inr r.1), .ref l])) l (ps.map Prod.fst) := by
         rw [p1]
         exact hR.elim (fun h => .inl (SqL.extN h e2)) fun h => .inr (SqT.extN h e2)
       have hD2 : (upd H' T1 (.tup [L2.kV (.inr r.1), .ref l])) D = some (.dK kvs') := by
         rw [upd_ne nTD]
         exact hD'
       have tT2 : Tabs TS (upd H' T1 (.tup [L2.kV (.inr r.1), .ref l])) := tabs_new tT hT1'
       have pr2 : Paired (RowT K (upd H' T1 (.tup [L2.kV (.inr r.1), .ref l]))) kvs' (sortT (tb.take i)) := pd_mono (fun _ _ h => h.keep (KeepT.same (same_upd hT1'))) pr
       generalize upd H' T1 (.tup [L2.kV (.inr r.1), .ref l]) = H2 at e2 k2 sq2 hD2 tT2 pr2 ⊢
       refine ⟨_, rfl, _, rfl, l, ps, rfl, sq2, fun p hp => ?_, tT2, fun H3 z eN T3 hz => ⟨z, _, rfl, .inl ⟨SqL.of upd_same, fun t ht => ?_⟩⟩⟩
       · obtain ⟨a, ys, e, h1⟩ := p2 p hp
         exact ⟨a, ys, e, k2 _ _ h1⟩
       have hD3 : H3 D = some (.dK kvs') := eN _ _ hD2 fun _ z => nomatch z
       have nDz : D ≠ z := ne_of_none hD3 hz
       have hD4 : (upd H3 z (.lst ((byKey ps).map Prod.fst))) D = some (.dK kvs') := by
         rw [upd_ne nDz]
         exact hD3
       have nDt : D ≠ t := ne_of_none hD4 ht
       have nk : (Sum.inr r.1 : Key) ∉ kvs'.map Prod.fst := by
         rw [rowsT_keys pr2]
         intro hm
         obtain ⟨n, hn, e⟩ := List.mem_map.mp hm
         cases e
         unfold sortT at hn
         rw [List.map_map] at hn
         obtain ⟨r', hr', e⟩ := List.mem_map.mp hn
         have e : r'.1 = r.1 := e
         obtain ⟨j, hj⟩ := List.getElem?_of_mem hr'
         have hji : j < i := by
           have := (List.getElem?_eq_some_iff.mp hj).1
           rw [List.length_take] at this
           omega
         rw [List.getElem?_take, if_pos hji] at hj
         have a1 : (tb.map Prod.fst)[j]? = some r.1 := by rw [List.getElem?_map, hj, ← e] <;> rfl
         have a2 : (tb.map Prod.fst)[i]? = some r.1 := by rw [List.getElem?_map, hr1] <;> rfl
         have := (List.getElem?_inj (List.getElem?_eq_some_iff.mp a1).1 hnd).mp (a1.trans a2.symm)
         omega
       have hll : kvs'.length = i := by
         have := pr2.length
         unfold sortT at this
         rw [List.length_map, List.length_take] at this
         have hi2 := (List.getElem?_eq_some_iff.mp hr1).1
         omega
       have hlt2 := (List.getElem?_eq_some_iff.mp hr1).1
       have s4 : Same H3 (upd (upd H3 z (.lst ((byKey ps).map Prod.fst))) t (.tup ((byKey ps).map Prod.fst))) := (same_upd hz).trans (same_upd ht)
       refine ⟨kvs', .inr r.1, rfl, by rw [upd_ne nDt]; exact hD4, small1000 (by omega), hlt, ?_, ?_, kvs' ++ [(.inr r.1, .ref t)], ?_, ?_⟩
       · refine extN_new ?_ hD
         exact (e2.trans eN).trans (.of s4)
       · refine tabs_put (T3.ext s4) fun o e => ?_
         rw [upd_ne nDt, hD4] at e
         cases e
         exact .dK
       · rw [upd_same, putK_new nk]
       · have k5 : KeepT K H2 (upd (upd (upd H3 z (.lst ((byKey ps).map Prod.fst))) t (.tup ((byKey ps).map Prod.fst))) D (.dK (putK kvs' (.inr r.1) (.ref t)))) := by
           refine ((KeepT.extN eN).trans (KeepT.same s4)).trans (KeepT.but fun b o e => ?_)
           have nb : (∀ k, o ≠ .dK k) → b ≠ D := fun n w => by
             rw [w, upd_ne nDt, hD4] at e
             exact n _ (Option.some.inj e).symm
           exact ⟨fun xs w => by rw [upd_ne (nb fun k z => by rw [w] at z; cases z)]; exact e, fun q xs w => by rw [upd_ne (nb fun k z => by rw [w] at z; cases z)]; exact e⟩
         unfold sortT
         rw [List.take_add_one, hr1, List.map_append]
         refine pd_append (pd_mono (fun _ _ h => h.keep k5) pr2) (.cons ⟨rfl, t, _, rfl, ?_, p3 _ (k2.trans k5)⟩ .nil)
         refine SqT.of ?_
         rw [upd_ne (Ne.symm nDt), upd_same]
     · have hie : i = kvs.length := by omega
       subst hie
       refine .inl ⟨⟨hd2, Nat.le_refl _⟩, hd2, ?_⟩
       have hlk : kvs.length = tb.length := hp.length
       rw [hlk, List.take_length] at pr
       obtain ⟨n1, n2⟩ := hfree hD
       refine q _ D kvs' (hback _ e1) (tabs_put tT fun o e => by rw [hd2] at e; cases e; exact .frz) n2 ?_ ?_
       · show upd H' d (.dK kvs) D = _
         rw [upd_ne n1]
         exact hD'
       · exact pd_mono (fun _ _ h => h.keep (unlock_keep hd2)) pr
    obtain ⟨t, dd, hq⟩ := body
    exact ⟨t, dd.nox, hq⟩
end
end K34
namespace K34
open PySem PySem.Spec PyProof.Rows L2 Tw Sb LamX
def spBack (K : PySem.W.Frag) : Sp := fun vs H Q _ => ∃ (d : Addr) (kvs : List (Key × V)) (tb : List TRow), vs = [.ref d] ∧ H d = some (.dK kvs) ∧ Paired (RowT K H) kvs tb ∧ (tb.map Prod.fst).Nodup ∧ (∀ r ∈ tb, r.2 ≠ []) ∧ Fwd tb ∧ ∀ H', Same H H' → Q .non H'
def spSInit (K : PySem.W.Frag) (C : Addr) (TS : List (Addr × Str)) : Sp := fun vs H Q _ => ∃ (p dx d1 : Addr) (cv rv : V) (kvs1 : List (Key × V)) (tb1 tb2 : List TRow) (s : So), vs = [.ref p, .ref d1, cv, rv] ∧ H p = some (.ins C dx []) ∧ H d1 = some (.dK kvs1) ∧ Paired (RowIs K H) kvs1 tb1 ∧
  ((cv = .non ∧ tb2 = []) ∨ ∃ d2 kvs2, cv = .ref d2 ∧ H d2 = some (.dK kvs2) ∧ Paired (RowIs K H) kvs2 tb2) ∧ Td K H rv s.pd ∧ ScOk tb1 tb2 s ∧ Tabs TS H ∧ ∀ H', ButN p H H' → Tabs TS H' → ScAt K C (New H) H' p tb1 tb2 s → Q .non H'
section
variable {P : Program} {w : World} {K : PySem.W.Frag} {mg : Str → Option Value} {base : Heap}
theorem ok_back {f : Addr} {fd : FuncData} (F : Fun K "_refuse_comings_back" "_refuse_comings_back" s__refuse_comings_back f fd) : FnOk P w K mg base CX0 1 f fd ["choices"] (spBack K) := by
  refine F.ok sc__refuse_comings_back (fun vs H Q E h => ?_) (fun cdv A outer s H vs Q E hr h => ?_)
  · obtain ⟨d, kvs, tb, rfl, _⟩ := h
    rfl
  · obtain ⟨d, kvs, tb, rfl, hd, hp, hnd, hne, ⟨rank, hrk⟩, q⟩ := h
    have hu := hu_of hr
    refine ⟨_, (pss_one (ps_lock (ps_for PassesOwn.never rfl (pi_keys (pv 0)) (pg_name (i := 1) sc__refuse_comings_back.nd rfl (.inl rfl))
        (pss_cons (ps_set (i := 2) sc__refuse_comings_back.nd rfl (.inl rfl) (pv 1))
        (pss_one (ps_for PassesOwn.never rfl (pi_keys (pv 0)) (pg_name (i := 3) sc__refuse_comings_back.nd rfl (.inl rfl))
          (pss_cons (ps_set (i := 4) sc__refuse_comings_back.nd rfl (.inl rfl) (pe_ix (r := rIxT K) ix_tup (pe_ix (r := rIxT K) ix_tup (pe_dget hu (pv 0) (pv 2) (fun _ _ => rfl)) pe_int (fun _ _ => rfl)) pe_int (fun _ _ => rfl)))
          (pss_cons (ps_if (PW.pt (pw_or (pt_cmpR op_isN (pv 4) pe_non (nomark _)) (pw_or1 (pt_cmpR op_ne (pe_ix (r := rIxT K) ix_tup (pv 4) pe_int (fun _ _ => rfl)) pe_str (nomark _)))))
            (pss_one ps_break)
            pss_nil)
          (pss_cons (ps_set (i := 2) sc__refuse_comings_back.nd rfl (.inl rfl) (pe_ix (r := rIxT K) ix_tup (pv 4) pe_int (fun _ _ => rfl)))
          (pss_one (ps_if (pt_cmpR op_eq (pv 2) (pv 1) (nomark _))
            (pss_one ps_dead)
            pss_nil))))))))))), ?_⟩
    refine ⟨d, _, hd, trivial, fun od => ?_⟩
    have hd1 : (upd H d (.frz od (.dK kvs))) d = some (.frz od (.dK kvs)) := upd_same
    have hp1 : Paired (RowT K (upd H d (.frz od (.dK kvs)))) kvs tb := pd_mono (fun _ _ h => h.keep (lock_keep hd)) hp
    have hback : Same H (upd (upd H d (.frz od (.dK kvs))) d (.dK kvs)) := unlock hd (Same.refl _)
    generalize upd H d (.frz od (.dK kvs)) = H1 at hd1 hp1 hback ⊢
    refine ⟨_, rfl, d, od, rfl, .inl ⟨kvs, hd1, ?_⟩⟩
    refine for_it walk_keys (fun i σ H' => ∃ (y1 y2 y3 y4 : Option V), σ = [some (.ref d), y1, y2, y3, y4] ∧ H1 = H') ⟨_, _, _, _, rfl, rfl⟩ (fun _ _ _ _ ⟨_, _, _, _, _, e⟩ => e ▸ hd1) ?_ ?_
    · rintro i x σ H2 H3 hi ⟨y1, y2, y3, y4, rfl, rfl⟩ ⟨eH, k, v, he, rfl⟩
      obtain rfl := eH.symm
      obtain ⟨z, hz, rfl⟩ := key_at (rowsT_keys hp1) he
      have hzm : z ∈ tb.map Prod.fst := List.mem_of_getElem? hz
      refine ⟨_, rfl, ?_⟩
      refine ⟨_, rfl, d, od, rfl, .inl ⟨kvs, hd1, ?_⟩⟩
      refine for_it walk_keys (fun j σ H' => ∃ (at_ : Str) (y3 y4 : Option V), σ = [some (.ref d), some (.str z), some (.str at_), y3, y4] ∧ H1 = H' ∧ at_ ∈ tb.map Prod.fst ∧ (at_ = z ∨ rank z < rank at_)) ⟨z, _, _, rfl, rfl, hzm, .inl rfl⟩ (fun _ _ _ _ ⟨_, _, _, _, e, _⟩ => e ▸ hd1) ?_ ?_
      · rintro j x σ H2 H3 hj ⟨at_, y3, y4, rfl, rfl, hm, hor⟩ ⟨eH, k2, v2, he2, rfl⟩
        obtain rfl := eH.symm
        obtain ⟨r, hrm, rfl⟩ := List.mem_map.mp hm
        obtain ⟨a, xs, g1, g2, g3⟩ := val_row hp1 hnd hrm
        obtain ⟨e, es, hes⟩ : ∃ e es, r.2 = e :: es := by
          cases hr2 : r.2 with
          | nil => exact absurd hr2 (hne r hrm)
          | cons e es => exact ⟨e, es, rfl⟩
        rw [hes] at g3
        obtain ⟨x0, xs', rfl, g4⟩ : ∃ x0 xs', xs = x0 :: xs' ∧ Td K H1 x0 e.pd := by
          cases g3 with
          | cons t1 t2 => exact ⟨_, _, rfl, t1⟩
        obtain ⟨p, x2, ys, rfl, hq, h2, _⟩ := Tds.entry g4
        have hrk1 := hrk r hrm e (by rw [hes] <;> rfl)
        refine ⟨_, rfl, _, rfl, d, _, rfl, .inl ⟨kvs, .inr r.1, .inr ⟨od, hd1⟩, rfl, g1.symm⟩, a, _, 0, .ref p, rfl, rfl, g2, at0, p, _, 2, x2, rfl, rfl, hq, at2, ?_⟩
        cases eo : e.of with
        | none =>
          rw [eo] at h2
          obtain rfl := h2.toNone
          exact ⟨_, rfl, rfl, _, rfl, iteY rfl ⟨_, _, _, _, rfl, rfl⟩⟩
        | some s =>
          rw [eo] at h2
          obtain ⟨pc, zs, rfl, hz, hzs⟩ := Td.row (show Td K H1 x2 (.tuple (.str s.word :: s.rest)) from h2)
          obtain ⟨zs', rfl, hzr⟩ : ∃ zs', zs = .str s.word :: zs' ∧ Tds K H1 zs' s.rest := by
            cases hzs with
            | cons t1 t2 =>
              cases t1
              exact ⟨_, rfl, t2⟩
          refine ⟨_, rfl, rfl, _, rfl, iteN (fun z => nomatch z) ?_⟩
          refine ⟨_, rfl, pc, _, 0, .str s.word, rfl, rfl, hz, at0, rfl, _, rfl, ?_⟩
          by_cases hc : ∃ c, s = .cho c
          · obtain ⟨c, rfl⟩ := hc
            obtain ⟨x1, rfl, h1⟩ : ∃ x1, zs' = [x1] ∧ x1 = .str c := by
              cases hzr with
              | cons t1 t2 =>
                cases t2
                exact ⟨_, rfl, t1.toStr⟩
            subst h1
            obtain ⟨r1, r2⟩ := hrk1 c eo
            have r3 : rank z < rank c := by
              rcases hor with w | w
              · rw [← w]
                exact r1
              · omega
            refine iteNY rfl ⟨_, rfl, pc, _, 1, .str c, rfl, rfl, hz, at1, ?_⟩
            refine ⟨_, rfl, _, rfl, rfl, _, rfl, iteN (sne fun w => ?_) ⟨c, _, _, rfl, rfl, r2, .inr r3⟩⟩
            rw [w] at r3
            omega
          · have nw : s.word ≠ "choice" := by
              cases s with
              | cho c => exact absurd ⟨c, rfl⟩ hc
              | num lo hi => exact (show ("number" : Str) ≠ "choice" by decide +kernel)
              | tru => exact (show ("truth" : Str) ≠ "choice" by decide +kernel)
              | txt n => exact (show ("text" : Str) ≠ "choice" by decide +kernel)
              | row n s => exact (show ("row" : Str) ≠ "choice" by decide +kernel)
              | may s => exact (show ("maybe" : Str) ≠ "choice" by decide +kernel)
              | nod k => exact (show ("node" : Str) ≠ "choice" by decide +kernel)
            exact iteNN (sne nw) ⟨_, _, _, _, rfl, rfl⟩
      · rintro σ H2 ⟨at_, y3, y4, rfl, rfl, _⟩
        exact ⟨_, _, _, _, rfl, rfl⟩
    · rintro σ H2 ⟨y1, y2, y3, y4, rfl, rfl⟩
      exact ⟨hd1, q _ hback⟩
theorem put1 {v : V} : putF "kinds" v [] = [(("kinds" : Str), v)] := rfl
theorem put2 {v u : V} : putF "choices" v [(("kinds" : Str), u)] = [(("kinds" : Str), u), (("choices" : Str), v)] := by
  show (if ("kinds" : Str) = "choices" then _ else (("kinds" : Str), u) :: putF "choices" v []) = _
  rw [if_neg (by decide +kernel)]
  rfl
theorem put3 {v u x : V} : putF "root" v [(("kinds" : Str), u), (("choices" : Str), x)] = [(("kinds" : Str), u), (("choices" : Str), x), (("root" : Str), v)] := by
  show (if ("kinds" : Str) = "root" then _ else (("kinds" : Str), u) :: (if ("choices" : Str) = "root" then _ else (("choices" : Str), x) :: putF "root" v [])) = _
  rw [if_neg (by decide +kernel), if_neg (by decide +kernel)]
  rfl
theorem sortT_keys (tb : List TRow) : (sortT tb).map Prod.fst = tb.map Prod.fst := by
  unfold sortT
  rw [List.map_map]
  rfl
theorem names_ok {k : Bool} {ks cs : List Str} {tb : List TRow} (h : TabOk k ks cs tb) : ∀ n ∈ tb.map Prod.fst, isNm n = true := fun n hn => by
  obtain ⟨r, hr, rfl⟩ := List.mem_map.mp hn
  exact (h r hr).1
theorem RowIs.extN {H H' : Hp} (e : ExtN H H') {kv : Key × V} {r : TRow} (h : RowIs K H kv r) : RowIs K H' kv r := by
  obtain ⟨h1, a, xs, h2, h3, h4⟩ := h
  exact ⟨h1, a, xs, h2, h3.elim (fun h => .inl (SqL.extN h e)) (fun h => .inr (SqT.extN h e)), h4.keep (KeepT.extN e)⟩
theorem RowIs.ins {H : Hp} {p C dx : Addr} {fs fs' : List (Str × V)} (hp : H p = some (.ins C dx fs)) {kv : Key × V} {r : TRow} (h : RowIs K H kv r) : RowIs K (upd H p (.ins C dx fs')) kv r := by
  obtain ⟨h1, a, xs, h2, h3, h4⟩ := h
  refine ⟨h1, a, xs, h2, h3.elim (fun h => .inl ?_) (fun h => .inr (keepT_ins hp _ _ h)), h4.keep (keepT_ins hp)⟩
  rcases h with (h | ⟨o, h⟩) | h
  · exact .inl (.inl (by rw [upd_ne (ne_of h hp (by intro z; cases z))]; exact h))
  · exact .inl (.inr ⟨o, by rw [upd_ne (ne_of h hp (by intro z; cases z))]; exact h⟩)
  · exact .inr h
theorem ok_sinit {C f : Addr} {fd : FuncData} {TS : List (Addr × Str)} (F : Fun K "__init__" "Schema.__init__" s_Schema___init__ f fd) (cl : ClS K C) (c__names : Cal P w K mg base 2 "_names" ["rows"] spNames) (c__refuse_rows : Cal P w K mg base 6 "_refuse_rows" ["word", "rows", "kinds", "choices"] (spRows K))
    (c_is_sort : Cal P w K mg base 4 "is_sort" ["of", "kinds", "choices"] (spSort K)) (c__by_numbers : Cal P w K mg base 4 "_by_numbers" ["rows"] (spByN K TS)) (c__refuse_comings_back : Cal P w K mg base 1 "_refuse_comings_back" ["choices"] (spBack K)) :
    FnOk P w K mg base CX0 7 f fd ["self", "kinds", "choices", "root"] (spSInit K C TS) := by
  refine F.ok sc_Schema___init__ (fun vs H Q E h => ?_) (fun cdv A outer s H vs Q E hr h => ?_)
  · obtain ⟨p, dx, d1, cv, rv, kvs1, tb1, tb2, s, rfl, _⟩ := h
    rfl
  · obtain ⟨p, dx, d1, cv, rv, kvs1, tb1, tb2, z, rfl, hp, hd1, hp1, hcv, hrv, ok, hT, q⟩ := h
    refine ⟨_, (pss_mid (ps_set (i := 4) sc_Schema___init__.nd rfl (.inl rfl) (pe_ifExp (pt_cmpR op_isN (pv 2) pe_non (nomark _)) pe_dnewK (pv 2)))
      (pss_cons (ps_set (i := 5) sc_Schema___init__.nd rfl (.inl rfl) (pe_cal c__names hr (by decide) (by rfl) (pa_cons (pv 1) pa_nil)))
      (pss_cons (ps_set (i := 6) sc_Schema___init__.nd rfl (.inl rfl) (pe_cal c__names hr (by decide) (by rfl) (pa_cons (pv 4) pa_nil)))
      (pss_cons (ps_expr (pe_cal c__refuse_rows hr (by decide) (by rfl) (pa_cons pe_str (pa_cons (pv 1) (pa_cons (pv 5) (pa_cons (pv 6) pa_nil))))))
      (pss_cons (ps_expr (pe_cal c__refuse_rows hr (by decide) (by rfl) (pa_cons pe_str (pa_cons (pv 4) (pa_cons (pv 5) (pa_cons (pv 6) pa_nil))))))
      (pss_cons (ps_if (pt_not (pt_val (pe_cal c_is_sort hr (by decide) (by rfl) (pa_cons (pv 3) (pa_cons (pv 5) (pa_cons (pv 6) pa_nil))))))
        (pss_one ps_dead)
        pss_nil)
      (pss_cons (ps_fld (pv 0) (pe_cal c__by_numbers hr (by decide) (by rfl) (pa_cons (pv 1) pa_nil)) rfl)
      (pss_cons (ps_fld (pv 0) (pe_cal c__by_numbers hr (by decide) (by rfl) (pa_cons (pv 4) pa_nil)) rfl)
      (pss_cons (ps_fld (pv 0) (pv 3) rfl)
      (pss_one (ps_expr (pe_cal c__refuse_comings_back hr (by decide) (by rfl) (pa_cons (pe_fld (pv 0) rfl) pa_nil))))))))))))), ?_⟩
    refine ⟨fun σ H' => ∃ (g : Addr) (kvs2 : List (Key × V)), σ = [some (.ref p), some (.ref d1), some cv, some rv, some (.ref g), none, none] ∧ Same H H' ∧ H' g = some (.dK kvs2) ∧ Paired (RowIs K H') kvs2 tb2, ?_, ?_⟩
    · rcases hcv with ⟨rfl, rfl⟩ | ⟨d2, kvs2, rfl, hd2, hp2⟩
      · refine ⟨_, rfl, rfl, _, rfl, iteY rfl fun g hg => ?_⟩
        exact ⟨g, [], rfl, same_upd hg, upd_same, .nil⟩
      · exact ⟨_, rfl, rfl, _, rfl, iteN (fun z => nomatch z) ⟨_, rfl, d2, kvs2, rfl, Same.refl _, hd2, hp2⟩⟩
    rintro σ H1 ⟨g, kvs2, rfl, s1, hg, hp2⟩
    have e1 : ExtN H H1 := .of s1
    have hp11 := pd_mono (fun _ _ h => RowIs.extN e1 h) hp1
    refine ⟨_, rfl, d1, kvs1, tb1.map Prod.fst, rfl, s1 _ _ hd1, rows_keys hp11, names_ok ok.t1, by rw [List.length_map]; exact ok.l1, fun H2 r1 s2 n1 m1 => ?_⟩
    have e2 : ExtN H1 H2 := .of s2
    have hp12 := pd_mono (fun _ _ h => RowIs.extN e2 h) hp11
    have hp22 := pd_mono (fun _ _ h => RowIs.extN e2 h) hp2
    refine ⟨_, rfl, g, kvs2, tb2.map Prod.fst, rfl, s2 _ _ hg, rows_keys hp22, names_ok ok.t2, by rw [List.length_map]; exact ok.l2, fun H3 r2 s3 n2 m2 => ?_⟩
    have e3 : ExtN H2 H3 := .of s3
    have hp13 := pd_mono (fun _ _ h => RowIs.extN e3 h) hp12
    have hp23 := pd_mono (fun _ _ h => RowIs.extN e3 h) hp22
    have s13 := (s1.trans s2).trans s3
    have hg3 := s3 _ _ (s2 _ _ hg)
    refine ⟨_, rfl, _, rfl, _, rfl, true, d1, r1, r2, kvs1, tb1, _, _, rfl, s13 _ _ hd1, hp13, ok.t1, s3 _ _ m1, m2, fun H4 s4 => ?_⟩
    have hp24 := pd_mono (fun _ _ h => RowIs.extN (.of s4) h) hp23
    have hp14 := pd_mono (fun _ _ h => RowIs.extN (.of s4) h) hp13
    refine ⟨_, rfl, _, rfl, _, rfl, false, g, r1, r2, kvs2, tb2, _, _, rfl, s4 _ _ hg3, hp24, ok.t2, s4 _ _ (s3 _ _ m1), s4 _ _ m2, fun H5 s5 => ?_⟩
    have s15 := (s13.trans s4).trans s5
    refine ⟨_, rfl, _, rfl, _, rfl, rv, z, r1, r2, _, _, rfl, hrv.keep (KeepT.same s15), s5 _ _ (s4 _ _ (s3 _ _ m1)), s5 _ _ (s4 _ _ m2), ok.ok, fun H6 s6 => ⟨true, rfl, iteF ?_⟩⟩
    have s16 := s15.trans s6
    have hp16 := pd_mono (fun _ _ h => RowIs.extN (.of (s5.trans s6)) h) hp14
    have hp26 := pd_mono (fun _ _ h => RowIs.extN (.of (s5.trans s6)) h) hp24
    have hg6 := s6 _ _ (s5 _ _ (s4 _ _ hg3))
    have hT6 := hT.ext s16
    refine ⟨_, rfl, d1, kvs1, tb1, rfl, s16 _ _ hd1, hp16, ok.n1, ok.l1, hT6, fun H7 k1 kv1 e7 T7 nk1 hk1 hq1 => ?_⟩
    have N1 : New H k1 := fun o e => by
      by_cases ht : ∃ ps, o = .tbl ps
      · exact ht
      · rw [s16 _ _ e] at nk1
        cases nk1
    have hp7 : H7 p = some (.ins C dx []) := e7 _ _ (s16 _ _ hp) fun _ z => nomatch z
    have hg7 := e7 _ _ hg6 fun _ z => nomatch z
    have ne7 : ∀ {b : Addr} {kv : List (Key × V)}, H7 b = some (.dK kv) → b ≠ p := fun e => ne_of e hp7 (by intro z; cases z)
    refine ⟨_, rfl, p, C, dx, [], rfl, hp7, cl.cl, cl.nK, by show 0 < 1000; decide, ?_⟩
    have hp8 : (upd H7 p (.ins C dx (putF "kinds" (.ref k1) []))) p = some (.ins C dx [("kinds", .ref k1)]) := by rw [upd_same, put1]
    have hg8 : (upd H7 p (.ins C dx (putF "kinds" (.ref k1) []))) g = some (.dK kvs2) := by rw [upd_ne (ne7 hg7)]; exact hg7
    have hk18 : (upd H7 p (.ins C dx (putF "kinds" (.ref k1) []))) k1 = some (.dK kv1) := by rw [upd_ne (ne7 hk1)]; exact hk1
    have T8 : Tabs TS (upd H7 p (.ins C dx (putF "kinds" (.ref k1) []))) := tabs_put T7 fun o e => by rw [hp7] at e; cases e; exact .ins
    have hp28 := pd_mono (fun _ _ h => RowIs.ins (fs' := putF "kinds" (.ref k1) []) hp7 (RowIs.extN e7 h)) hp26
    have hq18 := pd_mono (fun _ _ h => RowT.keep (keepT_ins (fs' := putF "kinds" (.ref k1) []) hp7) h) hq1
    have hrv8 : Td K (upd H7 p (.ins C dx (putF "kinds" (.ref k1) []))) rv z.pd := ((hrv.keep (KeepT.same s16)).keep (KeepT.extN e7)).keep (keepT_ins hp7)
    have b8 : ButN p H (upd H7 p (.ins C dx (putF "kinds" (.ref k1) []))) := ButN.put (.of ((ExtN.of s16).trans e7))
    generalize upd H7 p (.ins C dx (putF "kinds" (.ref k1) [])) = H8 at hp8 hg8 hk18 T8 hp28 hq18 hrv8 b8 ⊢
    refine ⟨_, rfl, g, kvs2, tb2, rfl, hg8, hp28, ok.n2, ok.l2, T8, fun H9 k2 kv2 e9 T9 nk2 hk2 hq2 => ?_⟩
    have N2 : New H k2 := fun o e => by
      by_cases ht : ∃ ps, o = .tbl ps
      · exact ht
      · by_cases hk : k2 = p
        · rw [hk, hp8] at nk2
          cases nk2
        · rw [b8 k2 o hk e fun ps h => ht ⟨ps, h⟩] at nk2
          cases nk2
    have hp9 : H9 p = some (.ins C dx [("kinds", .ref k1)]) := e9 _ _ hp8 fun _ z => nomatch z
    have hk19 := e9 _ _ hk18 fun _ z => nomatch z
    have hq19 := pd_mono (fun _ _ h => RowT.keep (KeepT.extN e9) h) hq18
    have ne9 : ∀ {b : Addr} {kv : List (Key × V)}, H9 b = some (.dK kv) → b ≠ p := fun e => ne_of e hp9 (by intro z; cases z)
    refine ⟨_, rfl, p, C, dx, _, rfl, hp9, cl.cl, cl.nC, by show 1 < 1000; decide, ?_⟩
    have hpA : (upd H9 p (.ins C dx (putF "choices" (.ref k2) [("kinds", .ref k1)]))) p = some (.ins C dx [("kinds", .ref k1), ("choices", .ref k2)]) := by rw [upd_same, put2]
    have hk1A : (upd H9 p (.ins C dx (putF "choices" (.ref k2) [("kinds", .ref k1)]))) k1 = some (.dK kv1) := by rw [upd_ne (ne9 hk19)]; exact hk19
    have hk2A : (upd H9 p (.ins C dx (putF "choices" (.ref k2) [("kinds", .ref k1)]))) k2 = some (.dK kv2) := by rw [upd_ne (ne9 hk2)]; exact hk2
    have TA : Tabs TS (upd H9 p (.ins C dx (putF "choices" (.ref k2) [("kinds", .ref k1)]))) := tabs_put T9 fun o e => by rw [hp9] at e; cases e; exact .ins
    have hq1A := pd_mono (fun _ _ h => RowT.keep (keepT_ins (fs' := putF "choices" (.ref k2) [("kinds", .ref k1)]) hp9) h) hq19
    have hq2A := pd_mono (fun _ _ h => RowT.keep (keepT_ins (fs' := putF "choices" (.ref k2) [("kinds", .ref k1)]) hp9) h) hq2
    have hrvA : Td K (upd H9 p (.ins C dx (putF "choices" (.ref k2) [("kinds", .ref k1)]))) rv z.pd := (hrv8.keep (KeepT.extN e9)).keep (keepT_ins hp9)
    have bA : ButN p H (upd H9 p (.ins C dx (putF "choices" (.ref k2) [("kinds", .ref k1)]))) := ButN.put (b8.trans (.of e9))
    generalize upd H9 p (.ins C dx (putF "choices" (.ref k2) [("kinds", .ref k1)])) = HA at hpA hk1A hk2A TA hq1A hq2A hrvA bA ⊢
    have neA : ∀ {b : Addr} {kv : List (Key × V)}, HA b = some (.dK kv) → b ≠ p := fun e => ne_of e hpA (by intro z; cases z)
    refine ⟨_, rfl, _, rfl, p, C, dx, _, rfl, hpA, cl.cl, cl.nR, by show 2 < 1000; decide, ?_⟩
    have hpB : (upd HA p (.ins C dx (putF "root" rv [("kinds", .ref k1), ("choices", .ref k2)]))) p = some (.ins C dx [("kinds", .ref k1), ("choices", .ref k2), ("root", rv)]) := by rw [upd_same, put3]
    have hk1B : (upd HA p (.ins C dx (putF "root" rv [("kinds", .ref k1), ("choices", .ref k2)]))) k1 = some (.dK kv1) := by rw [upd_ne (neA hk1A)]; exact hk1A
    have hk2B : (upd HA p (.ins C dx (putF "root" rv [("kinds", .ref k1), ("choices", .ref k2)]))) k2 = some (.dK kv2) := by rw [upd_ne (neA hk2A)]; exact hk2A
    have TB : Tabs TS (upd HA p (.ins C dx (putF "root" rv [("kinds", .ref k1), ("choices", .ref k2)]))) := tabs_put TA fun o e => by rw [hpA] at e; cases e; exact .ins
    have hq1B := pd_mono (fun _ _ h => RowT.keep (keepT_ins (fs' := putF "root" rv [("kinds", .ref k1), ("choices", .ref k2)]) hpA) h) hq1A
    have hq2B := pd_mono (fun _ _ h => RowT.keep (keepT_ins (fs' := putF "root" rv [("kinds", .ref k1), ("choices", .ref k2)]) hpA) h) hq2A
    have hrvB : Td K (upd HA p (.ins C dx (putF "root" rv [("kinds", .ref k1), ("choices", .ref k2)]))) rv z.pd := hrvA.keep (keepT_ins hpA)
    have bB : ButN p H (upd HA p (.ins C dx (putF "root" rv [("kinds", .ref k1), ("choices", .ref k2)]))) := ButN.put bA
    generalize upd HA p (.ins C dx (putF "root" rv [("kinds", .ref k1), ("choices", .ref k2)])) = HB at hpB hk1B hk2B TB hq1B hq2B hrvB bB ⊢
    refine ⟨_, rfl, p, C, dx, _, .ref k2, rfl, hpB, cl.cl, cl.nC, rfl, k2, kv2, sortT tb2, rfl, hk2B, hq2B, by rw [sortT_keys]; exact ok.n2, fun r hr0 => ?_, ok.fwd, fun HC sC => ?_⟩
    · unfold sortT at hr0
      obtain ⟨r', hr', rfl⟩ := List.mem_map.mp hr0
      intro w
      have w : sortEn r'.2 = [] := w
      have hl := congrArg List.length w
      unfold sortEn at hl
      rw [List.length_mergeSort] at hl
      exact (ok.t2 r' hr').2.2.2 rfl (List.length_eq_zero_iff.mp hl)
    · exact q HC (bB.trans (.of (.of sC))) (TB.ext sC) ⟨dx, k1, k2, kv1, kv2, rv, N1, N2, sC _ _ hpB, sC _ _ hk1B, pd_mono (fun _ _ h => RowT.keep (KeepT.same sC) h) hq1B, sC _ _ hk2B, pd_mono (fun _ _ h => RowT.keep (KeepT.same sC) h) hq2B, hrvB.keep (KeepT.same sC)⟩
end
end K34
set_option maxHeartbeats 4000000
/-! TwMul: a tuple taken no times or once. -/
namespace Tw
open PySem PySem.Spec PyProof.Rows L2
/-- taken once: the tuple itself -/
theorem mul_once (l : Addr) (items : Array Value) (n : Nat) (dd : Option Addr) (sl : Array (Option Value)) (u : Tok) :
    Meets (Builtin.«tuple.__mul__» ⟨[.ref l, .int 1 u], []⟩) (fun _ R s => s.heap.get? l = some { cls := .type "tuple", dict := dd, data := .seq items n, slots := sl } ∧ R (.ok (.ret (Value.ref l))) s) :=
  .of_wp fun prog w A R s h => by
    obtain ⟨hp, g, d, tk, os⟩ := s
    obtain ⟨hl, h⟩ := h
    have f1 := AutoSeq1.idx_int
    wp_walk using wpAny_loadPart' hl
    exact ⟨_, rfl, h⟩
/-- taken no times: a new empty one -/
theorem mul_none (l : Addr) (items : Array Value) (n : Nat) (dd : Option Addr) (sl : Array (Option Value)) (u : Tok) (c1 : (items.isEmpty || (0 : Int) == 1) = false) :
    Meets (Builtin.«tuple.__mul__» ⟨[.ref l, .int 0 u], []⟩) (fun _ R s => s.heap.get? l = some { cls := .type "tuple", dict := dd, data := .seq items n, slots := sl } ∧
      R (.ok (.ret (Value.ref s.heap.objs.size))) { s with heap := s.heap.push { cls := Value.type "tuple", data := Data.seq #[] }, toks := s.toks }) :=
  .of_wp fun prog w A R s h => by
    obtain ⟨hp, g, d, tk, os⟩ := s
    obtain ⟨hl, h⟩ := h
    have f1 := AutoSeq1.idx_int
    wp_walk using wpAny_loadPart' hl
    repeat (first
      | (refine wpAny_ite_false (decide_eq_false (by rw [c1]; exact Bool.false_ne_true)) ?_; wp_walk using wpAny_loadPart' hl))
    exact ⟨_, rfl, h⟩
/-- (x, ..) * 0 and * 1 -/
def rRepB (K : PySem.W.Frag) : R2 := fun x y H Q => ∃ (l : Addr) (b : Bool) (xs : List V), x = .ref l ∧ y = .int (if b then 1 else 0) ∧ SqT K H l xs ∧ xs ≠ [] ∧ (b = true → Q (.ref l) H) ∧ (b = false → ∀ p, H p = none → Q (.ref p) (upd H p (.tup [])))
theorem op_repB {X : Cx} : OpR X (binaryOp .Mult) (rRepB X.K) := by
  intro pins s σ H x y v u Q I rx ry h
  obtain ⟨l, b, xs, rfl, rfl, hT, hne, q1, q0⟩ := h
  cases rx
  obtain ⟨t, rfl⟩ := ry
  obtain ⟨its, r, ⟨⟨cls, dd, data, sl⟩, ho, hc, n, hd⟩, hs⟩ := I.tuple hT
  simp only at hc hd
  subst hc hd
  have hi : its.toArray.isEmpty = false := by
    cases its with
    | nil => exact absurd (List.eq_nil_of_length_eq_zero r.length) hne
    | cons a b => rfl
  cases b with
  | true =>
    refine wpAny_binaryOp_repeat_ref (T := "tuple") (U := "int") (by decide) ⟨_, ho, rfl⟩ (fun s' => typeIs_int s' 1 t) noFill_tuple_mul F.fills_int_mul F.slot_int_rmul repeat_tuple F.slot_int_index.lookup
      (call_meets F.slot_int_rmul (typeIs_int s 1 t) F.entry_int_rmul (F.args_int_rmul_2 _ _) (int_rmul_tuple 1 t l its.toArray n dd sl)
        ⟨ho, rfl, ⟨_, ho, rfl⟩, call_meets F.slot_tuple_mul ⟨_, ho, rfl⟩ F.entry_tuple_mul (F.args_tuple_mul_2 _ _) (mul_once l its.toArray n dd sl t) ⟨ho, ?_⟩⟩)
    exact ⟨.ref l, H, I, rfl, q1 rfl⟩
  | false =>
    refine wpAny_binaryOp_repeat_ref (T := "tuple") (U := "int") (by decide) ⟨_, ho, rfl⟩ (fun s' => typeIs_int s' 0 t) noFill_tuple_mul F.fills_int_mul F.slot_int_rmul repeat_tuple F.slot_int_index.lookup
      (call_meets F.slot_int_rmul (typeIs_int s 0 t) F.entry_int_rmul (F.args_int_rmul_2 _ _) (int_rmul_tuple 0 t l its.toArray n dd sl)
        ⟨ho, rfl, ⟨_, ho, rfl⟩, call_meets F.slot_tuple_mul ⟨_, ho, rfl⟩ F.entry_tuple_mul (F.args_tuple_mul_2 _ _) (mul_none l its.toArray n dd sl t (by rw [hi]; rfl)) ⟨ho, ?_⟩⟩)
    refine ⟨.ref s.heap.objs.size, _, I.laid (t' := s.toks) (o := .tup []) (fun b ob q => Heap.get?_push_of_some _ q) (Nat.le_refl _) ?_, rfl, q0 rfl _ (I.hok.fresh (Nat.le_refl _))⟩
    exact ⟨Nat.zero_le _, _, .nil, IsTup.new _ _⟩
end Tw
namespace Tw
open PySem PySem.Spec PyProof.Rows L2
/-- a text said k times -/
def timesS (z : Str) (k : Nat) : Str := ⟨(List.replicate k z.cps).foldl (· ++ ·) #[]⟩
def rRepS : R2 := fun x y H Q => ∃ (z : Str) (k : Int), x = .str z ∧ y = .int k ∧ 2 ≤ k ∧ k ≤ 100 ∧ z.length ≠ 0 ∧ z.length ≤ 1000 ∧ (timesS z k.toNat).length ≤ 16777216 ∧ Q (.str (timesS z k.toNat)) H
theorem op_repS {X : Cx} : OpR X (binaryOp .Mult) rRepS := by
  intro pins s σ H x y v u Q I rx ry h
  obtain ⟨z, k, rfl, rfl, h1, h2, h3, h4, h5, q⟩ := h
  obtain ⟨t, rfl⟩ := rx
  obtain ⟨t2, rfl⟩ := ry
  have n1 : ¬ k < 1 := by omega
  have n2 : (k == 1 || z.length == 0) = false := by
    rw [Bool.or_eq_false_iff]
    exact ⟨beq_eq_false_iff_ne.mpr (by omega), beq_eq_false_iff_ne.mpr h3⟩
  have hmul : z.length * k.toNat ≤ 1000 * 100 := Nat.mul_le_mul h4 (by omega)
  refine P.mul_str (by rw [decide_eq_false (by omega), decide_eq_false (by omega)] <;> rfl) (fun _ _ => ?_) (fun _ _ => ?_) ?_
  · have hd : (92233720368547758 : Int) ≤ (2 ^ 63 - 1) / k := Int.le_ediv_of_mul_le (by omega) (by omega)
    omega
  · unfold Builtin.Str.tooLong
    exact decide_eq_false (by rw [sizeLine_eq]; omega)
  · rw [if_neg n1, if_neg (by rw [n2]; exact Bool.false_ne_true)]
    refine ⟨?_, ⟨.str _, H, I.tok _, ⟨_, rfl⟩, q⟩⟩
    exact h5
end Tw
/-! TgM: a text said none, once or several times: how long it is. -/
namespace Tw
open PySem PySem.Spec PyProof.Rows L2
theorem times_len (z : Str) : ∀ (k : Nat) (acc : Array Nat), ((List.replicate k z.cps).foldl (· ++ ·) acc).size = acc.size + k * z.cps.size
  | 0, acc => by
    show acc.size = _
    omega
  | k + 1, acc => by
    rw [List.replicate_succ, List.foldl_cons, times_len z k, Array.size_append, Nat.add_mul]
    omega
def rRepG : R2 := fun x y H Q => ∃ (z : Str) (k : Int), x = .str z ∧ y = .int k ∧ 0 ≤ k ∧ k ≤ 100 ∧ z.length ≠ 0 ∧ z.length ≤ 1000 ∧ ∀ r : Str, r.length ≤ k.toNat * z.length → Q (.str r) H
theorem op_repG {X : Cx} : OpR X (binaryOp .Mult) rRepG := by
  intro pins s σ H x y v u Q I rx ry h
  obtain ⟨z, k, rfl, rfl, h1, h2, h3, h4, q⟩ := h
  obtain ⟨t, rfl⟩ := rx
  obtain ⟨t2, rfl⟩ := ry
  have hmul : z.length * k.toNat ≤ 1000 * 100 := Nat.mul_le_mul h4 (by omega)
  refine P.mul_str (by rw [decide_eq_false (by omega), decide_eq_false (by omega)] <;> rfl) (fun _ _ => ?_) (fun _ _ => ?_) ?_
  · have hd : (92233720368547758 : Int) ≤ (2 ^ 63 - 1) / k := Int.le_ediv_of_mul_le (by omega) (by omega)
    omega
  · unfold Builtin.Str.tooLong
    exact decide_eq_false (by rw [sizeLine_eq]; omega)
  · by_cases n1 : k < 1
    · rw [if_pos n1]
      exact ⟨by decide, ⟨.str Str.empty, H, I.tok _, ⟨_, rfl⟩, q _ (Nat.zero_le _)⟩⟩
    · rw [if_neg n1]
      by_cases n2 : (k == 1 || z.length == 0) = true
      · rw [if_pos n2]
        have hk : k = 1 := by
          rw [Bool.or_eq_true, beq_iff_eq, beq_iff_eq] at n2
          exact n2.resolve_right h3
        exact ⟨.str z, H, I, ⟨t, rfl⟩, q z (by rw [hk]; show z.length ≤ 1 * z.length; omega)⟩
      · rw [if_neg n2]
        have hs : (⟨(List.replicate k.toNat z.cps).foldl (· ++ ·) #[]⟩ : Str).length = k.toNat * z.length := by
          show ((List.replicate k.toNat z.cps).foldl (· ++ ·) #[]).size = k.toNat * z.cps.size
          rw [times_len]
          show 0 + _ = _
          omega
        refine ⟨?_, ⟨.str _, H, I.tok _, ⟨_, rfl⟩, q _ (Nat.le_of_eq hs)⟩⟩
        rw [hs, Nat.mul_comm]
        exact Nat.le_trans hmul (by decide)
end Tw
set_option maxHeartbeats 4000000
/-! TwEq: == of what is nested of lists, tuples and dicts, and equal. -/
namespace Tw
open PySem PySem.Spec PyProof.Rows L2
open PySem.AutoSeq1 (wpAny_loadPart')
open MeetsSeq MeetsSeq2 MeetsSeq3 SeqRoads2
section
variable {prog : Program} {w : World}
/-- tuples whose items are equal, pair by pair -/
theorem tup_true (l b : Addr) (us ws : List Value) (n m : Nat) (d1 d2 : Option Addr) (s1 s2 : Array (Option Value)) (hlen : us.length = ws.length) :
    MeetsIn prog w (Builtin.«tuple.__eq__» ⟨[.ref l, .ref b], []⟩)
      (fun A R s => s.heap.get? l = some { cls := .type "tuple", dict := d1, data := .seq us.toArray n, slots := s1 } ∧ s.heap.get? b = some { cls := .type "tuple", dict := d2, data := .seq ws.toArray m, slots := s2 } ∧
        (∀ p ∈ us.zip ws, SeqAt.EqP prog w A.in1 s p.1 p.2 true) ∧ R (.ok (.ret (.bool true))) s) := by
  intro A R s h
  obtain ⟨hp, g, d, tk, os⟩ := s
  obtain ⟨hl, hb, he, h⟩ := h
  have sub := AutoSeq1.sub_tuple_tuple
  wp_walk using wpAny_loadPart' hl, wpAny_loadPart' hb, wpAny_forIn_list _ (fun rest b s' => b.1 = none ∧ s' = (⟨hp, g, d, tk, os⟩ : Shared) ∧ ∀ p ∈ rest, p ∈ us.zip ws) _
  case turn =>
    rintro p rest q s' ⟨hq, rfl, hr⟩
    refine wpAny_bind (he p (hr p List.mem_cons_self) _ _ ?_)
    wp_walk
    exact ⟨rfl, rfl, fun p' hp' => hr p' (List.mem_cons_of_mem _ hp')⟩
  case fin =>
    rintro ⟨q1, q2⟩ s' ⟨hq, rfl, hr⟩
    simp only at hq
    subst hq
    wp_walk
    have e : Builtin.Tuple.tupleCompareSizes .Eq us.toArray.size ws.toArray.size = .bool true := by
      simp [Builtin.Tuple.tupleCompareSizes, hlen]
    rw [e]
    exact h
  case h => exact ⟨rfl, rfl, fun p hp => hp⟩
theorem rcP_tups {A : Around} {s : Shared} {l b : Addr} {us ws : List Value} (hl : s.heap.IsTuple l us.toArray) (hb : s.heap.IsTuple b ws.toArray) (hlen : us.length = ws.length) (hu : A.units < cLine) (he : ∀ p ∈ us.zip ws, SeqAt.EqP prog w A.in1 s p.1 p.2 true)
    (E Q : Value → Shared → Prop) (q : Q (.bool true) s) : wpAny (model prog w) A (richCompare .Eq (.ref l) (.ref b)) Q E s := by
  obtain ⟨⟨c1, d1, dat1, s1⟩, g1, rfl, n, rfl⟩ := hl
  obtain ⟨⟨c2, d2, dat2, s2⟩, g2, rfl, m, rfl⟩ := hb
  have t1 : s.TypeIs (.ref l) "tuple" := ⟨_, g1, rfl⟩
  refine wpAny_richCompare_same_room (op := .Eq) t1 ⟨_, g2, rfl⟩ F.slot_tuple_eq (call_meetsIn F.slot_tuple_eq t1 F.entry_tuple_eq (F.args_tuple_eq_2 _ _) (tup_true l b us ws n m d1 d2 s1 s2 hlen) ⟨g1, g2, he, ?_⟩) hu
  exact ⟨(fun z => nomatch z), q⟩
end
/-- .. or two tuples of equal items -/
def EqW (K : PySem.W.Frag) (H : Hp) (E : V → V → Prop) (x y : V) : Prop := EqR K H E x y ∨ ∃ a b xs ys, x = .ref a ∧ y = .ref b ∧ SqT K H a xs ∧ SqT K H b ys ∧ Paired E xs ys
def EqT (K : PySem.W.Frag) (H : Hp) : Nat → V → V → Prop
  | 0 => fun _ _ => False
  | n + 1 => fun x y => (x = y ∧ flatB x = true) ∨ (∃ a, x = .ref a ∧ y = .ref a) ∨ EqW K H (EqT K H n) x y
section
variable {X : Cx} {pins : List (Addr × Obj)} {σ : L2.St} {H : Hp} {s : Shared}
/-- one step: what stands one deeper is told apart already -/
theorem eqW_run (I : Inv X pins σ H s) {A : Around} {F : V → V → Prop} (room : A.units < cLine) (inner : ∀ x y v u, F x y → RelV x v → RelV y u → SeqAt.EqP X.prog X.w A.in1 s v u true) {x y : V} {v u : Value} (eq : EqW X.K H F x y) (hx : RelV x v) (hy : RelV y u) (E Q : Value → Shared → Prop) (done : Q (.bool true) s) :
    wpAny (model X.prog X.w) A (richCompare .Eq v u) Q E s := by
  cases eq with
  | inl eq => exact eqR_run I room inner eq hx hy E Q done
  | inr eq =>
    obtain ⟨c, d, xs, ys, rfl, rfl, hc, hd, pairs⟩ := eq
    obtain rfl : v = .ref c := hx
    obtain rfl : u = .ref d := hy
    obtain ⟨us, ru, tu, _⟩ := I.tuple hc
    obtain ⟨ws, rw_, tw, _⟩ := I.tuple hd
    have len : us.length = ws.length := ru.length.symm.trans (pairs.length.trans rw_.length)
    refine rcP_tups tu tw len room (fun z hz => ?_) E Q done
    obtain ⟨i, hi⟩ := List.mem_iff_getElem?.mp hz
    have both := List.getElem?_zip_eq_some.mp hi
    obtain ⟨iu, eu⟩ := List.getElem?_eq_some_iff.mp both.1
    obtain ⟨iw, ew⟩ := List.getElem?_eq_some_iff.mp both.2
    rw [← eu, ← ew]
    exact items_run inner pairs ru rw_ i iu iw
/-- all the way down -/
theorem eqT_run (I : Inv X pins σ H s) (n : Nat) : ∀ (A : Around), A.units + n < cLine → ∀ (x y : V) (v u : Value), EqT X.K H n x y → RelV x v → RelV y u → SeqAt.EqP X.prog X.w A s v u true := by
  induction n with
  | zero => exact fun _ _ _ _ _ _ no => False.elim no
  | succ m ih =>
    intro A room x y v u eq hx hy
    rcases eq with ⟨same, flat⟩ | same | deep
    · subst same
      exact SeqAt.EqAt.eqP (eqAt_same hx hy flat)
    · obtain ⟨c, rfl, rfl⟩ := same
      rw [show v = .ref c from hx, show u = .ref c from hy]
      exact SeqAt.EqAt.eqP (SeqAt.EqAt.same _)
    · have run := eqW_run I (A := A) (by omega) (ih A.in1 (by show A.units + 1 + m < cLine; omega)) deep hx hy
      obtain ⟨c, d, ec, ed⟩ : ∃ c d, x = .ref c ∧ y = .ref d := by
        rcases deep with (⟨c, d, _, _, p, q, _⟩ | ⟨c, d, _, _, p, q, _⟩) | ⟨c, d, _, _, p, q, _⟩ <;> exact ⟨c, d, p, q⟩
      rw [ec] at hx
      rw [ed] at hy
      rw [show v = .ref c from hx, show u = .ref d from hy] at run ⊢
      by_cases one : c = d
      · rw [one]
        exact SeqAt.EqAt.eqP (SeqAt.EqAt.same _)
      · exact SeqAt.eqP_refs one run
end
/-- a == b, equal all through -/
def rEqT (K : PySem.W.Frag) : R2 := fun x y H Q => ∃ n, n ≤ 60 ∧ EqW K H (EqT K H n) x y ∧ Q (.bl true) H
theorem op_eqT {X : Cx} (hu : X.A.units + 64 < cLine) : OpR X (compareOp .Eq) (rEqT X.K) := by
  intro pins s σ H x y v u Q I rx ry ⟨n, hn, h, q⟩
  exact eqW_run I (A := X.A) (by omega) (eqT_run I n X.A.in1 (by show X.A.units + 1 + n < cLine; omega)) h rx ry _ _ ⟨.bl true, H, I, rfl, q⟩
/-! what is of the same data is equal -/
mutual
theorem td_eq {K : PySem.W.Frag} {H : Hp} : ∀ {x y : V} {d : PyData} {n : Nat}, Td K H x d → Td K H y d → PyData.depth d < n → EqT K H n x y
  | _, _, _, 0, _, _, h => absurd h (Nat.not_lt_zero _)
  | _, _, _, _ + 1, .non, t, _ => by cases t; exact .inl ⟨rfl, rfl⟩
  | _, _, _, _ + 1, .bl _, t, _ => by cases t; exact .inl ⟨rfl, rfl⟩
  | _, _, _, _ + 1, .int _, t, _ => by cases t; exact .inl ⟨rfl, rfl⟩
  | _, _, _, _ + 1, .str _, t, _ => by cases t; exact .inl ⟨rfl, rfl⟩
  | _, _, _, n + 1, .tup (ds := ds) q r, t, h => by
    obtain ⟨b, ys, rfl, q2, r2⟩ := Td.row t
    exact .inr (.inr (.inr ⟨_, b, _, ys, rfl, rfl, q, q2, tds_eq r r2 (show PyData.depthAll ds < n from Nat.lt_of_succ_lt_succ h)⟩))
theorem tds_eq {K : PySem.W.Frag} {H : Hp} : ∀ {xs ys : List V} {ds : List PyData} {n : Nat}, Tds K H xs ds → Tds K H ys ds → PyData.depthAll ds < n → Paired (EqT K H n) xs ys
  | _, _, _, _, .nil, t, _ => by cases t; exact .nil
  | _, _, _, _, .cons (d := d) (ds := ds) h r, t, k => by
    cases t with
    | cons h2 r2 =>
      have k : max (PyData.depth d) (PyData.depthAll ds) < _ := k
      exact .cons (td_eq h h2 (Nat.lt_of_le_of_lt (Nat.le_max_left _ _) k)) (tds_eq r r2 (Nat.lt_of_le_of_lt (Nat.le_max_right _ _) k))
end
end Tw
/-! TgL: is a list empty, asked by == []. -/
namespace Tw
open PySem PySem.Spec PyProof.Rows L2
def rEq0 : R2 := fun x y H Q => ∃ (a b : Addr) (xs : List V), x = .ref a ∧ y = .ref b ∧ H a = some (.lst xs) ∧ H b = some (.lst []) ∧ Q (.bl xs.isEmpty) H
theorem op_eq0 {X : Cx} (hu : X.A.units + 64 < cLine) : OpR X (compareOp .Eq) rEq0 := by
  intro pins s σ H x y v u Q I rx ry h
  obtain ⟨a, b, xs, rfl, rfl, ha, hb, q⟩ := h
  cases xs with
  | nil => exact op_eqD hu pins s σ H _ _ v u Q I rx ry ⟨.list [], .list [], .lst (SqL.of ha) .nil, .lst (SqL.of hb) .nil, by decide +kernel, by decide +kernel, q⟩
  | cons z r =>
    cases rx
    cases ry
    obtain ⟨_, its, n, r1, hl, e1⟩ := I.lstM ha
    obtain ⟨_, its2, n2, r2, hl2, e2⟩ := I.lstM hb
    have e0 : its2 = [] := List.eq_nil_of_length_eq_zero hl2.symm
    subst e0
    exact SeqAt.RcAt.lists_lengths ⟨_, e1, rfl, n, rfl⟩ ⟨_, e2, rfl, n2, rfl⟩ (bne_iff_ne.mpr (by
      rw [List.size_toArray, ← hl]
      exact fun w => nomatch w)) (by omega) _ _ _ _ ⟨.bl false, H, I, rfl, q⟩
/-- x.f where the block's own context must not be told -/
theorem pe_fldK (Kk : PySem.W.Frag) {X : Cx} {e : Expr} {ta : TE} {f : Str} {pos : Pos} (he : PE X e ta) (hb : attributeBase e f X.env (eval e X.env) = eval e X.env) (hK : X.K = Kk := by rfl) : PE X (.Attribute e f pos) (tFld Kk ta f) := by
  subst hK
  exact pe_fld he hb
end Tw
/-! TgE: != of two told things that are one. -/
namespace Tw
open PySem PySem.Spec PyProof.Rows L2
section
variable {K : PySem.W.Frag} {H : Hp}
mutual
theorem Td.plain : ∀ {v : V} {d : PyData}, Td K H v d → d.plain = true
  | _, _, .non => rfl
  | _, _, .bl b => rfl
  | _, _, .int n => rfl
  | _, _, .str s => rfl
  | _, _, .tup q r => by
    rw [PyData.plain]
    exact Tds.plain r
theorem Tds.plain : ∀ {vs : List V} {ds : List PyData}, Tds K H vs ds → PyData.plainAll ds = true
  | _, _, .nil => rfl
  | _, _, .cons h r => by
    rw [PyData.plainAll, Td.plain h, Tds.plain r]
    rfl
end
end
/-- a != b, of the same data -/
def rNeP (K : PySem.W.Frag) : R2 := fun x y H Q => ∃ d, Td K H x d ∧ Td K H y d ∧ PyData.depth d ≤ 60 ∧ Q (.bl false) H
theorem op_neP {X : Cx} (hu : X.A.units + 64 < cLine) : OpR X (compareOp .NotEq) (rNeP X.K) := by
  intro pins s σ H x y v u Q I rx ry h
  obtain ⟨d, hx, hy, hd, q⟩ := h
  obtain ⟨as, r1⟩ := Dp.reads I d x v hx.dp rx
  obtain ⟨bs, r2⟩ := Dp.reads I d y u hy.dp ry
  refine SeqAt.ne_plain r1 r2 hx.plain hx.plain (by rw [Nat.min_self]; omega) ⟨.bl false, H, I, ?_, q⟩
  show RelV (.bl false) (.bool (!PyData.eqv d d))
  rw [SeqAt.eqv_refl_plain d hx.plain]
  rfl
end Tw
/-! TkD: dicts whose keys are tuples of tuples (pairs of sorts). -/
namespace Tw
open PySem PySem.Spec PyProof.Rows L2
mutual
/-- told data as a key -/
def nk : PyData → NestedKey
  | .bool b => .num (if b = true then 1 else 0)
  | .int n => .num n
  | .str x => .text x
  | .tuple ds => .tup (nks ds)
  | _ => .none
def nks : List PyData → List NestedKey
  | [] => []
  | d :: r => nk d :: nks r
end
section
variable {X : Cx} {pins : List (Addr × Obj)} {σ : L2.St} {H : Hp} {s : Shared}
mutual
theorem Td.nested (I : Inv X pins σ H s) : ∀ {v : V} {d : PyData} {u : Value}, Td X.K H v d → RelV v u → NestedIs s.heap (nk d) u
  | _, _, _, .non, r => by cases r; exact .none
  | _, _, _, .bl b, r => by cases r; exact .bool rfl
  | _, _, _, .int n, r => by obtain ⟨t, rfl⟩ := r; exact .int n t
  | _, _, _, .str x, r => by obtain ⟨t, rfl⟩ := r; exact .text x t
  | _, _, _, .tup (ds := ds) q h, r => by
    cases r
    obtain ⟨its, rv, ⟨o, e1, e2, n, e3⟩, _⟩ := I.tuple q
    rw [nk]
    exact .tup e1 e2 e3 (Tds.nested I h rv)
theorem Tds.nested (I : Inv X pins σ H s) : ∀ {vs : List V} {ds : List PyData} {us : List Value}, Tds X.K H vs ds → Vals vs us → NestedAll s.heap (nks ds) us
  | _, _, _, .nil, r => by cases r; exact .nil
  | _, _, _, .cons h t, r => by
    cases r with
    | cons r1 r2 =>
      rw [nks]
      exact .cons (Td.nested I h r1) (Tds.nested I t r2)
end
end
abbrev NE := NestedKey × Addr × V
def NRel (p : NE) (q : NestedKey × Addr × Value) : Prop := p.1 = q.1 ∧ p.2.1 = q.2.1 ∧ RelV p.2.2 q.2.2
/-- the dict's object: its entries, in their order -/
def DKd (P : Program) (w : World) (a : Addr) (ys : List (NestedKey × Addr × Value)) (h : Heap) : Prop := ∃ o es ep, h.get? a = some o ∧ o.ExactDict ∧ o.data = .dict es ep ∧ es.toList = ys.map (entryOfKey (nestedKind P w)) ∧ (ys.map (·.1)).Nodup
def NDo (P : Program) (w : World) (a : Addr) (xs : List NE) : HO := .ext fun h => xs.length ≤ sizeLine ∧ (a == sysModules) = false ∧ ∃ ys, Paired NRel xs ys ∧ DKd P w a ys h
/-- v is the key k -/
def NKey (K : PySem.W.Frag) (H : Hp) (v : V) (k : NestedKey) : Prop := ∃ d, Td K H v d ∧ nk d = k ∧ k.depth ≤ 8
/-- at a a dict of such keys -/
def ND (P : Program) (w : World) (K : PySem.W.Frag) (H : Hp) (a : Addr) (xs : List NE) : Prop := H a = some (NDo P w a xs) ∧ ∀ x ∈ xs, NKey K H (.ref x.2.1) x.1
def getN (xs : List NE) (k : NestedKey) : Option V := (xs.find? fun x => decide (x.1 = k)).map fun x => x.2.2
theorem NKey.keep {K : PySem.W.Frag} {H H' : Hp} {v : V} {k : NestedKey} (h : NKey K H v k) (kt : KeepT K H H') : NKey K H' v k := by
  obtain ⟨d, t, e⟩ := h
  exact ⟨d, t.keep kt, e⟩
theorem ndo_ne {P : Program} {w : World} {a : Addr} {xs : List NE} {o : HO} (h : ∀ φ, o ≠ .ext φ) : NDo P w a xs ≠ o := fun e => by
  unfold NDo at e
  exact h _ e.symm
theorem ND.same {P : Program} {w : World} {K : PySem.W.Frag} {H H' : Hp} {a : Addr} {xs : List NE} (h : ND P w K H a xs) (s : Same H H') : ND P w K H' a xs := ⟨s _ _ h.1, fun x hx => (h.2 x hx).keep (KeepT.same s)⟩
theorem DKd.at_ {P : Program} {w : World} {a : Addr} {ys : List (NestedKey × Addr × Value)} {h1 h2 : Heap} (x : DKd P w a ys h1) (k : ∀ o, h1.get? a = some o → h2.get? a = some o) : DKd P w a ys h2 := by
  obtain ⟨o, es, ep, e, r⟩ := x
  exact ⟨o, es, ep, k _ e, r⟩
theorem ndo_ok {P : Program} {w : World} {H : Hp} {h : Heap} {a : Addr} {xs : List NE} {ys : List (NestedKey × Addr × Value)} (z : xs.length ≤ sizeLine) (m : (a == sysModules) = false) (r : Paired NRel xs ys) (d : DKd P w a ys h) : ObjOk P w H h a (NDo P w a xs) := by
  refine ⟨⟨z, m, ys, r, d⟩, ?_, fun h1 h2 q st => ?_⟩
  · obtain ⟨o, _, _, e, _⟩ := d
    exact ⟨o, e⟩
  · obtain ⟨q1, q2, ys', q3, q4⟩ := q
    exact ⟨q1, q2, ys', q3, q4.at_ st⟩
theorem keys_same : ∀ {xs : List NE} {ys : List (NestedKey × Addr × Value)}, Paired NRel xs ys → xs.map (·.1) = ys.map (·.1)
  | _, _, .nil => rfl
  | _, _, .cons h r => by rw [List.map_cons, List.map_cons, h.1, keys_same r]
theorem find_same_N {k : NestedKey} : ∀ {xs : List NE} {ys : List (NestedKey × Addr × Value)}, Paired NRel xs ys → RelO (getN xs k) ((atKey ys k).map (·.2))
  | _, _, .nil => True.intro
  | x :: xs, y :: ys, .cons h r => by
    unfold getN atKey
    rw [List.find?_cons, List.find?_cons, ← h.1]
    by_cases e : x.1 = k
    · rw [decide_eq_true e]
      exact h.2.2
    · rw [decide_eq_false e]
      exact find_same_N r
section
variable {X : Cx} {pins : List (Addr × Obj)} {σ : L2.St} {H : Hp} {s : Shared} {a b : Addr} {xs : List NE} {k : NestedKey}
theorem NKey.is (I : Inv X pins σ H s) (h : NKey X.K H (.ref b) k) : (nestedKind X.prog X.w).is s.heap k b := by
  obtain ⟨d, t, rfl, hd⟩ := h
  exact ⟨t.nested I (u := .ref b) rfl, hd⟩
theorem ND.get (I : Inv X pins σ H s) (h : ND X.prog X.w X.K H a xs) : xs.length ≤ sizeLine ∧ (a == sysModules) = false ∧ ∃ ys, Paired NRel xs ys ∧ s.heap.DictOfH (nestedKind X.prog X.w) a ys := by
  obtain ⟨z, m, ys, r, o, es, ep, e1, e2, e3, e4, e5⟩ := (show ObjOk X.prog X.w H s.heap a (NDo X.prog X.w a xs) from I.hok a _ h.1).1
  refine ⟨z, m, ys, r, o, es, ep, e1, e2, e3, e4, ?_, e5⟩
  have all : ∀ {l : List NE} {m : List (NestedKey × Addr × Value)}, Paired NRel l m → (∀ x ∈ l, NKey X.K H (.ref x.2.1) x.1) → ∀ y ∈ m, (nestedKind X.prog X.w).is s.heap y.1 y.2.1 := by
    intro l m q
    induction q with
    | nil => intro _ y hy; exact nomatch hy
    | cons q1 q2 ih =>
      intro hk y hy
      rcases List.mem_cons.mp hy with rfl | hy
      · rw [← q1.1, ← q1.2.1]
        exact (hk _ List.mem_cons_self).is I
      · exact ih (fun x hx => hk x (List.mem_cons_of_mem _ hx)) y hy
  exact all r h.2
end
/-- {}, for such keys -/
def tDNewN (P : Program) (w : World) : TE := fun _ H Q => ∀ p, H p = none → Q (.ref p) (upd H p (NDo P w p []))
theorem pe_dnewN {X : Cx} {pos : Pos} : PE X (.Dict [] [] pos) (tDNewN X.prog X.w) := ⟨fun pins s σ H Q I h => by
  have hm : (s.heap.objs.size == sysModules) = false := beq_eq_false_iff_ne.mpr (Nat.ne_of_gt I.big)
  have hd : DKd X.prog X.w s.heap.objs.size [] (s.heap.push { cls := .type "dict", data := .dict #[] }) := ⟨_, #[], 0, Heap.get?_push_size _ rfl, ⟨rfl, rfl, rfl⟩, rfl, rfl, .nil⟩
  exact wpAny_Dict_empty ⟨.ref s.heap.objs.size, _, I.laid (t' := s.toks) (fun _ _ q => Heap.get?_push_of_some _ q) (Nat.le_refl _) (ndo_ok (Nat.zero_le _) hm .nil hd), rfl, h _ (I.hok.fresh (Nat.le_refl _))⟩⟩
/-- k not in d -/
def rNotInN (P : Program) (w : World) (K : PySem.W.Frag) : R2 := fun x y H Q => ∃ a b xs k, x = .ref b ∧ y = .ref a ∧ ND P w K H a xs ∧ NKey K H (.ref b) k ∧ Q (.bl (!(getN xs k).isSome)) H
theorem op_notInN {X : Cx} (hu : X.A.units + 64 < cLine) : OpR X (compareOp .NotIn) (rNotInN X.prog X.w X.K) := by
  intro pins s σ H x y v u Q I rx ry h
  obtain ⟨a, b, xs, k, rfl, rfl, hd, hk, q⟩ := h
  cases rx
  cases ry
  obtain ⟨z, m, ys, r, d⟩ := hd.get I
  refine wpAny_notIn_heap (show (nestedKind X.prog X.w).room X.A.in1 from ?_) (hk.is I) m d ?_
  · show X.A.units + 1 + 8 < cLine
    omega
  · have e := (find_same_N (k := k) r).isSome_eq
    rw [Option.isSome_map] at e
    exact ⟨.bl _, H, I.tok _, by rw [e]; rfl, q⟩
/-- d[k] -/
def tNGet (P : Program) (w : World) (K : PySem.W.Frag) (td ty : TE) : TE := fun σ H Q => td σ H fun x H1 => ty σ H1 fun y H2 => ∃ a b xs k v, x = .ref a ∧ y = .ref b ∧ ND P w K H2 a xs ∧ NKey K H2 (.ref b) k ∧ getN xs k = some v ∧ Q v H2
theorem pe_nget {X : Cx} {o i : Expr} {pos : Pos} {td ty : TE} (hu : X.A.units + 64 < cLine) (ho : PE X o td) (hi : PE X i ty) (hs : NoSl i) : PE X (.Subscript o i pos) (tNGet X.prog X.w X.K td ty) := by
  refine ⟨fun pins s σ H Q I h => ?_⟩
  refine subD_of PySem.F.slot_dict_getitem.lookup hs (thn (ho.run pins s σ H _ I h) fun u s1 g1 => ?_)
  obtain ⟨x, H1, I1, rx, q1⟩ := g1
  refine thn (hi.run pins s1 σ H1 _ I1 q1) fun iv s2 g2 => ?_
  obtain ⟨y, H2, I2, ry, a, b, xs, k, v, rfl, rfl, hd, hk, hv, q2⟩ := g2
  cases rx
  cases ry
  obtain ⟨z, m, ys, r, d⟩ := hd.get I2
  obtain ⟨w', hw, rw'⟩ := RelO.some_of (v := v) (o := (atKey ys k).map (·.2)) (by rw [← hv]; exact find_same_N r)
  obtain ⟨p, hp, hp2⟩ := Option.map_eq_some_iff.mp hw
  refine ⟨d.typeIs, wpAny_getItem_heap (show (nestedKind X.prog X.w).room X.A.in1 from ?_) (hk.is I2) d hp ?_⟩
  · show X.A.units + 1 + 8 < cLine
    omega
  · rw [hp2]
    exact ⟨v, H2, I2.tok _, rw', q2⟩
theorem pairN_app {q : NestedKey × Addr × Value} {p : NE} (h : NRel p q) : ∀ {xs : List NE} {ys : List (NestedKey × Addr × Value)}, Paired NRel xs ys → Paired NRel (xs ++ [p]) (ys ++ [q])
  | _, _, .nil => .cons h .nil
  | _, _, .cons h1 r => .cons h1 (pairN_app h r)
section
variable {X : Cx} {pins : List (Addr × Obj)} {σ : L2.St} {H : Hp} {s : Shared} {a b : Addr} {xs : List NE} {k : NestedKey} {v : V} {r : Value}
theorem stored_N {ys : List (NestedKey × Addr × Value)} {b : Addr} {r : Value} (pr : Paired NRel xs ys) (hn : getN xs k = none) : storedH ys k b r = ys ++ [(k, b, r)] := by
  refine storedH_new ?_ b r
  have e := find_same_N (k := k) pr
  rw [hn] at e
  have e2 := RelO.none_of e
  exact Option.map_eq_none_iff.mp e2
/-- the heap behind d[k] = v, k new -/
theorem ND.wrote {h' : Heap} {t : Nat} {ys : List (NestedKey × Addr × Value)} (I : Inv X pins σ H s) (hd : ND X.prog X.w X.K H a xs) (m : (a == sysModules) = false) (hl : xs.length < sizeLine) (hn : getN xs k = none) (pr : Paired NRel xs ys) (rv : RelV v r) (d : h'.DictOfH (nestedKind X.prog X.w) a (storedH ys k b r)) (sb : Heap.SameBut a s.heap h') :
    Inv X pins σ (upd H a (NDo X.prog X.w a (xs ++ [(k, b, v)]))) { s with heap := h', toks := t } := by
  rw [stored_N pr hn] at d
  obtain ⟨o, es, ep, e1, e2, e3, e4, _, e5⟩ := d
  refine d_write I ?_ sb ⟨o, e1⟩ (ndo_ok (by rw [List.length_append]; exact hl) m (pairN_app ⟨rfl, rfl, rv⟩ pr) ⟨o, es, ep, e1, e2, e3, e4, e5⟩)
  rw [hd.1]
  exact True.intro
theorem d_setN {A : Around} {E : Value → Shared → Prop} {Q : Unit → Shared → Prop} (hu : A.units + 64 < cLine) (I : Inv X pins σ H s) (hd : ND X.prog X.w X.K H a xs) (hk : NKey X.K H (.ref b) k) (hn : getN xs k = none) (hl : xs.length < sizeLine) (rv : RelV v r) (q : ∀ s', Inv X pins σ (upd H a (NDo X.prog X.w a (xs ++ [(k, b, v)]))) s' → Q () s') :
    wpAny (model X.prog X.w) A (setItem (.ref a) (.ref b) r) Q E s := by
  obtain ⟨z, m, ys, pr, d⟩ := hd.get I
  refine wpAny_setItem_heap (hsz := by rw [← Paired.length pr]; exact z) (show (nestedKind X.prog X.w).room A.in1 from ?_) (hk.is I) d fun h' d' sb => q _ (ND.wrote I hd m hl hn pr rv d' sb)
  show A.units + 1 + 8 < cLine
  omega
theorem d_dictN {A : Around} {E : Value → Shared → Prop} {Q : Unit → Shared → Prop} (hu : A.units + 64 < cLine) (I : Inv X pins σ H s) (hd : ND X.prog X.w X.K H a xs) (hk : NKey X.K H (.ref b) k) (hn : getN xs k = none) (hl : xs.length < sizeLine) (rv : RelV v r) (q : ∀ s', Inv X pins σ (upd H a (NDo X.prog X.w a (xs ++ [(k, b, v)]))) s' → Q () s') :
    wpAny (model X.prog X.w) A (dictSet a (.ref b) r) Q E s := by
  obtain ⟨z, m, ys, pr, d⟩ := hd.get I
  refine wpAny_dictSet_heap (hsz := by rw [← Paired.length pr]; exact z) (show (nestedKind X.prog X.w).room A from ?_) (hk.is I) d fun h' d' sb => q _ (ND.wrote I hd m hl hn pr rv d' sb)
  show A.units + 8 < cLine
  omega
end
/-- d[k] = v, k new -/
def sNPut (P : Program) (w : World) (K : PySem.W.Frag) (td ty tv : TE) : TS := fun D σ H => tv σ H fun v H1 => td σ H1 fun x H2 => ty σ H2 fun y H3 => ∃ a b xs k, x = .ref a ∧ y = .ref b ∧ ND P w K H3 a xs ∧ NKey K H3 (.ref b) k ∧ getN xs k = none ∧ xs.length < sizeLine ∧ D.nx σ (upd H3 a (NDo P w a (xs ++ [(k, b, v)])))
theorem ps_nput {X : Cx} {o i value : Expr} {pos pos' : Pos} {td ty tv : TE} (hu : X.A.units + 64 < cLine) (ho : PE X o td) (hi : PE X i ty) (hv : PE X value tv) (hs : swapsWith value (some (.Subscript o i pos')) pos.line X.env = pure false) : PS X (.Assign [.Subscript o i pos'] value pos) (sNPut X.prog X.w X.K td ty tv) := by
  refine ⟨fun pins s σ H D I h => ?_⟩
  refine wpAny_Assign_Subscript (thn (hv.run pins s σ H _ I h) fun r s1 g1 => ?_) hs
  obtain ⟨v, H1, I1, rv, q1⟩ := g1
  refine thn (ho.run pins s1 σ H1 _ I1 q1) fun u s2 g2 => ?_
  obtain ⟨x, H2, I2, rx, q2⟩ := g2
  refine thn (hi.run pins s2 σ H2 _ I2 q2) fun iv s3 g3 => ?_
  obtain ⟨y, H3, I3, ry, a, b, xs, k, rfl, rfl, hd, hk, hn, hl, q3⟩ := g3
  cases rx
  cases ry
  exact d_setN hu I3 hd hk hn hl rv fun s4 I4 => ⟨σ, _, I4, q3⟩
end Tw
set_option maxHeartbeats 1000000
/-! TkC: list(d) of such a dict; a comprehension that makes one. -/
namespace Tw
open PySem PySem.Spec PyProof.Rows L2
theorem kdl_rawN {prog : Program} {w : World} {d : Addr} {es : Array DictEntry} {ep : Nat} (lo : (d == sysModules) = false) : PySem.W.KdlSrc prog w "dict" d d es.size (fun i v => ∃ hi : i < es.size, v = es[i].key) (fun h => h.DictRaw d es ep) where
  type := fun _ x => x.typeIs
  there := fun _ x => by
    obtain ⟨o, e, _⟩ := x
    exact ⟨Heap.lt_size e, Heap.lt_size e⟩
  keep := fun _ _ x k => x.at fun o e => k d (.inl rfl) o e
  notList := by decide
  notTuple := by decide
  hint := fun _ _ _ _ x q => PySem.W.kdl_hint_dict x.typeIs q
  iter := fun _ _ hh x => ⟨_, _, (fun _ _ q => wpAny_pyIter_dict_raw lo x q), Walks.rawKeys hh _ d (by
    obtain ⟨o, e, _⟩ := x
    exact Nat.ne_of_lt (Heap.lt_size e)) es ep, ⟨⟨_, Heap.get?_push_size _ rfl, rfl, rfl⟩, x.at fun o e => Heap.get?_push_of_some _ e⟩⟩
theorem addrs_vals : ∀ {xs : List NE} {ys : List (NestedKey × Addr × Value)} {us : List Value}, Paired NRel xs ys → us.length = ys.length → (∀ (j : Nat) (v : Value), us[j]? = some v → ∃ y, ys[j]? = some y ∧ v = .ref y.2.1) → Vals (xs.map fun x => V.ref x.2.1) us
  | _, _, [], .nil, _, _ => .nil
  | _, _, _ :: _, .nil, hl, _ => by simp at hl
  | _, _, [], .cons _ _, hl, _ => by simp at hl
  | x :: xs, y :: ys, u :: us, .cons h r, hl, hv => by
    obtain ⟨y0, e1, e2⟩ := hv 0 u rfl
    have e1 : y = y0 := Option.some.inj e1
    subst e1 e2
    refine .cons ?_ (addrs_vals r (by simpa using hl) fun j v e => ?_)
    · rw [← h.2.1]
      exact rfl
    · obtain ⟨y1, g1, g2⟩ := hv (j + 1) v (by simpa using e)
      exact ⟨y1, by simpa using g1, g2⟩
/-- list(d): its keys -/
def rListN (P : Program) (w : World) (K : PySem.W.Frag) : List V → Hp → VK → Prop := fun vs H Q => ∃ (a : Addr) (xs : List NE), vs = [.ref a] ∧ ND P w K H a xs ∧ ∀ p, H p = none → Q (.ref p) (upd H p (.lst (xs.map fun x => V.ref x.2.1)))
theorem call_listN {X : Cx} (hcalm : X.calm = true) : CallR X (.type "list") (rListN X.prog X.w X.K) := by
  intro pins s σ H vs us Q I r h
  obtain ⟨a, xs, rfl, hd, q⟩ := h
  obtain ⟨u, rfl, rx⟩ := vals1 r
  cases rx
  obtain ⟨z, m, ys, pr, d⟩ := hd.get I
  obtain ⟨es, ep, raw, hsz, hx⟩ := d.raw
  refine PySem.W.kdl_call (kdl_rawN m) (I.ok.hd hcalm) raw (by rw [hsz, ← Paired.length pr]; exact z) fun h' tk acc c' hk hD hacc => ?_
  have hv : Vals (xs.map fun x => V.ref x.2.1) acc.toList := addrs_vals pr (by rw [Array.length_toList, hacc.1, hsz]) fun j v e => by
    obtain ⟨hj, e2⟩ := hacc.2 j v (by rw [← Array.getElem?_toList]; exact e)
    obtain ⟨y, g1, g2, _⟩ := hx j hj
    exact ⟨y, g1, e2.trans g2⟩
  refine ⟨.ref s.heap.objs.size, _, I.laid (a := s.heap.objs.size) (o := .lst (xs.map fun x => V.ref x.2.1)) (t' := tk) hk (Nat.le_refl _) ⟨by rw [List.length_map]; exact z, acc.toList, c', hv, ?_⟩, rfl, q _ (I.hok.fresh (Nat.le_refl _))⟩
  rw [Array.toArray_toList]
  exact hD
theorem nd_empty {X : Cx} {pins : List (Addr × Obj)} {σ : L2.St} {H H' : Hp} {s : Shared} (I : Inv X pins σ H s) : ObjOk X.prog X.w H' (s.heap.push { cls := .type "dict", data := .dict #[] }) s.heap.objs.size (NDo X.prog X.w s.heap.objs.size []) :=
  ndo_ok (Nat.zero_le _) (beq_eq_false_iff_ne.mpr (Nat.ne_of_gt I.big)) .nil ⟨_, #[], 0, Heap.get?_push_size _ rfl, ⟨rfl, rfl, rfl⟩, rfl, rfl, .nil⟩
/-- {k: v for .. in ..}, every key new -/
def tDcN (P : Program) (w : World) (K : PySem.W.Frag) (wi : TI) (g : TG) (tt : TT) (tk tv : TE) (vs : List Nat) : TE := fun σ H Q => wi σ H fun J H1 => ∀ D, H1 D = none → ∃ Wv : Nat → Nat → Hp → Prop, (∃ m, Wv 0 m (upd H1 D (NDo P w D []))) ∧ ∀ i m H, Wv i m H →
  (J.stop i H ∧ Q (.ref D) H) ∨ (J.go i H ∧ ∃ Nx : Hp → Prop, (∀ H', Nx H' → ∃ m', m' < m ∧ Wv (i + 1) m' H') ∧ ∀ x H', J.yld i H x H' → g x (wipe σ vs) H' fun σ2 H2 => wipe σ2 vs = wipe σ vs ∧ tt σ2 H2 fun b H3 =>
    if b = true then tk σ2 H3 fun y H4 => tv σ2 H4 fun z H5 => ∃ xs k b, y = .ref b ∧ ND P w K H5 D xs ∧ NKey K H5 (.ref b) k ∧ getN xs k = none ∧ xs.length < sizeLine ∧ Nx (upd H5 D (NDo P w D (xs ++ [(k, b, z)]))) else Nx H3)
section
variable {X : Cx}
theorem dcN_core {pins : List (Addr × Obj)} {s : Shared} {σ : L2.St} {H : Hp} {Q : VK} {kx vx tg iter : Expr} {ifs : List Expr} {scope : Scope} {own : List (Str × Nat)} {pos pos' : Pos} {wi : TI} {g : TG} {tt : TT} {tk tv : TE} {use : Option (Value → Sem Unit)} {Qf : Value → Shared → Prop}
    (hu : X.A.units + 64 < cLine) (hc : X.calm = true) (hN : X.N.Nodup) (I : Inv X pins σ H s) (hi : PI X tg iter wi) (ok : BlkOk X.N X.env.scope scope own)
    (hg : ∀ (s : Shared) (H : Hp) (C : Addr) (cl : List (Str × Addr)) (gs : List Addr), PG (X.blk s H scope (compEnvC scope cl C X.env) gs) tg g) (ht : ∀ (s : Shared) (H : Hp) (C : Addr) (cl : List (Str × Addr)) (gs : List Addr), PTs (X.blk s H scope (compEnvC scope cl C X.env) gs) ifs tt)
    (hk : ∀ (s : Shared) (H : Hp) (C : Addr) (cl : List (Str × Addr)) (gs : List Addr), PE (X.blk s H scope (compEnvC scope cl C X.env) gs) kx tk)
    (he : ∀ (s : Shared) (H : Hp) (C : Addr) (cl : List (Str × Addr)) (gs : List Addr), PE (X.blk s H scope (compEnvC scope cl C X.env) gs) vx tv) (hs : ∀ x, foldedSetIterable iter X.env x = pure x)
    (h : tDcN X.prog X.w X.K wi g tt tk tv (own.map (·.2)) σ H Q)
    (hRR : ∀ D C s' m H', Inv X pins σ H' s' → Q (.ref D) H' → s'.heap.Ns C m → FpOk X pins H' C → compPost (model X.prog X.w) X.A X.xe use Qf (.ref D) C (.ok .next) s') :
    wpAny (model X.prog X.w) X.A (comprehension (.DictComp kx vx [⟨tg, iter, ifs, 0⟩] scope pos) scope X.env pos' newDict false (eval iter X.env) use) Qf X.xe s := by
  have hFr : ∀ y ∈ scope.names, y.2 = .free → ∃ c, X.env.cells.lookup y.1 = some c := fun y hy e => by
    rcases ok.free y hy e with k | k
    · exact I.ok.has _ (.inl k)
    · exact I.ok.has _ (.inr k)
  refine wpAny_comprehension_free (use := use) rfl hs (closure_ok hFr) ok.kind (fun y hy e => by rw [ok.uniq y hy, e])
    (thn (hi.run pins s σ H _ I h) fun xv s1 hX => thn hX fun itv z2 k2 => ?_)
  obtain ⟨it, gs, Tn, J, H2, e, V2, T, u2, g2, q⟩ := k2
  subst e
  refine wpAny_newObj_type (newEnv_comp ?_)
  generalize hD : z2.heap.objs.size = D
  have hNo : H2 D = none := V2.hok.fresh (Nat.le_of_eq hD)
  obtain ⟨W, ⟨k0, v0⟩, turns_⟩ := q D hNo
  generalize hz3 : ({ z2 with heap := z2.heap.push { cls := .type "dict", data := .dict #[] } } : Shared) = z3
  have V3 : Inv X pins σ (upd H2 D (NDo X.prog X.w D [])) z3 := by
    rw [← hz3]
    refine V2.laid (t' := z2.toks) (fun b o e => Heap.get?_push_of_some _ e) (Nat.le_of_eq hD) ?_
    rw [← hD]
    exact nd_empty V2
  have k3 : z3.heap = z2.heap.push { cls := .type "dict", data := .dict #[] } := by rw [← hz3]
  have lts : ∀ b ∈ gs, b < z2.heap.objs.size := fun b hb => by
    obtain ⟨o, e, _⟩ := T.obj _ _ u2 b hb
    exact Heap.lt_size e
  have g3 : ∀ b ∈ gs, FpOk X pins (upd H2 D (NDo X.prog X.w D [])) b ∧ b < z3.heap.objs.size := fun b hb => by
    have hLt := lts b hb
    refine ⟨⟨?_, (g2 b hb).2⟩, by rw [k3, Heap.size_push]; exact Nat.lt_succ_of_lt hLt⟩
    rw [upd_ne (by rw [← hD]; exact Nat.ne_of_lt hLt)]
    exact (g2 b hb).1
  have u3 : Tn 0 z3.heap := T.keep _ _ _ u2 fun b _ o e => by rw [k3]; exact Heap.get?_push_of_some _ e
  have V4 := block_start V3 ok hN g3
  have qg := hg z3 (upd H2 D (NDo X.prog X.w D [])) z3.heap.objs.size (cellsFrom (z3.heap.objs.size + 1) scope.names (cloFrom X.env.cells scope.names [])) gs
  have qt := ht z3 (upd H2 D (NDo X.prog X.w D [])) z3.heap.objs.size (cellsFrom (z3.heap.objs.size + 1) scope.names (cloFrom X.env.cells scope.names [])) gs
  have qk := hk z3 (upd H2 D (NDo X.prog X.w D [])) z3.heap.objs.size (cellsFrom (z3.heap.objs.size + 1) scope.names (cloFrom X.env.cells scope.names [])) gs
  have qe := he z3 (upd H2 D (NDo X.prog X.w D [])) z3.heap.objs.size (cellsFrom (z3.heap.objs.size + 1) scope.names (cloFrom X.env.cells scope.names [])) gs
  show codeAny _ _ (.compStart (.DictComp kx vx [⟨tg, iter, ifs, 0⟩] scope pos) 0 (.ref it) (.ref D) (compEnvC scope (cellsFrom (z3.heap.objs.size + 1) scope.names (cloFrom X.env.cells scope.names [])) z3.heap.objs.size X.env)) (compPost (model X.prog X.w) X.A X.xe use Qf (.ref D) z3.heap.objs.size) { z3 with heap := pushCells (z3.heap.push { cls := .type "dict", data := .dict #[] }) scope.names }
  have nGs : ∀ b ∈ gs, (upd H2 D (NDo X.prog X.w D [])) b = none := fun b hb => (g3 b hb).1.1
  generalize hCe : compEnvC scope (cellsFrom (z3.heap.objs.size + 1) scope.names (cloFrom X.env.cells scope.names [])) z3.heap.objs.size X.env = Ce at V4 qg qt qk qe ⊢
  have cl : Ce.locals = z3.heap.objs.size := by subst hCe; rfl
  generalize hG3 : upd H2 D (NDo X.prog X.w D []) = H3 at V3 V4 qg qt qk qe v0 nGs g3
  generalize hz4 : ({ z3 with heap := pushCells (z3.heap.push { cls := .type "dict", data := .dict #[] }) scope.names } : Shared) = z4 at V4 ⊢
  have u4 : Tn 0 z4.heap := T.keep _ _ _ u3 fun b _ o e => by rw [← hz4]; exact pushCells_keeps _ _ _ _ (Heap.get?_push_of_some _ e)
  have stays : ∀ {σ' : L2.St} {H' : Hp} {s' : Shared}, Inv (X.blk z3 H3 scope Ce gs) [] σ' H' s' → (∀ b ∈ gs, H' b = none) → ∀ b ∈ gs, FpOk (X.blk z3 H3 scope Ce gs) [] H' b := fun {σ' H' s'} I' hNs b hb =>
    ⟨hNs b hb, (I'.ok.exf b hb).1, I'.ok.exfs b hb, .inl hb, fun x c e => (I'.ok.exf b hb).2 x c e, fun p hp => absurd (show p ∈ ([] : List (Addr × Obj)) ++ [] from hp) (by simp)⟩
  have rounds : codeAny (model X.prog X.w) X.A (.compLoop (.DictComp kx vx [⟨tg, iter, ifs, 0⟩] scope pos) 0 (.ref it) (.ref D) Ce) (compPost (model X.prog X.w) X.A X.xe use Qf (.ref D) z3.heap.objs.size) z4 := by
    refine compLoop_anyD (fun n s' => ∃ i H', Inv (X.blk z3 H3 scope Ce gs) [] (wipe σ (own.map (·.2))) H' s' ∧ Tn i s'.heap ∧ (∀ b ∈ gs, H' b = none) ∧ W i n H') ?_ k0 ⟨0, H3, V4, u4, nGs, v0⟩
    rintro n z5 ⟨i, G5, V5, u5, m5, v5⟩
    rcases turns_ i n G5 v5 with ⟨stop_, qq1⟩ | ⟨go_, Nx, hNx_, step_⟩
    · have tD := T.done (X.blk z3 H3 scope Ce gs) rfl rfl rfl hc i [] z5 _ G5 (fun _ _ => False) V5 (stays V5 m5) u5 stop_
      refine thnF tD fun r z6 ⟨hR, V6⟩ => ?_
      subst hR
      have V7 : Inv X pins σ G5 z6 := V3.call' (ch := gs) V6.os V6.base V6.hok V6.bare fun b hb => ⟨(g3 b hb).1.2.2.2.1, (g3 b hb).1.2.1, (g3 b hb).1.2.2.2.2.1, (g3 b hb).1.2.2.2.2.2⟩
      have nCc : G5 z3.heap.objs.size = none := by
        have z : G5 Ce.locals = none := V6.free
        rw [cl] at z
        exact z
      obtain ⟨m, hNs, _⟩ := V6.loc
      have hNs : z6.heap.Ns Ce.locals m := hNs
      rw [cl] at hNs
      exact hRR D z3.heap.objs.size z6 m G5 V7 qq1 hNs (V3.fpOk (Nat.le_refl _) nCc)
    · have tI := T.item (X.blk z3 H3 scope Ce gs) rfl rfl rfl hc i [] z5 _ G5 (fun _ _ => False) V5 (stays V5 m5) u5 go_
      refine thnF tI fun r z6 ⟨u, hR, k6⟩ => ?_
      subst hR
      refine thnF k6 fun _ z7 ⟨x, G7, V7, e7, w7, u7, m7⟩ => ?_
      have V7' := V7.pinned (stays V7 m7) (T.obj _ _ u7)
      refine thnF (qg.run _ z7 _ G7 x u _ V7' e7 (step_ x G7 w7)) fun _ z8 ⟨τ8, G8, V8, hW8, p8⟩ => ?_
      refine thnF (qt.run _ z8 τ8 G8 _ V8 p8) fun b z9 ⟨G9, V9, p9⟩ => ?_
      have ends : ∀ {s' : Shared} {H' : Hp}, Inv (X.blk z3 H3 scope Ce gs) ([] ++ pinsAt gs z7.heap) τ8 H' s' → Nx H' → ∃ m, m < n ∧ ∃ i H', Inv (X.blk z3 H3 scope Ce gs) [] (wipe σ (own.map (·.2))) H' s' ∧ Tn i s'.heap ∧ (∀ b ∈ gs, H' b = none) ∧ W i m H' := fun {s' H'} I' nx_ => by
        obtain ⟨m', hm, w'⟩ := hNx_ H' nx_
        have pins' : ∀ b ∈ gs, ∀ o, z7.heap.get? b = some o → s'.heap.get? b = some o ∧ H' b = none := fun b hb o e =>
          let z := I'.pin (b, o) (List.mem_append_right _ (List.mem_append_right _ (mem_pinsAt hb e)))
          ⟨z.1, z.2.1⟩
        have hLen : (wipe σ (own.map (·.2))).length = τ8.length := by rw [← hW8, wipe_length]
        refine ⟨m', hm, i + 1, H', (I'.unpinned (pins := [])).weak hLen (fun j v e => ?_), T.keep _ _ _ u7 fun b hb o e => (pins' b hb o e).1, fun b hb => ?_, w'⟩
        · rw [← hW8] at e
          exact (wipe_some e).1
        · obtain ⟨o, e, _⟩ := T.obj _ _ u7 b hb
          exact (pins' b hb o e).2
      cases b with
      | false =>
        simp only [Bool.false_eq_true, if_false] at p9 ⊢
        exact ends V9 p9
      | true =>
        simp only [if_true] at p9 ⊢
        refine thnF (qk.run _ z9 τ8 G9 _ V9 p9) fun z zA ⟨yk, GA, VA, eA, pA⟩ => ?_
        refine thnF (qe.run _ zA τ8 GA _ VA pA) fun zv zB hB => ?_
        obtain ⟨yv, GB, VB, eB, xs, kk, bb, rfl, hND, hKey, hNew, hShort, nx_⟩ := hB
        cases eA
        exact d_dictN (X := X.blk z3 H3 scope Ce gs) (a := D) (b := bb) hu VB hND hKey hNew hShort eB fun zC VC => ends VC nx_
  exact codeAny_compStart_dict rounds (T.self X.A 0 _ _ _ u4 rounds)
theorem pe_dcN {kx vx tg iter : Expr} {ifs : List Expr} {scope : Scope} {own : List (Str × Nat)} {pos : Pos} {wi : TI} {g : TG} {tt : TT} {tk tv : TE} (hu : X.A.units + 64 < cLine) (hc : X.calm = true) (hN : X.N.Nodup) (hi : PI X tg iter wi) (ok : BlkOk X.N X.env.scope scope own)
    (hg : ∀ (s : Shared) (H : Hp) (C : Addr) (cl : List (Str × Addr)) (gs : List Addr), PG (X.blk s H scope (compEnvC scope cl C X.env) gs) tg g) (ht : ∀ (s : Shared) (H : Hp) (C : Addr) (cl : List (Str × Addr)) (gs : List Addr), PTs (X.blk s H scope (compEnvC scope cl C X.env) gs) ifs tt)
    (hk : ∀ (s : Shared) (H : Hp) (C : Addr) (cl : List (Str × Addr)) (gs : List Addr), PE (X.blk s H scope (compEnvC scope cl C X.env) gs) kx tk)
    (he : ∀ (s : Shared) (H : Hp) (C : Addr) (cl : List (Str × Addr)) (gs : List Addr), PE (X.blk s H scope (compEnvC scope cl C X.env) gs) vx tv) (hs : ∀ x, foldedSetIterable iter X.env x = pure x := by intro _; rfl) :
    PE X (.DictComp kx vx [⟨tg, iter, ifs, 0⟩] scope pos) (tDcN X.prog X.w X.K wi g tt tk tv (own.map (·.2))) := by
  refine ⟨fun pins s σ H Q I h => ?_⟩
  rw [arm_eval_DictComp]
  refine dcN_core hu hc hN I hi ok hg ht hk he hs h fun D C s' m H' I' q hn f => ⟨m, hn, fun h2 sb => ?_⟩
  obtain ⟨f0, f1, f2, f3, f4, f5⟩ := f
  exact ⟨.ref D, H', I'.turned (t' := s'.toks) (fun b o hb e => (sb.2 b hb).trans e) f0 f1 f3 f4 f5, rfl, q⟩
/-- its turns, the things turned over standing -/
theorem dcN_it {P : Program} {w : World} {K : PySem.W.Frag} {J : It} {n : Nat} {g : TG} {tt : TT} {tk tv : TE} {vs : List Nat} {σ : L2.St} {H1 : Hp} {D : Addr} {Qd : Hp → Prop} {Pre : Hp → Prop} {Yld : Nat → Hp → V → Hp → Prop} (w0 : Walk J n Pre Yld) (Pv : Nat → Hp → Prop) (h0 : Pv 0 (upd H1 D (NDo P w D []))) (hp : ∀ i H, i ≤ n → Pv i H → Pre H)
    (hs : ∀ i x H H', i < n → Pv i H → Yld i H x H' → g x (wipe σ vs) H' fun σ2 H2 => wipe σ2 vs = wipe σ vs ∧ tt σ2 H2 fun b H3 =>
      if b = true then tk σ2 H3 fun y H4 => tv σ2 H4 fun z H5 => ∃ xs k b, y = .ref b ∧ ND P w K H5 D xs ∧ NKey K H5 (.ref b) k ∧ getN xs k = none ∧ xs.length < sizeLine ∧ Pv (i + 1) (upd H5 D (NDo P w D (xs ++ [(k, b, z)]))) else Pv (i + 1) H3) (hd : ∀ H, Pv n H → Qd H) :
    ∃ Wv : Nat → Nat → Hp → Prop, (∃ m, Wv 0 m (upd H1 D (NDo P w D []))) ∧ ∀ i m H, Wv i m H →
      (J.stop i H ∧ Qd H) ∨ (J.go i H ∧ ∃ Nx : Hp → Prop, (∀ H', Nx H' → ∃ m', m' < m ∧ Wv (i + 1) m' H') ∧ ∀ x H', J.yld i H x H' → g x (wipe σ vs) H' fun σ2 H2 => wipe σ2 vs = wipe σ vs ∧ tt σ2 H2 fun b H3 =>
        if b = true then tk σ2 H3 fun y H4 => tv σ2 H4 fun z H5 => ∃ xs k b, y = .ref b ∧ ND P w K H5 D xs ∧ NKey K H5 (.ref b) k ∧ getN xs k = none ∧ xs.length < sizeLine ∧ Nx (upd H5 D (NDo P w D (xs ++ [(k, b, z)]))) else Nx H3) := by
  refine ⟨fun j m G => m = n - j ∧ j ≤ n ∧ Pv j G, ⟨n, by simp, Nat.zero_le _, h0⟩, ?_⟩
  rintro j m G ⟨rfl, hj, p⟩
  have pre := hp j G hj p
  by_cases hlt : j < n
  · refine .inr ⟨w0.goes j G hlt pre, Pv (j + 1), fun G' p' => ⟨n - (j + 1), by omega, rfl, hlt, p'⟩, fun x G' y => ?_⟩
    exact hs j x G G' hlt p (w0.yields j G x G' hlt pre y)
  · obtain rfl : j = n := by omega
    exact .inl ⟨w0.stops G pre, hd G p⟩
end
end Tw
/-! Sn: texts of small letters, sign by sign. -/
namespace Tw
open PySem PySem.Spec PyProof.Rows L2
/-- the text's signs -/
abbrev sg (z : Str) : List Nat := z.cps.toList
def ofL (l : List Nat) : Str := ⟨l.toArray⟩
theorem sg_ofL (l : List Nat) : sg (ofL l) = l := by simp [sg, ofL]
theorem ofL_sg (z : Str) : ofL (sg z) = z := by
  unfold ofL sg
  cases z
  simp
theorem sg_inj {a b : Str} (h : sg a = sg b) : a = b := by rw [← ofL_sg a, ← ofL_sg b, h]
theorem sg_append (a b : Str) : sg (a ++ b) = sg a ++ sg b := toList_append a b
theorem sg_len (z : Str) : z.length = (sg z).length := len_toList z
/-- all small letters -/
def LowL (l : List Nat) : Prop := ∀ c ∈ l, 97 ≤ c ∧ c ≤ 122
theorem isNm_of {z : Str} (h1 : 1 ≤ (sg z).length) (h2 : (sg z).length ≤ 8) (h : LowL (sg z)) : isNm z = true := by
  unfold isNm
  rw [sg_len, decide_eq_true h1, decide_eq_true h2, Bool.true_and, Bool.true_and, List.all_eq_true]
  exact fun c hc => decide_eq_true (h c hc)
theorem isNm_to {z : Str} (h : isNm z = true) : 1 ≤ (sg z).length ∧ (sg z).length ≤ 8 ∧ LowL (sg z) := by
  unfold isNm at h
  simp only [Bool.and_eq_true, decide_eq_true_eq, List.all_eq_true] at h
  rw [sg_len] at h
  exact ⟨h.1.1, h.1.2, fun c hc => of_decide_eq_true (h.2 c hc)⟩
theorem sg_alpha : sg alpha = (List.range 26).map (· + 97) := by decide +kernel
theorem alpha_at {i : Int} (h0 : 0 ≤ i) (h1 : i < 26) : atI (sg alpha) i = some (97 + i.toNat) := by
  obtain ⟨n, rfl⟩ : ∃ n : Nat, i = n := ⟨i.toNat, by omega⟩
  apply atI_nat
  rw [sg_alpha, List.getElem?_map, List.getElem?_range (by omega)]
  show some (n + 97) = some (97 + n)
  rw [Nat.add_comm]
theorem alpha_index {c : Nat} (h0 : 97 ≤ c) (h1 : c ≤ 122) : ∃ rest, Builtin.Str.occurrences alpha (⟨#[c]⟩ : Str) 0 alpha.length 1 = (c - 97) :: rest := by
  have all : (List.range 26).all (fun i => (Builtin.Str.occurrences alpha (⟨#[i + 97]⟩ : Str) 0 alpha.length 1).head? == some i) = true := by decide +kernel
  have h := List.all_eq_true.mp all (c - 97) (List.mem_range.mpr (by omega))
  rw [show c - 97 + 97 = c by omega] at h
  have h : (Builtin.Str.occurrences alpha (⟨#[c]⟩ : Str) 0 alpha.length 1).head? = some (c - 97) := by simpa using h
  cases e : Builtin.Str.occurrences alpha (⟨#[c]⟩ : Str) 0 alpha.length 1 with
  | nil => rw [e] at h; cases h
  | cons x r =>
    rw [e] at h
    cases h
    exact ⟨r, rfl⟩
/-- signs joined -/
theorem sg_join {ys : List Str} : sg (Txt.join ⟨#[]⟩ ys) = (ys.map sg).flatten := by
  have e1 := congrArg TL.tl (TL.join_eq ⟨#[]⟩ ys)
  have e2 := TL.tl_join ⟨#[]⟩ ys
  have e3 : ∀ l : List (List Nat), TL.joinL [] l = l.flatten := by
    intro l
    induction l with
    | nil => rfl
    | cons x r ih =>
      cases r with
      | nil => simp [TL.joinL]
      | cons y r =>
        show x ++ ([] ++ TL.joinL [] (y :: r)) = _
        rw [ih]
        simp
  exact e1.trans (e2.trans (e3 _))
theorem ones_flat : ∀ {cs : List Nat}, ((cs.map fun c => (⟨#[c]⟩ : Str)).map sg).flatten = cs
  | [] => rfl
  | c :: r => by
    rw [List.map_cons, List.map_cons, List.flatten_cons, ones_flat] <;> rfl
/-- the last sign, and what stands ahead of it -/
theorem last_at {z : Str} {l : List Nat} {c : Nat} (h : sg z = l ++ [c]) : atI (sg z) (-1) = some c := by
  rw [h]
  unfold atI ixN
  rw [if_neg (by decide), if_pos (by rw [List.length_append]; simp; omega)]
  have e : ((-1 : Int) + ((l ++ [c]).length : Nat)).toNat = l.length := by
    rw [List.length_append]
    simp
    omega
  rw [e]
  simp
theorem init_at {z : Str} {l : List Nat} {c : Nat} (h : sg z = l ++ [c]) : cutS z none (some (-1)) = ofL l := by
  apply sg_inj
  rw [sg_ofL]
  have hl : z.length = l.length + 1 := by rw [sg_len, h, List.length_append]; rfl
  have e : HT.sIx z.length z.length (some (-1)) = l.length := by
    show (if (-1 : Int) < 0 then ((-1 : Int) + (z.length : Int)).toNat else min (-1 : Int).toNat z.length) = l.length
    rw [if_pos (by decide), hl]
    omega
  unfold cutS
  rw [HT.sIx_none, e]
  show ((sg z).drop 0).take (l.length - 0) = _
  rw [h, List.drop_zero, Nat.sub_zero, List.take_left]
theorem sg_cut7 (z : Str) : sg (cutS z none (some 7)) = (sg z).take (min 7 z.length) := by
  unfold cutS
  rw [HT.sIx_none, show (some (7 : Int)) = some ((7 : Nat) : Int) from rfl, HT.sIx_nat]
  show ((sg z).drop 0).take (min 7 z.length - 0) = _
  rw [List.drop_zero, Nat.sub_zero]
/-- a row without twins among others is no longer -/
theorem nodup_le {α : Type} [DecidableEq α] : ∀ {xs ys : List α}, xs.Nodup → (∀ x ∈ xs, x ∈ ys) → xs.length ≤ ys.length
  | [], _, _, _ => Nat.zero_le _
  | x :: xs, ys, h, k => by
    rw [List.nodup_cons] at h
    have hx := k x List.mem_cons_self
    have := nodup_le (ys := ys.erase x) h.2 fun y hy => (List.mem_erase_of_ne (fun e => h.1 (by rw [← e]; exact hy))).mpr (k y (List.mem_cons_of_mem _ hy))
    rw [List.length_erase_of_mem hx] at this
    have hp : 0 < ys.length := List.length_pos_of_mem hx
    simp only [List.length_cons]
    omega
/-- l with the letter j, the t-th behind it -/
def turnL (l : List Nat) (j t : Nat) : Str := ofL (l ++ [97 + (j + t) % 26])
theorem turnL_inj {l : List Nat} {j s t : Nat} (hs : s < 26) (ht : t < 26) (h : turnL l j s = turnL l j t) : s = t := by
  have e := congrArg sg h
  unfold turnL at e
  rw [sg_ofL, sg_ofL] at e
  have e := List.append_cancel_left e
  simp at e
  omega
/-- as long as the names met stand in the row, they are no more than the row has -/
theorem turns_le {l : List Nat} {j t : Nat} {found : List Str} (ht : t < 26) (h : ∀ s, s < t → turnL l j s ∈ found) : t ≤ found.length := by
  have n : ((List.range t).map (turnL l j)).Nodup := by
    refine List.pairwise_map.mpr ((List.nodup_range (n := t)).imp_of_mem fun {a b} ha hb ne e => ne (turnL_inj ?_ ?_ e))
    · have := List.mem_range.mp ha
      omega
    · have := List.mem_range.mp hb
      omega
  have := nodup_le n fun x hx => by
    obtain ⟨s, hs, rfl⟩ := List.mem_map.mp hx
    exact h s (List.mem_range.mp hs)
  rw [List.length_map, List.length_range] at this
  exact this
end Tw
/-! TwW: schemas as written: the pieces of text. -/
namespace Tw
open PySem PySem.Spec PyProof.Rows L2
/-- a number, written -/
def iT (n : Int) : Str := Str.ofString (toString n)
theorem iT_len {n : Int} (h : -figs ≤ n ∧ n ≤ figs) : (iT n).length ≤ 61 := by
  unfold iT
  rw [PySem.ofString_length]
  refine int_text_length_le10 (k := 60) (by decide) ?_
  unfold figs at h
  have : (10 : Nat) ^ 60 = 1000000000000000000000000000000000000000000000000000000000000 := by decide
  omega
theorem iT_log {n : Int} (h : -figs ≤ n ∧ n ≤ figs) : n.natAbs.log2 < 1920 := by
  unfold figs at h
  have h2 : n.natAbs < 2 ^ 200 := by
    have : (2 : Nat) ^ 200 = 1606938044258990275541962092341162602522202993782792835301376 := by decide
    omega
  by_cases h0 : n.natAbs = 0
  · rw [h0]
    decide
  · have := (Nat.log2_lt h0).mpr h2
    omega
def boundT : Option Int → Str
  | none => "*"
  | some n => iT n
/-- an inmost sort, written -/
def So.inmT : So → Str
  | num lo hi => (((Str.empty ++ "number ") ++ boundT lo) ++ "..") ++ boundT hi
  | tru => "truth"
  | txt n => ((Str.empty ++ "text") ++ " ") ++ iT n
  | nod k => ((Str.empty ++ "node") ++ " ") ++ k
  | cho c => ((Str.empty ++ "choice") ++ " ") ++ c
  | _ => ""
/-- a sort's words -/
def So.wordsT : So → List Str
  | row n s => ((Str.empty ++ "row ") ++ iT n) :: s.wordsT
  | may s => "maybe" :: s.wordsT
  | s => [s.inmT]
def So.textT (s : So) : Str := Txt.join " " s.wordsT
theorem app_len (a b : Str) : (a ++ b).length = a.length + b.length := by rw [sg_len, sg_len, sg_len, sg_append, List.length_append]
theorem small_figs {n : Int} (h0 : 0 ≤ n) (h1 : n ≤ 99) : -figs ≤ n ∧ n ≤ figs := by
  unfold figs
  omega
end Tw
namespace Tw
open PySem PySem.Spec PyProof.Rows L2
theorem fits {a b : Str} (m n : Nat) (ha : a.length ≤ m) (hb : b.length ≤ n) (h : m + n ≤ 16777216) : (a ++ b).length ≤ sizeLine := by
  rw [app_len, sizeLine_eq]
  omega
theorem app_le {a b : Str} {m n : Nat} (ha : a.length ≤ m) (hb : b.length ≤ n) : (a ++ b).length ≤ m + n := by
  rw [app_len]
  omega
theorem line_le {a : Str} (m : Nat) (ha : a.length ≤ m) (h : m ≤ 16777216) : a.length ≤ sizeLine := by
  rw [sizeLine_eq]
  omega
end Tw
namespace Tw
open PySem PySem.Spec PyProof.Rows L2
theorem word_len : ∀ s : So, s.word.length ≤ 8
  | .num _ _ => show (("number" : Str)).length ≤ 8 by decide +kernel
  | .tru => show (("truth" : Str)).length ≤ 8 by decide +kernel
  | .txt _ => show (("text" : Str)).length ≤ 8 by decide +kernel
  | .row _ _ => show (("row" : Str)).length ≤ 8 by decide +kernel
  | .may _ => show (("maybe" : Str)).length ≤ 8 by decide +kernel
  | .nod _ => show (("node" : Str)).length ≤ 8 by decide +kernel
  | .cho _ => show (("choice" : Str)).length ≤ 8 by decide +kernel
theorem head1 (s : So) : (Str.empty ++ s.word).length ≤ 8 := Nat.le_trans (app_le (m := 0) (show Str.empty.length ≤ 0 by decide) (word_len s)) (by decide)
theorem head2 (s : So) : ((Str.empty ++ s.word) ++ Str.ofString " ").length ≤ 9 := app_le (head1 s) (show (Str.ofString " ").length ≤ 1 by decide +kernel)
end Tw
namespace Tw
open PySem PySem.Spec PyProof.Rows L2
def figO (o : Option Int) : Prop := ∀ n, o = some n → -figs ≤ n ∧ n ≤ figs
/-- bounds of at most sixty figures, however deep -/
def So.figS : So → Prop
  | num lo hi => figO lo ∧ figO hi
  | row _ s => s.figS
  | may s => s.figS
  | _ => True
theorem bound_len {o : Option Int} (h : figO o) : (boundT o).length ≤ 61 := by
  cases o with
  | none => exact (show (boundT none).length ≤ 61 by decide +kernel)
  | some n => exact iT_len (h n rfl)
theorem inm_len {ks cs : List Str} : ∀ {s : So} {i : Bool}, s.ok ks cs i → s.figS → s.inmT.length ≤ 131
  | .num lo hi, _, _, h => app_le (app_le (app_le (show (Str.empty ++ Str.ofString "number ").length ≤ 7 by decide +kernel) (bound_len h.1)) (show (Str.ofString "..").length ≤ 2 by decide +kernel)) (bound_len h.2)
  | .tru, _, _, _ => show (("truth" : Str)).length ≤ 131 by decide +kernel
  | .txt n, _, ok, _ => Nat.le_trans (app_le (head2 (.txt n)) (iT_len (small_figs ok.1 (Int.le_trans ok.2 (by decide))))) (by decide)
  | .nod k, _, ok, _ => Nat.le_trans (app_le (head2 (.nod k)) (show k.length ≤ 8 by rw [sg_len]; exact (isNm_to ok.1).2.1)) (by decide)
  | .cho k, _, ok, _ => Nat.le_trans (app_le (head2 (.cho k)) (show k.length ≤ 8 by rw [sg_len]; exact (isNm_to ok.1).2.1)) (by decide)
  | .row _ _, _, _, _ => show ((⟨#[]⟩ : Str)).length ≤ 131 by decide
  | .may _, _, _, _ => show ((⟨#[]⟩ : Str)).length ≤ 131 by decide
theorem words_len {ks cs : List Str} : ∀ {s : So} {i : Bool}, s.ok ks cs i → s.figS → (s.wordsT.map (·.length)).sum ≤ 131 * (s.depth + 1) ∧ s.wordsT.length = s.depth + 1
  | .row n s, _, ok, h => by
    obtain ⟨g1, g2⟩ := words_len ok.2.2 h
    have l : (((Str.empty ++ Str.ofString "row ") ++ iT n)).length ≤ 65 := app_le (m := 4) (n := 61) (by decide +kernel) (iT_len (small_figs ok.1 (Int.le_trans ok.2.1 (by decide))))
    refine ⟨?_, congrArg (· + 1) g2⟩
    show (((Str.empty ++ Str.ofString "row ") ++ iT n)).length + (s.wordsT.map (·.length)).sum ≤ 131 * (s.depth + 1 + 1)
    omega
  | .may s, _, ok, h => by
    obtain ⟨g1, g2⟩ := words_len ok.2 h
    have l : (Str.ofString "maybe").length ≤ 65 := by decide +kernel
    refine ⟨?_, congrArg (· + 1) g2⟩
    show (Str.ofString "maybe").length + (s.wordsT.map (·.length)).sum ≤ 131 * (s.depth + 1 + 1)
    omega
  | .num lo hi, _, ok, h => ⟨show (So.num lo hi).inmT.length + 0 ≤ 131 from inm_len ok h, rfl⟩
  | .tru, _, ok, h => ⟨show So.tru.inmT.length + 0 ≤ 131 from inm_len ok h, rfl⟩
  | .txt n, _, ok, h => ⟨show (So.txt n).inmT.length + 0 ≤ 131 from inm_len ok h, rfl⟩
  | .nod k, _, ok, h => ⟨show (So.nod k).inmT.length + 0 ≤ 131 from inm_len ok h, rfl⟩
  | .cho k, _, ok, h => ⟨show (So.cho k).inmT.length + 0 ≤ 131 from inm_len ok h, rfl⟩
theorem same_new {H H' : Hp} {D : Addr} {o : HO} (s : Same H H') (h : H D = none) : Same H (upd H' D o) := fun b u e => by
  rw [upd_ne (fun w => by rw [w, h] at e; cases e)]
  exact s b u e
end Tw
namespace Tw
open PySem PySem.Spec PyProof.Rows L2
theorem joinL_len (sep : List Nat) : ∀ l : List (List Nat), (TL.joinL sep l).length ≤ (l.map List.length).sum + l.length * sep.length
  | [] => Nat.zero_le _
  | [x] => by
    show x.length ≤ x.length + 0 + 1 * sep.length
    omega
  | x :: y :: r => by
    have ih := joinL_len sep (y :: r)
    show (x ++ (sep ++ TL.joinL sep (y :: r))).length ≤ x.length + ((y :: r).map List.length).sum + ((y :: r).length + 1) * sep.length
    rw [List.length_append, List.length_append, Nat.add_mul]
    omega
theorem join_len (a : Str) (ys : List Str) : (Txt.join a ys).length ≤ (ys.map (·.length)).sum + ys.length * a.length := by
  have e1 : sg (Txt.join a ys) = TL.joinL (sg a) (ys.map sg) := (congrArg TL.tl (TL.join_eq a ys)).trans (TL.tl_join a ys)
  have h := joinL_len (sg a) (ys.map sg)
  rw [sg_len, e1]
  refine Nat.le_trans h ?_
  rw [List.length_map, List.map_map, sg_len a]
  have e2 : ∀ z : Str, (List.length ∘ sg) z = z.length := fun z => (sg_len z).symm
  rw [List.map_congr_left fun z _ => e2 z]
  exact Nat.le_refl _
theorem text_len {ks cs : List Str} {s : So} {i : Bool} (ok : s.ok ks cs i) (hf : s.figS) (hd : s.depth ≤ 100) : s.textT.length ≤ 20000 := by
  obtain ⟨g1, g2⟩ := words_len ok hf
  have h := join_len (Str.ofString " ") s.wordsT
  rw [g2, show (Str.ofString " ").length = 1 by decide +kernel] at h
  refine Nat.le_trans h ?_
  omega
end Tw
/-! TwU: a sorted row of texts is one row. -/
namespace Tw
open PySem PySem.Spec PyProof.Rows L2
def leS (a b : Str) : Prop := sg a ≤ sg b
theorem leS_of {a b : Str} (h : (!ltCps b.cps.toList a.cps.toList) = true) : leS a b := by
  rw [ltCps_eq] at h
  simp only [Bool.not_eq_true', decide_eq_false_iff_not] at h
  exact h
theorem rising_pw : ∀ {l : List Str} {p : Str}, risingS p l = true → (p :: l).Pairwise leS
  | [], p, _ => List.pairwise_singleton _ _
  | x :: r, p, h => by
    have h : ((!ltCps x.cps.toList p.cps.toList) && risingS x r) = true := h
    rw [Bool.and_eq_true] at h
    have ih := rising_pw h.2
    have hpx := leS_of h.1
    refine List.pairwise_cons.mpr ⟨fun y hy => ?_, ih⟩
    rcases List.mem_cons.mp hy with rfl | hy
    · exact hpx
    · exact List.le_trans hpx ((List.pairwise_cons.mp ih).1 y hy)
theorem sortedS_one {xs ys : List Str} (hx : sortedS xs = true) (hy : sortedS ys = true) (p : xs.Perm ys) : xs = ys := by
  have pw : ∀ {l : List Str}, sortedS l = true → l.Pairwise leS := fun {l} h => by
    cases l with
    | nil => exact .nil
    | cons x r => exact rising_pw h
  exact List.Perm.eq_of_pairwise (le := leS) (fun a b _ _ h1 h2 => sg_inj (List.le_antisymm h1 h2)) (pw hx) (pw hy) p
end Tw
namespace Tw
open PySem PySem.Spec PyProof.Rows L2
/-! between quotes: what is written for each sign -/
def escC (c : Nat) : List Nat := if c = 92 then [92, 92] else if c = 34 then [92, 34] else [c]
theorem repl_one {a : Nat} {z : List Nat} : ∀ l : List Nat, StrLaws.replL [a] z l = (l.map fun c => if c = a then z else [c]).flatten
  | [] => StrLaws.replL_nil
  | c :: r => by
    have ih := repl_one (a := a) (z := z) r
    rw [List.map_cons, List.flatten_cons]
    by_cases h : c = a
    · rw [if_pos h, StrLaws.replL_hit (List.cons_ne_nil _ _) (by rw [h]; rfl)]
      show z ++ StrLaws.replL [a] z r = _
      rw [ih]
    · rw [if_neg h, StrLaws.replL_miss (fun e => h (by
        have e : [c] = [a] := e
        exact (List.cons.inj e).1)), ih]
      rfl
theorem sg_esc (z : Str) : sg (Txt.replace (Txt.replace z (Str.ofString "\\") (Str.ofString "\\\\")) (Str.ofString "\"") (Str.ofString "\\\"")) = ((sg z).map escC).flatten := by
  have e1 : (Str.ofString "\\").cps.toList = [92] := by decide +kernel
  have e2 : (Str.ofString "\\\\").cps.toList = [92, 92] := by decide +kernel
  have e3 : (Str.ofString "\"").cps.toList = [34] := by decide +kernel
  have e4 : (Str.ofString "\\\"").cps.toList = [92, 34] := by decide +kernel
  show (Txt.replace _ _ _).cps.toList = _
  rw [StrLaws.replace_list (by decide +kernel), StrLaws.replace_list (by decide +kernel), e1, e2, e3, e4, repl_one, repl_one]
  show _ = ((z.cps.toList).map escC).flatten
  generalize z.cps.toList = l
  have : ∀ l : List Nat, (((l.map fun c => if c = 92 then [92, 92] else [c]).flatten).map fun c => if c = 34 then [92, 34] else [c]).flatten = (l.map escC).flatten := by
    intro l
    induction l with
    | nil => rfl
    | cons c r ih =>
      rw [List.map_cons, List.flatten_cons, List.map_append, List.flatten_append, ih, List.map_cons, List.flatten_cons]
      congr 1
      unfold escC
      by_cases h : c = 92
      · rw [if_pos h, if_pos h]
        rfl
      · rw [if_neg h, if_neg h]
        by_cases h2 : c = 34
        · rw [h2]
          rfl
        · rw [if_neg h2]
          simp [h2]
  exact this _
end Tw
/-! TwV: things without nodes and cases, turned: what is due, and the jobs that do it. -/
namespace Tw
open PySem PySem.Spec PyProof.Rows L2
inductive Rs
  | told (d : PyData)
  | ref (rp : List PyData) (why : Str)
def So.strip : So → So
  | may s => s
  | s => s
def So.isMay : So → Bool
  | may _ => true
  | _ => false
def isNone : PyData → Bool
  | .none => true
  | _ => false
def insideD : PyData := .tuple [.str "inside"]
def rowDue (f : List PyData → PyData → Rs) (rp : List PyData) : Nat → List PyData → Sum (List PyData) (List PyData × Str)
  | _, [] => .inl []
  | k, d :: r => match f (.int (k : Int) :: rp) d with
    | .ref p w => .inr (p, w)
    | .told v => match rowDue f rp (k + 1) r with
      | .inr e => .inr e
      | .inl vs => .inl (v :: vs)
def withinB (n : Int) (lo hi : Option Int) : Bool := (lo.all fun a => decide (a ≤ n)) && (hi.all fun b => decide (n ≤ b))
def rowEnd : Sum (List PyData) (List PyData × Str) → Rs
  | .inl vs => .told (.tuple vs)
  | .inr e => .ref e.1 e.2
def due : So → So → List PyData → PyData → Rs
  | .may a, n, rp, d => if isNone d = true then (if n.isMay = true then .told .none else .ref rp "nothing") else due a n.strip (insideD :: rp) d
  | .num _ _, n, rp, d => match n.strip, d with
    | .num lo hi, .int x => if withinB x lo hi = true then .told d else .ref rp "bounds"
    | _, _ => .ref rp "sort"
  | .tru, n, rp, d => match n.strip with
    | .tru => .told d
    | _ => .ref rp "sort"
  | .txt _, n, rp, d => match n.strip, d with
    | .txt m, .str z => if (z.length : Int) > m then .ref rp "most" else .told d
    | _, _ => .ref rp "sort"
  | .row _ a, n, rp, d => match n.strip, d with
    | .row m b, .tuple ds => if (ds.length : Int) > m then .ref rp "most" else rowEnd (rowDue (fun p e => due a b p e) rp 0 ds)
    | _, _ => .ref rp "sort"
  | _, _, rp, _ => .ref rp "sort"
def ThOk : So → PyData → Prop
  | .num _ _, .int _ => True
  | .tru, .bool _ => True
  | .txt _, .str z => z.length ≤ 40
  | .row _ s, .tuple ds => ds.length ≤ 6 ∧ ∀ d ∈ ds, ThOk s d
  | .may s, d => d = .none ∨ ThOk s d
  | _, _ => False
def So.pl (s : So) : Prop := s.ok [] [] false
theorem ok_weak {ks cs : List Str} : ∀ {s : So} {i : Bool}, s.ok ks cs i → s.ok ks cs false
  | .num _ _, _, h => h
  | .tru, _, h => h
  | .txt _, _, h => h
  | .row _ _, _, h => h
  | .may _, false, h => h
  | .nod _, _, h => h
  | .cho _, _, h => h
theorem So.pl.may {s : So} (h : (So.may s).pl) : s.pl ∧ s.isMay = false := by
  have h : false = false ∧ s.ok [] [] true := h
  refine ⟨ok_weak h.2, ?_⟩
  cases s with
  | may t => exact nomatch (show true = false ∧ _ from h.2).1
  | _ => rfl
theorem So.pl.row {n : Int} {s : So} (h : (So.row n s).pl) : s.pl ∧ 0 ≤ n ∧ n ≤ 20 := by
  have h : 0 ≤ n ∧ n ≤ 20 ∧ s.ok [] [] false := h
  exact ⟨h.2.2, h.1, h.2.1⟩
theorem So.pl.nod {k : Str} (h : (So.nod k).pl) : False := by
  have h : isNm k = true ∧ k ∈ ([] : List Str) := h
  exact nomatch h.2
theorem So.pl.cho {k : Str} (h : (So.cho k).pl) : False := by
  have h : isNm k = true ∧ k ∈ ([] : List Str) := h
  exact nomatch h.2
theorem So.pl.strip {s : So} (h : s.pl) : s.strip.pl ∧ s.strip.isMay = false := by
  cases s with
  | may t => exact h.may
  | num a b => exact ⟨h, rfl⟩
  | tru => exact ⟨h, rfl⟩
  | txt n => exact ⟨h, rfl⟩
  | row n t => exact ⟨h, rfl⟩
  | nod k => exact h.nod.elim
  | cho k => exact h.cho.elim
theorem strip_of {s : So} (h : s.isMay = false) : s.strip = s := by
  cases s with
  | may t => exact nomatch h
  | _ => rfl
theorem due_strip {o n : So} (h : o.isMay = false) (hs : n.strip.isMay = false) (rp : List PyData) (d : PyData) : due o n.strip rp d = due o n rp d := by
  have e := strip_of hs
  cases o with
  | may a => exact nomatch h
  | num a b => unfold due; rw [e]
  | tru => unfold due; rw [e]
  | txt k => unfold due; rw [e]
  | row k a => unfold due; rw [e]
  | nod k => rfl
  | cho k => rfl
/-! jobs -/
inductive Jb
  | turn (o n : So) (d : PyData) (rp : List PyData)
  | row (k : Nat)
def wayR : List PyData → PyData
  | [] => .none
  | s :: r => .tuple [wayR r, s]
def Jb.pd : Jb → PyData
  | .turn o n d rp => .tuple [.str "turn", .tuple [o.pd, n.pd], d, wayR rp]
  | .row k => .tuple [.str "row", .int (k : Int)]
def endOf : List PyData → Rs
  | m => .told (m.getLastD .none)
def ev : List Jb → List PyData → Rs
  | [], m => endOf m
  | .turn o n d rp :: J, m => match due o n rp d with
    | .told v => ev J (m ++ [v])
    | .ref p w => .ref p w
  | .row k :: J, m => ev J (m.take (m.length - k) ++ [.tuple (m.drop (m.length - k))])
def turns (a b : So) (rp : List PyData) : Nat → List PyData → List Jb
  | _, [] => []
  | k, d :: r => .turn a b d (.int (k : Int) :: rp) :: turns a b rp (k + 1) r
theorem ev_turns {a b : So} {rp : List PyData} {J : List Jb} : ∀ (ds : List PyData) (k : Nat) (m : List PyData), ev (turns a b rp k ds ++ J) m = match rowDue (fun p e => due a b p e) rp k ds with
    | .inl vs => ev J (m ++ vs)
    | .inr e => .ref e.1 e.2
  | [], k, m => by
    show ev J m = ev J (m ++ [])
    rw [List.append_nil]
  | d :: r, k, m => by
    show (match due a b (.int (k : Int) :: rp) d with | .told v => ev (turns a b rp (k + 1) r ++ J) (m ++ [v]) | .ref p w => .ref p w) = _
    unfold rowDue
    cases hd : due a b (.int (k : Int) :: rp) d with
    | ref p w => rfl
    | told v =>
      show ev (turns a b rp (k + 1) r ++ J) (m ++ [v]) = _
      rw [ev_turns r (k + 1)]
      cases rowDue (fun p e => due a b p e) rp (k + 1) r with
      | inr e => rfl
      | inl vs =>
        show ev J (m ++ [v] ++ vs) = ev J (m ++ v :: vs)
        rw [List.append_assoc]
        rfl
theorem rowDue_len {f : List PyData → PyData → Rs} {rp : List PyData} : ∀ {ds : List PyData} {k : Nat} {vs : List PyData}, rowDue f rp k ds = .inl vs → vs.length = ds.length
  | [], k, vs, h => by
    cases h
    rfl
  | d :: r, k, vs, h => by
    unfold rowDue at h
    cases hd : f (.int (k : Int) :: rp) d with
    | ref p w => rw [hd] at h; cases h
    | told v =>
      rw [hd] at h
      cases hr : rowDue f rp (k + 1) r with
      | inr e => rw [hr] at h; cases h
      | inl us =>
        rw [hr] at h
        cases h
        exact congrArg (· + 1) (rowDue_len hr)
theorem ev_row {a b : So} {rp : List PyData} {J : List Jb} {m ds : List PyData} : ev (turns a b rp 0 ds ++ .row ds.length :: J) m = match rowEnd (rowDue (fun p e => due a b p e) rp 0 ds) with
    | .told v => ev J (m ++ [v])
    | .ref p w => .ref p w := by
  rw [ev_turns]
  cases h : rowDue (fun p e => due a b p e) rp 0 ds with
  | inr e => rfl
  | inl vs =>
    have hl := rowDue_len h
    show ev J ((m ++ vs).take ((m ++ vs).length - ds.length) ++ [.tuple ((m ++ vs).drop ((m ++ vs).length - ds.length))]) = ev J (m ++ [.tuple vs])
    rw [List.length_append, hl, Nat.add_sub_cancel, List.take_left, List.drop_left]
def So.W : So → Nat
  | row _ a => 6 * (a.W + 1) + 3
  | may a => a.W + 2
  | _ => 2
def Jb.w : Jb → Nat
  | .turn o n _ _ => o.W + (if n.isMay = true then 1 else 0)
  | .row _ => 1
def wts (J : List Jb) : Nat := (J.map Jb.w).sum
theorem wts_app (J L : List Jb) : wts (J ++ L) = wts J + wts L := by
  unfold wts
  rw [List.map_append, List.sum_append]
theorem wts_turns {a b : So} {rp : List PyData} : ∀ {ds : List PyData} {k : Nat}, wts (turns a b rp k ds) ≤ ds.length * (a.W + 1)
  | [], _ => Nat.zero_le _
  | d :: r, k => by
    have ih := wts_turns (a := a) (b := b) (rp := rp) (ds := r) (k := k + 1)
    show (a.W + (if b.isMay = true then 1 else 0)) + wts (turns a b rp (k + 1) r) ≤ (r.length + 1) * (a.W + 1)
    rw [Nat.add_mul]
    split <;> omega
theorem W_pos : ∀ s : So, 2 ≤ s.W
  | .row _ a => by show 2 ≤ 6 * (a.W + 1) + 3; omega
  | .may a => by show 2 ≤ a.W + 2; omega
  | .num _ _ => Nat.le_refl _
  | .tru => Nat.le_refl _
  | .txt _ => Nat.le_refl _
  | .nod _ => Nat.le_refl _
  | .cho _ => Nat.le_refl _
theorem len_wts : ∀ J : List Jb, J.length ≤ wts J
  | [] => Nat.le_refl _
  | j :: J => by
    have ih := len_wts J
    have h1 : 1 ≤ j.w := by
      cases j with
      | row k => exact Nat.le_refl _
      | turn o n d rp =>
        have := W_pos o
        show 1 ≤ o.W + _
        omega
    show J.length + 1 ≤ j.w + wts J
    omega
theorem W_le : ∀ (s : So) (n : Nat), s.depth ≤ n → s.W ≤ 7 ^ n * 12 - 9
  | .row k a, n, h => by
    have h : a.depth + 1 ≤ n := h
    obtain ⟨m, rfl⟩ : ∃ m, n = m + 1 := ⟨n - 1, by omega⟩
    have ih := W_le a m (by omega)
    have hp : 1 ≤ 7 ^ m := Nat.one_le_pow _ _ (by decide)
    show 6 * (a.W + 1) + 3 ≤ 7 ^ (m + 1) * 12 - 9
    rw [Nat.pow_succ]
    omega
  | .may a, n, h => by
    have h : a.depth + 1 ≤ n := h
    obtain ⟨m, rfl⟩ : ∃ m, n = m + 1 := ⟨n - 1, by omega⟩
    have ih := W_le a m (by omega)
    have hp : 1 ≤ 7 ^ m := Nat.one_le_pow _ _ (by decide)
    show a.W + 2 ≤ 7 ^ (m + 1) * 12 - 9
    rw [Nat.pow_succ]
    omega
  | .num _ _, n, _ => by have hp : 1 ≤ 7 ^ n := Nat.one_le_pow _ _ (by decide); show 2 ≤ _; omega
  | .tru, n, _ => by have hp : 1 ≤ 7 ^ n := Nat.one_le_pow _ _ (by decide); show 2 ≤ _; omega
  | .txt _, n, _ => by have hp : 1 ≤ 7 ^ n := Nat.one_le_pow _ _ (by decide); show 2 ≤ _; omega
  | .nod _, n, _ => by have hp : 1 ≤ 7 ^ n := Nat.one_le_pow _ _ (by decide); show 2 ≤ _; omega
  | .cho _, n, _ => by have hp : 1 ≤ 7 ^ n := Nat.one_le_pow _ _ (by decide); show 2 ≤ _; omega
end Tw
set_option maxHeartbeats 1000000
/-! TwB: rules that lacked: B.m(o, ..) of a class's own def, del xs[a:]. -/
namespace Tw
open PySem PySem.Spec PyProof.Rows L2 Sb
section
variable {X : Cx} {CX : CXT} {k j : Nat} {f C : Addr} {mc : Value} {sp : Sp} {E : XK} {m : Str} {p pos apos : Pos} {e o : Expr} {es : List Expr} {to : TE} {t : TA}
def tBase (C : Addr) (sp : Sp) (E : XK) (to : TE) (t : TA) : TE := fun σ H Q => to σ H fun x H1 => x = .ref C ∧ t σ H1 fun vs H2 => sp vs H2 Q E
theorem pe_base {pl : Sem Bool} (ho : PE X o to) (r : ClX.CRead X.K C mc) (c : ClX.CVal X.K C mc m (.ref f) (.ref f)) (kp : PySem.W.keepIn X.K (.ref f) = true) (F : FnR X.prog X.w X.K X.mg X.base CX k f sp) (hr : Room k X.A) (hx : Passes CX X E) (ha : PA X (e :: es) t)
    (hst : starEach (e :: es) X.env = (false, eval e X.env) :: starEach es X.env := by rfl) (hpl : (backTo pos (starEach es X.env)).any (·.1) = false := by rfl)
    (ht : eval (.Call (.Attribute o m apos) (e :: es) [] pos) X.env = (do
      let ov ← eval o X.env
      standAt apos.atName
      let (f, first) ← holding [ov] (getMethod ov m pl)
      callWith pos f first (backTo pos (starEach (e :: es) X.env)) (backToKw pos (keywordEach [] X.env))) := by rfl) :
    PE X (.Call (.Attribute o m apos) (e :: es) [] pos) (tBase C sp E to t) := by
  refine ⟨fun pins s σ H Q I h => ?_⟩
  refine PySem.W.methodCall_KW (pl := pl) (thn (ho.run pins s σ H _ I h) fun u s1 ⟨x, H1, I1, rx, ex, q⟩ => ?_) ht
  subst ex
  obtain rfl : u = Value.ref C := rx
  refine PySem.W.method_cls I1.kIn r.ga (ClX.getcval_ok I1 r c fun s2 I2 => ?_)
  exact PySem.W.callWith_K (first := []) (h₀ := X.base) I.ok.mod.kin kp (thn (ha.run pos pins s2 σ H1 _ I2 q) fun us s3 ⟨vs, H2, I3, r3, q3⟩ => ⟨I3.kIn, wpAny_call (run_fnR F hr hx I3 r3 q3)⟩) hst hpl
end
section
variable {prog : Program} {w : World} {A : Around} {E : Value → Shared → Prop} {s : Shared}
theorem bounds_end {a n : Nat} (h : a ≤ n) : sliceBounds (some (a : Int)) none none n = ((a : Int), (n : Int), 1) := by
  simp only [sliceBounds, Option.getD_none]
  have h1 : ¬ ((a : Int) < 0) := by omega
  simp only [h1, if_false, show (1 : Int) > 0 by decide, if_true]
  rw [show min (a : Int) (n : Int) = (a : Int) from Int.min_eq_left (by omega), show max (0 : Int) (a : Int) = (a : Int) from Int.max_eq_right (by omega)]
theorem zipIdx_keep {α : Type} (g : Nat → Bool) (a : Nat) : ∀ (l : List α) (i : Nat), (∀ k, g k = decide (a ≤ k ∧ k < i + l.length)) → (l.zipIdx i).filterMap (fun x => if g x.2 = true then none else some x.1) = l.take (a - i)
  | [], i, _ => by simp
  | x :: r, i, h => by
    have ih := zipIdx_keep g a r (i + 1) (fun k => by rw [h k, List.length_cons, show i + (r.length + 1) = i + 1 + r.length by omega])
    rw [List.zipIdx_cons, List.filterMap_cons]
    show (match (if g i = true then none else some x) with | none => _ | some b => b :: _) = _
    by_cases c : a ≤ i
    · rw [h i, decide_eq_true ⟨c, by rw [List.length_cons]; omega⟩, if_pos rfl, ih, show a - i = 0 by omega, show a - (i + 1) = 0 by omega]
      rfl
    · rw [h i, decide_eq_false (fun w => c w.1), if_neg (by decide), ih, show a - i = (a - (i + 1)) + 1 by omega]
      rfl
def selB (start stop step : Int) (i : Nat) : Bool :=
  if step > 0 then start ≤ i && i < stop && (i - start) % step == 0
  else stop < i && i ≤ start && (start - i) % (-step) == 0
theorem selB_eq (a n k : Nat) : selB a n 1 k = decide (a ≤ k ∧ k < 0 + n) := by
  unfold selB
  rw [if_pos (by decide)]
  have h : ((k : Int) - (a : Int)) % 1 = 0 := Int.emod_one _
  rw [h]
  simp
theorem delItem_cut {l sl : Addr} {items : Array Value} {n : Nat} {vl vu : Value} {a : Nat} {Q : Unit → Shared → Prop}
    (e : s.heap.get? l = some { cls := .type "list", data := .seq items n }) (hs : s.heap.IsSliceOf sl vl vu .none) (pl : IsPart vl (some (a : Int))) (pu : IsPart vu none) (ha : a ≤ items.size)
    (hsz : items.size ≤ sizeLine) (h : Q () { s with heap := s.heap.update l (Obj.mapSeq fun xs => (xs.toList.zipIdx.filterMap fun x => if selB (a : Int) (items.size : Int) 1 x.2 = true then none else some x.1).toArray) }) :
    wpAny (model prog w) A (delItem (.ref l) (.ref sl)) Q E s := by
  have hl : s.heap.IsList l items := PySem.IsL.isList e
  obtain ⟨os, hos, hcs, hds⟩ := id hs
  have hTs : s.TypeIs (.ref sl) "slice" := ⟨os, hos, hcs⟩
  have hstep : ¬ ((rawPart none == rawInt 0) = true) := Bool.false_ne_true
  have hz' : ((fun xs : Array Value => (xs.toList.zipIdx.filterMap fun x => if selB (a : Int) (items.size : Int) 1 x.2 = true then none else some x.1).toArray) items).size ≤ sizeLine + 1 := by
    dsimp only
    rw [List.size_toArray, zipIdx_keep (selB (a : Int) (items.size : Int) 1) a items.toList 0 (fun k => by rw [selB_eq, Array.length_toList]), List.length_take, Array.length_toList]
    omega
  refine wpAny_delItem_slot hl.typeIs (by decide) F.slot_list_delitem (wpAny_call_entry F.slot_list_delitem hl.typeIs F.entry_list_delitem ?_ (F.args_list_delitem_2 _ _))
  show wpAny _ _ (Builtin.List.listSubscript? (.ref sl) >>= _) _ _ s
  refine wpAny_bind ?_
  unfold Builtin.List.listSubscript?
  refine wpAny_bind (wpAny_specialOf hTs slice_no_index ?_)
  simp only [Option.isNone_none, if_true]
  refine wpAny_pure ?_
  show wpAny _ _ (typeOf (.ref sl) >>= _) _ _ s
  refine wpAny_bind (wpAny_typeOf hTs ?_)
  first
    | rw [if_neg (by decide)]
    | refine PySem.W.KFB.if_not (by decide) ?_
  rw [listSliceParts_eq]
  refine wpAny_bind (wpAny_bind (wpAny_field hos hds (x := .none) rfl (wpAny_bind (wpAny_listPart .none ?_))))
  rw [if_neg hstep]
  refine wpAny_bind (wpAny_field hos hds (x := vl) rfl (wpAny_bind (wpAny_listPart pl ?_)))
  refine wpAny_bind (wpAny_field hos hds (x := vu) rfl (wpAny_bind (wpAny_listPart pu (wpAny_pure ?_))))
  refine wpAny_bind (m := Builtin.List.listItems (.ref l)) ?_
  unfold Builtin.List.listItems
  refine wpAny_bind (wpAny_seqItems e rfl (wpAny_pure ?_))
  refine wpAny_bind (wpAny_of_eq ((sliceIndices_raw (some (a : Int)) none none items.size (by simp)).trans (congrArg (pure : Int × Int × Int → Sem (Int × Int × Int)) (bounds_end ha))) ?_)
  refine wpAny_bind (wpAny_rule ?_)
  dsimp only
  unfold Builtin.List.listUpdate
  refine wpAny_bind (wpAny_updateSeq (hz := hsz) (_hz' := ?hh) e rfl ?_)
  case hh => exact hz'
  refine wpAny_bind (wpAny_letGo ?_)
  exact wpAny_pure ⟨.none, rfl, h⟩
end
section
variable {X : Cx} {o : Expr} {lo' : Option Expr} {to : TE} {tl : TO} {pos p2 tpos : Pos}
/-- del xs[a:] of a list -/
def tDelC (to : TE) (tl : TO) : TS := fun D σ H => to σ H fun x H1 => tl σ H1 fun y H2 => ∃ (l : Addr) (xs : List V) (a : Nat), x = .ref l ∧ y = some (a : Int) ∧ H2 l = some (.lst xs) ∧ a ≤ xs.length ∧ D.nx σ (upd H2 l (.lst (xs.take a)))
theorem del_cut {pins : List (Addr × Obj)} {s : Shared} {σ : L2.St} {H : Hp} {l sl : Addr} {xs : List V} {a : Nat} {vl vu : Value} {Q : Unit → Shared → Prop} (I : Inv X pins σ H s) (hH : H l = some (.lst xs))
    (hs : s.heap.IsSliceOf sl vl vu .none) (pl : IsPart vl (some (a : Int))) (pu : IsPart vu none) (ha : a ≤ xs.length) (h : ∀ s', Inv X pins σ (upd H l (.lst (xs.take a))) s' → Q () s') :
    wpAny (model X.prog X.w) X.A (delItem (.ref l) (.ref sl)) Q X.xe s := by
  obtain ⟨z, its, n, r, hl, e⟩ := I.lstM hH
  refine delItem_cut (a := a) e hs pl pu (by rw [List.size_toArray, ← hl]; exact ha) (by rw [List.size_toArray, ← hl]; exact z) (h _ ?_)
  refine I.lset (its' := its.take a) (t' := s.toks) hH e ?_ (r.take a) ?_
  · show ((its.toArray.toList.zipIdx.filterMap fun x => if selB (a : Int) (its.toArray.size : Int) 1 x.2 = true then none else some x.1).toArray) = (its.take a).toArray
    rw [zipIdx_keep (selB (a : Int) (its.toArray.size : Int) 1) a its.toArray.toList 0 (fun k => by rw [selB_eq, Array.length_toList])]
    rfl
  · rw [List.length_take]
    omega
theorem ps_delC (ho : PE X o to) (hl : PO X lo' tl) : PS X (.Delete [.Subscript o (.Slice lo' none none p2) tpos] pos) (tDelC to tl) := by
  refine ⟨fun pins s σ H D I h => ?_⟩
  refine wpAny_Delete (wpAny_deleteEach_cons (wpAny_delete_Subscript (thn (ho.run pins s σ H _ I h) fun v s1 ⟨x, H1, I1, rx, q1⟩ => ?_)))
  refine wpAny_Slice (thn (hl.run pins s1 σ H1 _ I1 q1) fun vl s2 ⟨y, H2, I2, pl, l, xs, a, ex, ey, hH, ha, q⟩ => ?_)
  rw [evalPart_none]
  refine wpAny_pure ?_
  refine wpAny_pure ?_
  subst ex
  subst ey
  cases (show v = Value.ref l from rx)
  have I4 : Inv X pins σ H2 { s2 with heap := s2.heap.push { cls := .type "slice", data := .fields #[vl, .none, .none] } } := I2.kept (t' := s2.toks) fun b ob q => Heap.get?_push_of_some _ q
  exact del_cut I4 hH (Heap.IsSliceOf.new ..) pl .none ha fun s5 I5 => wpAny_deleteEach_nil ⟨σ, _, I5, q⟩
end
end Tw
/-! TwA: pairs of sorts, words of pairs; rows of told data taken apart. -/
namespace Tw
open PySem PySem.Spec PyProof.Rows L2
section
variable {K : PySem.W.Frag} {H : Hp} {xs : List V} {d1 d2 d3 d4 : PyData}
theorem Tds.c1 (h : Tds K H xs [d1]) : ∃ x, xs = [x] ∧ Td K H x d1 := by
  cases h with
  | cons t1 t2 => cases t2; exact ⟨_, rfl, t1⟩
theorem Tds.c2 (h : Tds K H xs [d1, d2]) : ∃ x y, xs = [x, y] ∧ Td K H x d1 ∧ Td K H y d2 := by
  cases h with
  | cons t1 t2 => obtain ⟨y, rfl, h⟩ := t2.c1; exact ⟨_, _, rfl, t1, h⟩
theorem Tds.c3 (h : Tds K H xs [d1, d2, d3]) : ∃ x y z, xs = [x, y, z] ∧ Td K H x d1 ∧ Td K H y d2 ∧ Td K H z d3 := by
  cases h with
  | cons t1 t2 => obtain ⟨y, z, rfl, h⟩ := t2.c2; exact ⟨_, _, _, rfl, t1, h⟩
theorem Tds.c4 (h : Tds K H xs [d1, d2, d3, d4]) : ∃ x y z u, xs = [x, y, z, u] ∧ Td K H x d1 ∧ Td K H y d2 ∧ Td K H z d3 ∧ Td K H u d4 := by
  cases h with
  | cons t1 t2 => obtain ⟨y, z, u, rfl, h⟩ := t2.c3; exact ⟨_, _, _, _, rfl, t1, h⟩
theorem Tds.rev : ∀ {xs : List V} {ds : List PyData}, Tds K H xs ds → Tds K H xs.reverse ds.reverse
  | _, _, .nil => .nil
  | _, _, .cons h r => by
    rw [List.reverse_cons, List.reverse_cons]
    exact Tds.append (Tds.rev r) (.cons h .nil)
theorem Td.sort {v : V} {s : So} (h : Td K H v s.pd) : ∃ p zs, v = .ref p ∧ SqT K H p (.str s.word :: zs) ∧ Tds K H zs s.rest := by
  obtain ⟨p, zs, rfl, hp, hz⟩ := Td.row (show Td K H v (.tuple (.str s.word :: s.rest)) from h)
  cases hz with
  | cons t1 t2 =>
    obtain rfl := t1.toStr
    exact ⟨p, _, rfl, hp, t2⟩
theorem Td.pair {v : V} (h : Td K H v (.tuple [d1, d2])) : ∃ p x y, v = .ref p ∧ SqT K H p [x, y] ∧ Td K H x d1 ∧ Td K H y d2 := by
  obtain ⟨p, zs, rfl, hp, hz⟩ := h.row
  obtain ⟨x, y, rfl, hx, hy⟩ := hz.c2
  exact ⟨p, x, y, rfl, hp, hx, hy⟩
end
theorem keepT_lst {K : PySem.W.Frag} {H : Hp} {D : Addr} {xs ys : List V} (h : H D = some (.lst xs)) : KeepT K H (upd H D (.lst ys)) := KeepT.but fun b o e => by
  have hb : (∀ zs, o = .tup zs → b ≠ D) ∧ ∀ q zs, o = .frz q (.tup zs) → b ≠ D := ⟨fun zs w z => (by rw [z, h] at e; cases e; cases w), fun q zs w z => (by rw [z, h] at e; cases e; cases w)⟩
  exact ⟨fun zs w => by rw [upd_ne (hb.1 zs w)]; exact e, fun q zs w => by rw [upd_ne (hb.2 q zs w)]; exact e⟩
/-- the word of a pair -/
def pwS (o n : So) : Str := if o.word = n.word then o.word else if o.word = "maybe" then "force" else if n.word = "maybe" then "wrap" else "bad"
inductive Pk : So → So → Str → Prop
  | num (a b c d : Option Int) : Pk (.num a b) (.num c d) "number"
  | tru : Pk .tru .tru "truth"
  | txt (a b : Int) : Pk (.txt a) (.txt b) "text"
  | row (a : Int) (s : So) (b : Int) (t : So) : Pk (.row a s) (.row b t) "row"
  | may (a b : So) : Pk (.may a) (.may b) "maybe"
  | force (a n : So) : n.isMay = false → Pk (.may a) n "force"
  | wrap (o b : So) : o.isMay = false → Pk o (.may b) "wrap"
  | bad (o n : So) : o.isMay = false → n.isMay = false → o.word ≠ n.word → Pk o n "bad"
theorem word_may {s : So} (h : s.isMay = false) : s.word ≠ "maybe" := by
  cases s with
  | num lo hi => exact (show ("number" : Str) ≠ "maybe" by decide +kernel)
  | tru => exact (show ("truth" : Str) ≠ "maybe" by decide +kernel)
  | txt n => exact (show ("text" : Str) ≠ "maybe" by decide +kernel)
  | row n s => exact (show ("row" : Str) ≠ "maybe" by decide +kernel)
  | may s => exact nomatch h
  | nod k => exact (show ("node" : Str) ≠ "maybe" by decide +kernel)
  | cho k => exact (show ("choice" : Str) ≠ "maybe" by decide +kernel)
theorem pk_same {o n : So} (ho : o.pl) (hn : n.pl) (h : o.word = n.word) : Pk o n o.word := by
  cases o <;> cases n <;> first
    | exact .num _ _ _ _
    | exact .tru
    | exact .txt _ _
    | exact .row _ _ _ _
    | exact .may _ _
    | exact ho.nod.elim
    | exact ho.cho.elim
    | exact hn.nod.elim
    | exact hn.cho.elim
    | exact absurd h (by decide +kernel)
    | exact absurd h (show ("number" : Str) ≠ "truth" by decide +kernel)
    | exact absurd h (show ("number" : Str) ≠ "text" by decide +kernel)
    | exact absurd h (show ("number" : Str) ≠ "row" by decide +kernel)
    | exact absurd h (show ("number" : Str) ≠ "maybe" by decide +kernel)
    | exact absurd h (show ("truth" : Str) ≠ "number" by decide +kernel)
    | exact absurd h (show ("truth" : Str) ≠ "text" by decide +kernel)
    | exact absurd h (show ("truth" : Str) ≠ "row" by decide +kernel)
    | exact absurd h (show ("truth" : Str) ≠ "maybe" by decide +kernel)
    | exact absurd h (show ("text" : Str) ≠ "number" by decide +kernel)
    | exact absurd h (show ("text" : Str) ≠ "truth" by decide +kernel)
    | exact absurd h (show ("text" : Str) ≠ "row" by decide +kernel)
    | exact absurd h (show ("text" : Str) ≠ "maybe" by decide +kernel)
    | exact absurd h (show ("row" : Str) ≠ "number" by decide +kernel)
    | exact absurd h (show ("row" : Str) ≠ "truth" by decide +kernel)
    | exact absurd h (show ("row" : Str) ≠ "text" by decide +kernel)
    | exact absurd h (show ("row" : Str) ≠ "maybe" by decide +kernel)
    | exact absurd h (show ("maybe" : Str) ≠ "number" by decide +kernel)
    | exact absurd h (show ("maybe" : Str) ≠ "truth" by decide +kernel)
    | exact absurd h (show ("maybe" : Str) ≠ "text" by decide +kernel)
    | exact absurd h (show ("maybe" : Str) ≠ "row" by decide +kernel)
theorem is_may {s : So} (h : s.word = "maybe") : ∃ a, s = .may a := by
  cases e : s.isMay with
  | false => exact absurd h (word_may e)
  | true =>
    cases s with
    | may a => exact ⟨a, rfl⟩
    | _ => exact nomatch e
theorem not_may {s : So} (h : s.word ≠ "maybe") : s.isMay = false := by
  cases s with
  | may a => exact absurd rfl h
  | _ => rfl
theorem pk_of {o n : So} (ho : o.pl) (hn : n.pl) : Pk o n (pwS o n) := by
  unfold pwS
  by_cases h1 : o.word = n.word
  · rw [if_pos h1]
    exact pk_same ho hn h1
  · rw [if_neg h1]
    by_cases h2 : o.word = "maybe"
    · rw [if_pos h2]
      obtain ⟨a, rfl⟩ := is_may h2
      exact .force a n (not_may fun e => h1 (h2.trans e.symm))
    · rw [if_neg h2]
      by_cases h3 : n.word = "maybe"
      · rw [if_pos h3]
        obtain ⟨b, rfl⟩ := is_may h3
        exact .wrap o b (not_may h2)
      · rw [if_neg h3]
        exact .bad o n (not_may h2) (not_may h3) h1
def inO : So → So → So
  | .row _ a, .row _ _ => a
  | .may a, _ => a
  | o, _ => o
def inN : So → So → So
  | .row _ _, .row _ b => b
  | _, .may b => b
  | _, n => n
/-- why a thing is refused at its pair -/
def vf : So → So → PyData → Option Str
  | .num _ _, .num lo hi, .int x => if withinB x lo hi = true then none else some "bounds"
  | .txt _, .txt m, .str z => if (z.length : Int) > m then some "most" else none
  | .row _ _, .row m _, .tuple ds => if (ds.length : Int) > m then some "most" else none
  | .tru, .tru, _ => none
  | .may _, .may _, _ => none
  | .may _, _, d => if isNone d = true then some "nothing" else none
  | _, .may _, _ => none
  | _, _, _ => some "sort"
theorem vf_bad {o n : So} {d : PyData} (h1 : o.isMay = false) (h2 : n.isMay = false) (h3 : o.word ≠ n.word) : vf o n d = some "sort" := by
  cases o <;> cases n <;> first
    | exact absurd rfl h3
    | exact absurd h1 (show ¬ (true = false) by decide)
    | exact absurd h2 (show ¬ (true = false) by decide)
    | rfl
    | (cases d <;> rfl)
theorem vf_force {a n : So} {d : PyData} (h : n.isMay = false) : vf (.may a) n d = if isNone d = true then some "nothing" else none := by
  cases n <;> first
    | exact absurd h (show ¬ (true = false) by decide)
    | rfl
    | (cases d <;> rfl)
theorem vf_wrap {o b : So} {d : PyData} (h : o.isMay = false) : vf o (.may b) d = none := by
  cases o <;> first
    | exact absurd h (show ¬ (true = false) by decide)
    | rfl
    | (cases d <;> rfl)
theorem due_bad {o n : So} {rp : List PyData} {d : PyData} (h1 : o.isMay = false) (h2 : n.isMay = false) (h3 : o.word ≠ n.word) : due o n rp d = .ref rp "sort" := by
  cases o <;> cases n <;> first
    | exact absurd rfl h3
    | exact absurd h1 (show ¬ (true = false) by decide)
    | exact absurd h2 (show ¬ (true = false) by decide)
    | rfl
    | (cases d <;> rfl)
/-- what is refused for itself is refused -/
theorem due_vf {o n : So} {d : PyData} {rp : List PyData} {w x : Str} (k : Pk o n x) (ht : ThOk o d) (h : vf o n d = some w) : due o n rp d = .ref rp w := by
  cases k with
  | num a b c e =>
    cases d with
    | int z =>
      have h : (if withinB z c e = true then none else some ("bounds" : Str)) = some w := h
      show (if withinB z c e = true then Rs.told (.int z) else .ref rp "bounds") = _
      by_cases g : withinB z c e = true
      · rw [if_pos g] at h; cases h
      · rw [if_neg g] at h; cases h; rw [if_neg g]
    | _ => exact ht.elim
  | tru => cases h
  | txt a b =>
    cases d with
    | str z =>
      have h : (if (z.length : Int) > b then some ("most" : Str) else none) = some w := h
      show (if (z.length : Int) > b then Rs.ref rp "most" else .told (.str z)) = _
      by_cases g : (z.length : Int) > b
      · rw [if_pos g] at h; cases h; rw [if_pos g]
      · rw [if_neg g] at h; cases h
    | _ => exact ht.elim
  | row a s b t =>
    cases d with
    | tuple ds =>
      have h : (if (ds.length : Int) > b then some ("most" : Str) else none) = some w := h
      show (if (ds.length : Int) > b then Rs.ref rp "most" else _) = _
      by_cases g : (ds.length : Int) > b
      · rw [if_pos g] at h; cases h; rw [if_pos g]
      · rw [if_neg g] at h; cases h
    | _ => exact ht.elim
  | may a b => cases h
  | force a n hn =>
    rw [vf_force hn] at h
    show (if isNone d = true then (if n.isMay = true then Rs.told .none else .ref rp "nothing") else _) = _
    by_cases g : isNone d = true
    · rw [if_pos g] at h; cases h; rw [if_pos g, hn]; rfl
    · rw [if_neg g] at h; cases h
  | wrap o b ho =>
    rw [vf_wrap ho] at h
    cases h
  | bad o n h1 h2 h3 =>
    rw [vf_bad h1 h2 h3] at h
    cases h
    exact due_bad h1 h2 h3
end Tw
namespace Tw
open PySem PySem.Spec PyProof.Rows L2
/-- the pair's word decides what is due -/
theorem due_leaf {o n : So} {d : PyData} {rp : List PyData} {x : Str} (k : Pk o n x) (ht : ThOk o d) (h : vf o n d = none) (hx : x = "number" ∨ x = "truth" ∨ x = "text") : due o n rp d = .told d := by
  cases k with
  | num a b c e =>
    cases d with
    | int z =>
      have h : (if withinB z c e = true then none else some ("bounds" : Str)) = none := h
      show (if withinB z c e = true then Rs.told (.int z) else .ref rp "bounds") = _
      by_cases g : withinB z c e = true
      · rw [if_pos g]
      · rw [if_neg g] at h; cases h
    | _ => exact ht.elim
  | tru => rfl
  | txt a b =>
    cases d with
    | str z =>
      have h : (if (z.length : Int) > b then some ("most" : Str) else none) = none := h
      show (if (z.length : Int) > b then Rs.ref rp "most" else .told (.str z)) = _
      by_cases g : (z.length : Int) > b
      · rw [if_pos g] at h; cases h
      · rw [if_neg g]
    | _ => exact ht.elim
  | row a s b t => exact absurd hx (by decide +kernel)
  | may a b => exact absurd hx (by decide +kernel)
  | force a n hn => exact absurd hx (by decide +kernel)
  | wrap o b ho => exact absurd hx (by decide +kernel)
  | bad o n h1 h2 h3 => exact absurd hx (by decide +kernel)
theorem due_row {a b : Int} {s t : So} {ds : List PyData} {rp : List PyData} (h : vf (.row a s) (.row b t) (.tuple ds) = none) : due (.row a s) (.row b t) rp (.tuple ds) = rowEnd (rowDue (fun p e => due s t p e) rp 0 ds) := by
  have h : (if (ds.length : Int) > b then some ("most" : Str) else none) = none := h
  show (if (ds.length : Int) > b then Rs.ref rp "most" else rowEnd (rowDue (fun p e => due s t p e) rp 0 ds)) = _
  by_cases g : (ds.length : Int) > b
  · rw [if_pos g] at h; cases h
  · rw [if_neg g]
/-- enough has been made for what is to be done -/
def okN : List Jb → Nat → Prop
  | [], m => 1 ≤ m
  | .turn _ _ _ _ :: J, m => okN J (m + 1)
  | .row k :: J, m => k ≤ m ∧ okN J (m - k + 1)
theorem okN_turns {a b : So} {rp : List PyData} {J : List Jb} : ∀ {ds : List PyData} {k m : Nat}, okN J (m + ds.length) → okN (turns a b rp k ds ++ J) m
  | [], _, _, h => h
  | d :: r, k, m, h => by
    show okN (turns a b rp (k + 1) r ++ J) (m + 1)
    refine okN_turns ?_
    rw [List.length_cons] at h
    rw [show m + 1 + r.length = m + (r.length + 1) by omega]
    exact h
theorem okN_row {a b : So} {rp : List PyData} {J : List Jb} {ds : List PyData} {m : Nat} (h : okN J (m + 1)) : okN (turns a b rp 0 ds ++ .row ds.length :: J) m :=
  okN_turns (And.intro (Nat.le_add_left _ _) (by rw [Nat.add_sub_cancel]; exact h))
def JOk : Jb → Prop
  | .turn o n d rp => o.pl ∧ n.pl ∧ ThOk o d ∧ rp.length + o.depth ≤ 100
  | .row _ => True
theorem jok_turns {a b : So} {rp : List PyData} (ha : a.pl) (hb : b.pl) (hr : rp.length + 1 + a.depth ≤ 100) : ∀ {ds : List PyData} {k : Nat}, (∀ d ∈ ds, ThOk a d) → ∀ j ∈ turns a b rp k ds, JOk j
  | [], _, _, j, hj => nomatch hj
  | d :: r, k, h, j, hj => by
    rcases List.mem_cons.mp hj with rfl | hj
    · exact And.intro ha (And.intro hb (And.intro (h d List.mem_cons_self) hr))
    · exact jok_turns ha hb hr (fun e he => h e (List.mem_cons_of_mem _ he)) j hj
theorem turns_snoc {a b : So} {rp : List PyData} : ∀ {ds : List PyData} {k : Nat} {d : PyData}, turns a b rp k (ds ++ [d]) = turns a b rp k ds ++ [.turn a b d (.int ((k + ds.length : Nat) : Int) :: rp)]
  | [], k, d => rfl
  | e :: r, k, d => by
    show _ :: turns a b rp (k + 1) (r ++ [d]) = _ :: (turns a b rp (k + 1) r ++ _)
    rw [turns_snoc, List.length_cons, show k + 1 + r.length = k + (r.length + 1) by omega]
theorem turns_len {a b : So} {rp : List PyData} : ∀ {ds : List PyData} {k : Nat}, (turns a b rp k ds).length = ds.length
  | [], _ => rfl
  | _ :: r, _ => congrArg (· + 1) turns_len
end Tw
namespace Tw
open PySem PySem.Spec PyProof.Rows L2
theorem ThOk.num {a b : Option Int} {d : PyData} (h : ThOk (.num a b) d) : ∃ z, d = .int z := by
  cases d with
  | int z => exact ⟨z, rfl⟩
  | _ => exact h.elim
theorem ThOk.tru {d : PyData} (h : ThOk .tru d) : ∃ z, d = .bool z := by
  cases d with
  | bool z => exact ⟨z, rfl⟩
  | _ => exact h.elim
theorem ThOk.txt {n : Int} {d : PyData} (h : ThOk (.txt n) d) : ∃ z, d = .str z ∧ z.length ≤ 40 := by
  cases d with
  | str z => exact ⟨z, rfl, h⟩
  | _ => exact h.elim
theorem ThOk.row {n : Int} {s : So} {d : PyData} (h : ThOk (.row n s) d) : ∃ ds, d = .tuple ds ∧ ds.length ≤ 6 ∧ ∀ e ∈ ds, ThOk s e := by
  cases d with
  | tuple ds => exact ⟨ds, rfl, h⟩
  | _ => exact h.elim
theorem ThOk.may {s : So} {d : PyData} (h : ThOk (.may s) d) : d = .none ∨ ThOk s d := by
  cases d <;> exact h
end Tw
/-! TwY: the well of two numbers. -/
namespace Tw
open PySem PySem.Spec PyProof.Rows L2
def IsW2 (H : Hp) (a : Addr) : Prop := ∃ x y : Int, H a = some (.lst [.int x, .int y])
def Fv (a : Addr) (H H' : Hp) : Prop := (∀ b o, b ≠ a → H b = some o → H' b = some o) ∧ IsW2 H' a
theorem IsW2.same {H H' : Hp} {a : Addr} (h : IsW2 H a) (s : Same H H') : IsW2 H' a := by
  obtain ⟨x, y, e⟩ := h
  exact ⟨x, y, s _ _ e⟩
theorem Fv.refl {H : Hp} {a : Addr} (h : IsW2 H a) : Fv a H H := ⟨fun _ _ _ e => e, h⟩
theorem Fv.trans {a : Addr} {H H1 H2 : Hp} (f : Fv a H H1) (g : Fv a H1 H2) : Fv a H H2 := ⟨fun b o n e => g.1 b o n (f.1 b o n e), g.2⟩
theorem Fv.same {a : Addr} {H H1 H2 : Hp} (f : Fv a H H1) (g : Same H1 H2) : Fv a H H2 := ⟨fun b o n e => g b o (f.1 b o n e), f.2.same g⟩
theorem Fv.of_same {a : Addr} {H H1 : Hp} (h : IsW2 H a) (g : Same H H1) : Fv a H H1 := (Fv.refl h).same g
theorem Fv.free {a : Addr} {H H' : Hp} (f : Fv a H H') {p : Addr} (e : H' p = none) : H p = none := by
  cases q : H p with
  | none => rfl
  | some o =>
    by_cases hp : p = a
    · subst hp
      obtain ⟨_, _, z⟩ := f.2
      rw [z] at e
      cases e
    · rw [f.1 p o hp q] at e
      cases e
theorem IsW2.ne {H : Hp} {a p : Addr} (h : IsW2 H a) (e : H p = none) : p ≠ a := fun q => by
  obtain ⟨_, _, z⟩ := h
  rw [q, z] at e
  cases e
theorem Fv.keepT {K : PySem.W.Frag} {a : Addr} {H H' : Hp} (f : Fv a H H') (w : IsW2 H a) : KeepT K H H' := KeepT.but fun b o e => by
  obtain ⟨x, y, hw⟩ := w
  have nb : o ≠ .lst [.int x, .int y] → b ≠ a := fun n q => by
    rw [q, hw] at e
    exact n (Option.some.inj e).symm
  exact ⟨fun xs q => f.1 b o (nb (by rw [q]; intro h; cases h)) e, fun _ xs q => f.1 b o (nb (by rw [q]; intro h; cases h)) e⟩
def spDraw2 : Sp := fun vs H Q _ => ∃ (a : Addr) (m : Int), vs = [.ref a, .int m] ∧ IsW2 H a ∧ 0 < m ∧ m.natAbs < 2 ^ 250 ∧ ∀ (r : Int) (H' : Hp), 0 ≤ r → r < m → Fv a H H' → Q (.int r) H'
end Tw
namespace Tw
open PySem PySem.Spec PyProof.Rows L2
theorem may_pl {s : So} (h : s.pl) (hm : s.isMay = false) : (So.may s).pl := by
  refine And.intro rfl ?_
  cases s with
  | may t => exact absurd hm (show ¬ (true = false) by decide)
  | _ => exact h
theorem row_pl {n : Int} {s : So} (h : s.pl) (h0 : 0 ≤ n) (h1 : n ≤ 20) : (So.row n s).pl := And.intro h0 (And.intro h1 h)
end Tw
namespace Tw
open PySem PySem.Spec PyProof.Rows L2
theorem fv_put {a D : Addr} {H H' : Hp} {o : HO} (f : Fv a H H') (n : D ≠ a) (h : H D = none) : Fv a H (upd H' D o) := by
  refine ⟨fun b u nb e => ?_, ?_⟩
  · rw [upd_ne (ne_of_none e h)]
    exact f.1 b u nb e
  · obtain ⟨x, y, e⟩ := f.2
    exact ⟨x, y, by rw [upd_ne n.symm]; exact e⟩
/-- a thing of a sort -/
def ThIn : So → PyData → Prop
  | .num lo hi, .int x => withinB x lo hi = true
  | .tru, .bool _ => True
  | .txt m, .str z => (z.length : Int) ≤ m ∧ z.length ≤ 40
  | .row m s, .tuple ds => (ds.length : Int) ≤ m ∧ ds.length ≤ 6 ∧ ∀ d ∈ ds, ThIn s d
  | .may s, d => d = .none ∨ ThIn s d
  | _, _ => False
theorem ThIn.ok : ∀ {s : So} {d : PyData}, ThIn s d → ThOk s d
  | .num _ _, .int _, _ => True.intro
  | .tru, .bool _, _ => True.intro
  | .txt _, .str _, h => h.2
  | .row _ _, .tuple _, h => And.intro h.2.1 fun e he => ThIn.ok (h.2.2 e he)
  | .may s, d, h => by
    have h : d = .none ∨ ThIn s d := by cases d <;> exact h
    have g : d = .none ∨ ThOk s d := h.imp_right fun h => ThIn.ok h
    cases d <;> exact g
theorem rowDue_self {f : List PyData → PyData → Rs} {rp : List PyData} : ∀ {ds : List PyData} {k : Nat}, (∀ d ∈ ds, ∀ p, f p d = .told d) → rowDue f rp k ds = .inl ds
  | [], _, _ => rfl
  | d :: r, k, h => by
    unfold rowDue
    rw [h d List.mem_cons_self, rowDue_self fun e he => h e (List.mem_cons_of_mem _ he)]
theorem isNone_eq {d : PyData} (h : isNone d = true) : d = .none := by
  cases d <;> first | rfl | cases h
theorem due_self : ∀ {s : So} {d : PyData} {rp : List PyData}, s.pl → ThIn s d → due s s rp d = .told d
  | .num lo hi, .int x, rp, _, h => if_pos h
  | .tru, .bool _, _, _, _ => rfl
  | .txt m, .str z, rp, _, h => if_neg (by have := h.1; omega)
  | .row m s, .tuple ds, rp, p, h => by
    show (if (ds.length : Int) > m then Rs.ref rp "most" else rowEnd (rowDue (fun p e => due s s p e) rp 0 ds)) = _
    rw [if_neg (by have := h.1; omega), rowDue_self fun e he q => due_self p.row.1 (h.2.2 e he)]
    rfl
  | .may s, d, rp, p, h => by
    have h : d = .none ∨ ThIn s d := by cases d <;> exact h
    show (if isNone d = true then Rs.told .none else due s s (insideD :: rp) d) = _
    by_cases g : isNone d = true
    · rw [if_pos g, isNone_eq g]
    · rw [if_neg g]
      exact due_self p.may.1 (h.resolve_left fun e => g (by rw [e]; rfl))
theorem within_of {v : Int} {lo hi : Option Int} (h1 : ∀ x, lo = some x → x ≤ v) (h2 : ∀ y, hi = some y → v ≤ y) : withinB v lo hi = true := by
  unfold withinB
  rw [Bool.and_eq_true]
  constructor
  · cases lo with
    | none => rfl
    | some x => exact decide_eq_true (h1 x rfl)
  · cases hi with
    | none => rfl
    | some x => exact decide_eq_true (h2 x rfl)
end Tw
/-! TgV: things with cases (a case, as data: a list of its word and its content), turned: what is due, and the jobs that do it. -/
namespace Tw
open PySem PySem.Spec PyProof.Rows L2
abbrev Ch := Str → List En
def caseP (w : Str) (c : PyData) : PyData := .list [.str w, c]
def caseS (w : Str) : PyData := .tuple [.str "case", .str w]
def enName (es : List En) (w : Str) : Option En := es.find? fun e => decide (e.name = w)
def enNum (es : List En) (k : Int) : Option En := es.find? fun e => decide (e.num = k)
def enRead (es : List En) (k : Int) : Option En := match enNum es k with
  | some f => some f
  | none => enNum es 0
def caseC (rec : So → So → List PyData → PyData → Rs) (eo en : List En) (rp : List PyData) (w : Str) (c : PyData) : Rs := match enName eo w with
  | none => .ref rp "case"
  | some e => match enRead en e.num with
    | none => .ref rp "case"
    | some f => match f.of with
      | none => .told (caseP f.name .none)
      | some ni => match e.of with
        | none => .ref rp "sort"
        | some oi => match rec oi ni (caseS f.name :: rp) c with
          | .told v => .told (caseP f.name v)
          | .ref p x => .ref p x
def dueX (rec : So → So → List PyData → PyData → Rs) (TO TN : Ch) : So → So → List PyData → PyData → Rs
  | .may a, n, rp, d => if isNone d = true then (if n.isMay = true then .told .none else .ref rp "nothing") else dueX rec TO TN a n.strip (insideD :: rp) d
  | .num _ _, n, rp, d => match n.strip, d with
    | .num lo hi, .int x => if withinB x lo hi = true then .told d else .ref rp "bounds"
    | _, _ => .ref rp "sort"
  | .tru, n, rp, d => match n.strip with
    | .tru => .told d
    | _ => .ref rp "sort"
  | .txt _, n, rp, d => match n.strip, d with
    | .txt m, .str z => if (z.length : Int) > m then .ref rp "most" else .told d
    | _, _ => .ref rp "sort"
  | .row _ a, n, rp, d => match n.strip, d with
    | .row m b, .tuple ds => if (ds.length : Int) > m then .ref rp "most" else rowEnd (rowDue (fun p e => dueX rec TO TN a b p e) rp 0 ds)
    | _, _ => .ref rp "sort"
  | .cho a, n, rp, d => match n.strip, d with
    | .cho b, .list [.str w, c] => caseC rec (TO a) (TN b) rp w c
    | _, _ => .ref rp "sort"
  | .nod _, _, rp, _ => .ref rp "sort"
def dueF (TO TN : Ch) : Nat → So → So → List PyData → PyData → Rs
  | 0 => fun _ _ rp _ => .ref rp "sort"
  | k + 1 => dueX (dueF TO TN k) TO TN
def ThX (rec : So → PyData → Prop) (TO : Ch) : So → PyData → Prop
  | .num _ _, .int _ => True
  | .tru, .bool _ => True
  | .txt _, .str z => z.length ≤ 40
  | .row _ s, .tuple ds => ds.length ≤ 6 ∧ ∀ d ∈ ds, ThX rec TO s d
  | .may s, d => d = .none ∨ ThX rec TO s d
  | .cho a, .list [.str w, c] => ∃ e, enName (TO a) w = some e ∧ ((e.of = none ∧ c = .none) ∨ ∃ s, e.of = some s ∧ rec s c)
  | _, _ => False
def ThF (TO : Ch) : Nat → So → PyData → Prop
  | 0 => fun _ _ => False
  | k + 1 => ThX (ThF TO k) TO
section
variable {r1 r2 : So → PyData → Prop} {TO TN : Ch}
theorem ThX.may {s : So} {d : PyData} (h : ThX r1 TO (.may s) d) : d = .none ∨ ThX r1 TO s d := by
  cases d <;> exact h
theorem ThX.num {a b : Option Int} {d : PyData} (h : ThX r1 TO (.num a b) d) : ∃ z, d = .int z := by
  cases d with
  | int z => exact ⟨z, rfl⟩
  | _ => exact h.elim
theorem ThX.tru {d : PyData} (h : ThX r1 TO .tru d) : ∃ z, d = .bool z := by
  cases d with
  | bool z => exact ⟨z, rfl⟩
  | _ => exact h.elim
theorem ThX.txt {n : Int} {d : PyData} (h : ThX r1 TO (.txt n) d) : ∃ z, d = .str z ∧ z.length ≤ 40 := by
  cases d with
  | str z => exact ⟨z, rfl, h⟩
  | _ => exact h.elim
theorem ThX.row {n : Int} {s : So} {d : PyData} (h : ThX r1 TO (.row n s) d) : ∃ ds, d = .tuple ds ∧ ds.length ≤ 6 ∧ ∀ e ∈ ds, ThX r1 TO s e := by
  cases d with
  | tuple ds => exact ⟨ds, rfl, h⟩
  | _ => exact h.elim
theorem ThX.cho {a : Str} {d : PyData} (h : ThX r1 TO (.cho a) d) : ∃ w c e, d = caseP w c ∧ enName (TO a) w = some e ∧ ((e.of = none ∧ c = .none) ∨ ∃ s, e.of = some s ∧ r1 s c) := by
  cases d with
  | list ds =>
    rcases ds with _ | ⟨x, _ | ⟨c, _ | ⟨y, r⟩⟩⟩
    · exact h.elim
    · cases x <;> exact h.elim
    · cases x with
      | str w =>
        obtain ⟨e, h⟩ := h
        exact ⟨w, c, e, rfl, h⟩
      | _ => exact h.elim
    · cases x <;> exact h.elim
  | _ => exact h.elim
theorem ThX.mono (k : ∀ s c, r1 s c → r2 s c) : ∀ {o : So} {d : PyData}, ThX r1 TO o d → ThX r2 TO o d
  | .num _ _, d, h => by obtain ⟨z, rfl⟩ := h.num; exact True.intro
  | .tru, d, h => by obtain ⟨z, rfl⟩ := h.tru; exact True.intro
  | .txt _, d, h => by obtain ⟨z, rfl, h⟩ := h.txt; exact h
  | .row _ s, d, h => by obtain ⟨ds, rfl, h1, h2⟩ := h.row; exact And.intro h1 fun e he => ThX.mono k (h2 e he)
  | .may s, d, h => by
    have g : d = .none ∨ ThX r2 TO s d := h.may.imp_right fun h => ThX.mono k h
    cases d <;> exact g
  | .cho a, d, h => by
    obtain ⟨w, c, e, rfl, h1, h2⟩ := h.cho
    exact ⟨e, h1, h2.imp_right fun ⟨s, g1, g2⟩ => ⟨s, g1, k s c g2⟩⟩
  | .nod _, d, h => by cases d <;> exact h.elim
theorem ThF.succ : ∀ {k : Nat} {o : So} {d : PyData}, ThF TO k o d → ThF TO (k + 1) o d
  | 0, _, _, h => h.elim
  | k + 1, _, _, h => ThX.mono (fun s c h => ThF.succ h) h
theorem rowDue_congr {f g : List PyData → PyData → Rs} {rp : List PyData} : ∀ {ds : List PyData} {k : Nat}, (∀ d ∈ ds, ∀ p, f p d = g p d) → rowDue f rp k ds = rowDue g rp k ds
  | [], _, _ => rfl
  | d :: r, k, h => by
    unfold rowDue
    rw [h d List.mem_cons_self, rowDue_congr fun e he => h e (List.mem_cons_of_mem _ he)]
theorem dueX_congr {q1 q2 : So → So → List PyData → PyData → Rs} (k : ∀ s c n rp, r1 s c → q1 s n rp c = q2 s n rp c) : ∀ {o n : So} {rp : List PyData} {d : PyData}, ThX r1 TO o d → dueX q1 TO TN o n rp d = dueX q2 TO TN o n rp d
  | .num _ _, n, rp, d, h => rfl
  | .tru, n, rp, d, h => rfl
  | .txt _, n, rp, d, h => rfl
  | .nod _, n, rp, d, h => rfl
  | .row _ s, n, rp, d, h => by
    obtain ⟨ds, rfl, _, h2⟩ := h.row
    unfold dueX
    cases n.strip with
    | row m b =>
      show (if (ds.length : Int) > m then Rs.ref rp "most" else rowEnd (rowDue (fun p e => dueX q1 TO TN s b p e) rp 0 ds)) = (if (ds.length : Int) > m then Rs.ref rp "most" else rowEnd (rowDue (fun p e => dueX q2 TO TN s b p e) rp 0 ds))
      rw [rowDue_congr (g := fun p e => dueX q2 TO TN s b p e) fun e he p => dueX_congr k (h2 e he)]
    | _ => rfl
  | .may s, n, rp, d, h => by
    show (if isNone d = true then (if n.isMay = true then Rs.told .none else .ref rp "nothing") else dueX q1 TO TN s n.strip (insideD :: rp) d) = (if isNone d = true then (if n.isMay = true then Rs.told .none else .ref rp "nothing") else dueX q2 TO TN s n.strip (insideD :: rp) d)
    by_cases g : isNone d = true
    · rw [if_pos g, if_pos g]
    · rw [if_neg g, if_neg g]
      exact dueX_congr k (h.may.resolve_left fun e => g (by rw [e] <;> rfl))
  | .cho a, n, rp, d, h => by
    obtain ⟨w, c, e, rfl, h1, h2⟩ := h.cho
    show (match n.strip, caseP w c with | .cho b, .list [.str w, c] => caseC q1 (TO a) (TN b) rp w c | _, _ => .ref rp "sort") = (match n.strip, caseP w c with | .cho b, .list [.str w, c] => caseC q2 (TO a) (TN b) rp w c | _, _ => .ref rp "sort")
    cases n.strip with
    | cho b =>
      show caseC q1 (TO a) (TN b) rp w c = caseC q2 (TO a) (TN b) rp w c
      unfold caseC
      rw [h1]
      dsimp only
      cases enRead (TN b) e.num with
      | none => rfl
      | some f =>
        dsimp only
        cases f.of with
        | none => rfl
        | some ni =>
          dsimp only
          rcases h2 with ⟨h2, _⟩ | ⟨s, h2, h3⟩
          · rw [h2]
          · rw [h2]
            dsimp only
            rw [k s c ni _ h3]
    | _ => rfl
theorem dueF_succ : ∀ {k : Nat} {o n : So} {rp : List PyData} {d : PyData}, ThF TO k o d → dueF TO TN k o n rp d = dueF TO TN (k + 1) o n rp d
  | 0, _, _, _, _, h => h.elim
  | k + 1, _, _, _, _, h => dueX_congr (r1 := ThF TO k) (fun s c n rp h => dueF_succ h) h
end
/-- far enough -/
def dueC (TO TN : Ch) : So → So → List PyData → PyData → Rs := dueF TO TN 12
def ThC (TO : Ch) : So → PyData → Prop := ThF TO 12
theorem ThC.in_ {TO : Ch} {s : So} {c : PyData} (h : ThF TO 11 s c) : ThC TO s c := ThF.succ h
theorem dueC_x {TO TN : Ch} {o n : So} {rp : List PyData} {d : PyData} (h : ThC TO o d) : dueC TO TN o n rp d = dueX (dueC TO TN) TO TN o n rp d := dueX_congr (r1 := ThF TO 11) (fun s c n rp h => dueF_succ h) h
/-! jobs -/
inductive Jc
  | turn (o n : So) (d : PyData) (rp : List PyData)
  | row (k : Nat)
  | cas (w : Str)
def Jc.pd : Jc → PyData
  | .turn o n d rp => .tuple [.str "turn", .tuple [o.pd, n.pd], d, wayR rp]
  | .row k => .tuple [.str "row", .int (k : Int)]
  | .cas w => .tuple [.str "case", .str w]
def evc (TO TN : Ch) : List Jc → List PyData → Rs
  | [], m => endOf m
  | .turn o n d rp :: J, m => match dueC TO TN o n rp d with
    | .told v => evc TO TN J (m ++ [v])
    | .ref p w => .ref p w
  | .row k :: J, m => evc TO TN J (m.take (m.length - k) ++ [.tuple (m.drop (m.length - k))])
  | .cas w :: J, m => evc TO TN J (m.dropLast ++ [caseP w (m.getLastD .none)])
def turnsC (a b : So) (rp : List PyData) : Nat → List PyData → List Jc
  | _, [] => []
  | k, d :: r => .turn a b d (.int (k : Int) :: rp) :: turnsC a b rp (k + 1) r
section
variable {TO TN : Ch}
theorem evc_turns {a b : So} {rp : List PyData} {J : List Jc} : ∀ (ds : List PyData) (k : Nat) (m : List PyData), evc TO TN (turnsC a b rp k ds ++ J) m = match rowDue (fun p e => dueC TO TN a b p e) rp k ds with
    | .inl vs => evc TO TN J (m ++ vs)
    | .inr e => .ref e.1 e.2
  | [], k, m => by
    show evc TO TN J m = evc TO TN J (m ++ [])
    rw [List.append_nil]
  | d :: r, k, m => by
    show (match dueC TO TN a b (.int (k : Int) :: rp) d with | .told v => evc TO TN (turnsC a b rp (k + 1) r ++ J) (m ++ [v]) | .ref p w => .ref p w) = _
    unfold rowDue
    cases hd : dueC TO TN a b (.int (k : Int) :: rp) d with
    | ref p w => rfl
    | told v =>
      show evc TO TN (turnsC a b rp (k + 1) r ++ J) (m ++ [v]) = _
      rw [evc_turns r (k + 1)]
      cases rowDue (fun p e => dueC TO TN a b p e) rp (k + 1) r with
      | inr e => rfl
      | inl vs =>
        show evc TO TN J (m ++ [v] ++ vs) = evc TO TN J (m ++ v :: vs)
        rw [List.append_assoc]
        rfl
theorem evc_row {a b : So} {rp : List PyData} {J : List Jc} {m ds : List PyData} : evc TO TN (turnsC a b rp 0 ds ++ .row ds.length :: J) m = match rowEnd (rowDue (fun p e => dueC TO TN a b p e) rp 0 ds) with
    | .told v => evc TO TN J (m ++ [v])
    | .ref p w => .ref p w := by
  rw [evc_turns]
  cases h : rowDue (fun p e => dueC TO TN a b p e) rp 0 ds with
  | inr e => rfl
  | inl vs =>
    have hl := rowDue_len h
    show evc TO TN J ((m ++ vs).take ((m ++ vs).length - ds.length) ++ [.tuple ((m ++ vs).drop ((m ++ vs).length - ds.length))]) = evc TO TN J (m ++ [.tuple vs])
    rw [List.length_append, hl, Nat.add_sub_cancel, List.take_left, List.drop_left]
theorem evc_cas {o n : So} {d : PyData} {rp : List PyData} {w : Str} {J : List Jc} {m : List PyData} : evc TO TN (.turn o n d rp :: .cas w :: J) m = match dueC TO TN o n rp d with
    | .told v => evc TO TN J (m ++ [caseP w v])
    | .ref p x => .ref p x := by
  show (match dueC TO TN o n rp d with | .told v => evc TO TN (.cas w :: J) (m ++ [v]) | .ref p x => .ref p x) = _
  cases dueC TO TN o n rp d with
  | ref p x => rfl
  | told v =>
    show evc TO TN J ((m ++ [v]).dropLast ++ [caseP w ((m ++ [v]).getLastD .none)]) = _
    rw [List.dropLast_concat, List.getLastD_concat]
end
mutual
def wt : PyData → Nat
  | .tuple ds => 2 + wtL ds
  | .list ds => 2 + wtL ds
  | _ => 1
def wtL : List PyData → Nat
  | [] => 0
  | d :: r => wt d + 2 + wtL r
end
def b01 (b : Bool) : Nat := if b = true then 1 else 0
theorem b01_le {b : Bool} : b01 b ≤ 1 := by cases b <;> decide
def Jc.w : Jc → Nat
  | .turn o n d _ => wt d + b01 o.isMay + b01 n.isMay
  | .row _ => 1
  | .cas _ => 1
def wtsC (J : List Jc) : Nat := (J.map Jc.w).sum
theorem wt_pos : ∀ d : PyData, 1 ≤ wt d := fun d => by
  unfold wt
  split <;> omega
theorem wt_case {w : Str} {c : PyData} : wt (caseP w c) = wt c + 7 := by
  have e : wt (caseP w c) = 2 + (wt (.str w) + 2 + (wt c + 2 + 0)) := by unfold caseP; rw [wt, wtL, wtL, wtL]
  have e2 : wt (.str w) = 1 := rfl
  omega
theorem wtsC_app (J L : List Jc) : wtsC (J ++ L) = wtsC J + wtsC L := by
  unfold wtsC
  rw [List.map_append, List.sum_append]
theorem wtsC_turns {a b : So} {rp : List PyData} : ∀ {ds : List PyData} {k : Nat}, wtsC (turnsC a b rp k ds) ≤ wtL ds
  | [], _ => Nat.zero_le _
  | d :: r, k => by
    have ih := wtsC_turns (a := a) (b := b) (rp := rp) (ds := r) (k := k + 1)
    have h1 := b01_le (b := a.isMay)
    have h2 := b01_le (b := b.isMay)
    have e : wtL (d :: r) = wt d + 2 + wtL r := by rw [wtL]
    show (wt d + b01 a.isMay + b01 b.isMay) + wtsC (turnsC a b rp (k + 1) r) ≤ _
    omega
theorem wtL_mem : ∀ {ds : List PyData} {d : PyData}, d ∈ ds → wt d + 2 ≤ wtL ds
  | [], _, h => nomatch h
  | e :: r, d, h => by
    have q : wtL (e :: r) = wt e + 2 + wtL r := by rw [wtL]
    rcases List.mem_cons.mp h with rfl | h
    · omega
    · have := wtL_mem h
      omega
theorem len_wtsC : ∀ J : List Jc, J.length ≤ wtsC J
  | [] => Nat.le_refl _
  | j :: J => by
    have ih := len_wtsC J
    have h1 : 1 ≤ j.w := by
      cases j with
      | row k => exact Nat.le_refl _
      | cas k => exact Nat.le_refl _
      | turn o n d rp =>
        have := wt_pos d
        show 1 ≤ wt d + _ + _
        omega
    show J.length + 1 ≤ j.w + wtsC J
    omega
end Tw
/-! TwA2: o.m() that may raise; an instance made of positional arguments. -/
namespace Tw
open PySem PySem.Spec PyProof.Rows L2 Sb
section
variable {X : Cx} {CX : CXT} {k j : Nat} {f C : Addr} {fd : FuncData} {ps : List Str} {sp : Sp} {E : L2.St → XK} {x m : Str} {p pos apos : Pos} {e o : Expr} {es : List Expr} {to : TE} {t : TA}
theorem pe_methA0 {pl : Sem Bool} (ho : PE X o to) (c : Cls X.K C) (hm : Meth X.K C m f) (F : FnOk X.prog X.w X.K X.mg X.base CX k f fd ps sp) (hr : Room k X.A) (hb : Binds X.K fd ps []) (hx : ∀ σ, PassesAt CX X σ (E σ))
    (ht : eval (.Call (.Attribute o m apos) [] [] pos) X.env = (do
      let ov ← eval o X.env
      standAt apos.atName
      let (f, first) ← holding [ov] (getMethod ov m pl)
      callWith pos f first (backTo pos (starEach [] X.env)) (backToKw pos (keywordEach [] X.env))) := by rfl) :
    PE X (.Call (.Attribute o m apos) [] [] pos) (tMethA C m sp E to tNil) := by
  refine ⟨fun pins s σ H Q I h => ?_⟩
  refine PySem.W.methodCall_KW (pl := pl) (thn (ho.run pins s σ H _ I h) fun u s1 ⟨y, H1, I1, ry, a, dx, fs, ex, ea, l, q⟩ => ?_) ht
  subst ex
  obtain rfl : u = Value.ref a := ry
  refine getmeth_ok I1 ea c hm l ?_
  exact PySem.W.callWith_K0 (first := [.ref a]) I1.kIn hm.kp (run_fnS (us := [.ref a]) (vs := [.ref a]) F hr hb (hx σ) I1 (.cons rfl .nil) q)
theorem pe_mcalX0 {W : WX} {pl : Sem Bool} (M : MCalX X.prog X.w X.K X.mg X.base C k m ps sp) (c : Cls X.K C) (hr : Room j X.A) (hk : k ≤ j) (tk : Takes X W) (ho : PE X o to)
    (ht : eval (.Call (.Attribute o m apos) [] [] pos) X.env = (do
      let ov ← eval o X.env
      standAt apos.atName
      let (f, first) ← holding [ov] (getMethod ov m pl)
      callWith pos f first (backTo pos (starEach [] X.env)) (backToKw pos (keywordEach [] X.env))) := by rfl) : PE X (.Call (.Attribute o m apos) [] [] pos) (tMethA C m sp (WE W) to tNil) := by
  obtain ⟨f, fd, hm, F, b⟩ := M.ex
  exact pe_methA0 ho c hm F (hr.mono hk) b (fun σ => passAt tk σ) ht
end
/-- C(a, ..): C's __init__ with self and more -/
structure MkP (P : Program) (w : World) (K : PySem.W.Frag) (mg : Str → Option Value) (base : Heap) (C : Addr) (k : Nat) (x : Str) (ps : List Str) (sp : Sp) : Prop where
  ex : ∃ (f : Addr) (fd : FuncData), Mk K C f ∧ FnOk P w K mg base CX0 k f fd ps sp ∧ Binds K fd ps []
  gC : mg x = some (.ref C)
theorem pe_mkP {X : Cx} {C : Addr} {k j : Nat} {x : Str} {ps : List Str} {sp : Sp} {e : Expr} {es : List Expr} {t : TA} {p pos : Pos} (M : MkP X.prog X.w X.K X.mg X.base C k x ps sp) (hr : Room j X.A) (hk : k + 1 ≤ j) (hg : Gl X x) (ha : PA X (e :: es) t)
    (hdb : (x == ("__debug__" : Str)) = false := by decide) (he : starEach (e :: es) X.env = (false, eval e X.env) :: starEach es X.env := by rfl) (hpl : (backTo pos (starEach es X.env)).any (·.1) = false := by rfl) :
    PE X (.Call (.Name x p) (e :: es) [] pos) (tMake C sp [] E0 t) := by
  obtain ⟨f, fd, Mk, F, b⟩ := M.ex
  exact pe_make Mk F (hr.mono hk) hg M.gC b .nil pass0 ha hdb he hpl
theorem mkP_mk {P : Program} {w : World} {K : PySem.W.Frag} {mg : Str → Option Value} {base h : Heap} {C : Addr} {q x : Str} {st : Stmt} {ps : List Str} {k : Nat} {sp : Sp} (X : K.In h) (G : h.Ns mainGlobals mg) (g : PySem.W.nsIn K mainGlobals x = some (some (.ref C))) (D : MethIn K C "__init__" q st) (mk : PySem.W.makesIn K C = true) (kc : PySem.W.keepIn K (.ref C) = true)
    (b : ∀ (kV doc pm : Value) (an : Option Addr) (cdv ct : Value) (us : List Value), us.length = ps.length → bindArgs (PySem.W.fnOf "__init__" q (defArgs st) (defBody st) (defScope st) .none kV doc pm an cdv ct) ⟨us, []⟩ = pure (ps.zip us))
    (ok : ∀ (f : Addr) (fd : FuncData), Fun K "__init__" q st f fd → FnOk P w K mg base CX0 k f fd ps sp) : MkP P w K mg base C k x ps sp := by
  obtain ⟨f, oc, od, an, osl, kV, dc, pm, cd, ct, a, i, l, c, kp⟩ := D
  have F := fun_mk (st := st) l c kp
  exact ⟨⟨f, _, ⟨mk, a, i, kc⟩, ok f _ F, F.binds b⟩, PySem.W.mg_of X G g⟩
end Tw
/-! TgA: pairs of sorts with choices; what is refused at once; what a case is in the heap. -/
namespace Tw
open PySem PySem.Spec PyProof.Rows L2
def So.okc (s : So) : Prop := ∃ cs, s.ok [] cs false
theorem So.okc.may {s : So} (h : (So.may s).okc) : s.okc ∧ s.isMay = false := by
  obtain ⟨cs, h⟩ := h
  have h : false = false ∧ s.ok [] cs true := h
  refine ⟨⟨cs, ok_weak h.2⟩, ?_⟩
  cases s with
  | may t => exact nomatch (show true = false ∧ _ from h.2).1
  | _ => rfl
theorem So.okc.row {n : Int} {s : So} (h : (So.row n s).okc) : s.okc ∧ 0 ≤ n ∧ n ≤ 20 := by
  obtain ⟨cs, h⟩ := h
  have h : 0 ≤ n ∧ n ≤ 20 ∧ s.ok [] cs false := h
  exact ⟨⟨cs, h.2.2⟩, h.1, h.2.1⟩
theorem So.okc.nod {k : Str} (h : (So.nod k).okc) : False := by
  obtain ⟨cs, h⟩ := h
  have h : isNm k = true ∧ k ∈ ([] : List Str) := h
  exact nomatch h.2
theorem So.okc.strip {s : So} (h : s.okc) : s.strip.okc ∧ s.strip.isMay = false := by
  cases s with
  | may t => exact h.may
  | num a b => exact ⟨h, rfl⟩
  | tru => exact ⟨h, rfl⟩
  | txt n => exact ⟨h, rfl⟩
  | row n t => exact ⟨h, rfl⟩
  | cho k => exact ⟨h, rfl⟩
  | nod k => exact h.nod.elim
inductive Pkc : So → So → Str → Prop
  | num (a b c d : Option Int) : Pkc (.num a b) (.num c d) "number"
  | tru : Pkc .tru .tru "truth"
  | txt (a b : Int) : Pkc (.txt a) (.txt b) "text"
  | row (a : Int) (s : So) (b : Int) (t : So) : Pkc (.row a s) (.row b t) "row"
  | cho (a b : Str) : Pkc (.cho a) (.cho b) "choice"
  | may (a b : So) : Pkc (.may a) (.may b) "maybe"
  | force (a n : So) : n.isMay = false → Pkc (.may a) n "force"
  | wrap (o b : So) : o.isMay = false → Pkc o (.may b) "wrap"
  | bad (o n : So) : o.isMay = false → n.isMay = false → o.word ≠ n.word → Pkc o n "bad"
theorem wne {a b : Str} (h : a = b) (k : a ≠ b) {p : Prop} : p := absurd h k
theorem pkc_same {o n : So} (ho : o.okc) (hn : n.okc) (h : o.word = n.word) : Pkc o n o.word := by
  cases o with
  | nod k => exact ho.nod.elim
  | num a b =>
    cases n with
    | num c d => exact .num _ _ _ _
    | nod k => exact hn.nod.elim
    | tru => exact wne h (show ("number" : Str) ≠ "truth" by decide +kernel)
    | txt m => exact wne h (show ("number" : Str) ≠ "text" by decide +kernel)
    | row m s => exact wne h (show ("number" : Str) ≠ "row" by decide +kernel)
    | cho c => exact wne h (show ("number" : Str) ≠ "choice" by decide +kernel)
    | may s => exact wne h (show ("number" : Str) ≠ "maybe" by decide +kernel)
  | tru =>
    cases n with
    | tru => exact .tru
    | nod k => exact hn.nod.elim
    | num c d => exact wne h (show ("truth" : Str) ≠ "number" by decide +kernel)
    | txt m => exact wne h (show ("truth" : Str) ≠ "text" by decide +kernel)
    | row m s => exact wne h (show ("truth" : Str) ≠ "row" by decide +kernel)
    | cho c => exact wne h (show ("truth" : Str) ≠ "choice" by decide +kernel)
    | may s => exact wne h (show ("truth" : Str) ≠ "maybe" by decide +kernel)
  | txt k =>
    cases n with
    | txt m => exact .txt _ _
    | nod k => exact hn.nod.elim
    | num c d => exact wne h (show ("text" : Str) ≠ "number" by decide +kernel)
    | tru => exact wne h (show ("text" : Str) ≠ "truth" by decide +kernel)
    | row m s => exact wne h (show ("text" : Str) ≠ "row" by decide +kernel)
    | cho c => exact wne h (show ("text" : Str) ≠ "choice" by decide +kernel)
    | may s => exact wne h (show ("text" : Str) ≠ "maybe" by decide +kernel)
  | row k t =>
    cases n with
    | row m s => exact .row _ _ _ _
    | nod k => exact hn.nod.elim
    | num c d => exact wne h (show ("row" : Str) ≠ "number" by decide +kernel)
    | tru => exact wne h (show ("row" : Str) ≠ "truth" by decide +kernel)
    | txt m => exact wne h (show ("row" : Str) ≠ "text" by decide +kernel)
    | cho c => exact wne h (show ("row" : Str) ≠ "choice" by decide +kernel)
    | may s => exact wne h (show ("row" : Str) ≠ "maybe" by decide +kernel)
  | cho k =>
    cases n with
    | cho c => exact .cho _ _
    | nod k => exact hn.nod.elim
    | num c d => exact wne h (show ("choice" : Str) ≠ "number" by decide +kernel)
    | tru => exact wne h (show ("choice" : Str) ≠ "truth" by decide +kernel)
    | txt m => exact wne h (show ("choice" : Str) ≠ "text" by decide +kernel)
    | row m s => exact wne h (show ("choice" : Str) ≠ "row" by decide +kernel)
    | may s => exact wne h (show ("choice" : Str) ≠ "maybe" by decide +kernel)
  | may t =>
    cases n with
    | may s => exact .may _ _
    | nod k => exact hn.nod.elim
    | num c d => exact wne h (show ("maybe" : Str) ≠ "number" by decide +kernel)
    | tru => exact wne h (show ("maybe" : Str) ≠ "truth" by decide +kernel)
    | txt m => exact wne h (show ("maybe" : Str) ≠ "text" by decide +kernel)
    | row m s => exact wne h (show ("maybe" : Str) ≠ "row" by decide +kernel)
    | cho c => exact wne h (show ("maybe" : Str) ≠ "choice" by decide +kernel)
theorem pkc_of {o n : So} (ho : o.okc) (hn : n.okc) : Pkc o n (pwS o n) := by
  unfold pwS
  by_cases h1 : o.word = n.word
  · rw [if_pos h1]
    exact pkc_same ho hn h1
  · rw [if_neg h1]
    by_cases h2 : o.word = "maybe"
    · rw [if_pos h2]
      obtain ⟨a, rfl⟩ := is_may h2
      exact .force a n (not_may fun e => h1 (h2.trans e.symm))
    · rw [if_neg h2]
      by_cases h3 : n.word = "maybe"
      · rw [if_pos h3]
        obtain ⟨b, rfl⟩ := is_may h3
        exact .wrap o b (not_may h2)
      · rw [if_neg h3]
        exact .bad o n (not_may h2) (not_may h3) h1
/-- why a thing is refused at its pair -/
def vfc : So → So → PyData → Option Str
  | .num _ _, .num lo hi, .int x => if withinB x lo hi = true then none else some "bounds"
  | .txt _, .txt m, .str z => if (z.length : Int) > m then some "most" else none
  | .row _ _, .row m _, .tuple ds => if (ds.length : Int) > m then some "most" else none
  | .tru, .tru, _ => none
  | .cho _, .cho _, _ => none
  | .may _, .may _, _ => none
  | .may _, _, d => if isNone d = true then some "nothing" else none
  | _, .may _, _ => none
  | _, _, _ => some "sort"
theorem vfc_bad {o n : So} {d : PyData} (h1 : o.isMay = false) (h2 : n.isMay = false) (h3 : o.word ≠ n.word) : vfc o n d = some "sort" := by
  cases o <;> cases n <;> first
    | exact absurd rfl h3
    | exact absurd h1 (show ¬ (true = false) by decide)
    | exact absurd h2 (show ¬ (true = false) by decide)
    | rfl
    | (cases d <;> rfl)
theorem vfc_force {a n : So} {d : PyData} (h : n.isMay = false) : vfc (.may a) n d = if isNone d = true then some "nothing" else none := by
  cases n <;> first
    | exact absurd h (show ¬ (true = false) by decide)
    | rfl
    | (cases d <;> rfl)
theorem vfc_wrap {o b : So} {d : PyData} (h : o.isMay = false) : vfc o (.may b) d = none := by
  cases o <;> first
    | exact absurd h (show ¬ (true = false) by decide)
    | rfl
    | (cases d <;> rfl)
section
variable {TO TN : Ch} {rec : So → So → List PyData → PyData → Rs} {r1 : So → PyData → Prop}
theorem dueX_bad {o n : So} {rp : List PyData} {d : PyData} (h1 : o.isMay = false) (h2 : n.isMay = false) (h3 : o.word ≠ n.word) : dueX rec TO TN o n rp d = .ref rp "sort" := by
  cases o <;> cases n <;> first
    | exact absurd rfl h3
    | exact absurd h1 (show ¬ (true = false) by decide)
    | exact absurd h2 (show ¬ (true = false) by decide)
    | rfl
    | (cases d <;> rfl)
theorem dueX_vf {o n : So} {d : PyData} {rp : List PyData} {w x : Str} (k : Pkc o n x) (ht : ThX r1 TO o d) (h : vfc o n d = some w) : dueX rec TO TN o n rp d = .ref rp w := by
  cases k with
  | num a b c e =>
    obtain ⟨z, rfl⟩ := ht.num
    have h : (if withinB z c e = true then none else some ("bounds" : Str)) = some w := h
    show (if withinB z c e = true then Rs.told (.int z) else .ref rp "bounds") = _
    by_cases g : withinB z c e = true
    · rw [if_pos g] at h; cases h
    · rw [if_neg g] at h; cases h; rw [if_neg g]
  | tru => cases h
  | cho a b => cases h
  | txt a b =>
    obtain ⟨z, rfl, _⟩ := ht.txt
    have h : (if (z.length : Int) > b then some ("most" : Str) else none) = some w := h
    show (if (z.length : Int) > b then Rs.ref rp "most" else .told (.str z)) = _
    by_cases g : (z.length : Int) > b
    · rw [if_pos g] at h; cases h; rw [if_pos g]
    · rw [if_neg g] at h; cases h
  | row a s b t =>
    obtain ⟨ds, rfl, _⟩ := ht.row
    have h : (if (ds.length : Int) > b then some ("most" : Str) else none) = some w := h
    show (if (ds.length : Int) > b then Rs.ref rp "most" else _) = _
    by_cases g : (ds.length : Int) > b
    · rw [if_pos g] at h; cases h; rw [if_pos g]
    · rw [if_neg g] at h; cases h
  | may a b => cases h
  | force a n hn =>
    rw [vfc_force hn] at h
    show (if isNone d = true then (if n.isMay = true then Rs.told .none else .ref rp "nothing") else _) = _
    by_cases g : isNone d = true
    · rw [if_pos g] at h; cases h; rw [if_pos g, hn]; rfl
    · rw [if_neg g] at h; cases h
  | wrap o b ho =>
    rw [vfc_wrap ho] at h
    cases h
  | bad o n h1 h2 h3 =>
    rw [vfc_bad h1 h2 h3] at h
    cases h
    exact dueX_bad h1 h2 h3
theorem dueX_leaf {o n : So} {d : PyData} {rp : List PyData} {x : Str} (k : Pkc o n x) (ht : ThX r1 TO o d) (h : vfc o n d = none) (hx : x = "number" ∨ x = "truth" ∨ x = "text") : dueX rec TO TN o n rp d = .told d := by
  cases k with
  | num a b c e =>
    obtain ⟨z, rfl⟩ := ht.num
    have h : (if withinB z c e = true then none else some ("bounds" : Str)) = none := h
    show (if withinB z c e = true then Rs.told (.int z) else .ref rp "bounds") = _
    by_cases g : withinB z c e = true
    · rw [if_pos g]
    · rw [if_neg g] at h; cases h
  | tru => rfl
  | txt a b =>
    obtain ⟨z, rfl, _⟩ := ht.txt
    have h : (if (z.length : Int) > b then some ("most" : Str) else none) = none := h
    show (if (z.length : Int) > b then Rs.ref rp "most" else .told (.str z)) = _
    by_cases g : (z.length : Int) > b
    · rw [if_pos g] at h; cases h
    · rw [if_neg g]
  | row a s b t => exact absurd hx (by decide +kernel)
  | cho a b => exact absurd hx (by decide +kernel)
  | may a b => exact absurd hx (by decide +kernel)
  | force a n hn => exact absurd hx (by decide +kernel)
  | wrap o b ho => exact absurd hx (by decide +kernel)
  | bad o n h1 h2 h3 => exact absurd hx (by decide +kernel)
theorem dueX_row {a b : Int} {s t : So} {ds : List PyData} {rp : List PyData} (h : vfc (.row a s) (.row b t) (.tuple ds) = none) : dueX rec TO TN (.row a s) (.row b t) rp (.tuple ds) = rowEnd (rowDue (fun p e => dueX rec TO TN s t p e) rp 0 ds) := by
  have h : (if (ds.length : Int) > b then some ("most" : Str) else none) = none := h
  show (if (ds.length : Int) > b then Rs.ref rp "most" else rowEnd (rowDue (fun p e => dueX rec TO TN s t p e) rp 0 ds)) = _
  by_cases g : (ds.length : Int) > b
  · rw [if_pos g] at h; cases h
  · rw [if_neg g]
end
theorem dueX_strip {TO TN : Ch} {rec : So → So → List PyData → PyData → Rs} {o n : So} (h : o.isMay = false) (hs : n.strip.isMay = false) (rp : List PyData) (d : PyData) : dueX rec TO TN o n.strip rp d = dueX rec TO TN o n rp d := by
  have e := strip_of hs
  cases o with
  | may a => exact nomatch h
  | num a b => unfold dueX; rw [e]
  | tru => unfold dueX; rw [e]
  | txt k => unfold dueX; rw [e]
  | row k a => unfold dueX; rw [e]
  | cho k => unfold dueX; rw [e]
  | nod k => rfl
mutual
/-- no cases in it -/
def plainD : PyData → Bool
  | .tuple ds => plainL ds
  | .list _ => false
  | _ => true
def plainL : List PyData → Bool
  | [] => true
  | d :: r => plainD d && plainL r
end
theorem plain_way : ∀ {rp : List PyData}, plainL rp = true → plainD (wayR rp) = true
  | [], _ => rfl
  | s :: r, h => by
    rw [plainL, Bool.and_eq_true] at h
    show plainL [wayR r, s] = true
    rw [plainL, plainL, plainL, plain_way h.2, h.1]
    rfl
/-- enough has been made for what is to be done -/
def okNc : List Jc → Nat → Prop
  | [], m => 1 ≤ m
  | .turn _ _ _ _ :: J, m => okNc J (m + 1)
  | .row k :: J, m => k ≤ m ∧ okNc J (m - k + 1)
  | .cas _ :: J, m => 1 ≤ m ∧ okNc J m
theorem okNc_turns {a b : So} {rp : List PyData} {J : List Jc} : ∀ {ds : List PyData} {k m : Nat}, okNc J (m + ds.length) → okNc (turnsC a b rp k ds ++ J) m
  | [], _, _, h => h
  | d :: r, k, m, h => by
    show okNc (turnsC a b rp (k + 1) r ++ J) (m + 1)
    refine okNc_turns ?_
    rw [List.length_cons] at h
    rw [show m + 1 + r.length = m + (r.length + 1) by omega]
    exact h
theorem okNc_row {a b : So} {rp : List PyData} {J : List Jc} {ds : List PyData} {m : Nat} (h : okNc J (m + 1)) : okNc (turnsC a b rp 0 ds ++ .row ds.length :: J) m :=
  okNc_turns (And.intro (Nat.le_add_left _ _) (by rw [Nat.add_sub_cancel]; exact h))
def JOkc (TO : Ch) (cn : List Str) : Jc → Prop
  | .turn o n d rp => o.okc ∧ n.ok [] cn false ∧ ThC TO o d ∧ rp.length + (Jc.turn o n d rp).w ≤ 100000 ∧ plainL rp = true
  | _ => True
theorem jokc_turns {TO : Ch} {cn : List Str} {a b : So} {rp : List PyData} (ha : a.okc) (hb : b.ok [] cn false) (hp : plainL rp = true) : ∀ {ds : List PyData} {k : Nat}, rp.length + 1 + wtL ds ≤ 100000 → (∀ d ∈ ds, ThC TO a d) → ∀ j ∈ turnsC a b rp k ds, JOkc TO cn j
  | [], _, _, _, j, hj => nomatch hj
  | d :: r, k, hr, h, j, hj => by
    have e : wtL (d :: r) = wt d + 2 + wtL r := by rw [wtL]
    have h1 := b01_le (b := a.isMay)
    have h2 := b01_le (b := b.isMay)
    rcases List.mem_cons.mp hj with rfl | hj
    · refine And.intro ha (And.intro hb (And.intro (h d List.mem_cons_self) (And.intro ?_ (by rw [plainL, hp]; rfl))))
      show rp.length + 1 + (wt d + b01 a.isMay + b01 b.isMay) ≤ 100000
      omega
    · exact jokc_turns ha hb hp (by omega) (fun e he => h e (List.mem_cons_of_mem _ he)) j hj
theorem turnsC_snoc {a b : So} {rp : List PyData} : ∀ {ds : List PyData} {k : Nat} {d : PyData}, turnsC a b rp k (ds ++ [d]) = turnsC a b rp k ds ++ [.turn a b d (.int ((k + ds.length : Nat) : Int) :: rp)]
  | [], k, d => rfl
  | e :: r, k, d => by
    show _ :: turnsC a b rp (k + 1) (r ++ [d]) = _ :: (turnsC a b rp (k + 1) r ++ _)
    rw [turnsC_snoc, List.length_cons, show k + 1 + r.length = k + (r.length + 1) by omega]
theorem turnsC_len {a b : So} {rp : List PyData} : ∀ {ds : List PyData} {k : Nat}, (turnsC a b rp k ds).length = ds.length
  | [], _ => rfl
  | _ :: r, _ => congrArg (· + 1) turnsC_len
end Tw
/-! TgH: things with cases in the heap. -/
namespace Tw
open PySem PySem.Spec PyProof.Rows L2 LamX
def caF (w : Str) (v : V) : List (Str × V) := [(("word" : Str), .str w), (("content" : Str), v)]
mutual
/-- v is the thing d; C is the class of cases -/
inductive Tc (K : PySem.W.Frag) (C : Addr) (H : Hp) : V → PyData → Prop
  | non : Tc K C H .non .none
  | bl (b : Bool) : Tc K C H (.bl b) (.bool b)
  | int (n : Int) : Tc K C H (.int n) (.int n)
  | str (s : Str) : Tc K C H (.str s) (.str s)
  | tup {a : Addr} {xs : List V} {ds : List PyData} : SqT K H a xs → Tcs K C H xs ds → Tc K C H (.ref a) (.tuple ds)
  | cas {a dx : Addr} {w : Str} {v : V} {c : PyData} : H a = some (.ins C dx (caF w v)) → Tc K C H v c → Tc K C H (.ref a) (caseP w c)
inductive Tcs (K : PySem.W.Frag) (C : Addr) (H : Hp) : List V → List PyData → Prop
  | nil : Tcs K C H [] []
  | cons {x : V} {xs : List V} {d : PyData} {ds : List PyData} : Tc K C H x d → Tcs K C H xs ds → Tcs K C H (x :: xs) (d :: ds)
end
structure KeepC (K : PySem.W.Frag) (C : Addr) (H H' : Hp) : Prop where
  t : KeepT K H H'
  c : ∀ a dx fs, H a = some (.ins C dx fs) → H' a = some (.ins C dx fs)
section
variable {K : PySem.W.Frag} {C : Addr} {H H' H1 H2 : Hp}
theorem KeepC.same (s : Same H H') : KeepC K C H H' := ⟨KeepT.same s, fun a dx fs e => s _ _ e⟩
theorem KeepC.extN (s : ExtN H H') : KeepC K C H H' := ⟨KeepT.extN s, fun a dx fs e => s _ _ e fun _ z => nomatch z⟩
theorem KeepC.trans (a : KeepC K C H H1) (b : KeepC K C H1 H2) : KeepC K C H H2 := ⟨a.t.trans b.t, fun c dx fs e => b.c _ _ _ (a.c _ _ _ e)⟩
theorem KeepC.refl : KeepC K C H H := KeepC.same (Same.refl _)
mutual
theorem Tc.keep (k : KeepC K C H H') : ∀ {v : V} {d : PyData}, Tc K C H v d → Tc K C H' v d
  | _, _, .non => .non
  | _, _, .bl b => .bl b
  | _, _, .int n => .int n
  | _, _, .str s => .str s
  | _, _, .tup h r => .tup (k.t _ _ h) (Tcs.keep k r)
  | _, _, .cas h r => .cas (k.c _ _ _ h) (Tc.keep k r)
theorem Tcs.keep (k : KeepC K C H H') : ∀ {v : List V} {d : List PyData}, Tcs K C H v d → Tcs K C H' v d
  | _, _, .nil => .nil
  | _, _, .cons h r => .cons (Tc.keep k h) (Tcs.keep k r)
end
mutual
theorem Td.tc : ∀ {v : V} {d : PyData}, Td K H v d → Tc K C H v d
  | _, _, .non => .non
  | _, _, .bl b => .bl b
  | _, _, .int n => .int n
  | _, _, .str s => .str s
  | _, _, .tup h r => .tup h (Tds.tc r)
theorem Tds.tc : ∀ {v : List V} {d : List PyData}, Tds K H v d → Tcs K C H v d
  | _, _, .nil => .nil
  | _, _, .cons h r => .cons (Td.tc h) (Tds.tc r)
end
mutual
theorem Tc.td : ∀ {v : V} {d : PyData}, Tc K C H v d → plainD d = true → Td K H v d
  | _, _, .non, _ => .non
  | _, _, .bl b, _ => .bl b
  | _, _, .int n, _ => .int n
  | _, _, .str s, _ => .str s
  | _, _, .tup h r, p => .tup h (Tcs.tds r (by rw [plainD] at p; exact p))
  | _, _, .cas h r, p => by
    unfold caseP at p
    rw [plainD] at p
    cases p
theorem Tcs.tds : ∀ {v : List V} {d : List PyData}, Tcs K C H v d → plainL d = true → Tds K H v d
  | _, _, .nil, _ => .nil
  | _, _, .cons h r, p => by
    rw [plainL, Bool.and_eq_true] at p
    exact .cons (Tc.td h p.1) (Tcs.tds r p.2)
end
theorem Tc.row {v : V} {ds : List PyData} (h : Tc K C H v (.tuple ds)) : ∃ a xs, v = .ref a ∧ SqT K H a xs ∧ Tcs K C H xs ds := by
  cases h with
  | tup q r => exact ⟨_, _, rfl, q, r⟩
theorem Tc.case {v : V} {w : Str} {c : PyData} (h : Tc K C H v (caseP w c)) : ∃ a dx u, v = .ref a ∧ H a = some (.ins C dx (caF w u)) ∧ Tc K C H u c := by
  generalize e : caseP w c = d at h
  cases h with
  | cas q r =>
    unfold caseP at e
    injection e with e
    injection e with e1 e2
    injection e1 with e1
    injection e2 with e2
    subst e1 e2
    exact ⟨_, _, _, rfl, q, r⟩
  | _ => cases e
theorem Tc.toInt {v : V} {n : Int} (h : Tc K C H v (.int n)) : v = .int n := by cases h; rfl
theorem Tc.toStr {v : V} {s : Str} (h : Tc K C H v (.str s)) : v = .str s := by cases h; rfl
theorem Tc.toBool {v : V} {b : Bool} (h : Tc K C H v (.bool b)) : v = .bl b := by cases h; rfl
theorem Tc.toNone {v : V} (h : Tc K C H v .none) : v = .non := by cases h; rfl
theorem Tcs.len : ∀ {xs : List V} {ds : List PyData}, Tcs K C H xs ds → xs.length = ds.length
  | _, _, .nil => rfl
  | _, _, .cons _ r => congrArg (· + 1) (Tcs.len r)
theorem Tcs.append : ∀ {xs ys : List V} {ds es : List PyData}, Tcs K C H xs ds → Tcs K C H ys es → Tcs K C H (xs ++ ys) (ds ++ es)
  | _, _, _, _, .nil, t => t
  | _, _, _, _, .cons h r, t => .cons h (Tcs.append r t)
theorem Tcs.rev : ∀ {xs : List V} {ds : List PyData}, Tcs K C H xs ds → Tcs K C H xs.reverse ds.reverse
  | _, _, .nil => .nil
  | _, _, .cons h r => by
    rw [List.reverse_cons, List.reverse_cons] <;> exact Tcs.append (Tcs.rev r) (.cons h .nil)
theorem Tcs.at_ : ∀ {xs : List V} {ds : List PyData} {i : Nat} {x : V}, Tcs K C H xs ds → xs[i]? = some x → ∃ d, ds[i]? = some d ∧ Tc K C H x d
  | _, _, 0, _, .cons h _, e => ⟨_, rfl, by cases e; exact h⟩
  | _, _, i + 1, _, .cons _ r, e => Tcs.at_ (i := i) r e
theorem Tcs.take : ∀ {xs : List V} {ds : List PyData} (i : Nat), Tcs K C H xs ds → Tcs K C H (xs.take i) (ds.take i)
  | _, _, 0, _ => .nil
  | _, _, _ + 1, .nil => .nil
  | _, _, i + 1, .cons h r => .cons h (Tcs.take i r)
theorem Tcs.drop : ∀ {xs : List V} {ds : List PyData} (i : Nat), Tcs K C H xs ds → Tcs K C H (xs.drop i) (ds.drop i)
  | _, _, 0, h => h
  | _, _, _ + 1, .nil => .nil
  | _, _, i + 1, .cons _ r => Tcs.drop i r
variable {xs : List V} {d1 d2 d3 d4 : PyData}
theorem Tcs.c1 (h : Tcs K C H xs [d1]) : ∃ x, xs = [x] ∧ Tc K C H x d1 := by
  cases h with
  | cons t1 t2 => cases t2; exact ⟨_, rfl, t1⟩
theorem Tcs.c2 (h : Tcs K C H xs [d1, d2]) : ∃ x y, xs = [x, y] ∧ Tc K C H x d1 ∧ Tc K C H y d2 := by
  cases h with
  | cons t1 t2 => obtain ⟨y, rfl, h⟩ := t2.c1; exact ⟨_, _, rfl, t1, h⟩
theorem Tcs.c3 (h : Tcs K C H xs [d1, d2, d3]) : ∃ x y z, xs = [x, y, z] ∧ Tc K C H x d1 ∧ Tc K C H y d2 ∧ Tc K C H z d3 := by
  cases h with
  | cons t1 t2 => obtain ⟨y, z, rfl, h⟩ := t2.c2; exact ⟨_, _, _, rfl, t1, h⟩
theorem Tcs.c4 (h : Tcs K C H xs [d1, d2, d3, d4]) : ∃ x y z u, xs = [x, y, z, u] ∧ Tc K C H x d1 ∧ Tc K C H y d2 ∧ Tc K C H z d3 ∧ Tc K C H u d4 := by
  cases h with
  | cons t1 t2 => obtain ⟨y, z, u, rfl, h⟩ := t2.c3; exact ⟨_, _, _, _, rfl, t1, h⟩
theorem Tcs.last {ds : List PyData} {d : PyData} : ∀ {xs : List V}, Tcs K C H xs (ds ++ [d]) → ∃ xs0 x, xs = xs0 ++ [x] ∧ Tcs K C H xs0 ds ∧ Tc K C H x d := by
  induction ds with
  | nil =>
    intro xs h
    obtain ⟨x, rfl, h2⟩ := Tcs.c1 h
    exact ⟨[], x, rfl, .nil, h2⟩
  | cons e r ih =>
    intro xs h
    cases h with
    | cons t1 t2 =>
      obtain ⟨xs0, x, rfl, h1, h2⟩ := ih t2
      exact ⟨_ :: xs0, x, rfl, .cons t1 h1, h2⟩
end
theorem plain_oI (o : Option Int) : plainD (oI o) = true := by cases o <;> rfl
theorem plain_so : ∀ s : So, plainD s.pd = true
  | .num lo hi => by
    show plainL [.str "number", oI lo, oI hi] = true
    rw [plainL, plainL, plainL, plainL, plain_oI, plain_oI]
    rfl
  | .tru => rfl
  | .txt n => rfl
  | .row n s => by
    show plainL [.str "row", .int n, s.pd] = true
    rw [plainL, plainL, plainL, plainL, plain_so s]
    rfl
  | .may s => by
    show plainL [.str "maybe", s.pd] = true
    rw [plainL, plainL, plainL, plain_so s]
    rfl
  | .nod k => rfl
  | .cho k => rfl
theorem plain_pair (o n : So) : plainD (.tuple [o.pd, n.pd]) = true := by
  show plainL [o.pd, n.pd] = true
  rw [plainL, plainL, plainL, plain_so, plain_so]
  rfl
end Tw
/-! TgT: the rows of choices, looked up. -/
namespace Tw
open PySem PySem.Spec PyProof.Rows L2 LamX
theorem find_one {α : Type} {p : α → Bool} : ∀ {l : List α} {x : α}, x ∈ l → p x = true → (∀ y ∈ l, p y = true → y = x) → l.find? p = some x
  | [], _, h, _, _ => nomatch h
  | y :: r, x, h, hp, u => by
    rw [List.find?_cons]
    cases hy : p y with
    | true => rw [u y List.mem_cons_self hy]
    | false =>
      rcases List.mem_cons.mp h with rfl | h
      · rw [hp] at hy
        cases hy
      · exact find_one h hp fun z hz => u z (List.mem_cons_of_mem _ hz)
theorem find_same {α : Type} {p : α → Bool} {l m : List α} (hm : ∀ x, x ∈ l ↔ x ∈ m) (u : ∀ x ∈ l, ∀ y ∈ l, p x = true → p y = true → y = x) : l.find? p = m.find? p := by
  cases h : l.find? p with
  | none =>
    rw [List.find?_eq_none] at h
    exact (List.find?_eq_none.mpr fun x hx => h x ((hm x).mpr hx)).symm
  | some x =>
    have h1 := List.mem_of_find?_eq_some h
    have h2 := List.find?_some h
    exact (find_one ((hm x).mp h1) h2 fun y hy hp => u x h1 y ((hm y).mpr hy) h2 hp).symm
theorem mem_sortEn {es : List En} (x : En) : x ∈ sortEn es ↔ x ∈ es := (List.mergeSort_perm es _).mem_iff
/-- the rows of a table, by name -/
def chT (tb : List TRow) : Ch := fun c => match tb.find? fun r => decide (r.1 = c) with
  | some r => r.2
  | none => []
/-- rows of choices that may stand -/
structure ChOk (tb : List TRow) : Prop where
  t : TabOk false [] (tb.map Prod.fst) tb
  n : (tb.map Prod.fst).Nodup
theorem RowOk.uniq {k : Bool} {ks cs : List Str} {es : List En} (h : RowOk k ks cs es) : ∀ {i j : Nat} {a b : En}, es[i]? = some a → es[j]? = some b → (a.name = b.name ∨ a.num = b.num) → i = j := by
  have key : ∀ {i j : Nat} {a b : En}, i < j → es[i]? = some a → es[j]? = some b → (a.name = b.name ∨ a.num = b.num) → False := fun {i j a b} hij ha hb e => by
    have ok := h j b hb
    have m : a ∈ es.take j := List.mem_of_getElem? (i := i) (by rw [List.getElem?_take_of_lt hij]; exact ha)
    rcases e with e | e
    · exact ok.newN (List.mem_map.mpr ⟨a, m, e⟩)
    · exact ok.newI (List.mem_map.mpr ⟨a, m, e⟩)
  intro i j a b ha hb e
  rcases Nat.lt_trichotomy i j with hij | hij | hij
  · exact (key hij ha hb e).elim
  · exact hij
  · exact (key hij hb ha (e.imp Eq.symm Eq.symm)).elim
theorem RowOk.at_ {k : Bool} {ks cs : List Str} {es : List En} (h : RowOk k ks cs es) {e : En} (he : e ∈ es) : ∃ l, EnOk k ks cs l e := by
  obtain ⟨i, hi⟩ := List.getElem?_of_mem he
  exact ⟨_, h i e hi⟩
theorem RowOk.eq {k : Bool} {ks cs : List Str} {es : List En} (h : RowOk k ks cs es) {a b : En} (ha : a ∈ es) (hb : b ∈ es) (e : a.name = b.name ∨ a.num = b.num) : b = a := by
  obtain ⟨i, hi⟩ := List.getElem?_of_mem ha
  obtain ⟨j, hj⟩ := List.getElem?_of_mem hb
  have e := h.uniq hi hj e
  subst e
  rw [hi] at hj
  cases hj
  rfl
theorem RowOk.name {k : Bool} {ks cs : List Str} {es : List En} (h : RowOk k ks cs es) (w : Str) : enName (sortEn es) w = enName es w := find_same (fun x => mem_sortEn x) fun x hx y hy p1 p2 =>
  h.eq ((mem_sortEn x).mp hx) ((mem_sortEn y).mp hy) (.inl ((of_decide_eq_true p1).trans (of_decide_eq_true p2).symm))
theorem RowOk.num {k : Bool} {ks cs : List Str} {es : List En} (h : RowOk k ks cs es) (w : Int) : enNum (sortEn es) w = enNum es w := find_same (fun x => mem_sortEn x) fun x hx y hy p1 p2 =>
  h.eq ((mem_sortEn x).mp hx) ((mem_sortEn y).mp hy) (.inr ((of_decide_eq_true p1).trans (of_decide_eq_true p2).symm))
theorem RowOk.read {k : Bool} {ks cs : List Str} {es : List En} (h : RowOk k ks cs es) (w : Int) : enRead (sortEn es) w = enRead es w := by
  unfold enRead
  rw [h.num, h.num]
theorem ch_left {ks cs : List Str} {l : List En} {e : En} (h : EnOk false ks cs l e) : e.left = none := by
  cases ho : e.of with
  | none => exact (h.none ho).2
  | some s =>
    cases hl : e.left with
    | none => rfl
    | some d => exact nomatch ((h.some s ho).2.2 d hl).1
theorem enName_mem {es : List En} {w : Str} {e : En} (h : enName es w = some e) : e ∈ es ∧ e.name = w := ⟨List.mem_of_find?_eq_some h, of_decide_eq_true (List.find?_some (p := fun e : En => decide (e.name = w)) h)⟩
theorem enNum_mem {es : List En} {w : Int} {e : En} (h : enNum es w = some e) : e ∈ es ∧ e.num = w := ⟨List.mem_of_find?_eq_some h, of_decide_eq_true (List.find?_some (p := fun e : En => decide (e.num = w)) h)⟩
theorem enRead_mem {es : List En} {w : Int} {e : En} (h : enRead es w = some e) : e ∈ es := by
  unfold enRead at h
  cases hn : enNum es w with
  | some f =>
    rw [hn] at h
    cases h
    exact (enNum_mem hn).1
  | none =>
    rw [hn] at h
    exact (enNum_mem h).1
theorem chT_of {tb : List TRow} (n : (tb.map Prod.fst).Nodup) {r : TRow} (h : r ∈ tb) : chT tb r.1 = r.2 := by
  have e : tb.find? (fun q => decide (q.1 = r.1)) = some r := find_one h (decide_eq_true rfl) fun y hy hp => by
    have hp : y.1 = r.1 := of_decide_eq_true hp
    obtain ⟨i, hi⟩ := List.getElem?_of_mem h
    obtain ⟨j, hj⟩ := List.getElem?_of_mem hy
    have hi2 : (tb.map Prod.fst)[i]? = some r.1 := by rw [List.getElem?_map, hi] <;> rfl
    have hj2 : (tb.map Prod.fst)[j]? = some r.1 := by rw [List.getElem?_map, hj, ← hp] <;> rfl
    have hl : i < (tb.map Prod.fst).length := (List.getElem?_eq_some_iff.mp hi2).1
    have e := (List.getElem?_inj hl n).mp (hi2.trans hj2.symm)
    subst e
    rw [hi] at hj
    cases hj
    rfl
  unfold chT
  rw [e]
theorem chT_row {tb : List TRow} {c : Str} {e : En} (h : e ∈ chT tb c) : ∃ r ∈ tb, r.1 = c ∧ chT tb c = r.2 := by
  unfold chT at h ⊢
  cases hf : tb.find? (fun q => decide (q.1 = c)) with
  | none =>
    rw [hf] at h
    exact nomatch h
  | some r => exact ⟨r, List.mem_of_find?_eq_some hf, of_decide_eq_true (List.find?_some (p := fun q : TRow => decide (q.1 = c)) hf), rfl⟩
theorem ChOk.row {tb : List TRow} (h : ChOk tb) {c : Str} (hc : c ∈ tb.map Prod.fst) : ∃ r ∈ tb, r.1 = c ∧ chT tb c = r.2 ∧ RowOk false [] (tb.map Prod.fst) r.2 := by
  obtain ⟨r, hr, rfl⟩ := List.mem_map.mp hc
  exact ⟨r, hr, rfl, chT_of h.n hr, (h.t r hr).2.1⟩
/-- what is refused at once of a case -/
def caseNow (eo : En) (en : List En) : Option Str := match enRead en eo.num with
  | none => some "case"
  | some f => match f.of with
    | none => none
    | some _ => match eo.of with
      | none => some "sort"
      | some _ => none
theorem due_now {TO TN : Ch} {a b w : Str} {c : PyData} {e : En} {rp : List PyData} {y : Str} (ht : ThC TO (.cho a) (caseP w c)) (he : enName (TO a) w = some e) (h : caseNow e (TN b) = some y) : dueC TO TN (.cho a) (.cho b) rp (caseP w c) = .ref rp y := by
  rw [dueC_x ht]
  show caseC (dueC TO TN) (TO a) (TN b) rp w c = _
  unfold caseC
  unfold caseNow at h
  rw [he]
  dsimp only
  cases h1 : enRead (TN b) e.num with
  | none =>
    rw [h1] at h
    cases h
    rfl
  | some f =>
    rw [h1] at h
    dsimp only at h ⊢
    cases h2 : f.of with
    | none =>
      rw [h2] at h
      cases h
    | some ni =>
      rw [h2] at h
      dsimp only at h ⊢
      cases h3 : e.of with
      | none =>
        rw [h3] at h
        cases h
        rfl
      | some oi =>
        rw [h3] at h
        cases h
theorem due_plainC {TO TN : Ch} {a b w : Str} {c : PyData} {e f : En} {rp : List PyData} (ht : ThC TO (.cho a) (caseP w c)) (he : enName (TO a) w = some e) (hf : enRead (TN b) e.num = some f) (ho : f.of = none) : dueC TO TN (.cho a) (.cho b) rp (caseP w c) = .told (caseP f.name .none) := by
  rw [dueC_x ht]
  show caseC (dueC TO TN) (TO a) (TN b) rp w c = _
  unfold caseC
  rw [he]
  dsimp only
  rw [hf]
  dsimp only
  rw [ho]
theorem due_goC {TO TN : Ch} {a b w : Str} {c : PyData} {e f : En} {rp : List PyData} {oi ni : So} (ht : ThC TO (.cho a) (caseP w c)) (he : enName (TO a) w = some e) (hf : enRead (TN b) e.num = some f) (ho : e.of = some oi) (hn : f.of = some ni) : dueC TO TN (.cho a) (.cho b) rp (caseP w c) = match dueC TO TN oi ni (caseS f.name :: rp) c with
    | .told v => .told (caseP f.name v)
    | .ref p x => .ref p x := by
  rw [dueC_x ht]
  show caseC (dueC TO TN) (TO a) (TN b) rp w c = _
  unfold caseC
  rw [he]
  dsimp only
  rw [hf]
  dsimp only
  rw [hn]
  dsimp only
  rw [ho] <;> (dsimp only; cases dueC TO TN oi ni (caseS f.name :: rp) c <;> rfl)
theorem ThC.may {TO : Ch} {a : So} {d : PyData} (h : ThC TO (.may a) d) : d = .none ∨ ThC TO a d := ThX.may (r1 := ThF TO 11) h
theorem ThC.row {TO : Ch} {n : Int} {s : So} {d : PyData} (h : ThC TO (.row n s) d) : ∃ ds, d = .tuple ds ∧ ds.length ≤ 6 ∧ ∀ e ∈ ds, ThC TO s e := ThX.row (r1 := ThF TO 11) h
theorem ThC.cho {TO : Ch} {a : Str} {d : PyData} (h : ThC TO (.cho a) d) : ∃ w c e, d = caseP w c ∧ enName (TO a) w = some e ∧ ((e.of = none ∧ c = .none) ∨ ∃ s, e.of = some s ∧ ThC TO s c) := by
  obtain ⟨w, c, e, h1, h2, h3⟩ := ThX.cho (r1 := ThF TO 11) h
  exact ⟨w, c, e, h1, h2, h3.imp_right fun ⟨s, g1, g2⟩ => ⟨s, g1, ThC.in_ g2⟩⟩
theorem due_mayC {TO TN : Ch} {a n : So} {rp : List PyData} {d : PyData} (h : ThC TO (.may a) d) (hd : d ≠ .none) : dueC TO TN (.may a) n rp d = dueC TO TN a n.strip (insideD :: rp) d := by
  have hn : isNone d = false := by cases d <;> first | rfl | exact absurd rfl hd
  rw [dueC_x h, dueC_x (h.may.resolve_left hd)]
  show (if isNone d = true then _ else dueX _ TO TN a n.strip (insideD :: rp) d) = _
  rw [hn]
  exact if_neg Bool.false_ne_true
theorem due_may0 {TO TN : Ch} {a b : So} {rp : List PyData} (h : ThC TO (.may a) .none) : dueC TO TN (.may a) (.may b) rp .none = .told .none := by
  rw [dueC_x h]
  rfl
theorem due_wrapC {TO TN : Ch} {o b : So} {rp : List PyData} {d : PyData} (h : ThC TO o d) (ho : o.isMay = false) (hb : b.isMay = false) : dueC TO TN o (.may b) rp d = dueC TO TN o b rp d := by
  rw [dueC_x h, dueC_x h]
  exact (dueX_strip (n := .may b) ho hb rp d).symm
theorem okn_may {cn : List Str} {b : So} (h : (So.may b).ok [] cn false) : b.ok [] cn false ∧ b.isMay = false := by
  have h : false = false ∧ b.ok [] cn true := h
  refine ⟨ok_weak h.2, ?_⟩
  cases b with
  | may t => exact nomatch (show true = false ∧ _ from h.2).1
  | _ => rfl
theorem okn_strip {cn : List Str} {b : So} (h : b.ok [] cn false) : b.strip.ok [] cn false := by
  cases b with
  | may t => exact (okn_may h).1
  | _ => exact h
theorem due_vfC {TO TN : Ch} {o n : So} {rp : List PyData} {d : PyData} {w x : Str} (k : Pkc o n x) (ht : ThC TO o d) (h : vfc o n d = some w) : dueC TO TN o n rp d = .ref rp w := dueX_vf k ht h
theorem due_leafC {TO TN : Ch} {o n : So} {rp : List PyData} {d : PyData} {x : Str} (k : Pkc o n x) (ht : ThC TO o d) (h : vfc o n d = none) (hx : x = "number" ∨ x = "truth" ∨ x = "text") : dueC TO TN o n rp d = .told d := dueX_leaf k ht h hx
end Tw
/-! TkV: pairs of sorts that are met, and the steps that are made of them. -/
namespace Tw
open PySem PySem.Spec PyProof.Rows L2
def So.tag : So → Nat
  | .num _ _ => 0
  | .tru => 1
  | .txt _ => 2
  | .row _ _ => 3
  | .may _ => 4
  | .nod _ => 5
  | .cho _ => 6
def wordT : Nat → Str
  | 0 => "number"
  | 1 => "truth"
  | 2 => "text"
  | 3 => "row"
  | 4 => "maybe"
  | 5 => "node"
  | _ => "choice"
theorem word_of_tag (s : So) : s.word = wordT s.tag := by cases s <;> rfl
theorem wordT_inj : ∀ i, i < 7 → ∀ j, j < 7 → wordT i = wordT j → i = j := by decide +kernel
theorem tag_lt (s : So) : s.tag < 7 := by cases s <;> simp [So.tag]
theorem word_tag {o n : So} (h : o.word = n.word) : o.tag = n.tag := by
  rw [word_of_tag, word_of_tag] at h
  exact wordT_inj _ (tag_lt o) _ (tag_lt n) h
inductive Pkn : So → So → Str → Prop
  | num (a b c d : Option Int) : Pkn (.num a b) (.num c d) "number"
  | tru : Pkn .tru .tru "truth"
  | txt (a b : Int) : Pkn (.txt a) (.txt b) "text"
  | row (a : Int) (s : So) (b : Int) (t : So) : Pkn (.row a s) (.row b t) "row"
  | cho (a b : Str) : Pkn (.cho a) (.cho b) "choice"
  | nod (a b : Str) : Pkn (.nod a) (.nod b) "node"
  | may (a b : So) : Pkn (.may a) (.may b) "maybe"
  | force (a n : So) : n.isMay = false → Pkn (.may a) n "force"
  | wrap (o b : So) : o.isMay = false → Pkn o (.may b) "wrap"
  | bad (o n : So) : o.isMay = false → n.isMay = false → o.word ≠ n.word → Pkn o n "bad"
theorem pkn_same {o n : So} (h : o.word = n.word) : Pkn o n o.word := by
  have e := word_tag h
  cases o <;> cases n <;> first
    | exact .num _ _ _ _
    | exact .tru
    | exact .txt _ _
    | exact .row _ _ _ _
    | exact .cho _ _
    | exact .nod _ _
    | exact .may _ _
    | exact absurd e (by simp [So.tag])
theorem pkn_of (o n : So) : Pkn o n (pwS o n) := by
  unfold pwS
  by_cases h1 : o.word = n.word
  · rw [if_pos h1]
    exact pkn_same h1
  · rw [if_neg h1]
    by_cases h2 : o.word = "maybe"
    · rw [if_pos h2]
      obtain ⟨a, rfl⟩ := is_may h2
      exact .force a n (not_may fun e => h1 (h2.trans e.symm))
    · rw [if_neg h2]
      by_cases h3 : n.word = "maybe"
      · rw [if_pos h3]
        obtain ⟨b, rfl⟩ := is_may h3
        exact .wrap o b (not_may h2)
      · rw [if_neg h3]
        exact .bad o n (not_may h2) (not_may h3) h1
/-- a schema: its kinds, its choices (rows by rising numbers), its root -/
structure Scm where
  k : Ch
  c : Ch
  root : So
abbrev Pr := So × So
def pairD (p : Pr) : PyData := .tuple [p.1.pd, p.2.pd]
def pk (p : Pr) : NestedKey := nk (pairD p)
def likeOf (fs : List En) (e : En) : Option (En × Option So × Option So) := (enNum fs e.num).map fun f => (f, e.of, f.of)
def likesS (es fs : List En) : List (En × Option So × Option So) := es.filterMap (likeOf fs)
abbrev Into := PyData × So × So
def stepOf (g : Str → PyData) : En × Option So × Option So → Option Into
  | (f, some a, some b) => some (.tuple [g f.name], a, b)
  | _ => none
def intoS (A B : Scm) : So → So → List Into
  | .nod k, .nod l => (likesS (A.k k) (B.k l)).filterMap (stepOf PyData.str)
  | .cho k, .cho l => (likesS (A.c k) (B.c l)).filterMap (stepOf caseS)
  | .row a s, .row b t => if a > 0 ∧ b > 0 then [(.tuple [.int 0], s, t)] else []
  | .may a, .may b => [(.tuple [insideD], a, b)]
  | .may a, n => [(.tuple [insideD], a, n)]
  | o, .may b => [(.tuple [], o, b)]
  | _, _ => []
def into (A B : Scm) (p : Pr) : List Pr := (intoS A B p.1 p.2).map (·.2)
/-- st is done in n turns, met grows to r -/
inductive MetN (A B : Scm) (G : Pr → Prop) : Nat → List Pr → List Pr → List Pr → Prop
  | done (met : List Pr) : MetN A B G 0 [] met met
  | seen {n : Nat} {p : Pr} {st met r : List Pr} : G p → pk p ∈ met.map pk → MetN A B G n st met r → MetN A B G (n + 1) (p :: st) met r
  | new {n : Nat} {p : Pr} {st met r : List Pr} : G p → pk p ∉ met.map pk → MetN A B G n (into A B p ++ st) (met ++ [p]) r → MetN A B G (n + 1) (p :: st) met r
section
variable {A B : Scm} {G : Pr → Prop}
theorem MetN.len : ∀ {n : Nat} {st met r : List Pr}, MetN A B G n st met r → st.length ≤ n
  | _, _, _, _, .done _ => Nat.le_refl _
  | _, _, _, _, .seen _ _ h => Nat.succ_le_succ h.len
  | _, _, _, _, .new _ _ h => by
    have := h.len
    rw [List.length_append] at this
    rw [List.length_cons]
    omega
theorem MetN.lenM : ∀ {n : Nat} {st met r : List Pr}, MetN A B G n st met r → met.length ≤ r.length ∧ r.length ≤ met.length + n
  | _, _, _, _, .done _ => ⟨Nat.le_refl _, Nat.le_refl _⟩
  | _, _, _, _, .seen _ _ h => by have := h.lenM; exact ⟨this.1, by omega⟩
  | _, _, _, _, .new _ _ h => by
    have := h.lenM
    rw [List.length_append, List.length_singleton] at this
    omega
theorem MetN.uniq : ∀ {n m : Nat} {st met r q : List Pr}, MetN A B G n st met r → MetN A B G m st met q → r = q
  | _, _, _, _, _, _, .done _, h => by cases h; rfl
  | _, _, _, _, _, _, .seen _ h1 h2, h => by
    cases h with
    | seen _ _ h3 => exact h2.uniq h3
    | new _ h3 _ => exact absurd h1 h3
  | _, _, _, _, _, _, .new _ h1 h2, h => by
    cases h with
    | seen _ h3 _ => exact absurd h3 h1
    | new _ _ h3 => exact h2.uniq h3
theorem MetN.nodup : ∀ {n : Nat} {st met r : List Pr}, MetN A B G n st met r → (met.map pk).Nodup → (r.map pk).Nodup
  | _, _, _, _, .done _, h => h
  | _, _, _, _, .seen _ _ g, h => g.nodup h
  | _, _, _, _, .new _ h1 g, h => g.nodup (by
    rw [List.map_append]
    exact List.nodup_append.mpr ⟨h, List.nodup_cons.mpr ⟨fun z => (nomatch z), List.nodup_nil⟩, fun a ha b hb e => h1 (by
      rw [List.mem_singleton.mp hb] at e
      rw [← e]
      exact ha)⟩)
theorem MetN.good : ∀ {n : Nat} {st met r : List Pr}, MetN A B G n st met r → (∀ p ∈ met, G p) → ∀ p ∈ r, G p
  | _, _, _, _, .done _, h => h
  | _, _, _, _, .seen _ _ g, h => g.good h
  | _, _, _, _, .new h0 _ g, h => g.good fun p hp => by
    rcases List.mem_append.mp hp with hp | hp
    · exact h p hp
    · rw [List.mem_singleton.mp hp]
      exact h0
theorem MetN.sub : ∀ {n : Nat} {st met r : List Pr}, MetN A B G n st met r → (∀ p ∈ met, p ∈ r) ∧ ∀ p ∈ st, pk p ∈ r.map pk
  | _, _, _, _, .done _ => ⟨fun p h => h, fun p h => nomatch h⟩
  | _, _, _, _, .seen (p := p0) _ h1 g => ⟨g.sub.1, fun p hp => by
    rcases List.mem_cons.mp hp with rfl | hp
    · obtain ⟨q, hq, e⟩ := List.mem_map.mp h1
      exact List.mem_map.mpr ⟨q, g.sub.1 q hq, e⟩
    · exact g.sub.2 p hp⟩
  | _, _, _, _, .new _ h1 g => ⟨fun p hp => g.sub.1 p (List.mem_append_left _ hp), fun p hp => by
    rcases List.mem_cons.mp hp with rfl | hp
    · exact List.mem_map.mpr ⟨p, g.sub.1 p (List.mem_append_right _ List.mem_cons_self), rfl⟩
    · exact g.sub.2 p (List.mem_append_right _ hp)⟩
/-- what is gone into is met -/
theorem MetN.closed : ∀ {n : Nat} {st met r : List Pr}, MetN A B G n st met r → (∀ p ∈ met, ∀ q ∈ into A B p, pk q ∈ met.map pk ∨ pk q ∈ st.map pk) → ∀ p ∈ r, ∀ q ∈ into A B p, pk q ∈ r.map pk
  | _, _, _, _, .done _, h => fun p hp q hq => (h p hp q hq).resolve_right fun z => nomatch z
  | _, _, _, _, .seen _ h1 g, h => g.closed fun p hp q hq => by
    rcases h p hp q hq with z | z
    · exact .inl z
    · rw [List.map_cons] at z
      rcases List.mem_cons.mp z with z | z
      · rw [z]
        exact .inl h1
      · exact .inr z
  | _, _, _, _, .new (p := p0) _ h1 g, h => g.closed fun p hp q hq => by
    rw [List.map_append, List.map_append]
    rcases List.mem_append.mp hp with hp | hp
    · rcases h p hp q hq with z | z
      · exact .inl (List.mem_append_left _ z)
      · rw [List.map_cons] at z
        rcases List.mem_cons.mp z with z | z
        · exact .inl (List.mem_append_right _ (by rw [z]; exact List.mem_cons_self))
        · exact .inr (List.mem_append_right _ z)
    · rw [List.mem_singleton.mp hp] at hq
      exact .inr (List.mem_append_left _ (List.mem_map.mpr ⟨q, hq, rfl⟩))
end
theorem nodup_len {α : Type} [DecidableEq α] : ∀ {l D : List α}, l.Nodup → (∀ x ∈ l, x ∈ D) → l.length ≤ D.length
  | [], _, _, _ => Nat.zero_le _
  | x :: r, D, hn, hs => by
    have hn := List.nodup_cons.mp hn
    have hx := hs x List.mem_cons_self
    have ih := nodup_len (l := r) (D := D.erase x) hn.2 fun y hy => (List.mem_erase_of_ne (fun e : y = x => hn.1 (by rw [← e]; exact hy))).mpr (hs y (List.mem_cons_of_mem _ hy))
    rw [List.length_erase_of_mem hx] at ih
    have := List.length_pos_of_mem hx
    rw [List.length_cons]
    omega
/-- pairs out of a finite row that leads to none but its own: all is met at last -/
theorem met_ends {A B : Scm} {G : Pr → Prop} {U : List Pr} {b : Nat} (hG : ∀ p ∈ U, G p) (hI : ∀ p ∈ U, ∀ q ∈ into A B p, q ∈ U) (hb : ∀ p ∈ U, (into A B p).length ≤ b) : ∀ (m : Nat) (st met : List Pr), (∀ p ∈ st, p ∈ U) → (∀ p ∈ met, p ∈ U) → (met.map pk).Nodup → (U.length - met.length) * (b + 1) + st.length ≤ m → ∃ n r, n ≤ m ∧ MetN A B G n st met r
  | m, [], met, _, _, _, _ => ⟨0, met, Nat.zero_le _, .done met⟩
  | 0, p :: st, met, _, _, _, h => by
    rw [List.length_cons] at h
    omega
  | m + 1, p :: st, met, hs, hm, hn, h => by
    have hp := hs p List.mem_cons_self
    rw [List.length_cons] at h
    by_cases hk : pk p ∈ met.map pk
    · obtain ⟨n, r, hn2, g⟩ := met_ends hG hI hb m st met (fun q hq => hs q (List.mem_cons_of_mem _ hq)) hm hn (by omega)
      exact ⟨n + 1, r, by omega, .seen (hG p hp) hk g⟩
    · have hnd : ((met ++ [p]).map pk).Nodup := by
        rw [List.map_append]
        exact List.nodup_append.mpr ⟨hn, List.nodup_cons.mpr ⟨fun z => (nomatch z), List.nodup_nil⟩, fun a ha c hc e => hk (by
          rw [List.mem_singleton.mp hc] at e
          rw [← e]
          exact ha)⟩
      have hmU : ∀ q ∈ met ++ [p], q ∈ U := fun q hq => by
        rcases List.mem_append.mp hq with hq | hq
        · exact hm q hq
        · rw [List.mem_singleton.mp hq]
          exact hp
      have hl : (met ++ [p]).length ≤ U.length := by
        have := nodup_len (D := U.map pk) hnd fun x hx => by
          obtain ⟨q, hq, rfl⟩ := List.mem_map.mp hx
          exact List.mem_map.mpr ⟨q, hmU q hq, rfl⟩
        rw [List.length_map, List.length_map] at this
        exact this
      rw [List.length_append, List.length_singleton] at hl
      have hbp := hb p hp
      obtain ⟨n, r, hn2, g⟩ := met_ends hG hI hb m (into A B p ++ st) (met ++ [p]) (fun q hq => by
        rcases List.mem_append.mp hq with hq | hq
        · exact hI p hp q hq
        · exact hs q (List.mem_cons_of_mem _ hq)) hmU hnd (by
        rw [List.length_append, List.length_append, List.length_singleton]
        have e : U.length - met.length = (U.length - (met.length + 1)) + 1 := by omega
        rw [e, Nat.add_mul] at h
        omega)
      exact ⟨n + 1, r, by omega, .new (hG p hp) hk g⟩
/-- at which place it is met -/
def placeK (ks : List NestedKey) (k : NestedKey) : Nat := ks.findIdx fun x => decide (x = k)
def placeS (met : List Pr) (p : Pr) : Int := (placeK (met.map pk) (pk p) : Nat)
theorem placeK_at {ks : List NestedKey} {k : NestedKey} (h : k ∈ ks) : ks[placeK ks k]? = some k := by
  have hl : placeK ks k < ks.length := List.findIdx_lt_length_of_exists ⟨k, h, decide_eq_true rfl⟩
  rw [List.getElem?_eq_getElem hl]
  have e := List.findIdx_getElem (w := hl)
  exact congrArg some (of_decide_eq_true e)
/-- the dict of the places -/
def PlIs (ks : List NestedKey) (xs : List NE) : Prop := xs.map (·.1) = ks ∧ ∀ (i : Nat) (x : NE), xs[i]? = some x → x.2.2 = .int (i : Nat)
theorem pl_get {ks : List NestedKey} {xs : List NE} {k : NestedKey} (h : PlIs ks xs) (hk : k ∈ ks) : getN xs k = some (.int (placeK ks k : Nat)) := by
  obtain ⟨rfl, hv⟩ := h
  unfold getN
  obtain ⟨x, hx, rfl⟩ := List.mem_map.mp hk
  cases hf : xs.find? fun y => decide (y.1 = x.1) with
  | none => exact absurd (decide_eq_true rfl) (List.find?_eq_none.mp hf x hx)
  | some y =>
    have e := List.find?_eq_some_iff_getElem.mp hf
    obtain ⟨hy, i, hi, hxi, hlt⟩ := e
    have hp : placeK (xs.map (·.1)) x.1 = i := by
      unfold placeK
      rw [List.findIdx_map]
      exact (List.findIdx_eq (by simpa using hi)).mpr ⟨by
        show decide (xs[i].1 = x.1) = true
        rw [hxi]
        exact hy, fun j hj => by
        have := hlt j hj
        simpa using this⟩
    rw [hp]
    show some y.2.2 = _
    rw [hv i y (by rw [List.getElem?_eq_getElem hi, hxi])]
/-! ### steps -/
def contentD (met : List Pr) : Option So → Option So → PyData
  | _, none => .none
  | none, some _ => .int (-1)
  | some a, some b => .int (placeS met (a, b))
def caseStep (met : List Pr) (fs : List En) (e : En) : Option PyData := (enNum fs e.num).map fun f => .tuple [.int e.num, .str f.name, contentD met e.of f.of]
def choiceD (met : List Pr) (es fs : List En) : PyData := .tuple [.str "choice", .tuple (es.filterMap (caseStep met fs)), (enNum fs 0).elim .none fun f => .str f.name]
def likeStep (met : List Pr) (es : List En) (f : En) : Option PyData := match enNum es f.num, f.of with
  | some e, some b => match e.of with
    | some a => some (.tuple [.int f.num, .str f.name, .int (placeS met (a, b)), .tuple e.left.toList])
    | none => none
  | _, _ => none
def leftStep (es : List En) (f : En) : Option PyData := match enNum es f.num with
  | some _ => none
  | none => f.left.map fun d => .tuple [.str f.name, d]
def lackStep (es : List En) (f : En) : Option PyData := match enNum es f.num, f.left with
  | none, none => some (.str f.name)
  | _, _ => none
def nodeD (met : List Pr) (es fs : List En) (kind : Str) : PyData := .tuple [.str "node", .str kind, .tuple (fs.filterMap (likeStep met es)), .tuple (fs.filterMap (leftStep es)), .tuple (fs.filterMap (lackStep es))]
def stepD (A B : Scm) (met : List Pr) : So → So → PyData
  | .num _ _, .num c d => (So.num c d).pd
  | .txt _, .txt b => (So.txt b).pd
  | .tru, .tru => .tuple [.str "truth"]
  | .row a s, .row b t => .tuple [.str "row", .int b, .int (if a > 0 ∧ b > 0 then placeS met (s, t) else -1)]
  | .cho k, .cho l => choiceD met (A.c k) (B.c l)
  | .nod k, .nod l => nodeD met (A.k k) (B.k l) l
  | .may a, .may b => .tuple [.str "maybe", .int (placeS met (a, b))]
  | .may a, n => .tuple [.str "force", .int (placeS met (a, n))]
  | o, .may b => .tuple [.str "wrap", .int (placeS met (o, b))]
  | _, _ => .tuple [.str "bad"]
def madeD (A B : Scm) (met : List Pr) : List PyData := met.map fun p => stepD A B met p.1 p.2
end Tw
namespace K34
open PySem PySem.Spec PyProof.Rows L2 Tw Sb LamX
def spPW (K : PySem.W.Frag) : Sp := fun vs H Q _ => ∃ (v : V) (o n : So), vs = [v] ∧ Td K H v (.tuple [o.pd, n.pd]) ∧ Q (.str (pwS o n)) H
def spInner (K : PySem.W.Frag) : Sp := fun vs H Q _ => ∃ (v : V) (o n : So), vs = [v] ∧ Td K H v (.tuple [o.pd, n.pd]) ∧ (pwS o n = "row" ∨ pwS o n = "maybe" ∨ pwS o n = "force" ∨ pwS o n = "wrap") ∧ ∀ (H' : Hp) (t : Addr), Same H H' → Td K H' (.ref t) (.tuple [(inO o n).pd, (inN o n).pd]) → Q (.ref t) H'
/-- what a row's search tells -/
def OE (K : PySem.W.Frag) (H : Hp) (u : V) : Option En → Prop
  | none => u = .non
  | some e => Td K H u e.pd
def spByNum (K : PySem.W.Frag) : Sp := fun vs H Q _ => ∃ (a : Addr) (xs : List V) (es : List En) (k : Int), vs = [.ref a, .int k] ∧ SqT K H a xs ∧ Tds K H xs (es.map En.pd) ∧ ∀ u, OE K H u (enNum es k) → Q u H
section
variable {P : Program} {w : World} {K : PySem.W.Frag} {mg : Str → Option Value} {base : Heap}
theorem ok_pair_word {f : Addr} {fd : FuncData} (F : Fun K "pair_word" "pair_word" s_pair_word f fd) : FnOk P w K mg base CX0 1 f fd ["pair"] (spPW K) := by
  refine F.ok sc_pair_word (fun vs H Q E h => ?_) (fun cdv A outer s H vs Q E hr h => ?_)
  · obtain ⟨v, o, n, rfl, _⟩ := h
    rfl
  · obtain ⟨v, o, n, rfl, ht, q⟩ := h
    refine ⟨_, (pss_cons (ps_asg (pv 0) (pg_tup rfl (pgs_cons (pg_name (i := 1) sc_pair_word.nd rfl (.inl rfl)) (pgs_cons (pg_name (i := 2) sc_pair_word.nd rfl (.inl rfl)) pgs_nil))))
      (pss_cons (ps_if (pt_cmpR op_eq (pe_ix (r := rIxT K) ix_tup (pv 1) pe_int (fun _ _ => rfl)) (pe_ix (r := rIxT K) ix_tup (pv 2) pe_int (fun _ _ => rfl)) (nomark _))
        (pss_one (ps_ret (pe_ix (r := rIxT K) ix_tup (pv 1) pe_int (fun _ _ => rfl))))
        pss_nil)
      (pss_cons (ps_if (pt_cmpR op_eq (pe_ix (r := rIxT K) ix_tup (pv 1) pe_int (fun _ _ => rfl)) pe_str (nomark _))
        (pss_one (ps_ret pe_str))
        pss_nil)
      (pss_one (ps_ret (pe_ifExp (pt_cmpR op_eq (pe_ix (r := rIxT K) ix_tup (pv 2) pe_int (fun _ _ => rfl)) pe_str (nomark _)) pe_str pe_str)))))), ?_⟩
    obtain ⟨p, x, y, rfl, hp, hx, hy⟩ := ht.pair
    obtain ⟨px, zx, rfl, hpx, _⟩ := hx.sort
    obtain ⟨py, zy, rfl, hpy, _⟩ := hy.sort
    have rd : ∀ {r : Addr} {z : List V} {s : So} {Qq : VK}, SqT K H r (.str s.word :: z) → Qq (.str s.word) H → rIxT K (.ref r) (.int 0) H Qq := fun h q => ⟨_, _, 0, _, rfl, rfl, h, at0, q⟩
    refine ⟨_, rfl, p, _, rfl, hp, rfl, _, _, rfl, _, _, rfl, rfl, ?_⟩
    unfold pwS at q
    refine ⟨_, rfl, px, _, 0, _, rfl, rfl, hpx, at0, _, rfl, py, _, 0, _, rfl, rfl, hpy, at0, rfl, _, rfl, ?_⟩
    by_cases h1 : o.word = n.word
    · rw [if_pos h1] at q
      exact iteY (congrArg V.str h1) ⟨_, rfl, px, _, 0, _, rfl, rfl, hpx, at0, q⟩
    · rw [if_neg h1] at q
      refine iteN (sne h1) ?_
      refine ⟨_, rfl, px, _, 0, _, rfl, rfl, hpx, at0, rfl, _, rfl, ?_⟩
      by_cases h2 : o.word = "maybe"
      · rw [if_pos h2] at q
        exact iteY (congrArg V.str h2) q
      · rw [if_neg h2] at q
        refine iteN (sne h2) ?_
        refine ⟨_, rfl, py, _, 0, _, rfl, rfl, hpy, at0, rfl, _, rfl, ?_⟩
        by_cases h3 : n.word = "maybe"
        · rw [if_pos h3] at q
          exact iteY (congrArg V.str h3) q
        · rw [if_neg h3] at q
          exact iteN (sne h3) q
theorem ok_inner_pair {f : Addr} {fd : FuncData} (F : Fun K "inner_pair" "inner_pair" s_inner_pair f fd) (c_pair_word : Cal P w K mg base 1 "pair_word" ["pair"] (spPW K)) : FnOk P w K mg base CX0 2 f fd ["pair"] (spInner K) := by
  refine F.ok sc_inner_pair (fun vs H Q E h => ?_) (fun cdv A outer s H vs Q E hr h => ?_)
  · obtain ⟨v, o, n, rfl, _⟩ := h
    rfl
  · obtain ⟨v, o, n, rfl, ht, hw, q⟩ := h
    refine ⟨_, (pss_cons (ps_asg (pv 0) (pg_tup rfl (pgs_cons (pg_name (i := 1) sc_inner_pair.nd rfl (.inl rfl)) (pgs_cons (pg_name (i := 2) sc_inner_pair.nd rfl (.inl rfl)) pgs_nil))))
      (pss_cons (ps_set (i := 3) sc_inner_pair.nd rfl (.inl rfl) (pe_cal c_pair_word hr (by decide) (by rfl) (pa_cons (pv 0) pa_nil)))
      (pss_cons (ps_if (pt_cmpR op_eq (pv 3) pe_str (nomark _))
        (pss_one (ps_ret (pe_tup (pa_cons (pe_ix (r := rIxT K) ix_tup (pv 1) pe_int (fun _ _ => rfl)) (pa_cons (pe_ix (r := rIxT K) ix_tup (pv 2) pe_int (fun _ _ => rfl)) pa_nil)))))
        pss_nil)
      (pss_one (ps_ret (pe_tup (pa_cons (pe_ifExp (pt_cmpR op_eq (pv 3) pe_str (nomark _)) (pv 1) (pe_ix (r := rIxT K) ix_tup (pv 1) pe_int (fun _ _ => rfl))) (pa_cons (pe_ifExp (pt_cmpR op_eq (pv 3) pe_str (nomark _)) (pv 2) (pe_ix (r := rIxT K) ix_tup (pv 2) pe_int (fun _ _ => rfl))) pa_nil)))))))), ?_⟩
    obtain ⟨p, x, y, rfl, hp, hx, hy⟩ := ht.pair
    obtain ⟨px, zx, rfl, hpx, hzx⟩ := hx.sort
    obtain ⟨py, zy, rfl, hpy, hzy⟩ := hy.sort
    refine ⟨_, rfl, p, _, rfl, hp, rfl, _, _, rfl, _, _, rfl, rfl, ?_⟩
    refine ⟨_, rfl, .ref p, o, n, rfl, ht, ?_⟩
    have fin : ∀ (u v : V), Td K H u (inO o n).pd → Td K H v (inN o n).pd → ∀ a, H a = none → Q (.ref a) (upd H a (.tup [u, v])) := fun u v hu hv a ha =>
      q _ a (same_upd ha) (.tup (SqT.of upd_same) (.cons (hu.keep (KeepT.same (same_upd ha))) (.cons (hv.keep (KeepT.same (same_upd ha))) .nil)))
    have k := pkn_of o n
    generalize pwS o n = W at hw k ⊢
    cases k with
    | num a b c d => exact absurd hw (by decide +kernel)
    | tru => exact absurd hw (by decide +kernel)
    | txt a b => exact absurd hw (by decide +kernel)
    | cho a b => exact absurd hw (by decide +kernel)
    | nod a b => exact absurd hw (by decide +kernel)
    | bad o n h1 h2 h3 => exact absurd hw (by decide +kernel)
    | row a s b t =>
      obtain ⟨x1, x2, rfl, h1, h2⟩ := hzx.c2
      obtain ⟨y1, y2, rfl, h3, h4⟩ := hzy.c2
      refine ⟨_, rfl, rfl, _, rfl, iteY rfl ?_⟩
      exact ⟨_, rfl, px, _, 2, _, rfl, rfl, hpx, at2, _, rfl, py, _, 2, _, rfl, rfl, hpy, at2, by show 2 ≤ sizeLine; decide, fin x2 y2 h2 h4⟩
    | may a b =>
      obtain ⟨x1, rfl, h1⟩ := hzx.c1
      obtain ⟨y1, rfl, h2⟩ := hzy.c1
      refine ⟨_, rfl, rfl, _, rfl, iteN (sne (by decide +kernel)) ?_⟩
      exact ⟨_, rfl, rfl, _, rfl, iteN (sne (by decide +kernel)) ⟨_, rfl, px, _, 1, _, rfl, rfl, hpx, at1, _, rfl, rfl, _, rfl, iteN (sne (by decide +kernel)) ⟨_, rfl, py, _, 1, _, rfl, rfl, hpy, at1, by show 2 ≤ sizeLine; decide, fin x1 y1 h1 h2⟩⟩⟩
    | force a n hn' =>
      obtain ⟨x1, rfl, h1⟩ := hzx.c1
      have e : inN (.may a) n = n := by cases n <;> first | rfl | exact absurd hn' (show ¬ (true = false) by decide)
      refine ⟨_, rfl, rfl, _, rfl, iteN (sne (by decide +kernel)) ?_⟩
      exact ⟨_, rfl, rfl, _, rfl, iteN (sne (by decide +kernel)) ⟨_, rfl, px, _, 1, _, rfl, rfl, hpx, at1, _, rfl, rfl, _, rfl, iteY rfl ⟨_, rfl, by show 2 ≤ sizeLine; decide, fin x1 _ h1 (by rw [e]; exact hy)⟩⟩⟩
    | wrap o b ho' =>
      obtain ⟨y1, rfl, h1⟩ := hzy.c1
      have e : inO o (.may b) = o := by cases o <;> first | rfl | exact absurd ho' (show ¬ (true = false) by decide)
      have e2 : inN o (.may b) = b := by cases o <;> rfl
      refine ⟨_, rfl, rfl, _, rfl, iteN (sne (by decide +kernel)) ?_⟩
      exact ⟨_, rfl, rfl, _, rfl, iteY rfl ⟨_, rfl, _, rfl, rfl, _, rfl, iteN (sne (by decide +kernel)) ⟨_, rfl, py, _, 1, _, rfl, rfl, hpy, at1, by show 2 ≤ sizeLine; decide, fin _ y1 (by rw [e]; exact hx) (by rw [e2]; exact h1)⟩⟩⟩
theorem find_next {α : Type} {p : α → Bool} {es : List α} {i : Nat} {e : α} (h : es.find? p = (es.drop i).find? p) (he : es[i]? = some e) (hp : p e = false) : es.find? p = (es.drop (i + 1)).find? p := by
  obtain ⟨hi, rfl⟩ := List.getElem?_eq_some_iff.mp he
  rw [h, List.drop_eq_getElem_cons hi, List.find?_cons, hp]
theorem find_here {α : Type} {p : α → Bool} {es : List α} {i : Nat} {e : α} (h : es.find? p = (es.drop i).find? p) (he : es[i]? = some e) (hp : p e = true) : es.find? p = some e := by
  obtain ⟨hi, rfl⟩ := List.getElem?_eq_some_iff.mp he
  rw [h, List.drop_eq_getElem_cons hi, List.find?_cons, hp]
theorem en_at {H : Hp} {xs : List V} {es : List En} {i : Nat} {v : V} (h : Tds K H xs (es.map En.pd)) (hv : xs[i]? = some v) : ∃ e, es[i]? = some e ∧ Td K H v e.pd := by
  obtain ⟨d, hd, ht⟩ := Tds.at_ h hv
  rw [List.getElem?_map] at hd
  obtain ⟨e, he, rfl⟩ := Option.map_eq_some_iff.mp hd
  exact ⟨e, he, ht⟩
theorem en_row {H : Hp} {v : V} {e : En} (h : Td K H v e.pd) : ∃ p u r, v = .ref p ∧ SqT K H p (.int e.num :: .str e.name :: u :: r) ∧ Td K H u (e.of.elim .none So.pd) ∧ Tds K H r e.left.toList := by
  obtain ⟨p, zs, rfl, hp, hz⟩ := Td.row (show Td K H v (.tuple (.int e.num :: .str e.name :: e.of.elim .none So.pd :: e.left.toList)) from h)
  cases hz with
  | cons t1 t2 =>
    cases t2 with
    | cons t2 t3 =>
      cases t3 with
      | cons t3 t4 =>
        obtain rfl := t1.toInt
        obtain rfl := t2.toStr
        exact ⟨p, _, _, rfl, hp, t3, t4⟩
theorem ok_by_number {f : Addr} {fd : FuncData} (F : Fun K "by_number" "by_number" s_by_number f fd) : FnOk P w K mg base CX0 1 f fd ["row", "number"] (spByNum K) := by
  refine F.ok sc_by_number (fun vs H Q E h => ?_) (fun cdv A outer s H vs Q E hr h => ?_)
  · obtain ⟨a, xs, es, k, rfl, _⟩ := h
    rfl
  · obtain ⟨a, xs, es, k, rfl, ha, hx, q⟩ := h
    refine ⟨_, (pss_cons (ps_for PassesOwn.never rfl (pi_tup (pv 0)) (pg_name (i := 2) sc_by_number.nd rfl (.inl rfl))
        (pss_one (ps_if (pt_cmpR op_eq (pe_ix (r := rIxT K) ix_tup (pv 2) pe_int (fun _ _ => rfl)) (pv 1) (nomark _))
          (pss_one (ps_ret (pv 2)))
          pss_nil)))
      (pss_one (ps_ret pe_non))), ?_⟩
    have hl := hx.len
    rw [List.length_map] at hl
    refine ⟨_, rfl, a, rfl, ⟨_, ha⟩, ?_⟩
    refine for_it (walk_tup (K := K) (a := a) (xs := xs)) (fun i σ H' => ∃ (y2 : Option V), σ = [some (.ref a), some (.int k), y2] ∧ H' = H ∧ enNum es k = (es.drop i).find? fun e => decide (e.num = k)) ⟨_, rfl, rfl, rfl⟩ (fun _ _ _ _ ⟨_, _, e, _⟩ => e ▸ ha) ?_ ?_
    · rintro i x σ H2 H3 hi ⟨y2, rfl, rfl, hd⟩ ⟨rfl, hv⟩
      obtain ⟨e, he, ht⟩ := en_at hx hv
      obtain ⟨p, u, r, rfl, hp, _⟩ := en_row ht
      refine ⟨_, rfl, p, _, 0, _, rfl, rfl, hp, at0, _, rfl, rfl, _, rfl, ?_⟩
      by_cases h : e.num = k
      · refine iteY (congrArg V.int h) ⟨_, rfl, q _ ?_⟩
        rw [show enNum es k = some e from find_here hd he (decide_eq_true h)]
        exact ht
      · exact iteN (fun z => h (by injection z)) ⟨_, rfl, rfl, find_next hd he (decide_eq_false h)⟩
    · rintro σ H2 ⟨y2, rfl, rfl, hd⟩
      refine q _ ?_
      rw [hl, List.drop_length] at hd
      rw [hd]
      exact rfl
end
end K34
/-! TkE: x not in a tuple of told things; != of told things, equal or not. -/
namespace Tw
open PySem PySem.Spec PyProof.Rows L2
def rNotInT (K : PySem.W.Frag) : R2 := fun x y H Q => ∃ d ds, Td K H x d ∧ Td K H y (.tuple ds) ∧ PyData.depth d ≤ 50 ∧ Q (.bl (!ds.any fun z => PyData.eqv z d)) H
theorem op_notInT {X : Cx} (hu : X.A.units + 64 < cLine) : OpR X (compareOp .NotIn) (rNotInT X.K) := by
  intro pins s σ H x y v u Q I rx ry h
  obtain ⟨d, ds, hx, hy, hd, q⟩ := h
  obtain ⟨as, r1⟩ := Dp.reads I d x v hx.dp rx
  obtain ⟨bs, r2⟩ := Dp.reads I (.tuple ds) y u hy.dp ry
  have hp : PyData.plainAll ds = true := by
    have h := hy.plain
    rw [PyData.plain] at h
    exact h
  exact SeqAt.notIn_tuple_data r2 r1 hp hx.plain (by have := Nat.min_le_right (PyData.depthAll ds) d.depth; omega) ⟨.bl _, H, I, rfl, q⟩
/-- a != b -/
def rNeG (K : PySem.W.Frag) : R2 := fun x y H Q => ∃ d e, Dp K H x d ∧ Dp K H y e ∧ d.plain = true ∧ e.plain = true ∧ PyData.depth d ≤ 60 ∧ Q (.bl (!PyData.eqv d e)) H
theorem op_neG {X : Cx} (hu : X.A.units + 64 < cLine) : OpR X (compareOp .NotEq) (rNeG X.K) := by
  intro pins s σ H x y v u Q I rx ry h
  obtain ⟨d, e, hx, hy, pd, pe, hd, q⟩ := h
  obtain ⟨as, r1⟩ := Dp.reads I d x v hx rx
  obtain ⟨bs, r2⟩ := Dp.reads I e y u hy ry
  exact SeqAt.ne_plain r1 r2 pd pe (by have := Nat.min_le_left d.depth e.depth; omega) ⟨.bl _, H, I, rfl, q⟩
end Tw
/-! TwA3: () + t; zip of two tuples in a comprehension. -/
namespace Tw
open PySem PySem.Spec PyProof.Rows L2 Sb
section
variable {K : PySem.W.Frag} {a b : Addr} {xs ys : List V}
theorem walk_zipT {n : Nat} (hn : n = min xs.length ys.length) : Walk (RZ.ItzT K a b) n (fun H => SqT K H a xs ∧ SqT K H b ys) (YPair (fun i => xs[i]?) (fun i => ys[i]?)) := by
  subst hn
  refine ⟨fun i _ hi q => ?_, fun _ q => ⟨xs, ys, q.1, q.2, by omega⟩, fun i H v H' _ q y => ?_⟩
  · have h1 : i < xs.length := by omega
    have h2 : i < ys.length := by omega
    exact ⟨xs, ys, xs[i], ys[i], q.1, q.2, by simp [h1], by simp [h2]⟩
  · obtain ⟨T, x, z, h1, h2, h3, h4, h5⟩ := y
    exact ⟨T, x, z, h1, h2, h3, h4 xs q.1, h5 ys q.2⟩
end
/-- t + u, u not empty -/
def rCatP (K : PySem.W.Frag) : R2 := fun x y H Q => ∃ a b xs ys, x = .ref a ∧ y = .ref b ∧ SqT K H a xs ∧ SqT K H b ys ∧ ys ≠ [] ∧ xs.length + ys.length ≤ sizeLine ∧ ∀ (H' : Hp) (t : Addr), Same H H' → SqT K H' t (xs ++ ys) → Q (.ref t) H'
theorem op_catP {X : Cx} : OpR X (binaryOp .Add) (rCatP X.K) := by
  intro pins s σ H x y v u Q I rx ry h
  obtain ⟨a, b, xs, ys, rfl, rfl, ha, hb, hy, hz, q⟩ := h
  exact op_catA pins s σ H _ _ v u Q I rx ry ⟨a, b, xs, ys, rfl, rfl, ha, hb, hz, fun e => q H b (Same.refl H) (by rw [e]; exact hb), fun _ e => absurd e hy, fun _ _ p hp => q _ p (same_upd hp) (SqT.of upd_same)⟩
/-- enumerate of a tuple -/
def iEnT (K : PySem.W.Frag) (ta : TA) : TI := fun σ H R => ta σ H fun vs H1 => ∃ a xs, vs = [.ref a] ∧ SqT K H1 a xs ∧ R (ItrC K a 0 true) H1
theorem pi_enT {X : Cx} {es : List Expr} {kx : Nat} {tp : Pos} {e : Expr} {ta : TA} {p pos : Pos} (hg : Gl X "enumerate") (hm : X.mg "enumerate" = none) (ha : PA X [e] ta) (hs : starEach [e] X.env = [(false, eval e X.env)] := by rfl) :
    PI X (.Tuple es kx tp) (.Call (.Name "enumerate" p) [e] [] pos) (iEnT X.K ta) := by
  refine ⟨fun pins s σ H R I h => Call_ (ld_blt I hg hm boot_enumerate (PyProof.Rows.callWith_type1 (thn (ha.run pos pins s σ H _ I h) fun us s1 hh => ?_) hs rfl))⟩
  obtain ⟨vs, H1, I1, rv, a, xs, rfl, hr, q⟩ := hh
  rw [Vals.ref1 rv]
  obtain ⟨its, _, pl, _⟩ := I1.tuple hr
  have lt : a < s1.heap.objs.size := by obtain ⟨_, z, _⟩ := pl; exact Heap.lt_size z
  exact en1_begins (begins_tuple a its.toArray) pl fun h' he hi hk => en_pie (b := true) I1 lt he ⟨_, hi, rfl, rfl⟩ hk q
end Tw
/-! TwTry: several except clauses, some of them with a name. -/
namespace Tw
open PySem PySem.Spec PyProof.Rows L2 Sb
abbrev Wish := Ends → WX
/-- the clauses, each with its class and its wish -/
def wMix (K : PySem.W.Frag) (Wout : WX) (D : Ends) (l : List (Value × Wish)) : WX :=
  l.foldr (fun y r cls d σ H => ∃ b, PySem.W.exmOne K cls y.1 = some b ∧ (b = true → y.2 D cls d σ H) ∧ (b = false → r cls d σ H)) Wout
/-- a suite's wish, where no name is bound -/
def wBare (ts : Addr → Value → Option Addr → TS) : Wish := fun D cls d σ H => ∀ a, H a = none → ts a cls d D σ H
/-- what ends behind the suite whose name's slot is i -/
def gone (D : Ends) (i : Nat) : Ends := { nx := fun σ H => D.nx (σ.set i none) H, rt := D.rt, bk := fun σ H => D.bk (σ.set i none) H, ct := fun σ H => D.ct (σ.set i none) H }
def wNamed (i : Nat) (ts : Addr → Value → Option Addr → TS) : Wish := fun D cls d σ H => ∀ a, H a = none → ts a cls d (gone D i) (σ.set i (some (.ref a))) H
abbrev SuiteOk (X : Cx) (suite : List Stmt) (ts : Addr → Value → Option Addr → TS) : Prop :=
  ∀ (a : Addr) (oe : Obj) (cls : Value) (d : Option Addr) (pn : List (Addr × Obj)), Zc cls d oe → (∃ vs, oe.data = .fields vs) → PSs (X.suite a ((a, oe) :: pn)) suite (ts a cls d)
inductive Mix (X : Cx) : List ExceptHandler → List (Value × Wish) → Prop
  | nil : Mix X [] []
  | bare {x : Str} {c : Value} {ts : Addr → Value → Option Addr → TS} {b₀ : Stmt} {bs : List Stmt} {p1 p2 : Pos} {hs : List ExceptHandler} {l : List (Value × Wish)} (hc : Names X x c) (hsu : SuiteOk X (b₀ :: bs) ts) (r : Mix X hs l) :
      Mix X (.ExceptHandler (some (.Name x p1)) none (b₀ :: bs) p2 :: hs) ((c, wBare ts) :: l)
  | named {x n : Str} {i : Nat} {c : Value} {ts : Addr → Value → Option Addr → TS} {b₀ : Stmt} {bs : List Stmt} {p1 p2 : Pos} {hs : List ExceptHandler} {l : List (Value × Wish)} (hi : X.N[i]? = some n) (hn : X.env.kindOf n = some .local) (hc : Names X x c) (hsu : SuiteOk X (b₀ :: bs) ts) (r : Mix X hs l) :
      Mix X (.ExceptHandler (some (.Name x p1)) (some n) (b₀ :: bs) p2 :: hs) ((c, wNamed i ts) :: l)
section
variable {X : Cx} {pins : List (Addr × Obj)} {σ : L2.St} {H : Hp} {a : Addr} {B : Heap} {sI s : Shared} {cls : Value} {d : Option Addr}
/-- the error at a, raised where slots and heap were σ and H, has landed in the try's own frame -/
structure Landed (X : Cx) (pins : List (Addr × Obj)) (σ : L2.St) (H : Hp) (a : Addr) (B : Heap) (sI : Shared) (cls : Value) (d : Option Addr) (s : Shared) : Prop where
  inv : Inv X pins σ H sI
  kept : ∀ b o, sI.heap.get? b = some o → b ∉ frs X.stack → B.get? b = some o
  up : sI.heap.UpToSlots s.heap
  fly : HandSPX.FlyingZ B (X.env :: X.outer) a (Zc cls d) s.heap
  new : H a = none
  os : s.os = sI.os
  bare : AllBare s.gens
/-- the error's object is no frame -/
theorem Landed.far (L : Landed X pins σ H a B sI cls d s) (hf : X.env.frame = some X.env.locals) : a ≠ X.env.locals ∧ a ∉ X.fs := by
  obtain ⟨o, _, e, _, dt⟩ := L.fly.there
  have no : ∀ E ∈ X.env :: X.outer, E.frame ≠ some a := fun E m z => by
    obtain ⟨_, o', e', n⟩ := Heap.FunFrames.mem L.fly.2.2.1 (List.mem_filterMap.mpr ⟨E, m, z⟩)
    cases e.symm.trans e'
    exact n _ dt
  exact ⟨fun z => no X.env List.mem_cons_self (z ▸ hf), fun m => let ⟨E, m, z⟩ := List.mem_filterMap.mp m; no E (List.mem_cons_of_mem _ m) z⟩
theorem Landed.here (L : Landed X pins σ H a B sI cls d s) : Inv X pins σ H s := L.inv.landed L.kept L.fly.1 L.up L.os L.bare
/-- .. and what a suite starts with -/
theorem Landed.suite (L : Landed X pins σ H a B sI cls d s) (hf : X.env.frame = some X.env.locals) : ∃ oe, s.heap.get? a = some oe ∧ Zc cls d oe ∧ (∃ vs, oe.data = .fields vs) ∧ Inv (X.suite a ((a, oe) :: (X.pn ++ pins))) [] σ H s :=
  let ⟨oe, _, e, z, dt⟩ := L.fly.there
  ⟨oe, e, z, ⟨_, dt⟩, L.here.suite e dt L.new (L.far hf).1 (L.far hf).2⟩
/-- the marks are set anew -/
theorem Landed.again (L : Landed X pins σ H a B sI cls d s) {A : Around} {Q : Unit → Shared → Prop} {E : Value → Shared → Prop} (k : ∀ s4, Landed X pins σ H a B sI cls d s4 → Q () s4) : wpAny (model X.prog X.w) A (setFlight (.ref a) none) Q E s :=
  HandSPX.lands_againZ L.fly fun h f u => k { s with heap := h } ⟨L.inv, L.kept, L.up.trans u, f, L.new, L.os, L.bare⟩
/-- is it one of the class that x names? -/
theorem Landed.asked (L : Landed X pins σ H a B sI cls d s) (hf : X.env.frame = some X.env.locals) {x : Str} {c : Value} {b : Bool} {p : Pos} {A : Around} {Q : Bool → Shared → Prop} {E E' : Value → Shared → Prop} (hc : Names X x c) (hb : PySem.W.exmOne X.K cls c = some b) (q : Q b s) :
    wpAny (model X.prog X.w) (X.A.mark (some (.ref a))) (eval (.Name x p) X.env) (fun u s1 => wpAny (model X.prog X.w) A (excMatches (.ref a) u) Q E' s1) E s := by
  obtain ⟨oe, e, z, _, S⟩ := L.suite hf
  have ty : PySem.W.Looks (model X.prog X.w) s.heap (typeOf (.ref a)) cls := fun _ _ _ s1 k r => wpAny_typeOf_ref (k a oe e) (z.1 ▸ r)
  have r : wpAny (model X.prog X.w) A (excMatches (.ref a) c) Q E' s := (PySem.W.exm_one (M := model X.prog X.w) L.here.kIn ty hb).here q
  obtain ⟨g, nd, m | ⟨m, v, n⟩⟩ := hc
  · exact ld_glob (X := X.suite a ((a, oe) :: (X.pn ++ pins))) S g m r nd
  · exact ld_blt (X := X.suite a ((a, oe) :: (X.pn ++ pins))) S g m v r n nd
/-- no clause is left: it is raised out -/
theorem Landed.out {Wout : WX} {Q : Flow → Shared → Prop} (L : Landed X pins σ H a B sI cls d s) (hs : X.stack = X.env :: X.outer) (hf : X.env.frame = some X.env.locals) (tk : Takes X Wout) (w : Wout cls d σ H) : wpAny (model X.prog X.w) X.A (handleBy (.ref a) X.env []) Q X.xe s := by
  have fly : wpAny (model X.prog X.w) X.A (setFlight (.ref a) X.env.frame) (fun _ s4 => wpAny (model X.prog X.w) X.A (throw (.ref a) : Sem Flow) Q X.xe s4) X.xe s := hf ▸ HandSPX.setFlight_upZ L.fly fun h k u => wpAny_throw (tk _ _
    ⟨a, B, sI, pins, σ, H, cls, d, rfl, L.inv, L.kept, L.up.trans u, Or.inr (Or.inr (hs ▸ k)), L.new, L.os, L.bare, w⟩)
  apply wpAny_handleBy_nil
  unfold PySem.passOn
  obtain ⟨_, _, _, oe, vs, T, _, _, e, _, dt, cl, _⟩ := id L.fly
  refine wpAny_bind (wpAny_field e dt cl ?_)
  have nn : ¬ (Value.ref T == Value.none) = true := by simp
  rw [if_neg nn]
  first | exact wpAny_bind (wpAny_pure (wpAny_bind fly)) | exact wpAny_bind fly
/-- a suite's end, told of the def around -/
theorem unsuited {D : Ends} (ok : X.Ok) {oe : Obj} : ∀ {f : Flow}, SP (X.suite a ((a, oe) :: (X.pn ++ pins))) [] D f s → SP X pins D f s
  | .next, ⟨_, _, S, q⟩ => ⟨_, _, S.unsuite ok, q⟩
  | .brk, ⟨_, _, S, q⟩ => ⟨_, _, S.unsuite ok, q⟩
  | .cont, ⟨_, _, S, q⟩ => ⟨_, _, S.unsuite ok, q⟩
  | .ret _, ⟨_, _, _, S, r, q⟩ => ⟨_, _, _, S.unsuite ok, r, q⟩
/-- .. whose name goes -/
theorem unnamed {D : Ends} {i : Nat} {n : Str} {p : Pos} (hN : X.N.Nodup) (hi : X.N[i]? = some n) (hn : X.env.kindOf n = some .local) : ∀ {f : Flow}, SP X pins (gone D i) f s → wpAny (model X.prog X.w) X.A (do bindName X.env n .none; unbindBehindTheSuite X.env n p) (fun _ s7 => SP X pins D f s7) X.xe s
  | .next, ⟨_, _, J, q⟩ => gone_ok J hN hi hn fun _ J7 => ⟨_, _, J7, q⟩
  | .brk, ⟨_, _, J, q⟩ => gone_ok J hN hi hn fun _ J7 => ⟨_, _, J7, q⟩
  | .cont, ⟨_, _, J, q⟩ => gone_ok J hN hi hn fun _ J7 => ⟨_, _, J7, q⟩
  | .ret _, ⟨_, _, _, J, r, q⟩ => gone_ok J hN hi hn fun _ J7 => ⟨_, _, _, J7, r, q⟩
theorem untried {D : Ends} {xe : Value → Shared → Prop} (ok : X.Ok) : ∀ {f : Flow}, SP (X.tr (X.pn ++ pins) xe) [] D f s → SP X pins D f s
  | .next, ⟨_, _, J, q⟩ => ⟨_, _, J.ofTry ok, q⟩
  | .brk, ⟨_, _, J, q⟩ => ⟨_, _, J.ofTry ok, q⟩
  | .cont, ⟨_, _, J, q⟩ => ⟨_, _, J.ofTry ok, q⟩
  | .ret _, ⟨_, _, _, J, r, q⟩ => ⟨_, _, _, J.ofTry ok, r, q⟩
/-- the clauses, one after the other -/
theorem mix_go {Wout : WX} {D : Ends} (hs : X.stack = X.env :: X.outer) (hf : X.env.frame = some X.env.locals) (hN : X.N.Nodup) (tk : Takes X Wout) (L : Landed X pins σ H a B sI cls d s) {hds : List ExceptHandler} {l : List (Value × Wish)} (hh : Mix X hds l) :
    wMix X.K Wout D l cls d σ H → wpAny (model X.prog X.w) X.A (handleBy (.ref a) X.env hds) (SP X pins D) X.xe s := by
  have ok := L.inv.ok
  induction hh with
  | nil => exact L.out hs hf tk
  | bare hc hsu r ih =>
    rintro ⟨b, hb, yes, no⟩
    apply wpAny_handleBy_cons (codeAny_handlers_test (L.asked hf hc hb ?_)) (fun z => nomatch z)
    cases b with
    | false => exact ih (no rfl)
    | true => exact codeAny_handlers_suite (L.again fun s4 L4 => let ⟨oe, _, z, dt, S⟩ := L4.suite hf
        wpAny_mono ((hsu a oe cls d (X.pn ++ pins) z dt).run [] s4 σ H _ S (yes rfl a L.new)) (fun _ _ q => unsuited ok q) fun _ _ x => x.elim)
  | named hi hn hc hsu r ih =>
    rintro ⟨b, hb, yes, no⟩
    apply wpAny_handleBy_cons (codeAny_handlers_test (L.asked hf hc hb ?_)) (fun z => nomatch z)
    cases b with
    | false => exact ih (no rfl)
    | true => exact codeAny_handlers_suite_as (L.again fun s4 L4 => let ⟨oe, _, z, dt, S⟩ := L4.suite hf
        store_ok (X := X.suite a ((a, oe) :: (X.pn ++ pins))) (v := .ref a) S hN hi (.inl hn) rfl (fun s5 S5 =>
          wpAny_mono ((hsu a oe cls d (X.pn ++ pins) z dt).run [] s5 _ H _ S5 (yes rfl a L.new)) (fun _ _ q => unnamed hN hi hn (unsuited ok q)) fun _ _ x => x.elim) (.inr hn))
end
/-- try: body, and clauses of any kind -/
theorem ps_try_mix {X : Cx} {body : List Stmt} {h₀ : ExceptHandler} {hds : List ExceptHandler} {l : List (Value × Wish)} {pos : Pos} {tb : WX → TS} {Wout : WX} (hs : X.stack = X.env :: X.outer) (hf : X.env.frame = some X.env.locals) (hN : X.N.Nodup) (tk : Takes X Wout)
    (hb : ∀ (W : WX) (pn : List (Addr × Obj)) (xe : Value → Shared → Prop), Takes (X.tr pn xe) W → PassesOwn (model X.prog X.w) X.A X.env xe → PSs (X.tr pn xe) body (tb W)) (hh : Mix X (h₀ :: hds) l) :
    PS X (.Try body (h₀ :: hds) [] [] pos) (fun D σ H => tb (wMix X.K Wout D l) D σ H) := by
  constructor
  intro pins s0 σ H D I h
  apply wpAny_Try_except
  apply wpAny_mono ((hb (wMix X.K Wout D l) (X.pn ++ pins) _ ?_ PassesOwn.looking).run [] s0 σ H D (I.toTry _) h) (fun f s1 q => ?_) fun _ _ x => x
  · rintro _ s' ⟨a, B, sI, _, σ', H', cls, d, rfl, J, nb, up, sky, na, os, ag, w⟩
    have sky : Sky B (X.env :: X.outer) a (Zc cls d) X.env.locals s'.heap := by rw [← hs]; exact sky
    exact Sky.land Zc.steady (I.ok.frames.trans (congrArg some hs)) hf sky fun h3 f3 u3 => mix_go (s := { s' with heap := h3 }) hs hf hN tk ⟨J.ofTry I.ok, nb, up.trans u3, f3, na, os, ag⟩ hh w
  · cases f with
    | next => exact let ⟨_, _, J, r⟩ := q; wpAny_execs_nil ⟨_, _, J.ofTry I.ok, r⟩
    | brk => exact untried (f := .brk) I.ok q
    | cont => exact untried (f := .cont) I.ok q
    | ret u => exact untried (f := .ret u) I.ok q
end Tw
set_option maxHeartbeats 1000000
namespace K34
open PySem PySem.Spec PyProof.Rows L2 Tw Sb LamX
def odd : Option So → PyData := fun o => o.elim .none So.pd
def likeD (x : En × Option So × Option So) : PyData := .tuple [x.1.pd, .tuple [odd x.2.1, odd x.2.2]]
def intoD (x : Into) : PyData := .tuple [x.1, pairD x.2]
def scmT (tk tc : List TRow) (o : So) : Scm := ⟨chT (sortT tk), chT (sortT tc), o⟩
/-- tables that may stand together -/
structure SkOk (tk tc : List TRow) (o : So) : Prop where
  k : TabOk true (tk.map Prod.fst) (tc.map Prod.fst) tk
  c : TabOk false (tk.map Prod.fst) (tc.map Prod.fst) tc
  nk : (tk.map Prod.fst).Nodup
  nc : (tc.map Prod.fst).Nodup
  o : o.ok (tk.map Prod.fst) (tc.map Prod.fst) false
/-- a schema's object -/
def ScK (K : PySem.W.Frag) (CS : Addr) (H : Hp) (a : Addr) (tk tc : List TRow) (o : So) : Prop := ∃ (dx k1 k2 : Addr) (rv : V) (kv1 kv2 : List (Key × V)), H a = some (.ins CS dx [("kinds", .ref k1), ("choices", .ref k2), ("root", rv)]) ∧ H k1 = some (.dK kv1) ∧ Paired (RowT K H) kv1 (sortT tk) ∧ H k2 = some (.dK kv2) ∧ Paired (RowT K H) kv2 (sortT tc) ∧ Td K H rv o.pd
theorem ScK.keep {K : PySem.W.Frag} {CS : Addr} {H H' : Hp} {a : Addr} {tk tc : List TRow} {o : So} (h : ScK K CS H a tk tc o) (k : ∀ b u, H b = some u → (∀ C dx fs, u = .ins C dx fs → H' b = some u) ∧ (∀ kv, u = .dK kv → H' b = some u)) (kt : KeepT K H H') : ScK K CS H' a tk tc o := by
  obtain ⟨dx, k1, k2, rv, kv1, kv2, h1, h2, h3, h4, h5, h6⟩ := h
  exact ⟨dx, k1, k2, rv, kv1, kv2, (k _ _ h1).1 _ _ _ rfl, (k _ _ h2).2 _ rfl, pd_mono (fun _ _ h => RowT.keep kt h) h3, (k _ _ h4).2 _ rfl, pd_mono (fun _ _ h => RowT.keep kt h) h5, h6.keep kt⟩
theorem ScK.same {K : PySem.W.Frag} {CS : Addr} {H H' : Hp} {a : Addr} {tk tc : List TRow} {o : So} (h : ScK K CS H a tk tc o) (s : Same H H') : ScK K CS H' a tk tc o := h.keep (fun b o e => ⟨fun _ _ _ _ => s _ _ e, fun _ _ => s _ _ e⟩) (KeepT.same s)
theorem fs_kinds {u1 u2 rv : V} : ([((("kinds" : Str)), u1), (("choices" : Str), u2), (("root" : Str), rv)] : List (Str × V)).lookup (("kinds" : Str)) = some u1 := by
  rw [List.lookup_cons, show ((("kinds" : Str)) == ("kinds" : Str)) = true by decide +kernel]
theorem fs_choices {u1 u2 rv : V} : ([((("kinds" : Str)), u1), (("choices" : Str), u2), (("root" : Str), rv)] : List (Str × V)).lookup (("choices" : Str)) = some u2 := by
  rw [List.lookup_cons, show ((("choices" : Str)) == ("kinds" : Str)) = false by decide +kernel]
  dsimp only
  rw [List.lookup_cons, show ((("choices" : Str)) == ("choices" : Str)) = true by decide +kernel]
theorem fs_root {u1 u2 rv : V} : ([((("kinds" : Str)), u1), (("choices" : Str), u2), (("root" : Str), rv)] : List (Str × V)).lookup (("root" : Str)) = some rv := by
  rw [List.lookup_cons, show ((("root" : Str)) == ("kinds" : Str)) = false by decide +kernel]
  dsimp only
  rw [List.lookup_cons, show ((("root" : Str)) == ("choices" : Str)) = false by decide +kernel]
  dsimp only
  rw [List.lookup_cons, show ((("root" : Str)) == ("root" : Str)) = true by decide +kernel]
theorem sortT_names (tb : List TRow) : (sortT tb).map Prod.fst = tb.map Prod.fst := by
  unfold sortT
  rw [List.map_map]
  rfl
/-- the row of a name, as the schema has it -/
theorem row_get {K : PySem.W.Frag} {H : Hp} {kv : List (Key × V)} {tb : List TRow} {c : Str} (h : Paired (RowT K H) kv (sortT tb)) (n : (tb.map Prod.fst).Nodup) (hc : c ∈ tb.map Prod.fst) : ∃ (p : Addr) (xs : List V) (r : TRow), r ∈ tb ∧ chT (sortT tb) c = sortEn r.2 ∧ valV kv (.inr c) = some (.ref p) ∧ SqT K H p xs ∧ Tds K H xs ((chT (sortT tb) c).map En.pd) := by
  obtain ⟨r, hr, rfl⟩ := List.mem_map.mp hc
  have hn : ((sortT tb).map Prod.fst).Nodup := by rw [sortT_names]; exact n
  have hm : ((r.1, sortEn r.2) : TRow) ∈ sortT tb := List.mem_map.mpr ⟨r, hr, rfl⟩
  have e := chT_of hn hm
  obtain ⟨p, xs, h1, h2, h3⟩ := val_row h hn hm
  exact ⟨p, xs, r, hr, e, h1, h2, by rw [e]; exact h3⟩
theorem sortEn_len (es : List En) : (sortEn es).length = es.length := List.length_mergeSort _
def spLikes (K : PySem.W.Frag) : Sp := fun vs H Q _ => ∃ (a b : Addr) (xs ys : List V) (es fs : List En), vs = [.ref a, .ref b] ∧ SqT K H a xs ∧ SqT K H b ys ∧ Tds K H xs (es.map En.pd) ∧ Tds K H ys (fs.map En.pd) ∧ es.length ≤ 100 ∧ ∀ (H' : Hp) (D : Addr) (acc : List V), Same H H' → H D = none → H' D = some (.lst acc) → Tds K H' acc ((likesS es fs).map likeD) → Q (.ref D) H'
theorem filterMap_take {α β : Type} {f : α → Option β} {es : List α} {i : Nat} {e : α} (h : es[i]? = some e) : (es.take (i + 1)).filterMap f = (es.take i).filterMap f ++ (f e).toList := by
  rw [List.take_add_one, h]
  show (es.take i ++ [e]).filterMap f = _
  rw [List.filterMap_append, show [e].filterMap f = (f e).toList from by cases h : f e <;> simp [h]]
theorem filterMap_len {α β : Type} {f : α → Option β} {es : List α} : (es.filterMap f).length ≤ es.length := List.length_filterMap_le f es
section
variable {P : Program} {w : World} {K : PySem.W.Frag} {mg : Str → Option Value} {base : Heap}
theorem ok_likes {f : Addr} {fd : FuncData} (F : Fun K "_likes" "_likes" s__likes f fd) (c_by_number : Cal P w K mg base 1 "by_number" ["row", "number"] (spByNum K)) : FnOk P w K mg base CX0 2 f fd ["row", "new_row"] (spLikes K) := by
  refine F.ok sc__likes (fun vs H Q E h => ?_) (fun cdv A outer s H vs Q E hr h => ?_)
  · obtain ⟨a, b, xs, ys, es, fs, rfl, _⟩ := h
    rfl
  · obtain ⟨a, b, xs, ys, es, fs, rfl, ha, hb, hx, hy, hl, q⟩ := h
    refine ⟨_, (pss_cons (ps_set (i := 2) sc__likes.nd rfl (.inl rfl) (pe_lst pa_nil))
      (pss_cons (ps_for PassesOwn.never rfl (pi_tup (pv 0)) (pg_name (i := 3) sc__likes.nd rfl (.inl rfl))
        (pss_cons (ps_set (i := 4) sc__likes.nd rfl (.inl rfl) (pe_cal c_by_number hr (by decide) (by rfl) (pa_cons (pv 1) (pa_cons (pe_ix (r := rIxT K) ix_tup (pv 3) pe_int (fun _ _ => rfl)) pa_nil))))
        (pss_one (ps_if (pt_cmpR op_notN (pv 4) pe_non (nomark _))
          (pss_one (ps_expr (pe_bm PySem.F.plainAttrs_list PySem.F.slot_list_append PySem.F.type_list_append mt_append (pv 2) (pa_cons (pe_tup (pa_cons (pv 4) (pa_cons (pe_tup (pa_cons (pe_ix (r := rIxT K) ix_tup (pv 3) pe_int (fun _ _ => rfl)) (pa_cons (pe_ix (r := rIxT K) ix_tup (pv 4) pe_int (fun _ _ => rfl)) pa_nil))) pa_nil))) pa_nil))))
          pss_nil))))
      (pss_one (ps_ret (pv 2))))), ?_⟩
    have hxl := hx.len
    rw [List.length_map] at hxl
    refine ⟨by show 0 ≤ sizeLine; decide, fun D hD => ?_⟩
    refine ⟨_, rfl, a, rfl, ⟨_, KeepT.same (same_upd hD) _ _ ha⟩, ?_⟩
    refine for_it (walk_tup (K := K) (a := a) (xs := xs)) (fun i σ H' => ∃ (y3 y4 : Option V) (acc : List V), σ = [some (.ref a), some (.ref b), some (.ref D), y3, y4] ∧ Same H H' ∧ H' D = some (.lst acc) ∧ Tds K H' acc ((likesS (es.take i) fs).map likeD)) ⟨_, _, [], rfl, same_upd hD, upd_same, .nil⟩ (fun i σ H' _ h => ?_) ?_ ?_
    · obtain ⟨_, _, _, _, s, _⟩ := h
      exact KeepT.same s _ _ ha
    · rintro i x σ H2 H3 hi ⟨y3, y4, acc, rfl, s2, hD2, hacc⟩ ⟨rfl, hv⟩
      obtain ⟨e, he, hte⟩ := en_at hx hv
      have hte := hte.keep (KeepT.same s2)
      obtain ⟨pe, ue, re, rfl, hpe, hue, _⟩ := en_row hte
      have hnext : likesS (es.take (i + 1)) fs = likesS (es.take i) fs ++ (likeOf fs e).toList := filterMap_take he
      have hal : acc.length ≤ 100 := by
        have h1 := hacc.len
        rw [List.length_map] at h1
        have h2 := filterMap_len (f := likeOf fs) (es := es.take i)
        have h3 : (es.take i).length ≤ es.length := by rw [List.length_take]; omega
        unfold likesS at h1
        omega
      refine ⟨_, rfl, _, rfl, pe, _, 0, _, rfl, rfl, hpe, at0, b, ys, fs, e.num, rfl, KeepT.same s2 _ _ hb, hy.keep (KeepT.same s2), fun u hu => ?_⟩
      unfold likeOf at hnext
      cases hn : enNum fs e.num with
      | none =>
        rw [hn] at hu hnext
        obtain rfl : u = .non := hu
        refine ⟨_, rfl, rfl, _, rfl, ?_⟩
        refine iteNY rfl ⟨_, _, acc, rfl, s2, hD2, ?_⟩
        rw [hnext]
        show Tds K _ acc (((likesS (es.take i) fs) ++ []).map likeD)
        rw [List.append_nil]
        exact hacc
      | some g =>
        rw [hn] at hu hnext
        obtain ⟨pg, ug, rg, rfl, hpg, hug, _⟩ := en_row hu
        refine ⟨_, rfl, rfl, _, rfl, ?_⟩
        refine iteNN (fun z => nomatch z) ?_
        refine ⟨_, rfl, .inl ⟨rfl, _, SqL.of hD2⟩, _, rfl, _, rfl, pe, _, 2, _, rfl, rfl, hpe, at2, _, rfl, pg, _, 2, _, rfl, rfl, hpg, at2, by show 2 ≤ sizeLine; decide, fun t1 ht1 => ⟨by show 2 ≤ sizeLine; decide, fun t2 ht2 => ?_⟩⟩
        have a1 := same_upd (o := .tup [ue, ug]) ht1
        have a2 := same_upd (o := .tup [V.ref pg, .ref t1]) ht2
        have aa := a1.trans a2
        refine ⟨D, acc, _, rfl, rfl, aa _ _ hD2, by rw [sizeLine_eq]; omega, ?_⟩
        have kD := keepT_lst (K := K) (ys := acc ++ [V.ref t2]) (aa _ _ hD2)
        refine ⟨_, _, acc ++ [.ref t2], rfl, same_new (s2.trans aa) hD, upd_same, ?_⟩
        rw [hnext, List.map_append]
        refine Tds.append ((hacc.keep (KeepT.same aa)).keep kD) (.cons (Td.keep kD ?_) .nil)
        refine .tup (SqT.of upd_same) (.cons (hu.keep (KeepT.same aa)) (.cons (.tup (SqT.of (a2 _ _ upd_same)) (.cons (hue.keep (KeepT.same aa)) (.cons (hug.keep (KeepT.same aa)) .nil))) .nil))
    · rintro σ H2 ⟨y3, y4, acc, rfl, s2, hD2, hacc⟩
      rw [List.take_of_length_le (by omega)] at hacc
      exact ⟨_, rfl, q _ D acc s2 hD hD2 hacc⟩
end
end K34
set_option maxHeartbeats 2000000
namespace K34
open PySem PySem.Spec PyProof.Rows L2 Tw Sb LamX
def Gp (tk1 tc1 tk2 tc2 : List TRow) (p : Pr) : Prop := p.1.ok (tk1.map Prod.fst) (tc1.map Prod.fst) false ∧ p.2.ok (tk2.map Prod.fst) (tc2.map Prod.fst) false ∧ (pk p).depth ≤ 8
def spInto (K : PySem.W.Frag) (CS : Addr) : Sp := fun vs H Q _ => ∃ (a b : Addr) (v : V) (tk1 tc1 tk2 tc2 : List TRow) (o1 o2 : So) (p : Pr), vs = [.ref a, .ref b, v] ∧ ScK K CS H a tk1 tc1 o1 ∧ ScK K CS H b tk2 tc2 o2 ∧ SkOk tk1 tc1 o1 ∧ SkOk tk2 tc2 o2 ∧ Td K H v (pairD p) ∧ Gp tk1 tc1 tk2 tc2 p ∧
  ∀ (H' : Hp) (D : Addr) (acc : List V), Same H H' → H D = none → H' D = some (.lst acc) → Tds K H' acc ((intoS (scmT tk1 tc1 o1) (scmT tk2 tc2 o2) p.1 p.2).map intoD) → Q (.ref D) H'
theorem likes_mem {es fs : List En} {x : En × Option So × Option So} (h : x ∈ likesS es fs) : ∃ e ∈ es, enNum fs e.num = some x.1 ∧ x.2.1 = e.of ∧ x.2.2 = x.1.of := by
  obtain ⟨e, he, hx⟩ := List.mem_filterMap.mp h
  unfold likeOf at hx
  obtain ⟨f, hf, rfl⟩ := Option.map_eq_some_iff.mp hx
  exact ⟨e, he, hf, rfl, rfl⟩
theorem into_bad {A B : Scm} {o n : So} (h1 : o.isMay = false) (h2 : n.isMay = false) (h3 : o.word ≠ n.word) : intoS A B o n = [] := by
  cases o <;> cases n <;> first
    | exact absurd rfl h3
    | exact absurd h1 (show ¬ (true = false) by decide)
    | exact absurd h2 (show ¬ (true = false) by decide)
    | rfl
/-- every entry of a kind's row has a sort -/
theorem kind_of {tk tc : List TRow} {o : So} (h : SkOk tk tc o) {r : TRow} (hr : r ∈ tk) {e : En} (he : e ∈ sortEn r.2) : ∃ s, e.of = some s := by
  obtain ⟨l, ok⟩ := (h.k r hr).2.1.at_ ((mem_sortEn e).mp he)
  cases ho : e.of with
  | none => exact nomatch (ok.none ho).1
  | some s => exact ⟨s, rfl⟩
theorem same_none {H H' : Hp} {D : Addr} (s : Same H H') (h : H' D = none) : H D = none := by
  cases e : H D with
  | none => rfl
  | some u =>
    rw [s _ _ e] at h
    cases h
theorem iteR {p : Prop} [Decidable p] {Y R : Prop} (hy : p → R → Y) (hr : R) : if decide p = true then Y else R := by
  by_cases h : p
  · exact iteY h (hy h hr)
  · exact iteN h hr
section
variable {P : Program} {w : World} {K : PySem.W.Frag} {mg : Str → Option Value} {base : Heap}
theorem ok_into {CS f : Addr} {fd : FuncData} (F : Fun K "gone_into" "gone_into" s_gone_into f fd) (cs : ClS K CS) (c_pair_word : Cal P w K mg base 1 "pair_word" ["pair"] (spPW K)) (c_inner_pair : Cal P w K mg base 2 "inner_pair" ["pair"] (spInner K)) (c__likes : Cal P w K mg base 2 "_likes" ["row", "new_row"] (spLikes K)) : FnOk P w K mg base CX0 3 f fd ["old", "new", "pair"] (spInto K CS) := by
  refine F.ok sc_gone_into (fun vs H Q E h => ?_) (fun cdv A outer s H vs Q E hr h => ?_)
  · obtain ⟨a, b, v, tk1, tc1, tk2, tc2, o1, o2, p, rfl, _⟩ := h
    rfl
  · obtain ⟨a, b, v, tk1, tc1, tk2, tc2, o1, o2, ⟨o, n⟩, rfl, hA, hB, okA, okB, ht, hG, q⟩ := h
    have hu := hu_of hr
    refine ⟨_, (pss_cons (ps_asg (pv 2) (pg_tup rfl (pgs_cons (pg_name (i := 3) sc_gone_into.nd rfl (.inl rfl)) (pgs_cons (pg_name (i := 4) sc_gone_into.nd rfl (.inl rfl)) pgs_nil))))
      (pss_cons (ps_set (i := 5) sc_gone_into.nd rfl (.inl rfl) (pe_cal c_pair_word hr (by decide) (by rfl) (pa_cons (pv 2) pa_nil)))
      (pss_cons (ps_if (pt_cmpR op_eq (pv 5) pe_str (nomark _))
        (pss_one (ps_ret (pe_lc (own := [("field", 7), ("inner", 8)]) (g := gTup K 2 (gCons (gName 7) (gCons (gName 8) gNil))) rfl sc_gone_into.nd (pi_list (pe_cal c__likes hr (by decide) (by rfl) (pa_cons (pe_dget hu (pe_fld (pv 0) rfl) (pe_ix (r := rIxT K) ix_tup (pv 3) pe_int (fun _ _ => rfl)) (fun _ _ => rfl)) (pa_cons (pe_dget hu (pe_fld (pv 1) rfl) (pe_ix (r := rIxT K) ix_tup (pv 4) pe_int (fun _ _ => rfl)) (fun _ _ => rfl)) pa_nil)))) (blkOk_by (N := N_gone_into) (sc := defScope s_gone_into) (by decide +kernel)) (fun _ _ _ _ _ => (pg_tup rfl (pgs_cons (pg_name (i := 7) sc_gone_into.nd rfl (.inl rfl)) (pgs_cons (pg_name (i := 8) sc_gone_into.nd rfl (.inl rfl)) pgs_nil)))) (fun _ _ _ _ _ => pts_nil) (fun _ _ _ _ _ => (pe_tup (pa_cons (pe_tup (pa_cons (pe_ix (r := rIxT K) ix_tup (pv 7) pe_int (fun _ _ => rfl)) pa_nil)) (pa_cons (pv 8) pa_nil)))))))
        pss_nil)
      (pss_cons (ps_if (pt_cmpR op_eq (pv 5) pe_str (nomark _))
        (pss_cons (ps_set (i := 6) sc_gone_into.nd rfl (.inl rfl) (pe_cal c__likes hr (by decide) (by rfl) (pa_cons (pe_dget hu (pe_fld (pv 0) rfl) (pe_ix (r := rIxT K) ix_tup (pv 3) pe_int (fun _ _ => rfl)) (fun _ _ => rfl)) (pa_cons (pe_dget hu (pe_fld (pv 1) rfl) (pe_ix (r := rIxT K) ix_tup (pv 4) pe_int (fun _ _ => rfl)) (fun _ _ => rfl)) pa_nil))))
        (pss_one (ps_ret (pe_lc (own := [("case", 9), ("inner", 8)]) (g := gTup K 2 (gCons (gName 9) (gCons (gName 8) gNil))) rfl sc_gone_into.nd (pi_list (pv 6)) (blkOk_by (N := N_gone_into) (sc := defScope s_gone_into) (by decide +kernel)) (fun _ _ _ _ _ => (pg_tup rfl (pgs_cons (pg_name (i := 9) sc_gone_into.nd rfl (.inl rfl)) (pgs_cons (pg_name (i := 8) sc_gone_into.nd rfl (.inl rfl)) pgs_nil)))) (fun _ _ _ _ _ => (pts_one (pt_cmpR (show OpR _ _ (rNotInT K) from op_notInT hr.units) pe_non (pv 8) (by rfl)))) (fun _ _ _ _ _ => (pe_tup (pa_cons (pe_tup (pa_cons (pe_tup (pa_cons pe_str (pa_cons (pe_ix (r := rIxT K) ix_tup (pv 9) pe_int (fun _ _ => rfl)) pa_nil))) pa_nil)) (pa_cons (pv 8) pa_nil))))))))
        pss_nil)
      (pss_cons (ps_if (PW.pt (pw_and (pt_cmpR op_eq (pv 5) pe_str (nomark _)) (pw_and (pt_cmpR op_gt (pe_ix (r := rIxT K) ix_tup (pv 3) pe_int (fun _ _ => rfl)) pe_int (nomark _)) (pw_and1 (pt_cmpR op_gt (pe_ix (r := rIxT K) ix_tup (pv 4) pe_int (fun _ _ => rfl)) pe_int (nomark _))))))
        (pss_one (ps_ret (pe_lst (pa_cons (pe_tup (pa_cons (pe_tup (pa_cons pe_int pa_nil)) (pa_cons (pe_cal c_inner_pair hr (by decide) (by rfl) (pa_cons (pv 2) pa_nil)) pa_nil))) pa_nil))))
        pss_nil)
      (pss_cons (ps_if (pt_cmpR op_in_seq (pv 5) (pe_tup (pa_cons pe_str (pa_cons pe_str pa_nil))) (by rfl))
        (pss_one (ps_ret (pe_lst (pa_cons (pe_tup (pa_cons (pe_tup (pa_cons (pe_tup (pa_cons pe_str pa_nil)) pa_nil)) (pa_cons (pe_cal c_inner_pair hr (by decide) (by rfl) (pa_cons (pv 2) pa_nil)) pa_nil))) pa_nil))))
        pss_nil)
      (pss_one (ps_ret (pe_ifExp (pt_cmpR op_eq (pv 5) pe_str (nomark _)) (pe_lst (pa_cons (pe_tup (pa_cons (pe_tup pa_nil) (pa_cons (pe_cal c_inner_pair hr (by decide) (by rfl) (pa_cons (pv 2) pa_nil)) pa_nil))) pa_nil)) (pe_lst pa_nil)))))))))), ?_⟩
    obtain ⟨g1, g2, _⟩ := hG
    obtain ⟨p0, x0, y0, rfl, hp0, hx0, hy0⟩ := Td.pair (show Td K H v (.tuple [o.pd, n.pd]) from ht)
    obtain ⟨po, zo, rfl, hpo, hzo⟩ := hx0.sort
    obtain ⟨pn, zn, rfl, hpn, hzn⟩ := hy0.sort
    obtain ⟨dx1, k1, c1, rv1, kv1, kw1, a1, a2, a3, a4, a5, _⟩ := hA
    obtain ⟨dx2, k2, c2, rv2, kv2, kw2, b1, b2, b3, b4, b5, _⟩ := hB
    refine ⟨_, rfl, p0, _, rfl, hp0, rfl, _, _, rfl, _, _, rfl, rfl, ?_⟩
    refine ⟨_, rfl, .ref p0, o, n, rfl, ht, ?_⟩
    have hW : ∀ W, pwS o n = W → (W = "row" ∨ W = "maybe" ∨ W = "force" ∨ W = "wrap") → (pwS o n = "row" ∨ pwS o n = "maybe" ∨ pwS o n = "force" ∨ pwS o n = "wrap") := fun W e h => by rw [e]; exact h
    have one : ∀ (st : PyData) (tg : Addr) (H5 H6 : Hp) (t1 t2 D : Addr), Same H H5 → Td K H5 (.ref t1) st → intoS (scmT tk1 tc1 o1) (scmT tk2 tc2 o2) o n = [(st, inO o n, inN o n)] → Same H5 H6 → Td K H6 (.ref t2) (.tuple [(inO o n).pd, (inN o n).pd]) → H6 tg = none → (upd H6 tg (.tup [.ref t1, .ref t2])) D = none → Q (.ref D) (upd (upd H6 tg (.tup [.ref t1, .ref t2])) D (.lst [.ref tg])) := fun st tg H5 H6 t1 t2 D s5 h1 hi s6 h2 htg hD => by
      have j1 := same_upd (o := .tup [V.ref t1, .ref t2]) htg
      have j2 := same_upd (o := .lst [V.ref tg]) hD
      refine q _ D [.ref tg] ((s5.trans s6).trans (j1.trans j2)) ?_ upd_same ?_
      · cases e : H D with
        | none => rfl
        | some u =>
          rw [((s5.trans s6).trans j1) _ _ e] at hD
          cases hD
      · rw [hi]
        exact .cons (.tup (SqT.of (j2 _ _ upd_same)) (.cons (h1.keep (KeepT.same (s6.trans (j1.trans j2)))) (.cons (h2.keep (KeepT.same (j1.trans j2))) .nil))) .nil
    have nil : ∀ (H5 : Hp) (D : Addr), Same H H5 → H5 D = none → intoS (scmT tk1 tc1 o1) (scmT tk2 tc2 o2) o n = [] → Q (.ref D) (upd H5 D (.lst [])) := fun H5 D s5 hD hi => by
      refine q _ D [] (s5.trans (same_upd hD)) (same_none s5 hD) upd_same ?_
      rw [hi]
      exact .nil
    have k := pkn_of o n
    generalize hWd : pwS o n = W at k ⊢
    cases k with
    | nod k l =>
      obtain ⟨z1, rfl, e1⟩ := hzo.c1
      obtain rfl := e1.toStr
      obtain ⟨z2, rfl, e2⟩ := hzn.c1
      obtain rfl := e2.toStr
      obtain ⟨pa, xs, r1, hr1, er1, hv1, hq1, hx1⟩ := row_get a3 okA.nk g1.2
      obtain ⟨pb, ys, r2, hr2, er2, hv2, hq2, hx2⟩ := row_get b3 okB.nk g2.2
      have hlen : (chT (sortT tk1) k).length ≤ 100 := by
        rw [er1, sortEn_len]
        exact (okA.k r1 hr1).2.2.1
      refine ⟨_, rfl, rfl, _, rfl, iteY rfl ?_⟩
      refine ⟨_, rfl, a, CS, dx1, _, _, rfl, a1, cs.cl, cs.nK, fs_kinds, _, rfl, po, _, 1, _, rfl, rfl, hpo, at1, k1, _, rfl, .inl ⟨kv1, .inr k, .inl a2, rfl, hv1.symm⟩, _, rfl, b, CS, dx2, _, _, rfl, b1, cs.cl, cs.nK, fs_kinds, _, rfl, pn, _, 1, _, rfl, rfl, hpn, at1, k2, _, rfl, .inl ⟨kv2, .inr l, .inl b2, rfl, hv2.symm⟩, pa, pb, xs, ys, _, _, rfl, hq1, hq2, hx1, hx2, hlen, fun H2 D0 acc0 s2 hD0 hD0v hacc0 => ?_⟩
      refine ⟨D0, rfl, ⟨_, SqL.of hD0v⟩, fun D hD => ?_⟩
      have hal := hacc0.len
      rw [List.length_map] at hal
      have hll : (likesS (chT (sortT tk1) k) (chT (sortT tk2) l)).length ≤ 100 := Nat.le_trans filterMap_len hlen
      refine lc_it (walk_list (K := K) (a := D0) (xs := acc0)) (fun i H' => Same H2 H' ∧ ∃ acc, H' D = some (.lst acc) ∧ acc.length ≤ i ∧ Tds K H' acc ((((likesS (chT (sortT tk1) k) (chT (sortT tk2) l)).take i).filterMap (stepOf PyData.str)).map intoD)) ⟨same_upd hD, [], upd_same, Nat.le_refl _, .nil⟩ (fun i H' _ h => SqL.of (h.1 _ _ hD0v)) ?_ ?_
      · rintro i x H3 H4 hi ⟨s3, acc, hD3, hle, hacc⟩ ⟨rfl, hv⟩
        obtain ⟨d, hd, htd⟩ := Tds.at_ hacc0 hv
        rw [List.getElem?_map] at hd
        obtain ⟨⟨f0, oa, ob⟩, hl0, rfl⟩ := Option.map_eq_some_iff.mp hd
        obtain ⟨e0, he0, hf0, eo, en⟩ := likes_mem (List.mem_of_getElem? hl0)
        obtain ⟨sa, hsa⟩ := kind_of okA hr1 (by rw [← er1]; exact he0)
        obtain ⟨sb, hsb⟩ := kind_of okB hr2 (by rw [← er2]; exact (enNum_mem hf0).1)
        obtain rfl : oa = some sa := eo.trans hsa
        obtain rfl : ob = some sb := en.trans hsb
        obtain ⟨pl, u1, u2, rfl, hpl, hu1, hu2⟩ := Td.pair (show Td K H2 x (.tuple [f0.pd, .tuple [sa.pd, sb.pd]]) from htd)
        have ks := KeepT.same (K := K) s3
        obtain ⟨pf, uf, rf, rfl, hpf, _⟩ := en_row (hu1.keep ks)
        refine ⟨pl, _, rfl, ks _ _ hpl, rfl, _, _, rfl, _, _, rfl, rfl, ?_⟩
        refine ⟨rfl, _, rfl, pf, _, 1, _, rfl, rfl, hpf, at1, by show 1 ≤ sizeLine; decide, fun t1 ht1 => ⟨_, rfl, by show 2 ≤ sizeLine; decide, fun t2 ht2 => ?_⟩⟩
        have j1 := same_upd (o := .tup [V.str f0.name]) ht1
        have j2 := same_upd (o := .tup [V.ref t1, u2]) ht2
        have jj := j1.trans j2
        refine ⟨acc, jj _ _ hD3, by rw [sizeLine_eq]; omega, same_new (s3.trans jj) hD, _, upd_same, by rw [List.length_append]; show _ + 1 ≤ _; omega, ?_⟩
        have kD := keepT_lst (K := K) (ys := acc ++ [V.ref t2]) (jj _ _ hD3)
        rw [filterMap_take hl0, List.map_append]
        refine Tds.append ((hacc.keep (KeepT.same jj)).keep kD) (.cons (Td.keep kD ?_) .nil)
        exact .tup (SqT.of upd_same) (.cons (.tup (SqT.of (j2 _ _ upd_same)) (.cons (.str _) .nil)) (.cons ((hu2.keep ks).keep (KeepT.same jj)) .nil))
      · rintro H3 ⟨s3, acc, hD3, _, hacc⟩
        rw [List.take_of_length_le (by omega)] at hacc
        exact q H3 D acc (s2.trans s3) (same_none s2 hD) hD3 hacc
    | cho k l =>
      obtain ⟨z1, rfl, e1⟩ := hzo.c1
      obtain rfl := e1.toStr
      obtain ⟨z2, rfl, e2⟩ := hzn.c1
      obtain rfl := e2.toStr
      obtain ⟨pa, xs, r1, hr1, er1, hv1, hq1, hx1⟩ := row_get a5 okA.nc g1.2
      obtain ⟨pb, ys, r2, hr2, er2, hv2, hq2, hx2⟩ := row_get b5 okB.nc g2.2
      have hlen : (chT (sortT tc1) k).length ≤ 100 := by
        rw [er1, sortEn_len]
        exact (okA.c r1 hr1).2.2.1
      refine ⟨_, rfl, rfl, _, rfl, iteN (sne (by decide +kernel)) ⟨_, rfl, rfl, _, rfl, iteY rfl ?_⟩⟩
      refine ⟨_, rfl, a, CS, dx1, _, _, rfl, a1, cs.cl, cs.nC, fs_choices, _, rfl, po, _, 1, _, rfl, rfl, hpo, at1, c1, _, rfl, .inl ⟨kw1, .inr k, .inl a4, rfl, hv1.symm⟩, _, rfl, b, CS, dx2, _, _, rfl, b1, cs.cl, cs.nC, fs_choices, _, rfl, pn, _, 1, _, rfl, rfl, hpn, at1, c2, _, rfl, .inl ⟨kw2, .inr l, .inl b4, rfl, hv2.symm⟩, pa, pb, xs, ys, _, _, rfl, hq1, hq2, hx1, hx2, hlen, fun H2 D0 acc0 s2 hD0 hD0v hacc0 => ?_⟩
      refine ⟨_, rfl, D0, rfl, ⟨_, SqL.of hD0v⟩, fun D hD => ?_⟩
      have hal := hacc0.len
      rw [List.length_map] at hal
      have hll : (likesS (chT (sortT tc1) k) (chT (sortT tc2) l)).length ≤ 100 := Nat.le_trans filterMap_len hlen
      refine lc_it (walk_list (K := K) (a := D0) (xs := acc0)) (fun i H' => Same H2 H' ∧ ∃ acc, H' D = some (.lst acc) ∧ acc.length ≤ i ∧ Tds K H' acc ((((likesS (chT (sortT tc1) k) (chT (sortT tc2) l)).take i).filterMap (stepOf caseS)).map intoD)) ⟨same_upd hD, [], upd_same, Nat.le_refl _, .nil⟩ (fun i H' _ h => SqL.of (h.1 _ _ hD0v)) ?_ ?_
      · rintro i x H3 H4 hi ⟨s3, acc, hD3, hle, hacc⟩ ⟨rfl, hv⟩
        obtain ⟨d, hd, htd⟩ := Tds.at_ hacc0 hv
        rw [List.getElem?_map] at hd
        obtain ⟨⟨f0, oa, ob⟩, hl0, rfl⟩ := Option.map_eq_some_iff.mp hd
        obtain ⟨pl, u1, u2, rfl, hpl, hu1, hu2⟩ := Td.pair (show Td K H2 x (.tuple [f0.pd, .tuple [odd oa, odd ob]]) from htd)
        have ks := KeepT.same (K := K) s3
        obtain ⟨pf, uf, rf, rfl, hpf, _⟩ := en_row (hu1.keep ks)
        refine ⟨pl, _, rfl, ks _ _ hpl, rfl, _, _, rfl, _, _, rfl, rfl, ?_⟩
        refine ⟨rfl, _, rfl, .none, [odd oa, odd ob], .non, hu2.keep ks, by decide, _, rfl, ?_⟩
        have hev : ∀ o : Option So, PyData.eqv (odd o) .none = o.isNone := fun o => by cases o with
          | none => rfl
          | some s => cases s <;> rfl
        rw [show ([odd oa, odd ob].any fun z => PyData.eqv z .none) = (oa.isNone || (ob.isNone || false)) by rw [List.any_cons, List.any_cons, List.any_nil, hev, hev]]
        rw [filterMap_take hl0]
        cases oa with
        | none =>
          refine iteF ⟨s3, acc, hD3, by omega, ?_⟩
          rw [show (stepOf caseS (f0, none, ob)).toList = [] from by cases ob <;> rfl, List.append_nil]
          exact hacc
        | some sa =>
          cases ob with
          | none =>
            refine iteF ⟨s3, acc, hD3, by omega, ?_⟩
            rw [show (stepOf caseS (f0, some sa, none)).toList = [] from rfl, List.append_nil]
            exact hacc
          | some sb =>
            refine iteT ⟨_, rfl, pf, _, 1, _, rfl, rfl, hpf, at1, by show 2 ≤ sizeLine; decide, fun t0 ht0 => ⟨by show 1 ≤ sizeLine; decide, fun t1 ht1 => ⟨_, rfl, by show 2 ≤ sizeLine; decide, fun t2 ht2 => ?_⟩⟩⟩
            have j0 := same_upd (o := .tup [V.str "case", .str f0.name]) ht0
            have j1 := same_upd (o := .tup [V.ref t0]) ht1
            have j2 := same_upd (o := .tup [V.ref t1, u2]) ht2
            have jj := (j0.trans j1).trans j2
            refine ⟨acc, jj _ _ hD3, by rw [sizeLine_eq]; omega, same_new (s3.trans jj) hD, _, upd_same, by rw [List.length_append]; show _ + 1 ≤ _; omega, ?_⟩
            have kD := keepT_lst (K := K) (ys := acc ++ [V.ref t2]) (jj _ _ hD3)
            rw [List.map_append]
            refine Tds.append ((hacc.keep (KeepT.same jj)).keep kD) (.cons (Td.keep kD ?_) .nil)
            exact .tup (SqT.of upd_same) (.cons (.tup (SqT.of (j2 _ _ upd_same)) (.cons (.tup (SqT.of (j2 _ _ (j1 _ _ upd_same))) (.cons (.str _) (.cons (.str _) .nil))) .nil)) (.cons ((hu2.keep ks).keep (KeepT.same jj)) .nil))
      · rintro H3 ⟨s3, acc, hD3, _, hacc⟩
        rw [List.take_of_length_le (by omega)] at hacc
        exact q H3 D acc (s2.trans s3) (same_none s2 hD) hD3 hacc
    | row c x d y =>
      obtain ⟨z1, z2, rfl, e1, e2⟩ := hzo.c2
      obtain rfl := e1.toInt
      obtain ⟨z3, z4, rfl, e3, e4⟩ := hzn.c2
      obtain rfl := e3.toInt
      refine ⟨_, rfl, rfl, _, rfl, iteN (sne (by decide +kernel)) ⟨_, rfl, rfl, _, rfl, iteN (sne (by decide +kernel)) ?_⟩⟩
      refine ⟨_, rfl, rfl, _, rfl, ?_⟩
      by_cases hcd : c > 0 ∧ d > 0
      · refine iteY rfl ⟨_, rfl, po, _, 1, _, rfl, rfl, hpo, at1, c, 0, rfl, rfl, _, rfl, iteY hcd.1 ⟨_, rfl, pn, _, 1, _, rfl, rfl, hpn, at1, d, 0, rfl, rfl, _, rfl, iteY hcd.2 ?_⟩⟩
        refine ⟨by show 1 ≤ sizeLine; decide, fun t1 ht1 => ?_⟩
        have j1 := same_upd (o := .tup [V.int 0]) ht1
        refine ⟨_, rfl, .ref p0, _, _, rfl, ht.keep (KeepT.same j1), hW _ hWd (.inl rfl), fun H6 t2 s6 h6 => ⟨by show 2 ≤ sizeLine; decide, fun tg htg => ⟨by show 1 ≤ sizeLine; decide, fun D hD => ?_⟩⟩⟩
        exact one (.tuple [.int 0]) tg _ H6 t1 t2 D j1 (.tup (SqT.of upd_same) (.cons (.int _) .nil)) (if_pos hcd) s6 h6 htg hD
      · refine iteR (fun _ r => ⟨_, rfl, po, _, 1, _, rfl, rfl, hpo, at1, c, 0, rfl, rfl, _, rfl, ?_⟩) ?_
        · by_cases hc : c > 0
          · exact iteY hc ⟨_, rfl, pn, _, 1, _, rfl, rfl, hpn, at1, d, 0, rfl, rfl, _, rfl, iteN (fun hd => hcd ⟨hc, hd⟩) r⟩
          · exact iteN hc r
        refine ⟨_, rfl, by show 2 ≤ sizeLine; decide, fun tt htt => ⟨tt, _, rfl, .inr (SqT.of upd_same), rfl, rfl, _, rfl, ?_⟩⟩
        rw [show inV (V.str ("row" : Str)) [V.str ("maybe" : Str), V.str ("force" : Str)] = false from (by decide +kernel)]
        have jt := same_upd (o := .tup [V.str ("maybe" : Str), V.str ("force" : Str)]) htt
        exact iteF ⟨_, rfl, rfl, _, rfl, iteN (sne (by decide +kernel)) ⟨by show 0 ≤ sizeLine; decide, fun D hD => nil _ D jt hD (if_neg hcd)⟩⟩
    | may a b =>
      refine ⟨_, rfl, rfl, _, rfl, iteN (sne (by decide +kernel)) ⟨_, rfl, rfl, _, rfl, iteN (sne (by decide +kernel)) ?_⟩⟩
      refine ⟨_, rfl, rfl, _, rfl, iteN (sne (by decide +kernel)) ?_⟩
      refine ⟨_, rfl, by show 2 ≤ sizeLine; decide, fun tt htt => ⟨tt, _, rfl, .inr (SqT.of upd_same), rfl, rfl, _, rfl, ?_⟩⟩
      rw [show inV (V.str ("maybe" : Str)) [V.str ("maybe" : Str), V.str ("force" : Str)] = true from (by decide +kernel)]
      have jt := same_upd (o := .tup [V.str ("maybe" : Str), V.str ("force" : Str)]) htt
      refine iteT ⟨by show 1 ≤ sizeLine; decide, fun t0 ht0 => ⟨by show 1 ≤ sizeLine; decide, fun t1 ht1 => ?_⟩⟩
      have j0 := same_upd (o := .tup [V.str "inside"]) ht0
      have j1 := same_upd (o := .tup [V.ref t0]) ht1
      refine ⟨_, rfl, .ref p0, _, _, rfl, ht.keep (KeepT.same (jt.trans (j0.trans j1))), hW _ hWd (.inr (.inl rfl)), fun H6 t2 s6 h6 => ⟨by show 2 ≤ sizeLine; decide, fun tg htg => ⟨by show 1 ≤ sizeLine; decide, fun D hD => ?_⟩⟩⟩
      exact one (.tuple [insideD]) tg _ H6 t1 t2 D (jt.trans (j0.trans j1)) (.tup (SqT.of upd_same) (.cons (.tup (SqT.of (j1 _ _ upd_same)) (.cons (.str _) .nil)) .nil)) rfl s6 h6 htg hD
    | force a n hn =>
      refine ⟨_, rfl, rfl, _, rfl, iteN (sne (by decide +kernel)) ⟨_, rfl, rfl, _, rfl, iteN (sne (by decide +kernel)) ?_⟩⟩
      refine ⟨_, rfl, rfl, _, rfl, iteN (sne (by decide +kernel)) ?_⟩
      refine ⟨_, rfl, by show 2 ≤ sizeLine; decide, fun tt htt => ⟨tt, _, rfl, .inr (SqT.of upd_same), rfl, rfl, _, rfl, ?_⟩⟩
      rw [show inV (V.str ("force" : Str)) [V.str ("maybe" : Str), V.str ("force" : Str)] = true from (by decide +kernel)]
      have jt := same_upd (o := .tup [V.str ("maybe" : Str), V.str ("force" : Str)]) htt
      refine iteT ⟨by show 1 ≤ sizeLine; decide, fun t0 ht0 => ⟨by show 1 ≤ sizeLine; decide, fun t1 ht1 => ?_⟩⟩
      have j0 := same_upd (o := .tup [V.str "inside"]) ht0
      have j1 := same_upd (o := .tup [V.ref t0]) ht1
      refine ⟨_, rfl, .ref p0, _, _, rfl, ht.keep (KeepT.same (jt.trans (j0.trans j1))), hW _ hWd (.inr (.inr (.inl rfl))), fun H6 t2 s6 h6 => ⟨by show 2 ≤ sizeLine; decide, fun tg htg => ⟨by show 1 ≤ sizeLine; decide, fun D hD => ?_⟩⟩⟩
      exact one (.tuple [insideD]) tg _ H6 t1 t2 D (jt.trans (j0.trans j1)) (.tup (SqT.of upd_same) (.cons (.tup (SqT.of (j1 _ _ upd_same)) (.cons (.str _) .nil)) .nil)) (by cases n <;> first | rfl | exact absurd hn (show ¬ (true = false) by decide)) s6 h6 htg hD
    | wrap o b ho =>
      refine ⟨_, rfl, rfl, _, rfl, iteN (sne (by decide +kernel)) ⟨_, rfl, rfl, _, rfl, iteN (sne (by decide +kernel)) ?_⟩⟩
      refine ⟨_, rfl, rfl, _, rfl, iteN (sne (by decide +kernel)) ?_⟩
      refine ⟨_, rfl, by show 2 ≤ sizeLine; decide, fun tt htt => ⟨tt, _, rfl, .inr (SqT.of upd_same), rfl, rfl, _, rfl, ?_⟩⟩
      rw [show inV (V.str ("wrap" : Str)) [V.str ("maybe" : Str), V.str ("force" : Str)] = false from (by decide +kernel)]
      have jt := same_upd (o := .tup [V.str ("maybe" : Str), V.str ("force" : Str)]) htt
      refine iteF ⟨_, rfl, rfl, _, rfl, iteY rfl ⟨by show 0 ≤ sizeLine; decide, fun t1 ht1 => ?_⟩⟩
      have j1 := same_upd (o := .tup []) ht1
      refine ⟨_, rfl, .ref p0, _, _, rfl, ht.keep (KeepT.same (jt.trans j1)), hW _ hWd (.inr (.inr (.inr rfl))), fun H6 t2 s6 h6 => ⟨by show 2 ≤ sizeLine; decide, fun tg htg => ⟨by show 1 ≤ sizeLine; decide, fun D hD => ?_⟩⟩⟩
      exact one (.tuple []) tg _ H6 t1 t2 D (jt.trans j1) (.tup (SqT.of upd_same) .nil) (by cases o <;> first | rfl | exact absurd ho (show ¬ (true = false) by decide)) s6 h6 htg hD
    | num a b c d =>
      refine ⟨_, rfl, rfl, _, rfl, iteN (sne (by decide +kernel)) ⟨_, rfl, rfl, _, rfl, iteN (sne (by decide +kernel)) ?_⟩⟩
      refine ⟨_, rfl, rfl, _, rfl, iteN (sne (by decide +kernel)) ?_⟩
      refine ⟨_, rfl, by show 2 ≤ sizeLine; decide, fun tt htt => ⟨tt, _, rfl, .inr (SqT.of upd_same), rfl, rfl, _, rfl, ?_⟩⟩
      rw [show inV (V.str ("number" : Str)) [V.str ("maybe" : Str), V.str ("force" : Str)] = false from (by decide +kernel)]
      have jt := same_upd (o := .tup [V.str ("maybe" : Str), V.str ("force" : Str)]) htt
      exact iteF ⟨_, rfl, rfl, _, rfl, iteN (sne (by decide +kernel)) ⟨by show 0 ≤ sizeLine; decide, fun D hD => nil _ D jt hD rfl⟩⟩
    | tru =>
      refine ⟨_, rfl, rfl, _, rfl, iteN (sne (by decide +kernel)) ⟨_, rfl, rfl, _, rfl, iteN (sne (by decide +kernel)) ?_⟩⟩
      refine ⟨_, rfl, rfl, _, rfl, iteN (sne (by decide +kernel)) ?_⟩
      refine ⟨_, rfl, by show 2 ≤ sizeLine; decide, fun tt htt => ⟨tt, _, rfl, .inr (SqT.of upd_same), rfl, rfl, _, rfl, ?_⟩⟩
      rw [show inV (V.str ("truth" : Str)) [V.str ("maybe" : Str), V.str ("force" : Str)] = false from (by decide +kernel)]
      have jt := same_upd (o := .tup [V.str ("maybe" : Str), V.str ("force" : Str)]) htt
      exact iteF ⟨_, rfl, rfl, _, rfl, iteN (sne (by decide +kernel)) ⟨by show 0 ≤ sizeLine; decide, fun D hD => nil _ D jt hD rfl⟩⟩
    | txt a b =>
      refine ⟨_, rfl, rfl, _, rfl, iteN (sne (by decide +kernel)) ⟨_, rfl, rfl, _, rfl, iteN (sne (by decide +kernel)) ?_⟩⟩
      refine ⟨_, rfl, rfl, _, rfl, iteN (sne (by decide +kernel)) ?_⟩
      refine ⟨_, rfl, by show 2 ≤ sizeLine; decide, fun tt htt => ⟨tt, _, rfl, .inr (SqT.of upd_same), rfl, rfl, _, rfl, ?_⟩⟩
      rw [show inV (V.str ("text" : Str)) [V.str ("maybe" : Str), V.str ("force" : Str)] = false from (by decide +kernel)]
      have jt := same_upd (o := .tup [V.str ("maybe" : Str), V.str ("force" : Str)]) htt
      exact iteF ⟨_, rfl, rfl, _, rfl, iteN (sne (by decide +kernel)) ⟨by show 0 ≤ sizeLine; decide, fun D hD => nil _ D jt hD rfl⟩⟩
    | bad o n h1 h2 h3 =>
      refine ⟨_, rfl, rfl, _, rfl, iteN (sne (by decide +kernel)) ⟨_, rfl, rfl, _, rfl, iteN (sne (by decide +kernel)) ?_⟩⟩
      refine ⟨_, rfl, rfl, _, rfl, iteN (sne (by decide +kernel)) ?_⟩
      refine ⟨_, rfl, by show 2 ≤ sizeLine; decide, fun tt htt => ⟨tt, _, rfl, .inr (SqT.of upd_same), rfl, rfl, _, rfl, ?_⟩⟩
      rw [show inV (V.str ("bad" : Str)) [V.str ("maybe" : Str), V.str ("force" : Str)] = false from (by decide +kernel)]
      have jt := same_upd (o := .tup [V.str ("maybe" : Str), V.str ("force" : Str)]) htt
      exact iteF ⟨_, rfl, rfl, _, rfl, iteN (sne (by decide +kernel)) ⟨by show 0 ≤ sizeLine; decide, fun D hD => nil _ D jt hD (into_bad h1 h2 h3)⟩⟩
end
end K34
set_option maxHeartbeats 2000000
namespace K34
open PySem PySem.Spec PyProof.Rows L2 Tw Sb LamX
theorem pa_app {α β : Type} {R : α → β → Prop} {ys : List α} {zs : List β} (h2 : Paired R ys zs) : ∀ {xs : List α} {us : List β}, Paired R xs us → Paired R (xs ++ ys) (us ++ zs)
  | _, _, .nil => h2
  | _, _, .cons h r => .cons h (pa_app h2 r)
theorem pa_rev {α β : Type} {R : α → β → Prop} : ∀ {xs : List α} {us : List β}, Paired R xs us → Paired R xs.reverse us.reverse
  | _, _, .nil => .nil
  | _, _, .cons h r => by
    rw [List.reverse_cons, List.reverse_cons]
    exact pa_app (.cons h .nil) (pa_rev r)
theorem pa_last {α β : Type} {R : α → β → Prop} : ∀ {us : List β} {u : β} {xs : List α}, Paired R xs (us ++ [u]) → ∃ ys x, xs = ys ++ [x] ∧ Paired R ys us ∧ R x u
  | [], _, _, .cons h r => by cases r; exact ⟨[], _, rfl, .nil, h⟩
  | _ :: us, _, _, .cons h r => by
    obtain ⟨ys, x, rfl, h1, h2⟩ := pa_last (us := us) r
    exact ⟨_ :: ys, x, rfl, .cons h h1, h2⟩
/-- a pair that waits, its way at most m long -/
def Wait (K : PySem.W.Frag) (H : Hp) (m : Nat) (v : V) (p : Pr) : Prop := ∃ (t pr wr : Addr) (ws : List V), v = .ref t ∧ SqT K H t [.ref pr, .ref wr] ∧ Td K H (.ref pr) (pairD p) ∧ SqT K H wr ws ∧ ws.length ≤ m
theorem Wait.keep {K : PySem.W.Frag} {H H' : Hp} {m m' : Nat} {v : V} {p : Pr} (h : Wait K H m v p) (k : KeepT K H H') (hm : m ≤ m') : Wait K H' m' v p := by
  obtain ⟨t, pr, wr, ws, e, h1, h2, h3, h4⟩ := h
  exact ⟨t, pr, wr, ws, e, k _ _ h1, h2.keep k, k _ _ h3, by omega⟩
/-- a key that is met -/
def MetAt (K : PySem.W.Frag) (H : Hp) (x : NE) (p : Pr) : Prop := x.1 = pk p ∧ Td K H (.ref x.2.1) (pairD p)
theorem MetAt.keep {K : PySem.W.Frag} {H H' : Hp} {x : NE} {p : Pr} (h : MetAt K H x p) (k : KeepT K H H') : MetAt K H' x p := ⟨h.1, h.2.keep k⟩
theorem met_keys {K : PySem.W.Frag} {H : Hp} : ∀ {xs : List NE} {met : List Pr}, Paired (MetAt K H) xs met → xs.map (·.1) = met.map pk
  | _, _, .nil => rfl
  | _, _, .cons h r => by rw [List.map_cons, List.map_cons, h.1, met_keys r]
theorem getN_none {xs : List NE} {k : NestedKey} (h : k ∉ xs.map (·.1)) : getN xs k = none := by
  unfold getN
  rw [List.find?_eq_none.mpr fun x hx => ?_]
  · rfl
  · intro e
    exact h (List.mem_map.mpr ⟨x, hx, of_decide_eq_true e⟩)
theorem getN_some {xs : List NE} {k : NestedKey} (h : k ∈ xs.map (·.1)) : (getN xs k).isSome = true := by
  unfold getN
  rw [Option.isSome_map, List.find?_isSome]
  obtain ⟨x, hx, e⟩ := List.mem_map.mp h
  exact ⟨x, hx, decide_eq_true e⟩
theorem keepT_nd {K : PySem.W.Frag} {P : Program} {w : World} {H : Hp} {D : Addr} {xs ys : List NE} (h : H D = some (NDo P w D xs)) : KeepT K H (upd H D (NDo P w D ys)) := KeepT.but fun b o e => by
  have nb : (∀ φ, o ≠ .ext φ) → b ≠ D := fun n z => by
    rw [z, h] at e
    exact ndo_ne n (Option.some.inj e)
  exact ⟨fun zs q => by rw [upd_ne (nb fun φ z => by rw [q] at z; cases z)]; exact e, fun _ zs q => by rw [upd_ne (nb fun φ z => by rw [q] at z; cases z)]; exact e⟩
def spMet (P : Program) (w : World) (K : PySem.W.Frag) (CS : Addr) : Sp := fun vs H Q _ => ∃ (a b : Addr) (tk1 tc1 tk2 tc2 : List TRow) (o1 o2 : So) (n : Nat) (r : List Pr), vs = [.ref a, .ref b] ∧ ScK K CS H a tk1 tc1 o1 ∧ ScK K CS H b tk2 tc2 o2 ∧ SkOk tk1 tc1 o1 ∧ SkOk tk2 tc2 o2 ∧ MetN (scmT tk1 tc1 o1) (scmT tk2 tc2 o2) (Gp tk1 tc1 tk2 tc2) n [(o1, o2)] [] r ∧ n ≤ 1000000 ∧
  ∀ (H' : Hp) (d : Addr) (xs : List NE), Same H H' → ND P w K H' d xs → Paired (MetAt K H') xs r → Q (.ref d) H'
section
variable {P : Program} {w : World} {K : PySem.W.Frag} {mg : Str → Option Value} {base : Heap}
theorem ok_pairs_met {CS f : Addr} {fd : FuncData} (F : Fun K "pairs_met" "pairs_met" s_pairs_met f fd) (cs : ClS K CS) (c_gone_into : Cal P w K mg base 3 "gone_into" ["old", "new", "pair"] (spInto K CS)) : FnOk P w K mg base CX0 4 f fd ["old", "new"] (spMet P w K CS) := by
  refine F.ok sc_pairs_met (fun vs H Q E h => ?_) (fun cdv A outer s H vs Q E hr h => ?_)
  · obtain ⟨a, b, tk1, tc1, tk2, tc2, o1, o2, n, r, rfl, _⟩ := h
    rfl
  · obtain ⟨a, b, tk1, tc1, tk2, tc2, o1, o2, n0, r, rfl, hA, hB, okA, okB, hM, hn0, q⟩ := h
    have hu := hu_of hr
    refine ⟨_, (pss_cons (ps_set (i := 2) sc_pairs_met.nd rfl (.inl rfl) (show PE _ _ (tDNewN P w) from pe_dnewN))
      (pss_cons (ps_set (i := 3) sc_pairs_met.nd rfl (.inl rfl) (pe_lst (pa_cons (pe_tup (pa_cons (pe_tup (pa_cons (pe_fld (pv 0) rfl) (pa_cons (pe_fld (pv 1) rfl) pa_nil))) (pa_cons (pe_tup pa_nil) pa_nil))) pa_nil)))
      (pss_cons (ps_while PassesOwn.never (pt_truth (pv 3) (by intro _; rfl))
        (pss_cons (ps_asg (pe_bm0 PySem.F.plainAttrs_list PySem.F.slot_list_pop PySem.F.type_list_pop mt_pop (pv 3)) (pg_tup rfl (pgs_cons (pg_name (i := 4) sc_pairs_met.nd rfl (.inr rfl)) (pgs_cons (pg_name (i := 5) sc_pairs_met.nd rfl (.inr rfl)) pgs_nil))))
        (pss_one (ps_if (pt_cmpR (show OpR _ _ (rNotInN P w K) from op_notInN hr.units) (pv 4) (pv 2) (by rfl))
          (pss_cons (show PS _ _ (sNPut P w K _ _ _) from ps_nput hr.units (pv 2) (pv 4) (pv 5) rfl)
          (pss_cons (ps_setLc (i := 6) (own := [("steps", 7), ("inner", 8)]) (g := gTup K 2 (gCons (gName 7) (gCons (gName 8) gNil))) rfl sc_pairs_met.nd rfl rfl (sw_true rfl rfl rfl (by decide +kernel)) (pi_list (pe_cal c_gone_into hr (by decide) (by rfl) (pa_cons (pv 0) (pa_cons (pv 1) (pa_cons (pv 4) pa_nil))))) (blkOk_by (N := N_pairs_met) (sc := defScope s_pairs_met) (by decide +kernel)) (fun _ _ _ _ _ => (pg_tup rfl (pgs_cons (pg_name (i := 7) sc_pairs_met.nd rfl (.inl rfl)) (pgs_cons (pg_name (i := 8) sc_pairs_met.nd rfl (.inl rfl)) pgs_nil)))) (fun _ _ _ _ _ => pts_nil) (fun _ _ _ _ _ => (pe_tup (pa_cons (pv 8) (pa_cons (pe_tup (show PA _ _ (StX.tStar K _ _) from StX.pa_star (pv 5) (pa_cons (pe_tup (pa_cons (pv 4) (pa_cons (pv 7) pa_nil))) pa_nil))) pa_nil)))))
          (pss_one (ps_expr (pe_bm PySem.F.plainAttrs_list PySem.F.slot_list_extend PySem.F.type_list_extend mt_extend (pv 3) (pa_cons (pe_revL (pv 6)) pa_nil))))))
          pss_nil))))
      (pss_one (ps_ret (pv 2)))))), ?_⟩
    refine fun D hD => ?_
    have sD := same_upd (o := NDo P w D []) hD
    have hDv : (upd H D (NDo P w D [])) D = some (NDo P w D []) := upd_same
    obtain ⟨dx1, k1, c1, rv1, kv1, kw1, a1, a2, a3, a4, a5, a6⟩ := id hA
    obtain ⟨dx2, k2, c2, rv2, kv2, kw2, b1, b2, b3, b4, b5, b6⟩ := id hB
    refine ⟨_, rfl, a, CS, dx1, _, _, rfl, sD _ _ a1, cs.cl, cs.nR, fs_root, _, rfl, b, CS, dx2, _, _, rfl, sD _ _ b1, cs.cl, cs.nR, fs_root, by show 2 ≤ sizeLine; decide, fun t1 ht1 => ⟨by show 0 ≤ sizeLine; decide, fun t2 ht2 => ⟨by show 2 ≤ sizeLine; decide, fun t3 ht3 => ⟨by show 1 ≤ sizeLine; decide, fun L hL => ?_⟩⟩⟩⟩
    have j1 := same_upd (o := .tup [rv1, rv2]) ht1
    have j2 := same_upd (o := .tup []) ht2
    have j3 := same_upd (o := .tup [V.ref t1, .ref t2]) ht3
    have j4 := same_upd (o := .lst [V.ref t3]) hL
    have sj := ((j1.trans j2).trans j3).trans j4
    have w0 : Wait K _ 0 (.ref t3) (o1, o2) := ⟨t3, t1, t2, [], rfl, SqT.of (j4 _ _ upd_same), .tup (SqT.of (j4 _ _ (j3 _ _ (j2 _ _ upd_same)))) (.cons (a6.keep (KeepT.same (sD.trans sj))) (.cons (b6.keep (KeepT.same (sD.trans sj))) .nil)), SqT.of (j4 _ _ (j3 _ _ upd_same)), Nat.le_refl _⟩
    have hL0 : H L = none := same_none (((sD.trans j1).trans j2).trans j3) hL
    have nDL : D ≠ L := fun e => by
      rw [← e] at hL
      have := ((j1.trans j2).trans j3) _ _ hDv
      rw [hL] at this
      cases this
    refine ⟨fun m σ H' => ∃ (y4 y5 y6 y7 y8 : Option V) (st met : List Pr) (xs : List NE) (vs : List V), MetN (scmT tk1 tc1 o1) (scmT tk2 tc2 o2) (Gp tk1 tc1 tk2 tc2) m st met r ∧ m ≤ n0 ∧ σ = [some (.ref a), some (.ref b), some (.ref D), some (.ref L), y4, y5, y6, y7, y8] ∧ Same H H' ∧ ND P w K H' D xs ∧ Paired (MetAt K H') xs met ∧ H' L = some (.lst vs) ∧ Paired (Wait K H' (n0 - m)) vs st.reverse, ⟨n0, _, _, _, _, _, _, _, [], _, hM, Nat.le_refl _, rfl, sD.trans sj, ⟨sj _ _ hDv, fun x hx => nomatch hx⟩, .nil, upd_same, .cons (w0.keep (KeepT.same (Same.refl _)) (Nat.zero_le _)) .nil⟩, ?_⟩
    rintro m σ H2 ⟨y4, y5, y6, y7, y8, st, met, xs, vs, hMn, hm, rfl, s2, hnd, hmt, hLv, hwt⟩
    refine ⟨_, rfl, !vs.isEmpty, .inl ⟨_, SqL.of hLv, rfl⟩, ?_⟩
    have turn : ∀ {p : Pr} {st' : List Pr}, st = p :: st' → Gp tk1 tc1 tk2 tc2 p → True := fun _ _ => trivial
    cases hMn with
    | done =>
      obtain rfl : vs = [] := by
        cases hwt
        rfl
      exact iteF ⟨_, rfl, q H2 D xs s2 hnd hmt⟩
    | @seen n1 p st1 _ _ hG hin h1 =>
      rw [List.reverse_cons] at hwt
      obtain ⟨vs0, v, rfl, hw0, t, pr, wr, ws, rfl, ht, hpr, hwr, hws⟩ := pa_last hwt
      rw [show (!(vs0 ++ [V.ref t]).isEmpty) = true by cases vs0 <;> rfl]
      refine iteT ⟨_, fun _ _ h => h, ?_⟩
      refine ⟨_, rfl, .inl ⟨rfl, _, SqL.of hLv⟩, L, _, .ref t, rfl, rfl, hLv, by rw [List.length_append]; exact List.getElem?_concat_length, ?_⟩
      rw [List.dropLast_concat]
      have kL := keepT_lst (K := K) (ys := vs0) hLv
      refine ⟨t, _, rfl, kL _ _ ht, rfl, _, _, rfl, _, _, rfl, rfl, ?_⟩
      have hnd' : ND P w K (upd H2 L (.lst vs0)) D xs := ⟨by rw [upd_ne nDL]; exact hnd.1, fun x hx => (hnd.2 x hx).keep kL⟩
      refine ⟨_, rfl, _, rfl, D, pr, xs, pk p, rfl, rfl, hnd', ⟨_, hpr.keep kL, rfl, hG.2.2⟩, _, rfl, ?_⟩
      rw [getN_some (by rw [met_keys hmt]; exact hin)]
      refine iteF ⟨n1, by omega, _, _, _, _, _, st1, met, xs, vs0, h1, by omega, rfl, fun c u e => ?_, hnd', pd_mono (fun _ _ g => g.keep kL) hmt, upd_same, pd_mono (fun _ _ g => g.keep kL (by omega)) hw0⟩
      rw [upd_ne (ne_of_none e hL0)]
      exact s2 c u e
    | @new n1 p st1 _ _ hG hin h1 =>
      rw [List.reverse_cons] at hwt
      obtain ⟨vs0, v, rfl, hw0, t, pr, wr, ws, rfl, ht, hpr, hwr, hws⟩ := pa_last hwt
      rw [show (!(vs0 ++ [V.ref t]).isEmpty) = true by cases vs0 <;> rfl]
      refine iteT ⟨_, fun _ _ h => h, ?_⟩
      refine ⟨_, rfl, .inl ⟨rfl, _, SqL.of hLv⟩, L, _, .ref t, rfl, rfl, hLv, by rw [List.length_append]; exact List.getElem?_concat_length, ?_⟩
      rw [List.dropLast_concat]
      have kL := keepT_lst (K := K) (ys := vs0) hLv
      refine ⟨t, _, rfl, kL _ _ ht, rfl, _, _, rfl, _, _, rfl, rfl, ?_⟩
      have hnd' : ND P w K (upd H2 L (.lst vs0)) D xs := ⟨by rw [upd_ne nDL]; exact hnd.1, fun x hx => (hnd.2 x hx).keep kL⟩
      have s3 : Same H (upd H2 L (.lst vs0)) := fun c u e => by
        rw [upd_ne (ne_of_none e hL0)]
        exact s2 c u e
      have hLv3 : (upd H2 L (.lst vs0)) L = some (.lst vs0) := upd_same
      have hpr := hpr.keep kL
      have hwr := kL _ _ hwr
      have hmt := pd_mono (fun _ _ g => MetAt.keep g kL) hmt
      have hw0 := pd_mono (fun _ _ g => Wait.keep g kL (Nat.le_refl _)) hw0
      generalize upd H2 L (.lst vs0) = H3 at hnd' s3 hLv3 hpr hwr hmt hw0 ⊢
      have hkey : NKey K H3 (.ref pr) (pk p) := ⟨_, hpr, rfl, hG.2.2⟩
      have hno : getN xs (pk p) = none := getN_none (by rw [met_keys hmt]; exact hin)
      refine ⟨_, rfl, _, rfl, D, pr, xs, pk p, rfl, rfl, hnd', hkey, _, rfl, ?_⟩
      rw [hno]
      refine iteT ?_
      have hlM := h1.lenM
      have hxl : xs.length = met.length := by
        have := congrArg List.length (met_keys hmt)
        rw [List.length_map, List.length_map] at this
        exact this
      have hrl : r.length ≤ n0 := by
        have := hM.lenM.2
        simpa using this
      refine ⟨_, rfl, _, rfl, _, rfl, D, pr, xs, pk p, rfl, rfl, hnd', hkey, hno, ?_, ?_⟩
      · rw [List.length_append, List.length_singleton] at hlM
        rw [sizeLine_eq]
        omega
      have kN := keepT_nd (K := K) (ys := xs ++ [(pk p, pr, .ref wr)]) hnd'.1
      have s4 : Same H (upd H3 D (NDo P w D (xs ++ [(pk p, pr, .ref wr)]))) := fun c u e => by
        rw [upd_ne (ne_of_none e hD)]
        exact s3 c u e
      have hnd4 : ND P w K (upd H3 D (NDo P w D (xs ++ [(pk p, pr, .ref wr)]))) D (xs ++ [(pk p, pr, .ref wr)]) := ⟨upd_same, fun x hx => by
        rcases List.mem_append.mp hx with hx | hx
        · exact (hnd'.2 x hx).keep kN
        · rw [List.mem_singleton.mp hx]
          exact hkey.keep kN⟩
      have hmt4 : Paired (MetAt K (upd H3 D (NDo P w D (xs ++ [(pk p, pr, .ref wr)])))) (xs ++ [(pk p, pr, .ref wr)]) (met ++ [p]) := pa_app (.cons ⟨rfl, hpr.keep kN⟩ .nil) (pd_mono (fun _ _ g => g.keep kN) hmt)
      have hLv4 : (upd H3 D (NDo P w D (xs ++ [(pk p, pr, .ref wr)]))) L = some (.lst vs0) := by rw [upd_ne nDL.symm]; exact hLv3
      have hpr := hpr.keep kN
      have hwr := kN _ _ hwr
      have hw0 := pd_mono (fun _ _ g => Wait.keep g kN (Nat.le_refl _)) hw0
      generalize upd H3 D (NDo P w D (xs ++ [(pk p, pr, .ref wr)])) = H4 at s4 hnd4 hmt4 hLv4 hpr hwr hw0 ⊢
      refine ⟨_, rfl, _, rfl, _, rfl, a, b, .ref pr, tk1, tc1, tk2, tc2, o1, o2, p, rfl, hA.same s4, hB.same s4, okA, okB, hpr, hG, fun H5 D0 acc0 s5 hD0 hD0v hacc0 => ?_⟩
      refine ⟨D0, rfl, ⟨_, SqL.of hD0v⟩, fun M hM0 => ?_⟩
      have hal := hacc0.len
      rw [List.length_map] at hal
      have k5 := KeepT.same (K := K) s5
      have hst := h1.len
      rw [List.length_append] at hst
      have hil : (intoS (scmT tk1 tc1 o1) (scmT tk2 tc2 o2) p.1 p.2).length ≤ n1 := by
        unfold into at hst
        rw [List.length_map] at hst
        omega
      refine lc_it (walk_list (K := K) (a := D0) (xs := acc0)) (fun i H' => Same H5 H' ∧ ∃ acc, H' M = some (.lst acc) ∧ acc.length = i ∧ Paired (Wait K H' (n0 - n1)) acc (((intoS (scmT tk1 tc1 o1) (scmT tk2 tc2 o2) p.1 p.2).take i).map (·.2))) ⟨same_upd hM0, [], upd_same, rfl, .nil⟩ (fun i H' _ h => SqL.of (h.1 _ _ hD0v)) ?_ ?_
      · rintro i x H6 H7 hi ⟨s6, acc, hM6, hle, hacc⟩ ⟨rfl, hv⟩
        obtain ⟨d, hd, htd⟩ := Tds.at_ hacc0 hv
        rw [List.getElem?_map] at hd
        obtain ⟨⟨stp, oa, ob⟩, hl0, rfl⟩ := Option.map_eq_some_iff.mp hd
        obtain ⟨pl, u1, u2, rfl, hpl, hu1, hu2⟩ := Td.pair (show Td K H5 x (.tuple [stp, pairD (oa, ob)]) from htd)
        obtain ⟨pq, zq, rfl, hpq, hzq⟩ := Td.row (show Td K H5 u2 (.tuple [oa.pd, ob.pd]) from hu2)
        have ks := KeepT.same (K := K) s6
        refine ⟨pl, _, rfl, ks _ _ hpl, rfl, _, _, rfl, _, _, rfl, rfl, ?_⟩
        refine ⟨rfl, _, rfl, _, rfl, wr, ws, rfl, .inl (ks _ _ (k5 _ _ hwr)), _, rfl, _, rfl, by show 2 ≤ sizeLine; decide, fun t1 ht1 => ⟨?_, fun t2 ht2 => ⟨by show 2 ≤ sizeLine; decide, fun t3 ht3 => ?_⟩⟩⟩
        · rw [List.length_append, sizeLine_eq]
          show ws.length + 1 ≤ _
          omega
        have i1 := same_upd (o := .tup [V.ref pr, u1]) ht1
        have i2 := same_upd (o := .tup (ws ++ [V.ref t1])) ht2
        have i3 := same_upd (o := .tup [V.ref pq, .ref t2]) ht3
        have ii := (i1.trans i2).trans i3
        have hx5 : acc.length < acc0.length := by rw [hle]; exact hi
        refine ⟨acc, ii _ _ hM6, by rw [sizeLine_eq]; omega, same_new (s6.trans ii) hM0, _, upd_same, by rw [List.length_append, hle]; rfl, ?_⟩
        have kD := keepT_lst (K := K) (ys := acc ++ [V.ref t3]) (ii _ _ hM6)
        rw [List.take_add_one, hl0, List.map_append]
        refine pa_app (.cons ?_ .nil) (pd_mono (fun _ _ g => Wait.keep g ((KeepT.same ii).trans kD) (Nat.le_refl _)) hacc)
        refine ⟨t3, pq, t2, _, rfl, kD _ _ (SqT.of upd_same), ((hu2.keep ks).keep (KeepT.same ii)).keep kD, kD _ _ (SqT.of (i3 _ _ upd_same)), ?_⟩
        rw [List.length_append]
        show ws.length + 1 ≤ _
        omega
      · rintro H6 ⟨s6, acc, hM6, hle, hacc⟩
        rw [List.take_of_length_le (by omega)] at hacc
        have s56 := s5.trans s6
        have k56 := KeepT.same (K := K) s56
        have hL6 := s56 _ _ hLv4
        refine ⟨_, rfl, .inl ⟨rfl, _, SqL.of hL6⟩, _, rfl, M, acc, rfl, SqL.of hM6, fun M2 hM2 => ?_⟩
        have sR := same_upd (o := .lst acc.reverse) hM2
        have hvl := hw0.length
        rw [List.length_reverse] at hvl
        refine ⟨L, M2, vs0, acc.reverse, rfl, rfl, sR _ _ hL6, upd_same, ?_, ?_⟩
        · rw [List.length_reverse, sizeLine_eq]
          omega
        have kE := (k56.trans (KeepT.same sR)).trans (keepT_lst (K := K) (ys := vs0 ++ acc.reverse) (sR _ _ hL6))
        refine ⟨n1, by omega, _, _, _, _, _, _, _, _, _, h1, by omega, rfl, fun c u e => ?_, ⟨?_, fun x hx => (hnd4.2 x hx).keep kE⟩, pd_mono (fun _ _ g => g.keep kE) hmt4, upd_same, ?_⟩
        · rw [upd_ne (ne_of_none e hL0)]
          exact sR _ _ (s56 _ _ (s4 c u e))
        · rw [upd_ne nDL]
          exact sR _ _ (s56 _ _ hnd4.1)
        · rw [List.reverse_append]
          refine pa_app (pa_rev ?_) (pd_mono (fun _ _ g => Wait.keep g kE (by omega)) hw0)
          exact pd_mono (fun _ _ g => Wait.keep g ((KeepT.same sR).trans (keepT_lst (K := K) (ys := vs0 ++ acc.reverse) (sR _ _ hL6))) (Nat.le_refl _)) hacc
end
end K34
/-! TkS: (a, b, .., *rest) = a tuple. -/
namespace Tw
open PySem PySem.Spec PyProof.Rows L2
section
variable {prog : Program} {w : World} {A : Around} {E : Value → Shared → Prop} {s : Shared}
theorem star_unpack {t : Addr} {its : Array Value} {k : Nat} {Q : List Value → Shared → Prop} (ht : IsTup s.heap t its) (hh : A.handled = none) (hk : k ≤ its.size) (hz : its.size ≤ 16384)
    (q : ∀ (h' : Heap) (tk : Nat), (∀ b o, s.heap.get? b = some o → h'.get? b = some o) → Q (its.toList.take k ++ [.ref h'.objs.size]) { s with heap := h'.push { cls := .type "list", data := .seq (its.toList.drop k).toArray }, toks := tk }) :
    wpAny (model prog w) A (unpackItems (.ref t) (k + 1) (some k)) Q E s := by
  have nt : t ≠ s.heap.objs.size := by
    obtain ⟨o, ho, _⟩ := ht
    exact Nat.ne_of_lt (Heap.lt_size ho)
  unfold unpackItems
  refine wpAny_bind ?_
  unfold notIterableAtAll
  refine wpAny_bind (wpAny_specialOf ht.typeIs slot_tuple_iter.lookup (wpAny_pure ?_))
  simp only [Bool.false_eq_true, if_false]
  refine wpAny_bind (wpAny_holding (iter_tuple ht ?_))
  refine wpAny_bind (wpAny_holding (draw_tuple nt k 0 _ _ ⟨_, Heap.get?_push_size _ rfl, rfl, rfl⟩ (ht.push _) (by omega) fun h1 it1 sb1 => ?_))
  have t1 : IsTup h1 t its := (ht.push _).extBut sb1.extBut nt
  rw [Nat.zero_add] at it1
  have hI : s.heap.objs.size < h1.objs.size := by
    obtain ⟨o, ho, _⟩ := id it1
    exact Heap.lt_size ho
  have hT : t < h1.objs.size := by
    obtain ⟨o, ho, _⟩ := id t1
    exact Heap.lt_size ho
  have hfst : (its.toList.take k).length = k := by rw [List.length_take, Array.length_toList]; omega
  have hrst : (its.toList.drop k).length = its.size - k := by rw [List.length_drop, Array.length_toList]
  rw [List.drop_zero, if_neg (show ¬ ((its.toList.take k).length < k) by rw [hfst]; omega)]
  have wk := Walks.tuple (prog := prog) (w := w) (A := A.in1) hh s.heap.objs.size t nt its
  refine wpAny_bind (wpAny_holding (PySem.W.kun_collect (s := { s with heap := h1 }) (T := "tuple_iterator") (.inr (.inr (.inr rfl))) wk (fun j u st => st.1.typeIs) (k := k) hk ⟨it1, t1⟩ hI hT (fun h2 tk keep2 => ?_) (by rw [sizeLine_eq]; omega)))
  show wpAny _ _ (if (its.toList.drop k).length < k + 1 - 1 - k then _ else _) _ _ _
  rw [if_neg (by omega)]
  have e0 : (its.toList.drop k).length - (k + 1 - 1 - k) = (its.toList.drop k).length := by omega
  show wpAny _ _ (newList ((its.toList.drop k).take ((its.toList.drop k).length - (k + 1 - 1 - k))) >>= fun d => pure (its.toList.take k ++ [d] ++ (its.toList.drop k).drop ((its.toList.drop k).length - (k + 1 - 1 - k)))) _ _ _
  rw [e0, List.take_length, List.drop_length]
  simp only [List.append_nil]
  have keep : ∀ b o, s.heap.get? b = some o → h2.get? b = some o := fun b o e => by
    have nb : b ≠ s.heap.objs.size := Nat.ne_of_lt (Heap.lt_size e)
    exact keep2 b o nb (sb1.extBut b o nb (Heap.get?_push_of_some _ e))
  exact wpAny_bind (wpAny_newList (wpAny_pure (q h2 tk keep)))
end
/-- .. the last name takes the rest, as a list -/
def gStar (K : PySem.W.Frag) (k : Nat) (t : TGs) : TG := fun v σ H Q => ∃ a xs, v = .ref a ∧ SqT K H a xs ∧ k ≤ xs.length ∧ xs.length ≤ 16384 ∧ ∀ D, H D = none → t (xs.take k ++ [.ref D]) σ (upd H D (.lst (xs.drop k))) Q
section
variable {X : Cx} {pos : Pos}
theorem pgs_star {e : Expr} {p : Pos} {t : TG} (h : PG X e t) (hs : (assignEach [.Starred e p] X.env).map (·.2) = [assign e X.env] := by rfl) : PGs X [.Starred e p] (gCons t gNil) := by
  refine ⟨fun pins s σ H vs us Q I r g => ?_⟩
  obtain ⟨v, vr, rfl, g⟩ := g
  cases r with
  | cons r1 r2 =>
    rw [hs]
    refine assignInOrder_cons (thn (h.run pins s σ H _ _ _ I r1 g) fun _ s1 g1 => ?_)
    obtain ⟨σ1, H1, I1, rfl, q⟩ := g1
    cases r2
    exact assignInOrder_nil ⟨σ1, H1, I1, q⟩
theorem pg_star {es : List Expr} {x k : Nat} {t : TGs} (hc : X.calm = true) (h : PGs X es t) (hn : (assignEach es X.env).length = k + 1 := by rfl) (hst : (assignEach es X.env).findIdx? (·.1) = some k := by rfl) : PG X (.Tuple es x pos) (gStar X.K k t) := by
  refine ⟨fun pins s σ H v u Q I r g => ?_⟩
  obtain ⟨a, xs, rfl, hq, hk, hz, g⟩ := g
  cases r
  obtain ⟨its, rv, ht, _⟩ := I.tuple hq
  have hl := rv.length
  rw [assign_Tuple]
  refine wpAny_bind (wpAny_standAt ?_)
  unfold unpack
  rw [hn, hst]
  refine wpAny_bind (wpAny_holding (star_unpack ht (I.ok.hd hc) (by rw [List.size_toArray]; omega) (by rw [List.size_toArray]; omega) fun h' tk keep => ?_))
  have I1 : Inv X pins σ H { s with heap := h', toks := tk } := I.kept keep
  have I2 := Inv.lnew (t' := tk) (ys := xs.drop k) (its := its.drop k) I1 (rv.drop k) (by rw [List.length_drop, sizeLine_eq]; omega)
  have hno : H h'.objs.size = none := I1.hok.fresh (Nat.le_refl _)
  refine h.run pins _ σ _ (xs.take k ++ [.ref h'.objs.size]) _ Q I2 ?_ (g _ hno)
  exact (rv.take k).append (.cons rfl .nil)
end
end Tw
set_option maxHeartbeats 2000000
namespace K34
open PySem PySem.Spec PyProof.Rows L2 Tw Sb LamX
def Places (P : Program) (w : World) (K : PySem.W.Frag) (H : Hp) (d : Addr) (met : List Pr) : Prop := ∃ xs, ND P w K H d xs ∧ PlIs (met.map pk) xs
theorem Places.same {P : Program} {w : World} {K : PySem.W.Frag} {H H' : Hp} {d : Addr} {met : List Pr} (h : Places P w K H d met) (s : Same H H') : Places P w K H' d met := by
  obtain ⟨xs, h1, h2⟩ := h
  exact ⟨xs, h1.same s, h2⟩
/-- a pair that is met, and not too deep -/
def InP (met : List Pr) (p : Pr) : Prop := pk p ∈ met.map pk ∧ (pk p).depth ≤ 8
def spCont (P : Program) (w : World) (K : PySem.W.Frag) : Sp := fun vs H Q _ => ∃ (v1 v2 : V) (d : Addr) (oa ob : Option So) (met : List Pr), vs = [v1, v2, .ref d] ∧ Td K H v1 (odd oa) ∧ Td K H v2 (odd ob) ∧ Places P w K H d met ∧ (∀ a b, oa = some a → ob = some b → InP met (a, b)) ∧ ∀ (H' : Hp) (u : V), Same H H' → Td K H' u (contentD met oa ob) → Q u H'
def spChoice (P : Program) (w : World) (K : PySem.W.Frag) : Sp := fun vs H Q _ => ∃ (a b d : Addr) (xs ys : List V) (es fs : List En) (met : List Pr), vs = [.ref a, .ref b, .ref d] ∧ SqT K H a xs ∧ SqT K H b ys ∧ Tds K H xs (es.map En.pd) ∧ Tds K H ys (fs.map En.pd) ∧ es.length ≤ 100 ∧ (∀ e ∈ es, e.left = none) ∧ Places P w K H d met ∧
  (∀ e ∈ es, ∀ f, enNum fs e.num = some f → ∀ a b, e.of = some a → f.of = some b → InP met (a, b)) ∧ ∀ (H' : Hp) (u : V), Same H H' → Td K H' u (choiceD met es fs) → Q u H'
def spNode (P : Program) (w : World) (K : PySem.W.Frag) : Sp := fun vs H Q _ => ∃ (a b d : Addr) (xs ys : List V) (es fs : List En) (kind : Str) (met : List Pr), vs = [.ref a, .ref b, .str kind, .ref d] ∧ SqT K H a xs ∧ SqT K H b ys ∧ Tds K H xs (es.map En.pd) ∧ Tds K H ys (fs.map En.pd) ∧ fs.length ≤ 100 ∧ (∀ e ∈ es, ∃ s, e.of = some s) ∧ (∀ f ∈ fs, ∃ s, f.of = some s) ∧ Places P w K H d met ∧
  (∀ f ∈ fs, ∀ e, enNum es f.num = some e → ∀ a b, e.of = some a → f.of = some b → InP met (a, b)) ∧ ∀ (H' : Hp) (u : V), Same H H' → Td K H' u (nodeD met es fs kind) → Q u H'
theorem cut_from3 (a b c : V) (r : List V) : cutV (a :: b :: c :: r) (some 3) none = r := by
  unfold cutV
  rw [HT.sIx_none, show (some (3 : Int)) = some ((3 : Nat) : Int) from rfl, HT.sIx_nat, show (a :: b :: c :: r).length = r.length + 3 from rfl, Nat.min_eq_left (by omega)]
  show r.take (r.length + 3 - 3) = r
  rw [Nat.add_sub_cancel, List.take_length]
theorem not_whole3 (a b c : V) (r : List V) : ¬ (HT.sIx (a :: b :: c :: r).length 0 (some 3) = 0 ∧ HT.sIx (a :: b :: c :: r).length (a :: b :: c :: r).length none = (a :: b :: c :: r).length) := fun h => by
  have h1 := h.1
  rw [show (some (3 : Int)) = some ((3 : Nat) : Int) from rfl, HT.sIx_nat] at h1
  have : (a :: b :: c :: r).length = r.length + 3 := rfl
  omega
section
variable {P : Program} {w : World} {K : PySem.W.Frag} {mg : Str → Option Value} {base : Heap}
/-- where a pair is met -/
theorem place_at {H : Hp} {d : Addr} {met : List Pr} {t : Addr} {a b : So} (h : Places P w K H d met) (hi : InP met (a, b)) (ht : Td K H (.ref t) (.tuple [a.pd, b.pd])) : ∃ xs k v, ND P w K H d xs ∧ NKey K H (.ref t) k ∧ getN xs k = some v ∧ v = .int (placeS met (a, b)) := by
  obtain ⟨xs, h1, h2⟩ := h
  exact ⟨xs, pk (a, b), _, h1, ⟨_, ht, rfl, hi.2⟩, pl_get h2 hi.1, rfl⟩
theorem ok_content_place {f : Addr} {fd : FuncData} (F : Fun K "_content_place" "_content_place" s__content_place f fd) : FnOk P w K mg base CX0 1 f fd ["inner", "new_inner", "places"] (spCont P w K) := by
  refine F.ok sc__content_place (fun vs H Q E h => ?_) (fun cdv A outer s H vs Q E hr h => ?_)
  · obtain ⟨v1, v2, d, oa, ob, met, rfl, _⟩ := h
    rfl
  · obtain ⟨v1, v2, d, oa, ob, met, rfl, h1, h2, hp, hin, q⟩ := h
    refine ⟨_, (pss_cons (ps_if (pt_cmpR op_isN (pv 1) pe_non (nomark _))
        (pss_one (ps_ret pe_non))
        pss_nil)
      (pss_one (ps_ret (pe_ifExp (pt_cmpR op_isN (pv 0) pe_non (nomark _)) (pe_un un_neg pe_int) (show PE _ _ (tNGet P w K _ _) from pe_nget hr.units (pv 2) (pe_tup (pa_cons (pv 0) (pa_cons (pv 1) pa_nil))) (fun _ _ => rfl)))))), ?_⟩
    cases ob with
    | none =>
      obtain rfl := Td.toNone h2
      exact ⟨_, rfl, rfl, _, rfl, iteY rfl (q H _ (Same.refl _) (by cases oa <;> exact (.non : Td K H .non .none)))⟩
    | some b =>
      obtain ⟨pb, zb, rfl, hpb, hzb⟩ := Td.sort (show Td K H v2 b.pd from h2)
      refine ⟨_, rfl, rfl, _, rfl, iteN (fun z => nomatch z) ?_⟩
      cases oa with
      | none =>
        obtain rfl := Td.toNone h1
        exact ⟨_, rfl, rfl, _, rfl, iteY rfl ⟨1, rfl, q H _ (Same.refl _) (.int (-1) : Td K H (.int (-1)) (.int (-1)))⟩⟩
      | some a =>
        obtain ⟨pa, za, rfl, hpa, hza⟩ := Td.sort (show Td K H v1 a.pd from h1)
        refine ⟨_, rfl, rfl, _, rfl, iteN (fun z => nomatch z) ?_⟩
        refine ⟨_, rfl, _, rfl, _, rfl, by show 2 ≤ sizeLine; decide, fun t ht => ?_⟩
        have st := same_upd (o := .tup [V.ref pa, .ref pb]) ht
        obtain ⟨xs, k, v, g1, g2, g3, rfl⟩ := place_at (hp.same st) (hin a b rfl rfl) (.tup (SqT.of upd_same) (.cons (Td.keep (KeepT.same st) h1) (.cons (Td.keep (KeepT.same st) h2) .nil)) : Td K _ (.ref t) (.tuple [a.pd, b.pd]))
        exact ⟨d, t, xs, k, _, rfl, rfl, g1, g2, g3, q _ _ st (.int _)⟩
theorem ok_choice_step {f : Addr} {fd : FuncData} (F : Fun K "_choice_step" "_choice_step" s__choice_step f fd) (T : Bu mg) (c_by_number : Cal P w K mg base 1 "by_number" ["row", "number"] (spByNum K)) (c__content_place : Cal P w K mg base 1 "_content_place" ["inner", "new_inner", "places"] (spCont P w K)) : FnOk P w K mg base CX0 2 f fd ["cases", "new_cases", "places"] (spChoice P w K) := by
  refine F.ok sc__choice_step (fun vs H Q E h => ?_) (fun cdv A outer s H vs Q E hr h => ?_)
  · obtain ⟨a, b, d, xs, ys, es, fs, met, rfl, _⟩ := h
    rfl
  · obtain ⟨a, b, d, xs, ys, es, fs, met, rfl, ha, hb, hx, hy, hl, hleft, hp, hin, q⟩ := h
    refine ⟨_, (pss_cons (ps_set (i := 3) sc__choice_step.nd rfl (.inl rfl) (pe_lst pa_nil))
      (pss_cons (ps_for PassesOwn.never rfl (pi_tup (pv 0)) (pg_tup rfl (pgs_cons (pg_name (i := 4) sc__choice_step.nd rfl (.inl rfl)) (pgs_cons (pg_name (i := 5) sc__choice_step.nd rfl (.inl rfl)) (pgs_cons (pg_name (i := 6) sc__choice_step.nd rfl (.inl rfl)) pgs_nil))))
        (pss_cons (ps_set (i := 7) sc__choice_step.nd rfl (.inl rfl) (pe_cal c_by_number hr (by decide) (by rfl) (pa_cons (pv 1) (pa_cons (pv 4) pa_nil))))
        (pss_one (ps_if (pt_cmpR op_notN (pv 7) pe_non (nomark _))
          (pss_one (ps_expr (pe_bm PySem.F.plainAttrs_list PySem.F.slot_list_append PySem.F.type_list_append mt_append (pv 3) (pa_cons (pe_tup (pa_cons (pv 4) (pa_cons (pe_ix (r := rIxT K) ix_tup (pv 7) pe_int (fun _ _ => rfl)) (pa_cons (pe_cal c__content_place hr (by decide) (by rfl) (pa_cons (pv 6) (pa_cons (pe_ix (r := rIxT K) ix_tup (pv 7) pe_int (fun _ _ => rfl)) (pa_cons (pv 2) pa_nil)))) pa_nil)))) pa_nil))))
          pss_nil))))
      (pss_cons (ps_set (i := 8) sc__choice_step.nd rfl (.inl rfl) (pe_cal c_by_number hr (by decide) (by rfl) (pa_cons (pv 1) (pa_cons pe_int pa_nil))))
      (pss_one (ps_ret (pe_tup (pa_cons pe_str (pa_cons (pe_callTy (T := "tuple") (r := rTupOf K) cr_tupK (by rfl) T.n_tuple (by decide +kernel) (pa_cons (pv 3) pa_nil)) (pa_cons (pe_ifExp (pt_cmpR op_isN (pv 8) pe_non (nomark _)) pe_non (pe_ix (r := rIxT K) ix_tup (pv 8) pe_int (fun _ _ => rfl))) pa_nil))))))))), ?_⟩
    have hxl := hx.len
    rw [List.length_map] at hxl
    refine ⟨by show 0 ≤ sizeLine; decide, fun D hD => ?_⟩
    refine ⟨_, rfl, a, rfl, ⟨_, KeepT.same (same_upd hD) _ _ ha⟩, ?_⟩
    refine for_it (walk_tup (K := K) (a := a) (xs := xs)) (fun i σ H' => ∃ (y4 y5 y6 y7 y8 : Option V) (acc : List V), σ = [some (.ref a), some (.ref b), some (.ref d), some (.ref D), y4, y5, y6, y7, y8] ∧ Same H H' ∧ H' D = some (.lst acc) ∧ acc.length ≤ i ∧ Tds K H' acc ((es.take i).filterMap (caseStep met fs))) ⟨_, _, _, _, _, [], rfl, same_upd hD, upd_same, Nat.le_refl _, .nil⟩ (fun i σ H' _ h => ?_) ?_ ?_
    · obtain ⟨_, _, _, _, _, _, _, s, _⟩ := h
      exact KeepT.same s _ _ ha
    · rintro i x σ H2 H3 hi ⟨y4, y5, y6, y7, y8, acc, rfl, s2, hD2, hal, hacc⟩ ⟨rfl, hv⟩
      obtain ⟨e, he, hte⟩ := en_at hx hv
      have hem := List.mem_of_getElem? he
      have hte := hte.keep (KeepT.same s2)
      obtain ⟨pe, ue, re, rfl, hpe, hue, hre⟩ := en_row hte
      rw [hleft e hem] at hre
      obtain rfl : re = [] := by cases hre; rfl
      have hnext := filterMap_take (f := caseStep met fs) he
      refine ⟨pe, _, rfl, hpe, rfl, _, _, rfl, _, _, rfl, _, _, rfl, rfl, ?_⟩
      refine ⟨_, rfl, _, rfl, b, ys, fs, e.num, rfl, KeepT.same s2 _ _ hb, hy.keep (KeepT.same s2), fun u hu => ?_⟩
      unfold caseStep at hnext
      cases hn : enNum fs e.num with
      | none =>
        rw [hn] at hu hnext
        obtain rfl : u = .non := hu
        refine ⟨_, rfl, rfl, _, rfl, iteNY rfl ⟨_, _, _, _, _, acc, rfl, s2, hD2, by omega, ?_⟩⟩
        rw [show (es.take (i + 1)).filterMap (caseStep met fs) = (es.take i).filterMap (caseStep met fs) from by
          rw [filterMap_take (f := caseStep met fs) he]
          unfold caseStep
          rw [hn]
          exact List.append_nil _]
        exact hacc
      | some g =>
        rw [hn] at hu
        obtain ⟨pg, ug, rg, rfl, hpg, hug, _⟩ := en_row hu
        refine ⟨_, rfl, rfl, _, rfl, iteNN (fun z => nomatch z) ?_⟩
        refine ⟨_, rfl, .inl ⟨rfl, _, SqL.of hD2⟩, _, rfl, _, rfl, pg, _, 1, _, rfl, rfl, hpg, at1, _, rfl, _, rfl, pg, _, 2, _, rfl, rfl, hpg, at2, _, rfl, ue, ug, d, e.of, g.of, met, rfl, hue, hug, hp.same s2, fun a b ea eb => hin e hem g hn a b ea eb, fun H4 u s4 hu4 => ⟨by show 3 ≤ sizeLine; decide, fun t ht => ?_⟩⟩
        have j1 := same_upd (o := .tup [V.int e.num, .str g.name, u]) ht
        have jj := s4.trans j1
        refine ⟨D, acc, _, rfl, rfl, jj _ _ hD2, by rw [sizeLine_eq]; omega, ?_⟩
        have kD := keepT_lst (K := K) (ys := acc ++ [V.ref t]) (jj _ _ hD2)
        refine ⟨_, _, _, _, _, acc ++ [.ref t], rfl, same_new (s2.trans jj) hD, upd_same, by rw [List.length_append]; show _ + 1 ≤ _; omega, ?_⟩
        rw [show (es.take (i + 1)).filterMap (caseStep met fs) = (es.take i).filterMap (caseStep met fs) ++ [.tuple [.int e.num, .str g.name, contentD met e.of g.of]] from by
          rw [filterMap_take (f := caseStep met fs) he]
          congr 1
          unfold caseStep
          rw [hn] <;> rfl]
        refine Tds.append ((hacc.keep (KeepT.same jj)).keep kD) (.cons (Td.keep kD ?_) .nil)
        exact .tup (SqT.of upd_same) (.cons (.int _) (.cons (.str _) (.cons (hu4.keep (KeepT.same j1)) .nil)))
    · rintro σ H2 ⟨y4, y5, y6, y7, y8, acc, rfl, s2, hD2, hal, hacc⟩
      rw [List.take_of_length_le (by omega)] at hacc
      refine ⟨_, rfl, b, ys, fs, 0, rfl, KeepT.same s2 _ _ hb, hy.keep (KeepT.same s2), fun u hu => ?_⟩
      refine ⟨_, rfl, D, acc, rfl, .inl ⟨SqL.of hD2, fun t ht => ?_⟩⟩
      have j1 := same_upd (o := .tup acc) ht
      have fin : ∀ (v : V), Td K (upd H2 t (.tup acc)) v ((enNum fs 0).elim .none fun f => .str f.name) → ∀ t2, (upd H2 t (.tup acc)) t2 = none → Q (.ref t2) (upd (upd H2 t (.tup acc)) t2 (.tup [V.str "choice", .ref t, v])) := fun v hv t2 ht2 => by
        have j2 := same_upd (o := .tup [V.str "choice", .ref t, v]) ht2
        refine q _ _ (s2.trans (j1.trans j2)) ?_
        exact .tup (SqT.of upd_same) (.cons (.str _) (.cons (.tup (SqT.of (j2 _ _ upd_same)) (hacc.keep (KeepT.same (j1.trans j2)))) (.cons (hv.keep (KeepT.same j2)) .nil)))
      cases hn : enNum fs 0 with
      | none =>
        rw [hn] at hu fin
        obtain rfl : u = .non := hu
        exact ⟨_, rfl, rfl, _, rfl, iteY rfl ⟨by show 3 ≤ sizeLine; decide, fun t2 ht2 => fin .non .non t2 ht2⟩⟩
      | some g =>
        rw [hn] at hu fin
        obtain ⟨pg, ug, rg, rfl, hpg, _⟩ := en_row hu
        exact ⟨_, rfl, rfl, _, rfl, iteN (fun z => nomatch z) ⟨_, rfl, pg, _, 1, _, rfl, rfl, KeepT.same j1 _ _ hpg, at1, by show 3 ≤ sizeLine; decide, fun t2 ht2 => fin (.str g.name) (.str _) t2 ht2⟩⟩
end
end K34
set_option maxHeartbeats 2000000
namespace K34
open PySem PySem.Spec PyProof.Rows L2 Tw Sb LamX
section
variable {P : Program} {w : World} {K : PySem.W.Frag} {mg : Str → Option Value} {base : Heap}
theorem ok_node_step {f : Addr} {fd : FuncData} (F : Fun K "_node_step" "_node_step" s__node_step f fd) (T : Bu mg) (c_by_number : Cal P w K mg base 1 "by_number" ["row", "number"] (spByNum K)) : FnOk P w K mg base CX0 2 f fd ["fields", "new_fields", "kind", "places"] (spNode P w K) := by
  refine F.ok sc__node_step (fun vs H Q E h => ?_) (fun cdv A outer s H vs Q E hr h => ?_)
  · obtain ⟨a, b, d, xs, ys, es, fs, kind, met, rfl, _⟩ := h
    rfl
  · obtain ⟨a, b, d, xs, ys, es, fs, kind, met, rfl, ha, hb, hx, hy, hl, hes, hfs, hp, hin, q⟩ := h
    refine ⟨_, (pss_cons (ps_set (i := 4) sc__node_step.nd rfl (.inl rfl) (pe_lst pa_nil))
      (pss_cons (ps_set (i := 5) sc__node_step.nd rfl (.inl rfl) (pe_lst pa_nil))
      (pss_cons (ps_set (i := 6) sc__node_step.nd rfl (.inl rfl) (pe_lst pa_nil))
      (pss_cons (ps_for PassesOwn.never rfl (pi_tup (pv 1)) (pg_star (k := 3) rfl (pgs_cons (pg_name (i := 7) sc__node_step.nd rfl (.inl rfl)) (pgs_cons (pg_name (i := 8) sc__node_step.nd rfl (.inl rfl)) (pgs_cons (pg_name (i := 9) sc__node_step.nd rfl (.inl rfl)) (pgs_star (pg_name (i := 10) sc__node_step.nd rfl (.inl rfl)))))))
        (pss_cons (ps_set (i := 11) sc__node_step.nd rfl (.inl rfl) (pe_cal c_by_number hr (by decide) (by rfl) (pa_cons (pv 0) (pa_cons (pv 7) pa_nil))))
        (pss_one (ps_if (pt_cmpR op_notN (pv 11) pe_non (nomark _))
          (pss_one (ps_expr (pe_bm PySem.F.plainAttrs_list PySem.F.slot_list_append PySem.F.type_list_append mt_append (pv 4) (pa_cons (pe_tup (pa_cons (pv 7) (pa_cons (pv 8) (pa_cons (show PE _ _ (tNGet P w K _ _) from pe_nget hr.units (pv 3) (pe_tup (pa_cons (pe_ix (r := rIxT K) ix_tup (pv 11) pe_int (fun _ _ => rfl)) (pa_cons (pv 9) pa_nil))) (fun _ _ => rfl)) (pa_cons (pe_slice (r := rSlT K) sl_tup (pv 11) (po_some pe_int) po_none) pa_nil))))) pa_nil))))
          (pss_one (ps_if (pt_cmpR op_gt (pe_callB call_len (by rfl) T.n_len (by decide +kernel) (pa_cons (pv 10) pa_nil)) pe_int (nomark _))
            (pss_one (ps_expr (pe_bm PySem.F.plainAttrs_list PySem.F.slot_list_append PySem.F.type_list_append mt_append (pv 5) (pa_cons (pe_tup (pa_cons (pv 8) (pa_cons (pe_ix (r := rIxL K) ix_list (pv 10) pe_int (fun _ _ => rfl)) pa_nil))) pa_nil))))
            (pss_one (ps_expr (pe_bm PySem.F.plainAttrs_list PySem.F.slot_list_append PySem.F.type_list_append mt_append (pv 6) (pa_cons (pv 8) pa_nil))))))))))
      (pss_one (ps_ret (pe_tup (pa_cons pe_str (pa_cons (pv 2) (pa_cons (pe_callTy (T := "tuple") (r := rTupOf K) cr_tupK (by rfl) T.n_tuple (by decide +kernel) (pa_cons (pv 4) pa_nil)) (pa_cons (pe_callTy (T := "tuple") (r := rTupOf K) cr_tupK (by rfl) T.n_tuple (by decide +kernel) (pa_cons (pv 5) pa_nil)) (pa_cons (pe_callTy (T := "tuple") (r := rTupOf K) cr_tupK (by rfl) T.n_tuple (by decide +kernel) (pa_cons (pv 6) pa_nil)) pa_nil)))))))))))), ?_⟩
    have hyl := hy.len
    rw [List.length_map] at hyl
    refine ⟨by show 0 ≤ sizeLine; decide, fun D4 h4 => ⟨by show 0 ≤ sizeLine; decide, fun D5 h5 => ⟨by show 0 ≤ sizeLine; decide, fun D6 h6 => ?_⟩⟩⟩
    have j4 := same_upd (o := .lst []) h4
    have j5 := same_upd (o := .lst []) h5
    have j6 := same_upd (o := .lst []) h6
    have n45 : D4 ≠ D5 := fun e => by rw [← e, upd_same] at h5; cases h5
    have n46 : D4 ≠ D6 := fun e => by rw [← e] at h6; rw [j5 _ _ upd_same] at h6; cases h6
    have n56 : D5 ≠ D6 := fun e => by rw [← e, upd_same] at h6; cases h6
    have e5 : H D5 = none := same_none j4 h5
    have e6 : H D6 = none := same_none (j4.trans j5) h6
    refine ⟨_, rfl, b, rfl, ⟨_, KeepT.same ((j4.trans j5).trans j6) _ _ hb⟩, ?_⟩
    refine for_it (walk_tup (K := K) (a := b) (xs := ys)) (fun i σ H' => ∃ (y7 y8 y9 y10 y11 : Option V) (a4 a5 a6 : List V), σ = [some (.ref a), some (.ref b), some (.str kind), some (.ref d), some (.ref D4), some (.ref D5), some (.ref D6), y7, y8, y9, y10, y11] ∧ Same H H' ∧ H' D4 = some (.lst a4) ∧ H' D5 = some (.lst a5) ∧ H' D6 = some (.lst a6) ∧ a4.length ≤ i ∧ a5.length ≤ i ∧ a6.length ≤ i ∧
      Tds K H' a4 ((fs.take i).filterMap (likeStep met es)) ∧ Tds K H' a5 ((fs.take i).filterMap (leftStep es)) ∧ Tds K H' a6 ((fs.take i).filterMap (lackStep es))) ⟨_, _, _, _, _, [], [], [], rfl, (j4.trans j5).trans j6, j6 _ _ (j5 _ _ upd_same), j6 _ _ upd_same, upd_same, Nat.le_refl _, Nat.le_refl _, Nat.le_refl _, .nil, .nil, .nil⟩ (fun i σ H' _ h => ?_) ?_ ?_
    · obtain ⟨_, _, _, _, _, _, _, _, _, s, _⟩ := h
      exact KeepT.same s _ _ hb
    · rintro i x σ H2 H3 hi ⟨y7, y8, y9, y10, y11, a4, a5, a6, rfl, s2, v4, v5, v6, l4, l5, l6, t4, t5, t6⟩ ⟨rfl, hv⟩
      obtain ⟨f0, hf, htf⟩ := en_at hy hv
      have hfm := List.mem_of_getElem? hf
      obtain ⟨sb, hsb⟩ := hfs f0 hfm
      have htf := htf.keep (KeepT.same s2)
      obtain ⟨pf, uf, rf, rfl, hpf, huf, hrf⟩ := en_row htf
      have hrl : rf.length ≤ 1 := by
        have := hrf.len
        rw [this]
        cases f0.left <;> simp
      refine ⟨pf, _, rfl, hpf, by show 3 ≤ rf.length + 3; omega, by show rf.length + 3 ≤ _; omega, fun Ls hLs => ?_⟩
      rw [show List.drop 3 (V.int f0.num :: .str f0.name :: uf :: rf) = rf from rfl]
      refine ⟨_, _, rfl, _, _, rfl, _, _, rfl, _, _, rfl, rfl, ?_⟩
      have jL := same_upd (o := .lst rf) hLs
      have n4 := ne_of_none v4 hLs
      have n5 := ne_of_none v5 hLs
      have n6 := ne_of_none v6 hLs
      have hLv : (upd H3 Ls (.lst rf)) Ls = some (.lst rf) := upd_same
      have s3 := s2.trans jL
      have v4 := jL _ _ v4
      have v5 := jL _ _ v5
      have v6 := jL _ _ v6
      have t4 := t4.keep (KeepT.same jL)
      have t5 := t5.keep (KeepT.same jL)
      have t6 := t6.keep (KeepT.same jL)
      have huf := huf.keep (KeepT.same jL)
      have hrf := hrf.keep (KeepT.same jL)
      generalize upd H3 Ls (.lst rf) = H4 at s3 v4 v5 v6 t4 t5 t6 huf hrf hLv ⊢
      refine ⟨_, rfl, _, rfl, a, xs, es, f0.num, rfl, KeepT.same s3 _ _ ha, hx.keep (KeepT.same s3), fun u hu => ?_⟩
      have g4 := filterMap_take (f := likeStep met es) hf
      have g5 := filterMap_take (f := leftStep es) hf
      have g6 := filterMap_take (f := lackStep es) hf
      cases hn : enNum es f0.num with
      | some e =>
        rw [hn] at hu
        obtain ⟨sa, hsa⟩ := hes e (enNum_mem hn).1
        obtain ⟨pe, ue, re, rfl, hpe, hue, hre⟩ := en_row hu
        rw [show likeStep met es f0 = some (.tuple [.int f0.num, .str f0.name, .int (placeS met (sa, sb)), .tuple e.left.toList]) by unfold likeStep; rw [hn, hsb]; dsimp only; rw [hsa] <;> rfl] at g4
        rw [show leftStep es f0 = none by unfold leftStep; rw [hn] <;> rfl] at g5
        rw [show lackStep es f0 = none by unfold lackStep; rw [hn] <;> rfl] at g6
        refine ⟨_, rfl, rfl, _, rfl, iteNN (fun z => nomatch z) ?_⟩
        refine ⟨_, rfl, .inl ⟨rfl, _, SqL.of v4⟩, _, rfl, _, rfl, _, rfl, _, rfl, pe, _, 2, _, rfl, rfl, hpe, at2, _, rfl, by show 2 ≤ sizeLine; decide, fun t1 ht1 => ?_⟩
        have i1 := same_upd (o := .tup [ue, uf]) ht1
        rw [hsa] at hue
        rw [hsb] at huf
        obtain ⟨zs, k, v, c1, c2, c3, rfl⟩ := place_at ((hp.same s3).same i1) (hin f0 hfm e hn sa sb hsa hsb) (.tup (SqT.of upd_same) (.cons (hue.keep (KeepT.same i1)) (.cons (huf.keep (KeepT.same i1)) .nil)) : Td K _ (.ref t1) (.tuple [sa.pd, sb.pd]))
        refine ⟨d, t1, zs, k, _, rfl, rfl, c1, c2, c3, _, rfl, _, rfl, pe, _, rfl, KeepT.same i1 _ _ hpe, not_whole3 _ _ _ _, fun t2 ht2 => ?_⟩
        rw [cut_from3]
        have i2 := same_upd (o := .tup re) ht2
        refine ⟨by show 4 ≤ sizeLine; decide, fun t3 ht3 => ?_⟩
        have i3 := same_upd (o := .tup [V.int f0.num, .str f0.name, .int (placeS met (sa, sb)), .ref t2]) ht3
        have ii := (i1.trans i2).trans i3
        refine ⟨D4, a4, _, rfl, rfl, ii _ _ v4, by rw [sizeLine_eq]; omega, ?_⟩
        have kD := keepT_lst (K := K) (ys := a4 ++ [V.ref t3]) (ii _ _ v4)
        have kk := (KeepT.same ii).trans kD
        refine ⟨_, _, _, _, _, a4 ++ [.ref t3], a5, a6, rfl, same_new (s3.trans ii) h4, upd_same, by rw [upd_ne n45.symm]; exact ii _ _ v5, by rw [upd_ne n46.symm]; exact ii _ _ v6, by rw [List.length_append]; show _ + 1 ≤ _; omega, by omega, by omega, ?_, ?_, ?_⟩
        · rw [g4]
          refine Tds.append (t4.keep kk) (.cons (Td.keep kD ?_) .nil)
          exact .tup (SqT.of upd_same) (.cons (.int _) (.cons (.str _) (.cons (.int _) (.cons (.tup (SqT.of (i3 _ _ upd_same)) (hre.keep (KeepT.same ii))) .nil))))
        · rw [g5]
          show Tds K _ a5 (_ ++ [])
          rw [List.append_nil]
          exact t5.keep kk
        · rw [g6]
          show Tds K _ a6 (_ ++ [])
          rw [List.append_nil]
          exact t6.keep kk
      | none =>
        rw [hn] at hu
        obtain rfl : u = .non := hu
        rw [show likeStep met es f0 = none by unfold likeStep; rw [hn] <;> rfl] at g4
        refine ⟨_, rfl, rfl, _, rfl, iteNY rfl ?_⟩
        refine ⟨_, rfl, .ref Ls, _, rfl, .inl ⟨_, SqL.of hLv, rfl⟩, _, 0, rfl, rfl, _, rfl, ?_⟩
        cases hlf : f0.left with
        | some dd =>
          rw [hlf] at hrf
          obtain ⟨v0, rfl, hv0⟩ := Tds.c1 (show Tds K H4 rf [dd] from hrf)
          rw [show leftStep es f0 = some (.tuple [.str f0.name, dd]) by unfold leftStep; rw [hn]; dsimp only; rw [hlf] <;> rfl] at g5
          rw [show lackStep es f0 = none by unfold lackStep; rw [hn, hlf] <;> rfl] at g6
          refine iteY (show ((1 : Nat) : Int) > 0 by decide) ?_
          refine ⟨_, rfl, .inl ⟨rfl, _, SqL.of v5⟩, _, rfl, _, rfl, Ls, _, 0, _, rfl, rfl, SqL.of hLv, at0, by show 2 ≤ sizeLine; decide, fun t1 ht1 => ?_⟩
          have i1 := same_upd (o := .tup [V.str f0.name, v0]) ht1
          refine ⟨D5, a5, _, rfl, rfl, i1 _ _ v5, by rw [sizeLine_eq]; omega, ?_⟩
          have kD := keepT_lst (K := K) (ys := a5 ++ [V.ref t1]) (i1 _ _ v5)
          have kk := (KeepT.same i1).trans kD
          refine ⟨_, _, _, _, _, a4, a5 ++ [.ref t1], a6, rfl, same_new (s3.trans i1) e5, by rw [upd_ne n45]; exact i1 _ _ v4, upd_same, by rw [upd_ne n56.symm]; exact i1 _ _ v6, by omega, by rw [List.length_append]; show _ + 1 ≤ _; omega, by omega, ?_, ?_, ?_⟩
          · rw [g4]
            show Tds K _ a4 (_ ++ [])
            rw [List.append_nil]
            exact t4.keep kk
          · rw [g5]
            refine Tds.append (t5.keep kk) (.cons (Td.keep kD ?_) .nil)
            exact .tup (SqT.of upd_same) (.cons (.str _) (.cons (hv0.keep (KeepT.same i1)) .nil))
          · rw [g6]
            show Tds K _ a6 (_ ++ [])
            rw [List.append_nil]
            exact t6.keep kk
        | none =>
          rw [hlf] at hrf
          obtain rfl : rf = [] := by cases hrf; rfl
          rw [show leftStep es f0 = none by unfold leftStep; rw [hn]; dsimp only; rw [hlf] <;> rfl] at g5
          rw [show lackStep es f0 = some (.str f0.name) by unfold lackStep; rw [hn, hlf] <;> rfl] at g6
          refine iteN (show ¬ ((0 : Nat) : Int) > 0 by decide) ?_
          refine ⟨_, rfl, .inl ⟨rfl, _, SqL.of v6⟩, _, rfl, D6, a6, _, rfl, rfl, v6, by rw [sizeLine_eq]; omega, ?_⟩
          have kD := keepT_lst (K := K) (ys := a6 ++ [V.str f0.name]) v6
          refine ⟨_, _, _, _, _, a4, a5, a6 ++ [.str f0.name], rfl, same_new s3 e6, by rw [upd_ne n46]; exact v4, by rw [upd_ne n56]; exact v5, upd_same, by omega, by omega, by rw [List.length_append]; show _ + 1 ≤ _; omega, ?_, ?_, ?_⟩
          · rw [g4]
            show Tds K _ a4 (_ ++ [])
            rw [List.append_nil]
            exact t4.keep kD
          · rw [g5]
            show Tds K _ a5 (_ ++ [])
            rw [List.append_nil]
            exact t5.keep kD
          · rw [g6]
            exact Tds.append (t6.keep kD) (.cons (.str _) .nil)
    · rintro σ H2 ⟨y7, y8, y9, y10, y11, a4, a5, a6, rfl, s2, v4, v5, v6, l4, l5, l6, t4, t5, t6⟩
      rw [List.take_of_length_le (by omega)] at t4 t5 t6
      refine ⟨_, rfl, _, rfl, D4, a4, rfl, .inl ⟨SqL.of v4, fun t1 ht1 => ?_⟩⟩
      have i1 := same_upd (o := .tup a4) ht1
      refine ⟨_, rfl, D5, a5, rfl, .inl ⟨SqL.of (i1 _ _ v5), fun t2 ht2 => ?_⟩⟩
      have i2 := same_upd (o := .tup a5) ht2
      refine ⟨_, rfl, D6, a6, rfl, .inl ⟨SqL.of (i2 _ _ (i1 _ _ v6)), fun t3 ht3 => ⟨by show 5 ≤ sizeLine; decide, fun t4' ht4 => ?_⟩⟩⟩
      have i3 := same_upd (o := .tup a6) ht3
      have i4 := same_upd (o := .tup [V.str "node", .str kind, .ref t1, .ref t2, .ref t3]) ht4
      have ii := ((i1.trans i2).trans i3).trans i4
      refine q _ _ (s2.trans ii) ?_
      exact .tup (SqT.of upd_same) (.cons (.str _) (.cons (.str _) (.cons (.tup (SqT.of (i4 _ _ (i3 _ _ (i2 _ _ upd_same)))) (t4.keep (KeepT.same ii))) (.cons (.tup (SqT.of (i4 _ _ (i3 _ _ upd_same))) (t5.keep (KeepT.same ii))) (.cons (.tup (SqT.of (i4 _ _ upd_same)) (t6.keep (KeepT.same ii))) .nil)))))
end
end K34
set_option maxHeartbeats 2000000
namespace K34
open PySem PySem.Spec PyProof.Rows L2 Tw Sb LamX
def spStep (P : Program) (w : World) (K : PySem.W.Frag) (CS : Addr) : Sp := fun vs H Q _ => ∃ (a b d : Addr) (v : V) (tk1 tc1 tk2 tc2 : List TRow) (o1 o2 : So) (p : Pr) (met : List Pr), vs = [.ref a, .ref b, v, .ref d] ∧ ScK K CS H a tk1 tc1 o1 ∧ ScK K CS H b tk2 tc2 o2 ∧ SkOk tk1 tc1 o1 ∧ SkOk tk2 tc2 o2 ∧ Td K H v (pairD p) ∧ Gp tk1 tc1 tk2 tc2 p ∧ Places P w K H d met ∧ (∀ q ∈ into (scmT tk1 tc1 o1) (scmT tk2 tc2 o2) p, InP met q) ∧
  ∀ (H' : Hp) (u : V), Same H H' → Td K H' u (stepD (scmT tk1 tc1 o1) (scmT tk2 tc2 o2) met p.1 p.2) → Q u H'
theorem num_self {k : Bool} {ks cs : List Str} {es : List En} (h : RowOk k ks cs es) {f : En} (hf : f ∈ sortEn es) : enNum (sortEn es) f.num = some f := find_one hf (decide_eq_true rfl) fun y hy hp => h.eq ((mem_sortEn f).mp hf) ((mem_sortEn y).mp hy) (.inr (of_decide_eq_true hp).symm)
theorem into_mem {g : Str → PyData} {es fs : List En} {e f : En} {a b : So} (he : e ∈ es) (hf : enNum fs e.num = some f) (ha : e.of = some a) (hb : f.of = some b) : (a, b) ∈ ((likesS es fs).filterMap (stepOf g)).map (·.2) := by
  refine List.mem_map.mpr ⟨(.tuple [g f.name], a, b), List.mem_filterMap.mpr ⟨(f, some a, some b), List.mem_filterMap.mpr ⟨e, he, ?_⟩, rfl⟩, rfl⟩
  unfold likeOf
  rw [hf, ← ha, ← hb] <;> rfl
theorem step_bad {A B : Scm} {met : List Pr} {o n : So} (h1 : o.isMay = false) (h2 : n.isMay = false) (h3 : o.word ≠ n.word) : stepD A B met o n = .tuple [.str "bad"] := by
  cases o <;> cases n <;> first
    | exact absurd rfl h3
    | exact absurd h1 (show ¬ (true = false) by decide)
    | exact absurd h2 (show ¬ (true = false) by decide)
    | rfl
section
variable {P : Program} {w : World} {K : PySem.W.Frag} {mg : Str → Option Value} {base : Heap}
theorem ok_step {CS f : Addr} {fd : FuncData} (F : Fun K "_step" "_step" s__step f fd) (cs : ClS K CS) (c_pair_word : Cal P w K mg base 1 "pair_word" ["pair"] (spPW K)) (c_inner_pair : Cal P w K mg base 2 "inner_pair" ["pair"] (spInner K)) (c__choice_step : Cal P w K mg base 2 "_choice_step" ["cases", "new_cases", "places"] (spChoice P w K)) (c__node_step : Cal P w K mg base 2 "_node_step" ["fields", "new_fields", "kind", "places"] (spNode P w K)) : FnOk P w K mg base CX0 3 f fd ["old", "new", "pair", "places"] (spStep P w K CS) := by
  refine F.ok sc__step (fun vs H Q E h => ?_) (fun cdv A outer s H vs Q E hr h => ?_)
  · obtain ⟨a, b, d, v, tk1, tc1, tk2, tc2, o1, o2, p, met, rfl, _⟩ := h
    rfl
  · obtain ⟨a, b, d, v, tk1, tc1, tk2, tc2, o1, o2, ⟨o, n⟩, met, rfl, hA, hB, okA, okB, ht, hG, hp, hin, q⟩ := h
    have hu := hu_of hr
    refine ⟨_, (pss_cons (ps_asg (pv 2) (pg_tup rfl (pgs_cons (pg_name (i := 4) sc__step.nd rfl (.inl rfl)) (pgs_cons (pg_name (i := 5) sc__step.nd rfl (.inl rfl)) pgs_nil))))
      (pss_cons (ps_set (i := 6) sc__step.nd rfl (.inl rfl) (pe_cal c_pair_word hr (by decide) (by rfl) (pa_cons (pv 2) pa_nil)))
      (pss_cons (ps_if (pt_cmpR op_in_seq (pv 6) (pe_tup (pa_cons pe_str (pa_cons pe_str pa_nil))) (by rfl))
        (pss_one (ps_ret (pv 5)))
        pss_nil)
      (pss_cons (ps_if (pt_cmpR op_eq (pv 6) pe_str (nomark _))
        (pss_one (ps_ret (pe_tup (pa_cons pe_str (pa_cons (pe_ix (r := rIxT K) ix_tup (pv 5) pe_int (fun _ _ => rfl)) (pa_cons (pe_ifExp (PW.pt (pw_and (pt_cmpR op_gt (pe_ix (r := rIxT K) ix_tup (pv 4) pe_int (fun _ _ => rfl)) pe_int (nomark _)) (pw_and1 (pt_cmpR op_gt (pe_ix (r := rIxT K) ix_tup (pv 5) pe_int (fun _ _ => rfl)) pe_int (nomark _))))) (show PE _ _ (tNGet P w K _ _) from pe_nget hr.units (pv 3) (pe_cal c_inner_pair hr (by decide) (by rfl) (pa_cons (pv 2) pa_nil)) (fun _ _ => rfl)) (pe_un un_neg pe_int)) pa_nil))))))
        pss_nil)
      (pss_cons (ps_if (pt_cmpR op_in_seq (pv 6) (pe_tup (pa_cons pe_str (pa_cons pe_str (pa_cons pe_str pa_nil)))) (by rfl))
        (pss_one (ps_ret (pe_tup (pa_cons (pv 6) (pa_cons (show PE _ _ (tNGet P w K _ _) from pe_nget hr.units (pv 3) (pe_cal c_inner_pair hr (by decide) (by rfl) (pa_cons (pv 2) pa_nil)) (fun _ _ => rfl)) pa_nil)))))
        pss_nil)
      (pss_cons (ps_if (pt_cmpR op_eq (pv 6) pe_str (nomark _))
        (pss_one (ps_ret (pe_cal c__choice_step hr (by decide) (by rfl) (pa_cons (pe_dget hu (pe_fld (pv 0) rfl) (pe_ix (r := rIxT K) ix_tup (pv 4) pe_int (fun _ _ => rfl)) (fun _ _ => rfl)) (pa_cons (pe_dget hu (pe_fld (pv 1) rfl) (pe_ix (r := rIxT K) ix_tup (pv 5) pe_int (fun _ _ => rfl)) (fun _ _ => rfl)) (pa_cons (pv 3) pa_nil))))))
        pss_nil)
      (pss_cons (ps_if (pt_cmpR op_eq (pv 6) pe_str (nomark _))
        (pss_one (ps_ret (pe_cal c__node_step hr (by decide) (by rfl) (pa_cons (pe_dget hu (pe_fld (pv 0) rfl) (pe_ix (r := rIxT K) ix_tup (pv 4) pe_int (fun _ _ => rfl)) (fun _ _ => rfl)) (pa_cons (pe_dget hu (pe_fld (pv 1) rfl) (pe_ix (r := rIxT K) ix_tup (pv 5) pe_int (fun _ _ => rfl)) (fun _ _ => rfl)) (pa_cons (pe_ix (r := rIxT K) ix_tup (pv 5) pe_int (fun _ _ => rfl)) (pa_cons (pv 3) pa_nil)))))))
        pss_nil)
      (pss_one (ps_ret (pe_tup (pa_cons (pv 6) pa_nil))))))))))), ?_⟩
    obtain ⟨g1, g2, g3⟩ := hG
    obtain ⟨p0, x0, y0, rfl, hp0, hx0, hy0⟩ := Td.pair (show Td K H v (.tuple [o.pd, n.pd]) from ht)
    obtain ⟨po, zo, rfl, hpo, hzo⟩ := hx0.sort
    obtain ⟨pn, zn, rfl, hpn, hzn⟩ := hy0.sort
    obtain ⟨dx1, k1, c1, rv1, kv1, kw1, a1, a2, a3, a4, a5, _⟩ := hA
    obtain ⟨dx2, k2, c2, rv2, kv2, kw2, b1, b2, b3, b4, b5, _⟩ := hB
    refine ⟨_, rfl, p0, _, rfl, hp0, rfl, _, _, rfl, _, _, rfl, rfl, ?_⟩
    refine ⟨_, rfl, .ref p0, o, n, rfl, ht, ?_⟩
    have hW : ∀ W, pwS o n = W → (W = "row" ∨ W = "maybe" ∨ W = "force" ∨ W = "wrap") → (pwS o n = "row" ∨ pwS o n = "maybe" ∨ pwS o n = "force" ∨ pwS o n = "wrap") := fun W e h => by rw [e]; exact h
    have k := pkn_of o n
    generalize hWd : pwS o n = W at k ⊢
    cases k with
    | num a b c d =>
      refine ⟨_, rfl, by show 2 ≤ sizeLine; decide, fun tt2 htt => ⟨tt2, _, rfl, .inr (SqT.of upd_same), rfl, rfl, _, rfl, ?_⟩⟩
      rw [show inV (V.str ("number" : Str)) [V.str ("number" : Str), V.str ("text" : Str)] = true from (by decide +kernel)]
      have jt2 := same_upd (o := .tup [V.str ("number" : Str), V.str ("text" : Str)]) htt
      exact iteT ⟨_, rfl, q _ _ jt2 (hy0.keep (KeepT.same jt2))⟩
    | txt a b =>
      refine ⟨_, rfl, by show 2 ≤ sizeLine; decide, fun tt2 htt => ⟨tt2, _, rfl, .inr (SqT.of upd_same), rfl, rfl, _, rfl, ?_⟩⟩
      rw [show inV (V.str ("text" : Str)) [V.str ("number" : Str), V.str ("text" : Str)] = true from (by decide +kernel)]
      have jt2 := same_upd (o := .tup [V.str ("number" : Str), V.str ("text" : Str)]) htt
      exact iteT ⟨_, rfl, q _ _ jt2 (hy0.keep (KeepT.same jt2))⟩
    | row c x e y =>
      refine ⟨_, rfl, by show 2 ≤ sizeLine; decide, fun tt2 htt => ⟨tt2, _, rfl, .inr (SqT.of upd_same), rfl, rfl, _, rfl, ?_⟩⟩
      rw [show inV (V.str ("row" : Str)) [V.str ("number" : Str), V.str ("text" : Str)] = false from (by decide +kernel)]
      have jt2 := same_upd (o := .tup [V.str ("number" : Str), V.str ("text" : Str)]) htt
      refine iteF ?_
      obtain ⟨z1, z2, rfl, e1, e2⟩ := hzo.c2
      obtain rfl := e1.toInt
      obtain ⟨z3, z4, rfl, e3, e4⟩ := hzn.c2
      obtain rfl := e3.toInt
      have hpo := KeepT.same jt2 _ _ hpo
      have hpn := KeepT.same jt2 _ _ hpn
      have ht := Td.keep (KeepT.same jt2) ht
      have hp2 := hp.same jt2
      generalize upd H tt2 (.tup [V.str ("number" : Str), V.str ("text" : Str)]) = H2 at jt2 hpo hpn ht hp2 ⊢
      have fin : ∀ (H5 : Hp) (z : Int), Same H2 H5 → (if c > 0 ∧ e > 0 then placeS met (x, y) else -1) = z → ∀ t, H5 t = none → Q (.ref t) (upd H5 t (.tup [V.str "row", .int e, .int z])) := fun H5 z s5 hz t htn => by
        have j1 := same_upd (o := .tup [V.str "row", .int e, .int z]) htn
        refine q _ _ (jt2.trans (s5.trans j1)) ?_
        show Td K _ (.ref t) (.tuple [.str "row", .int e, .int (if c > 0 ∧ e > 0 then placeS met (x, y) else -1)])
        rw [hz]
        exact .tup (SqT.of upd_same) (.cons (.str _) (.cons (.int _) (.cons (.int _) .nil)))
      refine ⟨_, rfl, rfl, _, rfl, iteY rfl ?_⟩
      refine ⟨_, rfl, pn, _, 1, _, rfl, rfl, hpn, at1, _, rfl, po, _, 1, _, rfl, rfl, hpo, at1, c, 0, rfl, rfl, _, rfl, ?_⟩
      by_cases hce : c > 0 ∧ e > 0
      · refine iteY hce.1 ⟨_, rfl, pn, _, 1, _, rfl, rfl, hpn, at1, e, 0, rfl, rfl, _, rfl, iteY hce.2 ?_⟩
        refine ⟨_, rfl, _, rfl, .ref p0, _, _, rfl, ht, hW _ hWd (.inl rfl), fun H6 t2 s6 h6 => ?_⟩
        obtain ⟨xs, k, v, d1, d2, d3, rfl⟩ := place_at (hp2.same s6) (hin (x, y) (by
          show (x, y) ∈ (intoS _ _ (.row c x) (.row e y)).map (·.2)
          rw [show intoS (scmT tk1 tc1 o1) (scmT tk2 tc2 o2) (.row c x) (.row e y) = [(.tuple [.int 0], x, y)] from if_pos hce]
          exact List.mem_cons_self)) h6
        exact ⟨d, t2, xs, k, _, rfl, rfl, d1, d2, d3, by show 3 ≤ sizeLine; decide, fun t htn => fin H6 _ s6 (if_pos hce) t htn⟩
      · have last : ∀ t, H2 t = none → Q (.ref t) (upd H2 t (.tup [V.str "row", .int e, .int (-1)])) := fun t htn => fin H2 _ (Same.refl _) (if_neg hce) t htn
        by_cases hc : c > 0
        · exact iteY hc ⟨_, rfl, pn, _, 1, _, rfl, rfl, hpn, at1, e, 0, rfl, rfl, _, rfl, iteN (fun he => hce ⟨hc, he⟩) ⟨1, rfl, by show 3 ≤ sizeLine; decide, last⟩⟩
        · exact iteN hc ⟨1, rfl, by show 3 ≤ sizeLine; decide, last⟩
    | may a b =>
      refine ⟨_, rfl, by show 2 ≤ sizeLine; decide, fun tt2 htt => ⟨tt2, _, rfl, .inr (SqT.of upd_same), rfl, rfl, _, rfl, ?_⟩⟩
      rw [show inV (V.str ("maybe" : Str)) [V.str ("number" : Str), V.str ("text" : Str)] = false from (by decide +kernel)]
      have jt2 := same_upd (o := .tup [V.str ("number" : Str), V.str ("text" : Str)]) htt
      refine iteF ?_
      refine ⟨_, rfl, rfl, _, rfl, iteN (sne (by decide +kernel)) ?_⟩
      refine ⟨_, rfl, by show 3 ≤ sizeLine; decide, fun tt3 htt => ⟨tt3, _, rfl, .inr (SqT.of upd_same), rfl, rfl, _, rfl, ?_⟩⟩
      rw [show inV (V.str ("maybe" : Str)) [V.str ("maybe" : Str), V.str ("force" : Str), V.str ("wrap" : Str)] = true from (by decide +kernel)]
      have jt3 := same_upd (o := .tup [V.str ("maybe" : Str), V.str ("force" : Str), V.str ("wrap" : Str)]) htt
      refine iteT ⟨_, rfl, _, rfl, _, rfl, .ref p0, _, _, rfl, ht.keep (KeepT.same (jt2.trans jt3)), hW _ hWd (.inr (.inl rfl)), fun H6 t2 s6 h6 => ?_⟩
      obtain ⟨xs, k, v, d1, d2, d3, rfl⟩ := place_at ((hp.same (jt2.trans jt3)).same s6) (hin _ List.mem_cons_self) h6
      refine ⟨d, t2, xs, k, _, rfl, rfl, d1, d2, d3, by show 2 ≤ sizeLine; decide, fun t htn => q _ _ (((jt2.trans jt3).trans s6).trans (same_upd htn)) ?_⟩
      rw [show stepD (scmT tk1 tc1 o1) (scmT tk2 tc2 o2) met (.may a) (.may b) = .tuple [.str "maybe", .int (placeS met (inO (.may a) (.may b), inN (.may a) (.may b)))] from rfl]
      exact .tup (SqT.of upd_same) (.cons (.str _) (.cons (.int _) .nil))
    | force a n hn =>
      refine ⟨_, rfl, by show 2 ≤ sizeLine; decide, fun tt2 htt => ⟨tt2, _, rfl, .inr (SqT.of upd_same), rfl, rfl, _, rfl, ?_⟩⟩
      rw [show inV (V.str ("force" : Str)) [V.str ("number" : Str), V.str ("text" : Str)] = false from (by decide +kernel)]
      have jt2 := same_upd (o := .tup [V.str ("number" : Str), V.str ("text" : Str)]) htt
      refine iteF ?_
      refine ⟨_, rfl, rfl, _, rfl, iteN (sne (by decide +kernel)) ?_⟩
      refine ⟨_, rfl, by show 3 ≤ sizeLine; decide, fun tt3 htt => ⟨tt3, _, rfl, .inr (SqT.of upd_same), rfl, rfl, _, rfl, ?_⟩⟩
      rw [show inV (V.str ("force" : Str)) [V.str ("maybe" : Str), V.str ("force" : Str), V.str ("wrap" : Str)] = true from (by decide +kernel)]
      have jt3 := same_upd (o := .tup [V.str ("maybe" : Str), V.str ("force" : Str), V.str ("wrap" : Str)]) htt
      refine iteT ⟨_, rfl, _, rfl, _, rfl, .ref p0, _, _, rfl, ht.keep (KeepT.same (jt2.trans jt3)), hW _ hWd (.inr (.inr (.inl rfl))), fun H6 t2 s6 h6 => ?_⟩
      obtain ⟨xs, k, v, d1, d2, d3, rfl⟩ := place_at ((hp.same (jt2.trans jt3)).same s6) (hin _ (by cases n <;> first | exact List.mem_cons_self | exact absurd hn (show ¬ (true = false) by decide))) h6
      refine ⟨d, t2, xs, k, _, rfl, rfl, d1, d2, d3, by show 2 ≤ sizeLine; decide, fun t htn => q _ _ (((jt2.trans jt3).trans s6).trans (same_upd htn)) ?_⟩
      rw [show stepD (scmT tk1 tc1 o1) (scmT tk2 tc2 o2) met (.may a) n = .tuple [.str "force", .int (placeS met (inO (.may a) n, inN (.may a) n))] from by cases n <;> first | rfl | exact absurd hn (show ¬ (true = false) by decide)]
      exact .tup (SqT.of upd_same) (.cons (.str _) (.cons (.int _) .nil))
    | wrap o b ho =>
      refine ⟨_, rfl, by show 2 ≤ sizeLine; decide, fun tt2 htt => ⟨tt2, _, rfl, .inr (SqT.of upd_same), rfl, rfl, _, rfl, ?_⟩⟩
      rw [show inV (V.str ("wrap" : Str)) [V.str ("number" : Str), V.str ("text" : Str)] = false from (by decide +kernel)]
      have jt2 := same_upd (o := .tup [V.str ("number" : Str), V.str ("text" : Str)]) htt
      refine iteF ?_
      refine ⟨_, rfl, rfl, _, rfl, iteN (sne (by decide +kernel)) ?_⟩
      refine ⟨_, rfl, by show 3 ≤ sizeLine; decide, fun tt3 htt => ⟨tt3, _, rfl, .inr (SqT.of upd_same), rfl, rfl, _, rfl, ?_⟩⟩
      rw [show inV (V.str ("wrap" : Str)) [V.str ("maybe" : Str), V.str ("force" : Str), V.str ("wrap" : Str)] = true from (by decide +kernel)]
      have jt3 := same_upd (o := .tup [V.str ("maybe" : Str), V.str ("force" : Str), V.str ("wrap" : Str)]) htt
      refine iteT ⟨_, rfl, _, rfl, _, rfl, .ref p0, _, _, rfl, ht.keep (KeepT.same (jt2.trans jt3)), hW _ hWd (.inr (.inr (.inr rfl))), fun H6 t2 s6 h6 => ?_⟩
      obtain ⟨xs, k, v, d1, d2, d3, rfl⟩ := place_at ((hp.same (jt2.trans jt3)).same s6) (hin _ (by cases o <;> first | exact List.mem_cons_self | exact absurd ho (show ¬ (true = false) by decide))) h6
      refine ⟨d, t2, xs, k, _, rfl, rfl, d1, d2, d3, by show 2 ≤ sizeLine; decide, fun t htn => q _ _ (((jt2.trans jt3).trans s6).trans (same_upd htn)) ?_⟩
      rw [show stepD (scmT tk1 tc1 o1) (scmT tk2 tc2 o2) met o (.may b) = .tuple [.str "wrap", .int (placeS met (inO o (.may b), inN o (.may b)))] from by cases o <;> first | rfl | exact absurd ho (show ¬ (true = false) by decide)]
      exact .tup (SqT.of upd_same) (.cons (.str _) (.cons (.int _) .nil))
    | cho k l =>
      refine ⟨_, rfl, by show 2 ≤ sizeLine; decide, fun tt2 htt => ⟨tt2, _, rfl, .inr (SqT.of upd_same), rfl, rfl, _, rfl, ?_⟩⟩
      rw [show inV (V.str ("choice" : Str)) [V.str ("number" : Str), V.str ("text" : Str)] = false from (by decide +kernel)]
      have jt2 := same_upd (o := .tup [V.str ("number" : Str), V.str ("text" : Str)]) htt
      refine iteF ?_
      refine ⟨_, rfl, rfl, _, rfl, iteN (sne (by decide +kernel)) ?_⟩
      refine ⟨_, rfl, by show 3 ≤ sizeLine; decide, fun tt3 htt => ⟨tt3, _, rfl, .inr (SqT.of upd_same), rfl, rfl, _, rfl, ?_⟩⟩
      rw [show inV (V.str ("choice" : Str)) [V.str ("maybe" : Str), V.str ("force" : Str), V.str ("wrap" : Str)] = false from (by decide +kernel)]
      have jt3 := same_upd (o := .tup [V.str ("maybe" : Str), V.str ("force" : Str), V.str ("wrap" : Str)]) htt
      refine iteF ?_
      have jt := jt2.trans jt3
      obtain ⟨z1, rfl, e1⟩ := hzo.c1
      obtain rfl := e1.toStr
      obtain ⟨z2, rfl, e2⟩ := hzn.c1
      obtain rfl := e2.toStr
      obtain ⟨pa, xs, r1, hr1, er1, hv1, hq1, hx1⟩ := row_get a5 okA.nc g1.2
      obtain ⟨pb, ys, r2, hr2, er2, hv2, hq2, hx2⟩ := row_get b5 okB.nc g2.2
      have kj := KeepT.same (K := K) jt
      refine ⟨_, rfl, rfl, _, rfl, iteY rfl ?_⟩
      refine ⟨_, rfl, a, CS, dx1, _, _, rfl, jt _ _ a1, cs.cl, cs.nC, fs_choices, _, rfl, po, _, 1, _, rfl, rfl, kj _ _ hpo, at1, c1, _, rfl, .inl ⟨kw1, .inr k, .inl (jt _ _ a4), rfl, hv1.symm⟩, _, rfl, b, CS, dx2, _, _, rfl, jt _ _ b1, cs.cl, cs.nC, fs_choices, _, rfl, pn, _, 1, _, rfl, rfl, kj _ _ hpn, at1, c2, _, rfl, .inl ⟨kw2, .inr l, .inl (jt _ _ b4), rfl, hv2.symm⟩, _, rfl, pa, pb, d, xs, ys, _, _, met, rfl, kj _ _ hq1, kj _ _ hq2, hx1.keep kj, hx2.keep kj, ?_, ?_, hp.same jt, ?_, fun H6 u s6 hu6 => q _ _ (jt.trans s6) hu6⟩
      · rw [er1, sortEn_len]
        exact (okA.c r1 hr1).2.2.1
      · intro e he
        rw [er1] at he
        obtain ⟨l0, ok0⟩ := (okA.c r1 hr1).2.1.at_ ((mem_sortEn e).mp he)
        cases ho : e.of with
        | none => exact (ok0.none ho).2
        | some s0 =>
          cases hl : e.left with
          | none => rfl
          | some dd => exact nomatch ((ok0.some s0 ho).2.2 dd hl).1
      · intro e he f hf x y hx hy
        exact hin (x, y) (into_mem (g := caseS) he hf hx hy)
    | nod k l =>
      refine ⟨_, rfl, by show 2 ≤ sizeLine; decide, fun tt2 htt => ⟨tt2, _, rfl, .inr (SqT.of upd_same), rfl, rfl, _, rfl, ?_⟩⟩
      rw [show inV (V.str ("node" : Str)) [V.str ("number" : Str), V.str ("text" : Str)] = false from (by decide +kernel)]
      have jt2 := same_upd (o := .tup [V.str ("number" : Str), V.str ("text" : Str)]) htt
      refine iteF ?_
      refine ⟨_, rfl, rfl, _, rfl, iteN (sne (by decide +kernel)) ?_⟩
      refine ⟨_, rfl, by show 3 ≤ sizeLine; decide, fun tt3 htt => ⟨tt3, _, rfl, .inr (SqT.of upd_same), rfl, rfl, _, rfl, ?_⟩⟩
      rw [show inV (V.str ("node" : Str)) [V.str ("maybe" : Str), V.str ("force" : Str), V.str ("wrap" : Str)] = false from (by decide +kernel)]
      have jt3 := same_upd (o := .tup [V.str ("maybe" : Str), V.str ("force" : Str), V.str ("wrap" : Str)]) htt
      refine iteF ?_
      have jt := jt2.trans jt3
      obtain ⟨z1, rfl, e1⟩ := hzo.c1
      obtain rfl := e1.toStr
      obtain ⟨z2, rfl, e2⟩ := hzn.c1
      obtain rfl := e2.toStr
      obtain ⟨pa, xs, r1, hr1, er1, hv1, hq1, hx1⟩ := row_get a3 okA.nk g1.2
      obtain ⟨pb, ys, r2, hr2, er2, hv2, hq2, hx2⟩ := row_get b3 okB.nk g2.2
      have kj := KeepT.same (K := K) jt
      refine ⟨_, rfl, rfl, _, rfl, iteN (sne (by decide +kernel)) ⟨_, rfl, rfl, _, rfl, iteY rfl ?_⟩⟩
      refine ⟨_, rfl, a, CS, dx1, _, _, rfl, jt _ _ a1, cs.cl, cs.nK, fs_kinds, _, rfl, po, _, 1, _, rfl, rfl, kj _ _ hpo, at1, k1, _, rfl, .inl ⟨kv1, .inr k, .inl (jt _ _ a2), rfl, hv1.symm⟩, _, rfl, b, CS, dx2, _, _, rfl, jt _ _ b1, cs.cl, cs.nK, fs_kinds, _, rfl, pn, _, 1, _, rfl, rfl, kj _ _ hpn, at1, k2, _, rfl, .inl ⟨kv2, .inr l, .inl (jt _ _ b2), rfl, hv2.symm⟩, _, rfl, pn, _, 1, _, rfl, rfl, kj _ _ hpn, at1, _, rfl, pa, pb, d, xs, ys, _, _, l, met, rfl, kj _ _ hq1, kj _ _ hq2, hx1.keep kj, hx2.keep kj, ?_, ?_, ?_, hp.same jt, ?_, fun H6 u s6 hu6 => q _ _ (jt.trans s6) hu6⟩
      · rw [er2, sortEn_len]
        exact (okB.k r2 hr2).2.2.1
      · intro e he
        exact kind_of okA hr1 (by rw [← er1]; exact he)
      · intro e he
        exact kind_of okB hr2 (by rw [← er2]; exact he)
      · intro f hf e he x y hx hy
        have hen := (enNum_mem he)
        refine hin (x, y) (into_mem (g := PyData.str) hen.1 ?_ hx hy)
        rw [hen.2]
        show enNum (chT (sortT tk2) l) f.num = some f
        rw [er2]
        rw [er2] at hf
        exact num_self (okB.k r2 hr2).2.1 hf
    | tru =>
      refine ⟨_, rfl, by show 2 ≤ sizeLine; decide, fun tt2 htt => ⟨tt2, _, rfl, .inr (SqT.of upd_same), rfl, rfl, _, rfl, ?_⟩⟩
      rw [show inV (V.str ("truth" : Str)) [V.str ("number" : Str), V.str ("text" : Str)] = false from (by decide +kernel)]
      have jt2 := same_upd (o := .tup [V.str ("number" : Str), V.str ("text" : Str)]) htt
      refine iteF ?_
      refine ⟨_, rfl, rfl, _, rfl, iteN (sne (by decide +kernel)) ?_⟩
      refine ⟨_, rfl, by show 3 ≤ sizeLine; decide, fun tt3 htt => ⟨tt3, _, rfl, .inr (SqT.of upd_same), rfl, rfl, _, rfl, ?_⟩⟩
      rw [show inV (V.str ("truth" : Str)) [V.str ("maybe" : Str), V.str ("force" : Str), V.str ("wrap" : Str)] = false from (by decide +kernel)]
      have jt3 := same_upd (o := .tup [V.str ("maybe" : Str), V.str ("force" : Str), V.str ("wrap" : Str)]) htt
      refine iteF ?_
      have jt := jt2.trans jt3
      refine ⟨_, rfl, rfl, _, rfl, iteN (sne (by decide +kernel)) ⟨_, rfl, rfl, _, rfl, iteN (sne (by decide +kernel)) ?_⟩⟩
      refine ⟨_, rfl, by show 1 ≤ sizeLine; decide, fun t htn => ?_⟩
      have j1 := same_upd (o := .tup [V.str "truth"]) htn
      refine q _ _ (jt.trans j1) ?_
      rw [show stepD (scmT tk1 tc1 o1) (scmT tk2 tc2 o2) met .tru .tru = .tuple [.str "truth"] from rfl]
      exact .tup (SqT.of upd_same) (.cons (.str _) .nil)
    | bad o n h1 h2 h3 =>
      refine ⟨_, rfl, by show 2 ≤ sizeLine; decide, fun tt2 htt => ⟨tt2, _, rfl, .inr (SqT.of upd_same), rfl, rfl, _, rfl, ?_⟩⟩
      rw [show inV (V.str ("bad" : Str)) [V.str ("number" : Str), V.str ("text" : Str)] = false from (by decide +kernel)]
      have jt2 := same_upd (o := .tup [V.str ("number" : Str), V.str ("text" : Str)]) htt
      refine iteF ?_
      refine ⟨_, rfl, rfl, _, rfl, iteN (sne (by decide +kernel)) ?_⟩
      refine ⟨_, rfl, by show 3 ≤ sizeLine; decide, fun tt3 htt => ⟨tt3, _, rfl, .inr (SqT.of upd_same), rfl, rfl, _, rfl, ?_⟩⟩
      rw [show inV (V.str ("bad" : Str)) [V.str ("maybe" : Str), V.str ("force" : Str), V.str ("wrap" : Str)] = false from (by decide +kernel)]
      have jt3 := same_upd (o := .tup [V.str ("maybe" : Str), V.str ("force" : Str), V.str ("wrap" : Str)]) htt
      refine iteF ?_
      have jt := jt2.trans jt3
      refine ⟨_, rfl, rfl, _, rfl, iteN (sne (by decide +kernel)) ⟨_, rfl, rfl, _, rfl, iteN (sne (by decide +kernel)) ?_⟩⟩
      refine ⟨_, rfl, by show 1 ≤ sizeLine; decide, fun t htn => ?_⟩
      have j1 := same_upd (o := .tup [V.str "bad"]) htn
      refine q _ _ (jt.trans j1) ?_
      rw [step_bad h1 h2 h3]
      exact .tup (SqT.of upd_same) (.cons (.str _) .nil)
end
end K34
set_option maxHeartbeats 2000000
namespace K34
open PySem PySem.Spec PyProof.Rows L2 Tw Sb LamX
def spMade (K : PySem.W.Frag) (CS : Addr) : Sp := fun vs H Q _ => ∃ (a b : Addr) (tk1 tc1 tk2 tc2 : List TRow) (o1 o2 : So) (n : Nat) (r : List Pr), vs = [.ref a, .ref b] ∧ ScK K CS H a tk1 tc1 o1 ∧ ScK K CS H b tk2 tc2 o2 ∧ SkOk tk1 tc1 o1 ∧ SkOk tk2 tc2 o2 ∧ MetN (scmT tk1 tc1 o1) (scmT tk2 tc2 o2) (Gp tk1 tc1 tk2 tc2) n [(o1, o2)] [] r ∧ n ≤ 1000000 ∧
  ∀ (H' : Hp) (u : V), Same H H' → Td K H' u (.tuple (madeD (scmT tk1 tc1 o1) (scmT tk2 tc2 o2) r)) → Q u H'
theorem pa_at {α β : Type} {R : α → β → Prop} : ∀ {xs : List α} {us : List β} {i : Nat} {x : α}, Paired R xs us → xs[i]? = some x → ∃ u, us[i]? = some u ∧ R x u
  | _, _, 0, _, .cons h _, e => ⟨_, rfl, by cases e; exact h⟩
  | _, _, i + 1, _, .cons _ r, e => pa_at (i := i) r e
theorem take_nodup {α : Type} {l : List α} {i : Nat} {x : α} (n : l.Nodup) (h : l[i]? = some x) : x ∉ l.take i := fun hm => by
  obtain ⟨j, hj⟩ := List.getElem?_of_mem hm
  have hlt : j < i := by
    have := (List.getElem?_eq_some_iff.mp hj).1
    rw [List.length_take] at this
    omega
  rw [List.getElem?_take_of_lt hlt] at hj
  have := (List.getElem?_inj (List.getElem?_eq_some_iff.mp hj).1 n).mp (hj.trans h.symm)
  omega
theorem met_inP {A B : Scm} {tk1 tc1 tk2 tc2 : List TRow} {n : Nat} {st : List Pr} {r : List Pr} (h : MetN A B (Gp tk1 tc1 tk2 tc2) n st [] r) {p : Pr} (hp : p ∈ r) : ∀ q ∈ into A B p, InP r q := fun q hq => by
  have hm := h.closed (fun p hp => nomatch hp) p hp q hq
  obtain ⟨x, hx, e⟩ := List.mem_map.mp hm
  exact ⟨hm, by rw [← e]; exact (h.good (fun p hp => nomatch hp) x hx).2.2⟩
section
variable {P : Program} {w : World} {K : PySem.W.Frag} {mg : Str → Option Value} {base : Heap}
theorem ok_made {CS f : Addr} {fd : FuncData} (F : Fun K "made" "made" s_made f fd) (T : Bu mg) (c_pairs_met : Cal P w K mg base 4 "pairs_met" ["old", "new"] (spMet P w K CS)) (c__step : Cal P w K mg base 3 "_step" ["old", "new", "pair", "places"] (spStep P w K CS)) : FnOk P w K mg base CX0 5 f fd ["old", "new"] (spMade K CS) := by
  refine F.ok sc_made (fun vs H Q E h => ?_) (fun cdv A outer s H vs Q E hr h => ?_)
  · obtain ⟨a, b, tk1, tc1, tk2, tc2, o1, o2, n, r, rfl, _⟩ := h
    rfl
  · obtain ⟨a, b, tk1, tc1, tk2, tc2, o1, o2, n, r, rfl, hA, hB, okA, okB, hM, hn, q⟩ := h
    have hu := hu_of hr
    refine ⟨_, (pss_cons (ps_set (i := 2) sc_made.nd rfl (.inl rfl) (pe_callTy (T := "list") (r := rListN P w K) (call_listN rfl) (by rfl) T.n_list (by decide +kernel) (pa_cons (pe_cal c_pairs_met hr (by decide) (by rfl) (pa_cons (pv 0) (pa_cons (pv 1) pa_nil))) pa_nil)))
      (pss_cons (ps_set (i := 3) sc_made.nd rfl (.inr rfl) (show PE _ _ (tDcN P w K _ _ _ _ _ _) from pe_dcN (own := [("at", 4), ("pair", 5)]) (g := gTup K 2 (gCons (gName 4) (gCons (gName 5) gNil))) hr.units rfl sc_made.nd (pi_en rfl T.n_enumerate (pa_cons (pv 2) pa_nil)) (blkOk_by (N := N_made) (sc := defScope s_made) (by decide +kernel)) (fun _ _ _ _ _ => (pg_tup rfl (pgs_cons (pg_name (i := 4) sc_made.nd rfl (.inl rfl)) (pgs_cons (pg_name (i := 5) sc_made.nd rfl (.inl rfl)) pgs_nil)))) (fun _ _ _ _ _ => pts_nil) (fun _ _ _ _ _ => (pv 5)) (fun _ _ _ _ _ => (pv 4))))
      (pss_one (ps_ret (pe_callTy (T := "tuple") (r := rTupOf K) cr_tupK (by rfl) T.n_tuple (by decide +kernel) (pa_cons (pe_lc (own := [("pair", 5)]) rfl sc_made.nd (pi_list (pv 2)) (blkOk_by (N := N_made) (sc := defScope s_made) (by decide +kernel)) (fun _ _ _ _ _ => (pg_name (i := 5) sc_made.nd rfl (.inl rfl))) (fun _ _ _ _ _ => pts_nil) (fun _ _ _ _ _ => (pe_cal c__step hr (by decide) (by rfl) (pa_cons (pv 0) (pa_cons (pv 1) (pa_cons (pv 5) (pa_cons (pv 3) pa_nil))))))) pa_nil)))))), ?_⟩
    refine ⟨_, rfl, _, rfl, a, b, tk1, tc1, tk2, tc2, o1, o2, n, r, rfl, hA, hB, okA, okB, hM, hn, fun H2 d xs s2 hnd hmt => ⟨d, xs, rfl, hnd, fun L hL => ?_⟩⟩
    have sL := same_upd (o := .lst (xs.map fun x => V.ref x.2.1)) hL
    have s3 := s2.trans sL
    have hLv : (upd H2 L (.lst (xs.map fun x => V.ref x.2.1))) L = some (.lst (xs.map fun x => V.ref x.2.1)) := upd_same
    have hmt3 := pd_mono (fun _ _ g => MetAt.keep g (KeepT.same sL)) hmt
    generalize upd H2 L (.lst (xs.map fun x => V.ref x.2.1)) = H3 at s3 hLv hmt3 ⊢
    have hrd := hM.nodup .nil
    have hxr : xs.length = r.length := by
      have := congrArg List.length (met_keys hmt)
      rw [List.length_map, List.length_map] at this
      exact this
    have hrl : r.length ≤ 1000000 := by
      have := hM.lenM.2
      simp at this
      omega
    refine ⟨_, rfl, L, _, rfl, .inl (SqL.of hLv), fun bt g1 g0 => fun D hD => ?_⟩
    refine dcN_it (walk_enC (K := K) (a := L) (xs := xs.map fun x => V.ref x.2.1) (c := 0) (b := bt)) (fun i H' => Same H3 H' ∧ ∃ ys, ND P w K H' D ys ∧ ys.map (·.1) = (r.take i).map pk ∧ ∀ (j : Nat) (x : NE), ys[j]? = some x → x.2.2 = .int (j : Nat)) ⟨same_upd hD, [], ⟨upd_same, fun x hx => nomatch hx⟩, rfl, fun j x hx => by simp at hx⟩ (fun i H' _ h => ?_) ?_ ?_
    · cases bt with
      | true =>
        rcases g1 rfl with (h | ⟨o, h⟩) | h
        · rw [hLv] at h
          cases h
        · rw [hLv] at h
          cases h
        · exact .inr h
      | false => exact SqL.of (h.1 _ _ hLv)
    · rintro i x H4 H5 hi ⟨s4, ys, hy, hk, hv⟩ ⟨T1, x1, z1, rfl, hT, rfl, e1, e2⟩
      cases e1
      have e2 : (xs.map fun x => V.ref x.2.1)[i]? = some z1 := e2
      rw [List.getElem?_map] at e2
      obtain ⟨x0, hx0, rfl⟩ := Option.map_eq_some_iff.mp e2
      obtain ⟨p, hp, hpk, hpt⟩ := pa_at hmt3 hx0
      have sT := same_upd (o := .tup [.int (0 + (i : Nat)), V.ref x0.2.1]) hT
      refine ⟨T1, _, rfl, SqT.of upd_same, rfl, _, _, rfl, _, _, rfl, rfl, ?_⟩
      have hyl : ys.length = i := by
        have := congrArg List.length hk
        rw [List.length_map, List.length_map, List.length_take] at this
        have hi2 : i < r.length := (List.getElem?_eq_some_iff.mp hp).1
        omega
      have hpi : (r.map pk)[i]? = some (pk p) := by rw [List.getElem?_map, hp]; rfl
      refine ⟨rfl, _, rfl, _, rfl, ys, pk p, x0.2.1, rfl, hy.same sT, ⟨_, (hpt.keep (KeepT.same (s4.trans sT))), rfl, ?_⟩, getN_none ?_, by rw [hyl, sizeLine_eq]; have : i < r.length := (List.getElem?_eq_some_iff.mp hp).1; omega, ?_, ys ++ [(pk p, x0.2.1, .int (0 + (i : Nat)))], ⟨upd_same, fun y hy2 => ?_⟩, ?_, fun j y hj => ?_⟩
      · exact (hM.good (fun p hp => nomatch hp) p (List.mem_of_getElem? hp)).2.2
      · rw [hk, List.map_take]
        exact take_nodup hrd hpi
      · exact same_new (s4.trans sT) hD
      · have kN := keepT_nd (K := K) (ys := ys ++ [(pk p, x0.2.1, .int (0 + (i : Nat)))]) (hy.same sT).1
        rcases List.mem_append.mp hy2 with hy2 | hy2
        · exact ((hy.same sT).2 y hy2).keep kN
        · rw [List.mem_singleton.mp hy2]
          exact ⟨_, (hpt.keep (KeepT.same (s4.trans sT))).keep kN, rfl, (hM.good (fun p hp => nomatch hp) p (List.mem_of_getElem? hp)).2.2⟩
      · rw [List.map_append, hk, List.take_add_one, hp, List.map_append]
        rfl
      · rcases Nat.lt_trichotomy j ys.length with hj2 | hj2 | hj2
        · rw [List.getElem?_append_left hj2] at hj
          exact hv j y hj
        · subst hj2
          rw [List.getElem?_concat_length] at hj
          cases hj
          show V.int (0 + (i : Nat)) = .int (ys.length : Nat)
          rw [hyl, show (0 : Int) + (i : Nat) = (i : Int) by omega]
        · rw [List.getElem?_eq_none (by rw [List.length_append, List.length_singleton]; omega)] at hj
          cases hj
    · rintro H4 ⟨s4, ys, hy, hk, hv⟩
      rw [List.length_map, hxr, List.take_length] at hk
      have hpl : Places P w K H4 D r := ⟨ys, hy, hk, hv⟩
      have s34 := s3.trans s4
      have hL4 := s4 _ _ hLv
      refine ⟨_, rfl, L, rfl, ⟨_, SqL.of hL4⟩, fun M hM0 => ?_⟩
      refine lc_it (walk_list (K := K) (a := L) (xs := xs.map fun x => V.ref x.2.1)) (fun i H' => Same H4 H' ∧ ∃ acc, H' M = some (.lst acc) ∧ acc.length = i ∧ Tds K H' acc ((r.take i).map fun p => stepD (scmT tk1 tc1 o1) (scmT tk2 tc2 o2) r p.1 p.2)) ⟨same_upd hM0, [], upd_same, rfl, .nil⟩ (fun i H' _ h => SqL.of (h.1 _ _ hL4)) ?_ ?_
      · rintro i x H5 H6 hi ⟨s5, acc, hM5, hal, hacc⟩ ⟨rfl, hx⟩
        rw [List.getElem?_map] at hx
        obtain ⟨x0, hx0, rfl⟩ := Option.map_eq_some_iff.mp hx
        obtain ⟨p, hp, hpk, hpt⟩ := pa_at hmt3 hx0
        have hpm := List.mem_of_getElem? hp
        have hir : i < r.length := (List.getElem?_eq_some_iff.mp hp).1
        have s45 := s4.trans s5
        refine ⟨rfl, _, rfl, _, rfl, _, rfl, _, rfl, a, b, D, .ref x0.2.1, tk1, tc1, tk2, tc2, o1, o2, p, r, rfl, hA.same (s3.trans s45), hB.same (s3.trans s45), okA, okB, hpt.keep (KeepT.same s45), hM.good (fun p hp => nomatch hp) p hpm, hpl.same s5, met_inP hM hpm, fun H7 u s7 hu7 => ?_⟩
        have hM7 := s7 _ _ hM5
        have kM := keepT_lst (K := K) (ys := acc ++ [u]) hM7
        refine ⟨acc, hM7, by rw [hal, sizeLine_eq]; omega, same_new (s5.trans s7) hM0, _, upd_same, by rw [List.length_append, hal]; rfl, ?_⟩
        rw [List.take_add_one, hp, List.map_append]
        exact Tds.append ((hacc.keep (KeepT.same s7)).keep kM) (.cons (hu7.keep kM) .nil)
      · rintro H5 ⟨s5, acc, hM5, hal, hacc⟩
        rw [List.length_map, hxr, List.take_length] at hacc
        refine ⟨M, acc, rfl, .inl ⟨SqL.of hM5, fun t ht => q _ (.ref t) ((s34.trans s5).trans (same_upd ht)) ?_⟩⟩
        exact .tup (SqT.of upd_same) (hacc.keep (KeepT.same (same_upd ht)))
end
end K34
set_option maxHeartbeats 4000000
/-! TwLst: a list that may be looked at only, and a list, as one. -/
namespace Tw
open PySem PySem.Spec PySem.P PyProof.Rows L2 Sb
theorem join_any (p q : Addr) (us ws : Array Value) (i j : Nat) (o1 o2 : Array (Option Value)) (hz : us.size + ws.size ≤ sizeLine) :
    Meets (Builtin.«list.__add__» ⟨[.ref p, .ref q], []⟩) fun _ R s =>
      s.heap.get? p = some ⟨.type "list", none, .seq us i, o1⟩ ∧ s.heap.get? q = some ⟨.type "list", none, .seq ws j, o2⟩ ∧
        R (.ok (.ret (Value.ref s.heap.objs.size))) { s with heap := s.heap.push { cls := Value.type "list", data := Data.seq (us ++ ws) }, toks := s.toks } :=
  .of_wp fun prog w A R s h => by
    obtain ⟨hp, g, d, tk, os⟩ := s
    obtain ⟨e1, e2, h⟩ := h
    have f2 := sub_list_list
    wp_walk using wpAny_loadPart' e1, wpAny_loadPart' e2
    exact ⟨_, rfl, h⟩
def rCatL (K : PySem.W.Frag) : R2 := fun x y H Q => ∃ l b xs zs, x = .ref l ∧ y = .ref b ∧ SqL K H l xs ∧ H b = some (.lst zs) ∧ xs.length + zs.length ≤ sizeLine ∧ ∀ p, H p = none → Q (.ref p) (upd H p (.lst (xs ++ zs)))
theorem op_catL {X : Cx} : OpR X (binaryOp .Add) (rCatL X.K) := by
  intro pins s σ H x y v u Q I rx ry h
  obtain ⟨l, b, xs, zs, rfl, rfl, hH, hB, hz, q⟩ := h
  cases rx
  cases ry
  obtain ⟨us, r1, p1, _⟩ := I.list hH
  obtain ⟨ws, r2, p2, _⟩ := I.list (SqL.of hB)
  obtain ⟨⟨c1, d1, t1, o1⟩, n1, e1, k1, m1, w1⟩ := p1
  obtain ⟨⟨c2, d2, t2, o2⟩, n2, e2, k2, m2, w2⟩ := p2
  simp only at k1 m1 w1 k2 m2 w2
  subst k1 m1 w1 k2 m2 w2
  refine concat_meets ⟨_, e1, rfl⟩ ⟨_, e2, rfl⟩ noFill_list_add seq_list_add PySem.F.slot_list_add PySem.F.entry_list_add (PySem.F.args_list_add_2 _ _) (join_any l b us.toArray ws.toArray n1 n2 o1 o2 (by rw [List.size_toArray, List.size_toArray, ← r1.length, ← r2.length]; exact hz)) ⟨e1, e2, ?_⟩
  rw [show us.toArray ++ ws.toArray = (us ++ ws).toArray by simp]
  exact ⟨.ref _, _, I.lnew (t' := s.toks) (r1.append r2) (by rw [List.length_append]; omega), rfl, q _ I.fresh⟩
end Tw
set_option maxHeartbeats 2000000
namespace K34
open PySem PySem.Spec PyProof.Rows L2 Tw Sb LamX
/-- the inmost sorts that are drawn, and all sorts that come up -/
inductive Di (ks : List Str) : So → Prop
  | nod {k : Str} : k ∈ ks → Di ks (.nod k)
  | cho : Di ks (.cho "c")
  | num (lo : Int) : -4 ≤ lo → lo ≤ 4 → Di ks (.num (some lo) (some 5))
  | tru : Di ks .tru
  | txt : Di ks (.txt 3)
  | txt1 : Di ks (.txt 1)
  | num0 : Di ks (.num none none)
inductive Ds (ks : List Str) : So → Prop
  | one {s : So} : Di ks s → Ds ks s
  | may {s : So} : Di ks s → Ds ks (.may s)
  | rnod {k : Str} : k ∈ ks → Ds ks (.row 2 (.nod k))
  | rtxt : Ds ks (.row 0 (.txt 1))
/-- what may be left out of it -/
def leftG : So → Option PyData
  | .tru => some (.bool true)
  | .txt _ => some (.str "a")
  | .row _ _ => some (.tuple [])
  | .may _ => some .none
  | .num _ _ => some (.int 5)
  | _ => none
theorem small_abs2 {m : Int} (h0 : 0 ≤ m) (h1 : m ≤ 1000) : m.natAbs < 2 ^ 250 := Nat.lt_of_lt_of_le (show m.natAbs < 1024 by omega) (by decide)
def spSortG (K : PySem.W.Frag) : Sp := fun vs H Q _ => ∃ (a lk : Addr) (ks : List Str), vs = [.ref a, .ref lk] ∧ IsW2 H a ∧ lk ≠ a ∧ SqL K H lk (ks.map V.str) ∧ (∀ H', Fv a H H' → SqL K H' lk (ks.map V.str)) ∧ 0 < ks.length ∧ ks.length ≤ 3 ∧ ∀ (v : V) (s : So) (H' : Hp), Td K H' v s.pd → Ds ks s → Fv a H H' → Q v H'
def spLeftG (K : PySem.W.Frag) : Sp := fun vs H Q _ => ∃ (v : V) (s : So), vs = [v] ∧ Td K H v s.pd ∧ ∀ (H' : Hp) (u : V), Same H H' → Td K H' u (.tuple (leftG s).toList) → Q u H'
section
variable {P : Program} {w : World} {K : PySem.W.Frag} {mg : Str → Option Value} {base : Heap}
theorem ok_draw {f : Addr} {fd : FuncData} (F : Fun K "_law_draw" "_law_draw" s__law_draw f fd) (T : Bu mg) : FnOk P w K mg base CX0 1 f fd ["_law_well", "_law_many"] spDraw2 := by
  refine F.ok sc__law_draw (fun vs H Q E h => ?_) (fun cdv A outer s H vs Q E hr h => ?_)
  · obtain ⟨a, m, rfl, _⟩ := h
    rfl
  · obtain ⟨a, m, rfl, ⟨x, y, hw⟩, m0, mM, q⟩ := h
    refine ⟨_, (pss_cons (ps_if (pt_cmpR op_ge (pe_ix (r := rIxL K) ix_list (pv 0) pe_int (fun _ _ => rfl)) (pe_op op_pow pe_int pe_int) (nomark _))
        (pss_cons (ps_set (i := 2) sc__law_draw.nd rfl (.inl rfl) (pe_op op_mod (pe_ix (r := rIxL K) ix_list (pv 0) pe_int (fun _ _ => rfl)) (pv 1)))
        (pss_cons (ps_asg (pe_op op_fdivW (pe_ix (r := rIxL K) ix_list (pv 0) pe_int (fun _ _ => rfl)) (pv 1)) (pg_sub (pv 0) pe_int set_list))
        (pss_one (ps_ret (pv 2)))))
        pss_nil)
      (pss_cons (ps_asg (pe_op op_add (pe_ix (r := rIxL K) ix_list (pv 0) pe_int (fun _ _ => rfl)) pe_int) (pg_sub (pv 0) pe_int set_list))
      (pss_cons (ps_set (i := 3) sc__law_draw.nd rfl (.inl rfl) (pe_op op_add (pe_op op_mod (pe_ix (r := rIxL K) ix_list (pv 0) pe_int (fun _ _ => rfl)) pe_int) (pe_op op_mul (pe_op op_fdivW (pe_ix (r := rIxL K) ix_list (pv 0) pe_int (fun _ _ => rfl)) pe_int) pe_int)))
      (pss_cons (ps_set (i := 3) sc__law_draw.nd rfl (.inl rfl) (pe_op op_mod (pe_op op_add (pe_op op_add (pv 3) (pe_op op_mul pe_int (pe_ix (r := rIxL K) ix_list (pv 0) pe_int (fun _ _ => rfl)))) pe_int) pe_int))
      (pss_cons (ps_set (i := 3) sc__law_draw.nd rfl (.inl rfl) (pe_op op_mod (pe_op op_pow (pv 3) pe_int) pe_int))
      (pss_cons (ps_set (i := 3) sc__law_draw.nd rfl (.inl rfl) (pe_op op_mod (pe_op op_mul (pv 3) (pe_op op_add (pe_op op_add (pe_op op_fdiv (pv 3) pe_int) pe_int) (pe_ix (r := rIxL K) ix_list (pv 0) pe_int (fun _ _ => rfl)))) pe_int))
      (pss_one (ps_ret (pe_op op_mod (pe_op op_fdiv (pe_op op_mod (pe_op op_mul (pv 3) (pe_op op_add (pe_op op_fdiv (pv 3) pe_int) pe_int)) pe_int) pe_int) (pv 1)))))))))), ?_⟩
    have S0 : ∀ {H' : Hp} {x y : Int}, H' a = some (.lst [.int x, .int y]) → SqL K H' a [.int x, .int y] := fun h => SqL.of h
    have em : ∀ v : Int, 0 ≤ v % m ∧ v % m < m := fun v => ⟨Int.emod_nonneg _ (by omega), Int.emod_lt_of_pos _ m0⟩
    refine ⟨.ref a, rfl, a, _, 0, .int x, rfl, rfl, S0 hw, rfl, 10, 18, rfl, rfl, ⟨by decide, by decide, by decide⟩, x, _, rfl, rfl, _, rfl, ?_⟩
    refine ite2 (fun g => ?_) (fun g => ?_)
    · refine ⟨.ref a, rfl, a, _, 0, .int x, rfl, rfl, S0 hw, rfl, _, rfl, x, m, rfl, rfl, m0, ?_⟩
      refine ⟨.ref a, rfl, a, _, 0, .int x, rfl, rfl, S0 hw, rfl, _, rfl, x, m, rfl, rfl, wide_div (b := 250) m0 mM (by decide) (by decide), ?_⟩
      refine ⟨_, rfl, a, _, 0, 0, rfl, rfl, hw, rfl, _, rfl, ?_⟩
      exact q _ _ (em x).1 (em x).2 ⟨fun b o n e => by rw [upd_ne n]; exact e, _, _, upd_same⟩
    · refine ⟨.ref a, rfl, a, _, 1, .int y, rfl, rfl, S0 hw, rfl, y, 1, rfl, rfl, ?_⟩
      refine ⟨_, rfl, a, _, 1, 1, rfl, rfl, hw, rfl, ?_⟩
      have hw3 : (upd H a (.lst [.int x, .int (y + 1)])) a = some (.lst [.int x, .int (y + 1)]) := upd_same
      have f3 : Fv a H (upd H a (.lst [.int x, .int (y + 1)])) := ⟨fun b o n e => by rw [upd_ne n]; exact e, _, _, upd_same⟩
      refine ⟨.ref a, rfl, a, _, 0, .int x, rfl, rfl, S0 hw3, rfl, _, 2147483647, rfl, rfl, (by show (0 : Int) < 2147483647; decide), .ref a, rfl, a, _, 0, .int x, rfl, rfl, S0 hw3, rfl, _, 2147483647, rfl, rfl, wide_div (b := 70) (by decide) (by decide) (by decide) (by decide), _, 30011, rfl, rfl, .inr ⟨by decide, by decide⟩, _, _, rfl, rfl, ?_⟩
      dsimp only
      generalize ((x % 2147483647 + x / 2147483647 * 30011) : Int) = n0
      refine ⟨_, rfl, .ref a, rfl, a, _, 1, .int (y + 1), rfl, rfl, S0 hw3, rfl, 69997, y + 1, rfl, rfl, .inl ⟨by decide, by decide⟩, n0, _, rfl, rfl, _, 1, rfl, rfl, _, 2147483647, rfl, rfl, (by show (0 : Int) < 2147483647; decide), ?_⟩
      dsimp only
      generalize hn1 : ((n0 + 69997 * (y + 1) + 1) % 2147483647 : Int) = n1
      have b1 : 0 ≤ n1 ∧ n1 < 2147483647 := by
        rw [← hn1]
        exact ⟨Int.emod_nonneg _ (by decide), Int.emod_lt_of_pos _ (by decide)⟩
      refine ⟨_, rfl, n1, 5, rfl, rfl, ⟨by decide, by decide, by omega⟩, _, 2147483647, rfl, rfl, (by show (0 : Int) < 2147483647; decide), ?_⟩
      dsimp only
      generalize hn2 : (n1 ^ (5 : Int).toNat % 2147483647 : Int) = n2
      have b2 : 0 ≤ n2 ∧ n2 < 2147483647 := by
        rw [← hn2]
        exact ⟨Int.emod_nonneg _ (by decide), Int.emod_lt_of_pos _ (by decide)⟩
      refine ⟨_, rfl, _, rfl, n2, 1013, rfl, rfl, ⟨by decide, by decide⟩, _, 70001, rfl, rfl, .ref a, rfl, a, _, 1, .int (y + 1), rfl, rfl, S0 hw3, rfl, _, y + 1, rfl, rfl, n2, _, rfl, rfl, .inl ⟨by omega, by omega⟩, _, 2147483629, rfl, rfl, (by show (0 : Int) < 2147483629; decide), ?_⟩
      dsimp only
      generalize hn3 : (n2 * (n2 / 1013 + 70001 + (y + 1)) % 2147483629 : Int) = n3
      have b3 : 0 ≤ n3 ∧ n3 < 2147483629 := by
        rw [← hn3]
        exact ⟨Int.emod_nonneg _ (by decide), Int.emod_lt_of_pos _ (by decide)⟩
      refine ⟨_, rfl, _, rfl, n3, 2017, rfl, rfl, ⟨by decide, by decide⟩, _, 40009, rfl, rfl, n3, _, rfl, rfl, .inl ⟨by omega, by omega⟩, _, 2147483587, rfl, rfl, (by show (0 : Int) < 2147483587; decide), _, 3, rfl, rfl, ⟨by decide, by decide⟩, _, rfl, _, m, rfl, rfl, m0, ?_⟩
      exact q _ _ (em _).1 (em _).2 f3
theorem ok_sort {f : Addr} {fd : FuncData} (F : Fun K "_law_sort" "_law_sort" s__law_sort f fd) (T : Bu mg) (c__law_draw : Cal P w K mg base 1 "_law_draw" ["_law_well", "_law_many"] spDraw2) : FnOk P w K mg base CX0 2 f fd ["_law_well", "_law_kinds"] (spSortG K) := by
  refine F.ok sc__law_sort (fun vs H Q E h => ?_) (fun cdv A outer s H vs Q E hr h => ?_)
  · obtain ⟨a, lk, ks, rfl, _⟩ := h
    rfl
  · obtain ⟨a, lk, ks, rfl, hw, nk, hk, hkk, k0, k3, q⟩ := h
    refine ⟨_, (pss_cons (ps_set (i := 2) sc__law_sort.nd rfl (.inl rfl) (pe_tup (pa_cons pe_str (pa_cons (pe_ix (r := rIxL K) ix_list (pv 1) (pe_cal c__law_draw hr (by decide) (by rfl) (pa_cons (pv 0) (pa_cons (pe_callB call_len_seq (by rfl) T.n_len (by decide +kernel) (pa_cons (pv 1) pa_nil)) pa_nil))) (fun _ _ => rfl)) pa_nil))))
      (pss_cons (ps_set (i := 3) sc__law_sort.nd rfl (.inl rfl) (pe_op op_sub (pe_cal c__law_draw hr (by decide) (by rfl) (pa_cons (pv 0) (pa_cons pe_int pa_nil))) pe_int))
      (pss_cons (ps_set (i := 4) sc__law_sort.nd rfl (.inl rfl) (pe_lst (pa_cons (pv 2) (pa_cons (pe_tup (pa_cons pe_str (pa_cons (pv 2) pa_nil))) (pa_cons (pe_tup (pa_cons pe_str (pa_cons pe_int (pa_cons (pv 2) pa_nil)))) (pa_cons (pe_tup (pa_cons pe_str (pa_cons pe_str pa_nil))) (pa_cons (pe_tup (pa_cons pe_str (pa_cons (pv 3) (pa_cons pe_int pa_nil)))) (pa_cons (pe_tup (pa_cons pe_str pa_nil)) (pa_cons (pe_tup (pa_cons pe_str (pa_cons pe_int pa_nil))) pa_nil)))))))))
      (pss_one (ps_ret (pe_ix (r := rIxL K) ix_list (pe_op op_catL (pv 4) (pe_lst (pa_cons (pe_tup (pa_cons pe_str (pa_cons pe_int (pa_cons (pe_tup (pa_cons pe_str (pa_cons pe_int pa_nil))) pa_nil)))) (pa_cons (pe_tup (pa_cons pe_str (pa_cons (pe_tup (pa_cons pe_str (pa_cons pe_str pa_nil))) pa_nil))) (pa_cons (pe_tup (pa_cons pe_str (pa_cons pe_non (pa_cons pe_non pa_nil)))) pa_nil))))) (pe_cal c__law_draw hr (by decide) (by rfl) (pa_cons (pv 0) (pa_cons pe_int pa_nil))) (fun _ _ => rfl))))))), ?_⟩
    have hkl : (ks.map V.str).length = ks.length := List.length_map _
    refine ⟨_, rfl, _, rfl, _, rfl, lk, _, rfl, .inl hk, a, _, rfl, hw, by omega, small_abs2 (by omega) (by omega), fun r H1 r0 r1 f1 => ?_⟩
    obtain ⟨i, rfl⟩ := Int.eq_ofNat_of_zero_le r0
    have hi : i < ks.length := by omega
    refine ⟨lk, _, _, .str ks[i], rfl, rfl, hkk H1 f1, atI_nat (by rw [List.getElem?_map, List.getElem?_eq_getElem hi]; rfl), by show 2 ≤ sizeLine; decide, fun t0 h0 => ?_⟩
    have hkm : ks[i] ∈ ks := List.getElem_mem hi
    generalize ks[i] = kd at hkm ⊢
    have j0 := same_upd (o := .tup [V.str "node", .str kd]) h0
    have g0 : Td K (upd H1 t0 (.tup [V.str "node", .str kd])) (.ref t0) (So.nod kd).pd := .tup (SqT.of upd_same) (.cons (.str _) (.cons (.str _) .nil))
    have f2 := f1.same j0
    generalize upd H1 t0 (.tup [V.str "node", .str kd]) = H2 at g0 f2 ⊢
    refine ⟨_, rfl, a, 9, rfl, f2.2, by decide, by decide, fun r2 H3 r20 r21 f3 => ⟨r2, 4, rfl, rfl, ?_⟩⟩
    have g0 := g0.keep (f3.keepT (K := K) f2.2)
    have f4 := f2.trans f3
    refine ⟨_, rfl, _, rfl, by show 2 ≤ sizeLine; decide, fun t1 h1 => ⟨_, rfl, by show 3 ≤ sizeLine; decide, fun t2 h2 => ⟨by show 2 ≤ sizeLine; decide, fun t3 h3 => ⟨_, rfl, by show 3 ≤ sizeLine; decide, fun t4 h4 => ⟨by show 1 ≤ sizeLine; decide, fun t5 h5 => ⟨by show 2 ≤ sizeLine; decide, fun t6 h6 => ⟨by show 7 ≤ sizeLine; decide, fun L hL => ?_⟩⟩⟩⟩⟩⟩⟩
    have j1 := same_upd (o := .tup [V.str "maybe", .ref t0]) h1
    have j2 := same_upd (o := .tup [V.str "row", .int 2, .ref t0]) h2
    have j3 := same_upd (o := .tup [V.str "choice", .str "c"]) h3
    have j4 := same_upd (o := .tup [V.str "number", .int (r2 - 4), .int 5]) h4
    have j5 := same_upd (o := .tup [V.str "truth"]) h5
    have j6 := same_upd (o := .tup [V.str "text", .int 3]) h6
    have jL := same_upd (o := .lst [V.ref t0, .ref t1, .ref t2, .ref t3, .ref t4, .ref t5, .ref t6]) hL
    have d1 : Td K _ (.ref t1) (So.may (.nod kd)).pd := .tup (SqT.of (jL _ _ (j6 _ _ (j5 _ _ (j4 _ _ (j3 _ _ (j2 _ _ upd_same))))))) (.cons (.str _) (.cons (g0.keep (KeepT.same ((((((j1.trans j2).trans j3).trans j4).trans j5).trans j6).trans jL))) .nil))
    have d2 : Td K _ (.ref t2) (So.row 2 (.nod kd)).pd := .tup (SqT.of (jL _ _ (j6 _ _ (j5 _ _ (j4 _ _ (j3 _ _ upd_same)))))) (.cons (.str _) (.cons (.int _) (.cons (g0.keep (KeepT.same ((((((j1.trans j2).trans j3).trans j4).trans j5).trans j6).trans jL))) .nil)))
    have d3 : Td K _ (.ref t3) (So.cho "c").pd := .tup (SqT.of (jL _ _ (j6 _ _ (j5 _ _ (j4 _ _ upd_same))))) (.cons (.str _) (.cons (.str _) .nil))
    have d4 : Td K _ (.ref t4) (So.num (some (r2 - 4)) (some 5)).pd := .tup (SqT.of (jL _ _ (j6 _ _ (j5 _ _ upd_same)))) (.cons (.str _) (.cons (.int _) (.cons (.int _) .nil)))
    have d5 : Td K _ (.ref t5) (So.tru).pd := .tup (SqT.of (jL _ _ (j6 _ _ upd_same))) (.cons (.str _) .nil)
    have d6 : Td K _ (.ref t6) (So.txt 3).pd := .tup (SqT.of (jL _ _ upd_same)) (.cons (.str _) (.cons (.int _) .nil))
    have jj := (((((j1.trans j2).trans j3).trans j4).trans j5).trans j6).trans jL
    have g1 := g0.keep (KeepT.same jj)
    have f5 := f4.same jj
    have hLv : (upd (upd (upd (upd (upd (upd (upd H3 t1 (.tup [V.str "maybe", .ref t0])) t2 (.tup [V.str "row", .int 2, .ref t0])) t3 (.tup [V.str "choice", .str "c"])) t4 (.tup [V.str "number", .int (r2 - 4), .int 5])) t5 (.tup [V.str "truth"])) t6 (.tup [V.str "text", .int 3])) L (.lst [V.ref t0, .ref t1, .ref t2, .ref t3, .ref t4, .ref t5, .ref t6])) L = some (.lst [V.ref t0, .ref t1, .ref t2, .ref t3, .ref t4, .ref t5, .ref t6]) := upd_same
    generalize upd (upd (upd (upd (upd (upd (upd H3 t1 (.tup [V.str "maybe", .ref t0])) t2 (.tup [V.str "row", .int 2, .ref t0])) t3 (.tup [V.str "choice", .str "c"])) t4 (.tup [V.str "number", .int (r2 - 4), .int 5])) t5 (.tup [V.str "truth"])) t6 (.tup [V.str "text", .int 3])) L (.lst [V.ref t0, .ref t1, .ref t2, .ref t3, .ref t4, .ref t5, .ref t6]) = H4 at d1 d2 d3 d4 d5 d6 g1 f5 hLv ⊢
    refine ⟨_, rfl, by show 2 ≤ sizeLine; decide, fun t7 h7 => ⟨by show 3 ≤ sizeLine; decide, fun t8 h8 => ⟨by show 2 ≤ sizeLine; decide, fun t9 h9 => ⟨by show 2 ≤ sizeLine; decide, fun tA hA => ⟨by show 3 ≤ sizeLine; decide, fun tB hB => ⟨by show 3 ≤ sizeLine; decide, fun M hM => ?_⟩⟩⟩⟩⟩⟩
    have j7 := same_upd (o := .tup [V.str "text", .int 1]) h7
    have j8 := same_upd (o := .tup [V.str "row", .int 0, .ref t7]) h8
    have j9 := same_upd (o := .tup [V.str "choice", .str "c"]) h9
    have jA := same_upd (o := .tup [V.str "maybe", .ref t9]) hA
    have jB := same_upd (o := .tup [V.str "number", .non, .non]) hB
    have jM := same_upd (o := .lst [V.ref t8, .ref tA, .ref tB]) hM
    have d7 : Td K _ (.ref t8) (So.row 0 (.txt 1)).pd := .tup (SqT.of (jM _ _ (jB _ _ (jA _ _ (j9 _ _ upd_same))))) (.cons (.str _) (.cons (.int _) (.cons (.tup (SqT.of (jM _ _ (jB _ _ (jA _ _ (j9 _ _ (j8 _ _ upd_same)))))) (.cons (.str _) (.cons (.int _) .nil))) .nil)))
    have d8 : Td K _ (.ref tA) (So.may (.cho "c")).pd := .tup (SqT.of (jM _ _ (jB _ _ upd_same))) (.cons (.str _) (.cons (.tup (SqT.of (jM _ _ (jB _ _ (jA _ _ upd_same)))) (.cons (.str _) (.cons (.str _) .nil))) .nil))
    have d9 : Td K _ (.ref tB) (So.num none none).pd := .tup (SqT.of (jM _ _ upd_same)) (.cons (.str _) (.cons .non (.cons .non .nil)))
    have kk := ((((j7.trans j8).trans j9).trans jA).trans jB).trans jM
    have g2 := g1.keep (KeepT.same kk)
    have d1 := d1.keep (KeepT.same kk)
    have d2 := d2.keep (KeepT.same kk)
    have d3 := d3.keep (KeepT.same kk)
    have d4 := d4.keep (KeepT.same kk)
    have d5 := d5.keep (KeepT.same kk)
    have d6 := d6.keep (KeepT.same kk)
    have f6 := f5.same kk
    refine ⟨L, M, _, _, rfl, rfl, SqL.of (kk _ _ hLv), upd_same, by show 7 + 3 ≤ sizeLine; decide, fun Y hY => ?_⟩
    have jY := same_upd (o := .lst ([V.ref t0, .ref t1, .ref t2, .ref t3, .ref t4, .ref t5, .ref t6] ++ [V.ref t8, .ref tA, .ref tB])) hY
    have f7 := f6.same jY
    have nY : Y ≠ a := f6.2.ne hY
    refine ⟨_, rfl, a, 10, rfl, f7.2, by decide, by decide, fun r3 H5 r30 r31 f8 => ?_⟩
    have kf := (KeepT.same jY).trans (f8.keepT (K := K) f7.2)
    have f9 := f7.trans f8
    have hYv := f8.1 Y _ nY upd_same
    have pick : ∃ (v : V) (s : So), atI ([V.ref t0, .ref t1, .ref t2, .ref t3, .ref t4, .ref t5, .ref t6] ++ [V.ref t8, .ref tA, .ref tB]) r3 = some v ∧ Td K H5 v s.pd ∧ Ds ks s := by
      obtain rfl | rfl | rfl | rfl | rfl | rfl | rfl | rfl | rfl | rfl : r3 = ((0 : Nat) : Int) ∨ r3 = ((1 : Nat) : Int) ∨ r3 = ((2 : Nat) : Int) ∨ r3 = ((3 : Nat) : Int) ∨ r3 = ((4 : Nat) : Int) ∨ r3 = ((5 : Nat) : Int) ∨ r3 = ((6 : Nat) : Int) ∨ r3 = ((7 : Nat) : Int) ∨ r3 = ((8 : Nat) : Int) ∨ r3 = ((9 : Nat) : Int) := by omega
      · exact ⟨_, _, atI_nat rfl, g2.keep kf, .one (.nod hkm)⟩
      · exact ⟨_, _, atI_nat rfl, d1.keep kf, .may (.nod hkm)⟩
      · exact ⟨_, _, atI_nat rfl, d2.keep kf, .rnod hkm⟩
      · exact ⟨_, _, atI_nat rfl, d3.keep kf, .one .cho⟩
      · exact ⟨_, _, atI_nat rfl, d4.keep kf, .one (.num _ (by omega) (by omega))⟩
      · exact ⟨_, _, atI_nat rfl, d5.keep kf, .one .tru⟩
      · exact ⟨_, _, atI_nat rfl, d6.keep kf, .one .txt⟩
      · exact ⟨_, _, atI_nat rfl, d7.keep kf, .rtxt⟩
      · exact ⟨_, _, atI_nat rfl, d8.keep kf, .may .cho⟩
      · exact ⟨_, _, atI_nat rfl, d9.keep kf, .one .num0⟩
    obtain ⟨v, s, e1, e2, e3⟩ := pick
    exact ⟨Y, _, r3, v, rfl, rfl, SqL.of hYv, e1, q v s H5 e2 e3 f9⟩
theorem ok_left {f : Addr} {fd : FuncData} (F : Fun K "_law_left" "_law_left" s__law_left f fd) : FnOk P w K mg base CX0 1 f fd ["_law_sort_here"] (spLeftG K) := by
  refine F.ok sc__law_left (fun vs H Q E h => ?_) (fun cdv A outer s H vs Q E hr h => ?_)
  · obtain ⟨v, s, rfl, _⟩ := h
    rfl
  · obtain ⟨v, so, rfl, ht, q⟩ := h
    have hu := hu_of hr
    refine ⟨_, (pss_cons (ps_set (i := 1) sc__law_left.nd rfl (.inl rfl) (pe_disp (pps_cons pe_str pe_bl (pps_cons pe_str pe_str (pps_cons pe_str (pe_tup pa_nil) (pps_cons pe_str pe_non (pps_cons pe_str pe_int pps_nil))))) rfl rfl (by simp) (by decide)))
      (pss_one (ps_ret (pe_ifExp (pt_cmp (pc_din hu (pe_ix (r := rIxT K) ix_tup (pv 0) pe_int (fun _ _ => rfl)) (pv 1))) (pe_tup (pa_cons (pe_dget hu (pv 1) (pe_ix (r := rIxT K) ix_tup (pv 0) pe_int (fun _ _ => rfl)) (fun _ _ => rfl)) pa_nil)) (pe_tup pa_nil))))), ?_⟩
    obtain ⟨p, z, rfl, hp, hz⟩ := ht.sort
    refine fun D hD => ⟨by show 0 ≤ sizeLine; decide, fun t0 h0 => ⟨?_, [(.inr "truth", .bl true), (.inr "text", .str "a"), (.inr "row", .ref t0), (.inr "maybe", .non), (.inr "number", .int 5)], rfl, (by show 5 ≤ 15; decide), ?_⟩⟩
    · exact (same_upd (o := .tup []) h0) _ _ upd_same
    have n0 : t0 ≠ D := fun e => by rw [e, upd_same] at h0; cases h0
    have hm : mergeK [] [((.inr "truth" : Key), V.bl true), (.inr "text", .str "a"), (.inr "row", .ref t0), (.inr "maybe", .non), (.inr "number", .int 5)] = [(.inr "truth", .bl true), (.inr "text", .str "a"), (.inr "row", .ref t0), (.inr "maybe", .non), (.inr "number", .int 5)] := by
      rfl
    rw [hm]
    have s1 : Same H (upd (upd (upd H D (.dK [])) t0 (.tup [])) D (.dK [(.inr "truth", .bl true), (.inr "text", .str "a"), (.inr "row", .ref t0), (.inr "maybe", .non), (.inr "number", .int 5)])) := fun b u e => by
      have nb := ne_of_none e hD
      rw [upd_ne nb]
      refine (same_upd (o := .tup []) h0) _ _ ?_
      rw [upd_ne nb]
      exact e
    have hDv : (upd (upd (upd H D (.dK [])) t0 (.tup [])) D (.dK [(.inr "truth", .bl true), (.inr "text", .str "a"), (.inr "row", .ref t0), (.inr "maybe", .non), (.inr "number", .int 5)])) D = some (.dK [(.inr "truth", .bl true), (.inr "text", .str "a"), (.inr "row", .ref t0), (.inr "maybe", .non), (.inr "number", .int 5)]) := upd_same
    have h0v : SqT K (upd (upd (upd H D (.dK [])) t0 (.tup [])) D (.dK [(.inr "truth", .bl true), (.inr "text", .str "a"), (.inr "row", .ref t0), (.inr "maybe", .non), (.inr "number", .int 5)])) t0 [] := SqT.of (by rw [upd_ne n0]; exact upd_same)
    generalize upd (upd (upd H D (.dK [])) t0 (.tup [])) D (.dK [(.inr "truth", .bl true), (.inr "text", .str "a"), (.inr "row", .ref t0), (.inr "maybe", .non), (.inr "number", .int 5)]) = H1 at s1 hDv h0v ⊢
    have hp1 := KeepT.same s1 _ _ hp
    have key : (∃ (v : V) (d : PyData), valV [((.inr "truth" : Key), V.bl true), (.inr "text", .str "a"), (.inr "row", .ref t0), (.inr "maybe", .non), (.inr "number", .int 5)] (.inr so.word) = some v ∧ Td K H1 v d ∧ leftG so = some d) ∨ (valV [((.inr "truth" : Key), V.bl true), (.inr "text", .str "a"), (.inr "row", .ref t0), (.inr "maybe", .non), (.inr "number", .int 5)] (.inr so.word) = none ∧ leftG so = none) := by
      cases so with
      | num _ _ => exact .inl ⟨_, _, rfl, .int _, rfl⟩
      | tru => exact .inl ⟨_, _, rfl, .bl _, rfl⟩
      | txt _ => exact .inl ⟨_, _, rfl, .str _, rfl⟩
      | row _ _ => exact .inl ⟨_, _, rfl, .tup h0v .nil, rfl⟩
      | may _ => exact .inl ⟨_, _, rfl, .non, rfl⟩
      | nod _ => exact .inr ⟨rfl, rfl⟩
      | cho _ => exact .inr ⟨rfl, rfl⟩
    refine ⟨_, rfl, p, _, 0, .str so.word, rfl, rfl, hp1, at0, _, rfl, D, _, rfl, .inl ⟨_, .inr so.word, .inl hDv, rfl, rfl⟩, ?_⟩
    rcases key with ⟨v, d, e1, e2, e3⟩ | ⟨e1, e3⟩
    · rw [e1]
      refine ⟨true, rfl, ?_⟩
      refine ⟨_, rfl, _, rfl, p, _, 0, .str so.word, rfl, rfl, hp1, at0, D, v, rfl, .inl ⟨_, .inr so.word, .inl hDv, rfl, e1.symm⟩, by show 1 ≤ sizeLine; decide, fun t ht => ?_⟩
      have j := same_upd (o := .tup [v]) ht
      refine q _ _ (s1.trans j) ?_
      rw [e3]
      exact .tup (SqT.of upd_same) (.cons (e2.keep (KeepT.same j)) .nil)
    · rw [e1]
      refine ⟨false, rfl, by show 0 ≤ sizeLine; decide, fun t ht => ?_⟩
      have j := same_upd (o := .tup []) ht
      refine q _ _ (s1.trans j) ?_
      rw [e3]
      exact .tup (SqT.of upd_same) .nil
end
end K34
set_option maxHeartbeats 2000000
namespace K34
open PySem PySem.Spec PyProof.Rows L2 Tw Sb LamX
/-- a dict's row: a list out of N -/
def RowO (K : PySem.W.Frag) (N : Addr → Prop) (H : Hp) (kv : Key × V) (r : TRow) : Prop := kv.1 = .inr r.1 ∧ ∃ b xs, kv.2 = .ref b ∧ N b ∧ H b = some (.lst xs) ∧ Tds K H xs (r.2.map En.pd)
theorem RowO.keep {K : PySem.W.Frag} {N N' : Addr → Prop} {H H' : Hp} (k : ∀ b xs, N b → H b = some (.lst xs) → N' b ∧ H' b = some (.lst xs)) (kt : KeepT K H H') {kv : Key × V} {r : TRow} (h : RowO K N H kv r) : RowO K N' H' kv r := by
  obtain ⟨e, b, xs, e2, n, hb, hx⟩ := h
  exact ⟨e, b, xs, e2, (k _ _ n hb).1, (k _ _ n hb).2, hx.keep kt⟩
theorem keepT_dK {K : PySem.W.Frag} {H : Hp} {D : Addr} {u u' : List (Key × V)} (h : H D = some (.dK u)) : KeepT K H (upd H D (.dK u')) := KeepT.but fun b o e => by
  have nb : (∀ l, o ≠ .dK l) → b ≠ D := fun n w => by
    rw [w, h] at e
    exact n _ (Option.some.inj e).symm
  exact ⟨fun l w => by rw [upd_ne (nb fun k z => by rw [w] at z; cases z)]; exact e, fun q l w => by rw [upd_ne (nb fun k z => by rw [w] at z; cases z)]; exact e⟩
theorem keys_of {K : PySem.W.Frag} {N : Addr → Prop} {H : Hp} : ∀ {kv : List (Key × V)} {tb : List TRow}, Paired (RowO K N H) kv tb → kv.map Prod.fst = (tb.map Prod.fst).map Sum.inr
  | _, _, .nil => rfl
  | _, _, .cons h r => by rw [List.map_cons, List.map_cons, List.map_cons, h.1, keys_of r]
theorem valO {K : PySem.W.Frag} {N : Addr → Prop} {H : Hp} {r : TRow} : ∀ {kvs : List (Key × V)} {tb : List TRow}, Paired (RowO K N H) kvs tb → (tb.map Prod.fst).Nodup → r ∈ tb → ∃ b xs, valV kvs (.inr r.1) = some (.ref b) ∧ N b ∧ H b = some (.lst xs) ∧ Tds K H xs (r.2.map En.pd)
  | [], [], .nil, _, hm => nomatch hm
  | (k, v) :: kvs, r0 :: tb, .cons h hr, nd, hm => by
    have nd := List.nodup_cons.mp nd
    obtain ⟨hk, b, xs, e, n, h1, h2⟩ := h
    have hk : k = .inr r0.1 := hk
    have e : v = .ref b := e
    subst hk e
    rcases List.mem_cons.mp hm with rfl | hm
    · exact ⟨b, xs, by simp [valV], n, h1, h2⟩
    · obtain ⟨b', xs', g1, g2⟩ := valO hr nd.2 hm
      have ne : (Sum.inr r0.1 : Key) ≠ .inr r.1 := fun z => nd.1 (List.mem_map.mpr ⟨r, hm, (Sum.inr.inj z).symm⟩)
      refine ⟨b', xs', ?_, g2⟩
      unfold valV at g1 ⊢
      rw [List.find?_cons, decide_eq_false ne]
      exact g1
/-- the names of a row -/
def nmL (st : Str) (i : Nat) : Str := st ++ ⟨#[97 + i]⟩
structure EnG (ks : List Str) (nm : Nat → Str) (e : En) : Prop where
  ex : ∃ k : Nat, k < 5 ∧ e.num = (k : Int) + 1 ∧ e.name = nm k
  of : ∃ s, e.of = some s ∧ Ds ks s ∧ (e.left = none ∨ e.left = leftG s)
structure RowG (ks : List Str) (nm : Nat → Str) (m : Nat) (es : List En) : Prop where
  nd : (es.map En.num).Nodup
  all : ∀ e ∈ es, EnG ks nm e ∧ e.num ≤ m
  len : es.length ≤ m
def casW (k : Nat) : Str := [("two" : Str), "more", "last"].getD k ""
structure EnC (ks : List Str) (st : Str) (e : En) : Prop where
  ex : ∃ k : Nat, k < 3 ∧ e.num = 2 + (k : Int) ∧ e.name = st ++ casW k
  left : e.left = none
  of : ∀ s, e.of = some s → Ds ks s ∧ s.word ≠ "choice"
structure CasG (ks : List Str) (st : Str) (m : Nat) (es : List En) : Prop where
  ex : ∃ (r : Int) (rest : List En), es = ⟨r, "one", none, none⟩ :: rest ∧ 0 ≤ r ∧ r < 2 ∧ (rest.map En.num).Nodup ∧ (∀ e ∈ rest, EnC ks st e ∧ e.num < 2 + m) ∧ rest.length ≤ m
theorem ins_perm {α : Type} (i : Nat) (xs : List α) (y : α) : (xs.take i ++ [y] ++ xs.drop i).Perm (xs ++ [y]) := by
  rw [List.append_assoc]
  refine (List.Perm.append_left _ List.perm_append_comm).trans ?_
  rw [← List.append_assoc, List.take_append_drop]
theorem tds_ins {K : PySem.W.Frag} {H : Hp} {xs : List V} {es : List En} {v : V} {e : En} (h : Tds K H xs (es.map En.pd)) (i : Nat) (hv : Td K H v e.pd) : Tds K H (xs.take i ++ [v] ++ xs.drop i) ((es.take i ++ [e] ++ es.drop i).map En.pd) := by
  rw [List.map_append, List.map_append, List.map_take, List.map_drop]
  exact Tds.append (Tds.append (h.take i) (.cons hv .nil)) (h.drop i)
theorem nodup_snoc {es : List Int} {n : Int} (h : es.Nodup) (hn : n ∉ es) : (es ++ [n]).Nodup := List.nodup_append.mpr ⟨h, List.nodup_cons.mpr ⟨fun z => (nomatch z), List.nodup_nil⟩, fun a ha b hb e => hn (by rw [List.mem_singleton.mp hb] at e; rw [← e]; exact ha)⟩
theorem RowG.ins {ks : List Str} {nm : Nat → Str} {m : Nat} {es : List En} (h : RowG ks nm m es) (i : Nat) {e : En} (he : EnG ks nm e) (hm : e.num = (m : Int) + 1) : RowG ks nm (m + 1) (es.take i ++ [e] ++ es.drop i) := by
  have p := ins_perm i es e
  refine ⟨(p.map En.num).nodup_iff.mpr ?_, fun x hx => ?_, ?_⟩
  · rw [List.map_append]
    refine nodup_snoc h.nd fun hn => ?_
    obtain ⟨x, hx, e2⟩ := List.mem_map.mp hn
    have := (h.all x hx).2
    omega
  · rcases List.mem_append.mp (p.mem_iff.mp hx) with hx | hx
    · exact ⟨(h.all x hx).1, by have := (h.all x hx).2; omega⟩
    · rw [List.mem_singleton.mp hx]
      exact ⟨he, by omega⟩
  · rw [p.length_eq, List.length_append, List.length_singleton]
    have := h.len
    omega
theorem RowG.add {ks : List Str} {nm : Nat → Str} {m : Nat} {es : List En} (h : RowG ks nm m es) {e : En} (he : EnG ks nm e) (hm : e.num = (m : Int) + 1) : RowG ks nm (m + 1) (es ++ [e]) := by
  have := h.ins es.length he hm
  rw [List.take_length, List.drop_length, List.append_nil] at this
  exact this
theorem RowG.mono {ks : List Str} {nm : Nat → Str} {m m' : Nat} {es : List En} (h : RowG ks nm m es) (l : m ≤ m') : RowG ks nm m' es := ⟨h.nd, fun e he => ⟨(h.all e he).1, by have := (h.all e he).2; omega⟩, by have := h.len; omega⟩
theorem CasG.mono {ks : List Str} {st : Str} {m m' : Nat} {es : List En} (h : CasG ks st m es) (l : m ≤ m') : CasG ks st m' es := by
  obtain ⟨r, rest, h1, h2, h3, h4, h5, h6⟩ := h.ex
  exact ⟨r, rest, h1, h2, h3, h4, fun e he => ⟨(h5 e he).1, by have := (h5 e he).2; omega⟩, by omega⟩
theorem CasG.add {ks : List Str} {st : Str} {m : Nat} {es : List En} (h : CasG ks st m es) {e : En} (he : EnC ks st e) (hm : e.num = 2 + (m : Int)) : CasG ks st (m + 1) (es ++ [e]) := by
  obtain ⟨r, rest, h1, h2, h3, h4, h5, h6⟩ := h.ex
  refine ⟨r, rest ++ [e], by rw [h1]; rfl, h2, h3, ?_, fun x hx => ?_, by rw [List.length_append, List.length_singleton]; omega⟩
  · rw [List.map_append]
    refine nodup_snoc h4 fun hn => ?_
    obtain ⟨x, hx, e2⟩ := List.mem_map.mp hn
    have := (h5 x hx).2
    omega
  · rcases List.mem_append.mp hx with hx | hx
    · exact ⟨(h5 x hx).1, by have := (h5 x hx).2; omega⟩
    · rw [List.mem_singleton.mp hx]
      exact ⟨he, by omega⟩
/-- a dict of rows while the row L of kd grows -/
structure RwI (K : PySem.W.Frag) (H0 : Hp) (D L : Addr) (kvs : List (Key × V)) (tb : List TRow) (kd : Str) (xs : List V) (es : List En) (H : Hp) : Prop where
  d : H D = some (.dK (kvs ++ [(.inr kd, .ref L)]))
  r : Paired (RowO K (fun b => H0 b = none ∧ b ≠ L) H) kvs tb
  l : H L = some (.lst xs)
  x : Tds K H xs (es.map En.pd)
theorem IsW2.free_ne {H : Hp} {a b : Addr} (w : IsW2 H a) (h : H b = none) : b ≠ a := w.ne h
theorem RwI.fv {K : PySem.W.Frag} {H0 H H' : Hp} {a D L : Addr} {kvs : List (Key × V)} {tb : List TRow} {kd : Str} {xs : List V} {es : List En} (h : RwI K H0 D L kvs tb kd xs es H) (w0 : IsW2 H0 a) (w : IsW2 H a) (hD : H0 D = none) (hL : H0 L = none) (f : Fv a H H') : RwI K H0 D L kvs tb kd xs es H' :=
  ⟨f.1 _ _ (w0.ne hD) h.d, pd_mono (fun _ _ g => RowO.keep (fun b xs n hb => ⟨n, f.1 _ _ (w0.ne n.1) hb⟩) (f.keepT w) g) h.r, f.1 _ _ (w0.ne hL) h.l, h.x.keep (f.keepT w)⟩
theorem RwI.put {K : PySem.W.Frag} {H0 H : Hp} {D L : Addr} {kvs : List (Key × V)} {tb : List TRow} {kd : Str} {xs ys : List V} {es fs : List En} (h : RwI K H0 D L kvs tb kd xs es H) (hy : Tds K H ys (fs.map En.pd)) : RwI K H0 D L kvs tb kd ys fs (upd H L (.lst ys)) :=
  ⟨by rw [upd_ne (ne_of h.d h.l (fun z => nomatch z))]; exact h.d, pd_mono (fun _ _ g => RowO.keep (fun b xs n hb => ⟨n, by rw [upd_ne n.2]; exact hb⟩) (keepT_lst h.l) g) h.r, upd_same, hy.keep (keepT_lst h.l)⟩
theorem RwI.val {K : PySem.W.Frag} {H0 H : Hp} {D L : Addr} {kvs : List (Key × V)} {tb : List TRow} {kd : Str} {xs : List V} {es : List En} (h : RwI K H0 D L kvs tb kd xs es H) (hn : kd ∉ tb.map Prod.fst) : valV (kvs ++ [(.inr kd, .ref L)]) (.inr kd) = some (.ref L) := by
  have hk : (.inr kd : Key) ∉ kvs.map Prod.fst := fun hm => by
    rw [keys_of h.r] at hm
    obtain ⟨z, hz, e⟩ := List.mem_map.mp hm
    cases e
    exact hn hz
  clear h
  induction kvs with
  | nil => simp [valV]
  | cons p r ih =>
    have h1 : p.1 ≠ .inr kd := fun e => hk (by rw [← e]; exact List.mem_cons_self)
    have := ih (fun hm => hk (List.mem_cons_of_mem _ hm))
    show valV (p :: (r ++ _)) _ = _
    simp only [valV] at this ⊢
    rw [List.find?_cons, decide_eq_false h1]
    exact this
theorem RwI.done {K : PySem.W.Frag} {H0 H : Hp} {D L : Addr} {kvs : List (Key × V)} {tb : List TRow} {kd : Str} {xs : List V} {es : List En} (h : RwI K H0 D L kvs tb kd xs es H) (hL : H0 L = none) : Paired (RowO K (fun b => H0 b = none) H) (kvs ++ [(.inr kd, .ref L)]) (tb ++ [(kd, es)]) :=
  Paired.snoc (pd_mono (fun _ _ g => RowO.keep (fun b xs n hb => ⟨n.1, hb⟩) (KeepT.same (Same.refl _)) g) h.r) ⟨rfl, L, xs, rfl, hL, h.l, h.x⟩
theorem letter_at {i : Nat} (h : i < 5) : atI ("abcde" : Str).cps.toList (0 + (i : Int)) = some (97 + i) := by
  obtain rfl | rfl | rfl | rfl | rfl : i = 0 ∨ i = 1 ∨ i = 2 ∨ i = 3 ∨ i = 4 := by omega
  · exact atI_nat (j := 0) rfl
  · exact atI_nat (j := 1) rfl
  · exact atI_nat (j := 2) rfl
  · exact atI_nat (j := 3) rfl
  · exact atI_nat (j := 4) rfl
theorem word_at {i : Nat} (h : i < 3) : atI [V.str "two", .str "more", .str "last"] (0 + (i : Int)) = some (.str (casW i)) := by
  obtain rfl | rfl | rfl : i = 0 ∨ i = 1 ∨ i = 2 := by omega
  · exact atI_nat (j := 0) rfl
  · exact atI_nat (j := 1) rfl
  · exact atI_nat (j := 2) rfl
end K34
/-! TkX: when told pairs of sorts are one; how pairs are walked one within another. -/
namespace Tw
open PySem PySem.Spec PyProof.Rows L2
theorem oI_inj {a b : Option Int} (h : PyData.eqv (oI a) (oI b) = true) : a = b := by
  cases a <;> cases b <;> simp_all [oI, PyData.eqv]
theorem oI_refl (a : Option Int) : PyData.eqv (oI a) (oI a) = true := by
  cases a <;> simp [oI, PyData.eqv]
theorem eqv_word {s t : So} (h : PyData.eqv s.pd t.pd = true) : s.word = t.word ∧ PyData.eqvAll s.rest t.rest = true := by
  unfold So.pd at h
  simp only [PyData.eqv, PyData.eqvAll, Bool.and_eq_true] at h
  exact ⟨of_decide_eq_true (by simpa using h.1), h.2⟩
theorem eqv_so : ∀ {s t : So}, PyData.eqv s.pd t.pd = true → s = t
  | .num a b, t, h => by
    obtain ⟨h1, h2⟩ := eqv_word h
    have e := word_tag h1
    cases t <;> first
      | (simp only [So.rest, PyData.eqvAll, Bool.and_eq_true] at h2
         rw [oI_inj h2.1, oI_inj h2.2.1])
      | exact absurd e (by simp [So.tag])
  | .tru, t, h => by
    obtain ⟨h1, h2⟩ := eqv_word h
    have e := word_tag h1
    cases t <;> first
      | rfl
      | exact absurd e (by simp [So.tag])
  | .txt n, t, h => by
    obtain ⟨h1, h2⟩ := eqv_word h
    have e := word_tag h1
    cases t <;> first
      | (simp [So.rest, PyData.eqvAll, PyData.eqv] at h2
         rw [h2])
      | exact absurd e (by simp [So.tag])
  | .row n s, t, h => by
    obtain ⟨h1, h2⟩ := eqv_word h
    have e := word_tag h1
    cases t with
    | row m u =>
      simp only [So.rest, PyData.eqvAll, Bool.and_eq_true] at h2
      have e1 : n = m := by simpa [PyData.eqv] using h2.1
      have e2 : s = u := eqv_so (s := s) (t := u) h2.2.1
      rw [e1, e2]
    | _ => exact absurd e (by simp [So.tag])
  | .may s, t, h => by
    obtain ⟨h1, h2⟩ := eqv_word h
    have e := word_tag h1
    cases t with
    | may u =>
      simp only [So.rest, PyData.eqvAll, Bool.and_eq_true] at h2
      have e2 : s = u := eqv_so (s := s) (t := u) h2.1
      rw [e2]
    | _ => exact absurd e (by simp [So.tag])
  | .nod k, t, h => by
    obtain ⟨h1, h2⟩ := eqv_word h
    have e := word_tag h1
    cases t <;> first
      | (simp [So.rest, PyData.eqvAll, PyData.eqv] at h2
         exact congrArg So.nod h2)
      | exact absurd e (by simp [So.tag])
  | .cho k, t, h => by
    obtain ⟨h1, h2⟩ := eqv_word h
    have e := word_tag h1
    cases t <;> first
      | (simp [So.rest, PyData.eqvAll, PyData.eqv] at h2
         exact congrArg So.cho h2)
      | exact absurd e (by simp [So.tag])
theorem so_refl : ∀ s : So, PyData.eqv s.pd s.pd = true ∧ PyData.eqvAll s.rest s.rest = true := fun s => by
  have key : PyData.eqvAll s.rest s.rest = true := by
    induction s with
    | num a b => simp [So.rest, PyData.eqvAll, oI_refl]
    | tru => simp [So.rest, PyData.eqvAll]
    | txt n => simp [So.rest, PyData.eqvAll, PyData.eqv]
    | row n s ih => simp [So.rest, PyData.eqvAll, PyData.eqv, ih]
    | may s ih => simp [So.rest, PyData.eqvAll, PyData.eqv, ih]
    | nod k => simp [So.rest, PyData.eqvAll, PyData.eqv]
    | cho k => simp [So.rest, PyData.eqvAll, PyData.eqv]
  exact ⟨by simp [So.pd, PyData.eqv, PyData.eqvAll, key], key⟩
theorem eqv_pair {p q : Pr} : PyData.eqv (pairD p) (pairD q) = true ↔ p = q := by
  constructor
  · intro h
    simp only [pairD, PyData.eqv, PyData.eqvAll, Bool.and_eq_true] at h
    exact Prod.ext (eqv_so h.1) (eqv_so h.2.1)
  · rintro rfl
    simp [pairD, PyData.eqv, PyData.eqvAll, (so_refl p.1).1, (so_refl p.2).1]
theorem nk_oI {a b : Option Int} (h : nk (oI a) = nk (oI b)) : a = b := by
  cases a <;> cases b <;> simp_all [oI, nk]
theorem nk_word {s t : So} (h : nk s.pd = nk t.pd) : s.word = t.word ∧ nks s.rest = nks t.rest := by
  unfold So.pd at h
  simp only [nk, nks] at h
  injection h with h
  injection h with h1 h2
  injection h1 with h1
  exact ⟨h1, h2⟩
theorem nk_so : ∀ {s t : So}, nk s.pd = nk t.pd → s = t
  | .num a b, t, h => by
    obtain ⟨h1, h2⟩ := nk_word h
    have e := word_tag h1
    cases t <;> first
      | (simp only [So.rest, nks] at h2
         injection h2 with h2 h3
         injection h3 with h3 h4
         rw [nk_oI h2, nk_oI h3])
      | exact absurd e (by simp [So.tag])
  | .tru, t, h => by
    obtain ⟨h1, h2⟩ := nk_word h
    have e := word_tag h1
    cases t <;> first
      | rfl
      | exact absurd e (by simp [So.tag])
  | .txt n, t, h => by
    obtain ⟨h1, h2⟩ := nk_word h
    have e := word_tag h1
    cases t <;> first
      | (simp [So.rest, nks, nk] at h2
         rw [h2])
      | exact absurd e (by simp [So.tag])
  | .row n s, t, h => by
    obtain ⟨h1, h2⟩ := nk_word h
    have e := word_tag h1
    cases t with
    | row m u =>
      simp only [So.rest, nks] at h2
      injection h2 with h2 h3
      injection h3 with h3 h4
      have e1 : n = m := by simpa [nk] using h2
      have e2 : s = u := nk_so (s := s) (t := u) h3
      rw [e1, e2]
    | _ => exact absurd e (by simp [So.tag])
  | .may s, t, h => by
    obtain ⟨h1, h2⟩ := nk_word h
    have e := word_tag h1
    cases t with
    | may u =>
      simp only [So.rest, nks] at h2
      injection h2 with h2 h3
      have e2 : s = u := nk_so (s := s) (t := u) h2
      rw [e2]
    | _ => exact absurd e (by simp [So.tag])
  | .nod k, t, h => by
    obtain ⟨h1, h2⟩ := nk_word h
    have e := word_tag h1
    cases t <;> first
      | (simp [So.rest, nks, nk] at h2
         exact congrArg So.nod h2)
      | exact absurd e (by simp [So.tag])
  | .cho k, t, h => by
    obtain ⟨h1, h2⟩ := nk_word h
    have e := word_tag h1
    cases t <;> first
      | (simp [So.rest, nks, nk] at h2
         exact congrArg So.cho h2)
      | exact absurd e (by simp [So.tag])
theorem pk_inj {p q : Pr} (h : pk p = pk q) : p = q := by
  unfold pk pairD at h
  simp only [nk, nks] at h
  injection h with h
  injection h with h1 h2
  injection h2 with h2 h3
  exact Prod.ext (nk_so h1) (nk_so h2)
theorem pk_mem {p : Pr} {met : List Pr} : pk p ∈ met.map pk ↔ p ∈ met := by
  constructor
  · intro h
    obtain ⟨q, hq, e⟩ := List.mem_map.mp h
    rw [← pk_inj e]
    exact hq
  · exact List.mem_map_of_mem
/-- pairs walked, one within another -/
inductive WalkL (A B : Scm) : List Pr → List Pr → List Pr → Prop
  | nil (met : List Pr) : WalkL A B [] met met
  | seen {p : Pr} {st met r : List Pr} : p ∈ met → WalkL A B st met r → WalkL A B (p :: st) met r
  | new {p : Pr} {st met m r : List Pr} : p ∉ met → WalkL A B (into A B p) (met ++ [p]) m → WalkL A B st m r → WalkL A B (p :: st) met r
theorem walk_of {A B : Scm} {G : Pr → Prop} : ∀ (n : Nat) {ps rest met r : List Pr}, MetN A B G n (ps ++ rest) met r → ∃ m n1, n1 ≤ n ∧ (ps ≠ [] → n1 < n) ∧ WalkL A B ps met m ∧ MetN A B G n1 rest m r := by
  intro n
  induction n using Nat.strongRecOn with
  | _ n ih =>
    intro ps rest met r h
    cases ps with
    | nil => exact ⟨met, n, Nat.le_refl _, fun h => absurd rfl h, .nil _, h⟩
    | cons p st =>
      cases h with
      | @seen n _ _ _ _ _ hk h =>
        obtain ⟨m, n1, h1, _, h2, h3⟩ := ih n (Nat.lt_succ_self n) h
        exact ⟨m, n1, by omega, fun _ => by omega, .seen (pk_mem.mp hk) h2, h3⟩
      | @new n _ _ _ _ _ hk h =>
        obtain ⟨m, n1, h1, _, h2, h3⟩ := ih n (Nat.lt_succ_self n) h
        obtain ⟨m2, n2, h4, _, h5, h6⟩ := ih n1 (by omega) h3
        exact ⟨m2, n2, by omega, fun _ => by omega, .new (fun w => hk (pk_mem.mpr w)) h2 h5, h6⟩
end Tw
/-! TkW: x not in a list of told things; the first place of a told thing in a list. -/
namespace Tw
open PySem PySem.Spec PyProof.Rows L2
def rNotInL (K : PySem.W.Frag) : R2 := fun x y H Q => ∃ (d : PyData) (ds : List PyData) (M : Addr) (acc : List V), y = .ref M ∧ Td K H x d ∧ SqL K H M acc ∧ Tds K H acc ds ∧ PyData.depth d ≤ 50 ∧ Q (.bl (!ds.any fun z => PyData.eqv z d)) H
theorem op_notInL {X : Cx} (hu : X.A.units + 64 < cLine) : OpR X (compareOp .NotIn) (rNotInL X.K) := by
  intro pins s σ H x y v u Q I rx ry h
  obtain ⟨d, ds, M, acc, rfl, hx, hM, hds, hd, q⟩ := h
  obtain ⟨as, r1⟩ := Dp.reads I d x v hx.dp rx
  obtain ⟨bs, r2⟩ := Dp.reads I (.list ds) (.ref M) u (.lst hM hds.dp) ry
  exact SeqAt.notIn_list_data r2 r1 hds.plain hx.plain (by have := Nat.min_le_right (PyData.depthAll ds) d.depth; omega) ⟨.bl _, H, I, rfl, q⟩
def rIndexL (K : PySem.W.Frag) : V → List V → Hp → VK → Prop := fun x xs H Q => ∃ (a : Addr) (y : V) (d : PyData) (ds : List PyData) (acc : List V) (j : Nat) (z : PyData), x = V.ref a ∧ xs = [y] ∧ SqL K H a acc ∧ Tds K H acc ds ∧ Td K H y d ∧ PyData.depth d ≤ 50 ∧ ds[j]? = some z ∧ PyData.eqv z d = true ∧ (∀ (m : Nat) (z' : PyData), m < j → ds[m]? = some z' → PyData.eqv z' d = false) ∧ Q (.int (j : Nat)) H
theorem mt_indexL {X : Cx} (hu : X.A.units + 64 < cLine) : MtR X "list.index" (rIndexL X.K) := by
  intro pins s σ H x xs v us Q I rx rxs h
  obtain ⟨a, y, d, ds, acc, j, z, rfl, rfl, hl, hds, hy, hd, hz, hzj, hno, q⟩ := h
  cases rx
  obtain ⟨uy, rfl, ry⟩ := vals1 rxs
  obtain ⟨bs, r1⟩ := Dp.reads I d y uy hy.dp ry
  have hxs : PyData.plainAll ds = true := hds.plain
  have hroom : X.A.units + 1 + min (PyData.depthAll ds) d.depth < cLine := by
    have := Nat.min_le_right (PyData.depthAll ds) d.depth
    omega
  obtain ⟨its, rv, ⟨⟨cls, dd, data, sls⟩, n, ho, hc, hdn, hdt⟩, hlen⟩ := I.list hl
  simp only at hc hdt
  subst hc hdt
  obtain ⟨as, h4⟩ := Dp.readsAll I ds _ its hds.dp rv
  have hmap : its.map (SeqAt.readOf s.heap) = ds := SeqAt.readsAll_map_plain ds its as hxs h4
  have hn : its.length = ds.length := by rw [← hmap, List.length_map]
  have hvl := rv.length
  have hsl := sizeLine_eq
  obtain ⟨hjd, _⟩ := List.getElem?_eq_some_iff.mp hz
  have hjl : j < its.length := by omega
  have at_ : ∀ (m : Nat) (hm : m < its.toArray.size) (z' : PyData), ds[m]? = some z' → SeqAt.readOf s.heap its.toArray[m] = z' := by
    intro m hm z' hz'
    have hml : m < its.length := by simpa using hm
    rw [← hmap, List.getElem?_map, List.getElem?_eq_getElem hml] at hz'
    simpa using Option.some.inj hz'
  refine call_meets PySem.F.slot_list_index ⟨_, ho, rfl⟩ PySem.F.entry_list_index (PySem.F.args_list_index_2 _ _)
    (SeqAt.list_indexAt a its.toArray n dd sls uy (fun u => PyData.eqv (SeqAt.readOf s.heap u) d) j (by simpa using hjl) (by omega) ?_ ?_) ⟨ho, SeqAt.items_plain (vs := its.toArray) (show ReadsAll s.heap its.toArray.toList ds as from h4) r1 hxs hy.plain hroom, .int (j : Nat), H, I.tok _, ⟨_, rfl⟩, q⟩
  · show PyData.eqv (SeqAt.readOf s.heap its.toArray[j]) d = true
    rw [at_ j (by simpa using hjl) z hz]
    exact hzj
  · intro m hm hmj
    have hz' : ds[m]? = some (ds[m]'(by omega)) := List.getElem?_eq_getElem (by omega)
    show PyData.eqv (SeqAt.readOf s.heap its.toArray[m]) d = false
    rw [at_ m hm _ hz']
    exact hno m _ hmj hz'
end Tw
set_option maxHeartbeats 2000000
namespace K34
open PySem PySem.Spec PyProof.Rows L2 Tw Sb LamX
/-- the entries of a number on both sides -/
def bothOf (fs : List En) (e : En) : Option (En × En) := (enNum fs e.num).map fun f => (e, f)
def bothS (es fs : List En) : List (En × En) := es.filterMap (bothOf fs)
theorem likes_both (es fs : List En) : likesS es fs = (bothS es fs).map fun p => (p.2, p.1.of, p.2.of) := by
  unfold likesS bothS
  rw [List.map_filterMap]
  congr 1
  funext e
  unfold likeOf bothOf
  cases enNum fs e.num <;> rfl
theorem filter_num {fs : List En} {n : Int} (h : (fs.map En.num).Nodup) : fs.filter (fun f => decide (f.num = n)) = (enNum fs n).toList := by
  induction fs with
  | nil => rfl
  | cons f r ih =>
    have hn := List.nodup_cons.mp (show (f.num :: r.map En.num).Nodup from h)
    unfold enNum
    rw [List.filter_cons, List.find?_cons]
    by_cases e : f.num = n
    · rw [decide_eq_true e]
      simp only [if_true]
      have : r.filter (fun f => decide (f.num = n)) = [] := by
        rw [List.filter_eq_nil_iff]
        intro x hx hx2
        exact hn.1 (by rw [e, ← of_decide_eq_true hx2]; exact List.mem_map_of_mem hx)
      rw [this]
      rfl
    · rw [decide_eq_false e]
      exact ih hn.2
theorem filter_nextE {p : En → Bool} {es : List En} {i : Nat} {e : En} (h : es[i]? = some e) : (es.take (i + 1)).filter p = (es.take i).filter p ++ (if p e = true then [e] else []) := by
  rw [List.take_add_one, h]
  show (es.take i ++ [e]).filter p = _
  rw [List.filter_append]
  congr 1
  rw [List.filter_cons, List.filter_nil]
/-- what is told of the tables of a drawn schema -/
structure SkG (ks : List Str) (tk tc : List TRow) (o : So) : Prop where
  ok : SkOk tk tc o
  nk : tk.map Prod.fst = ks
  nc : tc.map Prod.fst = [("c" : Str)]
  dk : ∀ r ∈ tk, ∀ e ∈ r.2, ∀ s, e.of = some s → Ds ks s
  dc : ∀ r ∈ tc, ∀ e ∈ r.2, ∀ s, e.of = some s → Ds ks s
  o : Ds ks o
  nm : ∀ k ∈ ks, isNm k = true
def DsP (ks : List Str) (p : Pr) : Prop := Ds ks p.1 ∧ Ds ks p.2
theorem Di.ok {ks : List Str} (hk : ∀ k ∈ ks, isNm k = true) {s : So} (h : Di ks s) (i : Bool) : s.ok ks [("c" : Str)] i := by
  cases h with
  | nod h => exact ⟨hk _ h, h⟩
  | cho => exact ⟨by decide +kernel, List.mem_singleton.mpr rfl⟩
  | num lo a b => exact (show lo ≤ 5 by omega)
  | tru => trivial
  | txt => exact ⟨by decide, by decide⟩
  | txt1 => exact ⟨by decide, by decide⟩
  | num0 => trivial
theorem Ds.ok {ks : List Str} (hk : ∀ k ∈ ks, isNm k = true) {s : So} (h : Ds ks s) : s.ok ks [("c" : Str)] false := by
  cases h with
  | one h => exact h.ok hk false
  | may h => exact ⟨rfl, h.ok hk true⟩
  | rnod h => exact ⟨by decide, by decide, hk _ h, h⟩
  | rtxt => exact ⟨by decide, by decide, by decide, by decide⟩
def innerOf : En × En → Option Pr
  | (e, f) => match e.of, f.of with
    | some a, some b => some (a, b)
    | _, _ => none
theorem nod_of {o : So} (h : o.word = "node") : ∃ k, o = .nod k := by
  have e := word_tag (o := o) (n := .nod "") h
  cases o with
  | nod k => exact ⟨k, rfl⟩
  | _ => exact absurd e (by simp [So.tag])
theorem cho_of {o : So} (h : o.word = "choice") : ∃ k, o = .cho k := by
  have e := word_tag (o := o) (n := .cho "") h
  cases o with
  | cho k => exact ⟨k, rfl⟩
  | _ => exact absurd e (by simp [So.tag])
theorem row_of {o : So} (h : o.word = "row") : ∃ m s, o = .row m s := by
  have e := word_tag (o := o) (n := .row 0 .tru) h
  cases o with
  | row m s => exact ⟨m, s, rfl⟩
  | _ => exact absurd e (by simp [So.tag])
theorem Ds.nod {ks : List Str} {k : Str} (h : Ds ks (.nod k)) : k ∈ ks := by
  cases h with
  | one h =>
    cases h with
    | nod h => exact h
theorem Ds.cho {ks : List Str} {k : Str} (h : Ds ks (.cho k)) : k = "c" := by
  cases h with
  | one h =>
    cases h with
    | cho => rfl
/-- no pair of these comes of others -/
theorem into_none {A B : Scm} {o n : So} (h1 : o.word ≠ "maybe") (h2 : n.word ≠ "maybe") (h3 : ¬ (o.word = "row" ∧ n.word = "row")) (h4 : ¬ (o.word = "node" ∧ n.word = "node")) (h5 : ¬ (o.word = "choice" ∧ n.word = "choice")) : into A B (o, n) = [] := by
  cases o <;> cases n <;> first
    | rfl
    | exact absurd rfl h1
    | exact absurd rfl h2
    | exact absurd ⟨rfl, rfl⟩ h3
    | exact absurd ⟨rfl, rfl⟩ h4
    | exact absurd ⟨rfl, rfl⟩ h5
theorem into_like (g : Str → PyData) (es fs : List En) : ((likesS es fs).filterMap (stepOf g)).map (·.2) = (bothS es fs).filterMap innerOf := by
  rw [likes_both, List.filterMap_map, List.map_filterMap]
  congr 1
  funext p
  obtain ⟨⟨_, _, eo, _⟩, ⟨_, _, fo, _⟩⟩ := p
  cases eo <;> cases fo <;> rfl
theorem RowOk.nodup {k : Bool} {ks cs : List Str} {es : List En} (h : RowOk k ks cs es) : (es.map En.num).Nodup := by
  refine List.pairwise_iff_getElem.mpr fun i j hi hj hij e => ?_
  rw [List.length_map] at hi hj
  rw [List.getElem_map, List.getElem_map] at e
  refine (h j es[j] (List.getElem?_eq_getElem hj)).newI ?_
  rw [← e]
  exact List.mem_map_of_mem (List.mem_take_iff_getElem.mpr ⟨i, by omega, rfl⟩)
theorem sort_nodup {es : List En} (h : (es.map En.num).Nodup) : ((sortEn es).map En.num).Nodup := ((List.mergeSort_perm es _).map En.num).nodup_iff.mpr h
theorem walk_pre {A B : Scm} {ps met r : List Pr} (h : WalkL A B ps met r) : ∃ t, r = met ++ t := by
  induction h with
  | nil met => exact ⟨[], (List.append_nil _).symm⟩
  | seen _ _ ih => exact ih
  | @new p st met m r _ _ _ ih1 ih2 =>
    obtain ⟨t1, e1⟩ := ih1
    obtain ⟨t2, e2⟩ := ih2
    exact ⟨p :: (t1 ++ t2), by rw [e2, e1]; simp⟩
theorem walk_nodup {A B : Scm} {ps met r : List Pr} (h : WalkL A B ps met r) : met.Nodup → r.Nodup := by
  induction h with
  | nil met => exact id
  | seen _ _ ih => exact ih
  | new hp _ _ ih1 ih2 =>
    intro hn
    refine ih2 (ih1 (List.nodup_append.mpr ⟨hn, List.nodup_cons.mpr ⟨fun z => (nomatch z), List.nodup_nil⟩, fun a ha b hb e => hp ?_⟩))
    rw [List.mem_singleton.mp hb] at e
    rw [← e]
    exact ha
theorem walk_good {A B : Scm} {G : Pr → Prop} (hI : ∀ p, G p → ∀ q ∈ into A B p, G q) {ps met r : List Pr} (h : WalkL A B ps met r) : (∀ p ∈ ps, G p) → (∀ p ∈ met, G p) → ∀ p ∈ r, G p := by
  induction h with
  | nil met => exact fun _ h => h
  | seen _ _ ih => exact fun h1 h2 => ih (fun p hp => h1 p (List.mem_cons_of_mem _ hp)) h2
  | @new p st met m r hp _ _ ih1 ih2 =>
    intro h1 h2
    have gp := h1 p List.mem_cons_self
    refine ih2 (fun q hq => h1 q (List.mem_cons_of_mem _ hq)) (ih1 (hI p gp) fun q hq => ?_)
    rcases List.mem_append.mp hq with hq | hq
    · exact h2 q hq
    · rw [List.mem_singleton.mp hq]
      exact gp
theorem walk_cut {A B : Scm} {p : Pr} {st met r : List Pr} (h : WalkL A B (p :: st) met r) : ∃ m, WalkL A B [p] met m ∧ WalkL A B st m r := by
  cases h with
  | seen h1 h2 => exact ⟨met, .seen h1 (.nil _), h2⟩
  | new h1 h2 h3 => exact ⟨_, .new h1 h2 (.nil _), h3⟩
def loc : So → Nat
  | .row _ _ => 1
  | .may _ => 1
  | _ => 0
def isHub : Pr → Bool
  | (.nod _, .nod _) => true
  | (.cho _, .cho _) => true
  | _ => false
def mu (p : Pr) (met : List Pr) : Nat := 3 * (10 - (met.filter isHub).length) + loc p.1 + loc p.2
def hubs (ks : List Str) : List Pr := (.cho "c", .cho "c") :: ks.flatMap fun k => ks.map fun l => (.nod k, .nod l)
theorem hubs_len {ks : List Str} (h : ks.length ≤ 3) : (hubs ks).length ≤ 10 := by
  unfold hubs
  rw [List.length_cons, List.length_flatMap]
  simp only [List.length_map]
  rw [List.map_const', List.sum_replicate_nat]
  have := Nat.mul_le_mul h h
  omega
theorem hub_mem {ks : List Str} {p : Pr} (h : isHub p = true) (d : DsP ks p) : p ∈ hubs ks := by
  obtain ⟨o, n⟩ := p
  obtain ⟨d1, d2⟩ := d
  unfold hubs
  cases o <;> cases n <;> first
    | exact List.mem_cons_of_mem _ (List.mem_flatMap.mpr ⟨_, Ds.nod d1, List.mem_map.mpr ⟨_, Ds.nod d2, rfl⟩⟩)
    | (rw [Ds.cho d1, Ds.cho d2]; exact List.mem_cons_self)
    | exact absurd h (by simp [isHub])
theorem nodup_pk {l : List Pr} (h : l.Nodup) : (l.map pk).Nodup := List.pairwise_map.mpr (h.imp fun n e => n (pk_inj e))
theorem hub_lt {ks : List Str} {p : Pr} {met : List Pr} (k3 : ks.length ≤ 3) (nd : met.Nodup) (hm : ∀ q ∈ met, DsP ks q) (hp : p ∉ met) (h : isHub p = true) (d : DsP ks p) : (met.filter isHub).length + 1 ≤ 10 := by
  have n2 : (p :: met.filter isHub).Nodup := List.nodup_cons.mpr ⟨fun z => hp (List.mem_filter.mp z).1, nd.filter _⟩
  have h1 := nodup_len (D := (hubs ks).map pk) (nodup_pk n2) fun x hx => by
    obtain ⟨y, hy, rfl⟩ := List.mem_map.mp hx
    refine List.mem_map_of_mem ?_
    rcases List.mem_cons.mp hy with rfl | hy
    · exact hub_mem h d
    · obtain ⟨h1, h2⟩ := List.mem_filter.mp hy
      exact hub_mem h2 (hm _ h1)
  have h2 := hubs_len k3
  rw [List.length_map, List.length_map, List.length_cons] at h1
  omega
theorem loc_le (s : So) : loc s ≤ 1 := by cases s <;> simp [loc]
/-- .. without hubs, what comes of a pair is smaller -/
theorem into_loc {ks : List Str} {A B : Scm} {p q : Pr} (d : DsP ks p) (h : isHub p = false) (hq : q ∈ into A B p) : loc q.1 + loc q.2 < loc p.1 + loc p.2 := by
  obtain ⟨o, n⟩ := p
  obtain ⟨d1, d2⟩ := d
  have l0 : ∀ {s : So}, Di ks s → loc s = 0 := fun h => by cases h <;> rfl
  have inM : ∀ {s : So}, Ds ks (.may s) → loc s = 0 := fun h => by
    cases h with
    | one h => cases h
    | may h => exact l0 h
  have inR : ∀ {m : Int} {s : So}, Ds ks (.row m s) → loc s = 0 := fun h => by
    cases h with
    | one h => cases h
    | rnod h => rfl
    | rtxt => rfl
  cases o with
  | may a =>
    have e1 := inM d1
    cases n with
    | may b =>
      obtain rfl := List.mem_singleton.mp hq
      have e2 := inM d2
      show loc a + loc b < 1 + 1
      omega
    | row m s =>
      obtain rfl := List.mem_singleton.mp hq
      show loc a + 1 < 1 + 1
      omega
    | num _ _ => obtain rfl := List.mem_singleton.mp hq; show loc a + 0 < 1 + 0; omega
    | tru => obtain rfl := List.mem_singleton.mp hq; show loc a + 0 < 1 + 0; omega
    | txt _ => obtain rfl := List.mem_singleton.mp hq; show loc a + 0 < 1 + 0; omega
    | nod _ => obtain rfl := List.mem_singleton.mp hq; show loc a + 0 < 1 + 0; omega
    | cho _ => obtain rfl := List.mem_singleton.mp hq; show loc a + 0 < 1 + 0; omega
  | row m s =>
    have e1 := inR d1
    cases n with
    | may b =>
      obtain rfl := List.mem_singleton.mp hq
      have e2 := inM d2
      show 1 + loc b < 1 + 1
      omega
    | row l u =>
      have e2 := inR d2
      have hq : q ∈ (if m > 0 ∧ l > 0 then [((.tuple [.int 0] : PyData), s, u)] else []).map (·.2) := hq
      split at hq
      · obtain rfl := List.mem_singleton.mp hq
        show loc s + loc u < 1 + 1
        omega
      · exact nomatch hq
    | _ => exact nomatch hq
  | nod k =>
    cases n with
    | may b => obtain rfl := List.mem_singleton.mp hq; have e2 := inM d2; show 0 + loc b < 0 + 1; omega
    | nod l => exact absurd h (by simp [isHub])
    | _ => exact nomatch hq
  | cho k =>
    cases n with
    | may b => obtain rfl := List.mem_singleton.mp hq; have e2 := inM d2; show 0 + loc b < 0 + 1; omega
    | cho l => exact absurd h (by simp [isHub])
    | _ => exact nomatch hq
  | _ =>
    cases n with
    | may b => obtain rfl := List.mem_singleton.mp hq; have e2 := inM d2; show 0 + loc b < 0 + 1; omega
    | _ => exact nomatch hq
theorem mu_dec {ks : List Str} {A B : Scm} {p q : Pr} {met t : List Pr} (k3 : ks.length ≤ 3) (nd : met.Nodup) (hm : ∀ q ∈ met, DsP ks q) (hp : p ∉ met) (d : DsP ks p) (hq : q ∈ into A B p) : mu q ((met ++ [p]) ++ t) < mu p met := by
  unfold mu
  have hl : (((met ++ [p]) ++ t).filter isHub).length = (met.filter isHub).length + (if isHub p = true then 1 else 0) + (t.filter isHub).length := by
    rw [List.filter_append, List.filter_append, List.length_append, List.length_append, List.filter_cons, List.filter_nil]
    split <;> rfl
  rw [hl]
  have l1 := loc_le q.1
  have l2 := loc_le q.2
  by_cases h : isHub p = true
  · have := hub_lt k3 nd hm hp h d
    rw [if_pos h]
    omega
  · have := into_loc d (by simpa using h) hq
    rw [if_neg h]
    omega
theorem into_ds {ks : List Str} {tk1 tc1 tk2 tc2 : List TRow} {o1 o2 : So} (GA : SkG ks tk1 tc1 o1) (GB : SkG ks tk2 tc2 o2) (p : Pr) (d : DsP ks p) : ∀ q ∈ into (scmT tk1 tc1 o1) (scmT tk2 tc2 o2) p, DsP ks q := by
  intro q hq
  obtain ⟨o, n⟩ := p
  obtain ⟨d1, d2⟩ := d
  have inM : ∀ {s : So}, Ds ks (.may s) → Ds ks s := fun h => by
    cases h with
    | one h => cases h
    | may h => exact .one h
  have inR : ∀ {m : Int} {s : So}, Ds ks (.row m s) → Ds ks s := fun h => by
    cases h with
    | one h => cases h
    | rnod h => exact .one (.nod h)
    | rtxt => exact .one .txt1
  have ent : ∀ {tb : List TRow} {k : Str} {e : En} {s : So}, (∀ r ∈ tb, ∀ e ∈ r.2, ∀ s, e.of = some s → Ds ks s) → e ∈ chT (sortT tb) k → e.of = some s → Ds ks s := fun {tb k e s} h he hs => by
    obtain ⟨r, hr, _, e2⟩ := chT_row he
    rw [e2] at he
    obtain ⟨r0, hr0, rfl⟩ := List.mem_map.mp hr
    exact h r0 hr0 e ((mem_sortEn e).mp he) s hs
  have lk : ∀ {ta tb : List TRow} {k l : Str} {q : Pr}, (∀ r ∈ ta, ∀ e ∈ r.2, ∀ s, e.of = some s → Ds ks s) → (∀ r ∈ tb, ∀ e ∈ r.2, ∀ s, e.of = some s → Ds ks s) → q ∈ (bothS (chT (sortT ta) k) (chT (sortT tb) l)).filterMap innerOf → DsP ks q := fun {ta tb k l q} ha hb hq => by
    obtain ⟨⟨e, f⟩, hx, hi⟩ := List.mem_filterMap.mp hq
    obtain ⟨e', he', hb'⟩ := List.mem_filterMap.mp hx
    unfold bothOf at hb'
    obtain ⟨f', hf', hh⟩ := Option.map_eq_some_iff.mp hb'
    cases hh
    unfold innerOf at hi
    dsimp only at hi
    cases eo : e.of with
    | none =>
      rw [eo] at hi
      cases hi
    | some a =>
      cases fo : f.of with
      | none =>
        rw [eo, fo] at hi
        cases hi
      | some b =>
        rw [eo, fo] at hi
        cases hi
        exact ⟨ent ha he' eo, ent hb (enNum_mem hf').1 fo⟩
  cases o with
  | may a =>
    cases n with
    | may b => obtain rfl := List.mem_singleton.mp hq; exact ⟨inM d1, inM d2⟩
    | num _ _ => obtain rfl := List.mem_singleton.mp hq; exact ⟨inM d1, d2⟩
    | tru => obtain rfl := List.mem_singleton.mp hq; exact ⟨inM d1, d2⟩
    | txt _ => obtain rfl := List.mem_singleton.mp hq; exact ⟨inM d1, d2⟩
    | row _ _ => obtain rfl := List.mem_singleton.mp hq; exact ⟨inM d1, d2⟩
    | nod _ => obtain rfl := List.mem_singleton.mp hq; exact ⟨inM d1, d2⟩
    | cho _ => obtain rfl := List.mem_singleton.mp hq; exact ⟨inM d1, d2⟩
  | row m s =>
    cases n with
    | may b => obtain rfl := List.mem_singleton.mp hq; exact ⟨d1, inM d2⟩
    | row l u =>
      have hq : q ∈ (if m > 0 ∧ l > 0 then [((.tuple [.int 0] : PyData), s, u)] else []).map (·.2) := hq
      split at hq
      · obtain rfl := List.mem_singleton.mp hq
        exact ⟨inR d1, inR d2⟩
      · exact nomatch hq
    | _ => exact nomatch hq
  | nod k =>
    cases n with
    | may b => obtain rfl := List.mem_singleton.mp hq; exact ⟨d1, inM d2⟩
    | nod l =>
      rw [show into (scmT tk1 tc1 o1) (scmT tk2 tc2 o2) (.nod k, .nod l) = _ from into_like PyData.str _ _] at hq
      exact lk GA.dk GB.dk hq
    | _ => exact nomatch hq
  | cho k =>
    cases n with
    | may b => obtain rfl := List.mem_singleton.mp hq; exact ⟨d1, inM d2⟩
    | cho l =>
      rw [show into (scmT tk1 tc1 o1) (scmT tk2 tc2 o2) (.cho k, .cho l) = _ from into_like caseS _ _] at hq
      exact lk GA.dc GB.dc hq
    | _ => exact nomatch hq
  | _ =>
    cases n with
    | may b => obtain rfl := List.mem_singleton.mp hq; exact ⟨d1, inM d2⟩
    | _ => exact nomatch hq
/-- all but the list M stays -/
def ButL (M : Addr) (H H' : Hp) : Prop := ∀ b o, b ≠ M → H b = some o → H' b = some o
theorem ButL.trans {M : Addr} {H H1 H2 : Hp} (f : ButL M H H1) (g : ButL M H1 H2) : ButL M H H2 := fun b o n e => g b o n (f b o n e)
theorem ButL.same {M : Addr} {H H1 : Hp} (g : Same H H1) : ButL M H H1 := fun b o _ e => g b o e
theorem ButL.upd {M : Addr} {H : Hp} {o : HO} : ButL M H (upd H M o) := fun b u n e => by rw [upd_ne n]; exact e
theorem ButL.keepT {K : PySem.W.Frag} {M : Addr} {H H' : Hp} {xs : List V} (f : ButL M H H') (h : H M = some (.lst xs)) : KeepT K H H' := KeepT.but fun b o e => by
  have nb : o ≠ .lst xs → b ≠ M := fun n q => by
    rw [q, h] at e
    exact n (Option.some.inj e).symm
  exact ⟨fun xs q => f b o (nb (by rw [q]; intro h; cases h)) e, fun _ xs q => f b o (nb (by rw [q]; intro h; cases h)) e⟩
theorem ButL.sc {K : PySem.W.Frag} {CS M a : Addr} {H H' : Hp} {xs : List V} {tk tc : List TRow} {o : So} (f : ButL M H H') (h : H M = some (.lst xs)) (s : ScK K CS H a tk tc o) : ScK K CS H' a tk tc o :=
  s.keep (fun b u e => ⟨fun C dx fs q => f b u (fun w => by rw [w, h] at e; cases e; cases q) e, fun kv q => f b u (fun w => by rw [w, h] at e; cases e; cases q) e⟩) (f.keepT h)
theorem any_pair {met : List Pr} {p : Pr} : ((met.map Tw.pairD).any fun z => PyData.eqv z (Tw.pairD p)) = true ↔ p ∈ met := by
  rw [List.any_map, List.any_eq_true]
  constructor
  · rintro ⟨q, hq, e⟩
    rw [← eqv_pair.mp e]
    exact hq
  · exact fun h => ⟨p, h, eqv_pair.mpr rfl⟩
theorem so_depth : ∀ s : So, PyData.depth s.pd ≤ s.depth + 1
  | .num lo hi => by cases lo <;> cases hi <;> exact Nat.le_refl _
  | .tru => Nat.le_refl _
  | .txt _ => Nat.le_refl _
  | .row n s => by
    show max 0 (max 0 (max (PyData.depth s.pd) 0)) + 1 ≤ s.depth + 1 + 1
    have := so_depth s
    omega
  | .may s => by
    show max 0 (max (PyData.depth s.pd) 0) + 1 ≤ s.depth + 1 + 1
    have := so_depth s
    omega
  | .nod _ => Nat.le_refl _
  | .cho _ => Nat.le_refl _
theorem ds_depth {ks : List Str} {s : So} (h : Ds ks s) : PyData.depth s.pd ≤ 3 := by
  have h0 : s.depth ≤ 1 := by
    cases h with
    | one h => cases h <;> exact Nat.zero_le _
    | may h => cases h <;> exact Nat.le_refl _
    | rnod h => exact Nat.le_refl _
    | rtxt => exact Nat.le_refl _
  have := so_depth s
  omega
theorem pair_depth {ks : List Str} {p : Pr} (h : DsP ks p) : PyData.depth (Tw.pairD p) ≤ 4 := by
  have h1 := ds_depth h.1
  have h2 := ds_depth h.2
  show max (PyData.depth p.1.pd) (max (PyData.depth p.2.pd) 0) + 1 ≤ 4
  omega
structure NmOk (nm : Nat → Str) : Prop where
  ok : ∀ i, i < 5 → isNm (nm i) = true
  inj : ∀ i, i < 5 → ∀ j, j < 5 → nm i = nm j → i = j
theorem nm_o : NmOk (nmL "o") := ⟨by decide +kernel, by decide +kernel⟩
theorem nm_n : NmOk (nmL "n") := ⟨by decide +kernel, by decide +kernel⟩
theorem leftG_ok {ks : List Str} {s : So} {d : PyData} (h : Ds ks s) (e : leftG s = some d) : DefOk s d := by
  cases h with
  | one h =>
    cases h with
    | nod h => cases e
    | cho => cases e
    | num lo a b =>
      cases e
      exact ⟨fun x hx => by cases hx; omega, fun y hy => by cases hy; omega, by decide, by decide⟩
    | tru => cases e; trivial
    | txt => cases e; exact ⟨by decide, by decide, by decide⟩
    | txt1 => cases e; exact ⟨by decide, by decide, by decide⟩
    | num0 =>
      cases e
      exact ⟨fun x hx => (nomatch hx), fun y hy => (nomatch hy), by decide, by decide⟩
  | may h => cases e; trivial
  | rnod h => cases e; trivial
  | rtxt => cases e; trivial
theorem mem_take_lt {es : List En} {i : Nat} {e : En} (he : es[i]? = some e) (nd : (es.map En.num).Nodup) : ∀ x ∈ es.take i, x.num ≠ e.num := fun x hx h => by
  obtain ⟨j, hj, ej⟩ := List.mem_take_iff_getElem.mp hx
  obtain ⟨hi, e'⟩ := List.getElem?_eq_some_iff.mp he
  have := (List.getElem_inj (xs := es.map En.num) (i := j) (j := i) (h₀ := by rw [List.length_map]; omega) (h₁ := by rw [List.length_map]; exact hi) nd).mp (by rw [List.getElem_map, List.getElem_map, e', ej, h])
  omega
theorem rowG_ok {ks : List Str} {nm : Nat → Str} {es : List En} (hk : ∀ k ∈ ks, isNm k = true) (hn : NmOk nm) (h : RowG ks nm 5 es) : RowOk true ks [("c" : Str)] es := fun i e he => by
  have hem := List.mem_of_getElem? he
  obtain ⟨gE, gm⟩ := h.all e hem
  obtain ⟨k, k5, hnum, hnm⟩ := gE.ex
  obtain ⟨s, hs, ds, hl⟩ := gE.of
  have hd := mem_take_lt he h.nd
  refine ⟨by rw [hnm]; exact hn.ok k k5, fun hx => ?_, by rw [if_pos rfl]; omega, by omega, fun hx => ?_, fun z => (by rw [hs] at z; cases z), fun s' hs' => ?_⟩
  · obtain ⟨x, hx, ex⟩ := List.mem_map.mp hx
    obtain ⟨k', k5', hnum', hnm'⟩ := (h.all x (List.mem_of_mem_take hx)).1.ex
    have := hn.inj k' k5' k k5 (by rw [← hnm', ex, hnm])
    exact hd x hx (by rw [hnum, hnum', this])
  · obtain ⟨x, hx, ex⟩ := List.mem_map.mp hx
    exact hd x hx ex
  · rw [hs] at hs'
    obtain rfl := Option.some.inj hs'
    refine ⟨by omega, ds.ok hk, fun d e => ⟨rfl, ?_⟩⟩
    rcases hl with hl | hl
    · rw [hl] at e
      cases e
    · exact leftG_ok ds (by rw [← hl]; exact e)
structure StOk (st : Str) : Prop where
  ok : ∀ i, i < 3 → isNm (st ++ casW i) = true
  inj : ∀ i, i < 3 → ∀ j, j < 3 → st ++ casW i = st ++ casW j → i = j
  one : ∀ i, i < 3 → st ++ casW i ≠ "one"
theorem st_o : StOk "o" := ⟨by decide +kernel, by decide +kernel, by decide +kernel⟩
theorem st_n : StOk "n" := ⟨by decide +kernel, by decide +kernel, by decide +kernel⟩
theorem casG_nodup {ks : List Str} {st : Str} {es : List En} (h : CasG ks st 3 es) : (es.map En.num).Nodup := by
  obtain ⟨r, rest, rfl, r0, r1, nd, all, l⟩ := h.ex
  refine List.nodup_cons.mpr ⟨fun hm => ?_, nd⟩
  obtain ⟨x, hx, ex⟩ := List.mem_map.mp hm
  obtain ⟨k, k3, hnum, _⟩ := (all x hx).1.ex
  have ex : x.num = r := ex
  omega
theorem casG_ok {ks : List Str} {st : Str} {es : List En} (hk : ∀ k ∈ ks, isNm k = true) (hs : StOk st) (h : CasG ks st 3 es) : RowOk false ks [("c" : Str)] es := fun i e he => by
  have hd := mem_take_lt he (casG_nodup h)
  obtain ⟨r, rest, rfl, r0, r1, nd, all, l⟩ := h.ex
  have two : ∀ x ∈ (⟨r, "one", none, none⟩ : En) :: rest, (x = ⟨r, "one", none, none⟩) ∨ EnC ks st x := fun x hx => by
    rcases List.mem_cons.mp hx with rfl | hx
    · exact .inl rfl
    · exact .inr (all x hx).1
  have hem := List.mem_of_getElem? he
  have newI : e.num ∉ (((⟨r, "one", none, none⟩ : En) :: rest).take i).map En.num := fun hx => by
    obtain ⟨x, hx, ex⟩ := List.mem_map.mp hx
    exact hd x hx ex
  rcases two e hem with rfl | c
  · refine ⟨show isNm ("one" : Str) = true by decide +kernel, fun hx => ?_, by rw [if_neg Bool.false_ne_true]; exact r0, show r ≤ 99 by omega, newI, fun _ => ⟨rfl, rfl⟩, fun s hs => nomatch hs⟩
    obtain ⟨x, hx, ex⟩ := List.mem_map.mp hx
    rcases two x (List.mem_of_mem_take hx) with rfl | cx
    · exact hd _ hx rfl
    · obtain ⟨k, k3, hnum, hnm⟩ := cx.ex
      exact hs.one k k3 (by rw [← hnm]; exact ex)
  · obtain ⟨k, k3, hnum, hnm⟩ := c.ex
    refine ⟨by rw [hnm]; exact hs.ok k k3, fun hx => ?_, by rw [if_neg Bool.false_ne_true]; omega, by omega, newI, fun _ => ⟨rfl, c.left⟩, fun s hs' => ⟨by omega, (c.of s hs').1.ok hk, fun d e => (by rw [c.left] at e; cases e)⟩⟩
    obtain ⟨x, hx, ex⟩ := List.mem_map.mp hx
    rcases two x (List.mem_of_mem_take hx) with rfl | cx
    · exact hs.one k k3 (by rw [← hnm, ← ex])
    · obtain ⟨k', k3', hnum', hnm'⟩ := cx.ex
      have := hs.inj k' k3' k k3 (by rw [← hnm', ex, hnm])
      exact hd x hx (by rw [hnum, hnum', this])
/-- the rows of one schema as drawn -/
structure Drawn (ks : List Str) (tb : List TRow) (cs : List En) : Prop where
  names : tb.map Prod.fst = ks
  row : ∃ nm, NmOk nm ∧ ∀ r ∈ tb, RowG ks nm 5 r.2
  cas : ∃ st, StOk st ∧ CasG ks st 3 cs
  len : ks.length ≤ 3
  nd : ks.Nodup
  nm : ∀ k ∈ ks, isNm k = true
theorem Drawn.casLen {ks : List Str} {tb : List TRow} {cs : List En} (h : Drawn ks tb cs) : cs.length ≤ 4 ∧ cs ≠ [] := by
  obtain ⟨st, _, g⟩ := h.cas
  obtain ⟨r, rest, rfl, _, _, _, _, l⟩ := g.ex
  exact ⟨by rw [List.length_cons]; omega, fun z => nomatch z⟩
theorem Drawn.t1 {ks : List Str} {tb : List TRow} {cs : List En} (h : Drawn ks tb cs) : TabOk true ks [("c" : Str)] tb := fun r hr => by
  obtain ⟨nm, hn, g⟩ := h.row
  refine ⟨h.nm _ (by rw [← h.names]; exact List.mem_map_of_mem hr), rowG_ok h.nm hn (g r hr), by have := (g r hr).len; omega, fun z => nomatch z⟩
theorem Drawn.t2 {ks : List Str} {tb : List TRow} {cs : List En} (h : Drawn ks tb cs) : TabOk false ks [("c" : Str)] [("c", cs)] := fun r hr => by
  rw [List.mem_singleton.mp hr]
  obtain ⟨st, hs, g⟩ := h.cas
  refine ⟨show isNm ("c" : Str) = true by decide +kernel, casG_ok h.nm hs g, by have := h.casLen.1; show cs.length ≤ 100; omega, fun _ => h.casLen.2⟩
theorem Drawn.sk {ks : List Str} {tb : List TRow} {cs : List En} {o : So} (h : Drawn ks tb cs) (ho : Ds ks o) : SkG ks tb [("c", cs)] o := by
  refine ⟨⟨by rw [h.names]; exact h.t1, by rw [h.names]; exact h.t2, by rw [h.names]; exact h.nd, List.nodup_cons.mpr ⟨fun z => (nomatch z), .nil⟩, by rw [h.names]; exact ho.ok h.nm⟩, h.names, rfl, fun r hr e he s hs => ?_, fun r hr e he s hs => ?_, ho, h.nm⟩
  · obtain ⟨nm, hn, g⟩ := h.row
    obtain ⟨s', hs', ds, _⟩ := ((g r hr).all e he).1.of
    rw [hs] at hs'
    rw [Option.some.inj hs']
    exact ds
  · rw [List.mem_singleton.mp hr] at he
    obtain ⟨st, _, g⟩ := h.cas
    obtain ⟨r, rest, rfl, _, _, _, all, l⟩ := g.ex
    rcases List.mem_cons.mp he with rfl | he
    · cases hs
    · exact ((all e he).1.of s hs).1
theorem Drawn.noCho {ks : List Str} {tb : List TRow} {cs : List En} (h : Drawn ks tb cs) : ∀ e ∈ cs, ∀ c, e.of ≠ some (.cho c) := fun e he c hc => by
  obtain ⟨st, _, g⟩ := h.cas
  obtain ⟨r, rest, rfl, _, _, _, all, l⟩ := g.ex
  rcases List.mem_cons.mp he with rfl | he
  · cases hc
  · exact ((all e he).1.of _ hc).2 rfl
theorem Drawn.sc {ks : List Str} {tb : List TRow} {cs : List En} {o : So} (h : Drawn ks tb cs) (ho : Ds ks o) : ScOk tb [("c", cs)] o := by
  refine ⟨by rw [h.names]; exact h.t1, by rw [h.names]; exact h.t2, by rw [h.names]; exact h.nd, List.nodup_cons.mpr ⟨fun z => (nomatch z), .nil⟩, ?_, by show 1 ≤ 1000; decide, by rw [h.names]; exact ho.ok h.nm, fun _ => 0, fun r hr e he c hc => ?_⟩
  · have := h.len
    rw [← h.names, List.length_map] at this
    omega
  · obtain ⟨q, hq, rfl⟩ := List.mem_map.mp hr
    rw [List.mem_singleton.mp hq] at he
    exact absurd hc (h.noCho e ((mem_sortEn e).mp (List.mem_of_getElem? he)) c)
/-- what is left out is flat -/
def LeftFlat (tb : List TRow) : Prop := ∀ r ∈ tb, ∀ e ∈ r.2, ∀ d, e.left = some d → PyData.depth d ≤ 1
theorem Drawn.flat {ks : List Str} {tb : List TRow} {cs : List En} (h : Drawn ks tb cs) : LeftFlat tb := fun r hr e he d hd => by
  obtain ⟨nm, hn, g⟩ := h.row
  obtain ⟨s, _, ds, hl⟩ := ((g r hr).all e he).1.of
  rcases hl with hl | hl
  · rw [hl] at hd
    cases hd
  · rw [hl] at hd
    cases s <;> cases hd <;> decide
def dis (ks : List Str) : List So := ks.map So.nod ++ (.cho "c" :: .tru :: .txt 3 :: .txt 1 :: .num none none :: (List.range 9).map fun i => .num (some ((i : Int) - 4)) (some 5))
def allS (ks : List Str) : List So := dis ks ++ ((dis ks).map So.may ++ ((ks.map fun k => .row 2 (.nod k)) ++ [.row 0 (.txt 1)]))
theorem mem_dis {ks : List Str} {s : So} : s ∈ dis ks ↔ Di ks s := by
  unfold dis
  rw [List.mem_append, List.mem_cons, List.mem_cons, List.mem_cons, List.mem_cons, List.mem_cons]
  constructor
  · rintro (h | rfl | rfl | rfl | rfl | rfl | h)
    · obtain ⟨k, hk, rfl⟩ := List.mem_map.mp h
      exact .nod hk
    · exact .cho
    · exact .tru
    · exact .txt
    · exact .txt1
    · exact .num0
    · obtain ⟨i, hi, rfl⟩ := List.mem_map.mp h
      have := List.mem_range.mp hi
      exact .num _ (by omega) (by omega)
  · intro h
    cases h with
    | nod h => exact .inl (List.mem_map.mpr ⟨_, h, rfl⟩)
    | cho => exact .inr (.inl rfl)
    | tru => exact .inr (.inr (.inl rfl))
    | txt => exact .inr (.inr (.inr (.inl rfl)))
    | txt1 => exact .inr (.inr (.inr (.inr (.inl rfl))))
    | num0 => exact .inr (.inr (.inr (.inr (.inr (.inl rfl)))))
    | num lo a b =>
      refine .inr (.inr (.inr (.inr (.inr (.inr (List.mem_map.mpr ⟨(lo + 4).toNat, List.mem_range.mpr (by omega), ?_⟩))))))
      rw [show (((lo + 4).toNat : Nat) : Int) - 4 = lo by omega]
theorem mem_allS {ks : List Str} {s : So} : s ∈ allS ks ↔ Ds ks s := by
  unfold allS
  rw [List.mem_append, List.mem_append, List.mem_append, List.mem_singleton]
  constructor
  · rintro (h | h | h | rfl)
    · exact .one (mem_dis.mp h)
    · obtain ⟨k, hk, rfl⟩ := List.mem_map.mp h
      exact .may (mem_dis.mp hk)
    · obtain ⟨k, hk, rfl⟩ := List.mem_map.mp h
      exact .rnod hk
    · exact .rtxt
  · intro h
    cases h with
    | one h => exact .inl (mem_dis.mpr h)
    | may h => exact .inr (.inl (List.mem_map.mpr ⟨_, mem_dis.mpr h, rfl⟩))
    | rnod h => exact .inr (.inr (.inl (List.mem_map.mpr ⟨_, h, rfl⟩)))
    | rtxt => exact .inr (.inr (.inr rfl))
def allP (ks : List Str) : List Pr := (allS ks).flatMap fun a => (allS ks).map fun b => (a, b)
theorem mem_allP {ks : List Str} {p : Pr} : p ∈ allP ks ↔ DsP ks p := by
  unfold allP
  rw [List.mem_flatMap]
  constructor
  · rintro ⟨a, ha, h⟩
    obtain ⟨b, hb, rfl⟩ := List.mem_map.mp h
    exact ⟨mem_allS.mp ha, mem_allS.mp hb⟩
  · rintro ⟨h1, h2⟩
    exact ⟨p.1, mem_allS.mpr h1, List.mem_map.mpr ⟨p.2, mem_allS.mpr h2, rfl⟩⟩
theorem allP_len {ks : List Str} (h : ks.length ≤ 3) : (allP ks).length ≤ 1444 := by
  have h1 : (allS ks).length ≤ 38 := by
    unfold allS dis
    simp only [List.length_append, List.length_map, List.length_cons, List.length_range, List.length_nil]
    omega
  unfold allP
  rw [List.length_flatMap]
  simp only [List.length_map]
  rw [List.map_const', List.sum_replicate_nat]
  have := Nat.mul_le_mul h1 h1
  omega
theorem into_len {ks : List Str} {tk1 tc1 tk2 tc2 : List TRow} {o1 o2 : So} (GA : SkG ks tk1 tc1 o1) (GB : SkG ks tk2 tc2 o2) (p : Pr) : (into (scmT tk1 tc1 o1) (scmT tk2 tc2 o2) p).length ≤ 100 := by
  have ch : ∀ {b : Bool} {n c : List Str} {tb : List TRow} {k : Str}, TabOk b n c tb → (chT (sortT tb) k).length ≤ 100 := fun {b n c tb k} h => by
    cases e : chT (sortT tb) k with
    | nil => exact Nat.zero_le _
    | cons x r =>
      obtain ⟨q, hq, _, e2⟩ := chT_row (tb := sortT tb) (c := k) (e := x) (by rw [e]; exact List.mem_cons_self)
      obtain ⟨q0, hq0, rfl⟩ := List.mem_map.mp hq
      rw [← e, e2]
      show (sortEn q0.2).length ≤ 100
      rw [sortEn_len]
      exact (h q0 hq0).2.2.1
  have lk : ∀ {es fs : List En}, es.length ≤ 100 → ((bothS es fs).filterMap innerOf).length ≤ 100 := fun h => Nat.le_trans (List.length_filterMap_le _ _) (Nat.le_trans (List.length_filterMap_le _ _) h)
  obtain ⟨o, n⟩ := p
  cases o with
  | may a => cases n <;> exact (show 1 ≤ 100 by decide)
  | row m s =>
    cases n with
    | may b => exact (show 1 ≤ 100 by decide)
    | row l u =>
      show (((if m > 0 ∧ l > 0 then [((.tuple [.int 0] : PyData), s, u)] else []).map (·.2)).length) ≤ 100
      split
      · exact (show 1 ≤ 100 by decide)
      · exact Nat.zero_le _
    | _ => exact Nat.zero_le _
  | nod k =>
    cases n with
    | may b => exact (show 1 ≤ 100 by decide)
    | nod l =>
      rw [show into (scmT tk1 tc1 o1) (scmT tk2 tc2 o2) (.nod k, .nod l) = _ from into_like PyData.str _ _]
      exact lk (ch GA.ok.k)
    | _ => exact Nat.zero_le _
  | cho k =>
    cases n with
    | may b => exact (show 1 ≤ 100 by decide)
    | cho l =>
      rw [show into (scmT tk1 tc1 o1) (scmT tk2 tc2 o2) (.cho k, .cho l) = _ from into_like caseS _ _]
      exact lk (ch GA.ok.c)
    | _ => exact Nat.zero_le _
  | _ =>
    cases n with
    | may b => exact (show 1 ≤ 100 by decide)
    | _ => exact Nat.zero_le _
mutual
theorem nk_depth : ∀ d : PyData, (nk d).depth ≤ PyData.depth d
  | .none => Nat.le_refl _
  | .bool _ => Nat.le_refl _
  | .int _ => Nat.le_refl _
  | .str _ => Nat.le_refl _
  | .tuple ds => Nat.succ_le_succ (nks_depth ds)
  | .list _ => Nat.zero_le _
  | .dict _ => Nat.zero_le _
theorem nks_depth : ∀ ds : List PyData, NestedKey.depthAll (nks ds) ≤ PyData.depthAll ds
  | [] => Nat.le_refl _
  | d :: r => by
    have h1 := nk_depth d
    have h2 := nks_depth r
    show max (nk d).depth (NestedKey.depthAll (nks r)) ≤ max (PyData.depth d) (PyData.depthAll r)
    omega
end
theorem ds_gp {ks : List Str} {tk1 tc1 tk2 tc2 : List TRow} {o1 o2 : So} (GA : SkG ks tk1 tc1 o1) (GB : SkG ks tk2 tc2 o2) {p : Pr} (h : DsP ks p) : Gp tk1 tc1 tk2 tc2 p := by
  refine ⟨?_, ?_, ?_⟩
  · rw [GA.nk, GA.nc]
    exact h.1.ok GA.nm
  · rw [GB.nk, GB.nc]
    exact h.2.ok GB.nm
  · have h1 := nk_depth (Tw.pairD p)
    have h2 := pair_depth h
    show (nk (Tw.pairD p)).depth ≤ 8
    omega
/-- what is told of the pairs that are met -/
structure MetR (ks : List Str) (tk1 tc1 tk2 tc2 : List TRow) (o1 o2 : So) (r : List Pr) : Prop where
  met : ∃ n, n ≤ 1000000 ∧ MetN (scmT tk1 tc1 o1) (scmT tk2 tc2 o2) (Gp tk1 tc1 tk2 tc2) n [(o1, o2)] [] r
  walk : WalkL (scmT tk1 tc1 o1) (scmT tk2 tc2 o2) [(o1, o2)] [] r
  nd : r.Nodup
  len : r.length ≤ 5000
  ds : ∀ p ∈ r, DsP ks p
  cl : ∀ p ∈ r, ∀ q ∈ into (scmT tk1 tc1 o1) (scmT tk2 tc2 o2) p, q ∈ r ∧ DsP ks q
theorem met_of {ks : List Str} {tk1 tc1 tk2 tc2 : List TRow} {o1 o2 : So} (GA : SkG ks tk1 tc1 o1) (GB : SkG ks tk2 tc2 o2) (k3 : ks.length ≤ 3) : ∃ r, MetR ks tk1 tc1 tk2 tc2 o1 o2 r := by
  have hU := allP_len k3
  obtain ⟨n, r, hn, hM⟩ := met_ends (A := scmT tk1 tc1 o1) (B := scmT tk2 tc2 o2) (G := Gp tk1 tc1 tk2 tc2) (U := allP ks) (b := 100) (fun p hp => ds_gp GA GB (mem_allP.mp hp)) (fun p hp q hq => mem_allP.mpr (into_ds GA GB p (mem_allP.mp hp) q hq)) (fun p hp => into_len GA GB p) 1000000 [(o1, o2)] [] (fun p hp => by rw [List.mem_singleton.mp hp]; exact mem_allP.mpr ⟨GA.o, GB.o⟩) (fun p hp => nomatch hp) .nil (by
    show ((allP ks).length - 0) * (100 + 1) + 1 ≤ 1000000
    omega)
  obtain ⟨m, n1, _, _, w, e⟩ := walk_of n (ps := [(o1, o2)]) (rest := []) hM
  obtain rfl : m = r := by cases e; rfl
  have nd := walk_nodup w .nil
  have ds : ∀ p ∈ m, DsP ks p := walk_good (G := DsP ks) (into_ds GA GB) w (fun p hp => by rw [List.mem_singleton.mp hp]; exact ⟨GA.o, GB.o⟩) (fun p hp => nomatch hp)
  refine ⟨m, ⟨n, hn, hM⟩, w, nd, ?_, ds, fun p hp q hq => ⟨pk_mem.mp (hM.closed (fun p hp => nomatch hp) p hp q hq), into_ds GA GB p (ds p hp) q hq⟩⟩
  have h1 := nodup_len (D := (allP ks).map pk) (nodup_pk nd) fun x hx => by
    obtain ⟨y, hy, rfl⟩ := List.mem_map.mp hx
    exact List.mem_map_of_mem (mem_allP.mpr (ds y hy))
  rw [List.length_map, List.length_map] at h1
  omega
theorem depth_all {n : Nat} : ∀ {ds : List PyData}, (∀ d ∈ ds, PyData.depth d ≤ n) → PyData.depthAll ds ≤ n
  | [], _ => Nat.zero_le _
  | d :: r, h => Nat.max_le.mpr ⟨h d List.mem_cons_self, depth_all fun x hx => h x (List.mem_cons_of_mem _ hx)⟩
theorem depth_tup {n : Nat} {ds : List PyData} (h : ∀ d ∈ ds, PyData.depth d ≤ n) : PyData.depth (.tuple ds) ≤ n + 1 := Nat.succ_le_succ (depth_all h)
theorem depth_2 {n : Nat} {a b : PyData} (ha : PyData.depth a ≤ n) (hb : PyData.depth b ≤ n) : PyData.depth (.tuple [a, b]) ≤ n + 1 := Nat.succ_le_succ (Nat.max_le.mpr ⟨ha, Nat.max_le.mpr ⟨hb, Nat.zero_le _⟩⟩)
theorem left_at {tb : List TRow} {k : Str} {e : En} {d : PyData} (h : LeftFlat tb) (he : e ∈ chT (sortT tb) k) (hd : e.left = some d) : PyData.depth d ≤ 1 := by
  obtain ⟨r, hr, _, e2⟩ := chT_row he
  rw [e2] at he
  obtain ⟨r0, hr0, rfl⟩ := List.mem_map.mp hr
  exact h r0 hr0 e ((mem_sortEn e).mp he) d hd
theorem left_tup {tb : List TRow} {k : Str} {e : En} (h : LeftFlat tb) (he : e ∈ chT (sortT tb) k) : PyData.depth (.tuple e.left.toList) ≤ 2 := by
  refine depth_tup fun d hd => ?_
  cases hl : e.left with
  | none => rw [hl] at hd; exact nomatch hd
  | some x =>
    rw [hl] at hd
    obtain rfl := List.mem_singleton.mp hd
    exact left_at h he hl
theorem d0 {n : Nat} (x : PyData) (h : PyData.depth x = 0) : PyData.depth x ≤ n := by omega
theorem step_depth {tk1 tc1 tk2 tc2 : List TRow} {o1 o2 : So} {r : List Pr} (F1 : LeftFlat tk1) (F2 : LeftFlat tk2) (o n : So) : PyData.depth (stepD (scmT tk1 tc1 o1) (scmT tk2 tc2 o2) r o n) ≤ 8 := by
  have bad : PyData.depth (.tuple [.str "bad"]) ≤ 8 := by decide
  have wi : ∀ (x : Str) (i : Int), PyData.depth (.tuple [.str x, .int i]) ≤ 8 := fun x i => Nat.le_trans (depth_2 (n := 0) (Nat.le_refl _) (Nat.le_refl _)) (by decide)
  cases o with
  | may a => cases n <;> exact wi _ _
  | num a b =>
    cases n with
    | num c d => exact Nat.le_trans (so_depth (.num c d)) (by show 0 + 1 ≤ 8; decide)
    | may b => exact wi _ _
    | _ => exact bad
  | tru =>
    cases n with
    | tru => exact (show 1 ≤ 8 by decide)
    | may b => exact wi _ _
    | _ => exact bad
  | txt a =>
    cases n with
    | txt c => exact Nat.le_trans (so_depth (.txt c)) (by show 0 + 1 ≤ 8; decide)
    | may b => exact wi _ _
    | _ => exact bad
  | row m s =>
    cases n with
    | row l u => exact Nat.le_trans (depth_tup (n := 0) fun d hd => by
        rcases List.mem_cons.mp hd with rfl | hd
        · exact Nat.le_refl _
        rcases List.mem_cons.mp hd with rfl | hd
        · exact Nat.le_refl _
        · rw [List.mem_singleton.mp hd]
          exact Nat.le_refl _) (by decide)
    | may b => exact wi _ _
    | _ => exact bad
  | cho k =>
    cases n with
    | cho l =>
      show PyData.depth (choiceD r (chT (sortT tc1) k) (chT (sortT tc2) l)) ≤ 8
      unfold choiceD
      refine Nat.le_trans (depth_tup (n := 4) fun d hd => ?_) (by decide)
      rcases List.mem_cons.mp hd with rfl | hd
      · exact Nat.zero_le _
      rcases List.mem_cons.mp hd with rfl | hd
      · refine Nat.le_trans (depth_tup (n := 1) fun x hx => ?_) (by decide)
        obtain ⟨e, he, hc⟩ := List.mem_filterMap.mp hx
        unfold caseStep at hc
        obtain ⟨f, hf, rfl⟩ := Option.map_eq_some_iff.mp hc
        refine depth_tup (n := 0) fun y hy => ?_
        rcases List.mem_cons.mp hy with rfl | hy
        · exact Nat.le_refl _
        rcases List.mem_cons.mp hy with rfl | hy
        · exact Nat.le_refl _
        · rw [List.mem_singleton.mp hy]
          cases e.of <;> cases f.of <;> exact Nat.le_refl _
      · rw [List.mem_singleton.mp hd]
        cases enNum (chT (sortT tc2) l) 0 <;> exact Nat.zero_le _
    | may b => exact wi _ _
    | _ => exact bad
  | nod k =>
    cases n with
    | nod l =>
      show PyData.depth (nodeD r (chT (sortT tk1) k) (chT (sortT tk2) l) l) ≤ 8
      unfold nodeD
      refine Nat.le_trans (depth_tup (n := 5) fun d hd => ?_) (by decide)
      rcases List.mem_cons.mp hd with rfl | hd
      · exact Nat.zero_le _
      rcases List.mem_cons.mp hd with rfl | hd
      · exact Nat.zero_le _
      rcases List.mem_cons.mp hd with rfl | hd
      · refine Nat.le_trans (depth_tup (n := 3) fun x hx => ?_) (by decide)
        obtain ⟨f, hf, hc⟩ := List.mem_filterMap.mp hx
        unfold likeStep at hc
        cases hn : enNum (chT (sortT tk1) k) f.num with
        | none => rw [hn] at hc; cases hc
        | some e =>
          rw [hn] at hc
          cases hb : f.of with
          | none => rw [hb] at hc; cases hc
          | some b =>
            rw [hb] at hc
            dsimp only at hc
            cases ha : e.of with
            | none => rw [ha] at hc; cases hc
            | some a =>
              rw [ha] at hc
              cases hc
              refine depth_tup (n := 2) fun y hy => ?_
              rcases List.mem_cons.mp hy with rfl | hy
              · exact Nat.zero_le _
              rcases List.mem_cons.mp hy with rfl | hy
              · exact Nat.zero_le _
              rcases List.mem_cons.mp hy with rfl | hy
              · exact Nat.zero_le _
              · rw [List.mem_singleton.mp hy]
                exact left_tup F1 (enNum_mem hn).1
      rcases List.mem_cons.mp hd with rfl | hd
      · refine Nat.le_trans (depth_tup (n := 2) fun x hx => ?_) (by decide)
        obtain ⟨f, hf, hc⟩ := List.mem_filterMap.mp hx
        unfold leftStep at hc
        cases hn : enNum (chT (sortT tk1) k) f.num with
        | some e => rw [hn] at hc; cases hc
        | none =>
          rw [hn] at hc
          obtain ⟨d, hd, rfl⟩ := Option.map_eq_some_iff.mp (show f.left.map _ = some x from hc)
          exact depth_2 (Nat.zero_le _) (left_at F2 hf hd)
      · rw [List.mem_singleton.mp hd]
        refine Nat.le_trans (depth_tup (n := 0) fun x hx => ?_) (by decide)
        obtain ⟨f, hf, hc⟩ := List.mem_filterMap.mp hx
        unfold lackStep at hc
        cases hn : enNum (chT (sortT tk1) k) f.num with
        | some e => rw [hn] at hc; cases hc
        | none =>
          rw [hn] at hc
          cases hl : f.left with
          | some d => rw [hl] at hc; cases hc
          | none =>
            rw [hl] at hc
            cases hc
            exact Nat.le_refl _
    | may b => exact wi _ _
    | _ => exact bad
theorem made_depth {tk1 tc1 tk2 tc2 : List TRow} {o1 o2 : So} {r : List Pr} (F1 : LeftFlat tk1) (F2 : LeftFlat tk2) : PyData.depth (.tuple (madeD (scmT tk1 tc1 o1) (scmT tk2 tc2 o2) r)) ≤ 9 := depth_tup fun d hd => by
  obtain ⟨p, hp, rfl⟩ := List.mem_map.mp hd
  exact step_depth F1 F2 p.1 p.2
end K34
/-! TwD2: is a dict empty (by ==); an instance made by keywords. -/
namespace Tw
open PySem PySem.Spec PyProof.Rows L2
def rEqE : R2 := fun x y H Q => ∃ (a b : Addr) (ks : List (Key × V)), x = .ref a ∧ y = .ref b ∧ H a = some (.dK ks) ∧ H b = some (.dK []) ∧ Q (.bl (decide (ks = []))) H
theorem op_eqE {X : Cx} (hu : X.A.units + 64 < cLine) : OpR X (compareOp .Eq) rEqE := by
  intro pins s σ H x y v u Q I rx ry ⟨a, b, ks, ex, ey, ha, hb, q⟩
  subst ex ey
  obtain rfl : v = Value.ref a := rx
  obtain rfl : u = Value.ref b := ry
  obtain ⟨_, na, va, ra, da⟩ := (show ObjOk X.prog X.w H s.heap a (.dK ks) from I.hok a _ ha)
  obtain ⟨_, nb, vb, rb, db⟩ := (show ObjOk X.prog X.w H s.heap b (.dK []) from I.hok b _ hb)
  obtain rfl : vb = [] := List.eq_nil_of_length_eq_zero rb.length.symm
  refine PySem.W.rcP_dicts (knd := mixKind X.prog X.w) (r := true) na nb da db (by omega) (fun h => ?_) _ _ ?_
  · obtain rfl : va = [] := List.eq_nil_of_length_eq_zero h
    exact .nil
  · refine ⟨.bl _, H, I, ?_, q⟩
    have e := ra.length
    cases ks with
    | nil =>
      obtain rfl : va = [] := List.eq_nil_of_length_eq_zero e.symm
      rfl
    | cons k r =>
      cases va with
      | nil => cases e
      | cons => rfl
structure MkK (P : Program) (w : World) (K : PySem.W.Frag) (mg : Str → Option Value) (base : Heap) (C : Addr) (k : Nat) (x : Str) (n : Nat) (ks : List Str) (gV : List V → List V → List V) (sp : Sp) : Prop where
  ex : ∃ (f : Addr) (fd : FuncData) (ps : List Str) (g : List Value → List Value → List Value), Mk K C f ∧ FnOk P w K mg base CX0 k f fd ps sp ∧ KBn K fd ps (n + 1) ks g gV
  gC : mg x = some (.ref C)
section
variable {X : Cx} {j k n : Nat} {C : Addr} {x : Str} {ks : List Str} {gV : List V → List V → List V} {sp : Sp} {e : Expr} {es : List Expr} {kws : List Keyword} {t tk : TA} {pos p : Pos}
theorem pe_mkK (M : MkK X.prog X.w X.K X.mg X.base C k x n ks gV sp) (hr : Room j X.A) (hk : k + 1 ≤ j) (hg : Gl X x) (ha : PA X (e :: es) t) (hkw : PK X kws tk)
    (hall : (backToKw pos (keywordEach kws X.env)).all (·.1.isSome) = true := by rfl) (hks : (backToKw pos (keywordEach kws X.env)).filterMap (·.1) = ks := by rfl) (hdb : (x == ("__debug__" : Str)) = false := by decide)
    (he : starEach (e :: es) X.env = (false, eval e X.env) :: starEach es X.env := by rfl) (hpl : ((backTo pos (starEach (e :: es) X.env)).any (·.1) || (backToKw pos (keywordEach kws X.env)).any (·.1.isNone)) = false := by rfl) :
    PE X (.Call (.Name x p) (e :: es) kws pos) (tMakeK C n ks.length sp gV E0 t tk) := by
  obtain ⟨f, fd, ps, g, hm, F, b⟩ := M.ex
  exact pe_makeK hm F (hr.mono hk) hg M.gC b pass0 ha hkw hall hks hdb he hpl
theorem pe_mkK0 (M : MkK X.prog X.w X.K X.mg X.base C k x 0 ks gV sp) (hr : Room j X.A) (hk : k + 1 ≤ j) (hg : Gl X x) (hkw : PK X kws tk)
    (hall : (backToKw pos (keywordEach kws X.env)).all (·.1.isSome) = true := by rfl) (hks : (backToKw pos (keywordEach kws X.env)).filterMap (·.1) = ks := by rfl) (hdb : (x == ("__debug__" : Str)) = false := by decide)
    (hpl : ((backTo pos (starEach [] X.env)).any (·.1) || (backToKw pos (keywordEach kws X.env)).any (·.1.isNone)) = false := by rfl) :
    PE X (.Call (.Name x p) [] kws pos) (tMakeK C 0 ks.length sp gV E0 tNil tk) := by
  obtain ⟨f, fd, ps, g, hm, F, b⟩ := M.ex
  exact pe_makeK0 hm F (hr.mono hk) hg M.gC b pass0 hkw hall hks hdb hpl
end
end Tw
set_option maxHeartbeats 4000000
namespace K34
open PySem PySem.Spec PyProof.Rows L2 Tw Sb LamX
def mkV3 : List V → List V → List V := fun vs zs => vs ++ zs
theorem SqL.keep_ {K : PySem.W.Frag} {H H' : Hp} {a : Addr} {xs : List V} (h : SqL K H a xs) (s : Same H H') : SqL K H' a xs := by
  rcases h with (h | ⟨o, h⟩) | h
  · exact .inl (.inl (s _ _ h))
  · exact .inl (.inr ⟨o, s _ _ h⟩)
  · exact .inr h
/-- all but the tables and the well a stay -/
def FvN (a : Addr) (H H' : Hp) : Prop := (∀ b o, b ≠ a → H b = some o → (∀ ps, o ≠ .tbl ps) → H' b = some o) ∧ IsW2 H' a
theorem FvN.of {a : Addr} {H H' : Hp} (f : Fv a H H') : FvN a H H' := ⟨fun b o n e _ => f.1 b o n e, f.2⟩
theorem FvN.trans {a : Addr} {H H1 H2 : Hp} (f : FvN a H H1) (g : FvN a H1 H2) : FvN a H H2 := ⟨fun b o n e t => g.1 b o n (f.1 b o n e t) t, g.2⟩
theorem FvN.extN {a : Addr} {H H1 : Hp} (w : IsW2 H a) (s : ExtN H H1) : FvN a H H1 := ⟨fun b o n e t => s b o e t, by
  obtain ⟨x, y, e⟩ := w
  exact ⟨x, y, s _ _ e fun _ z => nomatch z⟩⟩
theorem FvN.keepT {K : PySem.W.Frag} {a : Addr} {H H' : Hp} (f : FvN a H H') (w : IsW2 H a) : KeepT K H H' := by
  obtain ⟨x, y, hw⟩ := w
  have nb : ∀ {b : Addr} {o : HO}, H b = some o → (∀ xs, o ≠ .lst xs) → b ≠ a := fun e n q => by
    rw [q, hw] at e
    exact n _ (Option.some.inj e).symm
  exact KeepT.but fun b o e => ⟨fun xs q => f.1 b o (nb e (by rw [q]; exact fun _ z => nomatch z)) e (by rw [q]; exact fun _ z => nomatch z), fun _ xs q => f.1 b o (nb e (by rw [q]; exact fun _ z => nomatch z)) e (by rw [q]; exact fun _ z => nomatch z)⟩
theorem FvN.sc {K : PySem.W.Frag} {CS a b : Addr} {H H' : Hp} {tk tc : List TRow} {o : So} (f : FvN a H H') (w : IsW2 H a) (s : ScK K CS H b tk tc o) : ScK K CS H' b tk tc o := by
  have wa : ∀ {b : Addr} {u : HO}, H b = some u → (∀ xs, u ≠ .lst xs) → b ≠ a := fun e n q => by
    obtain ⟨x, y, hw⟩ := w
    rw [q, hw] at e
    exact n _ (Option.some.inj e).symm
  exact s.keep (fun b u e => ⟨fun C dx fs q => f.1 _ _ (wa e (by rw [q]; exact fun _ z => nomatch z)) e (by rw [q]; exact fun _ z => nomatch z), fun kv q => f.1 _ _ (wa e (by rw [q]; exact fun _ z => nomatch z)) e (by rw [q]; exact fun _ z => nomatch z)⟩) (f.keepT w)
theorem tabs_fv {TS : List (Addr × Str)} {H H' : Hp} {a : Addr} (t : Tabs TS H) (w : IsW2 H a) (f : Fv a H H') : Tabs TS H' := fun p hp => by
  obtain ⟨x, y, hw⟩ := w
  obtain ⟨ps, h1, h2, h3⟩ := t p hp
  refine ⟨ps, f.1 _ _ (fun e => by rw [e, hw] at h1; cases h1) h1, h2, fun pos cv hc => ?_⟩
  obtain ⟨c, e1, e2⟩ := h3 pos cv hc
  have nc : c ≠ a := fun e => by
    rw [e, hw] at e2
    exact NoTab.lst.2 _ _ (Option.some.inj e2)
  exact ⟨c, e1, f.1 _ _ nc e2⟩
/-- the rows and the cases of a schema to be made -/
structure RwA (K : PySem.W.Frag) (a D C : Addr) (tb : List TRow) (cs : List En) (H : Hp) : Prop where
  ex : ∃ kv xs, H D = some (.dK kv) ∧ Paired (RowO K (fun b => b ≠ a) H) kv tb ∧ H C = some (.lst xs) ∧ Tds K H xs (cs.map En.pd)
  nD : D ≠ a
  nC : C ≠ a
theorem RwA.fvN {K : PySem.W.Frag} {a D C : Addr} {tb : List TRow} {cs : List En} {H H' : Hp} (h : RwA K a D C tb cs H) (w : IsW2 H a) (f : FvN a H H') : RwA K a D C tb cs H' := by
  obtain ⟨kv, xs, h1, h2, h3, h4⟩ := h.ex
  have kt := f.keepT (K := K) w
  exact ⟨⟨kv, xs, f.1 _ _ h.nD h1 (fun _ z => nomatch z), pd_mono (fun _ _ g => RowO.keep (fun b xs n hb => ⟨n, f.1 b _ n hb (fun _ z => nomatch z)⟩) kt g) h2, f.1 _ _ h.nC h3 (fun _ z => nomatch z), h4.keep kt⟩, h.nD, h.nC⟩
theorem mk_stepG {K : PySem.W.Frag} {CS : Addr} {TS : List (Addr × Str)} {H : Hp} {v : V} {o : So} {a D CD C : Addr} {tb : List TRow} {cs : List En} {R : VK} {E : XK} {x dx : Addr} (hv : Td K H v o.pd) (hs : ScOk tb [("c", cs)] o) (hT : Tabs TS H) (hR : RwA K a D C tb cs H) (hCD : H CD = some (.dK [(.inr "c", .ref C)])) (hx : H x = none) (hdx : H dx = none) (nd : dx ≠ x)
    (q : ∀ H', ExtN H H' → Tabs TS H' → ScK K CS H' x tb [("c", cs)] o → R .non H') : spSInit K CS TS (mkV3 [.ref x, .ref D] [.ref CD, v]) (upd (upd H dx (.own x)) x (.ins CS dx [])) R E := by
  obtain ⟨kv, xs, h1, h2, h3, h4⟩ := hR.ex
  have s2 : Same H (upd H dx (.own x)) := same_upd hdx
  have hx2 : (upd H dx (.own x)) x = none := by rw [upd_ne nd.symm]; exact hx
  have s3 := s2.trans (same_upd (o := .ins CS dx []) hx2)
  have k3 := KeepT.same (K := K) s3
  refine ⟨x, dx, D, .ref CD, v, kv, tb, [("c", cs)], o, rfl, upd_same, s3 _ _ h1, ?_, .inr ⟨CD, _, rfl, s3 _ _ hCD, .cons ⟨rfl, C, xs, rfl, .inl (SqL.of (s3 _ _ h3)), h4.keep k3⟩ .nil⟩, hv.keep k3, hs, hT.ext s3, fun H' b t S => ?_⟩
  · refine pd_mono (fun _ _ g => ?_) h2
    obtain ⟨e, b, xs, e2, _, hb, hx⟩ := g
    exact ⟨e, b, xs, e2, .inl (SqL.of (s3 _ _ hb)), hx.keep k3⟩
  obtain ⟨dx', k1, k2, kv1, kv2, rv, _, _, g1, g2, g3, g4, g5, g6⟩ := S
  refine q H' (fun c u e n => b _ _ (fun z => ?_) (s3 _ _ e) n) t ⟨dx', k1, k2, rv, kv1, kv2, g1, g2, g3, g4, g5, g6⟩
  rw [z, hx] at e
  cases e
theorem disp_c {H : Hp} {D C : Addr} (h : H D = none) : Same H (upd (upd H D (.dK [])) D (.dK (mergeK [] [((.inr "c" : Key), V.ref C)]))) ∧ (upd (upd H D (.dK [])) D (.dK (mergeK [] [((.inr "c" : Key), V.ref C)]))) D = some (.dK [(.inr "c", .ref C)]) := ⟨same_new (same_upd h) h, upd_same⟩
/-- the kinds' names -/
structure KsOk (ks : List Str) : Prop where
  len : ks.length ≤ 3
  pos : 0 < ks.length
  nd : ks.Nodup
  nm : ∀ k ∈ ks, isNm k = true
  k : ("k" : Str) ∈ ks
theorem ks_of {r : Int} (h0 : 0 ≤ r) (h1 : r < 3) : ∃ ks : List Str, KsOk ks ∧ cutV [V.str "k", .str "kk", .str "kkk"] none (some (1 + r)) = ks.map V.str := by
  obtain rfl | rfl | rfl : r = 0 ∨ r = 1 ∨ r = 2 := by omega
  · exact ⟨["k"], ⟨by decide, by decide, by decide +kernel, by decide +kernel, by decide +kernel⟩, cut_take _ 1 (by decide)⟩
  · exact ⟨["k", "kk"], ⟨by decide, by decide, by decide +kernel, by decide +kernel, by decide +kernel⟩, cut_take _ 2 (by decide)⟩
  · exact ⟨["k", "kk", "kkk"], ⟨by decide, by decide, by decide +kernel, by decide +kernel, by decide +kernel⟩, cut_take _ 3 (by decide)⟩
def spSchG (K : PySem.W.Frag) (CS : Addr) (TS : List (Addr × Str)) : Sp := fun vs H Q _ => ∃ (a lk : Addr) (ks : List Str) (st : Str), vs = [.ref a, .ref lk, .str st] ∧ IsW2 H a ∧ lk ≠ a ∧ SqL K H lk (ks.map V.str) ∧ (∀ H', FvN a H H' → SqL K H' lk (ks.map V.str)) ∧ KsOk ks ∧ st.length = 1 ∧ NmOk (nmL st) ∧ StOk st ∧ Tabs TS H ∧
  ∀ (x : Addr) (tb : List TRow) (cs : List En) (k : Str) (H' : Hp), ScK K CS H' x tb [("c", cs)] (.nod k) → Drawn ks tb cs → k ∈ ks → FvN a H H' → Tabs TS H' → Q (.ref x) H'
section
variable {P : Program} {w : World} {K : PySem.W.Frag} {mg : Str → Option Value} {base : Heap}
theorem ok_schema {CS f : Addr} {fd : FuncData} {TS : List (Addr × Str)} (F : Fun K "_law_schema" "_law_schema" s__law_schema f fd) (T : Bu mg) (c__law_draw : Cal P w K mg base 1 "_law_draw" ["_law_well", "_law_many"] spDraw2) (c__law_sort : Cal P w K mg base 2 "_law_sort" ["_law_well", "_law_kinds"] (spSortG K)) (c__law_left : Cal P w K mg base 1 "_law_left" ["_law_sort_here"] (spLeftG K))
    (m_3 : MkK P w K mg base CS 7 "Schema" 1 ["choices", "root"] mkV3 (spSInit K CS TS)) : FnOk P w K mg base CX0 9 f fd ["_law_well", "_law_kinds", "_law_stem"] (spSchG K CS TS) := by
  refine F.ok sc__law_schema (fun vs H Q E h => ?_) (fun cdv A outer s H vs Q E hr h => ?_)
  · obtain ⟨a, lk, ks, st, rfl, _⟩ := h
    rfl
  · obtain ⟨a, lk, ks, st, rfl, hw, nk, hk, hkkN, ko, hst, nmo, sto, hT, q⟩ := h
    have k0 := ko.pos
    have k3 := ko.len
    have knd := ko.nd
    have hkk : ∀ H', Fv a H H' → SqL K H' lk (ks.map V.str) := fun H' f => hkkN H' (FvN.of f)
    have hu := hu_of hr
    refine ⟨_, (pss_cons (ps_set (i := 3) sc__law_schema.nd rfl (.inl rfl) pe_dnewK)
      (pss_cons (ps_for PassesOwn.never rfl (pi_list (pv 1)) (pg_name (i := 4) sc__law_schema.nd rfl (.inl rfl))
        (pss_cons (ps_dput hu (pv 3) (pv 4) (pe_lst pa_nil) rfl)
        (pss_one (ps_for PassesOwn.never rfl (pi_range1 rfl T.n_range (pa_cons (pe_op op_add pe_int (pe_cal c__law_draw hr (by decide) (by rfl) (pa_cons (pv 0) (pa_cons pe_int pa_nil)))) pa_nil)) (pg_name (i := 5) sc__law_schema.nd rfl (.inl rfl))
          (pss_one (ps_if (pt_cmpR op_gt (pe_cal c__law_draw hr (by decide) (by rfl) (pa_cons (pv 0) (pa_cons pe_int pa_nil))) pe_int (nomark _))
            (pss_cons (ps_set (i := 6) sc__law_schema.nd rfl (.inl rfl) (pe_cal c__law_sort hr (by decide) (by rfl) (pa_cons (pv 0) (pa_cons (pv 1) pa_nil))))
            (pss_cons (ps_set (i := 7) sc__law_schema.nd rfl (.inl rfl) (pe_ifExp (pt_cmpR op_eq (pe_cal c__law_draw hr (by decide) (by rfl) (pa_cons (pv 0) (pa_cons pe_int pa_nil))) pe_int (nomark _)) (pe_cal c__law_left hr (by decide) (by rfl) (pa_cons (pv 6) pa_nil)) (pe_tup pa_nil)))
            (pss_one (ps_expr (pe_bm PySem.F.plainAttrs_list PySem.F.slot_list_append PySem.F.type_list_append mt_append (pe_dget hu (pv 3) (pv 4) (fun _ _ => rfl)) (pa_cons (pe_op op_catT (pe_tup (pa_cons (pe_op op_add (pv 5) pe_int) (pa_cons (pe_op op_add_str (pv 2) (pe_ix ix_str pe_str (pv 5) (fun _ _ => rfl))) (pa_cons (pv 6) pa_nil)))) (pv 7)) pa_nil))))))
            pss_nil))))))
      (pss_cons (ps_set (i := 8) sc__law_schema.nd rfl (.inl rfl) (pe_lst (pa_cons (pe_tup (pa_cons (pe_cal c__law_draw hr (by decide) (by rfl) (pa_cons (pv 0) (pa_cons pe_int pa_nil))) (pa_cons pe_str (pa_cons pe_non pa_nil)))) pa_nil)))
      (pss_cons (ps_for PassesOwn.never rfl (pi_range1 rfl T.n_range (pa_cons (pe_cal c__law_draw hr (by decide) (by rfl) (pa_cons (pv 0) (pa_cons pe_int pa_nil))) pa_nil)) (pg_name (i := 5) sc__law_schema.nd rfl (.inl rfl))
        (pss_cons (ps_set (i := 6) sc__law_schema.nd rfl (.inl rfl) (pe_cal c__law_sort hr (by decide) (by rfl) (pa_cons (pv 0) (pa_cons (pv 1) pa_nil))))
        (pss_one (ps_if (pt_cmpR op_gt (pe_cal c__law_draw hr (by decide) (by rfl) (pa_cons (pv 0) (pa_cons pe_int pa_nil))) pe_int (nomark _))
          (pss_cons (ps_set (i := 9) sc__law_schema.nd rfl (.inl rfl) (pe_or (pe_cmpR op_eq (pe_ix (r := rIxT K) ix_tup (pv 6) pe_int (fun _ _ => rfl)) pe_str (nomark _)) (pe_one (pe_cmpR op_eq (pe_cal c__law_draw hr (by decide) (by rfl) (pa_cons (pv 0) (pa_cons pe_int pa_nil))) pe_int (nomark _)))))
          (pss_one (ps_expr (pe_bm PySem.F.plainAttrs_list PySem.F.slot_list_append PySem.F.type_list_append mt_append (pv 8) (pa_cons (pe_tup (pa_cons (pe_op op_add pe_int (pv 5)) (pa_cons (pe_op op_add_str (pv 2) (pe_ix (r := rIxL K) ix_list (pe_lst (pa_cons pe_str (pa_cons pe_str (pa_cons pe_str pa_nil)))) (pv 5) (fun _ _ => rfl))) (pa_cons (pe_ifExp (pt_val (pv 9)) pe_non (pv 6)) pa_nil)))) pa_nil)))))
          pss_nil))))
      (pss_one (ps_ret (pe_mkK m_3 hr (by decide) (by rfl) (pa_cons (pv 3) pa_nil) (pk_cons (pe_disp (pps_cons pe_str (pv 8) pps_nil) rfl rfl (by simp) (by decide)) (pk_cons (pe_tup (pa_cons pe_str (pa_cons (pe_ix (r := rIxL K) ix_list (pv 1) pe_int (fun _ _ => rfl)) pa_nil))) pk_nil))))))))), ?_⟩
    refine fun D hD => ?_
    have nD := hw.ne hD
    have f0 := Fv.of_same hw (same_upd (o := .dK []) hD)
    refine ⟨_, rfl, lk, rfl, ⟨_, hkk _ f0⟩, ?_⟩
    refine for_it (walk_list (K := K) (a := lk) (xs := ks.map V.str)) (fun i σ H' => ∃ (y4 y5 y6 y7 y8 y9 : Option V) (kvs : List (Key × V)) (tb : List TRow), σ = [some (.ref a), some (.ref lk), some (.str st), some (.ref D), y4, y5, y6, y7, y8, y9] ∧ Fv a H H' ∧ H' D = some (.dK kvs) ∧ Paired (RowO K (fun b => H b = none) H') kvs tb ∧ tb.map Prod.fst = ks.take i ∧ (∀ r ∈ tb, RowG ks (nmL st) 5 r.2)) ⟨_, _, _, _, _, _, [], [], rfl, f0, upd_same, .nil, rfl, fun r h => nomatch h⟩ ?_ ?_ ?_
    · rintro i σ H' _ ⟨_, _, _, _, _, _, kvs, tb, _, f, _⟩
      exact hkk _ f
    · rintro i x σ Hx H1 hi ⟨y4, y5, y6, y7, y8, y9, kvs, tb, rfl, f1, hD1, hr1, hn1, hg1⟩ ⟨rfl, e2⟩
      have e2 : (ks.map V.str)[i]? = some x := e2
      rw [List.length_map] at hi
      obtain ⟨kd, hkd, rfl⟩ : ∃ kd, ks[i]? = some kd ∧ x = .str kd := by
        rw [List.getElem?_map] at e2
        obtain ⟨kd, h1, h2⟩ := Option.map_eq_some_iff.mp e2
        exact ⟨kd, h1, h2.symm⟩
      have hnew : kd ∉ tb.map Prod.fst := by
        rw [hn1]
        intro hm
        obtain ⟨j, hj, e⟩ := List.mem_take_iff_getElem.mp hm
        obtain ⟨hi', e'⟩ := List.getElem?_eq_some_iff.mp hkd
        have := (List.getElem_inj (i := j) (j := i) (h₀ := by omega) (h₁ := hi') knd).mp (by rw [e, e'])
        omega
      have hkn : (.inr kd : Key) ∉ kvs.map Prod.fst := fun hm => by
        rw [keys_of hr1] at hm
        obtain ⟨z, hz, e⟩ := List.mem_map.mp hm
        cases e
        exact hnew hz
      have hkl : kvs.length < sizeLine := by
        have h1 := hr1.length
        have h2 : tb.length = (ks.take i).length := by rw [← hn1, List.length_map]
        rw [List.length_take] at h2
        rw [sizeLine_eq]
        omega
      refine ⟨by show 0 ≤ sizeLine; decide, fun L hL => ?_⟩
      have sL := same_upd (o := .lst []) hL
      have hL0 : H L = none := f1.free hL
      have f2 := f1.same sL
      have hD2 := sL _ _ hD1
      have hr2 := pd_mono (fun _ _ g => RowO.keep (fun b xs n hb => ⟨n, sL _ _ hb⟩) (KeepT.same sL) g) hr1
      have nLD : L ≠ D := fun e => by rw [e, hD1] at hL; cases hL
      have hLv : (upd H1 L (.lst [])) L = some (.lst []) := upd_same
      have hnL : ∀ b xs, H b = none → H1 b = some (.lst xs) → b ≠ L := fun b xs _ hb e => by rw [e, hL] at hb; cases hb
      have hr2 : Paired (RowO K (fun b => H b = none ∧ b ≠ L) (upd H1 L (.lst []))) kvs tb := pd_mono (fun _ _ g => RowO.keep (fun b xs n hb => ⟨⟨n, hnL b xs n hb⟩, sL _ _ hb⟩) (KeepT.same sL) g) hr1
      generalize upd H1 L (.lst []) = H2 at sL f2 hD2 hr2 hLv ⊢
      refine ⟨_, rfl, _, rfl, D, _, rfl, .inl ⟨kvs, .inr kd, hD2, rfl, hkl, rfl⟩, ?_⟩
      rw [putK_new hkn]
      have R3 : RwI K H D L kvs tb kd [] [] (upd H2 D (.dK (kvs ++ [(.inr kd, .ref L)]))) := ⟨upd_same, pd_mono (fun _ _ g => RowO.keep (fun b xs n hb => ⟨n, by rw [upd_ne (ne_of hb hD2 (fun z => nomatch z))]; exact hb⟩) (keepT_dK hD2) g) hr2, by rw [upd_ne nLD]; exact hLv, .nil⟩
      have f3 : Fv a H (upd H2 D (.dK (kvs ++ [(.inr kd, .ref L)]))) := fv_put f2 nD hD
      generalize upd H2 D (.dK (kvs ++ [(.inr kd, .ref L)])) = H3 at R3 f3 ⊢
      refine ⟨_, rfl, a, 5, rfl, f3.2, by decide, by decide, fun n H4 n0 n1 f34 => ⟨1, n, rfl, rfl, _, rfl, by omega, by omega, ?_⟩⟩
      have R4 := R3.fv hw f3.2 hD hL0 f34
      have f4 := f3.trans f34
      have nL : L ≠ a := hw.ne hL0
      refine for_it walk_range (fun j σ H' => ∃ (y5 y6 y7 : Option V) (xs : List V) (es : List En), σ = [some (.ref a), some (.ref lk), some (.str st), some (.ref D), some (.str kd), y5, y6, y7, y8, y9] ∧ Fv a H H' ∧ RwI K H D L kvs tb kd xs es H' ∧ RowG ks (nmL st) j es) ⟨_, _, _, [], [], rfl, f4, R4, ⟨List.nodup_nil, fun e h => (nomatch h), Nat.le_refl _⟩⟩ (fun _ _ _ _ _ => trivial) ?_ ?_
      · rintro j x σ Hx H5 hj ⟨y5, y6, y7, xs, es, rfl, f5, R5, g5⟩ ⟨rfl, rfl⟩
        have hj5 : j < 5 := by omega
        refine ⟨_, rfl, a, 5, rfl, f5.2, by decide, by decide, fun u H6 u0 u1 f56 => ⟨u, 0, rfl, rfl, _, rfl, ?_⟩⟩
        have R6 := R5.fv hw f5.2 hD hL0 f56
        have f6 := f5.trans f56
        refine ite2 (fun g => ?_) (fun g => ?_)
        · refine ⟨_, rfl, _, rfl, a, lk, ks, rfl, f6.2, nk, hkk _ f6, fun H' f' => hkk _ (f6.trans f'), k0, k3, fun v so H7 hv hso f67 => ?_⟩
          have R7 := R6.fv hw f6.2 hD hL0 f67
          have f7 := f6.trans f67
          refine ⟨_, rfl, a, 2, rfl, f7.2, by decide, by decide, fun z H8 z0 z1 f78 => ⟨rfl, _, rfl, ?_⟩⟩
          have R8 := R7.fv hw f7.2 hD hL0 f78
          have f8 := f7.trans f78
          have hv8 := hv.keep (f78.keepT f7.2)
          refine ite2 (fun g0 => ?_) (fun g0 => ?_)
          · refine ⟨_, rfl, v, so, rfl, hv8, fun H9 u s9 hu9 => ?_⟩
            have f89 := Fv.of_same f8.2 s9
            have R9 := R8.fv hw f8.2 hD hL0 f89
            have f9 := f8.trans f89
            have hv9 := hv8.keep (KeepT.same s9)
            obtain ⟨ld, hld, hu9, hdl⟩ : ∃ ld : Option PyData, (ld = none ∨ ld = leftG so) ∧ Td K H9 u (.tuple ld.toList) ∧ True := ⟨_, .inr rfl, hu9, trivial⟩
            clear hu s9 f89
            refine ⟨_, rfl, _, rfl, D, .ref L, rfl, .inl ⟨_, .inr kd, .inl R9.d, rfl, (R9.val hnew).symm⟩, .inl ⟨rfl, _, SqL.of R9.l⟩, ?_⟩
            have xl := R9.x.len
            rw [List.length_map] at xl
            have el := g5.len
            have RA := R9
            have f10 := f9
            have hvA := hv9
            have huA := hu9
            refine ⟨_, rfl, _, 1, rfl, rfl, _, rfl, _, rfl, _, _, _, rfl, rfl, by decide +kernel, letter_at hj5, _, _, rfl, rfl, by show st.length + 1 ≤ sizeLine; rw [sizeLine_eq]; omega, _, rfl, by show 3 ≤ sizeLine; decide, fun t3 ht3 => ?_⟩
            have s11 := same_upd (o := .tup [V.int (0 + (j : Int) + 1), .str (nmL st j), v]) ht3
            obtain ⟨pu, zu, rfl, hpu, hzu⟩ := Td.row huA
            have hpu2 := KeepT.same (K := K) s11 _ _ hpu
            have hzu2 := hzu.keep (KeepT.same s11)
            have hvB := hvA.keep (KeepT.same s11)
            have fB := Fv.of_same f10.2 s11
            have RB := RA.fv hw f10.2 hD hL0 fB
            have f11 := f10.trans fB
            have h3v : SqT K (upd H9 t3 (.tup [V.int (0 + (j : Int) + 1), .str (nmL st j), v])) t3 [V.int (0 + (j : Int) + 1), .str (nmL st j), v] := SqT.of upd_same
            have hnA : ∀ z, H9 z = none → H z = none := fun z e => f10.free e
            refine ⟨_, rfl, ?_⟩
            show rCatT K (.ref t3) (.ref pu) (upd H9 t3 (.tup [V.int (0 + (j : Int) + 1), .str (nmL st j), v])) _
            generalize (upd H9 t3 (.tup [V.int (0 + (j : Int) + 1), .str (nmL st j), v])) = H11 at hpu2 hzu2 hvB fB RB f11 h3v ⊢
            have lu : zu.length ≤ 1 := by
              rw [hzu2.len]
              cases ld <;> simp
            have fin : ∀ (t4 : Addr) (H12 : Hp), Same H11 H12 → SqT K H12 t4 ([V.int (0 + (j : Int) + 1), .str (nmL st j), v] ++ zu) → Td K H12 (.ref t4) (En.pd ⟨(j : Int) + 1, nmL st j, some so, ld⟩) := fun t4 H12 s12 h4 => by
              refine .tup h4 ?_
              show Tds K H12 _ ([.int ((j : Int) + 1), .str (nmL st j), so.pd] ++ ld.toList)
              refine Tds.append (.cons ?_ (.cons (.str _) (.cons (hvB.keep (KeepT.same s12)) .nil))) (hzu2.keep (KeepT.same s12))
              rw [show (0 : Int) + (j : Int) + 1 = (j : Int) + 1 by omega]
              exact .int _
            have new : ∀ (t4 : Addr) (H12 : Hp), Fv a H H12 → RwI K H D L kvs tb kd xs es H12 → Td K H12 (.ref t4) (En.pd ⟨(j : Int) + 1, nmL st j, some so, ld⟩) → Fv a H (upd H12 L (.lst (xs ++ [.ref t4]))) ∧ RwI K H D L kvs tb kd (xs ++ [.ref t4]) (es ++ [(⟨(j : Int) + 1, nmL st j, some so, ld⟩ : En)]) (upd H12 L (.lst (xs ++ [.ref t4]))) ∧ RowG ks (nmL st) (j + 1) (es ++ [(⟨(j : Int) + 1, nmL st j, some so, ld⟩ : En)]) := fun t4 H12 f12 R12 h12 =>
              ⟨fv_put f12 nL hL0, R12.put (by rw [List.map_append]; exact Tds.append R12.x (.cons h12 .nil)), g5.add ⟨⟨j, hj5, rfl, rfl⟩, ⟨so, rfl, hso, hld⟩⟩ rfl⟩
            refine ⟨t3, pu, _, zu, rfl, rfl, h3v, hpu2, by simp, by show 3 + zu.length ≤ sizeLine; rw [sizeLine_eq]; omega, fun z => ?_, fun z t4 ht4 => ?_⟩
            · subst z
              obtain ⟨n1, n2, n3⟩ := new t3 H11 f11 RB (fin t3 H11 (Same.refl _) (by rw [List.append_nil]; exact h3v))
              refine ⟨L, xs, _, rfl, rfl, RB.l, by rw [sizeLine_eq]; omega, ?_⟩
              exact ⟨_, _, _, _, _, rfl, n1, n2, n3⟩
            · have s12 := same_upd (o := .tup ([V.int (0 + (j : Int) + 1), .str (nmL st j), v] ++ zu)) ht4
              have fC := Fv.of_same f11.2 s12
              have RC := RB.fv hw f11.2 hD hL0 fC
              obtain ⟨n1, n2, n3⟩ := new t4 _ (f11.trans fC) RC (fin t4 _ s12 (SqT.of upd_same))
              refine ⟨L, xs, _, rfl, rfl, RC.l, by rw [sizeLine_eq]; omega, ?_⟩
              exact ⟨_, _, _, _, _, rfl, n1, n2, n3⟩
          · refine ⟨by show 0 ≤ sizeLine; decide, fun t ht => ?_⟩
            have s9 := same_upd (o := .tup []) ht
            have f89 := Fv.of_same f8.2 s9
            have R9 := R8.fv hw f8.2 hD hL0 f89
            have f9 := f8.trans f89
            have hv9 := hv8.keep (KeepT.same s9)
            obtain ⟨ld, hld, hu9, hdl⟩ : ∃ ld : Option PyData, (ld = none ∨ ld = leftG so) ∧ Td K (upd H8 t (.tup [])) (.ref t) (.tuple ld.toList) ∧ True := ⟨none, .inl rfl, .tup (SqT.of upd_same) .nil, trivial⟩
            generalize (upd H8 t (.tup [])) = H9 at f89 R9 f9 hv9 hu9 ⊢
            generalize V.ref t = u at hu9 ⊢
            refine ⟨_, rfl, _, rfl, D, .ref L, rfl, .inl ⟨_, .inr kd, .inl R9.d, rfl, (R9.val hnew).symm⟩, .inl ⟨rfl, _, SqL.of R9.l⟩, ?_⟩
            have xl := R9.x.len
            rw [List.length_map] at xl
            have el := g5.len
            have RA := R9
            have f10 := f9
            have hvA := hv9
            have huA := hu9
            refine ⟨_, rfl, _, 1, rfl, rfl, _, rfl, _, rfl, _, _, _, rfl, rfl, by decide +kernel, letter_at hj5, _, _, rfl, rfl, by show st.length + 1 ≤ sizeLine; rw [sizeLine_eq]; omega, _, rfl, by show 3 ≤ sizeLine; decide, fun t3 ht3 => ?_⟩
            have s11 := same_upd (o := .tup [V.int (0 + (j : Int) + 1), .str (nmL st j), v]) ht3
            obtain ⟨pu, zu, rfl, hpu, hzu⟩ := Td.row huA
            have hpu2 := KeepT.same (K := K) s11 _ _ hpu
            have hzu2 := hzu.keep (KeepT.same s11)
            have hvB := hvA.keep (KeepT.same s11)
            have fB := Fv.of_same f10.2 s11
            have RB := RA.fv hw f10.2 hD hL0 fB
            have f11 := f10.trans fB
            have h3v : SqT K (upd H9 t3 (.tup [V.int (0 + (j : Int) + 1), .str (nmL st j), v])) t3 [V.int (0 + (j : Int) + 1), .str (nmL st j), v] := SqT.of upd_same
            have hnA : ∀ z, H9 z = none → H z = none := fun z e => f10.free e
            refine ⟨_, rfl, ?_⟩
            show rCatT K (.ref t3) (.ref pu) (upd H9 t3 (.tup [V.int (0 + (j : Int) + 1), .str (nmL st j), v])) _
            generalize (upd H9 t3 (.tup [V.int (0 + (j : Int) + 1), .str (nmL st j), v])) = H11 at hpu2 hzu2 hvB fB RB f11 h3v ⊢
            have lu : zu.length ≤ 1 := by
              rw [hzu2.len]
              cases ld <;> simp
            have fin : ∀ (t4 : Addr) (H12 : Hp), Same H11 H12 → SqT K H12 t4 ([V.int (0 + (j : Int) + 1), .str (nmL st j), v] ++ zu) → Td K H12 (.ref t4) (En.pd ⟨(j : Int) + 1, nmL st j, some so, ld⟩) := fun t4 H12 s12 h4 => by
              refine .tup h4 ?_
              show Tds K H12 _ ([.int ((j : Int) + 1), .str (nmL st j), so.pd] ++ ld.toList)
              refine Tds.append (.cons ?_ (.cons (.str _) (.cons (hvB.keep (KeepT.same s12)) .nil))) (hzu2.keep (KeepT.same s12))
              rw [show (0 : Int) + (j : Int) + 1 = (j : Int) + 1 by omega]
              exact .int _
            have new : ∀ (t4 : Addr) (H12 : Hp), Fv a H H12 → RwI K H D L kvs tb kd xs es H12 → Td K H12 (.ref t4) (En.pd ⟨(j : Int) + 1, nmL st j, some so, ld⟩) → Fv a H (upd H12 L (.lst (xs ++ [.ref t4]))) ∧ RwI K H D L kvs tb kd (xs ++ [.ref t4]) (es ++ [(⟨(j : Int) + 1, nmL st j, some so, ld⟩ : En)]) (upd H12 L (.lst (xs ++ [.ref t4]))) ∧ RowG ks (nmL st) (j + 1) (es ++ [(⟨(j : Int) + 1, nmL st j, some so, ld⟩ : En)]) := fun t4 H12 f12 R12 h12 =>
              ⟨fv_put f12 nL hL0, R12.put (by rw [List.map_append]; exact Tds.append R12.x (.cons h12 .nil)), g5.add ⟨⟨j, hj5, rfl, rfl⟩, ⟨so, rfl, hso, hld⟩⟩ rfl⟩
            refine ⟨t3, pu, _, zu, rfl, rfl, h3v, hpu2, by simp, by show 3 + zu.length ≤ sizeLine; rw [sizeLine_eq]; omega, fun z => ?_, fun z t4 ht4 => ?_⟩
            · subst z
              obtain ⟨n1, n2, n3⟩ := new t3 H11 f11 RB (fin t3 H11 (Same.refl _) (by rw [List.append_nil]; exact h3v))
              refine ⟨L, xs, _, rfl, rfl, RB.l, by rw [sizeLine_eq]; omega, ?_⟩
              exact ⟨_, _, _, _, _, rfl, n1, n2, n3⟩
            · have s12 := same_upd (o := .tup ([V.int (0 + (j : Int) + 1), .str (nmL st j), v] ++ zu)) ht4
              have fC := Fv.of_same f11.2 s12
              have RC := RB.fv hw f11.2 hD hL0 fC
              obtain ⟨n1, n2, n3⟩ := new t4 _ (f11.trans fC) RC (fin t4 _ s12 (SqT.of upd_same))
              refine ⟨L, xs, _, rfl, rfl, RC.l, by rw [sizeLine_eq]; omega, ?_⟩
              exact ⟨_, _, _, _, _, rfl, n1, n2, n3⟩
        · exact ⟨_, _, _, xs, es, rfl, f6, R6, g5.mono (Nat.le_succ _)⟩
      · rintro σ H5 ⟨y5, y6, y7, xs, es, rfl, f5, R5, g5⟩
        refine ⟨_, _, _, _, _, _, kvs ++ [(.inr kd, .ref L)], tb ++ [(kd, es)], rfl, f5, R5.d, R5.done hL0, ?_, fun r hr => ?_⟩
        · rw [List.map_append, hn1, List.take_add_one, hkd] <;> rfl
        · rcases List.mem_append.mp hr with h | h
          · exact hg1 r h
          · rw [List.mem_singleton.mp h]
            exact g5.mono (by omega)
    · rintro σ H1 ⟨y4, y5, y6, y7, y8, y9, kvs, tb, rfl, f1, hD1, hr1, hn1, hg1⟩
      rw [List.length_map, List.take_length] at hn1
      have DB : ∀ {H1 H2 : Hp} {N : Addr → Prop}, (∀ b, N b → H b = none) → Fv a H H1 → Fv a H1 H2 → (H1 D = some (.dK kvs) ∧ Paired (RowO K N H1) kvs tb) → (H2 D = some (.dK kvs) ∧ Paired (RowO K N H2) kvs tb) := fun nn g f h => ⟨f.1 _ _ nD h.1, pd_mono (fun _ _ q => RowO.keep (fun b xs n hb => ⟨n, f.1 _ _ (hw.ne (nn b n)) hb⟩) (f.keepT g.2) q) h.2⟩
      have B1 := And.intro hD1 hr1
      refine ⟨_, rfl, a, 2, rfl, f1.2, by decide, by decide, fun r H2 r0 r1 f12 => ⟨by show 3 ≤ sizeLine; decide, fun t ht => ⟨by show 1 ≤ sizeLine; decide, fun C hC => ?_⟩⟩⟩
      have B2 := DB (fun _ n => n) f1 f12 B1
      have f2 := f1.trans f12
      have s3 := (same_upd (o := .tup [V.int r, .str "one", .non]) ht).trans (same_upd (o := .lst [V.ref t]) hC)
      have hC0 : H C = none := f2.free (by
        cases q : H2 C with
        | none => rfl
        | some o =>
          have := same_upd (o := .tup [V.int r, .str "one", .non]) ht _ _ q
          rw [hC] at this
          cases this)
      have nC := hw.ne hC0
      have B2' : H2 D = some (.dK kvs) ∧ Paired (RowO K (fun b => H b = none ∧ b ≠ C) H2) kvs tb := ⟨B2.1, pd_mono (fun _ _ q => RowO.keep (fun b xs n hb => ⟨⟨n, fun e => by
        have := same_upd (o := .tup [V.int r, .str "one", .non]) ht _ _ hb
        rw [e, hC] at this
        cases this⟩, hb⟩) (KeepT.same (Same.refl _)) q) B2.2⟩
      have ht3 : Td K (upd (upd H2 t (.tup [V.int r, .str "one", .non])) C (.lst [V.ref t])) (.ref t) (En.pd ⟨r, "one", none, none⟩) := .tup (SqT.of ((same_upd (o := .lst [V.ref t]) hC) _ _ upd_same)) (.cons (.int _) (.cons (.str _) (.cons .non .nil)))
      have hC3 : (upd (upd H2 t (.tup [V.int r, .str "one", .non])) C (.lst [V.ref t])) C = some (.lst [V.ref t]) := upd_same
      have f23 := Fv.of_same f2.2 s3
      generalize (upd (upd H2 t (.tup [V.int r, .str "one", .non])) C (.lst [V.ref t])) = H3 at s3 ht3 hC3 f23 ⊢
      have B3 := DB (fun _ n => n.1) f2 f23 B2'
      have f3 := f2.trans f23
      refine ⟨_, rfl, a, 4, rfl, f3.2, by decide, by decide, fun n H4 n0 n1 f34 => ⟨n, rfl, by omega, by omega, ?_⟩⟩
      have B4 := DB (fun _ n => n.1) f3 f34 B3
      have f4 := f3.trans f34
      refine for_it walk_range (fun j σ H' => ∃ (y5 y6 y9 : Option V) (xs : List V) (cs : List En), σ = [some (.ref a), some (.ref lk), some (.str st), some (.ref D), y4, y5, y6, y7, some (.ref C), y9] ∧ Fv a H H' ∧ (H' D = some (.dK kvs) ∧ Paired (RowO K (fun b => H b = none ∧ b ≠ C) H') kvs tb) ∧ H' C = some (.lst xs) ∧ Tds K H' xs (cs.map En.pd) ∧ CasG ks st j cs) ⟨_, _, _, _, [⟨r, "one", none, none⟩], rfl, f4, B4, f34.1 _ _ nC hC3, .cons (ht3.keep (f34.keepT f3.2)) .nil, ⟨r, [], rfl, r0, r1, List.nodup_nil, fun e h => (nomatch h), Nat.le_refl _⟩⟩ (fun _ _ _ _ _ => trivial) ?_ ?_
      · rintro j x σ Hx H5 hj ⟨y5, y6, y9, xs, cs, rfl, f5, B5, hC5, hx5, g5⟩ ⟨rfl, rfl⟩
        have hj3 : j < 3 := by omega
        refine ⟨_, rfl, _, rfl, a, lk, ks, rfl, f5.2, nk, hkk _ f5, fun H' f' => hkk _ (f5.trans f'), k0, k3, fun v so H7 hv hso f57 => ?_⟩
        have B7 := DB (fun _ n => n.1) f5 f57 B5
        have f7 := f5.trans f57
        have hC7 := f57.1 _ _ nC hC5
        have hx7 := hx5.keep (f57.keepT f5.2)
        refine ⟨_, rfl, a, 4, rfl, f7.2, by decide, by decide, fun u H8 u0 u1 f78 => ⟨u, 0, rfl, rfl, _, rfl, ?_⟩⟩
        have B8 := DB (fun _ n => n.1) f7 f78 B7
        have f8 := f7.trans f78
        have hC8 := f78.1 _ _ nC hC7
        have hx8 := hx7.keep (f78.keepT f7.2)
        have hv8 := hv.keep (f78.keepT f7.2)
        refine ite2 (fun g => ?_) (fun g => ?_)
        · obtain ⟨p, zs, rfl, hp, hz⟩ := hv8.sort
          refine ⟨_, rfl, p, _, 0, _, rfl, rfl, hp, at0, ?_⟩
          refine ⟨rfl, _, rfl, ?_⟩
          by_cases hch : so.word = "choice"
          · refine iteY (congrArg V.str hch) ?_
            obtain ⟨H9, f89, eH, b, eb, hb⟩ : ∃ H9, Fv a H8 H9 ∧ H9 = H8 ∧ ∃ b : Bool, b = true ∧ (b = true ∨ so.word ≠ "choice") := ⟨H8, Fv.refl f8.2, rfl, true, rfl, .inl rfl⟩
            rw [← eH]
            rw [← eH] at f78
            show gName 9 (.bl true) _ _ _
            rw [← eb]
            clear eb eH
            have B9 := DB (fun _ n => n.1) f8 f89 B8
            have f9 := f8.trans f89
            have hC9 := f89.1 _ _ nC hC8
            have hx9 := hx8.keep (f89.keepT f8.2)
            have hv9 := hv8.keep (f89.keepT f8.2)
            refine ⟨_, rfl, .inl ⟨rfl, _, SqL.of hC9⟩, ?_⟩
            refine ⟨_, rfl, 2, _, rfl, rfl, _, rfl, by show 3 ≤ sizeLine; decide, fun M hM => ⟨_, rfl, M, _, _, _, rfl, rfl, SqL.of upd_same, word_at hj3, _, _, rfl, rfl, ?_, ?_⟩⟩
            · have : ∀ k < 3, (casW k).length ≤ 4 := by decide
              have := this j hj3
              rw [sizeLine_eq]
              omega
            have sM := same_upd (o := .lst [V.str "two", .str "more", .str "last"]) hM
            have f9M := Fv.of_same f9.2 sM
            have B9 := DB (fun _ n => n.1) f9 f9M B9
            have f9 := f9.trans f9M
            have hC9 := sM _ _ hC9
            have hx9 := hx9.keep (KeepT.same sM)
            have hv9 := hv9.keep (KeepT.same sM)
            generalize upd H9 M (.lst [V.str "two", .str "more", .str "last"]) = H9 at B9 f9 hC9 hx9 hv9 ⊢
            have xl := hx9.len
            rw [List.length_map] at xl
            have cl : cs.length ≤ j + 1 := by
              obtain ⟨_, _, e, _, _, _, _, l⟩ := g5.ex
              rw [e, List.length_cons]
              omega
            have fin : ∀ (x : V) (o : Option So), Td K H9 x (odd o) → (∀ s, o = some s → s = so ∧ s.word ≠ "choice") → ∀ t, H9 t = none → Fv a H (upd (upd H9 t (.tup [V.int (2 + (0 + (j : Int))), .str (st ++ casW j), x])) C (.lst (xs ++ [.ref t]))) ∧ ((upd (upd H9 t (.tup [V.int (2 + (0 + (j : Int))), .str (st ++ casW j), x])) C (.lst (xs ++ [.ref t]))) D = some (.dK kvs) ∧ Paired (RowO K (fun b => H b = none ∧ b ≠ C) (upd (upd H9 t (.tup [V.int (2 + (0 + (j : Int))), .str (st ++ casW j), x])) C (.lst (xs ++ [.ref t])))) kvs tb) ∧ (upd (upd H9 t (.tup [V.int (2 + (0 + (j : Int))), .str (st ++ casW j), x])) C (.lst (xs ++ [.ref t]))) C = some (.lst (xs ++ [.ref t])) ∧ Tds K (upd (upd H9 t (.tup [V.int (2 + (0 + (j : Int))), .str (st ++ casW j), x])) C (.lst (xs ++ [.ref t]))) (xs ++ [.ref t]) ((cs ++ [(⟨2 + (j : Int), st ++ casW j, o, none⟩ : En)]).map En.pd) ∧ CasG ks st (j + 1) (cs ++ [(⟨2 + (j : Int), st ++ casW j, o, none⟩ : En)]) := fun x o hx ho t ht => by
              have st1 := same_upd (o := .tup [V.int (2 + (0 + (j : Int))), .str (st ++ casW j), x]) ht
              have hCt := st1 _ _ hC9
              have kl := keepT_lst (K := K) (ys := xs ++ [V.ref t]) hCt
              have B11 := DB (fun _ n => n.1) f9 (Fv.of_same f9.2 st1) B9
              refine ⟨fv_put (f9.same st1) nC hC0, ⟨by rw [upd_ne (ne_of B11.1 hCt (fun z => nomatch z))]; exact B11.1, ?_⟩, upd_same, ?_, ?_⟩
              · exact pd_mono (fun _ _ q => RowO.keep (fun b xs n hb => ⟨n, by rw [upd_ne n.2]; exact hb⟩) kl q) B11.2
              · rw [List.map_append]
                refine Tds.append ((hx9.keep (KeepT.same st1)).keep kl) (.cons ?_ .nil)
                refine (Td.keep kl (Td.tup (SqT.of upd_same) ?_) : Td K _ (.ref t) (En.pd ⟨2 + (j : Int), st ++ casW j, o, none⟩))
                rw [show (2 : Int) + (0 + (j : Int)) = 2 + (j : Int) by omega]
                exact .cons (.int _) (.cons (.str _) (.cons (hx.keep (KeepT.same (by rw [show (2 : Int) + (j : Int) = 2 + (0 + (j : Int)) by omega]; exact st1))) .nil))
              · exact g5.add ⟨⟨j, hj3, rfl, rfl⟩, rfl, fun s e => by
                  obtain ⟨rfl, h2⟩ := ho s e
                  exact ⟨hso, h2⟩⟩ rfl
            refine ⟨_, rfl, b, rfl, ?_⟩
            cases b with
            | true =>
              refine ⟨by show 3 ≤ sizeLine; decide, fun t ht => ⟨C, xs, _, rfl, rfl, same_upd (o := .tup [V.int (2 + (0 + (j : Int))), .str (st ++ casW j), .non]) ht _ _ hC9, by rw [sizeLine_eq]; omega, ?_⟩⟩
              obtain ⟨n1, n2, n3, n4, n5⟩ := fin .non none .non (fun s e => nomatch e) t ht
              exact ⟨_, _, _, _, _, rfl, n1, n2, n3, n4, n5⟩
            | false =>
              refine ⟨_, rfl, by show 3 ≤ sizeLine; decide, fun t ht => ⟨C, xs, _, rfl, rfl, same_upd (o := .tup [V.int (2 + (0 + (j : Int))), .str (st ++ casW j), .ref p]) ht _ _ hC9, by rw [sizeLine_eq]; omega, ?_⟩⟩
              obtain ⟨n1, n2, n3, n4, n5⟩ := fin (.ref p) (some so) hv9 (fun s e => ⟨(Option.some.inj e).symm, by rw [← Option.some.inj e]; exact hb.resolve_left (fun z => nomatch z)⟩) t ht
              exact ⟨_, _, _, _, _, rfl, n1, n2, n3, n4, n5⟩
          · refine iteN (fun e => hch (V.str.inj e)) ⟨_, rfl, a, 3, rfl, f8.2, by decide, by decide, fun z H9 z0 z1 f89 => ⟨rfl, ?_⟩⟩
            obtain ⟨b, eb, hb⟩ : ∃ b : Bool, b = decide (V.int z = V.int 0) ∧ (b = true ∨ so.word ≠ "choice") := ⟨_, rfl, .inr hch⟩
            rw [← eb]
            clear eb
            have B9 := DB (fun _ n => n.1) f8 f89 B8
            have f9 := f8.trans f89
            have hC9 := f89.1 _ _ nC hC8
            have hx9 := hx8.keep (f89.keepT f8.2)
            have hv9 := hv8.keep (f89.keepT f8.2)
            refine ⟨_, rfl, .inl ⟨rfl, _, SqL.of hC9⟩, ?_⟩
            refine ⟨_, rfl, 2, _, rfl, rfl, _, rfl, by show 3 ≤ sizeLine; decide, fun M hM => ⟨_, rfl, M, _, _, _, rfl, rfl, SqL.of upd_same, word_at hj3, _, _, rfl, rfl, ?_, ?_⟩⟩
            · have : ∀ k < 3, (casW k).length ≤ 4 := by decide
              have := this j hj3
              rw [sizeLine_eq]
              omega
            have sM := same_upd (o := .lst [V.str "two", .str "more", .str "last"]) hM
            have f9M := Fv.of_same f9.2 sM
            have B9 := DB (fun _ n => n.1) f9 f9M B9
            have f9 := f9.trans f9M
            have hC9 := sM _ _ hC9
            have hx9 := hx9.keep (KeepT.same sM)
            have hv9 := hv9.keep (KeepT.same sM)
            generalize upd H9 M (.lst [V.str "two", .str "more", .str "last"]) = H9 at B9 f9 hC9 hx9 hv9 ⊢
            have xl := hx9.len
            rw [List.length_map] at xl
            have cl : cs.length ≤ j + 1 := by
              obtain ⟨_, _, e, _, _, _, _, l⟩ := g5.ex
              rw [e, List.length_cons]
              omega
            have fin : ∀ (x : V) (o : Option So), Td K H9 x (odd o) → (∀ s, o = some s → s = so ∧ s.word ≠ "choice") → ∀ t, H9 t = none → Fv a H (upd (upd H9 t (.tup [V.int (2 + (0 + (j : Int))), .str (st ++ casW j), x])) C (.lst (xs ++ [.ref t]))) ∧ ((upd (upd H9 t (.tup [V.int (2 + (0 + (j : Int))), .str (st ++ casW j), x])) C (.lst (xs ++ [.ref t]))) D = some (.dK kvs) ∧ Paired (RowO K (fun b => H b = none ∧ b ≠ C) (upd (upd H9 t (.tup [V.int (2 + (0 + (j : Int))), .str (st ++ casW j), x])) C (.lst (xs ++ [.ref t])))) kvs tb) ∧ (upd (upd H9 t (.tup [V.int (2 + (0 + (j : Int))), .str (st ++ casW j), x])) C (.lst (xs ++ [.ref t]))) C = some (.lst (xs ++ [.ref t])) ∧ Tds K (upd (upd H9 t (.tup [V.int (2 + (0 + (j : Int))), .str (st ++ casW j), x])) C (.lst (xs ++ [.ref t]))) (xs ++ [.ref t]) ((cs ++ [(⟨2 + (j : Int), st ++ casW j, o, none⟩ : En)]).map En.pd) ∧ CasG ks st (j + 1) (cs ++ [(⟨2 + (j : Int), st ++ casW j, o, none⟩ : En)]) := fun x o hx ho t ht => by
              have st1 := same_upd (o := .tup [V.int (2 + (0 + (j : Int))), .str (st ++ casW j), x]) ht
              have hCt := st1 _ _ hC9
              have kl := keepT_lst (K := K) (ys := xs ++ [V.ref t]) hCt
              have B11 := DB (fun _ n => n.1) f9 (Fv.of_same f9.2 st1) B9
              refine ⟨fv_put (f9.same st1) nC hC0, ⟨by rw [upd_ne (ne_of B11.1 hCt (fun z => nomatch z))]; exact B11.1, ?_⟩, upd_same, ?_, ?_⟩
              · exact pd_mono (fun _ _ q => RowO.keep (fun b xs n hb => ⟨n, by rw [upd_ne n.2]; exact hb⟩) kl q) B11.2
              · rw [List.map_append]
                refine Tds.append ((hx9.keep (KeepT.same st1)).keep kl) (.cons ?_ .nil)
                refine (Td.keep kl (Td.tup (SqT.of upd_same) ?_) : Td K _ (.ref t) (En.pd ⟨2 + (j : Int), st ++ casW j, o, none⟩))
                rw [show (2 : Int) + (0 + (j : Int)) = 2 + (j : Int) by omega]
                exact .cons (.int _) (.cons (.str _) (.cons (hx.keep (KeepT.same (by rw [show (2 : Int) + (j : Int) = 2 + (0 + (j : Int)) by omega]; exact st1))) .nil))
              · exact g5.add ⟨⟨j, hj3, rfl, rfl⟩, rfl, fun s e => by
                  obtain ⟨rfl, h2⟩ := ho s e
                  exact ⟨hso, h2⟩⟩ rfl
            refine ⟨_, rfl, b, rfl, ?_⟩
            cases b with
            | true =>
              refine ⟨by show 3 ≤ sizeLine; decide, fun t ht => ⟨C, xs, _, rfl, rfl, same_upd (o := .tup [V.int (2 + (0 + (j : Int))), .str (st ++ casW j), .non]) ht _ _ hC9, by rw [sizeLine_eq]; omega, ?_⟩⟩
              obtain ⟨n1, n2, n3, n4, n5⟩ := fin .non none .non (fun s e => nomatch e) t ht
              exact ⟨_, _, _, _, _, rfl, n1, n2, n3, n4, n5⟩
            | false =>
              refine ⟨_, rfl, by show 3 ≤ sizeLine; decide, fun t ht => ⟨C, xs, _, rfl, rfl, same_upd (o := .tup [V.int (2 + (0 + (j : Int))), .str (st ++ casW j), .ref p]) ht _ _ hC9, by rw [sizeLine_eq]; omega, ?_⟩⟩
              obtain ⟨n1, n2, n3, n4, n5⟩ := fin (.ref p) (some so) hv9 (fun s e => ⟨(Option.some.inj e).symm, by rw [← Option.some.inj e]; exact hb.resolve_left (fun z => nomatch z)⟩) t ht
              exact ⟨_, _, _, _, _, rfl, n1, n2, n3, n4, n5⟩
        · exact ⟨_, _, _, xs, cs, rfl, f8, B8, hC8, hx8, g5.mono (Nat.le_succ _)⟩
      · rintro σ H5 ⟨y5, y6, y9, xs, cs, rfl, f5, B5, hC5, hx5, g5⟩
        have TC := tabs_fv hT hw f5
        have R1 : RwA K a D C tb cs H5 := ⟨⟨kvs, xs, B5.1, pd_mono (fun _ _ q => RowO.keep (fun b xs n hb => ⟨hw.ne n.1, hb⟩) (KeepT.same (Same.refl _)) q) B5.2, hC5, hx5⟩, nD, nC⟩
        have Dr1 : Drawn ks tb cs := ⟨hn1, ⟨_, nmo, hg1⟩, ⟨_, sto, g5.mono (by omega)⟩, ko.len, ko.nd, ko.nm⟩
        clear hx5 g5 hg1 DB B1 B2 B3 B4
        refine ⟨_, rfl, fun CD hCD => ⟨_, rfl, upd_same, [((.inr "c" : Key), .ref C)], rfl, by show 1 ≤ 15; decide, ?_⟩⟩
        obtain ⟨sd, vd⟩ := disp_c (C := C) hCD
        generalize upd (upd H5 CD (.dK [])) CD (.dK (mergeK [] [((.inr "c" : Key), V.ref C)])) = HD at sd vd ⊢
        have f6 := f5.same sd
        obtain ⟨kd, hkd, hka⟩ : ∃ kd, kd ∈ ks ∧ atI (ks.map V.str) 0 = some (.str kd) := by
          cases ks with
          | nil => exact absurd k0 (Nat.lt_irrefl 0)
          | cons x r => exact ⟨x, List.mem_cons_self, atI_nat (j := 0) rfl⟩
        have dk : Ds ks (.nod kd) := .one (.nod hkd)
        refine ⟨_, rfl, lk, _, 0, .str kd, rfl, rfl, hkk _ f6, hka, by show 2 ≤ sizeLine; decide, fun tr htr => ?_⟩
        have sr := same_upd (o := .tup [V.str "node", .str kd]) htr
        have vr : Td K (upd HD tr (.tup [V.str "node", .str kd])) (.ref tr) (So.nod kd).pd := .tup (SqT.of upd_same) (.cons (.str _) (.cons (.str _) .nil))
        have ss := sd.trans sr
        have vd := sr _ _ vd
        generalize (upd HD tr (.tup [V.str "node", .str kd])) = HD2 at ss vr vd ⊢
        have fD : FvN a H5 HD2 := FvN.of (Fv.of_same f5.2 ss)
        refine ⟨rfl, rfl, fun x dx hx0 hdx nd => mk_stepG vr (Dr1.sc dk) (TC.ext ss) (R1.fvN f5.2 fD) vd hx0 hdx nd fun HE eE TE sc1 => ?_⟩
        exact ⟨rfl, q x tb cs kd HE sc1 Dr1 hkd (((FvN.of f5).trans fD).trans (FvN.extN fD.2 eE)) TE⟩
end
end K34
set_option maxHeartbeats 1000000
/-! TkZ: zip over any two iterators, its earlier pairs still in use. -/
namespace Tw
open PySem PySem.Spec PyProof.Rows L2
section
variable {pg : Program} {w : World} {A : Around} {E : Value → Shared → Prop} {s : Shared} {z TI TO i1 i2 T : Addr} {f : Bool} {oT : Obj} {fp1 fp2 : List Addr} {n1 n2 i : Nat} {P1 P2 : Nat → Value → Prop} {G1 G2 : Nat → Heap → Prop}
/-- the next pair, in a new tuple -/
theorem held_next {Q : Value → Shared → Prop} (S : ZipSep2 z TI TO i1 i2 fp1 fp2) (D1 : Draws pg w A i1 fp1 n1 P1 G1) (D2 : Draws pg w A i2 fp2 n2 P2 G2) (kz : IsZipHeld s.heap z TI TO T f) (kT : s.heap.get? T = some oT) (kI : IsTupOf2 s.heap TI (.ref i1) (.ref i2)) (g1 : G1 i s.heap) (g2 : G2 i s.heap) (l1 : i < n1) (l2 : i < n2)
    (q : ∀ x y h' tk, P1 i x → P2 i y → IsZipHeld h' z TI TO T true → G1 (i + 1) h' → G2 (i + 1) h' → IsTupOf2 h' s.heap.objs.size x y → h'.objs.size = s.heap.objs.size + 1 → (∀ c o, c ≠ z → c ≠ i1 → c ≠ i2 → s.heap.get? c = some o → h'.get? c = some o) → Q (.ref s.heap.objs.size) { s with heap := h', toks := tk }) :
    wpAny (model pg w) A (Builtin.«zip.__next__» ⟨[.ref z], []⟩) (fun fin s' => ∃ v, fin = .done (.ret v) ∧ Q v s') E s := by
  obtain ⟨h0, gs, dr, t0, os⟩ := s
  show wpAny _ _ (field (.ref z) 2 >>= fun a => _) _ _ _
  refine wpAny_bind (wpAny_field kz rfl (x := .bool false) rfl ?_)
  show wpAny _ _ (field (.ref z) 3 >>= fun a => _) _ _ _
  refine wpAny_bind (wpAny_field kz rfl (x := .ref TI) rfl (wpAny_bind (wpAny_seqItems kI rfl ?_)))
  show wpAny _ _ (Builtin.SmallTypes.ownedTupleIsFree (.ref z) >>= fun a => _) _ _ _
  refine wpAny_bind (wpAny_tupleHeld_zip kz kT fun ha kza ea => ?_)
  have ea : Heap.SameBut z h0 ha := ea
  simp only [Bool.false_eq_true, if_false]
  refine wpAny_bind ?_
  rw [← Array.forIn_toList]
  simp only [List.forIn_cons, List.forIn_nil]
  refine wpAny_bind (wpAny_bind (wpAny_holding ?_))
  show wpAny _ _ (Builtin.SmallTypes.nextOf (.ref i1) >>= fun a => _) _ _ _
  refine wpAny_bind (D1.item i ⟨ha, gs, dr, t0, os⟩ _ _ l1 (D1.over g1 ea S.zf1) fun x hb tb px gb eb => wpAny_pure (wpAny_pure ?_))
  have eb : Heap.SameBut i1 ha hb := eb
  refine wpAny_bind (wpAny_bind (wpAny_holding ?_))
  show wpAny _ _ (Builtin.SmallTypes.nextOf (.ref i2) >>= fun a => _) _ _ _
  refine wpAny_bind (D2.item i ⟨hb, gs, dr, tb, os⟩ _ _ l2 (D2.over (D2.over g2 ea S.zf2) eb S.sep1_2) fun y hc tc py gc ec => wpAny_pure (wpAny_pure (wpAny_pure ?_)))
  have ec : Heap.SameBut i2 hb hc := ec
  show wpAny _ _ (newTuple [x, y] >>= fun a => _) _ _ _
  refine wpAny_bind (wpAny_newTuple (wpAny_pure ⟨_, rfl, ?_⟩))
  have sz : hc.objs.size = h0.objs.size := by rw [ec.1, eb.1, ea.1]
  have nw : (hc.push { cls := .type "tuple", data := .seq #[x, y] }).get? hc.objs.size = some { cls := .type "tuple", data := .seq #[x, y] } := Heap.get?_push_size _ rfl
  have ns : (hc.push { cls := .type "tuple", data := .seq #[x, y] }).objs.size = hc.objs.size + 1 := Heap.size_push ..
  show Q (.ref hc.objs.size) _
  rw [sz] at nw ns ⊢
  refine q x y _ tc px py (Heap.get?_push_of_some _ (ec.extBut _ _ S.zi2 (eb.extBut _ _ S.zi1 kza))) (D1.frame _ _ _ (D1.over gb ec S.sep2_1) fun b _ o e => Heap.get?_push_of_some _ e) (D2.frame _ _ _ gc fun b _ o e => Heap.get?_push_of_some _ e) nw ns fun c o c1 c2 c3 e => Heap.get?_push_of_some _ (ec.extBut _ _ c3 (eb.extBut _ _ c2 (ea.extBut _ _ c1 e)))
/-- no pair more -/
theorem held_stop {Q : Fin → Shared → Prop} (S : ZipSep2 z TI TO i1 i2 fp1 fp2) (D1 : Draws pg w A i1 fp1 n1 P1 G1) (D2 : Draws pg w A i2 fp2 n2 P2 G2) (kz : IsZipHeld s.heap z TI TO T f) (kT : s.heap.get? T = some oT) (kI : IsTupOf2 s.heap TI (.ref i1) (.ref i2)) (g1 : G1 i s.heap) (g2 : G2 i s.heap) (l1 : i ≤ n1) (l2 : i ≤ n2) (le : i = n1 ∨ i = n2)
    (q : ∀ h' tk e, (∀ c o, c ≠ z → c ≠ i1 → c ≠ i2 → s.heap.get? c = some o → h'.get? c = some o) → (∃ o, h'.get? e = some o ∧ o.cls = .type "StopIteration") → E (.ref e) { s with heap := h', toks := tk }) :
    wpAny (model pg w) A (Builtin.«zip.__next__» ⟨[.ref z], []⟩) Q E s := by
  obtain ⟨h0, gs, dr, t0, os⟩ := s
  show wpAny _ _ (field (.ref z) 2 >>= fun a => _) _ _ _
  refine wpAny_bind (wpAny_field kz rfl (x := .bool false) rfl ?_)
  show wpAny _ _ (field (.ref z) 3 >>= fun a => _) _ _ _
  refine wpAny_bind (wpAny_field kz rfl (x := .ref TI) rfl (wpAny_bind (wpAny_seqItems kI rfl ?_)))
  show wpAny _ _ (Builtin.SmallTypes.ownedTupleIsFree (.ref z) >>= fun a => _) _ _ _
  refine wpAny_bind (wpAny_tupleHeld_zip kz kT fun ha kza ea => ?_)
  have ea : Heap.SameBut z h0 ha := ea
  simp only [Bool.false_eq_true, if_false]
  refine wpAny_bind ?_
  rw [← Array.forIn_toList]
  simp only [List.forIn_cons, List.forIn_nil]
  refine wpAny_bind (wpAny_bind (wpAny_holding ?_))
  show wpAny _ _ (Builtin.SmallTypes.nextOf (.ref i1) >>= fun a => _) _ _ _
  by_cases c : i < n1
  · refine wpAny_bind (D1.item i ⟨ha, gs, dr, t0, os⟩ _ _ c (D1.over g1 ea S.zf1) fun x hb tb px gb eb => wpAny_pure (wpAny_pure ?_))
    have eb : Heap.SameBut i1 ha hb := eb
    obtain rfl : i = n2 := by omega
    refine wpAny_bind (wpAny_bind (wpAny_holding ?_))
    show wpAny _ _ (Builtin.SmallTypes.nextOf (.ref i2) >>= fun a => _) _ _ _
    exact wpAny_bind (D2.done ⟨hb, gs, dr, tb, os⟩ _ _ (D2.over (D2.over g2 ea S.zf2) eb S.sep1_2) fun hc e ec he => q hc tb e (fun b o b1 b2 b3 r => ec _ _ b3 (eb.extBut _ _ b2 (ea.extBut _ _ b1 r))) he)
  · obtain rfl : i = n1 := by omega
    exact wpAny_bind (D1.done ⟨ha, gs, dr, t0, os⟩ _ _ (D1.over g1 ea S.zf1) fun hc e ec he => q hc t0 e (fun b o b1 b2 _ r => ec _ _ b2 (ea.extBut _ _ b1 r)) he)
/-- a zip at its k-th turn: its tuple not yet out, or one that stands -/
def ZSt (z TI TO i1 i2 : Addr) (G1 G2 : Nat → Heap → Prop) (k : Nat) (h : Heap) : Prop := IsTupOf2 h TI (.ref i1) (.ref i2) ∧ G1 k h ∧ G2 k h ∧ ((IsZip h z TI TO .none ∧ ∃ a b, IsTupOf2 h TO a b) ∨ ∃ (T : Addr) (f : Bool) (oT : Obj), IsZipHeld h z TI TO T f ∧ h.get? T = some oT ∧ T ≠ z ∧ T ≠ i1 ∧ T ≠ i2)
theorem ZSt.ty {k : Nat} (h : ZSt z TI TO i1 i2 G1 G2 k s.heap) : ∃ o, s.heap.get? z = some o ∧ o.cls = .type "zip" := by
  obtain ⟨_, _, _, ⟨a, _⟩ | ⟨_, _, _, a, _⟩⟩ := h
  · exact ⟨_, a, rfl⟩
  · exact ⟨_, a, rfl⟩
theorem zst_next {k : Nat} {Q : Option Value → Shared → Prop} (S : ZipSep2 z TI TO i1 i2 fp1 fp2) (D1 : Draws pg w A.in1 i1 fp1 n1 P1 G1) (D2 : Draws pg w A.in1 i2 fp2 n2 P2 G2) (st : ZSt z TI TO i1 i2 G1 G2 k s.heap) (l1 : k < n1) (l2 : k < n2)
    (q : ∀ x y h' tk, P1 k x → P2 k y → ZSt z TI TO i1 i2 G1 G2 (k + 1) h' → IsTupOf2 h' s.heap.objs.size x y → h'.objs.size = s.heap.objs.size + 1 → (∀ c o, c ∉ [z, TO, i1, i2] → s.heap.get? c = some o → h'.get? c = some o) → Q (some (.ref s.heap.objs.size)) { s with heap := h', toks := tk }) :
    wpAny (model pg w) A (pyNext (.ref z)) Q E s := by
  obtain ⟨kI, g1, g2, st⟩ := st
  have off : ∀ {c : Addr}, (∃ o, s.heap.get? c = some o) → s.heap.objs.size ≠ c := fun ⟨_, e⟩ => Nat.ne_of_gt (Heap.lt_size e)
  have o1 := off (D1.live _ _ g1)
  have o2 := off (D2.live _ _ g2)
  rcases st with ⟨kz, a, b, kO⟩ | ⟨T, f, oT, kz, kT, r1, r2, r3⟩
  · refine wpAny_pyNext_zipD2_item S D1 D2 kz kI kO g1 g2 l1 l2 fun x y h' tk px py b1 b2 b3 b4 b5 b6 b7 => ?_
    exact q x y h' tk px py ⟨b7 _ _ S.TIz S.TITO S.TIi1 S.TIi2 kI, b3, b4, .inr ⟨_, false, _, b1, b5, off ⟨_, kz⟩, o1, o2⟩⟩ b5 b6 fun c o n e => b7 c o (fun w => n (by simp [w])) (fun w => n (by simp [w])) (fun w => n (by simp [w])) (fun w => n (by simp [w])) e
  · have hT : s.TypeIs (.ref z) "zip" := ⟨_, kz, rfl⟩
    unfold pyNext
    refine wpAny_bind (wpAny_attempt (wpAny_callSpecial?_slot (name := Str.ofString "__next__") hT PySem.F.slot_zip_next (wpAny_call_entry PySem.F.slot_zip_next hT PySem.F.entry_zip_next (held_next S D1 D2 kz kT kI g1 g2 l1 l2 fun x y h' tk px py b1 b3 b4 b5 b6 b7 => wpAny_pure ?_) (PySem.F.args_zip_next_1 _))))
    exact q x y h' tk px py ⟨b7 _ _ S.TIz S.TIi1 S.TIi2 kI, b3, b4, .inr ⟨T, true, oT, b1, b7 _ _ r1 r2 r3 kT, r1, r2, r3⟩⟩ b5 b6 fun c o n e => b7 c o (fun w => n (by simp [w])) (fun w => n (by simp [w])) (fun w => n (by simp [w])) e
theorem zst_stop {k : Nat} {Q : Option Value → Shared → Prop} (S : ZipSep2 z TI TO i1 i2 fp1 fp2) (D1 : Draws pg w A.in1 i1 fp1 n1 P1 G1) (D2 : Draws pg w A.in1 i2 fp2 n2 P2 G2) (st : ZSt z TI TO i1 i2 G1 G2 k s.heap) (l1 : k ≤ n1) (l2 : k ≤ n2) (le : k = n1 ∨ k = n2)
    (q : ∀ h' tk, (∀ c o, c ∉ [z, TO, i1, i2] → s.heap.get? c = some o → h'.get? c = some o) → Q none { s with heap := h', toks := tk }) : wpAny (model pg w) A (pyNext (.ref z)) Q E s := by
  obtain ⟨kI, g1, g2, st⟩ := st
  rcases st with ⟨kz, a, b, kO⟩ | ⟨T, f, oT, kz, kT, r1, r2, r3⟩
  · exact wpAny_pyNext_zipD2_end S D1 D2 kz kI kO g1 g2 l1 l2 le fun h' tk b7 => q h' tk fun c o n e => b7 c o (fun w => n (by simp [w])) (fun w => n (by simp [w])) (fun w => n (by simp [w])) (fun w => n (by simp [w])) e
  · have hT : s.TypeIs (.ref z) "zip" := ⟨_, kz, rfl⟩
    unfold pyNext
    refine wpAny_bind (wpAny_attempt (wpAny_callSpecial?_slot (name := Str.ofString "__next__") hT PySem.F.slot_zip_next (wpAny_call_entry PySem.F.slot_zip_next hT PySem.F.entry_zip_next (held_stop S D1 D2 kz kT kI g1 g2 l1 l2 le fun h' tk e b7 he => ?_) (PySem.F.args_zip_next_1 _))))
    obtain ⟨oe, e1, e2⟩ := he
    exact wpAny_bind (wpAny_isInstance (T := "StopIteration") (b := true) ⟨oe, e1, e2⟩ isSubtype_stop (wpAny_pure (q h' tk fun c o n e => b7 c o (fun w => n (by simp [w])) (fun w => n (by simp [w])) (fun w => n (by simp [w])) e)))
/-- .. and stands while its own objects do -/
theorem ZSt.keep {k : Nat} {h h' : Heap} (D1 : Draws pg w A i1 fp1 n1 P1 G1) (D2 : Draws pg w A i2 fp2 n2 P2 G2) (st : ZSt z TI TO i1 i2 G1 G2 k h) (u : Addr → Prop) (hu : ¬ u z ∧ ¬ u TI ∧ ¬ u TO ∧ (∀ b ∈ fp1, ¬ u b) ∧ ∀ b ∈ fp2, ¬ u b) (e : ∀ b o, ¬ u b → h.get? b = some o → h'.get? b = some o) (eT : ∀ b o, u b → h.get? b = some o → ∃ o', h'.get? b = some o') : ZSt z TI TO i1 i2 G1 G2 k h' := by
  obtain ⟨kI, g1, g2, st⟩ := st
  refine ⟨e _ _ hu.2.1 kI, D1.frame _ _ _ g1 fun b hb o q => e b o (hu.2.2.2.1 b hb) q, D2.frame _ _ _ g2 fun b hb o q => e b o (hu.2.2.2.2 b hb) q, ?_⟩
  rcases st with ⟨kz, a, b, kO⟩ | ⟨T, f, oT, kz, kT, r1, r2, r3⟩
  · exact .inl ⟨e _ _ hu.1 kz, a, b, e _ _ hu.2.2.1 kO⟩
  · by_cases c : u T
    · obtain ⟨o', h2⟩ := eT T oT c kT
      exact .inr ⟨T, f, o', e _ _ hu.1 kz, h2, r1, r2, r3⟩
    · exact .inr ⟨T, f, oT, e _ _ hu.1 kz, e _ _ c kT, r1, r2, r3⟩
end
end Tw
set_option maxHeartbeats 1000000
/-! TkZ2: list(zip(a, b)). -/
namespace Tw
open PySem PySem.Spec PyProof.Rows L2
theorem zip_len_no : typeLookup (.type "zip") "__len__" = pure none := am_miss_of_fast (by decide +kernel)
theorem zip_hint_no : typeLookup (.type "zip") "__length_hint__" = pure none := am_miss_of_fast (by decide +kernel)
abbrev lstO (acc : Array Value) (c : Nat) : Obj := { cls := .type "list", dict := none, data := .seq acc c, slots := #[] }
/-- the pairs that a list has taken so far -/
structure Prs (P1 P2 : Nat → Value → Prop) (n0 k : Nat) (h : Heap) (acc : Array Value) (Ts : List Addr) : Prop where
  it : acc = (Ts.map Value.ref).toArray
  len : Ts.length = k
  up : Ts.Pairwise (· < ·)
  new : ∀ T ∈ Ts, n0 ≤ T ∧ h.objs.size ≥ Nat.succ T
  pr : ∀ (j : Nat) (T : Addr), Ts[j]? = some T → ∃ x y, P1 j x ∧ P2 j y ∧ IsTupOf2 h T x y
section
variable {pg : Program} {w : World} {A : Around} {s : Shared} {z TI TO i1 i2 L : Addr} {fp1 fp2 : List Addr} {n1 n2 : Nat} {P1 P2 : Nat → Value → Prop} {G1 G2 : Nat → Heap → Prop} {R : Result → Shared → Prop}
theorem Prs.step {n0 k : Nat} {h h' : Heap} {acc : Array Value} {Ts : List Addr} {x y : Value} (p : Prs P1 P2 n0 k h acc Ts) (hn : n0 ≤ h.objs.size) (px : P1 k x) (py : P2 k y) (t : IsTupOf2 h' h.objs.size x y) (sz : h'.objs.size = h.objs.size + 1) (e : ∀ (b : Addr) o, n0 ≤ (b : Nat) → h.get? b = some o → h'.get? b = some o) : Prs P1 P2 n0 (k + 1) h' (acc.push (.ref h.objs.size)) (Ts ++ [h.objs.size]) := by
  refine ⟨by rw [p.it, List.map_append]; simp, by rw [List.length_append, p.len]; rfl, ?_, fun T hT => ?_, fun j T hj => ?_⟩
  · refine List.pairwise_append.mpr ⟨p.up, List.pairwise_singleton _ _, fun a ha b hb => ?_⟩
    rw [List.mem_singleton.mp hb]
    exact (p.new a ha).2
  · rcases List.mem_append.mp hT with hT | hT
    · have := p.new T hT
      omega
    · rw [List.mem_singleton.mp hT]
      omega
  · by_cases c : j < Ts.length
    · rw [List.getElem?_append_left c] at hj
      obtain ⟨u, v, a, b, d⟩ := p.pr j T hj
      exact ⟨u, v, a, b, e _ _ (p.new T (List.mem_of_getElem? hj)).1 d⟩
    · rw [List.getElem?_append_right (by omega)] at hj
      have hl := p.len
      have : j - Ts.length = 0 := by
        have := (List.getElem?_eq_some_iff.mp hj).1
        rw [List.length_singleton] at this
        omega
      rw [this] at hj
      cases hj
      rw [show j = k by omega]
      exact ⟨x, y, px, py, t⟩
/-- what a list takes of a zip -/
theorem takes (S : ZipSep2 z TI TO i1 i2 fp1 fp2) (D1 : Draws pg w A.in1.in1 i1 fp1 n1 P1 G1) (D2 : Draws pg w A.in1.in1 i2 fp2 n2 P2 G2) (hz : min n1 n2 ≤ sizeLine) (u : ¬ L = z ∧ ¬ L = TI ∧ ¬ L = TO ∧ (∀ b ∈ fp1, ¬ b = L) ∧ ∀ b ∈ fp2, ¬ b = L) (res : Value) (n0 : Nat) (hb : n0 ≥ Nat.succ z ∧ n0 ≥ Nat.succ TO ∧ n0 ≥ Nat.succ L) (h1 : ∀ b ∈ fp1, n0 ≥ Nat.succ b) (h2 : ∀ b ∈ fp2, n0 ≥ Nat.succ b) :
    ∀ (m k : Nat) (s : Shared) (acc : Array Value) (c : Nat) (Ts : List Addr), min n1 n2 - k = m → k ≤ min n1 n2 → ZSt z TI TO i1 i2 G1 G2 k s.heap → s.heap.get? L = some (lstO acc c) → n0 ≤ s.heap.objs.size → Prs P1 P2 n0 k s.heap acc Ts →
    (∀ h' tk acc' c' Ts', (∀ (b : Addr) o, b ∉ [L, z, TO, i1, i2] → s.heap.get? b = some o → h'.get? b = some o) → h'.get? L = some (lstO acc' c') → Prs P1 P2 n0 (min n1 n2) h' acc' Ts' → R (.ok (.ret res)) { s with heap := h', toks := tk }) →
    codeAny (model pg w) A (.builtin "list.extend.loop" ⟨[.ref L, .ref z, res], []⟩) R s := by
  intro m
  have in1 : n0 ≥ Nat.succ i1 := h1 _ S.mem1
  have in2 : n0 ≥ Nat.succ i2 := h2 _ S.mem2
  have nL : L ∉ [z, TO, i1, i2] := by
    have a := u.2.2.2.1 i1 S.mem1
    have b := u.2.2.2.2 i2 S.mem2
    simp only [List.mem_cons, List.not_mem_nil, or_false, not_or]
    exact ⟨u.1, u.2.2.1, fun e => a e.symm, fun e => b e.symm⟩
  have out : ∀ b : Addr, n0 ≤ b → b ∉ [z, TO, i1, i2] := by
    intro b l w
    simp only [List.mem_cons, List.not_mem_nil, or_false] at w
    rcases w with rfl | rfl | rfl | rfl <;> omega
  induction m with
  | zero =>
    intro k s acc c Ts e1 e2 st hL hn p q
    obtain rfl : k = min n1 n2 := by omega
    refine codeAny_builtin PySem.F.entry_extend_loop ?_
    rw [Around.under_plainId PySem.F.plain_extend_loop _]
    show wpAny _ A.in1 (pyNext (.ref z) >>= fun a => _) _ _ s
    refine wpAny_bind (zst_stop S D1 D2 st (Nat.min_le_left ..) (Nat.min_le_right ..) (by omega) fun h' tk e => wpAny_pure ?_)
    exact q h' tk acc c Ts (fun b o n r => e b o (fun w => n (List.mem_cons_of_mem _ w)) r) (e _ _ nL hL) ⟨p.it, p.len, p.up, fun T hT => ⟨(p.new T hT).1, by
      obtain ⟨j, hj⟩ := List.getElem?_of_mem hT
      obtain ⟨x, y, _, _, t⟩ := p.pr j T hj
      exact Heap.lt_size (e T _ (out T (p.new T hT).1) t)⟩, fun j T hj => by
      obtain ⟨x, y, a, b, t⟩ := p.pr j T hj
      exact ⟨x, y, a, b, e T _ (out T (p.new T (List.mem_of_getElem? hj)).1) t⟩⟩
  | succ m ih =>
    intro k s acc c Ts e1 e2 st hL hn p q
    have lk : k < min n1 n2 := by omega
    refine codeAny_builtin PySem.F.entry_extend_loop ?_
    rw [Around.under_plainId PySem.F.plain_extend_loop _]
    show wpAny _ A.in1 (pyNext (.ref z) >>= fun a => _) _ _ s
    refine wpAny_bind (zst_next S D1 D2 st (by omega) (by omega) fun x y h' tk px py st' t sz e => ?_)
    have hL' := e _ _ nL hL
    have la : acc.size = k := by rw [p.it]; simpa using p.len
    have low : ∀ (b : Addr) o, n0 ≤ (b : Nat) → s.heap.get? b = some o → h'.get? b = some o := fun b o l r => e b o (out b l) r
    have p' := p.step hn px py t sz low
    show wpAny _ A.in1 (updateSeq L (·.push (.ref s.heap.objs.size)) >>= fun a => _) _ _ _
    have oth : ∀ b o, b ≠ L → h'.get? b = some o → (h'.update L (Obj.mapSeq (·.push (Value.ref s.heap.objs.size)))).get? b = some o := fun b o n r => (Heap.get?_update_other _ _ (Ne.symm n)).trans r
    have got := Heap.get?_update_self (Obj.mapSeq (·.push (Value.ref s.heap.objs.size))) hL' rfl
    refine wpAny_bind (wpAny_updateSeq (s := { s with heap := h', toks := tk }) hL' rfl (wpAny_pure ⟨plainId_quiet PySem.F.plain_extend_loop _, ih (k + 1) _ (acc.push (.ref s.heap.objs.size)) _ (Ts ++ [s.heap.objs.size]) (by omega) (by omega) ?_ got ?_ ?_ fun h'' tk'' acc' c' Ts' e' hL'' p'' => ?_⟩) (by omega) (by show (acc.push (Value.ref s.heap.objs.size)).size ≤ sizeLine + 1; rw [Array.size_push]; omega))
    · refine ZSt.keep D1 D2 st' (fun b => b = L) ⟨fun r => u.1 r.symm, fun r => u.2.1 r.symm, fun r => u.2.2.1 r.symm, u.2.2.2.1, u.2.2.2.2⟩ (fun b o n r => oth b o n r) fun b o r _ => (by cases r; exact ⟨_, got⟩)
    · show n0 ≤ (h'.update L _).objs.size
      rw [Heap.size_update, sz]
      omega
    · refine ⟨p'.it, p'.len, p'.up, fun T hT => ?_, fun j T hj => ?_⟩
      · show _ ∧ (h'.update L _).objs.size ≥ Nat.succ T
        rw [Heap.size_update]
        exact p'.new T hT
      · obtain ⟨x', y', a, b, t'⟩ := p'.pr j T hj
        exact ⟨x', y', a, b, oth T _ (fun r => by have := (p'.new T (List.mem_of_getElem? hj)).1; rw [r] at this; omega) t'⟩
    · refine q h'' tk'' acc' c' Ts' (fun b o n r => ?_) hL'' p''
      have nb : b ≠ L := fun r => n (by simp [r])
      exact e' b o n (oth b o nb (e b o (fun w => n (List.mem_cons_of_mem _ w)) r))
theorem zip_room {r : Addr} {E : Value → Shared → Prop} {Q : Bool → Shared → Prop} (hT : s.TypeIs (.ref r) "zip") (h : Q true s) : wpAny (model pg w) A (Builtin.List.listLengthHint (.ref r)) Q E s := by
  unfold Builtin.List.listLengthHint
  refine wpAny_bind (wpAny_specialOf hT zip_len_no ?_)
  show wpAny _ _ (specialOf (Value.ref r) (Str.ofString "__length_hint__") >>= fun a => _) _ _ _
  exact wpAny_bind (wpAny_specialOf hT zip_hint_no (wpAny_pure h))
theorem takes_all (S : ZipSep2 z TI TO i1 i2 fp1 fp2) (D1 : Draws pg w A.in1.in1 i1 fp1 n1 P1 G1) (D2 : Draws pg w A.in1.in1 i2 fp2 n2 P2 G2) (hz : min n1 n2 ≤ sizeLine) (u : ¬ L = z ∧ ¬ L = TI ∧ ¬ L = TO ∧ (∀ b ∈ fp1, ¬ b = L) ∧ ∀ b ∈ fp2, ¬ b = L) (res : Value) (c0 : Nat) (kz : IsZip s.heap z TI TO .none) (st : ZSt z TI TO i1 i2 G1 G2 0 s.heap) (hL : s.heap.get? L = some (lstO #[] c0)) (hTO : s.heap.objs.size ≥ Nat.succ TO) (h1 : ∀ b ∈ fp1, s.heap.objs.size ≥ Nat.succ b) (h2 : ∀ b ∈ fp2, s.heap.objs.size ≥ Nat.succ b)
    (q : ∀ h' tk acc' c' Ts', (∀ (b : Addr) o, b ∉ [L, z, TO, i1, i2] → s.heap.get? b = some o → h'.get? b = some o) → h'.get? L = some (lstO acc' c') → Prs P1 P2 s.heap.objs.size (min n1 n2) h' acc' Ts' → R (.ok (.ret res)) { s with heap := h', toks := tk }) :
    wpAny (model pg w) A.in1 (Builtin.List.listExtendWith (.ref L) (.ref z) res) (fun fin s' => match fin with | .done f => R (.ok f) s' | .again c' => c'.quiet = true ∧ codeAny (model pg w) A c' R s') (fun e s' => R (.error e) s') s := by
  have hT : s.TypeIs (.ref z) "zip" := ⟨_, kz, rfl⟩
  unfold Builtin.List.listExtendWith
  refine wpAny_bind (wpAny_typeOf hT ?_)
  have a1 : Builtin.List.listSameRef (.ref L) (.ref z) = false := by simp [Builtin.List.listSameRef, u.1]
  have a2 : (Value.type "zip" == Value.type "list") = false := by decide
  have a3 : (Value.type "zip" == Value.type "tuple") = false := by decide
  simp only [a1, a2, a3, Bool.or_false, Bool.false_eq_true, if_false]
  refine wpAny_bind (wpAny_pyIter_zip kz (wpAny_bind (wpAny_holding (zip_room hT ?_))))
  show wpAny _ A.in1 (rule "list.extend.makes-room" >>= fun _ => Builtin.List.listTouch (.ref L) >>= fun _ => again (.builtin "list.extend.loop" ⟨[.ref L, .ref z, res], []⟩)) _ _ _
  refine wpAny_bind (wpAny_rule (wpAny_bind ?_))
  show wpAny _ A.in1 (updateSeq L (·.push .none) >>= fun _ => updateSeq L (·.pop)) _ _ _
  have b1 := Heap.get?_update_self (Obj.mapSeq (·.push Value.none)) hL rfl
  have b2 := Heap.get?_update_self (Obj.mapSeq (·.pop)) b1 rfl
  have oth : ∀ (b : Addr) o, ¬ b = L → s.heap.get? b = some o → ((s.heap.update L (Obj.mapSeq (·.push Value.none))).update L (Obj.mapSeq (·.pop))).get? b = some o := fun b o n e => (Heap.get?_update_other _ _ (Ne.symm n)).trans ((Heap.get?_update_other _ _ (Ne.symm n)).trans e)
  have sz : ((s.heap.update L (Obj.mapSeq (·.push Value.none))).update L (Obj.mapSeq (·.pop))).objs.size = s.heap.objs.size := by rw [Heap.size_update, Heap.size_update]
  refine wpAny_bind (wpAny_updateSeq hL rfl (wpAny_updateSeq (hz := by seq_fits) b1 rfl (wpAny_pure ⟨plainId_quiet PySem.F.plain_extend_loop _, ?_⟩)))
  have st' : ZSt z TI TO i1 i2 G1 G2 0 ((s.heap.update L (Obj.mapSeq (·.push Value.none))).update L (Obj.mapSeq (·.pop))) := ZSt.keep D1 D2 st (fun b => b = L) ⟨fun r => u.1 r.symm, fun r => u.2.1 r.symm, fun r => u.2.2.1 r.symm, u.2.2.2.1, u.2.2.2.2⟩ oth fun b o r _ => (by cases r; exact ⟨_, b2⟩)
  have lz : s.heap.objs.size ≥ Nat.succ z := Heap.lt_size kz
  have lL : s.heap.objs.size ≥ Nat.succ L := Heap.lt_size hL
  exact takes S D1 D2 hz u res s.heap.objs.size ⟨lz, hTO, lL⟩ h1 h2 _ 0 { s with heap := (s.heap.update L (Obj.mapSeq (·.push Value.none))).update L (Obj.mapSeq (·.pop)) } #[] _ [] rfl (Nat.zero_le _) st' b2 (by show s.heap.objs.size ≤ _; rw [sz]; exact Nat.le_refl _) ⟨rfl, rfl, .nil, fun T h => (nomatch h), fun j T h => (by simp at h)⟩ fun h' tk acc' c' Ts' e x p => q h' tk acc' c' Ts' (fun b o n r => e b o n (oth b o (fun w => n (by simp [w])) r)) x p
/-- list(z) of a zip z that has not begun -/
theorem list_of_zip {E : Value → Shared → Prop} {Q : Value → Shared → Prop} (S : ZipSep2 z TI TO i1 i2 fp1 fp2) (D1 : Draws pg w A.in1.in1.in1 i1 fp1 n1 P1 G1) (D2 : Draws pg w A.in1.in1.in1 i2 fp2 n2 P2 G2) (hz : min n1 n2 ≤ sizeLine) (kz : IsZip s.heap z TI TO .none) (kI : IsTupOf2 s.heap TI (.ref i1) (.ref i2)) (kO : ∃ a b, IsTupOf2 s.heap TO a b) (g1 : G1 0 s.heap) (g2 : G2 0 s.heap) (h1 : ∀ b ∈ fp1, s.heap.objs.size ≥ Nat.succ b) (h2 : ∀ b ∈ fp2, s.heap.objs.size ≥ Nat.succ b)
    (q : ∀ h' tk acc' c' Ts', (∀ (b : Addr) o, b ∉ [z, TO, i1, i2] → s.heap.get? b = some o → h'.get? b = some o) → h'.get? s.heap.objs.size = some (lstO acc' c') → Prs P1 P2 (s.heap.objs.size + 1) (min n1 n2) h' acc' Ts' → Q (.ref s.heap.objs.size) { s with heap := h', toks := tk }) :
    wpAny (model pg w) A (call (.type "list") [.ref z]) Q E s := by
  refine callType_codes (Q₁ := fun obj s₁ => obj = .ref s.heap.objs.size ∧ s₁ = { s with heap := s.heap.push (lstO #[] 0) }) PySem.F.called_list (PySem.F.typeCall_list_1 _) PySem.F.entry_list_init (code_list_new _ ⟨rfl, rfl⟩) fun obj s₁ e₁ => ?_
  obtain ⟨rfl, rfl⟩ := e₁
  have up : ∀ {b : Addr} {o : Obj}, s.heap.get? b = some o → (s.heap.push (lstO #[] 0)).get? b = some o := fun e => Heap.get?_push_of_some _ e
  have hS : (s.heap.push (lstO #[] 0)).get? s.heap.objs.size = some (lstO #[] 0) := Heap.get?_push_size _ rfl
  have sz : (s.heap.push (lstO #[] 0)).objs.size = s.heap.objs.size + 1 := Heap.size_push ..
  have lo : ∀ {b : Addr}, s.heap.objs.size ≥ Nat.succ b → ¬ s.heap.objs.size = b := fun h e => by rw [e] at h; omega
  obtain ⟨a, b, kO⟩ := kO
  have lz := lo (Heap.lt_size kz : s.heap.objs.size ≥ Nat.succ z)
  have lI := lo (Heap.lt_size kI : s.heap.objs.size ≥ Nat.succ TI)
  have lO := lo (Heap.lt_size kO : s.heap.objs.size ≥ Nat.succ TO)
  refine ⟨⟨_, hS, rfl⟩, PySem.F.args_list_init_2 _ _, ?_⟩
  show wpAny _ _ (do let old ← Builtin.List.listItems (.ref s.heap.objs.size); Builtin.List.listUpdate (.ref s.heap.objs.size) (fun _ => #[]); letGo old.toList.reverse; Builtin.List.listExtendWith (.ref s.heap.objs.size) (.ref z) .none) _ _ _
  refine wpAny_bind ?_
  unfold Builtin.List.listItems
  refine wpAny_bind (wpAny_seqItems hS rfl (wpAny_pure ?_))
  show wpAny _ _ (updateSeq s.heap.objs.size (fun _ => #[]) >>= fun _ => letGo (#[] : Array Value).toList.reverse >>= fun _ => Builtin.List.listExtendWith (.ref s.heap.objs.size) (.ref z) .none) _ _ _
  refine wpAny_bind (wpAny_updateSeq hS rfl (wpAny_bind (wpAny_letGo ?_)))
  have hS2 := Heap.get?_update_self (Obj.mapSeq (fun _ => (#[] : Array Value))) hS rfl
  have oth : ∀ {b : Addr} {o : Obj}, ¬ s.heap.objs.size = b → s.heap.get? b = some o → ((s.heap.push (lstO #[] 0)).update s.heap.objs.size (Obj.mapSeq (fun _ => (#[] : Array Value)))).get? b = some o := fun n e => (Heap.get?_update_other _ _ n).trans (up e)
  have sz2 : ((s.heap.push (lstO #[] 0)).update s.heap.objs.size (Obj.mapSeq (fun _ => (#[] : Array Value)))).objs.size = s.heap.objs.size + 1 := by rw [Heap.size_update, sz]
  have fr1 : G1 0 ((s.heap.push (lstO #[] 0)).update s.heap.objs.size (Obj.mapSeq (fun _ => (#[] : Array Value)))) := D1.frame _ _ _ g1 fun b hb o e => oth (lo (h1 b hb)) e
  have fr2 : G2 0 ((s.heap.push (lstO #[] 0)).update s.heap.objs.size (Obj.mapSeq (fun _ => (#[] : Array Value)))) := D2.frame _ _ _ g2 fun b hb o e => oth (lo (h2 b hb)) e
  refine takes_all (A := A.in1) (s := { s with heap := (s.heap.push (lstO #[] 0)).update s.heap.objs.size (Obj.mapSeq (fun _ => (#[] : Array Value))) }) S D1 D2 hz ⟨lz, lI, lO, fun b hb e => lo (h1 b hb) e.symm, fun b hb e => lo (h2 b hb) e.symm⟩ .none _ (oth lz kz) ⟨oth lI kI, fr1, fr2, .inl ⟨oth lz kz, a, b, oth lO kO⟩⟩ hS2 (by show _ ≥ _; rw [sz2]; exact Nat.succ_le_succ (Nat.le_of_lt (Heap.lt_size kO))) (fun b hb => by show _ ≥ _; rw [sz2]; have := h1 b hb; omega) (fun b hb => by show _ ≥ _; rw [sz2]; have := h2 b hb; omega) fun h' tk acc' c' Ts' e x p => ⟨rfl, ?_⟩
  rw [show ({ s with heap := (s.heap.push (lstO #[] 0)).update s.heap.objs.size (Obj.mapSeq (fun _ => (#[] : Array Value))) } : Shared).heap.objs.size = s.heap.objs.size + 1 from sz2] at p
  refine q h' tk acc' c' Ts' (fun c o n r => e c o (fun w => ?_) (oth (Ne.symm (Nat.ne_of_lt (Heap.lt_size r))) r)) x p
  rcases List.mem_cons.mp w with w | w
  · rw [w] at r
    exact absurd (Heap.lt_size r) (Nat.lt_irrefl _)
  · exact n w
end
end Tw
/-! TwN: an object of a class without an own __eq__ is equal to itself. -/
namespace Tw
open PySem PySem.Spec PyProof.Rows L2 Sb
def strKeysB (es : Array DictEntry) : Bool := es.toList.all fun e => match e.key with | .str _ _ => true | _ => false
theorem strKeys_of {es : Array DictEntry} (h : strKeysB es = true) : StrKeys es := fun e he => by
  have h1 := (List.all_eq_true.mp h) e (by simpa using he)
  cases hk : e.key with
  | str n t => exact ⟨n, t, rfl⟩
  | _ => rw [hk] at h1; cases h1
/-- a class over object alone, without an own __eq__ and __ne__ -/
structure PlainEq (K : PySem.W.Frag) (C : Addr) : Prop where
  ex : ∃ (nm q : Str) (N : Addr) (bs : List Value) (hdct : Bool) (sn : List Str) (sub : List Value) (ab : Bool) (col : Option Bool) (dd : Option Addr) (k0 k1 k2 k3 k5 : Option Value) (newId : String) (cl : Value) (d : Option Addr) (es : Array DictEntry) (ep : Nat) (sl : Array (Option Value)),
    K.lookup C = some (excClassObj nm q C N bs [.type "object"] hdct sn sub ab col dd k0 k1 k2 k3 k5 newId) ∧ K.lookup N = some ⟨cl, d, .dict es ep, sl⟩ ∧ strKeysB es = true ∧ (nsFind es "__eq__").isNone = true ∧ (nsFind es "__ne__").isNone = true
theorem op_eqN {X : Cx} {C : Addr} (E : PlainEq X.K C) (hu : X.A.units < cLine) : OpR X (compareOp .Eq) (fun x y H Q => ∃ a dx fs, x = .ref a ∧ y = .ref a ∧ H a = some (.ins C dx fs) ∧ Q (.bl true) H) := by
  rintro pins s σ H x y v u Q I rx ry ⟨a, dx, fs, rfl, rfl, ha, q⟩
  cases rx
  cases ry
  have hx : ObjOk X.prog X.w H s.heap a (.ins C dx fs) := I.hok a _ ha
  obtain ⟨nm, q2, N, bs, hdct, sn, sub, ab, col, dd, k0, k1, k2, k3, k5, newId, cl, d, es, ep, sl, h1, h2, h3, h4, h5⟩ := E.ex
  obtain ⟨_, _, _, hg, _⟩ := hx
  exact compareOp_eq_same PySem.F.cmp_object ⟨_, nm, q2, N, bs, hdct, sn, sub, ab, col, dd, k0, k1, k2, k3, k5, newId, nsFind es, hg, rfl, I.kIn _ _ h1, ⟨_, es, ep, I.kIn _ _ h2, rfl, strKeys_of h3, fun _ => rfl⟩, Option.isNone_iff_eq_none.mp h4, Option.isNone_iff_eq_none.mp h5⟩ hu ⟨.bl true, H, I, rfl, q⟩
end Tw
/-! TwD: tuples out of a dict's entries; a dict out of a tuple of pairs. -/
namespace Tw
open PySem PySem.Spec PyProof.Rows L2 Sb
open AutoSeq1 (wpAny_loadPart')
set_option maxHeartbeats 2000000 in
theorem meets_tuple_items {prog : Program} {w : World} (r d : Addr) (es : Array DictEntry) (ep : Nat) :
    MeetsIn prog w (Builtin.«tuple.__new__» { pos := [.type "tuple", .ref r] }) (fun A R s => A.handled = none ∧ s.heap.IsItemsView r d ∧ s.heap.DictRaw d es ep ∧ es.size ≤ sizeLine ∧
      ∀ (h' : Heap) (tk : Nat) (as : List Addr), (∀ (b : Addr) (o : Obj), s.heap.get? b = some o → h'.get? b = some o) → as.length = es.size → PySem.W.DilG es s.heap.objs.size h' as →
        R (.ok (.ret (.ref h'.objs.size))) { heap := h'.push { cls := .type "tuple", data := .seq (as.map Value.ref).toArray }, gens := s.gens, drawn := s.drawn, toks := tk, os := s.os }) := by
  intro A R s hz
  obtain ⟨hp, g, dr, tk0, os⟩ := s
  obtain ⟨hh, hv, hd, hs, h⟩ := hz
  have hh1 : A.in1.handled = none := hh
  obtain ⟨o, ho, hc, hdd⟩ := id hv
  have k2 := AutoSeq1.sub_tuple_tuple
  have k3 := PySem.madeHere_tuple
  have k4 := PySem.init_tuple_lookup
  wp_walk using (PySem.W.dil_collect hh1 hv hd hs), wpAny_loadPart' ho
  intro h' tk as q1 q2 q3
  have e := h h' tk as q1 q2 q3
  wp_walk
  exact e
theorem inv_more {X : Cx} {pins : List (Addr × Obj)} {σ : L2.St} {H H' : Hp} {s : Shared} {h' : Heap} {tk : Nat} (I : Inv X pins σ H s) (hk : ∀ (b : Addr) (u : Obj), s.heap.get? b = some u → h'.get? b = some u) (hs : Same H H')
    (hn : ∀ b o, H b = none → H' b = some o → s.heap.objs.size ≤ b ∧ ObjOk X.prog X.w H' h' b o) : Inv X pins σ H' { heap := h', gens := s.gens, drawn := s.drawn, toks := tk, os := s.os } := by
  refine I.step (ch := []) (fun b hb => by cases hb) (fun b o _ _ _ h _ => hk b o h) (fun b o _ _ _ h _ => ⟨o.slots, hk b o h⟩) (fun b o _ h e => ?_) (fun b o _ h => ⟨o, hk b o h⟩) (fun b xs e => hs b _ e) (fun b o u e => hs b _ e) (fun b ps e => ⟨#[], by rw [hs b _ e]; simp⟩) (fun m h => ?_) (fun b o e => ?_) I.bare
  · cases e2 : H' b with
    | none => rfl
    | some o2 =>
      exact absurd (Heap.lt_size h) (Nat.not_lt.mpr (hn b o2 e e2).1)
  · obtain ⟨o, es, ep, h1, h2⟩ := h
    exact ⟨o, es, ep, hk _ _ h1, h2⟩
  · cases e2 : H b with
    | none => exact (hn b o e2 e).2
    | some o2 =>
      have e3 := hs b o2 e2
      rw [e] at e3
      cases e3
      exact (I.hok b o e2).stay (fun c u _ h => hk c u h) (fun c h => hs c _ h) (fun c xs h => hs c _ h)
theorem mt_itemsK {X : Cx} : MtR X "dict.items" (fun x xs H Q => ∃ (a : Addr) (kvs : List (Key × V)), x = .ref a ∧ xs = [] ∧ H a = some (.dK kvs) ∧ ∀ p, H p = none → Q (.ref p) (upd H p (L2.DX.itemsO p a))) := by
  rintro pins s σ H x xs v us Q I rx rv ⟨a, kvs, rfl, rfl, ha, q⟩
  cases rx
  cases rv
  obtain ⟨hl, nsys, vs, kv, D⟩ := dk_of I.hok ha
  obtain ⟨es, ep, raw, hsz, hes⟩ := D.raw
  have hd : ∃ o, s.heap.get? a = some o ∧ o.cls = .type "dict" := by
    have h1 := raw
    obtain ⟨o, h2, h3⟩ := h1
    exact ⟨o, h2, h3.1.1⟩
  refine call_meetsIn F.slot_dict_items hd F.entry_dict_items (F.args_dict_items_1 _) (meets_dict_items_raw a nsys) ⟨⟨es, ep, raw⟩, .ref s.heap.objs.size, _, inv_more I (H' := upd H s.heap.objs.size (L2.DX.itemsO s.heap.objs.size a)) (fun b u e => Heap.get?_push_of_some _ e) (same_upd I.fresh) (fun b o e e2 => ?_), rfl, q _ I.fresh⟩
  by_cases hb : b = s.heap.objs.size
  · subst hb
    rw [upd_same] at e2
    cases e2
    exact ⟨Nat.le_refl _, L2.DX.itemsO_ok (Heap.get?_push_size _ rfl)⟩
  · rw [upd_ne hb, e] at e2
    cases e2
/-- an exact tuple -/
def PTup (H : Hp) (t : Addr) (xs : List V) : Prop := ∃ o : Obj, H t = some (.frz o (.tup xs)) ∧ o.cls = .type "tuple" ∧ o.dict = none
def rTupItems : List V → Hp → VK → Prop := fun xs H Q => ∃ (p d : Addr) (kvs : List (Key × V)), xs = [.ref p] ∧ H p = some (L2.DX.itemsO p d) ∧ H d = some (.dK kvs) ∧
  ∀ (H' : Hp) (t : Addr) (ts : List Addr), Same H H' → H t = none → (∀ q ∈ ts, H q = none) → t ∉ ts → PTup H' t (ts.map V.ref) → Paired (fun q kv => H' q = some (.tup [kV kv.1, kv.2])) ts kvs → Q (.ref t) H'
theorem zip_lookup {α : Type} : ∀ {as : List Nat} {xs : List α} {j a : Nat} {x : α}, as.Pairwise (· < ·) → as[j]? = some a → xs[j]? = some x → (as.zip xs).lookup a = some x
  | [], _, _, _, _, _, h, _ => by cases h
  | _ :: _, [], _, _, _, _, _, h => by cases h
  | b :: as, y :: xs, 0, a, x, _, h1, h2 => by
    cases h1
    cases h2
    simp [List.lookup]
  | b :: as, y :: xs, j + 1, a, x, hp, h1, h2 => by
    have hm : a ∈ as := List.mem_of_getElem? (i := j) h1
    have hlt := (List.pairwise_cons.mp hp).1 a hm
    have ne : (a == b) = false := by simp; omega
    simp only [List.zip_cons_cons, List.lookup, ne]
    exact zip_lookup (List.pairwise_cons.mp hp).2 h1 h2
theorem lookup_at {α : Type} : ∀ {as : List Nat} {xs : List α} {a : Nat} {x : α}, (as.zip xs).lookup a = some x → ∃ j : Nat, as[j]? = some a ∧ xs[j]? = some x
  | [], _, _, _, h => by cases h
  | _ :: _, [], _, _, h => by cases h
  | b :: as, y :: xs, a, x, h => by
    by_cases e : a = b
    · subst e
      simp [List.lookup] at h
      exact ⟨0, rfl, by simp [h]⟩
    · have ne : (a == b) = false := by simpa using e
      simp only [List.zip_cons_cons, List.lookup, ne] at h
      obtain ⟨j, h1, h2⟩ := lookup_at h
      exact ⟨j + 1, h1, h2⟩
theorem pd_atR' {α β : Type} {F : α → β → Prop} : ∀ {xs : List α} {ys : List β} {i : Nat} {x : α}, Paired F xs ys → xs[i]? = some x → ∃ y, ys[i]? = some y ∧ F x y
  | _, _, 0, _, .cons h _, e => ⟨_, rfl, by cases e; exact h⟩
  | _, _, i + 1, _, .cons _ t, e => pd_atR' (i := i) t e
theorem pd_of {α β : Type} {F : α → β → Prop} : ∀ {xs : List α} {ys : List β}, xs.length = ys.length → (∀ (i : Nat) x y, xs[i]? = some x → ys[i]? = some y → F x y) → Paired F xs ys
  | [], [], _, _ => .nil
  | [], _ :: _, h, _ => by cases h
  | _ :: _, [], h, _ => by cases h
  | x :: xs, y :: ys, h, k => .cons (k 0 x y rfl rfl) (pd_of (Nat.succ.inj h) fun i a b h1 h2 => k (i + 1) a b h1 h2)
theorem vals_refs : ∀ as : List Addr, Vals (as.map V.ref) (as.map Value.ref)
  | [] => .nil
  | _ :: r => .cons rfl (vals_refs r)
theorem cr_tupItems {X : Cx} (hc : X.calm = true) : CallR X (.type "tuple") rTupItems := by
  rintro pins s σ H xs us Q I r ⟨p, d, kvs, rfl, hp, hd, q⟩
  obtain ⟨u, rfl, ru⟩ := r.one
  cases ru
  have hv : s.heap.IsItemsView p d := (show _ ∧ _ from I.hok p _ hp).1
  obtain ⟨hl, nsys, vs, kv, D⟩ := dk_of I.hok hd
  obtain ⟨es, ep, raw, hsz, hes⟩ := D.raw
  have hlv : kvs.length = vs.length := pd_len kv
  refine callType_newIn F.called_tuple (by decide) (F.typeCall_tuple_1 _) (F.newCall_tuple_1 _) (fun _ => rfl) F.entry_tuple_new (meets_tuple_items p d es ep) ⟨I.ok.hd hc, hv, raw, by omega, fun h' tk as k1 k2 k3 => ⟨⟨_, Heap.get?_push_size _ rfl, rfl⟩, ?_⟩⟩
  -- the pairs
  have hp1 : ∀ (j : Nat) (a : Addr), as[j]? = some a → ∃ kv0 : Key × V, kvs[j]? = some kv0 ∧ H a = none ∧ s.heap.objs.size ≤ a ∧ ∃ us, Vals [kV kv0.1, kv0.2] us ∧ IsTup h' a us.toArray := by
    intro j a ha
    obtain ⟨hj, hg⟩ := k3.pairs j a ha
    have hjk : j < kvs.length := by omega
    have hjv : j < vs.length := by omega
    obtain ⟨e1, e2⟩ := hes j hj vs[j].1 vs[j].2 (List.getElem?_eq_getElem hjv)
    have hab := k3.above a (List.mem_of_getElem? ha)
    obtain ⟨q2, h1, h2, h3⟩ := pd_atR' kv (List.getElem?_eq_getElem hjk)
    rw [List.getElem?_eq_getElem hjv] at h1
    cases h1
    refine ⟨kvs[j], List.getElem?_eq_getElem hjk, ?_, Nat.le_of_lt hab, [es[j].key, es[j].val], ?_, ⟨_, hg, rfl, _, rfl⟩⟩
    · exact I.hok.fresh (Nat.le_of_lt hab)
    · refine .cons (relV_key ?_) (.cons ?_ .nil)
      · rw [h2]
        exact e1
      · rw [e2]
        exact h3
  let H1 : Hp := fun b => match (as.zip kvs).lookup b with | some kv0 => some (.tup [kV kv0.1, kv0.2]) | none => H b
  have hH1 : ∀ (j : Nat) (a : Addr) (kv0 : Key × V), as[j]? = some a → kvs[j]? = some kv0 → H1 a = some (.tup [kV kv0.1, kv0.2]) := by
    intro j a kv0 ha hk
    show (match (as.zip kvs).lookup a with | some kv0 => some (HO.tup [kV kv0.1, kv0.2]) | none => H a) = _
    rw [zip_lookup k3.rise ha hk]
  have hsame : Same H H1 := fun b o e => by
    show (match (as.zip kvs).lookup b with | some kv0 => some (HO.tup [kV kv0.1, kv0.2]) | none => H b) = _
    cases e2 : (as.zip kvs).lookup b with
    | none => exact e
    | some kv0 =>
      obtain ⟨j, ha, _⟩ := lookup_at e2
      obtain ⟨_, _, h0, _⟩ := hp1 j b ha
      rw [h0] at e
      cases e
  have I1 : Inv X pins σ H1 { heap := h', gens := s.gens, drawn := s.drawn, toks := tk, os := s.os } := by
    refine inv_more I k1 hsame (fun b o e e2 => ?_)
    have e3 : (match (as.zip kvs).lookup b with | some kv0 => some (HO.tup [kV kv0.1, kv0.2]) | none => H b) = some o := e2
    cases e4 : (as.zip kvs).lookup b with
    | none =>
      rw [e4] at e3
      rw [show H b = some o from e3] at e
      cases e
    | some kv0 =>
      rw [e4] at e3
      cases e3
      obtain ⟨j, ha, hk⟩ := lookup_at e4
      obtain ⟨kv1, hk1, _, hb, us, hus, ht⟩ := hp1 j b ha
      rw [hk] at hk1
      cases hk1
      exact ⟨hb, (show 2 ≤ sizeLine by decide), us, hus, ht⟩
  have hT0 : H1 h'.objs.size = none := I1.fresh
  have hTs : ∀ q2 ∈ as, H q2 = none := fun q2 hq => by
    obtain ⟨j, hj⟩ := List.getElem?_of_mem hq
    exact (hp1 j q2 hj).choose_spec.2.1
  have hTn : h'.objs.size ∉ as := fun hm => by
    obtain ⟨j, hj⟩ := List.getElem?_of_mem hm
    obtain ⟨kv1, hk1, _⟩ := hp1 j _ hj
    rw [hH1 j _ _ hj hk1] at hT0
    cases hT0
  have hTH : H h'.objs.size = none := by
    cases e : H h'.objs.size with
    | none => rfl
    | some o =>
      rw [hsame _ _ e] at hT0
      cases hT0
  have hval : Vals (as.map V.ref) (as.map Value.ref) := vals_refs as
  refine ⟨.ref h'.objs.size, upd H1 h'.objs.size (.frz { cls := .type "tuple", data := .seq (as.map Value.ref).toArray } (.tup (as.map V.ref))), ?_, rfl, ?_⟩
  · refine inv_more (s := { heap := h', gens := s.gens, drawn := s.drawn, toks := tk, os := s.os }) I1 (h' := h'.push { cls := .type "tuple", data := .seq (as.map Value.ref).toArray }) (tk := tk) (fun b u e => Heap.get?_push_of_some _ e) (same_upd hT0) (fun b o e e2 => ?_)
    by_cases hb : b = h'.objs.size
    · subst hb
      rw [upd_same] at e2
      cases e2
      refine ⟨Nat.le_refl _, Heap.get?_push_size _ rfl, ?_, as.map Value.ref, hval, ⟨_, Heap.get?_push_size _ rfl, rfl, _, rfl⟩⟩
      rw [List.length_map]
      omega
    · rw [upd_ne hb, e] at e2
      cases e2
  · have s2 := same_upd (o := HO.frz { cls := .type "tuple", data := .seq (as.map Value.ref).toArray } (.tup (as.map V.ref))) hT0
    refine q _ h'.objs.size as (hsame.trans s2) hTH hTs hTn ⟨_, upd_same, rfl, rfl⟩ ?_
    refine pd_of (by omega) fun j a kv0 ha hk => s2 _ _ (hH1 j a kv0 ha hk)
end Tw
set_option maxHeartbeats 1000000
/-! TkZ3: list(zip(a, b)) of two rows, lists or tuples, as an expression. -/
namespace Tw
open PySem PySem.Spec PyProof.Rows L2 Sb
/-- a row at a, as what an iterator over it draws -/
structure Src (pg : Program) (w : World) (h : Heap) (a : Addr) (us : List Value) (o : Obj) (Hs : Heap → Prop) (G : Addr → Nat → Heap → Prop) : Prop where
  beg : Begins (.ref a) o Hs
  now : Hs h
  lt : h.objs.size ≥ Nat.succ a
  dr : ∀ (A : Around) (it : Addr), A.handled = none → a ≠ it → Draws pg w A it [it, a] us.toArray.size (fun i v => us.toArray[i]? = some v) (G it)
  g0 : ∀ (it : Addr) (h' : Heap), Hs h' → h'.get? it = some o → G it 0 h'
  dat : ∃ vs, o.data = .fields vs
theorem row_src {X : Cx} {pins : List (Addr × Obj)} {σ : L2.St} {H : Hp} {s : Shared} {a : Addr} {xs : List V} (I : Inv X pins σ H s) (g : SqR X.K H a xs) :
    ∃ us o Hs G, Vals xs us ∧ xs.length ≤ sizeLine ∧ Src X.prog X.w s.heap a us o Hs G := by
  rcases g with g | g
  · obtain ⟨us, rv, pl, hz⟩ := I.list g
    exact ⟨us, _, _, fun it i h => h.IsListIter it a i ∧ h.IsList a us.toArray, rv, hz, begins_list a us.toArray, pl.isList, (by obtain ⟨_, z, _⟩ := pl.isList; exact Heap.lt_size z), fun A it hh n => Draws.list hh it a n us.toArray, fun it h' q e => ⟨⟨_, e, rfl, rfl⟩, q⟩, ⟨_, rfl⟩⟩
  · obtain ⟨us, rv, pl, hz⟩ := I.tuple g
    exact ⟨us, _, _, fun it i h => h.IsTupleIter it a i ∧ h.IsTuple a us.toArray, rv, hz, begins_tuple a us.toArray, pl, (by obtain ⟨_, z, _⟩ := pl; exact Heap.lt_size z), fun A it hh n => Draws.tuple hh it a n us.toArray, fun it h' q e => ⟨⟨_, e, rfl, rfl⟩, q⟩, ⟨_, rfl⟩⟩
/-- what list(zip(a, b)) gives -/
def ZipGiven (H1 : Hp) (xs ys : List V) (Q : VK) : Prop := ∀ (H2 : Hp) (L : Addr) (Ts : List Addr), Same H1 H2 → H1 L = none → (∀ T ∈ Ts, H1 T = none) → H2 L = some (.lst (Ts.map V.ref)) → Paired (fun T p => H2 T = some (.tup [p.1, p.2])) Ts (xs.zip ys) → Q (.ref L) H2
def tListZ (K : PySem.W.Frag) (ta : TA) : TE := fun σ H Q => ta σ H fun vs H1 => ∃ a b xs ys, vs = [.ref a, .ref b] ∧ SqR K H1 a xs ∧ SqR K H1 b ys ∧ min xs.length ys.length ≤ sizeLine ∧ ZipGiven H1 xs ys Q
theorem arr_at {l : List Value} {i : Nat} {v : Value} (h : l.toArray[i]? = some v) : l[i]? = some v := by simpa using h
theorem pd_atR2 {α β : Type} {F : α → β → Prop} : ∀ {xs : List α} {ys : List β} {i : Nat} {y : β}, Paired F xs ys → ys[i]? = some y → ∃ x, xs[i]? = some x ∧ F x y
  | _, _, 0, _, .cons h _, e => ⟨_, rfl, by cases e; exact h⟩
  | _, _, i + 1, _, .cons _ t, e => pd_atR2 (i := i) t e
theorem pe_listZ {X : Cx} {e e2 : Expr} {ta : TA} {p p2 pos pos2 : Pos} (hc : X.calm = true) (hg : Gl X "list") (hm : X.mg "list" = none) (hgz : Gl X "zip") (hmz : X.mg "zip" = none) (ha : PA X [e, e2] ta)
    (hs : starEach [e, e2] X.env = (false, eval e X.env) :: starEach [e2] X.env := by rfl) (hpl : ((backTo pos2 (starEach [e2] X.env)).any fun x => x.1) = false := by rfl) :
    PE X (.Call (.Name "list" p) [.Call (.Name "zip" p2) [e, e2] [] pos2] [] pos) (tListZ X.K ta) := by
  refine ⟨fun pins s σ H Q I h => ?_⟩
  refine Call_ (ld_blt I hg hm boot_list (PyProof.Rows.callWith_type1 (args_cons (Call_ (ld_blt I hgz hmz boot_zip (PyProof.Rows.callWith_type1 (thn (ha.run pos2 pins s σ H _ I h) fun us s1 hh => ?_) hs hpl))) rfl) rfl))
  obtain ⟨vs, H1, I1, rv, a, b, xs, ys, rfl, g1, g2, hz, q⟩ := hh
  obtain rfl : us = [.ref a, .ref b] := by
    cases rv with
    | cons r1 rv =>
      cases rv with
      | cons r2 rv =>
        cases rv
        rw [show _ = Value.ref a from r1, show _ = Value.ref b from r2]
  obtain ⟨us, o1, Hs1, G1, r1, z1, S1⟩ := row_src I1 g1
  obtain ⟨ws, o2, Hs2, G2, r2, z2, S2⟩ := row_src I1 g2
  refine zip_begins2 S1.beg S2.beg S1.now S2.now fun h' k1 k2 k3 k4 k5 hsz hk => args_nil ?_
  have l1 : a < s1.heap.objs.size := S1.lt
  have l2 : b < s1.heap.objs.size := S2.lt
  have Z := zip_sep2 (N := s1.heap.objs.size) (fp1 := [a]) (fp2 := [b]) (fun d hd => by rw [List.mem_singleton.mp hd]; exact l1) (fun d hd => by rw [List.mem_singleton.mp hd]; exact l2)
  have n1 : a ≠ s1.heap.objs.size := Nat.ne_of_lt l1
  have n2 : b ≠ s1.heap.objs.size + 1 := Nat.ne_of_lt (Nat.lt_succ_of_lt l2)
  have e1 : us.toArray.size = xs.length := by rw [List.size_toArray]; exact r1.length.symm
  have e2 : ws.toArray.size = ys.length := by rw [List.size_toArray]; exact r2.length.symm
  have gz := list_of_zip (s := { s1 with heap := h' }) (A := X.A) (E := X.xe) (Q := EP X pins σ Q) Z (S1.dr X.A.in1.in1.in1 _ (I1.ok.hd hc) n1) (S2.dr X.A.in1.in1.in1 _ (I1.ok.hd hc) n2) (by rw [e1, e2]; exact hz) k1 k2 ⟨_, _, k3⟩ (S1.g0 _ _ (S1.beg.keeps _ _ S1.now hk) k4) (S2.g0 _ _ (S2.beg.keeps _ _ S2.now hk) k5)
    (fun d hd => by have q1 := S1.lt; show h'.objs.size ≥ _; rw [hsz]; rcases (show d = s1.heap.objs.size ∨ d = a by simpa using hd) with r | r <;> rw [r] <;> omega)
    (fun d hd => by have q1 := S2.lt; show h'.objs.size ≥ _; rw [hsz]; rcases (show d = s1.heap.objs.size + 1 ∨ d = b by simpa using hd) with r | r <;> rw [r] <;> omega)
  refine gz fun h2 tk acc c Ts ke hL pr => ?_
  have ke : ∀ (d : Addr) o, d ∉ [s1.heap.objs.size + 4, s1.heap.objs.size + 3, s1.heap.objs.size, s1.heap.objs.size + 1] → h'.get? d = some o → h2.get? d = some o := ke
  have hL : h2.get? h'.objs.size = some (lstO acc c) := hL
  have pr : Prs (fun i v => us.toArray[i]? = some v) (fun i v => ws.toArray[i]? = some v) (h'.objs.size + 1) (min us.toArray.size ws.toArray.size) h2 acc Ts := pr
  show EP X pins σ Q (.ref h'.objs.size) _
  have up : ∀ (d : Addr) o, s1.heap.get? d = some o → h2.get? d = some o := fun d o e => ke d o (fun w => by
    have l : d < s1.heap.objs.size := Heap.lt_size e
    have l : s1.heap.objs.size ≥ Nat.succ d := l
    rcases (show d = s1.heap.objs.size + 4 ∨ d = s1.heap.objs.size + 3 ∨ d = s1.heap.objs.size ∨ d = s1.heap.objs.size + 1 by simpa using w) with r | r | r | r <;> (rw [r] at l; omega)) (hk d o e)
  -- the pairs
  have hp : ∀ (j : Nat) (T : Addr), Ts[j]? = some T → ∃ pr : V × V, (xs.zip ys)[j]? = some pr ∧ H1 T = none ∧ s1.heap.objs.size ≤ T ∧ ∃ ts, Vals [pr.1, pr.2] ts ∧ IsTup h2 T ts.toArray := by
    intro j T hj
    obtain ⟨u, v, a1, a2, t⟩ := pr.pr j T hj
    have nw := (pr.new T (List.mem_of_getElem? hj)).1
    rw [hsz] at nw
    have lo : s1.heap.objs.size ≤ (T : Nat) := by omega
    obtain ⟨x, hx, rx⟩ := pd_atR2 r1 (arr_at a1)
    obtain ⟨y, hy, ry⟩ := pd_atR2 r2 (arr_at a2)
    refine ⟨(x, y), ?_, I1.hok.fresh lo, lo, [u, v], .cons rx (.cons ry .nil), ⟨_, t, rfl, _, rfl⟩⟩
    rw [List.getElem?_zip_eq_some]
    exact ⟨hx, hy⟩
  let H2 : Hp := fun d => match (Ts.zip (xs.zip ys)).lookup d with | some pr => some (.tup [pr.1, pr.2]) | none => H1 d
  have hH : ∀ (j : Nat) (T : Addr) (pr : V × V), Ts[j]? = some T → (xs.zip ys)[j]? = some pr → H2 T = some (.tup [pr.1, pr.2]) := by
    intro j T pr0 ht hk
    show (match (Ts.zip (xs.zip ys)).lookup T with | some pr => some (HO.tup [pr.1, pr.2]) | none => H1 T) = _
    rw [zip_lookup pr.up ht hk]
  have hsame : Same H1 H2 := fun d o e => by
    show (match (Ts.zip (xs.zip ys)).lookup d with | some pr => some (HO.tup [pr.1, pr.2]) | none => H1 d) = _
    cases e2 : (Ts.zip (xs.zip ys)).lookup d with
    | none => exact e
    | some pr0 =>
      obtain ⟨j, ht, _⟩ := lookup_at e2
      obtain ⟨_, _, h0, _⟩ := hp j d ht
      rw [h0] at e
      cases e
  have hLn : H1 h'.objs.size = none := I1.hok.fresh (by rw [hsz]; omega)
  have hLt : ∀ T ∈ Ts, T ≠ h'.objs.size := fun T hT e => by
    have := (pr.new T hT).1
    rw [e] at this
    exact absurd this (Nat.not_succ_le_self _)
  have hL2 : H2 h'.objs.size = none := by
    show (match (Ts.zip (xs.zip ys)).lookup h'.objs.size with | some pr => some (HO.tup [pr.1, pr.2]) | none => H1 _) = _
    cases e2 : (Ts.zip (xs.zip ys)).lookup h'.objs.size with
    | none => exact hLn
    | some pr0 =>
      obtain ⟨j, ht, _⟩ := lookup_at e2
      exact absurd rfl (hLt _ (List.mem_of_getElem? ht))
  have hTs : ∀ T ∈ Ts, H1 T = none := fun T hT => by
    obtain ⟨j, hj⟩ := List.getElem?_of_mem hT
    exact (hp j T hj).choose_spec.2.1
  have hlen : Ts.length = (xs.zip ys).length := by rw [pr.len, List.length_zip, e1, e2]
  have s2 := same_upd (o := HO.lst (Ts.map V.ref)) hL2
  refine ⟨.ref h'.objs.size, upd H2 h'.objs.size (.lst (Ts.map V.ref)), ?_, rfl, q _ h'.objs.size Ts (hsame.trans s2) hLn hTs upd_same (pd_of hlen fun j T pr0 ht hk => s2 _ _ (hH j T pr0 ht hk))⟩
  refine inv_more (s := s1) I1 up (hsame.trans s2) (fun d o e e2 => ?_)
  by_cases hb : d = h'.objs.size
  · subst hb
    rw [upd_same] at e2
    cases e2
    refine ⟨by rw [hsz]; omega, ?_, Ts.map Value.ref, c, vals_refs Ts, ?_⟩
    · rw [List.length_map, hlen, List.length_zip]
      exact hz
    · rw [hL, pr.it]
  · rw [upd_ne hb] at e2
    have e3 : (match (Ts.zip (xs.zip ys)).lookup d with | some pr => some (HO.tup [pr.1, pr.2]) | none => H1 d) = some o := e2
    cases e4 : (Ts.zip (xs.zip ys)).lookup d with
    | none =>
      rw [e4] at e3
      rw [show H1 d = some o from e3] at e
      cases e
    | some pr0 =>
      rw [e4] at e3
      cases e3
      obtain ⟨j, ht, hk⟩ := lookup_at e4
      obtain ⟨pr1, hk1, _, hb, ts, hts, htt⟩ := hp j d ht
      rw [hk] at hk1
      cases hk1
      exact ⟨hb, (show 2 ≤ sizeLine by decide), ts, hts, htt⟩
end Tw
set_option maxHeartbeats 1000000
/-! TkZ4: for i, (x, y) in enumerate(zip(a, b)). -/
namespace Tw
open PySem PySem.Spec PyProof.Rows L2 Sb
/-- a zip, whatever it remembers of the tuple it gave last -/
abbrev zipO (TI TO : Addr) (f0 : Value) (f1 : Bool) : Obj := { cls := .type "zip", dict := none, data := .fields #[f0, .bool f1, .bool false, .ref TI, .ref TO], slots := #[] }
section
variable {pg : Program} {w : World} {A : Around} {E : Value → Shared → Prop} {s : Shared} {z TI TO i1 i2 : Addr} {fp1 fp2 : List Addr} {n1 n2 k : Nat} {P1 P2 : Nat → Value → Prop} {G1 G2 : Nat → Heap → Prop} {a1 a2 f0 : Value} {f1 : Bool}
theorem gone_dead {T : Addr} {Q : Option Obj → Shared → Prop} (gT : s.heap.get? T = none) (q : Q none s) : wpAny (model pg w) A (loadIfAlive T) Q E s := by
  rw [← gT] at q
  exact fun _ _ _ => q
/-- what it gave last is gone: it may be used again -/
theorem gone_free {Q : Bool → Shared → Prop} (kz : s.heap.get? z = some (zipO TI TO f0 f1)) (g : f0 = .none ∨ ∃ T : Addr, f0 = rawInt T ∧ s.heap.get? T = none) (q : Q true s) : wpAny (model pg w) A (Builtin.SmallTypes.ownedTupleIsFree (.ref z)) Q E s := by
  unfold Builtin.SmallTypes.ownedTupleIsFree
  refine wpAny_bind (wpAny_field kz rfl (x := f0) rfl ?_)
  rcases g with rfl | ⟨T, rfl, gT⟩
  · exact wpAny_pure q
  · show wpAny _ _ (loadIfAlive ((T : Int).toNat) >>= fun a => _) _ _ _
    rw [Int.toNat_natCast]
    exact wpAny_bind (gone_dead gT (wpAny_pure q))
theorem free_next {Q : Value → Shared → Prop} (S : ZipSep2 z TI TO i1 i2 fp1 fp2) (D1 : Draws pg w A i1 fp1 n1 P1 G1) (D2 : Draws pg w A i2 fp2 n2 P2 G2) (kz : s.heap.get? z = some (zipO TI TO f0 f1)) (g : f0 = .none ∨ ∃ T : Addr, f0 = rawInt T ∧ s.heap.get? T = none)
    (kI : IsTupOf2 s.heap TI (.ref i1) (.ref i2)) (kO : IsTupOf2 s.heap TO a1 a2) (g1 : G1 k s.heap) (g2 : G2 k s.heap) (l1 : k < n1) (l2 : k < n2)
    (q : ∀ x y h' tk, P1 k x → P2 k y → h'.get? z = some (zipO TI TO (rawInt s.heap.objs.size) false) → IsTupOf2 h' TO x y → G1 (k + 1) h' → G2 (k + 1) h' → IsTupOf2 h' s.heap.objs.size x y → h'.objs.size = s.heap.objs.size + 1 →
      (∀ c o, c ≠ z → c ≠ TO → c ≠ i1 → c ≠ i2 → s.heap.get? c = some o → h'.get? c = some o) → Q (.ref s.heap.objs.size) { s with heap := h', toks := tk }) :
    wpAny (model pg w) A (Builtin.«zip.__next__» ⟨[.ref z], []⟩) (fun fin s' => ∃ v, fin = .done (.ret v) ∧ Q v s') E s := by
  obtain ⟨h0, gs, dr, t0, os⟩ := s
  show wpAny _ _ (field (.ref z) 2 >>= fun a => _) _ _ _
  refine wpAny_bind (wpAny_field kz rfl (x := .bool false) rfl ?_)
  show wpAny _ _ (field (.ref z) 3 >>= fun a => _) _ _ _
  refine wpAny_bind (wpAny_field kz rfl (x := .ref TI) rfl (wpAny_bind (wpAny_seqItems kI rfl ?_)))
  show wpAny _ _ (Builtin.SmallTypes.ownedTupleIsFree (.ref z) >>= fun a => _) _ _ _
  refine wpAny_bind (gone_free kz g ?_)
  simp only [if_true]
  refine wpAny_bind (wpAny_rule (wpAny_bind (wpAny_field kz rfl (x := .ref TO) rfl (wpAny_bind (wpAny_setField_rec kz (by simp) fun ha kza ea => ?_)))))
  have kza : ha.get? z = some (zipO TI TO .ellipsis f1) := kza
  have ea : Heap.SameBut z h0 ha := ea
  refine wpAny_bind ?_
  simp only [List.zipIdx_cons, List.zipIdx_nil, List.forIn_cons, List.forIn_nil]
  refine wpAny_bind (wpAny_bind (wpAny_onRaise ?_))
  show wpAny _ _ (Builtin.SmallTypes.nextOf (.ref i1) >>= fun a => _) _ _ ⟨ha, gs, dr, t0, os⟩
  refine wpAny_bind (D1.item k ⟨ha, gs, dr, t0, os⟩ _ _ l1 (D1.over g1 ea S.zf1) fun x hb tb px gb eb => wpAny_pure ?_)
  have eb : Heap.SameBut i1 ha hb := eb
  have kOb : IsTupOf2 hb TO a1 a2 := eb.extBut _ _ S.Ti1 (ea.extBut _ _ S.TOz kO)
  refine wpAny_bind (wpAny_seqItems (s := ⟨hb, gs, dr, tb, os⟩) kOb rfl (wpAny_bind (updateSeq_IsTupOf2 (s := ⟨hb, gs, dr, tb, os⟩) kOb fun hc kOc ec => ?_)))
  have kOc : IsTupOf2 hc TO x a2 := kOc
  have ec : Heap.SameBut TO hb hc := ec
  refine wpAny_bind (wpAny_letGo (wpAny_pure (wpAny_bind (wpAny_bind (wpAny_onRaise ?_)))))
  show wpAny _ _ (Builtin.SmallTypes.nextOf (.ref i2) >>= fun a => _) _ _ ⟨hc, gs, dr, tb, os⟩
  refine wpAny_bind (D2.item k ⟨hc, gs, dr, tb, os⟩ _ _ l2 (D2.over (D2.over (D2.over g2 ea S.zf2) eb S.sep1_2) ec S.Tf2) fun y hd td py gd ed => wpAny_pure ?_)
  have ed : Heap.SameBut i2 hc hd := ed
  have kOd : IsTupOf2 hd TO x a2 := ed.extBut _ _ S.Ti2 kOc
  refine wpAny_bind (wpAny_seqItems (s := ⟨hd, gs, dr, td, os⟩) kOd rfl (wpAny_bind (updateSeq_IsTupOf2 (s := ⟨hd, gs, dr, td, os⟩) kOd fun he kOe ee => ?_)))
  have kOe : IsTupOf2 he TO x y := kOe
  have ee : Heap.SameBut TO hd he := ee
  refine wpAny_bind (wpAny_letGo (wpAny_pure (wpAny_pure ?_)))
  refine wpAny_bind (wpAny_seqItems (s := ⟨he, gs, dr, td, os⟩) kOe rfl (wpAny_bind (wpAny_newTuple ?_)))
  have sz : he.objs.size = h0.objs.size := by rw [ee.1, ed.1, ec.1, eb.1, ea.1]
  have kzm : he.get? z = some (zipO TI TO .ellipsis f1) := ee.extBut _ _ S.TOz.symm (ed.extBut _ _ S.zi2 (ec.extBut _ _ S.TOz.symm (eb.extBut _ _ S.zi1 kza)))
  have all : ∀ c o, c ≠ z → c ≠ TO → c ≠ i1 → c ≠ i2 → h0.get? c = some o → he.get? c = some o := fun c o d1 d2 d3 d4 r => ee.extBut _ _ d2 (ed.extBut _ _ d4 (ec.extBut _ _ d2 (eb.extBut _ _ d3 (ea.extBut _ _ d1 r))))
  have ge1 : G1 (k + 1) he := D1.over (D1.over (D1.over gb ec S.Tf1) ed S.sep2_1) ee S.Tf1
  have ge2 : G2 (k + 1) he := D2.over gd ee S.Tf2
  have zl : z < he.objs.size := Heap.lt_size kzm
  show wpAny _ _ (Builtin.SmallTypes.ownedTupleHandOut (.ref z) (.ref he.objs.size) >>= fun a => _) _ _ ⟨he.push { cls := .type "tuple", data := .seq #[x, y] }, gs, dr, td, os⟩
  refine wpAny_bind ?_
  unfold Builtin.SmallTypes.ownedTupleHandOut
  refine wpAny_bind (wpAny_setField_rec (Heap.get?_push_of_some _ kzm) (by simp) fun hf kzf ef => ?_)
  have kzf : hf.get? z = some (zipO TI TO (rawInt he.objs.size) f1) := kzf
  refine wpAny_setField_rec kzf (by simp) fun hg kzg eg => ?_
  have kzg : hg.get? z = some (zipO TI TO (rawInt he.objs.size) false) := kzg
  have ef : Heap.SameBut z (he.push { cls := .type "tuple", data := .seq #[x, y] }) hf := ef
  have eg : Heap.SameBut z hf hg := eg
  have lift : ∀ c o, c ≠ z → he.get? c = some o → hg.get? c = some o := fun c o d1 r => eg.extBut _ _ d1 (ef.extBut _ _ d1 (Heap.get?_push_of_some _ r))
  have kT : IsTupOf2 hg he.objs.size x y := eg.extBut _ _ (Nat.ne_of_gt zl) (ef.extBut _ _ (Nat.ne_of_gt zl) (Heap.get?_push_size _ rfl))
  have sg : hg.objs.size = he.objs.size + 1 := by rw [eg.1, ef.1, Heap.size_push]
  rw [sz] at kzg kT sg
  refine wpAny_pure ⟨_, rfl, ?_⟩
  show Q (.ref he.objs.size) ⟨hg, gs, dr, td, os⟩
  rw [sz]
  exact q x y hg td px py kzg (lift _ _ S.TOz kOe) (D1.frame _ _ _ ge1 fun b hb o r => lift b o (fun u => S.zf1 (u ▸ hb)) r) (D2.frame _ _ _ ge2 fun b hb o r => lift b o (fun u => S.zf2 (u ▸ hb)) r) kT sg fun c o d1 d2 d3 d4 r => lift c o d1 (all c o d1 d2 d3 d4 r)
theorem free_stop {Q : Fin → Shared → Prop} (S : ZipSep2 z TI TO i1 i2 fp1 fp2) (D1 : Draws pg w A i1 fp1 n1 P1 G1) (D2 : Draws pg w A i2 fp2 n2 P2 G2) (kz : s.heap.get? z = some (zipO TI TO f0 f1)) (g : f0 = .none ∨ ∃ T : Addr, f0 = rawInt T ∧ s.heap.get? T = none)
    (kI : IsTupOf2 s.heap TI (.ref i1) (.ref i2)) (kO : IsTupOf2 s.heap TO a1 a2) (g1 : G1 k s.heap) (g2 : G2 k s.heap) (l1 : k ≤ n1) (l2 : k ≤ n2) (le : k = n1 ∨ k = n2)
    (q : ∀ h' tk e, (∀ c o, c ≠ z → c ≠ TO → c ≠ i1 → c ≠ i2 → s.heap.get? c = some o → h'.get? c = some o) → (∃ o, h'.get? e = some o ∧ o.cls = .type "StopIteration") → E (.ref e) { s with heap := h', toks := tk }) :
    wpAny (model pg w) A (Builtin.«zip.__next__» ⟨[.ref z], []⟩) Q E s := by
  obtain ⟨h0, gs, dr, t0, os⟩ := s
  show wpAny _ _ (field (.ref z) 2 >>= fun a => _) _ _ _
  refine wpAny_bind (wpAny_field kz rfl (x := .bool false) rfl ?_)
  show wpAny _ _ (field (.ref z) 3 >>= fun a => _) _ _ _
  refine wpAny_bind (wpAny_field kz rfl (x := .ref TI) rfl (wpAny_bind (wpAny_seqItems kI rfl ?_)))
  show wpAny _ _ (Builtin.SmallTypes.ownedTupleIsFree (.ref z) >>= fun a => _) _ _ _
  refine wpAny_bind (gone_free kz g ?_)
  simp only [if_true]
  refine wpAny_bind (wpAny_rule (wpAny_bind (wpAny_field kz rfl (x := .ref TO) rfl (wpAny_bind (wpAny_setField_rec kz (by simp) fun ha kza ea => ?_)))))
  have kza : ha.get? z = some (zipO TI TO .ellipsis f1) := kza
  have ea : Heap.SameBut z h0 ha := ea
  refine wpAny_bind ?_
  simp only [List.zipIdx_cons, List.zipIdx_nil, List.forIn_cons, List.forIn_nil]
  refine wpAny_bind (wpAny_bind (wpAny_onRaise ?_))
  show wpAny _ _ (Builtin.SmallTypes.nextOf (.ref i1) >>= fun a => _) _ _ ⟨ha, gs, dr, t0, os⟩
  by_cases l : k < n1
  · refine wpAny_bind (D1.item k ⟨ha, gs, dr, t0, os⟩ _ _ l (D1.over g1 ea S.zf1) fun x hb tb px gb eb => wpAny_pure ?_)
    have eb : Heap.SameBut i1 ha hb := eb
    have kOb : IsTupOf2 hb TO a1 a2 := eb.extBut _ _ S.Ti1 (ea.extBut _ _ S.TOz kO)
    refine wpAny_bind (wpAny_seqItems (s := ⟨hb, gs, dr, tb, os⟩) kOb rfl (wpAny_bind (updateSeq_IsTupOf2 (s := ⟨hb, gs, dr, tb, os⟩) kOb fun hc kOc ec => ?_)))
    have ec : Heap.SameBut TO hb hc := ec
    obtain rfl : k = n2 := by omega
    refine wpAny_bind (wpAny_letGo (wpAny_pure (wpAny_bind (wpAny_bind (wpAny_onRaise ?_)))))
    show wpAny _ _ (Builtin.SmallTypes.nextOf (.ref i2) >>= fun a => _) _ _ ⟨hc, gs, dr, tb, os⟩
    refine wpAny_bind (D2.done ⟨hc, gs, dr, tb, os⟩ _ _ (D2.over (D2.over (D2.over g2 ea S.zf2) eb S.sep1_2) ec S.Tf2) fun hd e ed he => ?_)
    have ed : Heap.ExtBut i2 hc hd := ed
    obtain ⟨oe, ge, ce⟩ := he
    have ge : hd.get? e = some oe := ge
    have kzd : hd.get? z = some (zipO TI TO .ellipsis f1) := ed _ _ S.zi2 (ec.extBut _ _ S.TOz.symm (eb.extBut _ _ S.zi1 kza))
    have nz : e ≠ z := fun r => by rw [r, kzd] at ge; cases ge; simp at ce
    refine wpAny_setField_rec (s := ⟨hd, gs, dr, tb, os⟩) kzd (by simp) fun hf _ ef => ?_
    have ef : Heap.SameBut z hd hf := ef
    exact q hf tb e (fun c o d1 d2 d3 d4 r => ef.extBut _ _ d1 (ed _ _ d4 (ec.extBut _ _ d2 (eb.extBut _ _ d3 (ea.extBut _ _ d1 r))))) ⟨oe, ef.extBut _ _ nz ge, ce⟩
  · obtain rfl : k = n1 := by omega
    refine wpAny_bind (D1.done ⟨ha, gs, dr, t0, os⟩ _ _ (D1.over g1 ea S.zf1) fun hd e ed he => ?_)
    have ed : Heap.ExtBut i1 ha hd := ed
    obtain ⟨oe, ge, ce⟩ := he
    have ge : hd.get? e = some oe := ge
    have kzd : hd.get? z = some (zipO TI TO .ellipsis f1) := ed _ _ S.zi1 kza
    have nz : e ≠ z := fun r => by rw [r, kzd] at ge; cases ge; simp at ce
    refine wpAny_setField_rec (s := ⟨hd, gs, dr, t0, os⟩) kzd (by simp) fun hf _ ef => ?_
    have ef : Heap.SameBut z hd hf := ef
    exact q hf t0 e (fun c o d1 d2 d3 d4 r => ef.extBut _ _ d1 (ed _ _ d3 (ea.extBut _ _ d1 r))) ⟨oe, ef.extBut _ _ nz ge, ce⟩
/-- a zip at its k-th turn, told by its own objects alone -/
def ZS (z TI TO i1 i2 : Addr) (G1 G2 : Nat → Heap → Prop) (k : Nat) (h : Heap) : Prop := IsTupOf2 h TI (.ref i1) (.ref i2) ∧ (∃ a b, IsTupOf2 h TO a b) ∧ G1 k h ∧ G2 k h ∧ ∃ f0 f1, h.get? z = some (zipO TI TO f0 f1) ∧ (f0 = .none ∨ ∃ T : Addr, f0 = rawInt T)
theorem zs_next {Q : Value → Shared → Prop} (S : ZipSep2 z TI TO i1 i2 fp1 fp2) (D1 : Draws pg w A.in1 i1 fp1 n1 P1 G1) (D2 : Draws pg w A.in1 i2 fp2 n2 P2 G2) (st : ZS z TI TO i1 i2 G1 G2 k s.heap) (l1 : k < n1) (l2 : k < n2)
    (q : ∀ x y h' tk, P1 k x → P2 k y → ZS z TI TO i1 i2 G1 G2 (k + 1) h' → IsTupOf2 h' s.heap.objs.size x y → h'.objs.size = s.heap.objs.size + 1 → (∀ c o, c ∉ [z, TO, i1, i2] → s.heap.get? c = some o → h'.get? c = some o) → Q (.ref s.heap.objs.size) { s with heap := h', toks := tk }) :
    wpAny (model pg w) A (Builtin.SmallTypes.nextOf (.ref z)) Q E s := by
  obtain ⟨kI, ⟨a, b, kO⟩, g1, g2, f0, f1, kz, kf⟩ := st
  have hT : s.TypeIs (.ref z) "zip" := ⟨_, kz, rfl⟩
  unfold Builtin.SmallTypes.nextOf
  by_cases c : ∃ (T : Addr) (oT : Obj), f0 = rawInt T ∧ s.heap.get? T = some oT
  · obtain ⟨T, oT, rfl, kT⟩ := c
    refine wpAny_bind (wpAny_callSpecial?_slot (name := Str.ofString "__next__") hT PySem.F.slot_zip_next (wpAny_call_entry PySem.F.slot_zip_next hT PySem.F.entry_zip_next (held_next S D1 D2 kz kT kI g1 g2 l1 l2 fun x y h' tk px py b1 b3 b4 b5 b6 b7 => wpAny_pure ?_) (PySem.F.args_zip_next_1 _)))
    exact q x y h' tk px py ⟨b7 _ _ S.TIz S.TIi1 S.TIi2 kI, ⟨a, b, b7 _ _ S.TOz (fun e => S.Tf1 (by rw [e]; exact S.mem1)) (fun e => S.Tf2 (by rw [e]; exact S.mem2)) kO⟩, b3, b4, _, _, b1, .inr ⟨T, rfl⟩⟩ b5 b6 fun c o n e => b7 c o (fun w => n (by simp [w])) (fun w => n (by simp [w])) (fun w => n (by simp [w])) e
  · have g : f0 = .none ∨ ∃ T : Addr, f0 = rawInt T ∧ s.heap.get? T = none := by
      rcases kf with e | ⟨T, e⟩
      · exact .inl e
      · refine .inr ⟨T, e, ?_⟩
        cases r : s.heap.get? T with
        | none => rfl
        | some oT => exact absurd ⟨T, oT, e, r⟩ c
    refine wpAny_bind (wpAny_callSpecial?_slot (name := Str.ofString "__next__") hT PySem.F.slot_zip_next (wpAny_call_entry PySem.F.slot_zip_next hT PySem.F.entry_zip_next (free_next S D1 D2 kz g kI kO g1 g2 l1 l2 fun x y h' tk px py b1 b2 b3 b4 b5 b6 b7 => wpAny_pure ?_) (PySem.F.args_zip_next_1 _)))
    exact q x y h' tk px py ⟨b7 _ _ S.TIz S.TITO S.TIi1 S.TIi2 kI, ⟨_, _, b2⟩, b3, b4, _, _, b1, .inr ⟨_, rfl⟩⟩ b5 b6 fun c o n e => b7 c o (fun w => n (by simp [w])) (fun w => n (by simp [w])) (fun w => n (by simp [w])) (fun w => n (by simp [w])) e
theorem zs_stop {Q : Value → Shared → Prop} (S : ZipSep2 z TI TO i1 i2 fp1 fp2) (D1 : Draws pg w A.in1 i1 fp1 n1 P1 G1) (D2 : Draws pg w A.in1 i2 fp2 n2 P2 G2) (st : ZS z TI TO i1 i2 G1 G2 k s.heap) (l1 : k ≤ n1) (l2 : k ≤ n2) (le : k = n1 ∨ k = n2)
    (q : ∀ h' tk e, (∀ c o, c ∉ [z, TO, i1, i2] → s.heap.get? c = some o → h'.get? c = some o) → (∃ o, h'.get? e = some o ∧ o.cls = .type "StopIteration") → E (.ref e) { s with heap := h', toks := tk }) :
    wpAny (model pg w) A (Builtin.SmallTypes.nextOf (.ref z)) Q E s := by
  obtain ⟨kI, ⟨a, b, kO⟩, g1, g2, f0, f1, kz, kf⟩ := st
  have hT : s.TypeIs (.ref z) "zip" := ⟨_, kz, rfl⟩
  unfold Builtin.SmallTypes.nextOf
  by_cases c : ∃ (T : Addr) (oT : Obj), f0 = rawInt T ∧ s.heap.get? T = some oT
  · obtain ⟨T, oT, rfl, kT⟩ := c
    refine wpAny_bind (wpAny_callSpecial?_slot (name := Str.ofString "__next__") hT PySem.F.slot_zip_next (wpAny_call_entry PySem.F.slot_zip_next hT PySem.F.entry_zip_next (held_stop S D1 D2 kz kT kI g1 g2 l1 l2 le fun h' tk e b7 he => ?_) (PySem.F.args_zip_next_1 _)))
    exact q h' tk e (fun c o n e => b7 c o (fun w => n (by simp [w])) (fun w => n (by simp [w])) (fun w => n (by simp [w])) e) he
  · have g : f0 = .none ∨ ∃ T : Addr, f0 = rawInt T ∧ s.heap.get? T = none := by
      rcases kf with e | ⟨T, e⟩
      · exact .inl e
      · refine .inr ⟨T, e, ?_⟩
        cases r : s.heap.get? T with
        | none => rfl
        | some oT => exact absurd ⟨T, oT, e, r⟩ c
    refine wpAny_bind (wpAny_callSpecial?_slot (name := Str.ofString "__next__") hT PySem.F.slot_zip_next (wpAny_call_entry PySem.F.slot_zip_next hT PySem.F.entry_zip_next (free_stop S D1 D2 kz g kI kO g1 g2 l1 l2 le fun h' tk e b7 he => ?_) (PySem.F.args_zip_next_1 _)))
    exact q h' tk e (fun c o n e => b7 c o (fun w => n (by simp [w])) (fun w => n (by simp [w])) (fun w => n (by simp [w])) (fun w => n (by simp [w])) e) he
/-- the next of enumerate(z): two tuples are new, the inner one first -/
theorem enz_next {e : Addr} {c : Int} {old : Value} {Q : Value → Shared → Prop} (S : ZipSep2 z TI TO i1 i2 fp1 fp2) (D1 : Draws pg w A.in1 i1 fp1 n1 P1 G1) (D2 : Draws pg w A.in1 i2 fp2 n2 P2 G2) (ke : IsEnum s.heap e z c old) (st : ZS z TI TO i1 i2 G1 G2 k s.heap) (l1 : k < n1) (l2 : k < n2)
    (u : e ≠ z ∧ e ≠ TI ∧ e ≠ TO ∧ (∀ b ∈ fp1, b ≠ e) ∧ ∀ b ∈ fp2, b ≠ e)
    (q : ∀ x y h' tk, P1 k x → P2 k y → IsEnumOut h' e z (c + 1) (.ref s.heap.objs.size) (s.heap.objs.size + 1) → ZS z TI TO i1 i2 G1 G2 (k + 1) h' → IsTupOf2 h' s.heap.objs.size x y → h'.get? (s.heap.objs.size + 1) = some { cls := .type "tuple", data := .seq #[.int c tk, .ref s.heap.objs.size] } →
      (∀ b o, b ∉ [e, z, TO, i1, i2] → s.heap.get? b = some o → h'.get? b = some o) → Q (.ref (s.heap.objs.size + 1)) { s with heap := h', toks := tk + 1 }) :
    wpAny (model pg w) A (Builtin.«enumerate.__next__» ⟨[.ref e], []⟩) (fun fin s' => ∃ v, fin = .done (.ret v) ∧ Q v s') E s := by
  obtain ⟨h0, gs, dr, t0, os⟩ := s
  show wpAny _ _ (field (.ref e) 2 >>= fun a => _) _ _ _
  refine wpAny_bind (wpAny_field ke rfl (x := .ref z) rfl (wpAny_bind (zs_next S D1 D2 st l1 l2 fun x y ha ta px py sa tta za ka => ?_)))
  have ka : ∀ b o, b ∉ [z, TO, i1, i2] → h0.get? b = some o → ha.get? b = some o := ka
  have za : ha.objs.size = h0.objs.size + 1 := za
  have tta : IsTupOf2 ha h0.objs.size x y := tta
  have ne1 : e ∉ [z, TO, i1, i2] := by
    have a := u.2.2.2.1 i1 S.mem1
    have b := u.2.2.2.2 i2 S.mem2
    simp only [List.mem_cons, List.not_mem_nil, or_false, not_or]
    exact ⟨u.1, u.2.2.1, fun r => a r.symm, fun r => b r.symm⟩
  have kea : IsEnum ha e z c old := ka _ _ ne1 ke
  show wpAny _ _ (field (.ref e) 3 >>= fun a => _) _ _ ⟨ha, gs, dr, ta, os⟩
  refine wpAny_bind (wpAny_field kea rfl (x := rawInt c) rfl ?_)
  show wpAny _ _ (field (.ref e) 4 >>= fun a => _) _ _ ⟨ha, gs, dr, ta, os⟩
  refine wpAny_bind (wpAny_field kea rfl (x := .none) rfl ?_)
  show wpAny _ _ (mkInt c >>= fun a => _) _ _ ⟨ha, gs, dr, ta, os⟩
  refine wpAny_bind (wpAny_mkInt ?_)
  show wpAny _ _ (setField (.ref e) 3 (rawInt (c + 1)) >>= fun a => _) _ _ ⟨ha, gs, dr, ta + 1, os⟩
  refine wpAny_bind (wpAny_setField_rec kea (by simp) fun hb keb eb => ?_)
  have eb : Heap.SameBut e ha hb := eb
  have keb : IsEnum hb e z (c + 1) old := keb
  show wpAny _ _ (setField (.ref e) 4 .none >>= fun a => _) _ _ ⟨hb, gs, dr, ta + 1, os⟩
  refine wpAny_bind (wpAny_setField_rec keb (by simp) fun hc kec ec => ?_)
  have ec : Heap.SameBut e hb hc := ec
  have kec : IsEnum hc e z (c + 1) old := kec
  show wpAny _ _ (newTuple [.int c ta, .ref h0.objs.size] >>= fun a => _) _ _ ⟨hc, gs, dr, ta + 1, os⟩
  refine wpAny_bind (wpAny_newTuple ?_)
  have zc : hc.objs.size = h0.objs.size + 1 := by rw [ec.1, eb.1, za]
  have el : h0.objs.size ≥ Nat.succ e := Heap.lt_size ke
  show wpAny _ _ (Builtin.SmallTypes.ownedTupleIsFree (.ref e) >>= fun a => _) _ _ ⟨hc.push { cls := .type "tuple", data := .seq #[.int c ta, .ref h0.objs.size] }, gs, dr, ta + 1, os⟩
  have ked : IsEnum (hc.push { cls := .type "tuple", data := .seq #[.int c ta, .ref h0.objs.size] }) e z (c + 1) old := Heap.get?_push_of_some _ kec
  have ttd : (hc.push { cls := .type "tuple", data := .seq #[.int c ta, .ref h0.objs.size] }).get? (h0.objs.size + 1) = some { cls := .type "tuple", data := .seq #[.int c ta, .ref h0.objs.size] } := by
    rw [← zc]
    exact Heap.get?_push_size _ rfl
  have kd : ∀ b o, b ≠ e → ha.get? b = some o → (hc.push { cls := .type "tuple", data := .seq #[.int c ta, .ref h0.objs.size] }).get? b = some o := fun b o n r => Heap.get?_push_of_some _ (ec.extBut _ _ n (eb.extBut _ _ n r))
  rw [zc]
  generalize (hc.push { cls := .type "tuple", data := .seq #[.int c ta, .ref h0.objs.size] }) = hd at ked ttd kd
  refine wpAny_bind ?_
  unfold Builtin.SmallTypes.ownedTupleIsFree
  refine wpAny_bind (wpAny_field ked rfl (x := .none) rfl (wpAny_pure ?_))
  simp only [if_true]
  refine wpAny_bind (wpAny_rule (wpAny_bind (wpAny_field ked rfl (x := old) rfl (wpAny_bind (wpAny_setField_rec ked (by simp) fun hf kef ef => ?_)))))
  have ef : Heap.SameBut e hd hf := ef
  have kef : IsEnum hf e z (c + 1) (.ref h0.objs.size) := kef
  show wpAny _ _ (Builtin.SmallTypes.ownedTupleHandOut (.ref e) (.ref (h0.objs.size + 1)) >>= fun a => _) _ _ ⟨hf, gs, dr, ta + 1, os⟩
  refine wpAny_bind ?_
  unfold Builtin.SmallTypes.ownedTupleHandOut
  refine wpAny_bind (wpAny_setField_rec kef (by simp) fun hg keg eg => ?_)
  have eg : Heap.SameBut e hf hg := eg
  have keg : IsEnumOut hg e z (c + 1) (.ref h0.objs.size) (h0.objs.size + 1) := keg
  refine wpAny_setField_rec keg (by simp) fun hi kei ei => ?_
  have ei : Heap.SameBut e hg hi := ei
  have kei : IsEnumOut hi e z (c + 1) (.ref h0.objs.size) (h0.objs.size + 1) := kei
  have up : ∀ b o, b ≠ e → hd.get? b = some o → hi.get? b = some o := fun b o n r => ei.extBut _ _ n (eg.extBut _ _ n (ef.extBut _ _ n r))
  have nT : ∀ j : Nat, h0.objs.size + j ≠ (e : Nat) := fun j r => by have : (e : Nat) < h0.objs.size := el; omega
  obtain ⟨w1, ⟨a1, b1, w2⟩, w3, w4, f0, f1, w5, w6⟩ := sa
  have up2 : ∀ b o, b ≠ e → ha.get? b = some o → hi.get? b = some o := fun b o n r => up b o n (kd b o n r)
  refine wpAny_bind (wpAny_letGo (wpAny_pure ⟨_, rfl, q x y hi ta px py kei ⟨up2 _ _ u.2.1.symm w1, ⟨a1, b1, up2 _ _ u.2.2.1.symm w2⟩, D1.frame _ _ _ w3 fun b hb o r => up2 b o (u.2.2.2.1 b hb) r, D2.frame _ _ _ w4 fun b hb o r => up2 b o (u.2.2.2.2 b hb) r, f0, f1, up2 _ _ u.1.symm w5, w6⟩ (up2 _ _ (nT 0) tta) (up _ _ (nT 1) ttd) fun b o n r => up2 b o (fun w => n (by simp [w])) (ka b o (fun w => n (List.mem_cons_of_mem _ w)) r)⟩))
end
end Tw
/-! TwG: a dict out of a tuple of pairs. -/
namespace Tw
open PySem PySem.Spec PyProof.Rows L2 Sb
theorem list_choice {α β : Type} : ∀ {P : Nat → α → β → Prop} (l : List α), (∀ (j : Nat) x, l[j]? = some x → ∃ y, P j x y) → ∃ L : List β, L.length = l.length ∧ ∀ (j : Nat) x, l[j]? = some x → ∃ y, L[j]? = some y ∧ P j x y
  | P, [], _ => ⟨[], rfl, fun j x h => by cases h⟩
  | P, a :: r, h => by
    obtain ⟨y, hy⟩ := h 0 a rfl
    obtain ⟨L, hl, hL⟩ := list_choice (P := fun j => P (j + 1)) r (fun j x e => h (j + 1) x e)
    refine ⟨y :: L, by rw [List.length_cons, List.length_cons, hl], fun j x e => ?_⟩
    cases j with
    | zero =>
      cases e
      exact ⟨y, rfl, hy⟩
    | succ j => exact hL j x e
theorem vals_refs_eq : ∀ {as : List Addr} {us : List Value}, Vals (as.map V.ref) us → us = as.map Value.ref
  | [], _, .nil => rfl
  | _ :: _, _, .cons h t => by
    rw [vals_refs_eq t, show _ = Value.ref _ from h]
    rfl
/-- a tuple of pairs, known as it stands -/
theorem dict_pairs {X : Cx} (hc : X.calm = true) {pins : List (Addr × Obj)} {s : Shared} {σ : L2.St} {H : Hp} (I : Inv X pins σ H s) {a : Addr} {o : Obj} {n : Nat} {ps : List Addr} {kvs : List (Key × V)} {Q : VK} (ho : s.heap.get? a = some o) (hcls : o.cls = .type "tuple") (hd : o.dict = none) (hdat : o.data = .seq (ps.map Value.ref).toArray n)
    (hp : Paired (fun p kv => SqT X.K H p [kV kv.1, kv.2]) ps kvs) (hl : ps.length ≤ sizeLine) (q : ∀ p, H p = none → Q (.ref p) (upd H p (.dK (mergeK [] kvs)))) :
    wpAny (model X.prog X.w) X.A (call (.type "dict") [.ref a]) (EP X pins σ Q) X.xe s := by
  obtain ⟨prs, kv, hlen, hh⟩ := pairs_of I hp
  obtain ⟨L, hL, hLL⟩ := list_choice (P := fun j (q : Key × Value) (y : Value × Value) => ∃ b, ps[j]? = some b ∧ IsTup s.heap b #[y.1, y.2] ∧ keyIs q.1 y.1 = true ∧ y.2 = q.2) prs (fun j q e => by
    obtain ⟨b, u, h1, h2, h3⟩ := hh j q e
    exact ⟨(u, q.2), b, h1, h2, h3, rfl⟩)
  have hLp : L.length = ps.length := by omega
  refine call_dict_pairs (knd := mixKind X.prog X.w) (kvs := prs) (PairArg.tuple a (ps.map Value.ref).toArray (fun j => (ps[j]?).getD 0) L) (I.ok.hd hc) ⟨⟨o, n, ho, hcls, hd, hdat⟩, by simp [hLp], fun j k v e => ?_⟩ ⟨by omega, fun i key v e => ?_⟩ (by omega) fun h' tk D hk => ?_
  · have hj : j < prs.length := by
      have := (List.getElem?_eq_some_iff.mp e).1
      omega
    obtain ⟨y, h1, b, h2, h3, _, _⟩ := hLL j _ (List.getElem?_eq_getElem hj)
    rw [e] at h1
    cases h1
    refine ⟨?_, ?_⟩
    · simp [h2]
    · show PairAt s.heap ((ps[j]?).getD 0) k v
      rw [h2]
      exact .inl h3
  · have hj : i < prs.length := by
      have := (List.getElem?_eq_some_iff.mp (show L[i]? = some (key, v) from e)).1
      omega
    obtain ⟨y, h1, b, _, _, h4, h5⟩ := hLL i _ (List.getElem?_eq_getElem hj)
    rw [show L[i]? = some (key, v) from e] at h1
    cases h1
    refine ⟨prs[i].1, ?_, h4⟩
    rw [List.getElem?_eq_getElem hj, show v = prs[i].2 from h5]
  · have hkv : KV (mergeK [] kvs) (merged [] prs) := KV.merge kv .nil
    have hll : (mergeK [] kvs).length ≤ 0 + kvs.length := length_mergeK kvs []
    have hkl : kvs.length = prs.length := pd_len kv
    refine ⟨.ref s.heap.objs.size, upd H s.heap.objs.size (.dK (mergeK [] kvs)), inv_more I (fun b u e => hk b u (fun z => by cases z) e) (same_upd I.fresh) (fun b o2 e e2 => ?_), rfl, q _ I.fresh⟩
    by_cases hb : b = s.heap.objs.size
    · subst hb
      rw [upd_same] at e2
      cases e2
      have hbig : (1 : Nat) < s.heap.objs.size := I.big
      exact ⟨Nat.le_refl _, dk_new (by omega) (by show (s.heap.objs.size == 1) = false; simp; omega) hkv D⟩
    · rw [upd_ne hb, e] at e2
      cases e2
/-- dict(t), t an exact tuple of pairs of our own, or a constant, empty one -/
theorem cr_dictT {X : Cx} (hc : X.calm = true) : CallR X (.type "dict") (fun xs H Q => ∃ (a : Addr) (ps : List Addr) (kvs : List (Key × V)), xs = [.ref a] ∧ PTup H a (ps.map V.ref) ∧ Paired (fun p kv => SqT X.K H p [kV kv.1, kv.2]) ps kvs ∧ ∀ p, H p = none → Q (.ref p) (upd H p (.dK (mergeK [] kvs)))) := by
  rintro pins s σ H xs us Q I r ⟨a, ps, kvs, rfl, ⟨o, ha, h1, h2⟩, hp, q⟩
  obtain ⟨u, rfl, ru⟩ := r.one
  cases ru
  have hx : s.heap.get? a = some o ∧ ObjOk X.prog X.w H s.heap a (.tup (ps.map V.ref)) := I.hok a _ ha
  obtain ⟨hg, hl, its, hv, o2, hg2, hc2, n, hd2⟩ := hx
  rw [hg] at hg2
  cases hg2
  rw [vals_refs_eq hv] at hd2
  exact dict_pairs hc I hg h1 h2 hd2 hp (by simpa using hl) q
/-- an empty tuple among the constants -/
def ETup (K : PySem.W.Frag) (a : Addr) : Prop := ∃ (o : Obj) (n : Nat), K.lookup a = some o ∧ o.cls = .type "tuple" ∧ o.dict = none ∧ o.data = .seq #[] n
theorem cr_dictE {X : Cx} (hc : X.calm = true) : CallR X (.type "dict") (fun xs H Q => ∃ (a : Addr), xs = [.ref a] ∧ ETup X.K a ∧ ∀ p, H p = none → Q (.ref p) (upd H p (.dK []))) := by
  rintro pins s σ H xs us Q I r ⟨a, rfl, ⟨o, n, ha, h1, h2, h3⟩, q⟩
  obtain ⟨u, rfl, ru⟩ := r.one
  cases ru
  exact dict_pairs (ps := []) (kvs := []) hc I (I.kIn _ _ ha) h1 h2 h3 .nil (Nat.zero_le _) q
end Tw
/-! TwM: a method called by keywords alone. -/
namespace Tw
open PySem PySem.Spec PyProof.Rows L2 Sb
section
variable {X : Cx} {CX : CXT} {k j : Nat} {f C : Addr} {fd : FuncData} {ps ks : List Str} {sp : Sp} {E : XK} {m : Str} {pos apos : Pos} {o : Expr} {kws : List Keyword} {to : TE} {tk : TA} {g : List Value → List Value → List Value} {gV : List V → List V → List V}
def tMethK0 (C : Addr) (m : Str) (n : Nat) (sp : Sp) (gV : List V → List V → List V) (E : XK) (to : TE) (tk : TA) : TE := fun σ H Q => to σ H fun x H1 => ∃ a dx fs, x = .ref a ∧ H1 a = some (.ins C dx fs) ∧ fs.lookup m = none ∧ tk σ H1 fun zs H2 => zs.length = n ∧ sp (gV [x] zs) H2 Q E
theorem pe_methK0 {pl : Sem Bool} (c : Cls X.K C) (hm : Meth X.K C m f) (F : FnOk X.prog X.w X.K X.mg X.base CX k f fd ps sp) (hr : Room k X.A) (hb : KBn X.K fd ps 1 ks g gV) (hx : Passes CX X E) (ho : PE X o to) (hkw : PK X kws tk)
    (hall : (backToKw pos (keywordEach kws X.env)).all (·.1.isSome) = true := by rfl) (hks : (backToKw pos (keywordEach kws X.env)).filterMap (·.1) = ks := by rfl)
    (hpl : ((backTo pos (starEach [] X.env)).any (·.1) || (backToKw pos (keywordEach kws X.env)).any (·.1.isNone)) = false := by rfl)
    (ht : eval (.Call (.Attribute o m apos) [] kws pos) X.env = (do
      let ov ← eval o X.env
      standAt apos.atName
      let (f, first) ← holding [ov] (getMethod ov m pl)
      callWith pos f first (backTo pos (starEach [] X.env)) (backToKw pos (keywordEach kws X.env))) := by rfl) :
    PE X (.Call (.Attribute o m apos) [] kws pos) (tMethK0 C m ks.length sp gV E to tk) := ⟨fun pins s σ H Q I h =>
  PySem.W.methodCall_KW (pl := pl) (thn (ho.run pins s σ H _ I h) fun u s1 z => by
    obtain ⟨y, H1, I1, ry, a, dx, fs, rfl, ea, l, q⟩ := z
    obtain rfl : u = Value.ref a := ry
    refine getmeth_ok I1 ea c hm l ?_
    refine PySem.W.callWith_KW0 (first := [.ref a]) (h₀ := X.base) I.ok.mod.kin hm.kp hall ?_ hpl
    refine thn (hkw.run pos pins s1 σ H1 _ I1 q) fun ws s2 ⟨zs, H2, I2, rz, l2, q2⟩ => ⟨I2.kIn, ?_⟩
    rw [hks]
    exact run_fnN (us := [.ref a]) (vs := [.ref a]) F hr hb hx I2 (.cons rfl .nil) rz rfl l2 q2) ht⟩
end
end Tw
/-! TwZ: for x, y, z in zip(a, b, c): three lists. -/
namespace Tw
open PySem PySem.Spec PyProof.Rows L2 Sb
def Itz3 (K : PySem.W.Frag) (a b c : Addr) : It where
  go := fun i H => ∃ (xs ys zs : List V) (x y z : V), SqL K H a xs ∧ SqL K H b ys ∧ SqL K H c zs ∧ xs[i]? = some x ∧ ys[i]? = some y ∧ zs[i]? = some z
  yld := fun i H v H' => ∃ T x y z, v = .ref T ∧ H T = none ∧ H' = upd H T (.tup [x, y, z]) ∧ (∀ xs, SqL K H a xs → xs[i]? = some x) ∧ (∀ ys, SqL K H b ys → ys[i]? = some y) ∧ ∀ zs, SqL K H c zs → zs[i]? = some z
  stop := fun i H => ∃ xs ys zs : List V, SqL K H a xs ∧ SqL K H b ys ∧ SqL K H c zs ∧ xs.length = i ∧ ys.length = i ∧ zs.length = i
theorem walk_zip3 {K : PySem.W.Frag} {a b c : Addr} {xs ys zs : List V} {n : Nat} (h1 : xs.length = n) (h2 : ys.length = n) (h3 : zs.length = n) : Walk (Itz3 K a b c) n (fun H => SqL K H a xs ∧ SqL K H b ys ∧ SqL K H c zs)
    (fun i H v H' => ∃ T x y z, v = .ref T ∧ H T = none ∧ H' = upd H T (.tup [x, y, z]) ∧ xs[i]? = some x ∧ ys[i]? = some y ∧ zs[i]? = some z) :=
  ⟨fun i H hi hG => ⟨xs, ys, zs, _, _, _, hG.1, hG.2.1, hG.2.2, List.getElem?_eq_getElem (by omega), List.getElem?_eq_getElem (by omega), List.getElem?_eq_getElem (by omega)⟩,
   fun H hG => ⟨xs, ys, zs, hG.1, hG.2.1, hG.2.2, h1, h2, h3⟩,
   fun i H x H' hi hG hy => by
    obtain ⟨T, x, y, z, e1, e2, e3, k1, k2, k3⟩ := hy
    exact ⟨T, x, y, z, e1, e2, e3, k1 _ hG.1, k2 _ hG.2.1, k3 _ hG.2.2⟩⟩
theorem inv_turns {X : Cx} {pins : List (Addr × Obj)} {σ : L2.St} {H : Hp} {s : Shared} {h' : Heap} {tk : Nat} {ch : List Addr} (I : Inv X pins σ H s) (hk : ∀ (b : Addr) (u : Obj), b ∉ ch → s.heap.get? b = some u → h'.get? b = some u) (ff : ∀ b ∈ ch, FpOk X pins H b) :
    Inv X pins σ H { heap := h', gens := s.gens, drawn := s.drawn, toks := tk, os := s.os } := by
  refine I.step (ch := ch) (fun b hb => ⟨(ff b hb).2.2.2.1, (ff b hb).2.1, (ff b hb).2.2.2.2.1, (ff b hb).2.2.2.2.2⟩) (fun b o _ _ n h _ => hk b o n h) (fun b o _ _ n h _ => ⟨o.slots, hk b o n h⟩) (fun b o _ _ e => e) (fun b o n h => ⟨o, hk b o n h⟩) (fun b xs e => e) (fun b o u e => e) (fun b ps e => ⟨#[], by rw [e]; simp⟩) (fun m h => ?_) (fun b o e => ?_) I.bare
  · obtain ⟨o, es, ep, h1, h2⟩ := h
    exact ⟨o, es, ep, hk _ _ (fun hm => (ff _ hm).2.1 rfl) h1, h2⟩
  · refine (I.hok b o e).stay (fun c u hc h => hk c u (fun hm => ?_) h) (fun c h => h) (fun c xs h => h)
    have h0 := (ff c hm).1
    rcases hc with rfl | hc
    · rw [e] at h0
      cases h0
    · rw [hc] at h0
      cases h0
theorem turn_zip3 {P : Program} {w : World} {K : PySem.W.Frag} {es : List Expr} {kx : Nat} {tp : Pos} {a b c z TI TO i1 i2 i3 : Addr} (Z : ZipSep3 z TI TO i1 i2 i3 [i1, a] [i2, b] [i3, c]) :
    Turn P w K (.Tuple es kx tp) (Itz3 K a b c) [z, TI, TO, i1, i2, i3] z (fun i h => IsZip h z TI TO .none ∧ IsTupOf3 h TI (.ref i1) (.ref i2) (.ref i3) ∧ (∃ x y u, IsTupOf3 h TO x y u) ∧ h.IsListIter i1 a i ∧ h.IsListIter i2 b i ∧ h.IsListIter i3 c i) where
  mem := by simp
  obj := by
    rintro i h ⟨h1, h2, ⟨x, y, u, h3⟩, ⟨o4, h4, _, q4⟩, ⟨o5, h5, _, q5⟩, ⟨o6, h6, _, q6⟩⟩ d hd
    rcases (show d = z ∨ d = TI ∨ d = TO ∨ d = i1 ∨ d = i2 ∨ d = i3 by simpa using hd) with rfl | rfl | rfl | rfl | rfl | rfl
    · exact ⟨_, h1, fun v q => nomatch q⟩
    · exact ⟨_, h2, fun v q => nomatch q⟩
    · exact ⟨_, h3, fun v q => nomatch q⟩
    · exact ⟨o4, h4, fun v q => by rw [q4] at q; cases q⟩
    · exact ⟨o5, h5, fun v q => by rw [q5] at q; cases q⟩
    · exact ⟨o6, h6, fun v q => by rw [q6] at q; cases q⟩
  keep := by
    rintro i h h' ⟨h1, h2, ⟨x, y, u, h3⟩, h4, h5, h6⟩ k
    exact ⟨k z (by simp) _ h1, k TI (by simp) _ h2, ⟨x, y, u, k TO (by simp) _ h3⟩, h4.at fun o q => k i1 (by simp) o q, h5.at fun o q => k i2 (by simp) o q, h6.at fun o q => k i3 (by simp) o q⟩
  item := by
    rintro X rfl rfl rfl cm i pins s σ H E I ff ⟨h1, h2, ⟨a1, a2, a3, h3⟩, h4, h5, h6⟩ ⟨xs, ys, zs, x, y, u, g1, g2, g3, e1, e2, e3⟩
    obtain ⟨us, rv, pl, hz⟩ := I.list g1
    obtain ⟨vs, rv2, pl2, hz2⟩ := I.list g2
    obtain ⟨ws, rv3, pl3, hz3⟩ := I.list g3
    obtain ⟨x', hx', rx⟩ := rv.get e1
    obtain ⟨y', hy', ry⟩ := rv2.get e2
    obtain ⟨u', hu', ru⟩ := rv3.get e3
    have lf : ∀ {l : Addr} {its : Array Value} {it : Addr} {j : Nat}, s.heap.IsList l its → s.heap.IsListIter it l j → l ≠ it := by
      intro l its it j hp hi z
      obtain ⟨o, q, q2, _⟩ := hi
      obtain ⟨o3, q3, q4, _⟩ := hp
      rw [← z, q3] at q
      cases q
      rw [q4] at q2
      injection q2 with q2
      exact absurd q2 (by decide)
    have sz : ∀ {l : List Value} {j : Nat} {v : Value}, l[j]? = some v → j < l.toArray.size := by
      intro l j v h
      have := (List.getElem?_eq_some_iff.mp h).1
      simpa using this
    refine wpAny_pyNext_zipD3_item Z (Draws.list (A := X.A.in1) (I.ok.hd cm) i1 a (lf pl.isList h4) us.toArray) (Draws.list (A := X.A.in1) (I.ok.hd cm) i2 b (lf pl2.isList h5) vs.toArray) (Draws.list (A := X.A.in1) (I.ok.hd cm) i3 c (lf pl3.isList h6) ws.toArray) h1 h2 h3 ⟨h4, pl.isList⟩ ⟨h5, pl2.isList⟩ ⟨h6, pl3.isList⟩ (sz hx') (sz hy') (sz hu') fun x1 x2 x3 h' tk p1 p2 p3 k1 k2 k3 k4 k5 k6 k7 k8 => ?_
    have ex : ∀ {l : List Value} {v w : Value}, l[i]? = some v → l.toArray[i]? = some w → w = v := by
      intro l v w h q
      rw [List.getElem?_toArray, h] at q
      cases q
      rfl
    obtain rfl := ex hx' p1
    obtain rfl := ex hy' p2
    obtain rfl := ex hu' p3
    refine ⟨_, rfl, wpAny_letOwnedTupleGo_zip (s := { s with heap := h', toks := tk }) k1 fun h'' he' sb => ?_⟩
    have lz : z < s.heap.objs.size := Heap.lt_size h1
    have hT2 : h''.get? s.heap.objs.size = some { cls := .type "tuple", data := .seq #[x1, x2, x3] } := (sb.2 _ (Nat.ne_of_gt lz)).trans k6
    have nw : ObjOk X.prog X.w (upd H s.heap.objs.size (.tup [x, y, u])) h'' s.heap.objs.size (.tup [x, y, u]) :=
      ⟨by show 3 ≤ sizeLine; decide, [x1, x2, x3], .cons rx (.cons ry (.cons ru .nil)), ⟨_, hT2, rfl, _, rfl⟩⟩
    have I1 : Inv X pins σ (upd H s.heap.objs.size (.tup [x, y, u])) { s with heap := h'', toks := tk } :=
      I.turnedNew (ch := [z, TI, TO, i1, i2, i3]) (fun d ob hb q => (sb.2 d (fun w => hb (by simp [w]))).trans (k8 d ob (fun w => hb (by simp [w])) (fun w => hb (by simp [w])) (fun w => hb (by simp [w])) (fun w => hb (by simp [w])) (fun w => hb (by simp [w])) q)) ff (Nat.le_refl _) nw
    have lt : ∀ d ∈ [z, TI, TO, i1, i2, i3], d < s.heap.objs.size := by
      intro d hd
      rcases (show d = z ∨ d = TI ∨ d = TO ∨ d = i1 ∨ d = i2 ∨ d = i3 by simpa using hd) with rfl | rfl | rfl | rfl | rfl | rfl
      · exact lz
      · exact Heap.lt_size h2
      · exact Heap.lt_size h3
      · obtain ⟨_, q, _⟩ := h4; exact Heap.lt_size q
      · obtain ⟨_, q, _⟩ := h5; exact Heap.lt_size q
      · obtain ⟨_, q, _⟩ := h6; exact Heap.lt_size q
    have nz : ∀ {d : Addr}, d ≠ z → h''.get? d = h'.get? d := fun n => sb.2 _ n
    have n1 : i1 ≠ z := fun w => Z.zf1 (by simp [w])
    have n2 : i2 ≠ z := fun w => Z.zf2 (by simp [w])
    have n3 : i3 ≠ z := fun w => Z.zf3 (by simp [w])
    have t2 : IsTupOf3 h' TI (.ref i1) (.ref i2) (.ref i3) := k8 TI _ Z.TIz Z.TITO Z.TIi1 Z.TIi2 Z.TIi3 h2
    refine ⟨.ref s.heap.objs.size, _, I1, rfl, ⟨_, x, y, u, rfl, I.hok.fresh (Nat.le_refl _), rfl, fun q hq => by rw [I.list_inj hq g1]; exact e1, fun q hq => by rw [I.list_inj hq g2]; exact e2, fun q hq => by rw [I.list_inj hq g3]; exact e3⟩, ⟨he', (nz Z.TIz).trans t2, ⟨x1, x2, x3, (nz Z.TOz).trans k2⟩, k3.1.at fun o q => (nz n1).trans q, k4.1.at fun o q => (nz n2).trans q, k5.1.at fun o q => (nz n3).trans q⟩, fun d hd => ?_⟩
    rw [upd_ne (Nat.ne_of_lt (lt d hd))]
    exact (ff d hd).1
  done := by
    rintro X rfl rfl rfl cm i pins s σ H E I ff ⟨h1, h2, ⟨a1, a2, a3, h3⟩, h4, h5, h6⟩ ⟨xs, ys, zs, g1, g2, g3, l1, l2, l3⟩
    obtain ⟨us, rv, pl, hz⟩ := I.list g1
    obtain ⟨vs, rv2, pl2, hz2⟩ := I.list g2
    obtain ⟨ws, rv3, pl3, hz3⟩ := I.list g3
    have lf : ∀ {l : Addr} {its : Array Value} {it : Addr} {j : Nat}, s.heap.IsList l its → s.heap.IsListIter it l j → l ≠ it := by
      intro l its it j hp hi z
      obtain ⟨o, q, q2, _⟩ := hi
      obtain ⟨o3, q3, q4, _⟩ := hp
      rw [← z, q3] at q
      cases q
      rw [q4] at q2
      injection q2 with q2
      exact absurd q2 (by decide)
    have s1 : us.toArray.size = i := by
      have := rv.length
      rw [List.size_toArray]
      omega
    have s2 : vs.toArray.size = i := by
      have := rv2.length
      rw [List.size_toArray]
      omega
    have s3 : ws.toArray.size = i := by
      have := rv3.length
      rw [List.size_toArray]
      omega
    refine wpAny_pyNext_zipD3_end (i := i) Z (Draws.list (A := X.A.in1) (I.ok.hd cm) i1 a (lf pl.isList h4) us.toArray) (Draws.list (A := X.A.in1) (I.ok.hd cm) i2 b (lf pl2.isList h5) vs.toArray) (Draws.list (A := X.A.in1) (I.ok.hd cm) i3 c (lf pl3.isList h6) ws.toArray) h1 h2 h3 ⟨h4, pl.isList⟩ ⟨h5, pl2.isList⟩ ⟨h6, pl3.isList⟩ (by omega) (by omega) (by omega) (.inl s1.symm) fun h' tk k => ⟨rfl, inv_turns (ch := [z, TI, TO, i1, i2, i3]) I (fun d u n e => k d u (fun w => n (by simp [w])) (fun w => n (by simp [w])) (fun w => n (by simp [w])) (fun w => n (by simp [w])) (fun w => n (by simp [w])) e) ff⟩
  self := by
    rintro A i s Q E ⟨h1, _⟩ h
    exact wpAny_pyIter_zip h1 h
def iZip3 (K : PySem.W.Frag) (ta : TA) : TI := fun σ H R => ta σ H fun vs H1 => ∃ a b c xs ys zs, vs = [.ref a, .ref b, .ref c] ∧ SqL K H1 a xs ∧ SqL K H1 b ys ∧ SqL K H1 c zs ∧ R (Itz3 K a b c) H1
theorem pi_zip3 {X : Cx} {e e2 e3 : Expr} {ta : TA} {p pos tpos : Pos} {elts : List Expr} {kk : Nat} (hg : Gl X "zip") (hm : X.mg "zip" = none) (ha : PA X [e, e2, e3] ta) (hs : starEach [e, e2, e3] X.env = (false, eval e X.env) :: starEach [e2, e3] X.env := by rfl) (hpl : ((backTo pos (starEach [e2, e3] X.env)).any fun x => x.1) = false := by rfl) :
    PI X (.Tuple elts kk tpos) (.Call (.Name "zip" p) [e, e2, e3] [] pos) (iZip3 X.K ta) := by
  refine ⟨fun pins s σ H R I h => Call_ (ld_blt I hg hm boot_zip (PyProof.Rows.callWith_type1 (thn (ha.run pos pins s σ H _ I h) fun us s1 hh => ?_) hs hpl))⟩
  obtain ⟨vs, H1, I1, rv, a, b, c, xs, ys, zs, rfl, g1, g2, g3, q⟩ := hh
  obtain rfl : us = [.ref a, .ref b, .ref c] := by
    cases rv with
    | cons r1 rv =>
      cases rv with
      | cons r2 rv =>
        cases rv with
        | cons r3 rv =>
          cases rv
          rw [show _ = Value.ref a from r1, show _ = Value.ref b from r2, show _ = Value.ref c from r3]
  obtain ⟨i1, _, p1, _⟩ := I1.list g1
  obtain ⟨i2, _, p2, _⟩ := I1.list g2
  obtain ⟨i3, _, p3, _⟩ := I1.list g3
  have l1 : a < s1.heap.objs.size := by obtain ⟨_, z, _⟩ := p1.isList; exact Heap.lt_size z
  have l2 : b < s1.heap.objs.size := by obtain ⟨_, z, _⟩ := p2.isList; exact Heap.lt_size z
  have l3 : c < s1.heap.objs.size := by obtain ⟨_, z, _⟩ := p3.isList; exact Heap.lt_size z
  refine zip_begins3 (begins_list a i1.toArray) (begins_list b i2.toArray) (begins_list c i3.toArray) p1.isList p2.isList p3.isList fun h' z1 z2 z3 k1 k2 k3 hsz hk => ?_
  refine wpAny_pyIter_zip z1 ?_
  have I2 : Inv X pins σ H1 { s1 with heap := h' } := I1.kept (t' := s1.toks) hk
  have fp : ∀ d ∈ [s1.heap.objs.size + 5, s1.heap.objs.size + 3, s1.heap.objs.size + 4, s1.heap.objs.size, s1.heap.objs.size + 1, s1.heap.objs.size + 2], FpOk X pins H1 d := fun d hd => by
    have le : s1.heap.objs.size ≤ d := by
      simp only [List.mem_cons, List.not_mem_nil, or_false] at hd
      omega
    exact I1.fpOk le (I1.hok.fresh le)
  have Z := zip_sep3 (N := s1.heap.objs.size) (fp1 := [a]) (fp2 := [b]) (fp3 := [c]) (fun d hd => by rw [List.mem_singleton.mp hd]; exact l1) (fun d hd => by rw [List.mem_singleton.mp hd]; exact l2) (fun d hd => by rw [List.mem_singleton.mp hd]; exact l3)
  exact ⟨_, _, _, Itz3 X.K a b c, H1, rfl, I2, turn_zip3 Z, ⟨z1, z2, ⟨_, _, _, z3⟩, ⟨_, k1, rfl, rfl⟩, ⟨_, k2, rfl, rfl⟩, ⟨_, k3, rfl, rfl⟩⟩, fp, q⟩
end Tw
set_option maxHeartbeats 1000000
/-! TkZ5: the walk for i, (x, y) in enumerate(zip(a, b)). -/
namespace Tw
open PySem PySem.Spec PyProof.Rows L2 Sb
/-- some objects of the iterator's own have changed, some are new -/
theorem inv_turnsMore {X : Cx} {pins : List (Addr × Obj)} {σ : L2.St} {H H' : Hp} {s : Shared} {h' : Heap} {tk : Nat} {ch : List Addr} (I : Inv X pins σ H s) (hk : ∀ (b : Addr) (u : Obj), b ∉ ch → s.heap.get? b = some u → h'.get? b = some u) (ff : ∀ b ∈ ch, FpOk X pins H b) (hs : Same H H')
    (hn : ∀ b o, H b = none → H' b = some o → s.heap.objs.size ≤ b ∧ ObjOk X.prog X.w H' h' b o) : Inv X pins σ H' { heap := h', gens := s.gens, drawn := s.drawn, toks := tk, os := s.os } := by
  have I1 : Inv X pins σ H { heap := h', gens := s.gens, drawn := s.drawn, toks := tk, os := s.os } := inv_turns I hk ff
  refine I.step (ch := ch) (fun b hb => ⟨(ff b hb).2.2.2.1, (ff b hb).2.1, (ff b hb).2.2.2.2.1, (ff b hb).2.2.2.2.2⟩) (fun b o _ _ n h _ => hk b o n h) (fun b o _ _ n h _ => ⟨o.slots, hk b o n h⟩) (fun b o _ h e => ?_) (fun b o n h => ⟨o, hk b o n h⟩) (fun b xs e => hs b _ e) (fun b o u e => hs b _ e) (fun b ps e => ⟨#[], by rw [hs b _ e]; simp⟩) (fun m h => ?_) (fun b o e => ?_) I.bare
  · cases e2 : H' b with
    | none => rfl
    | some o2 => exact absurd (Heap.lt_size h) (Nat.not_lt.mpr (hn b o2 e e2).1)
  · obtain ⟨o, es, ep, h1, h2⟩ := h
    exact ⟨o, es, ep, hk _ _ (fun hm => (ff _ hm).2.1 rfl) h1, h2⟩
  · cases e2 : H b with
    | none => exact (hn b o e2 e).2
    | some o2 =>
      have e3 := hs b o2 e2
      rw [e] at e3
      cases e3
      refine (I1.hok b o e2).stay (fun c u _ h => h) (fun c h => hs c _ h) (fun c xs h => hs c _ h)
/-- a row, a tuple or a list as b says -/
def SqB (K : PySem.W.Frag) (b : Bool) (H : Hp) (a : Addr) (xs : List V) : Prop := if b = true then SqT K H a xs else SqL K H a xs
theorem SqB.row {K : PySem.W.Frag} {b : Bool} {H : Hp} {a : Addr} {xs : List V} (h : SqB K b H a xs) : SqR K H a xs := by
  cases b
  · exact .inl h
  · exact .inr h
theorem SqB.same {K : PySem.W.Frag} {b : Bool} {H H' : Hp} {a : Addr} {xs : List V} (e : Same H H') (h : SqB K b H a xs) : SqB K b H' a xs := by
  cases b
  · exact e.seq h
  · exact Same.tupq e h
theorem sqb_of {K : PySem.W.Frag} {H : Hp} {a : Addr} {xs : List V} (h : SqR K H a xs) : ∃ b, SqB K b H a xs := by
  rcases h with h | h
  · exact ⟨false, h⟩
  · exact ⟨true, h⟩
def RIt (b : Bool) (h : Heap) (it a : Addr) (i : Nat) : Prop := if b = true then h.IsTupleIter it a i else h.IsListIter it a i
def RSq (b : Bool) (h : Heap) (a : Addr) (us : Array Value) : Prop := if b = true then h.IsTuple a us else h.IsList a us
def itO (b : Bool) (a : Addr) : Obj := if b = true then { cls := .type "tuple_iterator", data := .fields #[.ref a, .int 0 0] } else { cls := .type "list_iterator", data := .fields #[.ref a, .int 0 0] }
theorem rit_live {b : Bool} {h : Heap} {it a : Addr} {i : Nat} (q : RIt b h it a i) : ∃ o, h.get? it = some o ∧ ∀ v, o.data ≠ .cell v := by
  cases b
  · obtain ⟨o, h1, _, h3⟩ := q
    exact ⟨o, h1, fun v r => by rw [h3] at r; cases r⟩
  · obtain ⟨o, h1, _, h3⟩ := q
    exact ⟨o, h1, fun v r => by rw [h3] at r; cases r⟩
theorem rit_at {b : Bool} {h h' : Heap} {it a : Addr} {i : Nat} (q : RIt b h it a i) (k : ∀ o, h.get? it = some o → h'.get? it = some o) : RIt b h' it a i := by
  cases b
  · exact Heap.IsListIter.at q k
  · exact Heap.IsTupleIter.at q k
theorem rsq_draws {X : Cx} {pins : List (Addr × Obj)} {σ : L2.St} {H : Hp} {s : Shared} {a : Addr} {xs : List V} {b : Bool} (I : Inv X pins σ H s) (g : SqB X.K b H a xs) :
    ∃ us, Vals xs us ∧ xs.length ≤ sizeLine ∧ RSq b s.heap a us.toArray ∧ s.heap.objs.size ≥ Nat.succ a ∧ Begins (.ref a) (itO b a) (fun h => RSq b h a us.toArray) ∧ ∀ (A : Around) (it : Addr), A.handled = none → a ≠ it → Draws X.prog X.w A it [it, a] us.toArray.size (fun i v => us.toArray[i]? = some v) (fun i h => RIt b h it a i ∧ RSq b h a us.toArray) := by
  cases b
  · obtain ⟨us, rv, pl, hz⟩ := I.list g
    exact ⟨us, rv, hz, pl.isList, (by obtain ⟨_, z, _⟩ := pl.isList; exact Heap.lt_size z), begins_list a us.toArray, fun A it hh n => Draws.list hh it a n us.toArray⟩
  · obtain ⟨us, rv, pl, hz⟩ := I.tuple g
    exact ⟨us, rv, hz, pl, (by obtain ⟨_, z, _⟩ := pl; exact Heap.lt_size z), begins_tuple a us.toArray, fun A it hh n => Draws.tuple hh it a n us.toArray⟩
theorem sqb_inj {X : Cx} {pins : List (Addr × Obj)} {σ : L2.St} {H : Hp} {s : Shared} {a : Addr} {xs ys : List V} {b : Bool} (I : Inv X pins σ H s) (g : SqB X.K b H a xs) (g2 : SqB X.K b H a ys) : xs = ys := by
  cases b
  · exact I.list_inj g g2
  · exact I.tuple_inj g g2
/-- enumerate over the pairs of two rows -/
def Iez (K : PySem.W.Frag) (b1 b2 : Bool) (a b : Addr) : It where
  go := fun i H => ∃ (xs ys : List V) (x y : V), SqB K b1 H a xs ∧ SqB K b2 H b ys ∧ xs[i]? = some x ∧ ys[i]? = some y
  yld := fun i H v H' => ∃ T T2 x y, v = .ref T2 ∧ H T = none ∧ H T2 = none ∧ T ≠ T2 ∧ H' = upd (upd H T (.tup [x, y])) T2 (.tup [.int (i : Nat), .ref T]) ∧ (∀ xs, SqB K b1 H a xs → xs[i]? = some x) ∧ ∀ ys, SqB K b2 H b ys → ys[i]? = some y
  stop := fun i H => ∃ xs ys : List V, SqB K b1 H a xs ∧ SqB K b2 H b ys ∧ min xs.length ys.length = i
theorem walk_ez {K : PySem.W.Frag} {b1 b2 : Bool} {a b : Addr} {xs ys : List V} : Walk (Iez K b1 b2 a b) (min xs.length ys.length) (fun H => SqB K b1 H a xs ∧ SqB K b2 H b ys)
    (fun i H v H' => ∃ T T2 x y, v = .ref T2 ∧ H T = none ∧ H T2 = none ∧ T ≠ T2 ∧ H' = upd (upd H T (.tup [x, y])) T2 (.tup [.int (i : Nat), .ref T]) ∧ xs[i]? = some x ∧ ys[i]? = some y) :=
  ⟨fun i H hi hG => ⟨xs, ys, _, _, hG.1, hG.2, List.getElem?_eq_getElem (by omega), List.getElem?_eq_getElem (by omega)⟩, fun H hG => ⟨xs, ys, hG.1, hG.2, rfl⟩, fun i H v H' hi hG hy => by
    obtain ⟨T, T2, x, y, e1, e2, e3, e4, e5, k1, k2⟩ := hy
    exact ⟨T, T2, x, y, e1, e2, e3, e4, e5, k1 _ hG.1, k2 _ hG.2⟩⟩
theorem ZS.map {z TI TO i1 i2 : Addr} {G1 G2 G3 G4 : Nat → Heap → Prop} {k : Nat} {h : Heap} (q : ZS z TI TO i1 i2 G1 G2 k h) (e1 : G1 k h → G3 k h) (e2 : G2 k h → G4 k h) : ZS z TI TO i1 i2 G3 G4 k h := ⟨q.1, q.2.1, e1 q.2.2.1, e2 q.2.2.2.1, q.2.2.2.2⟩
theorem turn_enz {P : Program} {w : World} {K : PySem.W.Frag} {es : List Expr} {kx : Nat} {tp : Pos} {b1 b2 : Bool} {a b e z TI TO i1 i2 : Addr} (Z : ZipSep2 z TI TO i1 i2 [i1, a] [i2, b]) (n1 : a ≠ i1) (n2 : b ≠ i2) (u : e ≠ z ∧ e ≠ TI ∧ e ≠ TO ∧ (∀ d ∈ [i1, a], d ≠ e) ∧ ∀ d ∈ [i2, b], d ≠ e) :
    Turn P w K (.Tuple es kx tp) (Iez K b1 b2 a b) [e, z, TI, TO, i1, i2] e (fun i h => (∃ old, IsEnum h e z (i : Nat) old) ∧ ZS z TI TO i1 i2 (fun i h => RIt b1 h i1 a i) (fun i h => RIt b2 h i2 b i) i h) where
  mem := by simp
  obj := by
    rintro i h ⟨⟨old, h1⟩, h2, ⟨x, y, h3⟩, h4, h5, f0, f1, h6, _⟩ d hd
    rcases (show d = e ∨ d = z ∨ d = TI ∨ d = TO ∨ d = i1 ∨ d = i2 by simpa using hd) with rfl | rfl | rfl | rfl | rfl | rfl
    · exact ⟨_, h1, fun v q => nomatch q⟩
    · exact ⟨_, h6, fun v q => nomatch q⟩
    · exact ⟨_, h2, fun v q => nomatch q⟩
    · exact ⟨_, h3, fun v q => nomatch q⟩
    · exact rit_live h4
    · exact rit_live h5
  keep := by
    rintro i h h' ⟨⟨old, h1⟩, h2, ⟨x, y, h3⟩, h4, h5, f0, f1, h6, h7⟩ k
    exact ⟨⟨old, k e (by simp) _ h1⟩, k TI (by simp) _ h2, ⟨x, y, k TO (by simp) _ h3⟩, rit_at h4 fun o q => k i1 (by simp) o q, rit_at h5 fun o q => k i2 (by simp) o q, f0, f1, k z (by simp) _ h6, h7⟩
  item := by
    rintro X rfl rfl rfl cm i pins s σ H E I ff ⟨⟨old, h1⟩, h2⟩ ⟨xs, ys, x, y, g1, g2, e1, e2⟩
    obtain ⟨us, rv, _, S1, lt1, _, D1⟩ := rsq_draws I g1
    obtain ⟨ws, rv2, _, S2, lt2, _, D2⟩ := rsq_draws I g2
    have hT : s.TypeIs (.ref e) "enumerate" := ⟨_, h1, rfl⟩
    obtain ⟨x', hx', rx⟩ := rv.get e1
    obtain ⟨y', hy', ry⟩ := rv2.get e2
    have sz : ∀ {l : List Value} {j : Nat} {v : Value}, l[j]? = some v → j < l.toArray.size := by
      intro l j v h
      have := (List.getElem?_eq_some_iff.mp h).1
      simpa using this
    have lt : ∀ d ∈ [e, z, TI, TO, i1, i2], d < s.heap.objs.size := by
      obtain ⟨k2, ⟨_, _, k3⟩, k4, k5, f0, f1, k6, _⟩ := h2
      intro d hd
      rcases (show d = e ∨ d = z ∨ d = TI ∨ d = TO ∨ d = i1 ∨ d = i2 by simpa using hd) with rfl | rfl | rfl | rfl | rfl | rfl
      · exact Heap.lt_size h1
      · exact Heap.lt_size k6
      · exact Heap.lt_size k2
      · exact Heap.lt_size k3
      · obtain ⟨_, q, _⟩ := rit_live k4; exact Heap.lt_size q
      · obtain ⟨_, q, _⟩ := rit_live k5; exact Heap.lt_size q
    unfold pyNext
    refine wpAny_bind (wpAny_attempt (wpAny_callSpecial?_slot (name := Str.ofString "__next__") hT F.slot_enumerate_next
      (wpAny_call_entry F.slot_enumerate_next hT F.entry_enumerate_next (enz_next Z (D1 X.A.in1.in1 i1 (I.ok.hd cm) n1) (D2 X.A.in1.in1 i2 (I.ok.hd cm) n2) h1 (h2.map (fun q => ⟨q, S1⟩) fun q => ⟨q, S2⟩) (sz hx') (sz hy') u fun x1 x2 h' tk p1 p2 k1 k2 k3 k4 k5 => wpAny_pure ?_) (F.args_enumerate_next_1 _))))
    have ex : ∀ {l : List Value} {v w : Value}, l[i]? = some v → l.toArray[i]? = some w → w = v := by
      intro l v w h q
      rw [List.getElem?_toArray, h] at q
      cases q
      rfl
    obtain rfl := ex hx' p1
    obtain rfl := ex hy' p2
    refine ⟨_, rfl, wpAny_letOwnedTupleGo_enum (s := { s with heap := h', toks := tk + 1 }) k1 fun h'' he' sb => ?_⟩
    have sb : Heap.SameBut e h' h'' := sb
    have le : e < s.heap.objs.size := lt e (by simp)
    have hN1 : H s.heap.objs.size = none := I.hok.fresh (Nat.le_refl _)
    have hN2 : H (s.heap.objs.size + 1) = none := I.hok.fresh (Nat.le_succ _)
    have k3' : h''.get? s.heap.objs.size = some { cls := .type "tuple", data := .seq #[x1, x2] } := (sb.2 _ (Nat.ne_of_gt le)).trans k3
    have k4' : h''.get? (s.heap.objs.size + 1) = some { cls := .type "tuple", data := .seq #[.int (i : Nat) tk, .ref s.heap.objs.size] } := (sb.2 _ (Nat.ne_of_gt (Nat.lt_succ_of_lt le))).trans k4
    have nn : s.heap.objs.size ≠ s.heap.objs.size + 1 := Nat.ne_of_lt (Nat.lt_succ_self _)
    have hs : Same H (upd (upd H s.heap.objs.size (.tup [x, y])) (s.heap.objs.size + 1) (.tup [.int (i : Nat), .ref s.heap.objs.size])) := (same_upd hN1).trans (same_upd (by rw [upd_ne nn.symm]; exact hN2))
    have I1 : Inv X pins σ (upd (upd H s.heap.objs.size (.tup [x, y])) (s.heap.objs.size + 1) (.tup [.int (i : Nat), .ref s.heap.objs.size])) { s with heap := h'', toks := tk + 1 } := by
      refine inv_turnsMore I (ch := [e, z, TI, TO, i1, i2]) (fun d o n q => (sb.2 d (fun w => n (by simp [w]))).trans (k5 d o (fun w => n (by simp only [List.mem_cons, List.not_mem_nil, or_false] at w ⊢; rcases w with w | w | w | w | w <;> simp [w])) q)) ff hs fun d o en eo => ?_
      by_cases c1 : d = s.heap.objs.size + 1
      · subst c1
        rw [upd_same] at eo
        cases eo
        exact ⟨Nat.le_succ _, (show 2 ≤ sizeLine by decide), [.int (i : Nat) tk, .ref s.heap.objs.size], .cons ⟨_, rfl⟩ (.cons rfl .nil), ⟨_, k4', rfl, _, rfl⟩⟩
      · rw [upd_ne c1] at eo
        by_cases c2 : d = s.heap.objs.size
        · subst c2
          rw [upd_same] at eo
          cases eo
          exact ⟨Nat.le_refl _, (show 2 ≤ sizeLine by decide), [x1, x2], .cons rx (.cons ry .nil), ⟨_, k3', rfl, _, rfl⟩⟩
        · rw [upd_ne c2, en] at eo
          cases eo
    refine ⟨.ref (s.heap.objs.size + 1), _, I1, rfl, ⟨_, _, x, y, rfl, hN1, hN2, nn, rfl, fun q hq => by rw [sqb_inj I hq g1]; exact e1, fun q hq => by rw [sqb_inj I hq g2]; exact e2⟩, ⟨⟨.ref s.heap.objs.size, ?_⟩, ?_⟩, fun d hd => ?_⟩
    · rw [show (((i + 1 : Nat) : Int)) = (i : Int) + 1 by omega]
      exact he'
    · have nz : ∀ {d : Addr} {o : Obj}, d ≠ e → h'.get? d = some o → h''.get? d = some o := fun n q => (sb.2 _ n).trans q
      obtain ⟨m2, ⟨_, _, m3⟩, m4, m5, f0, f1, m6, m7⟩ := k2
      exact ⟨nz u.2.1.symm m2, ⟨_, _, nz u.2.2.1.symm m3⟩, rit_at m4.1 fun o q => nz (u.2.2.2.1 i1 (by simp)) q, rit_at m5.1 fun o q => nz (u.2.2.2.2 i2 (by simp)) q, f0, f1, nz u.1.symm m6, m7⟩
    · rw [upd_ne (Nat.ne_of_lt (Nat.lt_succ_of_lt (lt d hd))), upd_ne (Nat.ne_of_lt (lt d hd))]
      exact (ff d hd).1
  done := by
    rintro X rfl rfl rfl cm i pins s σ H E I ff ⟨⟨old, h1⟩, h2⟩ ⟨xs, ys, g1, g2, le⟩
    obtain ⟨us, rv, _, S1, lt1, _, D1⟩ := rsq_draws I g1
    obtain ⟨ws, rv2, _, S2, lt2, _, D2⟩ := rsq_draws I g2
    have hT : s.TypeIs (.ref e) "enumerate" := ⟨_, h1, rfl⟩
    have s1 : us.toArray.size = xs.length := by rw [List.size_toArray]; exact rv.length.symm
    have s2 : ws.toArray.size = ys.length := by rw [List.size_toArray]; exact rv2.length.symm
    unfold pyNext
    refine wpAny_bind (wpAny_attempt (wpAny_callSpecial?_slot (name := Str.ofString "__next__") hT F.slot_enumerate_next
      (wpAny_call_entry F.slot_enumerate_next hT F.entry_enumerate_next ?_ (F.args_enumerate_next_1 _))))
    show wpAny _ _ (field (.ref e) 2 >>= fun a => _) _ _ _
    refine wpAny_bind (wpAny_field h1 rfl (x := .ref z) rfl (wpAny_bind (zs_stop Z (D1 X.A.in1.in1 i1 (I.ok.hd cm) n1) (D2 X.A.in1.in1 i2 (I.ok.hd cm) n2) (h2.map (fun q => ⟨q, S1⟩) fun q => ⟨q, S2⟩) (by omega) (by omega) (by omega) fun h' tk x k hx => ?_)))
    obtain ⟨o, ho, hc⟩ := hx
    refine wpAny_bind (wpAny_isInstance (T := "StopIteration") (b := true) ⟨o, ho, hc⟩ isSubtype_stop (wpAny_pure ?_))
    exact ⟨rfl, inv_turns (ch := [e, z, TI, TO, i1, i2]) I (fun d u n q => k d u (fun w => n (by simp only [List.mem_cons, List.not_mem_nil, or_false] at w ⊢; rcases w with w | w | w | w <;> simp [w])) q) ff⟩
  self := by
    rintro A i s Q E ⟨⟨old, h1⟩, _⟩ h
    exact wpAny_pyIter_enum h1 h
end Tw
set_option maxHeartbeats 1000000
/-! TkZ6: enumerate(zip(a, b)), how it begins. -/
namespace Tw
open PySem PySem.Spec PyProof.Rows L2 Sb
theorem meets_enz (z TI TO : Addr) :
    Meets (Builtin.«enumerate.__new__» ⟨[.type "enumerate", .ref z], []⟩) (fun _ R c => IsZip c.heap z TI TO .none ∧
      R (.ok (.ret (.ref c.heap.objs.size))) { c with heap := c.heap.push { cls := .type "enumerate", data := .fields #[.none, .bool false, .ref z, rawInt 0, .none, .none] } }) := by
  refine .of_wp fun pg wo Ar R c hz => ?_
  obtain ⟨hp, g, d, tk, os⟩ := c
  obtain ⟨h1, h⟩ := hz
  have hsub := sub_enumerate
  have begin1 : ∀ {A' : Around} {E' : Value → Shared → Prop} {Q' : Value → Shared → Prop}, Q' (.ref z) ⟨hp, g, d, tk, os⟩ → wpAny (model pg wo) A' (pyIter (.ref z)) Q' E' ⟨hp, g, d, tk, os⟩ :=
    fun q => wpAny_pyIter_zip (s := ⟨hp, g, d, tk, os⟩) h1 q
  wp_walk using begin1
  refine wpAny_stack_any fun stk => wpAny_pure ?_
  split
  · rename_i c _ _ _ _ _
    cases hc : (c == Value.type "enumerate") <;> (wp_walk using begin1; exact ⟨_, rfl, h⟩)
  · wp_walk using begin1
    exact ⟨_, rfl, h⟩
section
variable {pg : Program} {wo : World} {Ar : Around} {Ex : Value → Shared → Prop} {sh : Shared}
theorem enz_begins {z TI TO : Addr} {Q : Value → Shared → Prop} (h1 : IsZip sh.heap z TI TO .none)
    (h : ∀ h', IsEnum h' sh.heap.objs.size z 0 .none → (∀ b u, sh.heap.get? b = some u → h'.get? b = some u) → Q (.ref sh.heap.objs.size) { sh with heap := h' }) :
    wpAny (model pg wo) Ar (call (.type "enumerate") [.ref z]) Q Ex sh := by
  refine callType_new F.called_enumerate (by decide) (F.typeCall_enumerate_1 _) (F.newCall_enumerate_1 _) (fun obj => F.args_object_init_2 obj _) F.entry_enumerate_new (meets_enz z TI TO) ⟨h1, ?_⟩
  have ie : IsEnum (sh.heap.push { cls := .type "enumerate", data := .fields #[.none, .bool false, .ref z, rawInt 0, .none, .none] }) sh.heap.objs.size z 0 .none := Heap.get?_push_size _ rfl
  exact ⟨⟨_, ie, rfl⟩, h _ ie fun b u x => Heap.get?_push_of_some _ x⟩
end
def iEnZ (K : PySem.W.Frag) (ta : TA) : TI := fun σ H R => ta σ H fun vs H1 => ∃ a b xs ys, vs = [.ref a, .ref b] ∧ SqR K H1 a xs ∧ SqR K H1 b ys ∧ ∀ b1 b2, SqB K b1 H1 a xs → SqB K b2 H1 b ys → R (Iez K b1 b2 a b) H1
theorem rit_new {b : Bool} {h : Heap} {it a : Addr} (e : h.get? it = some (itO b a)) : RIt b h it a 0 := by
  cases b
  · exact ⟨_, e, rfl, rfl⟩
  · exact ⟨_, e, rfl, rfl⟩
theorem pi_enz {X : Cx} {es : List Expr} {kx : Nat} {tp : Pos} {e e2 : Expr} {ta : TA} {p p2 pos pos2 : Pos} (hg : Gl X "enumerate") (hm : X.mg "enumerate" = none) (hgz : Gl X "zip") (hmz : X.mg "zip" = none) (ha : PA X [e, e2] ta)
    (hs : starEach [e, e2] X.env = (false, eval e X.env) :: starEach [e2] X.env := by rfl) (hpl : ((backTo pos2 (starEach [e2] X.env)).any fun x => x.1) = false := by rfl) :
    PI X (.Tuple es kx tp) (.Call (.Name "enumerate" p) [.Call (.Name "zip" p2) [e, e2] [] pos2] [] pos) (iEnZ X.K ta) := by
  refine ⟨fun pins s σ H R I h => Call_ (ld_blt I hg hm boot_enumerate (PyProof.Rows.callWith_type1 (args_cons (Call_ (ld_blt I hgz hmz boot_zip (PyProof.Rows.callWith_type1 (thn (ha.run pos2 pins s σ H _ I h) fun us s1 hh => ?_) hs hpl))) rfl) rfl))⟩
  obtain ⟨vs, H1, I1, rv, a, b, xs, ys, rfl, g1, g2, q⟩ := hh
  obtain rfl : us = [.ref a, .ref b] := by
    cases rv with
    | cons r1 rv =>
      cases rv with
      | cons r2 rv =>
        cases rv
        rw [show _ = Value.ref a from r1, show _ = Value.ref b from r2]
  obtain ⟨b1, g1⟩ := sqb_of g1
  obtain ⟨b2, g2⟩ := sqb_of g2
  obtain ⟨us, r1, z1, S1, l1, B1, _⟩ := rsq_draws I1 g1
  obtain ⟨ws, r2, z2, S2, l2, B2, _⟩ := rsq_draws I1 g2
  refine zip_begins2 B1 B2 S1 S2 fun h' k1 k2 k3 k4 k5 hsz hk => args_nil ?_
  have q1 : a < s1.heap.objs.size := l1
  have q2 : b < s1.heap.objs.size := l2
  have Z := zip_sep2 (N := s1.heap.objs.size) (fp1 := [a]) (fp2 := [b]) (fun d hd => by rw [List.mem_singleton.mp hd]; exact q1) (fun d hd => by rw [List.mem_singleton.mp hd]; exact q2)
  have n1 : a ≠ s1.heap.objs.size := Nat.ne_of_lt q1
  have n2 : b ≠ s1.heap.objs.size + 1 := Nat.ne_of_lt (Nat.lt_succ_of_lt q2)
  refine enz_begins (sh := { s1 with heap := h' }) k1 fun h2 he hk2 => ?_
  have he : IsEnum h2 h'.objs.size (s1.heap.objs.size + 4) 0 .none := he
  have hk2 : ∀ b u, h'.get? b = some u → h2.get? b = some u := hk2
  rw [hsz] at he
  show wpAny _ _ (pyIter (.ref h'.objs.size)) _ _ { s1 with heap := h2 }
  rw [hsz]
  refine wpAny_pyIter_enum he ?_
  have I2 : Inv X pins σ H1 { s1 with heap := h2 } := I1.kept (t' := s1.toks) fun b u x => hk2 b u (hk b u x)
  have fp : ∀ d ∈ [s1.heap.objs.size + 5, s1.heap.objs.size + 4, s1.heap.objs.size + 2, s1.heap.objs.size + 3, s1.heap.objs.size, s1.heap.objs.size + 1], FpOk X pins H1 d := fun d hd => by
    have le : s1.heap.objs.size ≤ d := by
      simp only [List.mem_cons, List.not_mem_nil, or_false] at hd
      omega
    exact I1.fpOk le (I1.hok.fresh le)
  have u : (s1.heap.objs.size + 5 : Nat) ≠ s1.heap.objs.size + 4 ∧ (s1.heap.objs.size + 5 : Nat) ≠ s1.heap.objs.size + 2 ∧ (s1.heap.objs.size + 5 : Nat) ≠ s1.heap.objs.size + 3 ∧ (∀ d ∈ [s1.heap.objs.size, a], d ≠ s1.heap.objs.size + 5) ∧ ∀ d ∈ [s1.heap.objs.size + 1, b], d ≠ s1.heap.objs.size + 5 := by
    refine ⟨by omega, by omega, by omega, fun d hd => ?_, fun d hd => ?_⟩
    · rcases (show d = s1.heap.objs.size ∨ d = a by simpa using hd) with r | r <;> rw [r] <;> omega
    · rcases (show d = s1.heap.objs.size + 1 ∨ d = b by simpa using hd) with r | r <;> rw [r] <;> omega
  exact ⟨s1.heap.objs.size + 5, _, _, Iez X.K b1 b2 a b, H1, rfl, I2, turn_enz Z n1 n2 u, ⟨⟨.none, he⟩, hk2 _ _ k2, ⟨_, _, hk2 _ _ k3⟩, rit_new (hk2 _ _ k4), rit_new (hk2 _ _ k5), .none, false, hk2 _ _ k1, .inl rfl⟩, fp, q b1 b2 g1 g2⟩
end Tw
/-! TkA: strict likeness of plain data, their weights, and pairs that wait to be looked at. -/
namespace Tw
open PySem PySem.Spec PyProof.Rows L2 Sb
mutual
/-- like, a truth being no number -/
def alk : PyData → PyData → Bool
  | .tuple xs, .tuple ys => alkAll xs ys
  | .none, .none => true
  | .bool a, .bool b => a == b
  | .int i, .int j => i == j
  | .str x, .str y => x == y
  | _, _ => false
def alkAll : List PyData → List PyData → Bool
  | [], [] => true
  | x :: xs, y :: ys => alk x y && alkAll xs ys
  | _, _ => false
end
mutual
def wtD : PyData → Nat
  | .tuple xs => 1 + wtAll xs
  | _ => 1
def wtAll : List PyData → Nat
  | [] => 0
  | x :: xs => wtD x + wtAll xs
end
theorem wtD_pos (d : PyData) : 1 ≤ wtD d := by
  cases d with
  | tuple xs =>
    show 1 ≤ 1 + wtAll xs
    omega
  | _ => exact Nat.le_refl 1
theorem wtAll_len : ∀ ds : List PyData, ds.length ≤ wtAll ds
  | [] => Nat.zero_le _
  | x :: xs => by
    have := wtAll_len xs
    have := wtD_pos x
    rw [wtAll, List.length_cons]
    omega
/-- all pairs alike -/
def alkP (ps : List (PyData × PyData)) : Bool := ps.all fun p => alk p.1 p.2
theorem alkAll_zip : ∀ {xs ys : List PyData}, xs.length = ys.length → alkAll xs ys = alkP (xs.zip ys)
  | [], [], _ => rfl
  | x :: xs, y :: ys, h => by
    rw [alkAll, alkAll_zip (Nat.succ.inj h), List.zip_cons_cons]
    rfl
  | [], _ :: _, h => nomatch h
  | _ :: _, [], h => nomatch h
theorem alkAll_len : ∀ {xs ys : List PyData}, xs.length ≠ ys.length → alkAll xs ys = false
  | [], [], h => absurd rfl h
  | x :: xs, y :: ys, h => by
    rw [alkAll, alkAll_len fun e => h (congrArg Nat.succ e), Bool.and_false]
  | [], _ :: _, h => rfl
  | _ :: _, [], h => rfl
theorem alkP_app (ps qs : List (PyData × PyData)) : alkP (ps ++ qs) = (alkP ps && alkP qs) := List.all_append
def wtP (ps : List (PyData × PyData)) : Nat := (ps.map fun p => wtD p.1).sum
theorem wtP_app (ps qs : List (PyData × PyData)) : wtP (ps ++ qs) = wtP ps + wtP qs := by
  unfold wtP
  rw [List.map_append, List.sum_append]
theorem wtP_zip : ∀ {xs ys : List PyData}, wtP (xs.zip ys) ≤ wtAll xs
  | [], _ => by rw [List.zip_nil_left]; exact Nat.zero_le _
  | x :: xs, [] => by rw [List.zip_nil_right]; exact Nat.zero_le _
  | x :: xs, y :: ys => by
    have := wtP_zip (xs := xs) (ys := ys)
    rw [List.zip_cons_cons, wtAll]
    show wtD x + wtP (xs.zip ys) ≤ _
    omega
theorem wtP_len : ∀ ps : List (PyData × PyData), ps.length ≤ wtP ps
  | [] => Nat.zero_le _
  | p :: ps => by
    have := wtP_len ps
    have := wtD_pos p.1
    show ps.length + 1 ≤ wtD p.1 + wtP ps
    omega
section
variable {K : PySem.W.Frag} {H H' : Hp}
theorem sqL_same {a : Addr} {xs : List V} (s : Same H H') (h : SqL K H a xs) : SqL K H' a xs := by
  rcases h with (h | ⟨o, h⟩) | h
  · exact .inl (.inl (s _ _ h))
  · exact .inl (.inr ⟨o, s _ _ h⟩)
  · exact .inr h
mutual
theorem Dp.same (k : Same H H') : ∀ {v : V} {d : PyData}, Dp K H v d → Dp K H' v d
  | _, _, .non => .non
  | _, _, .bl b => .bl b
  | _, _, .int i => .int i
  | _, _, .str x => .str x
  | _, _, .lst h a => .lst (sqL_same k h) (DpAll.same k a)
  | _, _, .tup h a => .tup (KeepT.same k _ _ h) (DpAll.same k a)
theorem DpAll.same (k : Same H H') : ∀ {vs : List V} {ds : List PyData}, DpAll K H vs ds → DpAll K H' vs ds
  | _, _, .nil => .nil
  | _, _, .cons h r => .cons (Dp.same k h) (DpAll.same k r)
end
theorem DpAll.len : ∀ {vs : List V} {ds : List PyData}, DpAll K H vs ds → vs.length = ds.length
  | _, _, .nil => rfl
  | _, _, .cons _ r => congrArg Nat.succ (DpAll.len r)
theorem DpAll.at_ : ∀ {xs : List V} {ds : List PyData} {i : Nat} {x : V}, DpAll K H xs ds → xs[i]? = some x → ∃ d, ds[i]? = some d ∧ Dp K H x d
  | _, _, 0, _, .cons h _, e => ⟨_, rfl, by cases e; exact h⟩
  | _, _, i + 1, _, .cons _ r, e => DpAll.at_ (i := i) r e
theorem DpAll.append : ∀ {xs ys : List V} {ds es : List PyData}, DpAll K H xs ds → DpAll K H ys es → DpAll K H (xs ++ ys) (ds ++ es)
  | _, _, _, _, .nil, h => h
  | _, _, _, _, .cons h r, q => .cons h (DpAll.append r q)
theorem DpAll.take : ∀ {xs : List V} {ds : List PyData} (i : Nat), DpAll K H xs ds → DpAll K H (xs.take i) (ds.take i)
  | _, _, 0, _ => .nil
  | _, _, i + 1, .nil => .nil
  | _, _, i + 1, .cons h r => .cons h (DpAll.take i r)
theorem DpAll.drop : ∀ {xs : List V} {ds : List PyData} (i : Nat), DpAll K H xs ds → DpAll K H (xs.drop i) (ds.drop i)
  | _, _, 0, h => h
  | _, _, i + 1, .nil => .nil
  | _, _, i + 1, .cons h r => DpAll.drop i r
/-- the name of its class -/
def tyD : PyData → String
  | .none => "NoneType"
  | .bool _ => "bool"
  | .int _ => "int"
  | .str _ => "str"
  | .list _ => "list"
  | .tuple _ => "tuple"
  | .dict _ => "dict"
theorem Dp.ty {v : V} {d : PyData} (h : Dp K H v d) : TyX K H v (.type (tyD d)) := by
  cases h with
  | non => exact .base .non
  | bl b => exact .base (.bl b)
  | int i => exact .base (.int i)
  | str x => exact .base (.str x)
  | lst h _ => exact SqL.ty h
  | tup h _ => exact SqT.ty h
def isTupD : PyData → Bool
  | .tuple _ => true
  | _ => false
def isBoolD : PyData → Bool
  | .bool _ => true
  | _ => false
def isStrD : PyData → Bool
  | .str _ => true
  | _ => false
theorem kit_tup (d : PyData) : PySem.W.kitOne K (.type (tyD d)) (.type "tuple") = some (isTupD d) := by
  cases d with
  | none => exact kit_ty (show kitB "NoneType" "tuple" = some false by decide +kernel)
  | bool _ => exact kit_ty (show kitB "bool" "tuple" = some false by decide +kernel)
  | int _ => exact kit_ty (show kitB "int" "tuple" = some false by decide +kernel)
  | str _ => exact kit_ty (show kitB "str" "tuple" = some false by decide +kernel)
  | list _ => exact kit_ty (show kitB "list" "tuple" = some false by decide +kernel)
  | tuple _ => exact kit_ty (show kitB "tuple" "tuple" = some true by decide +kernel)
  | dict _ => exact kit_ty (show kitB "dict" "tuple" = some false by decide +kernel)
theorem kit_bool (d : PyData) : PySem.W.kitOne K (.type (tyD d)) (.type "bool") = some (isBoolD d) := by
  cases d with
  | none => exact kit_ty (show kitB "NoneType" "bool" = some false by decide +kernel)
  | bool _ => exact kit_ty (show kitB "bool" "bool" = some true by decide +kernel)
  | int _ => exact kit_ty (show kitB "int" "bool" = some false by decide +kernel)
  | str _ => exact kit_ty (show kitB "str" "bool" = some false by decide +kernel)
  | list _ => exact kit_ty (show kitB "list" "bool" = some false by decide +kernel)
  | tuple _ => exact kit_ty (show kitB "tuple" "bool" = some false by decide +kernel)
  | dict _ => exact kit_ty (show kitB "dict" "bool" = some false by decide +kernel)
theorem kit_str (d : PyData) : PySem.W.kitOne K (.type (tyD d)) (.type "str") = some (isStrD d) := by
  cases d with
  | none => exact kit_ty (show kitB "NoneType" "str" = some false by decide +kernel)
  | bool _ => exact kit_ty (show kitB "bool" "str" = some false by decide +kernel)
  | int _ => exact kit_ty (show kitB "int" "str" = some false by decide +kernel)
  | str _ => exact kit_ty (show kitB "str" "str" = some true by decide +kernel)
  | list _ => exact kit_ty (show kitB "list" "str" = some false by decide +kernel)
  | tuple _ => exact kit_ty (show kitB "tuple" "str" = some false by decide +kernel)
  | dict _ => exact kit_ty (show kitB "dict" "str" = some false by decide +kernel)
def isIntD : PyData → Bool
  | .int _ => true
  | .bool _ => true
  | _ => false
theorem kit_int (d : PyData) : PySem.W.kitOne K (.type (tyD d)) (.type "int") = some (isIntD d) := by
  cases d with
  | none => exact kit_ty (show kitB "NoneType" "int" = some false by decide +kernel)
  | bool _ => exact kit_ty (show kitB "bool" "int" = some true by decide +kernel)
  | int _ => exact kit_ty (show kitB "int" "int" = some true by decide +kernel)
  | str _ => exact kit_ty (show kitB "str" "int" = some false by decide +kernel)
  | list _ => exact kit_ty (show kitB "list" "int" = some false by decide +kernel)
  | tuple _ => exact kit_ty (show kitB "tuple" "int" = some false by decide +kernel)
  | dict _ => exact kit_ty (show kitB "dict" "int" = some false by decide +kernel)
theorem Dp.row {v : V} {ds : List PyData} (h : Dp K H v (.tuple ds)) : ∃ a xs, v = .ref a ∧ SqT K H a xs ∧ DpAll K H xs ds := by
  cases h with
  | tup h a => exact ⟨_, _, rfl, h, a⟩
/-- a pair that waits: its data stand since H -/
def WaitP (K : PySem.W.Frag) (H H' : Hp) (x : V) (p : PyData × PyData) : Prop := ∃ (t : Addr) (v u : V), x = .ref t ∧ H' t = some (.tup [v, u]) ∧ Td K H v p.1 ∧ Dp K H u p.2
end
theorem WaitP.keep {K : PySem.W.Frag} {H H' H2 : Hp} {x : V} {p : PyData × PyData} (h : WaitP K H H' x p) (k : ∀ t zs, H' t = some (.tup zs) → H2 t = some (.tup zs)) : WaitP K H H2 x p := by
  obtain ⟨t, v, u, rfl, h1, h2, h3⟩ := h
  exact ⟨t, v, u, rfl, k _ _ h1, h2, h3⟩
theorem waits_of {K : PySem.W.Frag} {H H2 : Hp} : ∀ {Ts : List Addr} {xs ys : List V} {ds es : List PyData}, Tds K H xs ds → DpAll K H ys es → Paired (fun T (p : V × V) => H2 T = some (.tup [p.1, p.2])) Ts (xs.zip ys) → Paired (WaitP K H H2) (Ts.map V.ref) (ds.zip es)
  | _, [], _, _, _, .nil, _, h => by
    rw [List.zip_nil_left] at h ⊢
    cases h
    exact .nil
  | _, x :: xs, _, _, _, .cons _ _, .nil, h => by
    rw [List.zip_nil_right] at h ⊢
    cases h
    exact .nil
  | _, x :: xs, y :: ys, _, _, .cons a b, .cons c d, h => by
    rw [List.zip_cons_cons] at h ⊢
    cases h with
    | cons p r => exact .cons ⟨_, x, y, rfl, p, a, c⟩ (waits_of b d r)
theorem upd_tup {H : Hp} {L : Addr} {vs ws : List V} (hL : H L = some (.lst vs)) (t : Addr) (zs : List V) (h : H t = some (.tup zs)) : (upd H L (.lst ws)) t = some (.tup zs) := by
  rw [upd_ne (fun e => by rw [e, hL] at h; cases h)]
  exact h
end Tw
/-! TkB: the first place where two rows differ. -/
namespace Tw
open PySem PySem.Spec PyProof.Rows L2 Sb
def ansO (f : PyData → PyData → Bool) : List PyData → List PyData → Option Nat
  | [], [] => none
  | x :: xs, y :: ys => if f x y = true then (ansO f xs ys).map (· + 1) else some 0
  | _, _ => some 0
def ansV : Option Nat → V
  | none => .str "right"
  | some i => .int (i : Nat)
/-- all is well before i -/
def OkP (f : PyData → PyData → Bool) (xs ys : List PyData) (i : Nat) : Prop := ∀ j, j < i → ∃ x y, xs[j]? = some x ∧ ys[j]? = some y ∧ f x y = true
theorem okP_next {f : PyData → PyData → Bool} {xs ys : List PyData} {i : Nat} {x y : PyData} (h : OkP f xs ys i) (hx : xs[i]? = some x) (hy : ys[i]? = some y) (hf : f x y = true) : OkP f xs ys (i + 1) := fun j hj => by
  by_cases c : j < i
  · exact h j c
  · obtain rfl : j = i := by omega
    exact ⟨x, y, hx, hy, hf⟩
theorem ansO_drop {f : PyData → PyData → Bool} : ∀ {i : Nat} {xs ys : List PyData}, OkP f xs ys i → ansO f xs ys = (ansO f (xs.drop i) (ys.drop i)).map (· + i)
  | 0, xs, ys, _ => by
    rw [List.drop_zero, List.drop_zero]
    cases ansO f xs ys <;> rfl
  | i + 1, xs, ys, h => by
    obtain ⟨x, y, hx, hy, hf⟩ := h 0 (Nat.succ_pos i)
    cases xs with
    | nil => cases hx
    | cons x0 xs =>
      cases ys with
      | nil => cases hy
      | cons y0 ys =>
        cases hx
        cases hy
        have ih := ansO_drop (i := i) (xs := xs) (ys := ys) fun j hj => h (j + 1) (Nat.succ_lt_succ hj)
        rw [ansO, if_pos hf, ih, List.drop_succ_cons, List.drop_succ_cons]
        cases ansO f (xs.drop i) (ys.drop i) with
        | none => rfl
        | some n => exact congrArg some (Nat.add_assoc n i 1)
theorem ans_at {f : PyData → PyData → Bool} {i : Nat} {xs ys : List PyData} {x y : PyData} (h : OkP f xs ys i) (hx : xs[i]? = some x) (hy : ys[i]? = some y) (hf : f x y = false) : ansO f xs ys = some i := by
  rw [ansO_drop h]
  obtain ⟨l1, e1⟩ := List.getElem?_eq_some_iff.mp hx
  obtain ⟨l2, e2⟩ := List.getElem?_eq_some_iff.mp hy
  rw [List.drop_eq_getElem_cons l1, List.drop_eq_getElem_cons l2, e1, e2, ansO, if_neg (by rw [hf]; exact Bool.false_ne_true)]
  exact congrArg some (Nat.zero_add i)
theorem ans_short {f : PyData → PyData → Bool} {i : Nat} {xs ys : List PyData} (h : OkP f xs ys i) (hi : xs.length ≤ i ∨ ys.length ≤ i) (hn : i < xs.length ∨ i < ys.length) : ansO f xs ys = some i := by
  rw [ansO_drop h]
  rcases hi with hi | hi
  · rw [List.drop_of_length_le hi]
    have l2 : i < ys.length := by omega
    rw [List.drop_eq_getElem_cons l2]
    exact congrArg some (Nat.zero_add i)
  · rw [List.drop_of_length_le hi]
    have l2 : i < xs.length := by omega
    rw [List.drop_eq_getElem_cons l2]
    exact congrArg some (Nat.zero_add i)
theorem ans_same {f : PyData → PyData → Bool} {xs ys : List PyData} (h : OkP f xs ys xs.length) (hl : xs.length = ys.length) : ansO f xs ys = none := by
  rw [ansO_drop h, List.drop_length, hl, List.drop_length]
  rfl
/-- both tests answer alike: the same place is found -/
theorem ans_eq {f g : PyData → PyData → Bool} : ∀ {xs ys : List PyData}, (∀ (i : Nat) x y, xs[i]? = some x → ys[i]? = some y → f x y = g x y) → ansO f xs ys = ansO g xs ys
  | [], [], _ => rfl
  | [], _ :: _, _ => rfl
  | _ :: _, [], _ => rfl
  | x :: xs, y :: ys, h => by
    rw [ansO, ansO, h 0 x y rfl rfl, ans_eq fun i a b ha hb => h (i + 1) a b ha hb]
end Tw
/-! TkF: told data whose lists lie elsewhere than at a; tuples and lists of them cut and joined. -/
namespace Tw
open PySem PySem.Spec PyProof.Rows L2 Sb
section
variable {K : PySem.W.Frag} {a : Addr} {H H' : Hp}
mutual
inductive Ra (K : PySem.W.Frag) (a : Addr) (H : Hp) : V → PyData → Prop
  | non : Ra K a H .non .none
  | bl (b : Bool) : Ra K a H (.bl b) (.bool b)
  | int (i : Int) : Ra K a H (.int i) (.int i)
  | str (x : Str) : Ra K a H (.str x) (.str x)
  | lst {l : Addr} {xs : List V} {ds : List PyData} : l ≠ a → H l = some (.lst xs) → RaAll K a H xs ds → Ra K a H (.ref l) (.list ds)
  | tup {t : Addr} {xs : List V} {ds : List PyData} : SqT K H t xs → RaAll K a H xs ds → Ra K a H (.ref t) (.tuple ds)
inductive RaAll (K : PySem.W.Frag) (a : Addr) (H : Hp) : List V → List PyData → Prop
  | nil : RaAll K a H [] []
  | cons {v : V} {vs : List V} {d : PyData} {ds : List PyData} : Ra K a H v d → RaAll K a H vs ds → RaAll K a H (v :: vs) (d :: ds)
end
mutual
theorem Ra.dp : ∀ {v : V} {d : PyData}, Ra K a H v d → Dp K H v d
  | _, _, .non => .non
  | _, _, .bl b => .bl b
  | _, _, .int i => .int i
  | _, _, .str x => .str x
  | _, _, .lst _ h r => .lst (SqL.of h) (RaAll.dp r)
  | _, _, .tup h r => .tup h (RaAll.dp r)
theorem RaAll.dp : ∀ {v : List V} {d : List PyData}, RaAll K a H v d → DpAll K H v d
  | _, _, .nil => .nil
  | _, _, .cons h r => .cons (Ra.dp h) (RaAll.dp r)
end
mutual
theorem Ra.keep (k : KeepT K H H') (kl : ∀ b xs, b ≠ a → H b = some (.lst xs) → H' b = some (.lst xs)) : ∀ {v : V} {d : PyData}, Ra K a H v d → Ra K a H' v d
  | _, _, .non => .non
  | _, _, .bl b => .bl b
  | _, _, .int i => .int i
  | _, _, .str x => .str x
  | _, _, .lst n h r => .lst n (kl _ _ n h) (RaAll.keep k kl r)
  | _, _, .tup h r => .tup (k _ _ h) (RaAll.keep k kl r)
theorem RaAll.keep (k : KeepT K H H') (kl : ∀ b xs, b ≠ a → H b = some (.lst xs) → H' b = some (.lst xs)) : ∀ {v : List V} {d : List PyData}, RaAll K a H v d → RaAll K a H' v d
  | _, _, .nil => .nil
  | _, _, .cons h r => .cons (Ra.keep k kl h) (RaAll.keep k kl r)
end
mutual
theorem Td.ra : ∀ {v : V} {d : PyData}, Td K H v d → Ra K a H v d
  | _, _, .non => .non
  | _, _, .bl b => .bl b
  | _, _, .int i => .int i
  | _, _, .str x => .str x
  | _, _, .tup h r => .tup h (Tds.ra r)
theorem Tds.ra : ∀ {v : List V} {d : List PyData}, Tds K H v d → RaAll K a H v d
  | _, _, .nil => .nil
  | _, _, .cons h r => .cons (Td.ra h) (Tds.ra r)
end
theorem Ra.same {v : V} {d : PyData} (s : Same H H') (h : Ra K a H v d) : Ra K a H' v d := h.keep (KeepT.same s) fun b xs _ e => s _ _ e
theorem Ra.fv {v : V} {d : PyData} (w : IsW2 H a) (f : Fv a H H') (h : Ra K a H v d) : Ra K a H' v d := h.keep (f.keepT w) fun b xs n e => f.1 _ _ n e
theorem RaAll.same {v : List V} {d : List PyData} (s : Same H H') (h : RaAll K a H v d) : RaAll K a H' v d := h.keep (KeepT.same s) fun b xs _ e => s _ _ e
theorem RaAll.fv {v : List V} {d : List PyData} (w : IsW2 H a) (f : Fv a H H') (h : RaAll K a H v d) : RaAll K a H' v d := h.keep (f.keepT w) fun b xs n e => f.1 _ _ n e
theorem RaAll.len {vs : List V} {ds : List PyData} (h : RaAll K a H vs ds) : vs.length = ds.length := DpAll.len h.dp
theorem RaAll.at_ : ∀ {xs : List V} {ds : List PyData} {i : Nat} {x : V}, RaAll K a H xs ds → xs[i]? = some x → ∃ d, ds[i]? = some d ∧ Ra K a H x d
  | _, _, 0, _, .cons h _, e => ⟨_, rfl, by cases e; exact h⟩
  | _, _, i + 1, _, .cons _ r, e => RaAll.at_ (i := i) r e
theorem RaAll.append : ∀ {xs ys : List V} {ds es : List PyData}, RaAll K a H xs ds → RaAll K a H ys es → RaAll K a H (xs ++ ys) (ds ++ es)
  | _, _, _, _, .nil, h => h
  | _, _, _, _, .cons h r, q => .cons h (RaAll.append r q)
theorem RaAll.take : ∀ {xs : List V} {ds : List PyData} (i : Nat), RaAll K a H xs ds → RaAll K a H (xs.take i) (ds.take i)
  | _, _, 0, _ => .nil
  | _, _, i + 1, .nil => .nil
  | _, _, i + 1, .cons h r => .cons h (RaAll.take i r)
theorem RaAll.drop : ∀ {xs : List V} {ds : List PyData} (i : Nat), RaAll K a H xs ds → RaAll K a H (xs.drop i) (ds.drop i)
  | _, _, 0, h => h
  | _, _, i + 1, .nil => .nil
  | _, _, i + 1, .cons h r => RaAll.drop i r
theorem RaAll.rev : ∀ {xs : List V} {ds : List PyData}, RaAll K a H xs ds → RaAll K a H xs.reverse ds.reverse
  | _, _, .nil => .nil
  | _, _, .cons h r => by
    rw [List.reverse_cons, List.reverse_cons]
    exact RaAll.append (RaAll.rev r) (.cons h .nil)
theorem Ra.row {v : V} {ds : List PyData} (h : Ra K a H v (.tuple ds)) : ∃ t xs, v = .ref t ∧ SqT K H t xs ∧ RaAll K a H xs ds := by
  cases h with
  | tup h r => exact ⟨_, _, rfl, h, r⟩
theorem Ra.list {v : V} {ds : List PyData} (h : Ra K a H v (.list ds)) : ∃ l xs, v = .ref l ∧ l ≠ a ∧ H l = some (.lst xs) ∧ RaAll K a H xs ds := by
  cases h with
  | lst n h r => exact ⟨_, _, rfl, n, h, r⟩
end
/-- ds[lo:hi] -/
def cutDs (xs : List PyData) (lo hi : Option Int) : List PyData := (xs.drop (HT.sIx xs.length 0 lo)).take (HT.sIx xs.length xs.length hi - HT.sIx xs.length 0 lo)
theorem cutDs_take {xs : List PyData} {n : Nat} (h : n ≤ xs.length) : cutDs xs none (some (n : Int)) = xs.take n := by
  unfold cutDs
  rw [HT.sIx_none, HT.sIx_nat, List.drop_zero, Nat.sub_zero, Nat.min_eq_left h]
theorem cutDs_drop {xs : List PyData} {n : Nat} (h : n ≤ xs.length) : cutDs xs (some (n : Int)) none = xs.drop n := by
  unfold cutDs
  rw [HT.sIx_none, HT.sIx_nat, Nat.min_eq_left h]
  exact List.take_of_length_le (by rw [List.length_drop]; exact Nat.le_refl _)
theorem RaAll.cut {K : PySem.W.Frag} {a : Addr} {H : Hp} {xs : List V} {ds : List PyData} (h : RaAll K a H xs ds) (lo hi : Option Int) : RaAll K a H (cutV xs lo hi) (cutDs ds lo hi) := by
  unfold cutV cutDs
  rw [h.len]
  exact (h.drop _).take _
section
variable {X : Cx}
def rCatR (K : PySem.W.Frag) : R2 := fun x y H Q => ∃ a ds es, Ra K a H x (.tuple ds) ∧ Ra K a H y (.tuple es) ∧ ds.length + es.length ≤ sizeLine ∧ ∀ z H', Same H H' → Ra K a H' z (.tuple (ds ++ es)) → Q z H'
theorem op_catR : OpR X (binaryOp .Add) (rCatR X.K) := by
  intro pins s σ H x y v u Q I rx ry h
  obtain ⟨a, ds, es, hx, hy, hz, q⟩ := h
  obtain ⟨t, xs, rfl, ht, hxs⟩ := hx.row
  obtain ⟨b, ys, rfl, hb, hys⟩ := hy.row
  have l1 := hxs.len
  have l2 := hys.len
  refine op_catA pins s σ H _ _ v u Q I rx ry ⟨t, b, xs, ys, rfl, rfl, ht, hb, by omega, fun e => ?_, fun _ e => ?_, fun _ _ p hp => ?_⟩
  · subst e
    cases hxs
    exact q _ H (Same.refl _) hy
  · subst e
    cases hys
    rw [List.append_nil] at q
    exact q _ H (Same.refl _) hx
  · have s1 := same_upd (o := .tup (xs ++ ys)) hp
    exact q _ _ s1 (.tup (SqT.of upd_same) ((hxs.append hys).same s1))
def rSlRa (K : PySem.W.Frag) : V → Option Int → Option Int → Hp → VK → Prop := fun x lo hi H Q => ∃ a ds, Ra K a H x (.tuple ds) ∧ ∀ z H', Same H H' → Ra K a H' z (.tuple (cutDs ds lo hi)) → Q z H'
theorem sl_ra : SlR X (rSlRa X.K) := by
  intro pins s σ H x v vl vu lo hi sl Q I rx hs pl pu h
  obtain ⟨a, ds, hx, q⟩ := h
  obtain ⟨t, xs, rfl, ht, hxs⟩ := hx.row
  refine sl_tupA pins s σ H _ v vl vu lo hi sl Q I rx hs pl pu ⟨t, xs, rfl, ht, fun e => ?_, fun _ p hp => ?_⟩
  · refine q _ H (Same.refl _) (.tup ht ?_)
    have e2 : cutV xs lo hi = xs := by
      unfold cutV
      rw [e.1, e.2, List.drop_zero, Nat.sub_zero, List.take_length]
    rw [← e2]
    exact hxs.cut lo hi
  · have s1 := same_upd (o := .tup (cutV xs lo hi)) hp
    exact q _ _ s1 (.tup (SqT.of upd_same) ((hxs.cut lo hi).same s1))
def rCatRl (K : PySem.W.Frag) : R2 := fun x y H Q => ∃ a ds es, IsW2 H a ∧ Ra K a H x (.list ds) ∧ Ra K a H y (.list es) ∧ ds.length + es.length ≤ sizeLine ∧ ∀ z H', Same H H' → Ra K a H' z (.list (ds ++ es)) → Q z H'
theorem op_catRl : OpR X (binaryOp .Add) (rCatRl X.K) := by
  intro pins s σ H x y v u Q I rx ry h
  obtain ⟨a, ds, es, w, hx, hy, hz, q⟩ := h
  obtain ⟨t, xs, rfl, n1, ht, hxs⟩ := hx.list
  obtain ⟨b, ys, rfl, n2, hb, hys⟩ := hy.list
  have l1 := hxs.len
  have l2 := hys.len
  refine op_catL pins s σ H _ _ v u Q I rx ry ⟨t, b, xs, ys, rfl, rfl, SqL.of ht, hb, by omega, fun p hp => ?_⟩
  have s1 := same_upd (o := .lst (xs ++ ys)) hp
  exact q _ _ s1 (.lst (w.ne hp) upd_same ((hxs.append hys).same s1))
def rSlRl (K : PySem.W.Frag) : V → Option Int → Option Int → Hp → VK → Prop := fun x lo hi H Q => ∃ a ds, IsW2 H a ∧ Ra K a H x (.list ds) ∧ ∀ z H', Same H H' → Ra K a H' z (.list (cutDs ds lo hi)) → Q z H'
theorem sl_rl : SlR X (rSlRl X.K) := by
  intro pins s σ H x v vl vu lo hi sl Q I rx hs pl pu h
  obtain ⟨a, ds, w, hx, q⟩ := h
  obtain ⟨t, xs, rfl, n1, ht, hxs⟩ := hx.list
  refine sl_list pins s σ H _ v vl vu lo hi sl Q I rx hs pl pu ⟨t, xs, rfl, SqL.of ht, fun p hp => ?_⟩
  have s1 := same_upd (o := .lst (cutV xs lo hi)) hp
  exact q _ _ s1 (.lst (w.ne hp) upd_same ((hxs.cut lo hi).same s1))
def rEqG (K : PySem.W.Frag) : R2 := fun x y H Q => ∃ d e, Dp K H x d ∧ Dp K H y e ∧ d.plain = true ∧ e.plain = true ∧ PyData.depth e ≤ 60 ∧ Q (.bl (PyData.eqv d e)) H
theorem op_eqG (hu : X.A.units + 64 < cLine) : OpR X (compareOp .Eq) (rEqG X.K) := by
  intro pins s σ H x y v u Q I rx ry h
  obtain ⟨d, e, hx, hy, pd, pe, hd, q⟩ := h
  obtain ⟨as, r1⟩ := Dp.reads I d x v hx rx
  obtain ⟨bs, r2⟩ := Dp.reads I e y u hy ry
  exact SeqAt.eq_plain r1 r2 pd pe (by have := Nat.min_le_right d.depth e.depth; omega) ⟨.bl _, H, I, rfl, q⟩
end
mutual
theorem dp_plain {K : PySem.W.Frag} {H : Hp} : ∀ {v : V} {d : PyData}, Dp K H v d → d.plain = true
  | _, _, .non => rfl
  | _, _, .bl b => rfl
  | _, _, .int i => rfl
  | _, _, .str x => rfl
  | _, _, .lst _ r => dpAll_plain r
  | _, _, .tup _ r => dpAll_plain r
theorem dpAll_plain {K : PySem.W.Frag} {H : Hp} : ∀ {v : List V} {d : List PyData}, DpAll K H v d → PyData.plainAll d = true
  | _, _, .nil => rfl
  | _, _, .cons h r => by
    rw [PyData.plainAll, dp_plain h, dpAll_plain r]
    rfl
end
end Tw
/-! TkG: where likeness and == agree: steps against steps, and a step against one that was made of it. -/
namespace Tw
open PySem PySem.Spec PyProof.Rows L2 Sb
mutual
/-- data without lists, small -/
def fitD : PyData → Bool
  | .none => true
  | .bool _ => true
  | .int i => decide (i.natAbs ≤ 1000000)
  | .str s => decide (s.length ≤ 1000)
  | .tuple ds => decide (ds.length ≤ 1000) && fitAll ds
  | .list _ => false
  | .dict _ => false
def fitAll : List PyData → Bool
  | [] => true
  | x :: xs => fitD x && fitAll xs
end
theorem fitAll_mem : ∀ {ds : List PyData}, fitAll ds = true ↔ ∀ d ∈ ds, fitD d = true
  | [] => ⟨fun _ d h => (nomatch h), fun _ => rfl⟩
  | x :: xs => by
    rw [fitAll, Bool.and_eq_true, fitAll_mem (ds := xs)]
    exact ⟨fun h d hd => (List.mem_cons.mp hd).elim (fun e => by rw [e]; exact h.1) (h.2 d), fun h => ⟨h x List.mem_cons_self, fun d hd => h d (List.mem_cons_of_mem _ hd)⟩⟩
theorem fit_tup {ds : List PyData} (h : fitD (.tuple ds) = true) : ds.length ≤ 1000 ∧ ∀ d ∈ ds, fitD d = true := by
  rw [fitD, Bool.and_eq_true] at h
  exact ⟨of_decide_eq_true h.1, fitAll_mem.mp h.2⟩
theorem fit_tup' {ds : List PyData} (h1 : ds.length ≤ 1000) (h2 : ∀ d ∈ ds, fitD d = true) : fitD (.tuple ds) = true := by
  rw [fitD, decide_eq_true h1, fitAll_mem.mpr h2]
  rfl
mutual
theorem alk_refl : ∀ d : PyData, fitD d = true → alk d d = true
  | .none, _ => rfl
  | .bool b, _ => by rw [alk, beq_self_eq_true]
  | .int i, _ => by rw [alk, beq_self_eq_true]
  | .str s, _ => by rw [alk, beq_self_eq_true]
  | .tuple ds, h => by
    rw [fitD, Bool.and_eq_true] at h
    rw [alk]
    exact alkAll_refl ds h.2
  | .list _, h => nomatch h
  | .dict _, h => nomatch h
theorem alkAll_refl : ∀ ds : List PyData, fitAll ds = true → alkAll ds ds = true
  | [], _ => rfl
  | x :: xs, h => by
    rw [fitAll, Bool.and_eq_true] at h
    rw [alkAll, alk_refl x h.1, alkAll_refl xs h.2]
    rfl
end
mutual
theorem eqv_refl : ∀ d : PyData, fitD d = true → PyData.eqv d d = true
  | .none, _ => rfl
  | .bool b, _ => by rw [PyData.eqv, beq_self_eq_true]
  | .int i, _ => by rw [PyData.eqv, beq_self_eq_true]
  | .str s, _ => by rw [PyData.eqv, beq_self_eq_true]
  | .tuple ds, h => by
    rw [fitD, Bool.and_eq_true] at h
    rw [PyData.eqv]
    exact eqvAll_refl ds h.2
  | .list _, h => nomatch h
  | .dict _, h => nomatch h
theorem eqvAll_refl : ∀ ds : List PyData, fitAll ds = true → PyData.eqvAll ds ds = true
  | [], _ => rfl
  | x :: xs, h => by
    rw [fitAll, Bool.and_eq_true] at h
    rw [PyData.eqvAll, eqv_refl x h.1, eqvAll_refl xs h.2]
    rfl
end
theorem eqvAll_len : ∀ {xs ys : List PyData}, xs.length ≠ ys.length → PyData.eqvAll xs ys = false
  | [], [], h => absurd rfl h
  | x :: xs, y :: ys, h => by
    rw [PyData.eqvAll, eqvAll_len fun e => h (congrArg Nat.succ e), Bool.and_false]
  | [], _ :: _, h => rfl
  | _ :: _, [], h => rfl
/-- one place is another -/
theorem alkAll_at : ∀ {ds : List PyData} {i : Nat} {d e : PyData}, fitAll ds = true → ds[i]? = some d → alkAll ds (ds.take i ++ [e] ++ ds.drop (i + 1)) = alk d e
  | x :: xs, 0, d, e, h, hd => by
    rw [fitAll, Bool.and_eq_true] at h
    cases hd
    show (alk x e && alkAll xs xs) = _
    rw [alkAll_refl xs h.2, Bool.and_true]
  | x :: xs, i + 1, d, e, h, hd => by
    rw [fitAll, Bool.and_eq_true] at h
    show (alk x x && alkAll xs (xs.take i ++ [e] ++ xs.drop (i + 1))) = _
    rw [alk_refl x h.1, Bool.true_and]
    exact alkAll_at (i := i) h.2 hd
theorem eqvAll_at : ∀ {ds : List PyData} {i : Nat} {d e : PyData}, fitAll ds = true → ds[i]? = some d → PyData.eqvAll ds (ds.take i ++ [e] ++ ds.drop (i + 1)) = PyData.eqv d e
  | x :: xs, 0, d, e, h, hd => by
    rw [fitAll, Bool.and_eq_true] at h
    cases hd
    show (PyData.eqv x e && PyData.eqvAll xs xs) = _
    rw [eqvAll_refl xs h.2, Bool.and_true]
  | x :: xs, i + 1, d, e, h, hd => by
    rw [fitAll, Bool.and_eq_true] at h
    show (PyData.eqv x x && PyData.eqvAll xs (xs.take i ++ [e] ++ xs.drop (i + 1))) = _
    rw [eqv_refl x h.1, Bool.true_and]
    exact eqvAll_at (i := i) h.2 hd
/-- what is made of a part -/
inductive Oth : PyData → PyData → Prop
  | non {e : PyData} : (e = .int 0 ∨ e = .int 1 ∨ e = .str "" ∨ e = .int (-1)) → Oth .none e
  | bl (b : Bool) {e : PyData} : (e = .bool (!b) ∨ e = .none ∨ e = .str "" ∨ e = .int (-1)) → Oth (.bool b) e
  | int (i j : Int) : Oth (.int i) (.int j)
  | intN (i : Int) : Oth (.int i) .none
  | intS (i : Int) (s : Str) : Oth (.int i) (.str s)
  | str (s t : Str) : Oth (.str s) (.str t)
  | strN (s : Str) : Oth (.str s) .none
  | nilN : Oth (.tuple []) .none
  | nilL (es : List PyData) : Oth (.tuple []) (.list es)
  | len {ds es : List PyData} : ds.length ≠ es.length → Oth (.tuple ds) (.tuple es)
  | at_ {ds : List PyData} {i : Nat} {d e : PyData} : ds[i]? = some d → Oth d e → Oth (.tuple ds) (.tuple (ds.take i ++ [e] ++ ds.drop (i + 1)))
theorem oth_eq {d e : PyData} (h : Oth d e) : fitD d = true → alk d e = PyData.eqv d e := by
  induction h with
  | non h => rcases h with rfl | rfl | rfl | rfl <;> exact fun _ => rfl
  | bl b h => rcases h with rfl | rfl | rfl | rfl <;> cases b <;> exact fun _ => rfl
  | int i j => exact fun _ => rfl
  | intN i => exact fun _ => rfl
  | intS i s => exact fun _ => rfl
  | str s t => exact fun _ => rfl
  | strN s => exact fun _ => rfl
  | nilN => exact fun _ => rfl
  | nilL es => exact fun _ => rfl
  | len h =>
    intro _
    rw [alk, PyData.eqv, alkAll_len h, eqvAll_len h]
  | at_ hd _ ih =>
    intro hf
    rw [fitD, Bool.and_eq_true] at hf
    rw [alk, PyData.eqv, alkAll_at hf.2 hd, eqvAll_at hf.2 hd]
    exact ih (fitAll_mem.mp hf.2 _ (List.mem_of_getElem? hd))
mutual
/-- no truth, no list -/
def nbD : PyData → Bool
  | .none => true
  | .int _ => true
  | .str _ => true
  | .tuple ds => nbAll ds
  | _ => false
def nbAll : List PyData → Bool
  | [] => true
  | x :: xs => nbD x && nbAll xs
end
theorem nbAll_mem : ∀ {ds : List PyData}, nbAll ds = true ↔ ∀ d ∈ ds, nbD d = true
  | [] => ⟨fun _ d h => (nomatch h), fun _ => rfl⟩
  | x :: xs => by
    rw [nbAll, Bool.and_eq_true, nbAll_mem (ds := xs)]
    exact ⟨fun h d hd => (List.mem_cons.mp hd).elim (fun e => by rw [e]; exact h.1) (h.2 d), fun h => ⟨h x List.mem_cons_self, fun d hd => h d (List.mem_cons_of_mem _ hd)⟩⟩
mutual
theorem nb_eq : ∀ (d e : PyData), nbD d = true → nbD e = true → alk d e = PyData.eqv d e
  | .none, e, _, h => by cases e <;> first | rfl | exact nomatch h
  | .int i, e, _, h => by cases e <;> first | rfl | exact nomatch h
  | .str s, e, _, h => by cases e <;> first | rfl | exact nomatch h
  | .tuple ds, .tuple es, h1, h2 => by
    rw [alk, PyData.eqv]
    exact nbAll_eq ds es h1 h2
  | .tuple ds, .none, _, _ => rfl
  | .tuple ds, .int _, _, _ => rfl
  | .tuple ds, .str _, _, _ => rfl
  | .tuple ds, .bool _, _, h => nomatch h
  | .tuple ds, .list _, _, h => nomatch h
  | .tuple ds, .dict _, _, h => nomatch h
  | .bool _, _, h, _ => nomatch h
  | .list _, _, h, _ => nomatch h
  | .dict _, _, h, _ => nomatch h
theorem nbAll_eq : ∀ (ds es : List PyData), nbAll ds = true → nbAll es = true → alkAll ds es = PyData.eqvAll ds es
  | [], [], _, _ => rfl
  | [], _ :: _, _, _ => rfl
  | _ :: _, [], _, _ => rfl
  | x :: xs, y :: ys, h1, h2 => by
    rw [nbAll, Bool.and_eq_true] at h1 h2
    rw [alkAll, PyData.eqvAll, nb_eq x y h1.1 h2.1, nbAll_eq xs ys h1.2 h2.2]
end
theorem all_eq : ∀ {xs ys : List PyData}, (∀ x ∈ xs, ∀ y ∈ ys, alk x y = PyData.eqv x y) → alkAll xs ys = PyData.eqvAll xs ys
  | [], [], _ => rfl
  | [], _ :: _, _ => rfl
  | _ :: _, [], _ => rfl
  | x :: xs, y :: ys, h => by
    rw [alkAll, PyData.eqvAll, h x List.mem_cons_self y List.mem_cons_self, all_eq fun a ha b hb => h a (List.mem_cons_of_mem _ ha) b (List.mem_cons_of_mem _ hb)]
/-- what may be left out -/
def Dft (x : PyData) : Prop := x = .bool true ∨ x = .str "a" ∨ x = .tuple [] ∨ x = .none ∨ x = .int 5
theorem dft_eq {x y : PyData} (hx : Dft x) (hy : Dft y) : alk x y = PyData.eqv x y := by
  rcases hx with rfl | rfl | rfl | rfl | rfl <;> rcases hy with rfl | rfl | rfl | rfl | rfl <;> rfl
def LikeS (l : PyData) : Prop := ∃ (p q r : PyData) (ls : List PyData), l = .tuple [p, q, r, .tuple ls] ∧ nbD p = true ∧ nbD q = true ∧ nbD r = true ∧ ∀ x ∈ ls, Dft x
def LeftS (l : PyData) : Prop := ∃ (p x : PyData), l = .tuple [p, x] ∧ nbD p = true ∧ Dft x
theorem like_eq {x y : PyData} (hx : LikeS x) (hy : LikeS y) : alk x y = PyData.eqv x y := by
  obtain ⟨p, q, r, ls, rfl, h1, h2, h3, h4⟩ := hx
  obtain ⟨p', q', r', ls', rfl, g1, g2, g3, g4⟩ := hy
  show (alk p p' && (alk q q' && (alk r r' && (alkAll ls ls' && true)))) = (PyData.eqv p p' && (PyData.eqv q q' && (PyData.eqv r r' && (PyData.eqvAll ls ls' && true))))
  rw [nb_eq _ _ h1 g1, nb_eq _ _ h2 g2, nb_eq _ _ h3 g3, all_eq fun x hx y hy => dft_eq (h4 x hx) (g4 y hy)]
theorem left_eq {x y : PyData} (hx : LeftS x) (hy : LeftS y) : alk x y = PyData.eqv x y := by
  obtain ⟨p, q, rfl, h1, h2⟩ := hx
  obtain ⟨p', q', rfl, g1, g2⟩ := hy
  show (alk p p' && (alk q q' && true)) = (PyData.eqv p p' && (PyData.eqv q q' && true))
  rw [nb_eq _ _ h1 g1, dft_eq h2 g2]
/-- a step -/
inductive StepS : PyData → Prop
  | other (w : Str) (rest : List PyData) : w ≠ "node" → nbAll rest = true → StepS (.tuple (.str w :: rest))
  | node (k : PyData) (likes lefts lacks : List PyData) : nbD k = true → (∀ l ∈ likes, LikeS l) → (∀ l ∈ lefts, LeftS l) → nbAll lacks = true → StepS (.tuple [.str "node", k, .tuple likes, .tuple lefts, .tuple lacks])
theorem step_eq {x y : PyData} (hx : StepS x) (hy : StepS y) : alk x y = PyData.eqv x y := by
  cases hx with
  | other w rest hw hr =>
    cases hy with
    | other w' rest' hw' hr' =>
      show (alk (.str w) (.str w') && alkAll rest rest') = (PyData.eqv (.str w) (.str w') && PyData.eqvAll rest rest')
      rw [nbAll_eq _ _ hr hr']
      rfl
    | node k likes lefts lacks _ _ _ _ =>
      show ((w == "node") && _) = ((w == "node") && _)
      rw [beq_false_of_ne hw]
      rfl
  | node k likes lefts lacks h1 h2 h3 h4 =>
    cases hy with
    | other w' rest' hw' hr' =>
      show (("node" == w') && _) = (("node" == w') && _)
      rw [beq_false_of_ne hw'.symm]
      rfl
    | node k' likes' lefts' lacks' g1 g2 g3 g4 =>
      show ((("node" : Str) == "node") && (alk k k' && (alkAll likes likes' && (alkAll lefts lefts' && (alkAll lacks lacks' && true))))) = ((("node" : Str) == "node") && (PyData.eqv k k' && (PyData.eqvAll likes likes' && (PyData.eqvAll lefts lefts' && (PyData.eqvAll lacks lacks' && true)))))
      rw [nb_eq _ _ h1 g1, all_eq fun x hx y hy => like_eq (h2 x hx) (g2 y hy), all_eq fun x hx y hy => left_eq (h3 x hx) (g3 y hy), nbAll_eq _ _ h4 g4]
theorem wtAll_le {m : Nat} : ∀ {xs : List PyData}, (∀ x ∈ xs, wtD x ≤ m) → wtAll xs ≤ xs.length * m
  | [], _ => Nat.zero_le _
  | x :: xs, h => by
    have h1 := h x List.mem_cons_self
    have h2 := wtAll_le (m := m) (xs := xs) fun y hy => h y (List.mem_cons_of_mem _ hy)
    rw [wtAll, List.length_cons, Nat.add_mul]
    omega
end Tw
set_option maxHeartbeats 2000000
namespace K34
open PySem PySem.Spec PyProof.Rows L2 Tw Sb LamX
/-! ### the steps of drawn schemas -/
structure EnF (e : En) : Prop where
  num : e.num.natAbs ≤ 100
  name : e.name.length ≤ 1000
  left : ∀ d, e.left = some d → Dft d
structure RF (es : List En) : Prop where
  len : es.length ≤ 100
  all : ∀ e ∈ es, EnF e
theorem chF {tb : List TRow} {k : Str} (h : ∀ r ∈ tb, RF r.2) : RF (chT (sortT tb) k) := by
  cases e : chT (sortT tb) k with
  | nil => exact ⟨Nat.zero_le _, fun e h => nomatch h⟩
  | cons x r =>
    obtain ⟨q, hq, _, e2⟩ := chT_row (tb := sortT tb) (c := k) (e := x) (by rw [e]; exact List.mem_cons_self)
    obtain ⟨q0, hq0, rfl⟩ := List.mem_map.mp hq
    rw [← e, e2]
    have g := h q0 hq0
    exact ⟨by rw [sortEn_len]; exact g.len, fun y hy => g.all y ((mem_sortEn y).mp hy)⟩
theorem dft_left {s : So} {d : PyData} (h : leftG s = some d) : Dft d := by
  cases s <;> cases h
  · exact .inr (.inr (.inr (.inr rfl)))
  · exact .inl rfl
  · exact .inr (.inl rfl)
  · exact .inr (.inr (.inl rfl))
  · exact .inr (.inr (.inr (.inl rfl)))
theorem Drawn.rf {ks : List Str} {tb : List TRow} {cs : List En} (h : Drawn ks tb cs) : ∀ r ∈ tb, RF r.2 := fun r hr => by
  have t := h.t1 r hr
  obtain ⟨nm, hn, g⟩ := h.row
  refine ⟨t.2.2.1, fun e he => ?_⟩
  obtain ⟨l, ok⟩ := RowOk.at_ t.2.1 he
  have lo := ok.lo
  have hi := ok.hi
  rw [if_pos rfl] at lo
  refine ⟨by omega, Nat.le_trans (nm_asc ok.name).1 (by decide), fun d hd => ?_⟩
  obtain ⟨s, _, _, hl⟩ := ((g r hr).all e he).1.of
  rcases hl with hl | hl
  · rw [hl] at hd
    cases hd
  · rw [hl] at hd
    exact dft_left hd
theorem Drawn.cf {ks : List Str} {tb : List TRow} {cs : List En} (h : Drawn ks tb cs) : ∀ r ∈ [(("c" : Str), cs)], RF r.2 := fun r hr => by
  have t := h.t2 r hr
  refine ⟨t.2.2.1, fun e he => ?_⟩
  obtain ⟨l, ok⟩ := RowOk.at_ t.2.1 he
  have lo := ok.lo
  have hi := ok.hi
  rw [if_neg Bool.false_ne_true] at lo
  refine ⟨by omega, Nat.le_trans (nm_asc ok.name).1 (by decide), fun d hd => ?_⟩
  rw [ch_left ok] at hd
  cases hd
/-- small parts -/
def Sm (m : Nat) (d : PyData) : Prop := nbD d = true ∧ fitD d = true ∧ wtD d ≤ m
theorem sm_int {i : Int} (h : i.natAbs ≤ 1000000) : Sm 1 (.int i) := ⟨rfl, decide_eq_true h, Nat.le_refl _⟩
theorem sm_str {s : Str} (h : s.length ≤ 1000) : Sm 1 (.str s) := ⟨rfl, decide_eq_true h, Nat.le_refl _⟩
theorem sm_none : Sm 1 .none := ⟨rfl, rfl, Nat.le_refl _⟩
theorem Sm.mono {m n : Nat} {d : PyData} (h : Sm m d) (l : m ≤ n) : Sm n d := ⟨h.1, h.2.1, Nat.le_trans h.2.2 l⟩
theorem sm_tup {m n : Nat} {ds : List PyData} (h : ∀ d ∈ ds, Sm m d) (l : ds.length ≤ n) (l2 : n ≤ 1000) : Sm (1 + n * m) (.tuple ds) := by
  refine ⟨nbAll_mem.mpr fun d hd => (h d hd).1, fit_tup' (by omega) fun d hd => (h d hd).2.1, ?_⟩
  show 1 + wtAll ds ≤ _
  have h1 := wtAll_le (m := m) (xs := ds) fun d hd => (h d hd).2.2
  have h2 := Nat.mul_le_mul_right m l
  omega
structure StF (d : PyData) : Prop where
  sh : StepS d
  fit : fitD d = true
  wt : wtD d ≤ 1000000
theorem stf_other {w : Str} {rest : List PyData} (hw : w ≠ "node") (hl : w.length ≤ 1000) (h : ∀ d ∈ rest, Sm 1000 d) (l : rest.length ≤ 10) : StF (.tuple (.str w :: rest)) := by
  have g : ∀ d ∈ (PyData.str w :: rest), Sm 1000 d := fun d hd => (List.mem_cons.mp hd).elim (fun e => by rw [e]; exact (sm_str hl).mono (by decide)) (h d)
  have s := sm_tup (n := 11) g (by rw [List.length_cons]; omega) (by decide)
  exact ⟨.other w rest hw (nbAll_mem.mpr fun d hd => (h d hd).1), s.2.1, Nat.le_trans s.2.2 (by decide)⟩
theorem one_mem {α : Type} {p : α → Prop} {a : α} (h : p a) : ∀ x ∈ [a], p x := fun x hx => by
  rw [List.mem_singleton.mp hx]
  exact h
theorem cons_mem {α : Type} {p : α → Prop} {a : α} {l : List α} (h : p a) (r : ∀ x ∈ l, p x) : ∀ x ∈ a :: l, p x := fun x hx => (List.mem_cons.mp hx).elim (fun e => by rw [e]; exact h) (r x)
theorem place_le (r : List Pr) (p : Pr) : (placeS r p).natAbs ≤ r.length := by
  have : placeK (r.map pk) (pk p) ≤ (r.map pk).length := List.findIdx_le_length
  rw [List.length_map] at this
  show ((placeK (r.map pk) (pk p) : Nat) : Int).natAbs ≤ _
  omega
theorem dft_fit {d : PyData} (h : Dft d) : fitD d = true ∧ wtD d ≤ 1 := by
  rcases h with rfl | rfl | rfl | rfl | rfl <;> exact ⟨by decide +kernel, by decide +kernel⟩
theorem fit_dfts {ds : List PyData} {n : Nat} (h : ∀ d ∈ ds, Dft d) (l : ds.length ≤ n) (l2 : n ≤ 1000) : fitD (.tuple ds) = true ∧ wtD (.tuple ds) ≤ 1 + n := by
  refine ⟨fit_tup' (by omega) fun d hd => (dft_fit (h d hd)).1, ?_⟩
  show 1 + wtAll ds ≤ _
  have h1 := wtAll_le (m := 1) (xs := ds) fun d hd => (dft_fit (h d hd)).2
  omega
def Fw (m : Nat) (d : PyData) : Prop := fitD d = true ∧ wtD d ≤ m
theorem fw_tup {m n : Nat} {ds : List PyData} (h : ∀ d ∈ ds, Fw m d) (l : ds.length ≤ n) (l2 : n ≤ 1000) : Fw (1 + n * m) (.tuple ds) := by
  refine ⟨fit_tup' (by omega) fun d hd => (h d hd).1, ?_⟩
  show 1 + wtAll ds ≤ _
  have h1 := wtAll_le (m := m) (xs := ds) fun d hd => (h d hd).2
  have h2 := Nat.mul_le_mul_right m l
  omega
theorem Fw.mono {m n : Nat} {d : PyData} (h : Fw m d) (l : m ≤ n) : Fw n d := ⟨h.1, Nat.le_trans h.2 l⟩
theorem Sm.fw {m : Nat} {d : PyData} (h : Sm m d) : Fw m d := h.2
theorem case_f {r : List Pr} {es fs : List En} (hr : r.length ≤ 5000) (he : RF es) (hf : RF fs) : StF (choiceD r es fs) := by
  unfold choiceD
  refine stf_other (by decide +kernel) (by decide) (cons_mem ?_ (one_mem ?_)) (by show 2 ≤ 10; decide)
  · refine (sm_tup (m := 4) (n := 100) (fun d hd => ?_) (Nat.le_trans (List.length_filterMap_le _ _) he.len) (by decide)).mono (by decide)
    obtain ⟨e, hem, hc⟩ := List.mem_filterMap.mp hd
    unfold caseStep at hc
    obtain ⟨f, hfn, rfl⟩ := Option.map_eq_some_iff.mp hc
    have E := he.all e hem
    have F := hf.all f (enNum_mem hfn).1
    have en := E.num
    refine sm_tup (m := 1) (n := 3) (cons_mem (sm_int (by omega)) (cons_mem (sm_str F.name) (one_mem ?_))) (Nat.le_refl _) (by decide)
    cases f.of with
    | none => cases e.of <;> exact sm_none
    | some b =>
      cases e.of with
      | none => exact sm_int (by decide)
      | some a =>
        have := place_le r (a, b)
        exact sm_int (by omega)
  · cases h : enNum fs 0 with
    | none => exact sm_none.mono (by decide)
    | some f => exact (sm_str (hf.all f (enNum_mem h).1).name).mono (by decide)
theorem node_f {r : List Pr} {es fs : List En} {k : Str} (hk : k.length ≤ 1000) (hr : r.length ≤ 5000) (he : RF es) (hf : RF fs) : StF (nodeD r es fs k) := by
  have l1 : ∀ x ∈ fs.filterMap (likeStep r es), LikeS x ∧ Fw 6 x := fun x hx => by
    obtain ⟨f, hfm, hc⟩ := List.mem_filterMap.mp hx
    have F := hf.all f hfm
    unfold likeStep at hc
    cases hn : enNum es f.num with
    | none => rw [hn] at hc; cases hc
    | some e =>
      rw [hn] at hc
      cases hb : f.of with
      | none => rw [hb] at hc; cases hc
      | some b =>
        rw [hb] at hc
        dsimp only at hc
        cases ha : e.of with
        | none => rw [ha] at hc; cases hc
        | some a =>
          rw [ha] at hc
          cases hc
          have E := he.all e (enNum_mem hn).1
          have fn := F.num
          have pl := place_le r (a, b)
          have dl : ∀ d ∈ e.left.toList, Dft d := fun d hd => by
            cases hl : e.left with
            | none => rw [hl] at hd; exact nomatch hd
            | some y =>
              rw [hl] at hd
              rw [List.mem_singleton.mp hd]
              exact E.left y hl
          have dn : e.left.toList.length ≤ 1 := by
            cases e.left <;> simp
          have q1 := sm_int (i := f.num) (by omega)
          have q2 := sm_str F.name
          have q3 := sm_int (i := placeS r (a, b)) (by omega)
          have q4 := fit_dfts dl dn (by decide)
          refine ⟨⟨_, _, _, _, rfl, q1.1, q2.1, q3.1, dl⟩, ?_, ?_⟩
          · exact fit_tup' (by show 4 ≤ 1000; decide) (cons_mem q1.2.1 (cons_mem q2.2.1 (cons_mem q3.2.1 (one_mem q4.1))))
          · show 1 + (1 + (1 + (1 + (wtD (.tuple e.left.toList) + 0)))) ≤ 6
            have := q4.2
            omega
  have l2 : ∀ x ∈ fs.filterMap (leftStep es), LeftS x ∧ Fw 3 x := fun x hx => by
    obtain ⟨f, hfm, hc⟩ := List.mem_filterMap.mp hx
    have F := hf.all f hfm
    unfold leftStep at hc
    cases hn : enNum es f.num with
    | some e => rw [hn] at hc; cases hc
    | none =>
      rw [hn] at hc
      obtain ⟨d, hd, rfl⟩ := Option.map_eq_some_iff.mp (show f.left.map _ = some x from hc)
      have D := F.left d hd
      have q2 := sm_str F.name
      have q := dft_fit D
      refine ⟨⟨_, _, rfl, q2.1, D⟩, fit_tup' (by show 2 ≤ 1000; decide) (cons_mem q2.2.1 (one_mem q.1)), ?_⟩
      show 1 + (1 + (wtD d + 0)) ≤ 3
      have := q.2
      omega
  have l3 : ∀ x ∈ fs.filterMap (lackStep es), Sm 1 x := fun x hx => by
    obtain ⟨f, hfm, hc⟩ := List.mem_filterMap.mp hx
    have F := hf.all f hfm
    unfold lackStep at hc
    cases hn : enNum es f.num with
    | some e => rw [hn] at hc; cases hc
    | none =>
      rw [hn] at hc
      cases hl : f.left with
      | some d => rw [hl] at hc; cases hc
      | none =>
        rw [hl] at hc
        cases hc
        exact sm_str F.name
  have n1 : (fs.filterMap (likeStep r es)).length ≤ 100 := Nat.le_trans (List.length_filterMap_le _ _) hf.len
  have n2 : (fs.filterMap (leftStep es)).length ≤ 100 := Nat.le_trans (List.length_filterMap_le _ _) hf.len
  have n3 : (fs.filterMap (lackStep es)).length ≤ 100 := Nat.le_trans (List.length_filterMap_le _ _) hf.len
  have f1 := fw_tup (fun x hx => (l1 x hx).2) n1 (by decide)
  have f2 := fw_tup (fun x hx => (l2 x hx).2) n2 (by decide)
  have f3 := fw_tup (fun x hx => (l3 x hx).fw) n3 (by decide)
  have f0 : Fw 1 (.str "node") := ⟨by decide +kernel, Nat.le_refl _⟩
  have fk := (sm_str hk).fw
  unfold nodeD
  have f := fw_tup (m := 700) (n := 5) (cons_mem (f0.mono (by decide)) (cons_mem (fk.mono (by decide)) (cons_mem (f1.mono (by decide)) (cons_mem (f2.mono (by decide)) (one_mem (f3.mono (by decide))))))) (Nat.le_refl _) (by decide)
  exact ⟨.node _ _ _ _ rfl (fun x hx => (l1 x hx).1) (fun x hx => (l2 x hx).1) (nbAll_mem.mpr fun x hx => (l3 x hx).1), f.1, Nat.le_trans f.2 (by decide)⟩
theorem step_f {ks : List Str} {tk1 tc1 tk2 tc2 : List TRow} {o1 o2 : So} {r : List Pr} (hn : ∀ k ∈ ks, isNm k = true) (hr : r.length ≤ 5000) (K1 : ∀ q ∈ tk1, RF q.2) (C1 : ∀ q ∈ tc1, RF q.2) (K2 : ∀ q ∈ tk2, RF q.2) (C2 : ∀ q ∈ tc2, RF q.2) {p : Pr} (h : DsP ks p) : StF (stepD (scmT tk1 tc1 o1) (scmT tk2 tc2 o2) r p.1 p.2) := by
  obtain ⟨o, n⟩ := p
  have ho : Ds ks o := h.1
  have hd : Ds ks n := h.2
  have pl : ∀ q, Sm 1 (.int (placeS r q)) := fun q => sm_int (by have := place_le r q; omega)
  have bad : StF (.tuple [.str "bad"]) := stf_other (by decide +kernel) (by decide) (fun _ h => nomatch h) (by decide)
  have wi : ∀ (x : Str) (q : Pr), x ≠ "node" → x.length ≤ 1000 → StF (.tuple [.str x, .int (placeS r q)]) := fun x q a b => stf_other a b (one_mem ((pl q).mono (by decide))) (by show 1 ≤ 10; decide)
  show StF (stepD (scmT tk1 tc1 o1) (scmT tk2 tc2 o2) r o n)
  cases o with
  | may a => cases n <;> exact wi _ _ (by decide +kernel) (by decide)
  | num a b =>
    cases n with
    | num c d =>
      refine stf_other (w := "number") (by decide +kernel) (by decide) (cons_mem (Sm.mono (m := 1) ?_ (by decide)) (one_mem (Sm.mono (m := 1) ?_ (by decide)))) (by show 2 ≤ 10; decide)
      all_goals
        cases hd with
        | one hd =>
          cases hd with
          | num lo a b => exact sm_int (by omega)
          | num0 => exact sm_none
    | may b => exact wi _ _ (by decide +kernel) (by decide)
    | _ => exact bad
  | tru =>
    cases n with
    | tru => exact stf_other (by decide +kernel) (by decide) (fun _ h => nomatch h) (by decide)
    | may b => exact wi _ _ (by decide +kernel) (by decide)
    | _ => exact bad
  | txt a =>
    cases n with
    | txt c =>
      refine stf_other (w := "text") (by decide +kernel) (by decide) (one_mem (Sm.mono (m := 1) ?_ (by decide))) (by show 1 ≤ 10; decide)
      cases hd with
      | one hd =>
        cases hd with
        | txt => exact sm_int (by decide)
        | txt1 => exact sm_int (by decide)
    | may b => exact wi _ _ (by decide +kernel) (by decide)
    | _ => exact bad
  | row m s =>
    cases n with
    | row l u =>
      refine stf_other (w := "row") (by decide +kernel) (by decide) (cons_mem (Sm.mono (m := 1) ?_ (by decide)) (one_mem (Sm.mono (m := 1) ?_ (by decide)))) (by show 2 ≤ 10; decide)
      · cases hd with
        | one hd => cases hd
        | rnod _ => exact sm_int (by decide)
        | rtxt => exact sm_int (by decide)
      · split
        · exact pl _
        · exact sm_int (by decide)
    | may b => exact wi _ _ (by decide +kernel) (by decide)
    | _ => exact bad
  | cho k =>
    cases n with
    | cho l => exact case_f hr (chF C1) (chF C2)
    | may b => exact wi _ _ (by decide +kernel) (by decide)
    | _ => exact bad
  | nod k =>
    cases n with
    | nod l => exact node_f (Nat.le_trans (nm_asc (hn l hd.nod)).1 (by decide)) hr (chF K1) (chF K2)
    | may b => exact wi _ _ (by decide +kernel) (by decide)
    | _ => exact bad
end K34
set_option maxHeartbeats 2000000
namespace K34
open PySem PySem.Spec PyProof.Rows L2 Tw Sb LamX
theorem pickA {xs : List V} {P : V → Prop} {r : Int} (h0 : 0 ≤ r) (h1 : r < xs.length) (h : ∀ x ∈ xs, P x) : ∃ v, atI xs r = some v ∧ P v := by
  obtain ⟨i, rfl⟩ := Int.eq_ofNat_of_zero_le h0
  have hi : i < xs.length := by omega
  exact ⟨xs[i], atI_nat (List.getElem?_eq_getElem hi), h _ (List.getElem_mem hi)⟩
theorem log_small {i : Int} (h : i.natAbs ≤ 1000000) : i.natAbs.log2 < 1920 := by
  by_cases c : i.natAbs = 0
  · rw [c]
    decide
  · have := (Nat.log2_lt (k := 20) c).mpr (Nat.lt_of_le_of_lt h (by decide))
    omega
theorem depth_mem {ds : List PyData} {d : PyData} (h : d ∈ ds) : PyData.depth d ≤ PyData.depthAll ds := by
  induction ds with
  | nil => exact nomatch h
  | cons x r ih =>
    show _ ≤ max (PyData.depth x) (PyData.depthAll r)
    rcases List.mem_cons.mp h with rfl | h
    · exact Nat.le_max_left _ _
    · exact Nat.le_trans (ih h) (Nat.le_max_right _ _)
def spOther (K : PySem.W.Frag) (n : Nat) : Sp := fun vs H Q _ => ∃ (a : Addr) (v : V) (d : PyData), vs = [.ref a, v] ∧ IsW2 H a ∧ Td K H v d ∧ PyData.depth d < n ∧ fitD d = true ∧ ∀ (u : V) (e : PyData) (H' : Hp), Fv a H H' → Oth d e → Ra K a H' u e → Q u H'
section
variable {P : Program} {w : World} {K : PySem.W.Frag} {mg : Str → Option Value} {base : Heap}
theorem ok_other_step {n : Nat} {f : Addr} {fd : FuncData} (F : Fun K "_law_other" "_law_other" s__law_other f fd) (T : Bu mg) (c__law_draw : Cal P w K mg base 1 "_law_draw" ["_law_well", "_law_many"] spDraw2) (c__law_other : Cal P w K mg base (2 + n) "_law_other" ["_law_well", "_law_part"] (spOther K n)) :
    FnOk P w K mg base CX0 (3 + n) f fd ["_law_well", "_law_part"] (spOther K (n + 1)) := by
  refine (show FnOk P w K mg base CX0 ((2 + n) + 1) f fd ["_law_well", "_law_part"] (spOther K (n + 1)) from F.ok sc__law_other (fun vs H Q E h => ?_) (fun cdv A outer s H vs Q E hr h => ?_)).mono (by omega)
  · obtain ⟨a, v, d, rfl, _⟩ := h
    rfl
  · obtain ⟨a, v, d, rfl, hw, hd, hdep, hfit, q⟩ := h
    have hu := hu_of hr
    refine ⟨_, (pss_cons (ps_set (i := 2) sc__law_other.nd rfl (.inl rfl) (pe_cal c__law_draw hr (by omega) (by rfl) (pa_cons (pv 0) (pa_cons pe_int pa_nil))))
      (pss_cons (ps_if (pt_cmpR op_isN (pv 1) pe_non (nomark _))
        (pss_one (ps_ret (pe_ix (r := rIxL K) ix_list (pe_lst (pa_cons pe_int (pa_cons pe_int (pa_cons pe_str (pa_cons (pe_un un_neg pe_int) pa_nil))))) (pv 2) (fun _ _ => rfl))))
        pss_nil)
      (pss_cons (ps_if (pt_val (pe_callB (id := "isinstance") (r := rIsi K) call_isi (by rfl) T.n_isinstance (by decide +kernel) (pa_cons (pv 1) (pa_cons (pe_bltn (v := .ty "bool") rfl T.n_bool (by decide +kernel) rfl) pa_nil))))
        (pss_one (ps_ret (pe_ix (r := rIxL K) ix_list (pe_lst (pa_cons (pe_not (pv 1)) (pa_cons pe_non (pa_cons pe_str (pa_cons (pe_un un_neg pe_int) pa_nil))))) (pv 2) (fun _ _ => rfl))))
        pss_nil)
      (pss_cons (ps_if (pt_val (pe_callB (id := "isinstance") (r := rIsi K) call_isi (by rfl) T.n_isinstance (by decide +kernel) (pa_cons (pv 1) (pa_cons (pe_bltn (v := .ty "int") rfl T.n_int (by decide +kernel) rfl) pa_nil))))
        (pss_one (ps_ret (pe_ix (r := rIxL K) ix_list (pe_lst (pa_cons (pe_op op_add (pv 1) pe_int) (pa_cons (pe_op op_sub (pv 1) pe_int) (pa_cons pe_non (pa_cons (pe_callTy call_str_int (by rfl) T.n_str (by decide +kernel) (pa_cons (pv 1) pa_nil)) pa_nil))))) (pv 2) (fun _ _ => rfl))))
        pss_nil)
      (pss_cons (ps_if (pt_val (pe_callB (id := "isinstance") (r := rIsi K) call_isi (by rfl) T.n_isinstance (by decide +kernel) (pa_cons (pv 1) (pa_cons (pe_bltn (v := .ty "str") rfl T.n_str (by decide +kernel) rfl) pa_nil))))
        (pss_one (ps_ret (pe_ix (r := rIxL K) ix_list (pe_lst (pa_cons (pe_op op_add_str (pv 1) pe_str) (pa_cons (pe_slice (r := rSlS) sl_str (pv 1) po_none (po_some (pe_un un_neg pe_int))) (pa_cons pe_non (pa_cons (pe_upper (pv 1)) pa_nil))))) (pv 2) (fun _ _ => rfl))))
        pss_nil)
      (pss_cons (ps_if (pt_cmpR (op_eqG hr.units) (pv 1) (pe_tup pa_nil) (nomark _))
        (pss_one (ps_ret (pe_ix (r := rIxL K) ix_list (pe_lst (pa_cons (pe_tup (pa_cons pe_int pa_nil)) (pa_cons pe_non (pa_cons (pe_lst (pa_cons (pe_tup (pa_cons pe_int (pa_cons pe_str (pa_cons pe_int pa_nil)))) pa_nil)) (pa_cons (pe_tup (pa_cons (pe_tup pa_nil) pa_nil)) pa_nil))))) (pv 2) (fun _ _ => rfl))))
        pss_nil)
      (pss_cons (ps_set (i := 3) sc__law_other.nd rfl (.inl rfl) (pe_cal c__law_draw hr (by omega) (by rfl) (pa_cons (pv 0) (pa_cons (pe_callB call_len_seq (by rfl) T.n_len (by decide +kernel) (pa_cons (pv 1) pa_nil)) pa_nil))))
      (pss_cons (ps_if (pt_cmpR op_lt (pv 2) pe_int (nomark _))
        (pss_one (ps_ret (pe_ix (r := rIxL K) ix_list (pe_lst (pa_cons (pe_op op_catR (pe_slice (r := rSlRa K) sl_ra (pv 1) po_none (po_some (pv 3))) (pe_slice (r := rSlRa K) sl_ra (pv 1) (po_some (pe_op op_add (pv 3) pe_int)) po_none)) (pa_cons (pe_op op_catR (pv 1) (pe_slice (r := rSlRa K) sl_ra (pv 1) po_none (po_some pe_int))) pa_nil))) (pv 2) (fun _ _ => rfl))))
        pss_nil)
      (pss_one (ps_ret (pe_op op_catR (pe_op op_catR (pe_slice (r := rSlRa K) sl_ra (pv 1) po_none (po_some (pv 3))) (pe_tup (pa_cons (pe_cal c__law_other hr (by omega) (by rfl) (pa_cons (pv 0) (pa_cons (pe_ix (r := rIxT K) ix_tup (pv 1) (pv 3) (fun _ _ => rfl)) pa_nil))) pa_nil))) (pe_slice (r := rSlRa K) sl_ra (pv 1) (po_some (pe_op op_add (pv 3) pe_int)) po_none)))))))))))), ?_⟩
    refine ⟨_, rfl, a, 4, rfl, hw, by decide, by decide, fun r H1 r0 r1 f1 => ?_⟩
    have hd1 := hd.keep (f1.keepT (K := K) hw)
    have w1 := f1.2
    have fin : ∀ {L : Addr} {xs : List V} {H2 : Hp}, Same H1 H2 → r < xs.length → (∀ x ∈ xs, ∃ e, Oth d e ∧ Ra K a H2 x e) → ∃ x, atI xs r = some x ∧ Q x H2 := fun s2 hl h => by
      obtain ⟨x, hx, e, h1, h2⟩ := pickA r0 hl h
      exact ⟨x, hx, q x e _ (f1.same s2) h1 h2⟩
    cases hd1 with
    | non =>
      refine ⟨_, rfl, rfl, _, rfl, iteY rfl ?_⟩
      refine ⟨1, rfl, by show 4 ≤ sizeLine; decide, fun L hL => ?_⟩
      obtain ⟨x, hx, hq⟩ := fin (L := L) (xs := [V.int 0, .int 1, .str "", .int (-1)]) (same_upd hL) (by show r < 4; omega) (cons_mem ⟨_, .non (.inl rfl), .int _⟩ (cons_mem ⟨_, .non (.inr (.inl rfl)), .int _⟩ (cons_mem ⟨_, .non (.inr (.inr (.inl rfl))), .str _⟩ (one_mem ⟨_, .non (.inr (.inr (.inr rfl))), .int _⟩))))
      exact ⟨_, rfl, L, _, r, x, rfl, rfl, SqL.of upd_same, hx, hq⟩
    | bl b =>
      refine ⟨_, rfl, rfl, _, rfl, iteN (fun z => nomatch z) ?_⟩
      refine ⟨_, rfl, .bl b, .ty "bool", _, .type "bool", _, rfl, .ty "bool", .base (.bl b), kit_ty (show kitB "bool" "bool" = some true by decide +kernel), _, rfl, iteT ?_⟩
      refine ⟨_, rfl, b, rfl, 1, rfl, by show 4 ≤ sizeLine; decide, fun L hL => ?_⟩
      obtain ⟨x, hx, hq⟩ := fin (L := L) (xs := [V.bl (!b), .non, .str "", .int (-1)]) (same_upd hL) (by show r < 4; omega) (cons_mem ⟨_, .bl b (.inl rfl), .bl _⟩ (cons_mem ⟨_, .bl b (.inr (.inl rfl)), .non⟩ (cons_mem ⟨_, .bl b (.inr (.inr (.inl rfl))), .str _⟩ (one_mem ⟨_, .bl b (.inr (.inr (.inr rfl))), .int _⟩))))
      exact ⟨_, rfl, L, _, r, x, rfl, rfl, SqL.of upd_same, hx, hq⟩
    | int i =>
      have hi : i.natAbs ≤ 1000000 := of_decide_eq_true hfit
      refine ⟨_, rfl, rfl, _, rfl, iteN (fun z => nomatch z) ?_⟩
      refine ⟨_, rfl, .int i, .ty "bool", _, .type "bool", _, rfl, .ty "bool", .base (.int i), kit_ty (show kitB "int" "bool" = some false by decide +kernel), _, rfl, iteF ?_⟩
      refine ⟨_, rfl, .int i, .ty "int", _, .type "int", _, rfl, .ty "int", .base (.int i), kit_ty (show kitB "int" "int" = some true by decide +kernel), _, rfl, iteT ?_⟩
      refine ⟨_, rfl, i, 1, rfl, rfl, _, rfl, i, 1, rfl, rfl, _, rfl, i, rfl, log_small hi, by show 4 ≤ sizeLine; decide, fun L hL => ?_⟩
      obtain ⟨x, hx, hq⟩ := fin (L := L) (xs := [V.int (i + 1), .int (i - 1), .non, .str (toString i)]) (same_upd hL) (by show r < 4; omega) (cons_mem ⟨_, .int i _, .int _⟩ (cons_mem ⟨_, .int i _, .int _⟩ (cons_mem ⟨_, .intN i, .non⟩ (one_mem ⟨_, .intS i _, .str _⟩))))
      exact ⟨_, rfl, L, _, r, x, rfl, rfl, SqL.of upd_same, hx, hq⟩
    | str z =>
      have hz : z.length ≤ 1000 := of_decide_eq_true hfit
      refine ⟨_, rfl, rfl, _, rfl, iteN (fun z => nomatch z) ?_⟩
      refine ⟨_, rfl, .str z, .ty "bool", _, .type "bool", _, rfl, .ty "bool", .base (.str z), kit_ty (show kitB "str" "bool" = some false by decide +kernel), _, rfl, iteF ?_⟩
      refine ⟨_, rfl, .str z, .ty "int", _, .type "int", _, rfl, .ty "int", .base (.str z), kit_ty (show kitB "str" "int" = some false by decide +kernel), _, rfl, iteF ?_⟩
      refine ⟨_, rfl, .str z, .ty "str", _, .type "str", _, rfl, .ty "str", .base (.str z), kit_ty (show kitB "str" "str" = some true by decide +kernel), _, rfl, iteT ?_⟩
      refine ⟨_, rfl, z, _, rfl, rfl, by show z.length + 1 ≤ sizeLine; rw [sizeLine_eq]; omega, _, rfl, 1, rfl, _, rfl, z, rfl, by rw [sizeLine_eq]; omega, _, rfl, ⟨z, rfl⟩, z, rfl, rfl, by omega, by show 4 ≤ sizeLine; decide, fun L hL => ?_⟩
      obtain ⟨x, hx, hq⟩ := fin (L := L) (xs := [V.str (z ++ "a"), .str (cutS z none (some (-1))), .non, .str (Txt.upper z)]) (same_upd hL) (by show r < 4; omega) (cons_mem ⟨_, .str z _, .str _⟩ (cons_mem ⟨_, .str z _, .str _⟩ (cons_mem ⟨_, .strN z, .non⟩ (one_mem ⟨_, .str z _, .str _⟩))))
      exact ⟨_, rfl, L, _, r, x, rfl, rfl, SqL.of upd_same, hx, hq⟩
    | @tup t xs ds ht hxs =>
      refine ⟨_, rfl, rfl, _, rfl, iteN (fun z => nomatch z) ?_⟩
      refine ⟨_, rfl, .ref t, .ty "bool", _, .type "bool", _, rfl, .ty "bool", SqT.ty ht, kit_ty (show kitB "tuple" "bool" = some false by decide +kernel), _, rfl, iteF ?_⟩
      refine ⟨_, rfl, .ref t, .ty "int", _, .type "int", _, rfl, .ty "int", SqT.ty ht, kit_ty (show kitB "tuple" "int" = some false by decide +kernel), _, rfl, iteF ?_⟩
      refine ⟨_, rfl, .ref t, .ty "str", _, .type "str", _, rfl, .ty "str", SqT.ty ht, kit_ty (show kitB "tuple" "str" = some false by decide +kernel), _, rfl, iteF ?_⟩
      have hT : Td K H1 (.ref t) (.tuple ds) := .tup ht hxs
      refine ⟨_, rfl, by show 0 ≤ sizeLine; decide, fun t0 h0 => ?_⟩
      have s2 := same_upd (o := .tup []) h0
      have hT2 := hT.keep (KeepT.same s2)
      have e2 : Dp K (upd H1 t0 (.tup [])) (.ref t0) (.tuple []) := .tup (SqT.of upd_same) .nil
      generalize upd H1 t0 (.tup []) = H2 at s2 hT2 e2 ⊢
      refine ⟨_, _, hT2.dp, e2, hT2.plain, rfl, by decide, _, rfl, ?_⟩
      have f2 := f1.same s2
      have w2 := f2.2
      cases ds with
      | nil =>
        refine iteT ?_
        refine ⟨by show 1 ≤ sizeLine; decide, fun t1 h1 => ⟨by show 3 ≤ sizeLine; decide, fun t2 h2 => ⟨by show 1 ≤ sizeLine; decide, fun l3 h3 => ⟨by show 0 ≤ sizeLine; decide, fun t4 h4 => ⟨by show 1 ≤ sizeLine; decide, fun t5 h5 => ⟨by show 4 ≤ sizeLine; decide, fun L hL => ?_⟩⟩⟩⟩⟩⟩
        have j1 := same_upd (o := .tup [V.int 1]) h1
        have j2 := same_upd (o := .tup [V.int 0, .str "a", .int 1]) h2
        have j3 := same_upd (o := .lst [V.ref t2]) h3
        have j4 := same_upd (o := .tup []) h4
        have j5 := same_upd (o := .tup [V.ref t4]) h5
        have jL := same_upd (o := .lst [V.ref t1, .non, .ref l3, .ref t5]) hL
        have n3 : l3 ≠ a := ((f2.same j1).same j2).2.ne h3
        have g1 : Ra K a _ (.ref t1) (.tuple [.int 1]) := .tup (SqT.of (jL _ _ (j5 _ _ (j4 _ _ (j3 _ _ (j2 _ _ upd_same)))))) (.cons (.int _) .nil)
        have g3 : Ra K a _ (.ref l3) (.list [.tuple [.int 0, .str "a", .int 1]]) := .lst n3 (jL _ _ (j5 _ _ (j4 _ _ upd_same))) (.cons (.tup (SqT.of (jL _ _ (j5 _ _ (j4 _ _ (j3 _ _ upd_same))))) (.cons (.int _) (.cons (.str _) (.cons (.int _) .nil)))) .nil)
        have g5 : Ra K a _ (.ref t5) (.tuple [.tuple []]) := .tup (SqT.of (jL _ _ upd_same)) (.cons (.tup (SqT.of (jL _ _ (j5 _ _ upd_same))) .nil) .nil)
        obtain ⟨x, hx, hq⟩ := fin (L := L) (xs := [V.ref t1, .non, .ref l3, .ref t5]) (((((s2.trans j1).trans j2).trans j3).trans j4).trans j5 |>.trans jL) (by show r < 4; omega) (cons_mem ⟨_, .len (by decide), g1⟩ (cons_mem ⟨_, .nilN, .non⟩ (cons_mem ⟨_, .nilL _, g3⟩ (one_mem ⟨_, .len (by decide), g5⟩))))
        exact ⟨_, rfl, L, _, r, x, rfl, rfl, SqL.of upd_same, hx, hq⟩
      | cons d0 dr =>
        refine iteF ?_
        obtain ⟨t', xs', e', ht2, hxs2⟩ := Td.row hT2
        cases e'
        generalize hds : d0 :: dr = ds at hT2 hxs2 hdep hfit q fin ⊢
        have dpos : 0 < ds.length := by
          rw [← hds]
          exact Nat.succ_pos _
        clear hds hd ht hxs hT
        have xl := hxs2.len
        obtain ⟨dl, df⟩ := fit_tup hfit
        refine ⟨_, rfl, _, rfl, t, xs', rfl, .inr ht2, a, _, rfl, w2, by omega, small_abs2 (by omega) (by omega), fun j H3 j0 j1 f3 => ?_⟩
        have f13 := f2.trans f3
        have hT3 := hT2.keep (f3.keepT (K := K) w2)
        have w3 := f3.2
        obtain ⟨jn, rfl⟩ := Int.eq_ofNat_of_zero_le j0
        have jl : jn < ds.length := by omega
        have hR3 : Ra K a H3 (.ref t) (.tuple ds) := hT3.ra
        have c1 : cutDs ds none (some ((jn : Nat) : Int)) = ds.take jn := cutDs_take (by omega)
        have c2 : cutDs ds (some ((jn : Nat) + 1 : Int)) none = ds.drop (jn + 1) := cutDs_drop (n := jn + 1) (by omega)
        refine ⟨_, rfl, r, 2, rfl, rfl, _, rfl, ite2 (fun g => ?_) (fun g => ?_)⟩
        · refine ⟨_, rfl, _, rfl, _, rfl, a, ds, hR3, fun z1 H4 s4 h4 => ⟨_, rfl, _, rfl, _, 1, rfl, rfl, _, rfl, a, ds, hR3.same s4, fun z2 H5 s5 h5 => ⟨a, _, _, h4.same s5, h5, ?_, fun z3 H6 s6 h6 => ?_⟩⟩⟩
          · rw [c1, c2, List.length_take, List.length_drop, sizeLine_eq]
            omega
          have hR6 := hR3.same ((s4.trans s5).trans s6)
          have c3 : cutDs ds none (some (1 : Int)) = ds.take 1 := cutDs_take (n := 1) (by omega)
          refine ⟨_, rfl, _, rfl, _, rfl, a, ds, hR6, fun z4 H7 s7 h7 => ⟨a, _, _, hR6.same s7, h7, ?_, fun z5 H8 s8 h8 => ⟨by show 2 ≤ sizeLine; decide, fun L hL => ?_⟩⟩⟩
          · rw [c3, List.length_take, sizeLine_eq]
            omega
          have sL := same_upd (o := .lst [z3, z5]) hL
          rw [c1, c2] at h6
          rw [c3] at h8
          obtain ⟨x, hx, e, h1, h2⟩ := pickA (xs := [z3, z5]) (P := fun x => ∃ e, Oth (.tuple ds) e ∧ Ra K a (upd H8 L (.lst [z3, z5])) x e) r0 (show r < 2 from of_decide_eq_true g) (cons_mem ⟨_, .len (by rw [List.length_append, List.length_take, List.length_drop]; omega), h6.same ((s7.trans s8).trans sL)⟩ (one_mem ⟨_, .len (by rw [List.length_append, List.length_take]; omega), h8.same sL⟩))
          exact ⟨_, rfl, L, _, r, x, rfl, rfl, SqL.of upd_same, hx, q x e _ (f13.same (((((s4.trans s5).trans s6).trans s7).trans s8).trans sL)) h1 h2⟩
        · refine ⟨_, rfl, _, rfl, _, rfl, a, ds, hR3, fun z1 H4 s4 h4 => ?_⟩
          obtain ⟨t', xs', e', ht4, hxs4⟩ := Td.row (hT3.keep (KeepT.same s4))
          cases e'
          have xl4 := hxs4.len
          have hjx : xs'[jn]? = some (xs'[jn]'(by omega)) := List.getElem?_eq_getElem (by omega)
          obtain ⟨d1, hd1, ht1⟩ := Tds.at_ hxs4 hjx
          have dd : PyData.depth d1 < n := by
            have h1 : PyData.depth d1 ≤ PyData.depthAll ds := depth_mem (List.mem_of_getElem? hd1)
            have h2 : PyData.depth (.tuple ds) = PyData.depthAll ds + 1 := rfl
            omega
          have w4 := w3.same s4
          refine ⟨_, rfl, _, rfl, _, rfl, t, _, _, _, rfl, rfl, ht4, atI_nat hjx, a, _, d1, rfl, w4, ht1, dd, df d1 (List.mem_of_getElem? hd1), fun u e H5 f5 ho hu5 => ⟨by show 1 ≤ sizeLine; decide, fun t1 h1 => ?_⟩⟩
          have s1 := same_upd (o := .tup [u]) h1
          have w5 := f5.2
          have gR : Ra K a (upd H5 t1 (.tup [u])) (.ref t1) (.tuple [e]) := .tup (SqT.of upd_same) (.cons (hu5.same s1) .nil)
          have h4' := (h4.fv w4 f5).same s1
          have hR5 := ((hR3.same s4).fv w4 f5).same s1
          rw [c1] at h4'
          refine ⟨a, _, _, h4', gR, ?_, fun z2 H6 s6 h6 => ⟨_, rfl, _, rfl, _, 1, rfl, rfl, _, rfl, a, ds, hR5.same s6, fun z3 H7 s7 h7 => ⟨a, _, _, h6.same s7, h7, ?_, fun z4 H8 s8 h8 => ?_⟩⟩⟩
          · rw [List.length_take, sizeLine_eq]
            show _ + 1 ≤ _
            omega
          · rw [c2, List.length_append, List.length_take, List.length_drop, sizeLine_eq]
            show _ + 1 + _ ≤ _
            omega
          · rw [c2] at h8
            exact q z4 _ H8 (((((f13.same s4).trans f5).same s1).same s6).same s7 |>.same s8) (.at_ hd1 ho) h8
theorem ok_other {f : Addr} {fd : FuncData} (F : Fun K "_law_other" "_law_other" s__law_other f fd) (T : Bu mg) (c__law_draw : Cal P w K mg base 1 "_law_draw" ["_law_well", "_law_many"] spDraw2)
    (hm : mg "_law_other" = some (.ref f)) (kp : PySem.W.keepIn K (.ref f) = true) (b : Binds K fd ["_law_well", "_law_part"] []) : ∀ n, FnOk P w K mg base CX0 (2 + n) f fd ["_law_well", "_law_part"] (spOther K n)
  | 0 => (show FnOk P w K mg base CX0 (1 + 1) f fd ["_law_well", "_law_part"] (spOther K 0) from F.ok sc__law_other (fun vs H Q E h => by
      obtain ⟨_, _, _, _, _, _, h, _⟩ := h
      exact absurd h (Nat.not_lt_zero _)) (fun cdv A outer s H vs Q E hr h => by
      obtain ⟨_, _, _, _, _, _, h, _⟩ := h
      exact absurd h (Nat.not_lt_zero _)))
  | n + 1 => (ok_other_step F T c__law_draw ⟨f, fd, ok_other F T c__law_draw hm kp b n, hm, kp, b⟩).mono (by omega)
end
end K34
set_option maxHeartbeats 2000000
namespace K34
open PySem PySem.Spec PyProof.Rows L2 Tw Sb LamX
def spDue (K : PySem.W.Frag) : Sp := fun vs H Q _ => ∃ (sl ol : Addr) (xs ys : List V) (ds es : List PyData), vs = [.ref sl, .ref ol] ∧ SqL K H sl xs ∧ Tds K H xs ds ∧ SqL K H ol ys ∧ DpAll K H ys es ∧ (∀ d ∈ ds, PyData.depth d ≤ 60) ∧ ds.length ≤ 20000 ∧ es.length ≤ 20000 ∧ ∀ H', Same H H' → Q (ansV (ansO PyData.eqv ds es)) H'
section
variable {P : Program} {w : World} {K : PySem.W.Frag} {mg : Str → Option Value} {base : Heap}
theorem ok_due {f : Addr} {fd : FuncData} (F : Fun K "_law_due" "_law_due" s__law_due f fd) (T : Bu mg) (hmx : mg "max" = none) : FnOk P w K mg base CX0 1 f fd ["_law_steps", "_law_others"] (spDue K) := by
  refine F.ok sc__law_due (fun vs H Q E h => ?_) (fun cdv A outer s H vs Q E hr h => ?_)
  · obtain ⟨sl, ol, xs, ys, ds, es, rfl, _⟩ := h
    rfl
  · obtain ⟨sl, ol, xs, ys, ds, es, rfl, hs, hxs, ho, hys, hdep, dl, el, q⟩ := h
    refine ⟨_, (pss_cons (ps_for PassesOwn.never rfl (pi_range1 rfl T.n_range (pa_cons (pe_callB (call_max2 rfl) (by rfl) hmx (by decide +kernel) (pa_cons (pe_callB call_len_seq (by rfl) T.n_len (by decide +kernel) (pa_cons (pv 0) pa_nil)) (pa_cons (pe_callB call_len_seq (by rfl) T.n_len (by decide +kernel) (pa_cons (pv 1) pa_nil)) pa_nil))) pa_nil)) (pg_name (i := 2) sc__law_due.nd rfl (.inl rfl))
        (pss_one (ps_if (PW.pt (pw_or (pt_cmpR op_ge (pv 2) (pe_callB call_len_seq (by rfl) T.n_len (by decide +kernel) (pa_cons (pv 0) pa_nil)) (nomark _)) (pw_or (pt_cmpR op_ge (pv 2) (pe_callB call_len_seq (by rfl) T.n_len (by decide +kernel) (pa_cons (pv 1) pa_nil)) (nomark _)) (pw_or1 (pt_cmpR (op_neG hr.units) (pe_ix (r := rIxL K) ix_list (pv 0) (pv 2) (fun _ _ => rfl)) (pe_ix (r := rIxL K) ix_list (pv 1) (pv 2) (fun _ _ => rfl)) (nomark _))))))
          (pss_one (ps_ret (pv 2)))
          pss_nil)))
      (pss_one (ps_ret pe_str))), ?_⟩
    have xl := hxs.len
    have yl := Tw.DpAll.len hys
    refine ⟨_, rfl, sl, xs, rfl, .inl hs, _, rfl, ol, ys, rfl, .inl ho, _, _, rfl, ?_⟩
    have e : (if (ys.length : Int) > (xs.length : Int) then (ys.length : Int) else (xs.length : Int)) = ((max xs.length ys.length : Nat) : Int) := by
      split <;> omega
    rw [e]
    refine ⟨_, rfl, by omega, by omega, ?_⟩
    rw [Int.toNat_natCast]
    refine for_it walk_range (fun i σ H' => ∃ (y2 : Option V), σ = [some (.ref sl), some (.ref ol), y2] ∧ Same H H' ∧ OkP PyData.eqv ds es i) ⟨_, rfl, Same.refl _, fun j hj => absurd hj (Nat.not_lt_zero j)⟩ (fun _ _ _ _ _ => trivial) ?_ ?_
    · rintro i x σ Hx H1 hi ⟨y2, rfl, s1, hok⟩ ⟨rfl, rfl⟩
      have hs1 := sqL_same s1 hs
      have ho1 := sqL_same s1 ho
      dsimp only
      rw [show (0 : Int) + (i : Nat) = ((i : Nat) : Int) by omega]
      refine ⟨_, rfl, _, rfl, sl, xs, rfl, .inl hs1, _, _, rfl, rfl, _, rfl, ?_⟩
      have hi : i < max xs.length ys.length := hi
      by_cases c1 : xs.length ≤ i
      · rw [ans_short hok (by omega) (by omega)] at q
        exact iteY (show ((i : Nat) : Int) ≥ (xs.length : Int) by omega) (iteT ⟨_, rfl, q H1 s1⟩)
      refine iteN (show ¬ ((i : Nat) : Int) ≥ (xs.length : Int) by omega) ?_
      refine ⟨_, rfl, _, rfl, ol, ys, rfl, .inl ho1, _, _, rfl, rfl, _, rfl, ?_⟩
      by_cases c2 : ys.length ≤ i
      · rw [ans_short hok (by omega) (by omega)] at q
        exact iteY (show ((i : Nat) : Int) ≥ (ys.length : Int) by omega) (iteT ⟨_, rfl, q H1 s1⟩)
      refine iteN (show ¬ ((i : Nat) : Int) ≥ (ys.length : Int) by omega) ?_
      have hx : xs[i]? = some (xs[i]'(by omega)) := List.getElem?_eq_getElem (by omega)
      have hy : ys[i]? = some (ys[i]'(by omega)) := List.getElem?_eq_getElem (by omega)
      generalize xs[i]'(by omega) = vx at hx
      generalize ys[i]'(by omega) = vy at hy
      obtain ⟨d, hd, ht⟩ := Tds.at_ hxs hx
      obtain ⟨e, he, hdp⟩ := Tw.DpAll.at_ hys hy
      have ht := (ht.keep (KeepT.same s1)).dp
      have hdp := Tw.Dp.same s1 hdp
      refine ⟨_, rfl, _, rfl, sl, xs, _, vx, rfl, rfl, hs1, atI_nat hx, _, rfl, _, rfl, ol, ys, _, vy, rfl, rfl, ho1, atI_nat hy, d, e, ht, hdp, dp_plain ht, dp_plain hdp, hdep d (List.mem_of_getElem? hd), _, rfl, ?_⟩
      cases hq : PyData.eqv d e with
      | true => exact iteF ⟨_, rfl, s1, okP_next hok hd he hq⟩
      | false =>
        rw [ans_at hok hd he hq] at q
        exact iteT ⟨_, rfl, q H1 s1⟩
    · rintro σ H1 ⟨y2, rfl, s1, hok⟩
      have hl : ds.length = es.length := by
        by_cases c : ds.length < max xs.length ys.length
        · obtain ⟨x, y, h1, _⟩ := hok _ c
          rw [List.getElem?_eq_none (Nat.le_refl _)] at h1
          cases h1
        · by_cases c2 : es.length < max xs.length ys.length
          · obtain ⟨x, y, _, h1, _⟩ := hok _ c2
            rw [List.getElem?_eq_none (Nat.le_refl _)] at h1
            cases h1
          · omega
      rw [ans_same (f := PyData.eqv) (by rw [show max xs.length ys.length = ds.length by omega] at hok; exact hok) hl] at q
      exact q H1 s1
end
end K34
set_option maxHeartbeats 2000000
namespace K34
open PySem PySem.Spec PyProof.Rows L2 Tw Sb LamX
/-- both tests agree, place by place -/
def Agr (ds es : List PyData) : Prop := ∀ (i : Nat) x y, ds[i]? = some x → es[i]? = some y → alk x y = PyData.eqv x y
theorem agr_steps {ds es : List PyData} (h1 : ∀ d ∈ ds, StepS d) (h2 : ∀ e ∈ es, StepS e) : Agr ds es := fun i x y hx hy => step_eq (h1 x (List.mem_of_getElem? hx)) (h2 y (List.mem_of_getElem? hy))
theorem agr_at {ds : List PyData} {k : Nat} {d e : PyData} (h1 : ∀ d ∈ ds, StepS d) (hd : ds[k]? = some d) (he : alk d e = PyData.eqv d e) : Agr ds (ds.take k ++ [e] ++ ds.drop (k + 1)) := fun i x y hx hy => by
  have hk := (List.getElem?_eq_some_iff.mp hd).1
  have e1 : ds.take k ++ [e] ++ ds.drop (k + 1) = ds.set k e := by
    rw [List.set_eq_take_append_cons_drop, if_pos hk, List.append_assoc]
    rfl
  rw [e1, List.getElem?_set] at hy
  by_cases c : k = i
  · subst c
    rw [if_pos rfl, if_pos hk] at hy
    cases hy
    rw [hd] at hx
    cases hx
    exact he
  · rw [if_neg c] at hy
    exact step_eq (h1 x (List.mem_of_getElem? hx)) (h1 y (List.mem_of_getElem? hy))
theorem cutDs_mem {xs : List PyData} {lo hi : Option Int} {x : PyData} (h : x ∈ cutDs xs lo hi) : x ∈ xs := List.mem_of_mem_drop (List.mem_of_mem_take h)
theorem cutDs_len (xs : List PyData) (lo hi : Option Int) : (cutDs xs lo hi).length ≤ xs.length := by
  unfold cutDs
  rw [List.length_take, List.length_drop]
  omega
def spSpoilt (K : PySem.W.Frag) : Sp := fun vs H Q _ => ∃ (a l : Addr) (xs : List V) (ds : List PyData), vs = [.ref a, .ref l] ∧ IsW2 H a ∧ l ≠ a ∧ H l = some (.lst xs) ∧ Tds K H xs ds ∧ (∀ d ∈ ds, StF d ∧ PyData.depth d ≤ 8) ∧ 0 < ds.length ∧ ds.length ≤ 5000 ∧
  ∀ (u : V) (es : List PyData) (H' : Hp), Fv a H H' → Ra K a H' u (.list es) → Agr ds es → es.length ≤ 20000 → Q u H'
section
variable {P : Program} {w : World} {K : PySem.W.Frag} {mg : Str → Option Value} {base : Heap}
theorem ok_spoilt {f : Addr} {fd : FuncData} (F : Fun K "_law_spoilt" "_law_spoilt" s__law_spoilt f fd) (T : Bu mg) (c__law_draw : Cal P w K mg base 1 "_law_draw" ["_law_well", "_law_many"] spDraw2) (c__law_other : Cal P w K mg base 12 "_law_other" ["_law_well", "_law_part"] (spOther K 10)) : FnOk P w K mg base CX0 13 f fd ["_law_well", "_law_steps"] (spSpoilt K) := by
  refine F.ok sc__law_spoilt (fun vs H Q E h => ?_) (fun cdv A outer s H vs Q E hr h => ?_)
  · obtain ⟨a, l, xs, ds, rfl, _⟩ := h
    rfl
  · obtain ⟨a, l, xs, ds, rfl, hw, nl, hl, hxs, hst, dpos, d5, q⟩ := h
    refine ⟨_, (pss_cons (ps_set (i := 2) sc__law_spoilt.nd rfl (.inl rfl) (pe_cal c__law_draw hr (by decide) (by rfl) (pa_cons (pv 0) (pa_cons pe_int pa_nil))))
      (pss_cons (ps_set (i := 3) sc__law_spoilt.nd rfl (.inl rfl) (pe_cal c__law_draw hr (by decide) (by rfl) (pa_cons (pv 0) (pa_cons (pe_callB call_len_seq (by rfl) T.n_len (by decide +kernel) (pa_cons (pv 1) pa_nil)) pa_nil))))
      (pss_cons (ps_set (i := 4) sc__law_spoilt.nd rfl (.inl rfl) (pe_ix (r := rIxL K) ix_list (pv 1) (pv 3) (fun _ _ => rfl)))
      (pss_cons (ps_if (pt_cmpR op_eq (pv 2) pe_int (nomark _))
        (pss_one (ps_ret (pe_op op_catRl (pe_slice (r := rSlRl K) sl_rl (pv 1) po_none (po_some (pv 3))) (pe_slice (r := rSlRl K) sl_rl (pv 1) (po_some (pe_op op_add (pv 3) pe_int)) po_none))))
        pss_nil)
      (pss_cons (ps_if (pt_cmpR op_eq (pv 2) pe_int (nomark _))
        (pss_one (ps_ret (pe_op op_catRl (pe_slice (r := rSlRl K) sl_rl (pv 1) po_none (po_some (pe_op op_add (pv 3) pe_int))) (pe_slice (r := rSlRl K) sl_rl (pv 1) (po_some (pv 3)) po_none))))
        pss_nil)
      (pss_cons (ps_if (pt_cmpR op_eq (pv 2) pe_int (nomark _))
        (pss_one (ps_ret (pe_op op_catRl (pe_op op_catRl (pe_slice (r := rSlRl K) sl_rl (pv 1) po_none (po_some (pv 3))) (pe_revL (pe_slice (r := rSlRl K) sl_rl (pv 1) (po_some (pv 3)) (po_some (pe_op op_add (pv 3) pe_int))))) (pe_slice (r := rSlRl K) sl_rl (pv 1) (po_some (pe_op op_add (pv 3) pe_int)) po_none))))
        pss_nil)
      (pss_cons (ps_if (pt_cmpR op_eq (pv 2) pe_int (nomark _))
        (pss_one (ps_ret (pe_ix (r := rIxL K) ix_list (pe_lst (pa_cons (pe_op op_catRl (pv 1) (pe_lst (pa_cons (pe_tup (pa_cons pe_str pa_nil)) pa_nil))) (pa_cons (pe_slice (r := rSlRl K) sl_rl (pv 1) po_none (po_some (pe_un un_neg pe_int))) (pa_cons (pe_lst pa_nil) (pa_cons (pv 1) pa_nil))))) (pe_cal c__law_draw hr (by decide) (by rfl) (pa_cons (pv 0) (pa_cons pe_int pa_nil))) (fun _ _ => rfl))))
        pss_nil)
      (pss_cons (ps_set (i := 5) sc__law_spoilt.nd rfl (.inl rfl) (pe_cal c__law_draw hr (by decide) (by rfl) (pa_cons (pv 0) (pa_cons (pe_callB call_len_seq (by rfl) T.n_len (by decide +kernel) (pa_cons (pv 4) pa_nil)) pa_nil))))
      (pss_cons (ps_set (i := 6) sc__law_spoilt.nd rfl (.inl rfl) (pe_op op_catR (pe_op op_catR (pe_slice (r := rSlRa K) sl_ra (pv 4) po_none (po_some (pv 5))) (pe_tup (pa_cons (pe_cal c__law_other hr (by decide) (by rfl) (pa_cons (pv 0) (pa_cons (pe_ix (r := rIxT K) ix_tup (pv 4) (pv 5) (fun _ _ => rfl)) pa_nil))) pa_nil))) (pe_slice (r := rSlRa K) sl_ra (pv 4) (po_some (pe_op op_add (pv 5) pe_int)) po_none)))
      (pss_one (ps_ret (pe_op op_catRl (pe_op op_catRl (pe_slice (r := rSlRl K) sl_rl (pv 1) po_none (po_some (pv 3))) (pe_lst (pa_cons (pe_ix (r := rIxL K) ix_list (pe_lst (pa_cons (pv 6) (pa_cons (pe_slice (r := rSlRa K) sl_ra (pv 4) po_none (po_some (pv 5))) (pa_cons (pe_op op_catR (pv 4) (pe_tup (pa_cons pe_int pa_nil))) pa_nil)))) (pe_ix (r := rIxL K) ix_list (pe_lst (pa_cons pe_int (pa_cons pe_int (pa_cons pe_int (pa_cons pe_int (pa_cons pe_int pa_nil)))))) (pe_cal c__law_draw hr (by decide) (by rfl) (pa_cons (pv 0) (pa_cons pe_int pa_nil))) (fun _ _ => rfl)) (fun _ _ => rfl)) pa_nil))) (pe_slice (r := rSlRl K) sl_rl (pv 1) (po_some (pe_op op_add (pv 3) pe_int)) po_none))))))))))))), ?_⟩
    have hR : Ra K a H (.ref l) (.list ds) := .lst nl hl hxs.ra
    have hsh : ∀ d ∈ ds, StepS d := fun d hd => (hst d hd).1.sh
    have xl := hxs.len
    refine ⟨_, rfl, a, 9, rfl, hw, by decide, by decide, fun r H1 r0 r1 f1 => ?_⟩
    have l1 := f1.1 _ _ nl hl
    refine ⟨_, rfl, _, rfl, l, xs, rfl, .inl (SqL.of l1), a, _, rfl, f1.2, by omega, (by rw [Int.natAbs_natCast]; exact Nat.lt_of_le_of_lt (show xs.length ≤ 5000 by omega) (by decide)), fun j H2 j0 j1 f2 => ?_⟩
    have f12 := f1.trans f2
    have w2 := f12.2
    have l2 := f2.1 _ _ nl l1
    have hR2 := hR.fv hw f12
    have hx2 := hxs.keep (f12.keepT (K := K) hw)
    obtain ⟨jn, rfl⟩ := Int.eq_ofNat_of_zero_le j0
    have jl : jn < ds.length := by omega
    have hjx : xs[jn]? = some (xs[jn]'(by omega)) := List.getElem?_eq_getElem (by omega)
    generalize xs[jn]'(by omega) = vx at hjx
    obtain ⟨d, hd, ht⟩ := Tds.at_ hx2 hjx
    obtain ⟨hdF, hdD⟩ := hst d (List.mem_of_getElem? hd)
    refine ⟨_, rfl, _, rfl, l, _, _, vx, rfl, rfl, SqL.of l2, atI_nat hjx, ?_⟩
    have fin : ∀ {u : V} {es : List PyData} {H' : Hp}, Fv a H2 H' → Ra K a H' u (.list es) → (∀ e ∈ es, StepS e) → es.length ≤ 20000 → Q u H' := fun f h g k => q _ _ _ (f12.trans f) h (agr_steps hsh g) k
    have cm : ∀ (lo hi : Option Int), ∀ e ∈ cutDs ds lo hi, StepS e := fun lo hi e h => hsh e (cutDs_mem h)
    have cl := cutDs_len ds
    have fs : ∀ {H' : Hp}, Same H2 H' → Fv a H2 H' := fun s => Fv.of_same w2 s
    -- way 0
    refine ⟨_, rfl, rfl, _, rfl, ite2 (fun g => ?_) (fun g => ?_)⟩
    · refine ⟨_, rfl, _, rfl, _, rfl, a, ds, w2, hR2, fun z1 H4 s4 h4 => ⟨_, rfl, _, rfl, _, 1, rfl, rfl, _, rfl, a, ds, w2.same s4, hR2.same s4, fun z2 H5 s5 h5 => ⟨a, _, _, (w2.same s4).same s5, h4.same s5, h5, ?_, fun z3 H6 s6 h6 => fin (fs ((s4.trans s5).trans s6)) h6 (fun e he => (List.mem_append.mp he).elim (cm _ _ e) (cm _ _ e)) ?_⟩⟩⟩
      · have := cl none (some ((jn : Nat) : Int))
        have := cl (some ((jn : Nat) + 1 : Int)) none
        rw [sizeLine_eq]
        omega
      · have := cl none (some ((jn : Nat) : Int))
        have := cl (some ((jn : Nat) + 1 : Int)) none
        rw [List.length_append]
        omega
    refine ⟨_, rfl, rfl, _, rfl, ite2 (fun g => ?_) (fun g => ?_)⟩
    · refine ⟨_, rfl, _, rfl, _, 1, rfl, rfl, _, rfl, a, ds, w2, hR2, fun z1 H4 s4 h4 => ⟨_, rfl, _, rfl, _, rfl, a, ds, w2.same s4, hR2.same s4, fun z2 H5 s5 h5 => ⟨a, _, _, (w2.same s4).same s5, h4.same s5, h5, ?_, fun z3 H6 s6 h6 => fin (fs ((s4.trans s5).trans s6)) h6 (fun e he => (List.mem_append.mp he).elim (cm _ _ e) (cm _ _ e)) ?_⟩⟩⟩
      · have := cl none (some ((jn : Nat) + 1 : Int))
        have := cl (some ((jn : Nat) : Int)) none
        rw [sizeLine_eq]
        omega
      · have := cl none (some ((jn : Nat) + 1 : Int))
        have := cl (some ((jn : Nat) : Int)) none
        rw [List.length_append]
        omega
    refine ⟨_, rfl, rfl, _, rfl, ite2 (fun g => ?_) (fun g => ?_)⟩
    · refine ⟨_, rfl, _, rfl, _, rfl, a, ds, w2, hR2, fun z1 H4 s4 h4 => ⟨_, rfl, _, rfl, _, rfl, _, rfl, _, 2, rfl, rfl, _, rfl, a, ds, w2.same s4, hR2.same s4, fun z2 H5 s5 h5 => ?_⟩⟩
      obtain ⟨b, ys, rfl, nb, hb, hys⟩ := h5.list
      refine ⟨b, ys, rfl, SqL.of hb, fun p hp => ?_⟩
      have s6 := same_upd (o := .lst ys.reverse) hp
      have w6 := ((w2.same s4).same s5).same s6
      have h6 : Ra K a (upd H5 p (.lst ys.reverse)) (.ref p) (.list (cutDs ds (some ((jn : Nat) : Int)) (some ((jn : Nat) + 2 : Int))).reverse) := .lst (((w2.same s4).same s5).ne hp) upd_same (hys.rev.same s6)
      have t6 := (s4.trans s5).trans s6
      have h4 := (h4.same s5).same s6
      generalize upd H5 p (.lst ys.reverse) = H6 at h6 w6 t6 h4 ⊢
      clear s6
      refine ⟨a, _, _, w6, h4, h6, ?_, fun z3 H7 s7 h7 => ⟨_, rfl, _, rfl, _, 2, rfl, rfl, _, rfl, a, ds, w6.same s7, (hR2.same t6).same s7, fun z4 H8 s8 h8 => ⟨a, _, _, (w6.same s7).same s8, h7.same s8, h8, ?_, fun z5 H9 s9 h9 => fin (fs (((t6.trans s7).trans s8).trans s9)) h9 (fun e he => ?_) ?_⟩⟩⟩
      · have := cl none (some ((jn : Nat) : Int))
        have := cl (some ((jn : Nat) : Int)) (some ((jn : Nat) + 2 : Int))
        rw [List.length_reverse, sizeLine_eq]
        omega
      · have := cl none (some ((jn : Nat) : Int))
        have := cl (some ((jn : Nat) : Int)) (some ((jn : Nat) + 2 : Int))
        have := cl (some ((jn : Nat) + 2 : Int)) none
        rw [List.length_append, List.length_reverse, sizeLine_eq]
        omega
      · rcases List.mem_append.mp he with he | he
        · rcases List.mem_append.mp he with he | he
          · exact cm _ _ e he
          · exact cm _ _ e (List.mem_reverse.mp he)
        · exact cm _ _ e he
      · have := cl none (some ((jn : Nat) : Int))
        have := cl (some ((jn : Nat) : Int)) (some ((jn : Nat) + 2 : Int))
        have := cl (some ((jn : Nat) + 2 : Int)) none
        rw [List.length_append, List.length_append, List.length_reverse]
        omega
    refine ⟨_, rfl, rfl, _, rfl, ite2 (fun g => ?_) (fun g => ?_)⟩
    · refine ⟨_, rfl, by show 1 ≤ sizeLine; decide, fun t h1 => ⟨by show 1 ≤ sizeLine; decide, fun lb h2 => ?_⟩⟩
      have j1 := same_upd (o := .tup [V.str "truth"]) h1
      have j2 := same_upd (o := .lst [V.ref t]) h2
      have nlb : lb ≠ a := (w2.same j1).ne h2
      have gB : Ra K a (upd (upd H2 t (.tup [V.str "truth"])) lb (.lst [V.ref t])) (.ref lb) (.list [.tuple [.str "truth"]]) := .lst nlb upd_same (.cons (.tup (SqT.of (j2 _ _ upd_same)) (.cons (.str _) .nil)) .nil)
      have s3 := j1.trans j2
      generalize upd (upd H2 t (.tup [V.str "truth"])) lb (.lst [V.ref t]) = H3 at gB s3 ⊢
      refine ⟨a, ds, _, w2.same s3, hR2.same s3, gB, by rw [sizeLine_eq]; show _ + 1 ≤ _; omega, fun z1 H4 s4 h4 => ⟨_, rfl, 1, rfl, _, rfl, a, ds, (w2.same s3).same s4, (hR2.same s3).same s4, fun z2 H5 s5 h5 => ⟨by show 0 ≤ sizeLine; decide, fun l0 h0 => ⟨_, rfl, by show 4 ≤ sizeLine; decide, fun L hL => ?_⟩⟩⟩⟩
      have t5 := (s3.trans s4).trans s5
      have w5 := w2.same t5
      have j0 := same_upd (o := .lst []) h0
      have g0 : Ra K a (upd H5 l0 (.lst [])) (.ref l0) (.list []) := .lst (w5.ne h0) upd_same .nil
      have w6 := w5.same j0
      have nL := w6.ne hL
      have jL := same_upd (o := .lst [z1, z2, .ref l0, .ref l]) hL
      have t7 := (t5.trans j0).trans jL
      have g1 := ((h4.same s5).same j0).same jL
      have g2 := (h5.same j0).same jL
      have g3 := g0.same jL
      have g4 := hR2.same t7
      have w7 := w6.same jL
      have hLv : (upd (upd H5 l0 (.lst [])) L (.lst [z1, z2, .ref l0, .ref l])) L = some (.lst [z1, z2, .ref l0, .ref l]) := upd_same
      generalize upd (upd H5 l0 (.lst [])) L (.lst [z1, z2, .ref l0, .ref l]) = H7 at t7 g1 g2 g3 g4 w7 hLv ⊢
      refine ⟨_, rfl, a, 4, rfl, w7, by decide, by decide, fun k H8 k0 k1 f8 => ?_⟩
      have f28 := (fs t7).trans f8
      have hLv := f8.1 _ _ nL hLv
      have c0 := cl none (some (-1 : Int))
      obtain ⟨x, hx, hq⟩ := pickA (xs := [z1, z2, .ref l0, .ref l]) (P := fun x => Q x H8) k0 (by show k < 4; omega) (cons_mem (fin f28 (g1.fv w7 f8) (fun e he => (List.mem_append.mp he).elim (hsh e) (fun he => by rw [List.mem_singleton.mp he]; exact .other "truth" [] (by decide +kernel) rfl)) (by rw [List.length_append]; show _ + 1 ≤ _; omega)) (cons_mem (fin f28 (g2.fv w7 f8) (cm _ _) (by omega)) (cons_mem (fin f28 (g3.fv w7 f8) (fun e he => nomatch he) (by decide)) (one_mem (fin f28 (g4.fv w7 f8) hsh (by omega))))))
      exact ⟨L, _, k, x, rfl, rfl, SqL.of hLv, hx, hq⟩
    obtain ⟨ts, rfl, tpos⟩ : ∃ ts, d = .tuple ts ∧ 0 < ts.length := by
      cases hdF.sh with
      | other w rest _ _ => exact ⟨_, rfl, Nat.succ_pos _⟩
      | node k a b c _ _ _ _ => exact ⟨_, rfl, Nat.succ_pos _⟩
    obtain ⟨tl, tf⟩ := fit_tup hdF.fit
    obtain ⟨t, zs, rfl, htt, hzs⟩ := Td.row ht
    have zl := hzs.len
    refine ⟨_, rfl, _, rfl, t, zs, rfl, .inr htt, a, _, rfl, w2, by omega, small_abs2 (by omega) (by omega), fun p H3 p0 p1 f3 => ?_⟩
    obtain ⟨pn, rfl⟩ := Int.eq_ofNat_of_zero_le p0
    have pl : pn < ts.length := by omega
    have w3 := f3.2
    have hT3 := ht.keep (f3.keepT (K := K) w2)
    have hR3 := hR2.fv w2 f3
    have c1 : cutDs ts none (some ((pn : Nat) : Int)) = ts.take pn := cutDs_take (by omega)
    have c2 : cutDs ts (some ((pn : Nat) + 1 : Int)) none = ts.drop (pn + 1) := cutDs_drop (n := pn + 1) (by omega)
    have e1 : cutDs ds none (some ((jn : Nat) : Int)) = ds.take jn := cutDs_take (by omega)
    have e2 : cutDs ds (some ((jn : Nat) + 1 : Int)) none = ds.drop (jn + 1) := cutDs_drop (n := jn + 1) (by omega)
    refine ⟨_, rfl, _, rfl, _, rfl, a, ts, hT3.ra, fun z1 H4 s4 h4 => ?_⟩
    have hT4 := hT3.keep (KeepT.same s4)
    obtain ⟨t', zs', e', ht4, hzs4⟩ := Td.row hT4
    cases e'
    have zl4 := hzs4.len
    have hpx : zs'[pn]? = some (zs'[pn]'(by omega)) := List.getElem?_eq_getElem (by omega)
    obtain ⟨d1, hd1, ht1⟩ := Tds.at_ hzs4 hpx
    have dd : PyData.depth d1 < 10 := by
      have h1 : PyData.depth d1 ≤ PyData.depthAll ts := depth_mem (List.mem_of_getElem? hd1)
      have h2 : PyData.depth (.tuple ts) = PyData.depthAll ts + 1 := rfl
      omega
    have w4 := w3.same s4
    refine ⟨_, rfl, _, rfl, _, rfl, t, _, _, _, rfl, rfl, ht4, atI_nat hpx, a, _, d1, rfl, w4, ht1, dd, tf d1 (List.mem_of_getElem? hd1), fun u e H5 f5 ho hu5 => ⟨by show 1 ≤ sizeLine; decide, fun t1 h1 => ?_⟩⟩
    have s1 := same_upd (o := .tup [u]) h1
    have w5 := f5.2.same s1
    have gR : Ra K a (upd H5 t1 (.tup [u])) (.ref t1) (.tuple [e]) := .tup (SqT.of upd_same) (.cons (hu5.same s1) .nil)
    have h4' := (h4.fv w4 f5).same s1
    have f35 : Fv a H3 (upd H5 t1 (.tup [u])) := ((Fv.of_same w3 s4).trans f5).same s1
    have hT5 := hT3.keep (f35.keepT (K := K) w3)
    have hR5 := hR3.fv w3 f35
    rw [c1] at h4'
    generalize upd H5 t1 (.tup [u]) = H6 at gR h4' w5 f35 hT5 hR5 ⊢
    refine ⟨a, _, _, h4', gR, ?_, fun z2 H7 s7 h7 => ⟨_, rfl, _, rfl, _, 1, rfl, rfl, _, rfl, a, ts, (hT5.keep (KeepT.same s7)).ra, fun z3 H8 s8 h8 => ⟨a, _, _, h7.same s8, h8, ?_, fun z4 H9 s9 h9 => ?_⟩⟩⟩
    · rw [List.length_take, sizeLine_eq]
      show _ + 1 ≤ _
      omega
    · rw [c2, List.length_append, List.length_take, List.length_drop, sizeLine_eq]
      show _ + 1 + _ ≤ _
      omega
    rw [c2] at h9
    have t9 := (s7.trans s8).trans s9
    have w9 := w5.same t9
    have f39 := f35.same t9
    have hT9 := hT5.keep (KeepT.same t9)
    have hR9 := hR5.same t9
    have o1 : Oth (.tuple ts) (.tuple (ts.take pn ++ [e] ++ ts.drop (pn + 1))) := .at_ hd1 ho
    generalize ts.take pn ++ [e] ++ ts.drop (pn + 1) = ns at h9 o1
    clear h4' gR h7 h8 hu5 ho s1 h1 f5 h4 ht1 hT4 s4
    refine ⟨_, rfl, _, rfl, _, rfl, a, ds, w9, hR9, fun y1 HA sA gA => ⟨_, rfl, _, rfl, _, rfl, _, rfl, a, ts, (hT9.keep (KeepT.same sA)).ra, fun y2 HB sB gB => ⟨_, rfl, by show 1 ≤ sizeLine; decide, fun t2 h2 => ?_⟩⟩⟩
    have sC := same_upd (o := .tup [V.int 0]) h2
    have gC : Ra K a (upd HB t2 (.tup [V.int 0])) (.ref t2) (.tuple [.int 0]) := .tup (SqT.of upd_same) (.cons (.int _) .nil)
    have tC := (sA.trans sB).trans sC
    have gA := (gA.same sB).same sC
    have gB := gB.same sC
    generalize upd HB t2 (.tup [V.int 0]) = HC at gC tC gA gB ⊢
    refine ⟨a, ts, _, (hT9.keep (KeepT.same tC)).ra, gC, by rw [sizeLine_eq]; show _ + 1 ≤ _; omega, fun y3 HD sD gD => ⟨by show 3 ≤ sizeLine; decide, fun L3 hL3 => ⟨by show 5 ≤ sizeLine; decide, fun L5 hL5 => ?_⟩⟩⟩
    have wD := (w9.same tC).same sD
    have j3 := same_upd (o := .lst [z4, y2, y3]) hL3
    have n3 := wD.ne hL3
    have j5 := same_upd (o := .lst [V.int 0, .int 0, .int 0, .int 1, .int 2]) hL5
    have n5 := (wD.same j3).ne hL5
    have v3 : (upd (upd HD L3 (.lst [z4, y2, y3])) L5 (.lst [V.int 0, .int 0, .int 0, .int 1, .int 2])) L3 = some (.lst [z4, y2, y3]) := j5 _ _ upd_same
    have v5 : (upd (upd HD L3 (.lst [z4, y2, y3])) L5 (.lst [V.int 0, .int 0, .int 0, .int 1, .int 2])) L5 = some (.lst [V.int 0, .int 0, .int 0, .int 1, .int 2]) := upd_same
    have tE := ((tC.trans sD).trans j3).trans j5
    have jj := (sD.trans j3).trans j5
    have gA := gA.same jj
    have gB := gB.same jj
    have gD := gD.same (j3.trans j5)
    generalize upd (upd HD L3 (.lst [z4, y2, y3])) L5 (.lst [V.int 0, .int 0, .int 0, .int 1, .int 2]) = HE at v3 v5 tE gA gB gD ⊢
    have wE := w9.same tE
    have gZ := h9.same tE
    refine ⟨_, rfl, a, 5, rfl, wE, by decide, by decide, fun k HF k0 k1 fF => ?_⟩
    have v3 := fF.1 _ _ n3 v3
    have v5 := fF.1 _ _ n5 v5
    have gA := gA.fv wE fF
    have gB := gB.fv wE fF
    have gD := gD.fv wE fF
    have gZ := gZ.fv wE fF
    have f9F := (Fv.of_same w9 tE).trans fF
    have wF := fF.2
    obtain ⟨m, hm, m0, m1⟩ : ∃ m : Int, atI [V.int 0, .int 0, .int 0, .int 1, .int 2] k = some (.int m) ∧ 0 ≤ m ∧ m < 3 := by
      obtain rfl | rfl | rfl | rfl | rfl : k = ((0 : Nat) : Int) ∨ k = ((1 : Nat) : Int) ∨ k = ((2 : Nat) : Int) ∨ k = ((3 : Nat) : Int) ∨ k = ((4 : Nat) : Int) := by omega
      · exact ⟨0, atI_nat rfl, by decide, by decide⟩
      · exact ⟨0, atI_nat rfl, by decide, by decide⟩
      · exact ⟨0, atI_nat rfl, by decide, by decide⟩
      · exact ⟨1, atI_nat rfl, by decide, by decide⟩
      · exact ⟨2, atI_nat rfl, by decide, by decide⟩
    obtain ⟨x, hx, e9, ho9, hr9⟩ := pickA (xs := [z4, y2, y3]) (P := fun x => ∃ e, Oth (.tuple ts) e ∧ Ra K a HF x e) m0 (show m < 3 from m1) (cons_mem ⟨_, o1, gZ⟩ (cons_mem ⟨_, .len (by rw [c1, List.length_take]; omega), gB⟩ (one_mem ⟨_, .len (by rw [List.length_append]; show _ ≠ _ + 1; omega), gD⟩)))
    refine ⟨L5, _, k, .int m, rfl, rfl, SqL.of v5, hm, L3, _, m, x, rfl, rfl, SqL.of v3, hx, by show 1 ≤ sizeLine; decide, fun L1 hL1 => ?_⟩
    have j1 := same_upd (o := .lst [x]) hL1
    have g1 : Ra K a (upd HF L1 (.lst [x])) (.ref L1) (.list [e9]) := .lst (wF.ne hL1) upd_same (.cons (hr9.same j1) .nil)
    have gA := gA.same j1
    have f9G := f9F.same j1
    have hRG := hR9.fv w9 f9G
    generalize upd HF L1 (.lst [x]) = HG at g1 gA f9G hRG ⊢
    have wG := f9G.2
    rw [e1] at gA
    refine ⟨a, _, _, wG, gA, g1, by rw [List.length_take, sizeLine_eq]; show _ + 1 ≤ _; omega, fun y4 HH sH gH => ⟨_, rfl, _, rfl, _, 1, rfl, rfl, _, rfl, a, ds, wG.same sH, hRG.same sH, fun y5 HI sI gI => ⟨a, _, _, (wG.same sH).same sI, gH.same sI, gI, ?_, fun y6 HJ sJ gJ => ?_⟩⟩⟩
    · rw [e2, List.length_append, List.length_take, List.length_drop, sizeLine_eq]
      show _ + 1 + _ ≤ _
      omega
    rw [e2] at gJ
    refine q y6 _ HJ ((((f12.trans f3).trans (f39.trans f9G)).same (sH.trans sI)).same sJ) gJ (agr_at hsh hd (oth_eq ho9 hdF.fit)) ?_
    rw [List.length_append, List.length_append, List.length_take, List.length_drop]
    show _ + 1 + _ ≤ _
    omega
end
end K34
set_option maxHeartbeats 2000000
namespace K34
open PySem PySem.Spec PyProof.Rows L2 Tw Sb LamX
def spAE (K : PySem.W.Frag) : Sp := fun vs H Q _ => ∃ (v u : V) (d e : PyData), vs = [v, u] ∧ Td K H v d ∧ Dp K H u e ∧ isTupD d = false ∧ ∀ H', Same H H' → Q (.bl (alk d e)) H'
def spAlike (K : PySem.W.Frag) : Sp := fun vs H Q _ => ∃ (v u : V) (d e : PyData), vs = [v, u] ∧ Td K H v d ∧ Dp K H u e ∧ wtD d ≤ 1000000 ∧ ∀ H', Same H H' → Q (.bl (alk d e)) H'
section
variable {P : Program} {w : World} {K : PySem.W.Frag} {mg : Str → Option Value} {base : Heap}
theorem ok__are_equal {f : Addr} {fd : FuncData} (F : Fun K "_are_equal" "_are_equal" s__are_equal f fd) (T : Bt mg) (c_is_whole : Cal P w K mg base 1 "is_whole" ["thing"] (spWhole K)) : FnOk P w K mg base CX0 2 f fd ["one", "other"] (spAE K) := by
  refine F.ok sc__are_equal (fun vs H Q E h => ?_) (fun cdv A outer s H vs Q E hr h => ?_)
  · obtain ⟨v, u, d, e, rfl, _⟩ := h
    rfl
  · obtain ⟨v, u, d, e, rfl, hd, he, hT, q⟩ := h
    refine ⟨_, (pss_cons (ps_if (pt_cmpR op_isN (pv 0) pe_non (nomark _))
        (pss_one (ps_ret (pe_cmpR op_isN (pv 1) pe_non (nomark _))))
        pss_nil)
      (pss_cons (ps_if (pt_val (pe_callB (id := "isinstance") (r := rIsi K) call_isi (by rfl) T.n_isinstance (by decide +kernel) (pa_cons (pv 0) (pa_cons (pe_bltn (v := .ty "bool") rfl T.n_bool (by decide +kernel) rfl) pa_nil))))
        (pss_one (ps_ret (pe_and (pe_callB (id := "isinstance") (r := rIsi K) call_isi (by rfl) T.n_isinstance (by decide +kernel) (pa_cons (pv 1) (pa_cons (pe_bltn (v := .ty "bool") rfl T.n_bool (by decide +kernel) rfl) pa_nil))) (pe_one (pe_cmpR op_eq (pv 0) (pv 1) (nomark _))))))
        pss_nil)
      (pss_cons (ps_if (pt_val (pe_callB (id := "isinstance") (r := rIsi K) call_isi (by rfl) T.n_isinstance (by decide +kernel) (pa_cons (pv 0) (pa_cons (pe_bltn (v := .ty "str") rfl T.n_str (by decide +kernel) rfl) pa_nil))))
        (pss_one (ps_ret (pe_and (pe_callB (id := "isinstance") (r := rIsi K) call_isi (by rfl) T.n_isinstance (by decide +kernel) (pa_cons (pv 1) (pa_cons (pe_bltn (v := .ty "str") rfl T.n_str (by decide +kernel) rfl) pa_nil))) (pe_one (pe_cmpR op_eq (pv 0) (pv 1) (nomark _))))))
        pss_nil)
      (pss_one (ps_ret (pe_and (pe_cal c_is_whole hr (by decide) (by rfl) (pa_cons (pv 1) pa_nil)) (pe_one (pe_cmpR op_eq (pv 0) (pv 1) (nomark _))))))))), ?_⟩
    have hty := Tw.Dp.ty he
    cases hd with
    | non =>
      refine ⟨_, rfl, rfl, _, rfl, iteY rfl ?_⟩
      refine ⟨_, rfl, rfl, ?_⟩
      cases he <;> exact q H (Same.refl _)
    | bl b =>
      refine ⟨_, rfl, rfl, _, rfl, iteN (fun z => nomatch z) ?_⟩
      refine ⟨_, rfl, .bl b, .ty "bool", _, .type "bool", _, rfl, .ty "bool", .base (.bl b), kit_ty (show kitB "bool" "bool" = some true by decide +kernel), _, rfl, iteT ?_⟩
      refine ⟨_, rfl, u, .ty "bool", _, .type "bool", _, rfl, .ty "bool", hty, kit_bool e, _, rfl, ?_⟩
      cases he with
      | bl c => exact iteT ⟨_, rfl, _, rfl, rfl, by rw [dec_bl]; exact q H (Same.refl _)⟩
      | _ => exact iteF (q H (Same.refl _))
    | int i =>
      refine ⟨_, rfl, rfl, _, rfl, iteN (fun z => nomatch z) ?_⟩
      refine ⟨_, rfl, .int i, .ty "bool", _, .type "bool", _, rfl, .ty "bool", .base (.int i), kit_ty (show kitB "int" "bool" = some false by decide +kernel), _, rfl, iteF ?_⟩
      refine ⟨_, rfl, .int i, .ty "str", _, .type "str", _, rfl, .ty "str", .base (.int i), kit_ty (show kitB "int" "str" = some false by decide +kernel), _, rfl, iteF ?_⟩
      refine ⟨_, rfl, u, _, isIntD e, isBoolD e, rfl, hty, kit_int e, fun _ => kit_bool e, _, rfl, ?_⟩
      cases he with
      | int c => exact iteT ⟨_, rfl, _, rfl, rfl, by rw [dec_int]; exact q H (Same.refl _)⟩
      | _ => exact iteF (q H (Same.refl _))
    | str x =>
      refine ⟨_, rfl, rfl, _, rfl, iteN (fun z => nomatch z) ?_⟩
      refine ⟨_, rfl, .str x, .ty "bool", _, .type "bool", _, rfl, .ty "bool", .base (.str x), kit_ty (show kitB "str" "bool" = some false by decide +kernel), _, rfl, iteF ?_⟩
      refine ⟨_, rfl, .str x, .ty "str", _, .type "str", _, rfl, .ty "str", .base (.str x), kit_ty (show kitB "str" "str" = some true by decide +kernel), _, rfl, iteT ?_⟩
      refine ⟨_, rfl, u, .ty "str", _, .type "str", _, rfl, .ty "str", hty, kit_str e, _, rfl, ?_⟩
      cases he with
      | str c => exact iteT ⟨_, rfl, _, rfl, rfl, by rw [dec_str]; exact q H (Same.refl _)⟩
      | _ => exact iteF (q H (Same.refl _))
    | tup _ _ => exact nomatch hT
theorem ok_alike {f : Addr} {fd : FuncData} (F : Fun K "alike" "alike" s_alike f fd) (T : Bt mg) (c__are_equal : Cal P w K mg base 2 "_are_equal" ["one", "other"] (spAE K)) : FnOk P w K mg base CX0 3 f fd ["one", "other"] (spAlike K) := by
  refine F.ok sc_alike (fun vs H Q E h => ?_) (fun cdv A outer s H vs Q E hr h => ?_)
  · obtain ⟨v, u, d, e, rfl, _⟩ := h
    rfl
  · obtain ⟨v, u, d, e, rfl, hd, he, hwt, q⟩ := h
    refine ⟨_, (pss_cons (ps_set (i := 2) sc_alike.nd rfl (.inl rfl) (pe_lst (pa_cons (pe_tup (pa_cons (pv 0) (pa_cons (pv 1) pa_nil))) pa_nil)))
      (pss_cons (ps_while PassesOwn.never (pt_truth (pv 2) (by intro _; rfl))
        (pss_cons (ps_asg (pe_bm0 PySem.F.plainAttrs_list PySem.F.slot_list_pop PySem.F.type_list_pop mt_pop (pv 2)) (pg_tup rfl (pgs_cons (pg_name (i := 3) sc_alike.nd rfl (.inl rfl)) (pgs_cons (pg_name (i := 4) sc_alike.nd rfl (.inl rfl)) pgs_nil))))
        (pss_one (ps_if (pt_not (pt_val (pe_callB (id := "isinstance") (r := rIsi K) call_isi (by rfl) T.n_isinstance (by decide +kernel) (pa_cons (pv 3) (pa_cons (pe_bltn (v := .ty "tuple") rfl T.n_tuple (by decide +kernel) rfl) pa_nil)))))
          (pss_one (ps_if (pt_not (pt_val (pe_cal c__are_equal hr (by decide) (by rfl) (pa_cons (pv 3) (pa_cons (pv 4) pa_nil)))))
            (pss_one (ps_ret pe_bl))
            pss_nil))
          (pss_one (ps_if (PW.pt (pw_and (pt_val (pe_callB (id := "isinstance") (r := rIsi K) call_isi (by rfl) T.n_isinstance (by decide +kernel) (pa_cons (pv 4) (pa_cons (pe_bltn (v := .ty "tuple") rfl T.n_tuple (by decide +kernel) rfl) pa_nil)))) (pw_and1 (pt_cmpR op_eq (pe_callB call_len_seq (by rfl) T.n_len (by decide +kernel) (pa_cons (pv 3) pa_nil)) (pe_callB call_len_seq (by rfl) T.n_len (by decide +kernel) (pa_cons (pv 4) pa_nil)) (nomark _)))))
            (pss_one (ps_expr (pe_bm PySem.F.plainAttrs_list PySem.F.slot_list_extend PySem.F.type_list_extend mt_extend (pv 2) (pa_cons (show PE _ _ (tListZ K _) from pe_listZ rfl (by rfl) T.n_list (by rfl) T.n_zip (pa_cons (pv 3) (pa_cons (pv 4) pa_nil))) pa_nil))))
            (pss_one (ps_ret pe_bl))))))))
      (pss_one (ps_ret pe_bl)))), ?_⟩
    refine ⟨_, rfl, _, rfl, by show 2 ≤ sizeLine; decide, fun t0 h0 => ⟨by show 1 ≤ sizeLine; decide, fun L hL => ?_⟩⟩
    have j0 := same_upd (o := .tup [v, u]) h0
    have jL := same_upd (o := .lst [V.ref t0]) hL
    have hL0 : H L = none := same_none j0 hL
    refine ⟨fun m σ H' => ∃ (y3 y4 : Option V) (vs : List V) (ps : List (PyData × PyData)), σ = [some v, some u, some (.ref L), y3, y4] ∧ Same H H' ∧ H' L = some (.lst vs) ∧ Paired (WaitP K H H') vs ps ∧ wtP ps ≤ m ∧ m ≤ 1000000 ∧ alkP ps = alk d e, ⟨wtD d, _, _, _, [(d, e)], rfl, j0.trans jL, upd_same, .cons ⟨t0, v, u, rfl, jL _ _ upd_same, hd, he⟩ .nil, Nat.le_refl _, hwt, Bool.and_true _⟩, ?_⟩
    rintro m σ H2 ⟨y3, y4, vs, ps, rfl, s2, hLv, hw, hm, hm1, ha⟩
    refine ⟨_, rfl, !vs.isEmpty, .inl ⟨_, SqL.of hLv, rfl⟩, ?_⟩
    rcases List.eq_nil_or_concat ps with rfl | ⟨ps0, p, rfl⟩
    · obtain rfl : vs = [] := by
        cases hw
        rfl
      have ha : true = alk d e := ha
      rw [← ha] at q
      exact iteF (q H2 s2)
    rw [List.concat_eq_append] at hw hm ha
    obtain ⟨vs0, x, rfl, hw0, t, v1, u1, rfl, ht, hv1, hu1⟩ := pa_last hw
    rw [show (!(vs0 ++ [V.ref t]).isEmpty) = true by cases vs0 <;> rfl]
    refine iteT ⟨_, fun _ _ h => h, ?_⟩
    refine ⟨_, rfl, .inl ⟨rfl, _, SqL.of hLv⟩, L, _, .ref t, rfl, rfl, hLv, by rw [List.length_append]; exact List.getElem?_concat_length, ?_⟩
    rw [List.dropLast_concat]
    have ht := upd_tup (ws := vs0) hLv _ _ ht
    have hw0 := pd_mono (fun _ _ g => WaitP.keep g (upd_tup (ws := vs0) hLv)) hw0
    have s3 : Same H (upd H2 L (.lst vs0)) := fun c o e => by
      rw [upd_ne (ne_of_none e hL0)]
      exact s2 c o e
    have hL3 : (upd H2 L (.lst vs0)) L = some (.lst vs0) := upd_same
    generalize upd H2 L (.lst vs0) = H3 at ht hw0 s3 hL3 ⊢
    rw [wtP_app] at hm
    rw [alkP_app] at ha
    have ha : (alkP ps0 && (alk p.1 p.2 && true)) = alk d e := ha
    rw [Bool.and_true] at ha
    have hm : wtP ps0 + (wtD p.1 + 0) ≤ m := hm
    have hp1 := wtD_pos p.1
    have hv3 := hv1.keep (KeepT.same s3)
    have hu3 := Tw.Dp.same s3 hu1
    refine ⟨t, _, rfl, SqT.of ht, rfl, _, _, rfl, _, _, rfl, rfl, ?_⟩
    refine ⟨_, rfl, v1, .ty "tuple", _, .type "tuple", _, rfl, .ty "tuple", Tw.Dp.ty hv3.dp, kit_tup p.1, _, rfl, ?_⟩
    obtain ⟨d1, e1⟩ := p
    cases htp : isTupD d1 with
    | false =>
      refine iteT ⟨_, rfl, _, rfl, v1, u1, d1, e1, rfl, hv3, hu3, htp, fun H4 s4 => ⟨_, rfl, ?_⟩⟩
      cases hal : alk d1 e1 with
      | false =>
        have ha : (alkP ps0 && alk d1 e1) = alk d e := ha
        rw [hal, Bool.and_false] at ha
        rw [← ha] at q
        exact iteT (q H4 (s3.trans s4))
      | true =>
        have ha : (alkP ps0 && alk d1 e1) = alk d e := ha
        rw [hal, Bool.and_true] at ha
        refine iteF ⟨m - 1, by omega, _, _, vs0, ps0, rfl, s3.trans s4, s4 _ _ hL3, pd_mono (fun _ _ g => WaitP.keep g fun _ _ g => s4 _ _ g) hw0, by omega, by omega, ha⟩
    | true =>
      refine iteF ?_
      refine ⟨_, rfl, u1, .ty "tuple", _, .type "tuple", _, rfl, .ty "tuple", Tw.Dp.ty hu3, kit_tup e1, _, rfl, ?_⟩
      have ha : (alkP ps0 && alk d1 e1) = alk d e := ha
      obtain ⟨ds, rfl⟩ : ∃ ds, d1 = .tuple ds := by
        cases d1 <;> first
          | exact ⟨_, rfl⟩
          | exact nomatch htp
      cases het : isTupD e1 with
      | false =>
        have : alk (.tuple ds) e1 = false := by
          cases e1 <;> first
            | rfl
            | exact nomatch het
        rw [this, Bool.and_false] at ha
        rw [← ha] at q
        exact iteF (q H3 s3)
      | true =>
        obtain ⟨es, rfl⟩ : ∃ es, e1 = .tuple es := by
          cases e1 <;> first
            | exact ⟨_, rfl⟩
            | exact nomatch het
        obtain ⟨a1, xs, rfl, hx, hxs⟩ := Td.row hv1
        obtain ⟨b1, ys, rfl, hy, hys⟩ := Tw.Dp.row hu1
        have hx3 := KeepT.same s3 _ _ hx
        have hy3 := KeepT.same s3 _ _ hy
        have xl := hxs.len
        have yl := Tw.DpAll.len hys
        have hwx : wtD (.tuple ds) = 1 + wtAll ds := rfl
        have hln := wtAll_len ds
        have hm : wtP ps0 + (1 + wtAll ds) ≤ m := hm
        refine iteT ⟨_, rfl, a1, xs, rfl, .inr hx3, _, rfl, b1, ys, rfl, .inr hy3, rfl, _, rfl, ?_⟩
        by_cases hlen : ds.length = es.length
        · rw [show alk (.tuple ds) (.tuple es) = alkAll ds es from rfl, alkAll_zip hlen] at ha
          refine iteY (by rw [xl, yl, hlen]) ?_
          refine ⟨_, rfl, .inl ⟨rfl, _, SqL.of hL3⟩, _, rfl, _, rfl, a1, b1, xs, ys, rfl, .inr hx3, .inr hy3, by rw [sizeLine_eq]; omega, fun H5 M Ts s5 hM hTs hMv hprs => ?_⟩
          have zl : (xs.zip ys).length = ds.length := by
            rw [List.length_zip]
            omega
          have tl := hprs.length
          have hwl := wtP_len ps0
          have wl := hw0.length
          refine ⟨L, M, vs0, Ts.map V.ref, rfl, rfl, s5 _ _ hL3, hMv, by rw [List.length_map, sizeLine_eq]; omega, ?_⟩
          have hz := wtP_zip (xs := ds) (ys := es)
          refine ⟨m - 1, by omega, _, _, vs0 ++ Ts.map V.ref, ps0 ++ ds.zip es, rfl, fun c o g => ?_, upd_same, ?_, by rw [wtP_app]; omega, by omega, by rw [alkP_app]; exact ha⟩
          · rw [upd_ne (ne_of_none g hL0)]
            exact s5 _ _ (s3 c o g)
          · have ku := upd_tup (ws := vs0 ++ Ts.map V.ref) (s5 _ _ hL3)
            exact pa_app (pd_mono (fun _ _ g => WaitP.keep g ku) (waits_of hxs hys hprs)) (pd_mono (fun _ _ g => WaitP.keep g fun t zs z => ku t zs (s5 _ _ z)) hw0)
        · rw [show alk (.tuple ds) (.tuple es) = alkAll ds es from rfl, alkAll_len hlen, Bool.and_false] at ha
          rw [← ha] at q
          exact iteN (fun z => hlen (by have := V.int.inj z; omega)) (q H3 s3)
end
end K34
set_option maxHeartbeats 2000000
namespace K34
open PySem PySem.Spec PyProof.Rows L2 Tw Sb LamX
def spJudge (K : PySem.W.Frag) (CS : Addr) : Sp := fun vs H Q _ => ∃ (a b st : Addr) (tk1 tc1 tk2 tc2 : List TRow) (o1 o2 : So) (n : Nat) (r : List Pr) (us : List V) (os : List PyData), vs = [.ref a, .ref b, .ref st] ∧ ScK K CS H a tk1 tc1 o1 ∧ ScK K CS H b tk2 tc2 o2 ∧ SkOk tk1 tc1 o1 ∧ SkOk tk2 tc2 o2 ∧ MetN (scmT tk1 tc1 o1) (scmT tk2 tc2 o2) (Gp tk1 tc1 tk2 tc2) n [(o1, o2)] [] r ∧ n ≤ 1000000 ∧
  SqR K H st us ∧ DpAll K H us os ∧ (∀ d ∈ madeD (scmT tk1 tc1 o1) (scmT tk2 tc2 o2) r, wtD d ≤ 1000000) ∧
  ∀ (H' : Hp), Same H H' → Q (ansV (ansO alk (madeD (scmT tk1 tc1 o1) (scmT tk2 tc2 o2) r) os)) H'
theorem sqB_same {K : PySem.W.Frag} {H H' : Hp} {a : Addr} {xs : List V} {b : Bool} (s : Same H H') (h : SqB K b H a xs) : SqB K b H' a xs := by
  cases b
  · exact sqL_same s h
  · exact KeepT.same s _ _ h
section
variable {P : Program} {w : World} {K : PySem.W.Frag} {mg : Str → Option Value} {base : Heap}
theorem ok_judge_reader {CS f : Addr} {fd : FuncData} (F : Fun K "judge_reader" "judge_reader" s_judge_reader f fd) (T : Bu mg) (c_made : Cal P w K mg base 5 "made" ["old", "new"] (spMade K CS)) (c_alike : Cal P w K mg base 3 "alike" ["one", "other"] (spAlike K)) : FnOk P w K mg base CX0 6 f fd ["old", "new", "steps"] (spJudge K CS) := by
  refine F.ok sc_judge_reader (fun vs H Q E h => ?_) (fun cdv A outer s H vs Q E hr h => ?_)
  · obtain ⟨a, b, st, tk1, tc1, tk2, tc2, o1, o2, n, r, us, os, rfl, _⟩ := h
    rfl
  · obtain ⟨a, b, st, tk1, tc1, tk2, tc2, o1, o2, n, r, us, os, rfl, hA, hB, okA, okB, hM, hn, hS, hus, hwt, q⟩ := h
    refine ⟨_, (pss_cons (ps_set (i := 3) sc_judge_reader.nd rfl (.inl rfl) (pe_cal c_made hr (by decide) (by rfl) (pa_cons (pv 0) (pa_cons (pv 1) pa_nil))))
      (pss_cons (ps_for PassesOwn.never rfl (show PI _ _ _ (iEnZ K _) from pi_enz (by rfl) T.n_enumerate (by rfl) T.n_zip (pa_cons (pv 3) (pa_cons (pv 2) pa_nil))) (pg_tup rfl (pgs_cons (pg_name (i := 4) sc_judge_reader.nd rfl (.inl rfl)) (pgs_cons (pg_tup rfl (pgs_cons (pg_name (i := 5) sc_judge_reader.nd rfl (.inl rfl)) (pgs_cons (pg_name (i := 6) sc_judge_reader.nd rfl (.inl rfl)) pgs_nil))) pgs_nil)))
        (pss_one (ps_if (pt_not (pt_val (pe_cal c_alike hr (by decide) (by rfl) (pa_cons (pv 5) (pa_cons (pv 6) pa_nil)))))
          (pss_one (ps_ret (pv 4)))
          pss_nil)))
      (pss_one (ps_ret (pe_ifExp (pt_cmpR op_eq (pe_callB call_len (by rfl) T.n_len (by decide +kernel) (pa_cons (pv 2) pa_nil)) (pe_callB call_len_seq (by rfl) T.n_len (by decide +kernel) (pa_cons (pv 3) pa_nil)) (nomark _)) pe_str (pe_callB (call_min2 rfl) (by rfl) T.n_min (by decide +kernel) (pa_cons (pe_callB call_len (by rfl) T.n_len (by decide +kernel) (pa_cons (pv 2) pa_nil)) (pa_cons (pe_callB call_len_seq (by rfl) T.n_len (by decide +kernel) (pa_cons (pv 3) pa_nil)) pa_nil)))))))), ?_⟩
    refine ⟨_, rfl, _, rfl, a, b, tk1, tc1, tk2, tc2, o1, o2, n, r, rfl, hA, hB, okA, okB, hM, hn, fun H2 u s2 hu => ?_⟩
    obtain ⟨g, xs, rfl, hg, hxs⟩ := Td.row hu
    generalize madeD (scmT tk1 tc1 o1) (scmT tk2 tc2 o2) r = ds at hwt q hxs hu
    have hS2 : SqR K H2 st us := hS.elim (fun h => .inl (sqL_same s2 h)) fun h => .inr (KeepT.same s2 _ _ h)
    have hus2 := Tw.DpAll.same s2 hus
    have xl := hxs.len
    have ul := Tw.DpAll.len hus2
    refine ⟨_, rfl, _, rfl, g, st, xs, us, rfl, .inr hg, hS2, fun b1 b2 g1 g2 => ?_⟩
    refine for_it (walk_ez (K := K) (b1 := b1) (b2 := b2) (a := g) (b := st) (xs := xs) (ys := us)) (fun i σ H' => ∃ (y4 y5 y6 : Option V), σ = [some (.ref a), some (.ref b), some (.ref st), some (.ref g), y4, y5, y6] ∧ Same H2 H' ∧ OkP alk ds os i) ⟨_, _, _, rfl, Same.refl _, fun j hj => absurd hj (Nat.not_lt_zero j)⟩ (fun i σ H' _ h => ?_) ?_ ?_
    · obtain ⟨_, _, _, _, s3, _⟩ := h
      exact ⟨sqB_same s3 g1, sqB_same s3 g2⟩
    · rintro i x σ H3 H4 hi ⟨y4, y5, y6, rfl, s3, hok⟩ ⟨T1, T2, x1, y1, rfl, hT1, hT2, hne, rfl, hx1, hy1⟩
      have sT := same_upd (o := .tup [x1, y1]) hT1
      have hT2' : (upd H3 T1 (.tup [x1, y1])) T2 = none := by rw [upd_ne hne.symm]; exact hT2
      have sT2 := same_upd (o := .tup [.int (i : Nat), .ref T1]) hT2'
      have h1 := sT2 _ _ upd_same
      have h2 : (upd (upd H3 T1 (.tup [x1, y1])) T2 (.tup [.int (i : Nat), .ref T1])) T2 = _ := upd_same
      have s4 := (s3.trans sT).trans sT2
      generalize upd (upd H3 T1 (.tup [x1, y1])) T2 (.tup [.int (i : Nat), .ref T1]) = H4 at h1 h2 s4 ⊢
      obtain ⟨d1, hd1, ht1⟩ := Tds.at_ hxs hx1
      obtain ⟨e1, he1, ht2⟩ := Tw.DpAll.at_ hus2 hy1
      refine ⟨T2, _, rfl, SqT.of h2, rfl, _, _, rfl, _, _, rfl, T1, _, rfl, SqT.of h1, rfl, _, _, rfl, _, _, rfl, rfl, rfl, ?_⟩
      refine ⟨_, rfl, _, rfl, x1, y1, d1, e1, rfl, ht1.keep (KeepT.same s4), Tw.Dp.same s4 ht2, hwt d1 (List.mem_of_getElem? hd1), fun H5 s5 => ⟨_, rfl, ?_⟩⟩
      cases hal : alk d1 e1 with
      | true => exact iteF ⟨_, _, _, rfl, s4.trans s5, okP_next hok hd1 he1 hal⟩
      | false =>
        rw [ans_at hok hd1 he1 hal] at q
        exact iteT ⟨_, rfl, q H5 ((s2.trans s4).trans s5)⟩
    · rintro σ H3 ⟨y4, y5, y6, rfl, s3, hok⟩
      have hS3 : SqR K H3 st us := hS2.elim (fun h => .inl (sqL_same s3 h)) fun h => .inr (KeepT.same s3 _ _ h)
      have hL : LenV K (.ref st) H3 us.length := hS3.len
      have hg3 := KeepT.same s3 _ _ hg
      refine ⟨_, rfl, .ref st, us.length, rfl, hL, _, rfl, g, xs, rfl, .inr hg3, rfl, _, rfl, ?_⟩
      by_cases hl : us.length = xs.length
      · rw [ans_same (xs := ds) (ys := os) (by rw [show min xs.length us.length = ds.length by omega] at hok; exact hok) (by omega)] at q
        exact iteY (by rw [hl]) (q H3 (s2.trans s3))
      · rw [ans_short hok (by omega) (by omega)] at q
        refine iteN (fun e => hl (by have := V.int.inj e; omega)) ?_
        refine ⟨_, rfl, .ref st, us.length, rfl, hL, _, rfl, g, xs, rfl, .inr hg3, _, _, rfl, ?_⟩
        have e : (if (xs.length : Int) < (us.length : Int) then (xs.length : Int) else (us.length : Int)) = ((min xs.length us.length : Nat) : Int) := by
          split <;> omega
        rw [e]
        exact q H3 (s2.trans s3)
end
end K34
set_option maxHeartbeats 4000000
namespace K34
open PySem PySem.Spec PyProof.Rows L2 Tw Sb LamX
def spLaw2 (K : PySem.W.Frag) (TS : List (Addr × Str)) : Sp := fun vs H Q _ => ∃ (a : Addr) (ns : List Int), vs = [.ref a] ∧ SqL K H a (ns.map V.int) ∧ ns.length ≤ 63 ∧ Tabs TS H ∧ ∀ H', Q (.bl true) H'
theorem self_right {ds : List PyData} (h : ∀ d ∈ ds, fitD d = true) : ansO alk ds ds = none := ans_same (fun j hj => by
  have e := List.getElem?_eq_getElem hj
  exact ⟨ds[j], ds[j], e, e, alk_refl _ (h _ (List.getElem_mem hj))⟩) rfl
theorem scal_ans (o : Option Nat) : scal (ansV o) (ansV o) = true := by cases o <;> rfl
theorem ans_noBool {K : PySem.W.Frag} {H : Hp} (o : Option Nat) : ∃ t, TyX K H (ansV o) t ∧ PySem.W.kitOne K t (.type "bool") = some false := by
  cases o with
  | none => exact ⟨.type "str", .base (.str _), kit_ty (by decide +kernel)⟩
  | some i => exact ⟨.type "int", .base (.int _), kit_ty (by decide +kernel)⟩
/-- what is told of the steps of one pair of schemas -/
structure Made (K : PySem.W.Frag) (CS : Addr) (tk1 tc1 tk2 tc2 : List TRow) (o1 o2 : So) (n : Nat) (r : List Pr) : Prop where
  ok1 : SkOk tk1 tc1 o1
  ok2 : SkOk tk2 tc2 o2
  met : MetN (scmT tk1 tc1 o1) (scmT tk2 tc2 o2) (Gp tk1 tc1 tk2 tc2) n [(o1, o2)] [] r
  le : n ≤ 1000000
  st : ∀ d ∈ madeD (scmT tk1 tc1 o1) (scmT tk2 tc2 o2) r, StF d ∧ PyData.depth d ≤ 8
  pos : 0 < (madeD (scmT tk1 tc1 o1) (scmT tk2 tc2 o2) r).length
  len : (madeD (scmT tk1 tc1 o1) (scmT tk2 tc2 o2) r).length ≤ 5000
theorem made_facts {K : PySem.W.Frag} {CS : Addr} {ks : List Str} {tb1 tb2 : List TRow} {cs1 cs2 : List En} {o1 o2 : So} (k3 : ks.length ≤ 3) (D1 : Drawn ks tb1 cs1) (D2 : Drawn ks tb2 cs2) (h1 : Ds ks o1) (h2 : Ds ks o2) : ∃ n r, Made K CS tb1 [("c", cs1)] tb2 [("c", cs2)] o1 o2 n r := by
  obtain ⟨r, R⟩ := met_of (D1.sk h1) (D2.sk h2) k3
  obtain ⟨n, hn, hM⟩ := R.met
  have rp : 0 < r.length := by
    have := (hM.sub).2 (o1, o2) List.mem_cons_self
    rw [List.mem_map] at this
    obtain ⟨x, hx, _⟩ := this
    exact List.length_pos_of_mem hx
  refine ⟨n, r, (D1.sk h1).ok, (D2.sk h2).ok, hM, hn, fun d hd => ?_, ?_, ?_⟩
  · obtain ⟨p, hp, rfl⟩ := List.mem_map.mp hd
    exact ⟨step_f D1.nm R.len D1.rf D1.cf D2.rf D2.cf (R.ds p hp), step_depth D1.flat D2.flat p.1 p.2⟩
  · unfold madeD
    rw [List.length_map]
    exact rp
  · unfold madeD
    rw [List.length_map]
    exact R.len
section
variable {P : Program} {w : World} {K : PySem.W.Frag} {mg : Str → Option Value} {base : Heap}
theorem ok_law {CS f : Addr} {fd : FuncData} {TS : List (Addr × Str)} (F : Fun K "law" "law" s_law f fd) (T : Bu mg) (c__law_draw : Cal P w K mg base 1 "_law_draw" ["_law_well", "_law_many"] spDraw2) (c__law_schema : Cal P w K mg base 9 "_law_schema" ["_law_well", "_law_kinds", "_law_stem"] (spSchG K CS TS))
    (c_made : Cal P w K mg base 5 "made" ["old", "new"] (spMade K CS)) (c_judge_reader : Cal P w K mg base 6 "judge_reader" ["old", "new", "steps"] (spJudge K CS)) (c__law_spoilt : Cal P w K mg base 13 "_law_spoilt" ["_law_well", "_law_steps"] (spSpoilt K)) (c__law_due : Cal P w K mg base 1 "_law_due" ["_law_steps", "_law_others"] (spDue K)) : FnOk P w K mg base CX0 14 f fd ["_law_script"] (spLaw2 K TS) := by
  refine F.ok sc_law (fun vs H Q E h => ?_) (fun cdv A outer s H vs Q E hr h => ?_)
  · obtain ⟨a, ns, rfl, _⟩ := h
    rfl
  · obtain ⟨a0, ns, rfl, hS, hlen, hT, q⟩ := h
    have hu := hu_of hr
    refine ⟨_, (pss_cons (ps_for PassesOwn.never rfl (pi_list (pe_slice (r := rSlL K) sl_list (pe_op op_catL (pv 0) (pe_lst (pa_cons pe_int pa_nil))) po_none (po_some pe_int))) (pg_name (i := 1) sc_law.nd rfl (.inl rfl))
        (pss_cons (ps_set (i := 2) sc_law.nd rfl (.inl rfl) (pe_lst (pa_cons (pv 1) (pa_cons pe_int pa_nil))))
        (pss_cons (ps_set (i := 3) sc_law.nd rfl (.inl rfl) (pe_slice (r := rSlL K) sl_list (pe_lst (pa_cons pe_str (pa_cons pe_str (pa_cons pe_str pa_nil)))) po_none (po_some (pe_op op_add pe_int (pe_cal c__law_draw hr (by decide) (by rfl) (pa_cons (pv 2) (pa_cons pe_int pa_nil)))))))
        (pss_cons (ps_set (i := 4) sc_law.nd rfl (.inl rfl) (pe_cal c__law_schema hr (by decide) (by rfl) (pa_cons (pv 2) (pa_cons (pv 3) (pa_cons pe_str pa_nil)))))
        (pss_cons (ps_set (i := 5) sc_law.nd rfl (.inl rfl) (pe_cal c__law_schema hr (by decide) (by rfl) (pa_cons (pv 2) (pa_cons (pv 3) (pa_cons (pe_ix (r := rIxL K) ix_list (pe_lst (pa_cons pe_str (pa_cons pe_str pa_nil))) (pe_cal c__law_draw hr (by decide) (by rfl) (pa_cons (pv 2) (pa_cons pe_int pa_nil))) (fun _ _ => rfl)) pa_nil)))))
        (pss_cons (ps_set (i := 6) sc_law.nd rfl (.inl rfl) (pe_callTy (T := "list") (r := rListOf K) cr_listK (by rfl) T.n_list (by decide +kernel) (pa_cons (pe_cal c_made hr (by decide) (by rfl) (pa_cons (pv 4) (pa_cons (pv 5) pa_nil))) pa_nil)))
        (pss_cons (ps_if (PW.pt (pw_or (pt_cmpR op_ne (pe_cal c_judge_reader hr (by decide) (by rfl) (pa_cons (pv 4) (pa_cons (pv 5) (pa_cons (pe_cal c_made hr (by decide) (by rfl) (pa_cons (pv 4) (pa_cons (pv 5) pa_nil))) pa_nil)))) pe_str (nomark _)) (pw_or1 (pt_cmpR op_ne (pe_cal c_judge_reader hr (by decide) (by rfl) (pa_cons (pv 4) (pa_cons (pv 5) (pa_cons (pe_callTy (T := "list") (r := rListOf K) cr_listK (by rfl) T.n_list (by decide +kernel) (pa_cons (pv 6) pa_nil)) pa_nil)))) pe_str (nomark _)))))
          (pss_one (ps_ret pe_bl))
          pss_nil)
        (pss_cons (ps_for PassesOwn.never rfl (pi_range1 rfl T.n_range (pa_cons pe_int pa_nil)) (pg_name (i := 7) sc_law.nd rfl (.inl rfl))
          (pss_cons (ps_set (i := 8) sc_law.nd rfl (.inl rfl) (pe_cal c__law_spoilt hr (by decide) (by rfl) (pa_cons (pv 2) (pa_cons (pe_callTy (T := "list") (r := rListOf K) cr_listK (by rfl) T.n_list (by decide +kernel) (pa_cons (pv 6) pa_nil)) pa_nil))))
          (pss_cons (ps_set (i := 9) sc_law.nd rfl (.inl rfl) (pe_cal c_judge_reader hr (by decide) (by rfl) (pa_cons (pv 4) (pa_cons (pv 5) (pa_cons (pe_ix (r := rIxL K) ix_list (pe_lst (pa_cons (pe_callTy (T := "tuple") (r := rTupOf K) cr_tupK (by rfl) T.n_tuple (by decide +kernel) (pa_cons (pv 8) pa_nil)) (pa_cons (pv 8) pa_nil))) (pe_op op_mod (pv 7) pe_int) (fun _ _ => rfl)) pa_nil)))))
          (pss_one (ps_if (PW.pt (pw_or (pt_cmpR op_ne (pv 9) (pe_cal c__law_due hr (by decide) (by rfl) (pa_cons (pv 6) (pa_cons (pv 8) pa_nil))) (nomark _)) (pw_or1 (pt_val (pe_callB (id := "isinstance") (r := rIsi K) call_isi (by rfl) T.n_isinstance (by decide +kernel) (pa_cons (pv 9) (pa_cons (pe_bltn (v := .ty "bool") rfl T.n_bool (by decide +kernel) rfl) pa_nil)))))))
            (pss_one (ps_ret pe_bl))
            pss_nil)))))
        (pss_cons (ps_set (i := 8) sc_law.nd rfl (.inl rfl) (pe_callTy (T := "list") (r := rListOf K) cr_listK (by rfl) T.n_list (by decide +kernel) (pa_cons (pe_cal c_made hr (by decide) (by rfl) (pa_cons (pv 5) (pa_cons (pv 4) pa_nil))) pa_nil)))
        (pss_one (ps_if (pt_cmpR op_ne (pe_cal c_judge_reader hr (by decide) (by rfl) (pa_cons (pv 4) (pa_cons (pv 5) (pa_cons (pe_callTy (T := "tuple") (r := rTupOf K) cr_tupK (by rfl) T.n_tuple (by decide +kernel) (pa_cons (pv 8) pa_nil)) pa_nil)))) (pe_cal c__law_due hr (by decide) (by rfl) (pa_cons (pv 6) (pa_cons (pv 8) pa_nil))) (nomark _))
          (pss_one (ps_ret pe_bl))
          pss_nil)))))))))))
      (pss_one (ps_ret pe_bl))), ?_⟩
    refine ⟨_, rfl, by show 1 ≤ sizeLine; decide, fun Z hZ => ?_⟩
    have sZ : Same H (upd H Z (.lst [.int 0])) := same_upd hZ
    have hSZ := SqL.keep_ hS sZ
    have hTZ := hT.ext sZ
    have hZv : (upd H Z (.lst [.int 0])) Z = some (.lst [.int 0]) := upd_same
    generalize upd H Z (.lst [.int 0]) = H1 at hSZ hTZ hZv ⊢
    have e1 : ns.map V.int ++ [V.int 0] = (ns ++ [0]).map V.int := by rw [List.map_append] <;> rfl
    have hci : ∃ ms : List Int, cutV ((ns ++ [0]).map V.int) none (some 6) = ms.map V.int := by
      unfold cutV
      rw [← List.map_drop, ← List.map_take]
      exact ⟨_, rfl⟩
    obtain ⟨cells, hms⟩ := hci
    refine ⟨a0, Z, _, _, rfl, rfl, hSZ, hZv, ?_, fun Y hY => ?_⟩
    · rw [List.length_map]
      exact Nat.le_trans (Nat.add_le_add_right hlen _) (by decide)
    rw [e1]
    have sY : Same H1 (upd H1 Y (.lst ((ns ++ [0]).map V.int))) := same_upd hY
    have hTY := hTZ.ext sY
    refine ⟨_, rfl, Y, _, rfl, SqL.of upd_same, fun L hL => ⟨L, rfl, ⟨_, SqL.of upd_same⟩, ?_⟩⟩
    have hT5 := hTY.ext (same_upd (o := .lst (cutV ((ns ++ [0]).map V.int) none (some 6))) hL)
    have hLv : (upd (upd H1 Y (.lst ((ns ++ [0]).map V.int))) L (.lst (cutV ((ns ++ [0]).map V.int) none (some 6)))) L = some (.lst (cutV ((ns ++ [0]).map V.int) none (some 6))) := upd_same
    rw [hms] at hT5 hLv ⊢
    generalize upd (upd H1 Y (.lst ((ns ++ [0]).map V.int))) L (.lst (cells.map V.int)) = H5 at hLv hT5 ⊢
    refine for_it (walk_list (K := K) (a := L) (xs := cells.map V.int)) (fun i σ H' => ∃ (y1 y2 y3 y4 y5 y6 y7 y8 y9 : Option V), σ = [some (.ref a0), y1, y2, y3, y4, y5, y6, y7, y8, y9] ∧ Tabs TS H' ∧ H' L = some (.lst (cells.map V.int))) ⟨_, _, _, _, _, _, _, _, _, rfl, hT5, hLv⟩ ?_ ?_ ?_
    · rintro i σ H' _ ⟨_, _, _, _, _, _, _, _, _, _, _, h⟩
      exact SqL.of h
    · rintro i x σ H2 H3 hi ⟨y1, y2, y3, y4, y5, y6, y7, y8, y9, rfl, T2, hL2⟩ ⟨rfl, hx⟩
      obtain ⟨n, rfl⟩ : ∃ n, x = V.int n := by
        rw [List.getElem?_map] at hx
        obtain ⟨n, _, h⟩ := Option.map_eq_some_iff.mp hx
        exact ⟨n, h.symm⟩
      refine ⟨_, rfl, by show 2 ≤ sizeLine; decide, fun a ha => ?_⟩
      have w4 : IsW2 (upd H3 a (.lst [.int n, .int 0])) a := ⟨n, 0, upd_same⟩
      have s4 : Same H3 (upd H3 a (.lst [.int n, .int 0])) := same_upd ha
      have T4 := T2.ext s4
      have L4 := s4 _ _ hL2
      have nL : L ≠ a := fun e => by
        rw [e, ha] at hL2
        cases hL2
      generalize upd H3 a (.lst [.int n, .int 0]) = H4 at w4 s4 T4 L4 ⊢
      refine ⟨by show 3 ≤ sizeLine; decide, fun K0 hK0 => ?_⟩
      have sK := same_upd (o := .lst [V.str "k", .str "kk", .str "kkk"]) hK0
      have wK := w4.same sK
      have nK0 := w4.ne hK0
      have vK : (upd H4 K0 (.lst [V.str "k", .str "kk", .str "kkk"])) K0 = some (.lst [V.str "k", .str "kk", .str "kkk"]) := upd_same
      have TK := T4.ext sK
      have LK := sK _ _ L4
      generalize upd H4 K0 (.lst [V.str "k", .str "kk", .str "kkk"]) = H5 at sK wK vK TK LK ⊢
      refine ⟨_, rfl, a, 3, rfl, wK, by decide, by decide, fun rk H6 rk0 rk1 f6 => ⟨1, rk, rfl, rfl, ?_⟩⟩
      have vK6 := f6.1 _ _ nK0 vK
      have T6 := tabs_fv TK wK f6
      have L6 := f6.1 _ _ nL LK
      refine ⟨_, rfl, K0, _, rfl, SqL.of vK6, fun lk hlk => ?_⟩
      obtain ⟨ks, ko, eks⟩ := ks_of rk0 rk1
      rw [eks]
      have sk := same_upd (o := .lst (ks.map V.str)) hlk
      have w7 := f6.2.same sk
      have nlk := f6.2.ne hlk
      have hk7 : (upd H6 lk (.lst (ks.map V.str))) lk = some (.lst (ks.map V.str)) := upd_same
      have T7 := T6.ext sk
      have L7 := sk _ _ L6
      generalize upd H6 lk (.lst (ks.map V.str)) = H7 at w7 hk7 T7 L7 ⊢
      clear sk hlk f6 vK6 T6 L6 sK wK vK TK LK hK0 nK0 s4 w4 T4 L4 eks
      have hkk : ∀ H', FvN a H7 H' → SqL K H' lk (ks.map V.str) := fun H' f => SqL.of (f.1 _ _ nlk hk7 (fun _ z => nomatch z))
      refine ⟨_, rfl, _, rfl, a, lk, ks, "o", rfl, w7, nlk, SqL.of hk7, hkk, ko, rfl, nm_o, st_o, T7, fun x1 tb1 cs1 k1 H8 sc1 Dr1 hk1 f8 T8 => ?_⟩
      have L8 := f8.1 _ _ nL L7 (fun _ z => nomatch z)
      have w8 := f8.2
      refine ⟨_, rfl, _, rfl, by show 2 ≤ sizeLine; decide, fun G hG => ?_⟩
      have sG := same_upd (o := .lst [V.str "o", .str "n"]) hG
      have nG := w8.ne hG
      have vG : (upd H8 G (.lst [V.str "o", .str "n"])) G = some (.lst [V.str "o", .str "n"]) := upd_same
      have fG : FvN a H7 (upd H8 G (.lst [V.str "o", .str "n"])) := f8.trans (FvN.of (Fv.of_same w8 sG))
      have TG := T8.ext sG
      have LG := sG _ _ L8
      have scG := sc1.same sG
      generalize upd H8 G (.lst [V.str "o", .str "n"]) = HG at vG fG TG LG scG ⊢
      refine ⟨_, rfl, a, 2, rfl, fG.2, by decide, by decide, fun u HI u0 u1 fI => ?_⟩
      have vI := fI.1 _ _ nG vG
      have scI := (FvN.of fI).sc fG.2 scG
      have TI := tabs_fv TG fG.2 fI
      have LI := fI.1 _ _ nL LG
      have f7I := fG.trans (FvN.of fI)
      obtain ⟨st2, hst2, e2, nm2, so2⟩ : ∃ st2 : Str, atI [V.str "o", .str "n"] u = some (.str st2) ∧ st2.length = 1 ∧ NmOk (nmL st2) ∧ StOk st2 := by
        obtain rfl | rfl : u = ((0 : Nat) : Int) ∨ u = ((1 : Nat) : Int) := by omega
        · exact ⟨"o", atI_nat rfl, rfl, nm_o, st_o⟩
        · exact ⟨"n", atI_nat rfl, rfl, nm_n, st_n⟩
      refine ⟨G, _, u, .str st2, rfl, rfl, SqL.of vI, hst2, a, lk, ks, st2, rfl, f7I.2, nlk, hkk HI f7I, fun H' f => hkk H' (f7I.trans f), ko, e2, nm2, so2, TI, fun x2 tb2 cs2 k2 H9 sc2 Dr2 hk2 f9 T9 => ?_⟩
      have sc1 := f9.sc f7I.2 scI
      have L9 := f9.1 _ _ nL LI (fun _ z => nomatch z)
      have w9 := f9.2
      have k3 := ko.len
      clear hkk hk7 T7 L7 f8 T8 L8 w8 sG nG vG fG TG LG scG fI vI scI TI LI f7I f9 hG
      obtain ⟨n1, r1, M1⟩ := made_facts (K := K) (CS := CS) k3 Dr1 Dr2 (.one (.nod hk1)) (.one (.nod hk2))
      obtain ⟨n2, r2, M2⟩ := made_facts (K := K) (CS := CS) k3 Dr2 Dr1 (.one (.nod hk2)) (.one (.nod hk1))
      clear Dr1 Dr2
      generalize hds : madeD (scmT tb1 [("c", cs1)] (.nod k1)) (scmT tb2 [("c", cs2)] (.nod k2)) r1 = ds
      generalize hes : madeD (scmT tb2 [("c", cs2)] (.nod k2)) (scmT tb1 [("c", cs1)] (.nod k1)) r2 = es0
      have S1 := M1.st
      have P1 := M1.pos
      have N1 := M1.len
      have S2 := M2.st
      have N2 := M2.len
      rw [hds] at S1 P1 N1
      rw [hes] at S2 N2
      have hself : ansO alk ds ds = none := self_right fun d hd => (S1 d hd).1.fit
      have hwt : ∀ d ∈ madeD (scmT tb1 [("c", cs1)] (.nod k1)) (scmT tb2 [("c", cs2)] (.nod k2)) r1, wtD d ≤ 1000000 := fun d hd => (M1.st d hd).1.wt
      refine ⟨_, rfl, _, rfl, x1, x2, tb1, _, tb2, _, _, _, n1, r1, rfl, sc1, sc2, M1.ok1, M1.ok2, M1.met, M1.le, fun HA u sA hu => ?_⟩
      rw [hds] at hu
      obtain ⟨g, xs, rfl, hg, hxs⟩ := Td.row hu
      refine ⟨g, xs, rfl, .inr hg, fun ls hls => ?_⟩
      have jl := same_upd (o := .lst xs) hls
      have nls : ls ≠ a := (w9.same sA).ne hls
      have vls : (upd HA ls (.lst xs)) ls = some (.lst xs) := upd_same
      have sB := sA.trans jl
      have hxs := hxs.keep (KeepT.same jl)
      have xl := hxs.len
      generalize upd HA ls (.lst xs) = HB at vls sB hxs ⊢
      clear hu hg jl
      have A1 := sc1.same sB
      have A2 := sc2.same sB
      refine ⟨_, rfl, _, rfl, _, rfl, _, rfl, x1, x2, tb1, _, tb2, _, _, _, n1, r1, rfl, A1, A2, M1.ok1, M1.ok2, M1.met, M1.le, fun HC u sC hu => ?_⟩
      rw [hds] at hu
      obtain ⟨g2, ys, rfl, hg2, hys⟩ := Td.row hu
      refine ⟨x1, x2, g2, tb1, _, tb2, _, _, _, n1, r1, ys, ds, rfl, A1.same sC, A2.same sC, M1.ok1, M1.ok2, M1.met, M1.le, .inr hg2, hys.dp, hwt, fun HD sD => ?_⟩
      rw [hds, hself]
      refine ⟨rfl, _, rfl, iteNY rfl ?_⟩
      have sD2 := sC.trans sD
      have vD := sD2 _ _ vls
      have hxD := hxs.keep (KeepT.same sD2)
      have B1 := A1.same sD2
      have B2 := A2.same sD2
      refine ⟨_, rfl, _, rfl, _, rfl, ls, xs, rfl, .inl (SqL.of vD), fun l2 hl2 => ?_⟩
      have j2 := same_upd (o := .lst xs) hl2
      refine ⟨x1, x2, l2, tb1, _, tb2, _, _, _, n1, r1, xs, ds, rfl, B1.same j2, B2.same j2, M1.ok1, M1.ok2, M1.met, M1.le, .inl (SqL.of upd_same), (hxD.keep (KeepT.same j2)).dp, hwt, fun HE sE => ?_⟩
      rw [hds, hself]
      refine ⟨rfl, _, rfl, iteNY rfl ?_⟩
      have sE2 := j2.trans sE
      have sF := sD2.trans sE2
      have s9 := sB.trans sF
      have wE := w9.same s9
      have vE := sE2 _ _ vD
      have hxE := hxD.keep (KeepT.same sE2)
      have C1 := B1.same sE2
      have C2 := B2.same sE2
      have TE := T9.ext s9
      have LE := s9 _ _ L9
      clear hg2 hys hu sC sD vls hxs A1 A2 sD2 vD hxD B1 B2 hl2 j2 sE sE2 sF s9 sB sA hls sc1 sc2 L9 w9 T9
      refine ⟨10, rfl, by decide, by decide, ?_⟩
      refine for_it walk_range (fun i σ H' => ∃ (y7 y8 y9 : Option V), σ = [some (.ref a0), some (.int n), some (.ref a), some (.ref lk), some (.ref x1), some (.ref x2), some (.ref ls), y7, y8, y9] ∧ Fv a HE H') ⟨_, _, _, rfl, Fv.refl wE⟩ (fun _ _ _ _ _ => trivial) ?_ ?_
      · rintro i x σ Hx HF hi ⟨y7, y8, y9, rfl, fF⟩ ⟨rfl, rfl⟩
        have vF := fF.1 _ _ nls vE
        have kF := fF.keepT (K := K) wE
        have hxF := hxE.keep kF
        have wF := fF.2
        refine ⟨_, rfl, _, rfl, ls, xs, rfl, .inl (SqL.of vF), fun l3 hl3 => ?_⟩
        have j3 := same_upd (o := .lst xs) hl3
        refine ⟨a, l3, xs, ds, rfl, wF.same j3, wF.ne hl3, upd_same, hxF.keep (KeepT.same j3), S1, P1, N1, fun u es HG fG hu hagr hel => ?_⟩
        obtain ⟨lo, zs, rfl, nlo, hlo, hzs⟩ := hu.list
        have f1G := (fF.same j3).trans fG
        have wG := f1G.2
        clear hl3 j3 fG hu hxF kF vF
        have vG := f1G.1 _ _ nls vE
        refine ⟨_, rfl, _, rfl, _, rfl, lo, zs, rfl, .inl ⟨SqL.of hlo, fun tt htt => ⟨_, rfl, by show 2 ≤ sizeLine; decide, fun M hM => ?_⟩⟩⟩
        have jt := same_upd (o := .tup zs) htt
        have jM := same_upd (o := .lst [V.ref tt, .ref lo]) hM
        have jj := jt.trans jM
        have vT : SqT K _ tt zs := SqT.of (jM _ _ upd_same)
        have vlo := jj _ _ hlo
        have hzs := (hzs.same jj).dp
        have vM : (upd (upd HG tt (.tup zs)) M (.lst [V.ref tt, .ref lo])) M = some (.lst [V.ref tt, .ref lo]) := upd_same
        have fH := f1G.same jj
        generalize upd (upd HG tt (.tup zs)) M (.lst [V.ref tt, .ref lo]) = HH at vT vlo hzs vM fH ⊢
        clear jt jM jj htt hM
        obtain ⟨x, hx, st, rfl, hst⟩ := pickA (xs := [V.ref tt, .ref lo]) (r := (0 + (i : Nat) : Int) % 2) (P := fun x => ∃ st, x = V.ref st ∧ SqR K HH st zs) (by omega) (by show _ < 2; omega) (cons_mem ⟨tt, rfl, .inr vT⟩ (one_mem ⟨lo, rfl, .inl (SqL.of vlo)⟩))
        have gE : FvN a HE HH := FvN.of fH
        refine ⟨_, rfl, _, 2, rfl, rfl, (by show (0 : Int) < 2; decide), M, _, _, .ref st, rfl, rfl, SqL.of vM, hx, ?_⟩
        refine ⟨x1, x2, st, tb1, _, tb2, _, _, _, n1, r1, zs, es, rfl, gE.sc wE C1, gE.sc wE C2, M1.ok1, M1.ok2, M1.met, M1.le, hst, hzs, hwt, fun HI sI => ?_⟩
        rw [hds]
        have fI := fH.same sI
        have vI := fI.1 _ _ nls vE
        have hxI := hxE.keep (fI.keepT (K := K) wE)
        have hzI := Tw.DpAll.same sI hzs
        refine ⟨_, rfl, _, rfl, _, rfl, ls, lo, xs, zs, ds, es, rfl, SqL.of vI, hxI, SqL.of (sI _ _ vlo), hzI, fun d hd => Nat.le_trans (S1 d hd).2 (by decide), by omega, hel, fun HJ sJ => ?_⟩
        rw [← ans_eq hagr]
        refine ⟨scal_ans _, _, rfl, iteNY rfl ?_⟩
        obtain ⟨ty, hty, hkb⟩ := ans_noBool (K := K) (H := HJ) (ansO alk ds es)
        refine ⟨_, rfl, ansV (ansO alk ds es), .ty "bool", ty, .type "bool", _, rfl, .ty "bool", hty, hkb, _, rfl, iteF ?_⟩
        exact ⟨_, _, _, rfl, fI.same sJ⟩
      · rintro σ HF ⟨y7, y8, y9, rfl, fF⟩
        have vF := fF.1 _ _ nls vE
        have gE : FvN a HE HF := FvN.of fF
        have hxF := hxE.keep (fF.keepT (K := K) wE)
        have D1 := gE.sc wE C1
        have D2 := gE.sc wE C2
        have TF := tabs_fv TE wE fF
        have LF := fF.1 _ _ nL LE
        refine ⟨_, rfl, _, rfl, x2, x1, tb2, _, tb1, _, _, _, n2, r2, rfl, D2, D1, M2.ok1, M2.ok2, M2.met, M2.le, fun HG u sG hu => ?_⟩
        rw [hes] at hu
        obtain ⟨g3, zs, rfl, hg3, hzs⟩ := Td.row hu
        refine ⟨g3, zs, rfl, .inr hg3, fun lo hlo => ?_⟩
        have j1 := same_upd (o := .lst zs) hlo
        have vlo : (upd HG lo (.lst zs)) lo = some (.lst zs) := upd_same
        have sH := sG.trans j1
        have hzs := hzs.keep (KeepT.same j1)
        generalize upd HG lo (.lst zs) = HH at vlo sH hzs ⊢
        clear hu hg3 j1 hlo sG
        refine ⟨_, rfl, _, rfl, _, rfl, lo, zs, rfl, .inl ⟨SqL.of vlo, fun tt htt => ?_⟩⟩
        have jt := same_upd (o := .tup zs) htt
        have vT : SqT K (upd HH tt (.tup zs)) tt zs := SqT.of upd_same
        have vlo := jt _ _ vlo
        have hzs := hzs.keep (KeepT.same jt)
        have sI := sH.trans jt
        generalize upd HH tt (.tup zs) = HI at vT vlo hzs sI ⊢
        clear jt htt
        refine ⟨x1, x2, tt, tb1, _, tb2, _, _, _, n1, r1, zs, es0, rfl, D1.same sI, D2.same sI, M1.ok1, M1.ok2, M1.met, M1.le, .inr vT, hzs.dp, hwt, fun HJ sJ => ?_⟩
        rw [hds]
        have sK2 := sI.trans sJ
        have hagr : Agr ds es0 := agr_steps (fun d hd => (S1 d hd).1.sh) fun d hd => (S2 d hd).1.sh
        refine ⟨_, rfl, _, rfl, ls, lo, xs, zs, ds, es0, rfl, SqL.of (sK2 _ _ vF), hxF.keep (KeepT.same sK2), SqL.of (sJ _ _ vlo), (hzs.keep (KeepT.same sJ)).dp, fun d hd => Nat.le_trans (S1 d hd).2 (by decide), by omega, by omega, fun HK sK => ?_⟩
        rw [← ans_eq hagr]
        refine ⟨scal_ans _, _, rfl, iteNY rfl ?_⟩
        exact ⟨_, _, _, _, _, _, _, _, _, rfl, TF.ext (sK2.trans sK), (sK2.trans sK) _ _ LF⟩
    · rintro σ H6 _
      exact q _
end
end K34
namespace K34
open PySem PySem.Spec PyProof.Rows L2 Tw Sb LamX
theorem one_all {α : Type} {p : α} {F : α → Prop} (a : F p) : ∀ x ∈ [p], F x := fun x hx => by
  rw [List.mem_singleton.mp hx]
  exact a
theorem vals_app {zs : List V} {ws : List Value} (h2 : Vals zs ws) : ∀ {xs : List V} {us : List Value}, Vals xs us → Vals (xs ++ zs) (us ++ ws)
  | _, _, .nil => h2
  | _, _, .cons h r => .cons h (vals_app h2 r)
section
variable {P : Program} {w : World} {K : PySem.W.Frag} {mg : Str → Option Value} {base : Heap}
abbrev initF (kV doc pm : Value) (an : Option Addr) (cd ct : Value) : FuncData := PySem.W.fnOf "__init__" "Schema.__init__" (defArgs s_Schema___init__) (defBody s_Schema___init__) (defScope s_Schema___init__) .none kV doc pm an cd ct
theorem mk_kb3 {kV doc pm cd ct : Value} {an : Option Addr} : KBn K (initF kV doc pm an cd ct) ["self", "kinds", "choices", "root"] 2 ["choices", "root"] (fun us ws => us ++ ws) mkV3 :=
  ⟨fun s us ws _ h1 h2 => .of_eq (match us, h1, ws, h2 with | [_, _], _, [_, _], _ => rfl), fun r1 r2 => vals_app r2 r1⟩
end
end K34
set_option maxHeartbeats 4000000
namespace K34
open PySem PySem.Spec PyProof.Rows L2 Tw Sb LamX
theorem all_mk {l : PySem.W.OpenLaw} {w : World} {K : PySem.W.Frag} {h : Heap} {mg : Str → Option Value} {fa C_Schema fB cB PB fI kD : Addr} {t_MOST_LETTERS t_FIRST_SIGN t_LAST_SIGN t_PERCENT_SIGN t_GREATEST_NUMBER t_MOST_SIGNS t_MOST_IN_ROW t_LAST_NUMBER : Tok} {Bq1 Bq3 Bq4 Bq5 Bq7 Br1 : Value} {Bq2 Bq6 Br2 : Option Addr} {Bq8 Br3 : Array (Option Value)} {Bvs : Array Value} {tLet : Tok} {iq1 iq4 iq5 iq7 iq9 : Value} {iq2 iq6 : Option Addr} {iq8 : Array (Option Value)} (X : K.In h) (G : h.Ns mainGlobals mg) (hfa : mg "law" = some (.ref fa))
    (d_is_whole : DefIn K "is_whole" s_is_whole)
    (d_is_row : DefIn K "is_row" s_is_row)
    (d_is_name : DefIn K "is_name" s_is_name)
    (d_is_code : DefIn K "is_code" s_is_code)
    (d_keeps_bounds : DefIn K "keeps_bounds" s_keeps_bounds)
    (d_keeps_figures : DefIn K "keeps_figures" s_keeps_figures)
    (d__is_most : DefIn K "_is_most" s__is_most)
    (d__are_bounds : DefIn K "_are_bounds" s__are_bounds)
    (d__first_word : DefIn K "_first_word" s__first_word)
    (d_is_text : DefIn K "is_text" s_is_text)
    (d__is_inmost : DefIn K "_is_inmost" s__is_inmost)
    (d_is_sort : DefIn K "is_sort" s_is_sort)
    (d__is_default : DefIn K "_is_default" s__is_default)
    (d__fault : DefIn K "_fault" s__fault)
    (d__names : DefIn K "_names" s__names)
    (d__refuse_rows : DefIn K "_refuse_rows" s__refuse_rows)
    (d__refuse_comings_back : DefIn K "_refuse_comings_back" s__refuse_comings_back)
    (d_alike : DefIn K "alike" s_alike)
    (d__are_equal : DefIn K "_are_equal" s__are_equal)
    (d_by_number : DefIn K "by_number" s_by_number)
    (d_pair_word : DefIn K "pair_word" s_pair_word)
    (d_inner_pair : DefIn K "inner_pair" s_inner_pair)
    (d_gone_into : DefIn K "gone_into" s_gone_into)
    (d_pairs_met : DefIn K "pairs_met" s_pairs_met)
    (d__likes : DefIn K "_likes" s__likes)
    (d_made : DefIn K "made" s_made)
    (d__step : DefIn K "_step" s__step)
    (d__choice_step : DefIn K "_choice_step" s__choice_step)
    (d__content_place : DefIn K "_content_place" s__content_place)
    (d__node_step : DefIn K "_node_step" s__node_step)
    (d_judge_reader : DefIn K "judge_reader" s_judge_reader)
    (d__law_draw : DefIn K "_law_draw" s__law_draw)
    (d__law_sort : DefIn K "_law_sort" s__law_sort)
    (d__law_left : DefIn K "_law_left" s__law_left)
    (d__law_schema : DefIn K "_law_schema" s__law_schema)
    (d__law_other : DefIn K "_law_other" s__law_other)
    (d__law_spoilt : DefIn K "_law_spoilt" s__law_spoilt)
    (d__law_due : DefIn K "_law_due" s__law_due)
    (d_law : DefIn K "law" s_law)
    (cl_Schema : ClIn K C_Schema "Schema")
    (na_Schema_kinds : PySem.W.findIn K (.ref C_Schema) "kinds" = some none)
    (na_Schema_choices : PySem.W.findIn K (.ref C_Schema) "choices" = some none)
    (na_Schema_root : PySem.W.findIn K (.ref C_Schema) "root" = some none)
    (g_MOST_LETTERS : PySem.W.nsIn K mainGlobals "MOST_LETTERS" = some (some (.int 8 t_MOST_LETTERS)))
    (g_FIRST_SIGN : PySem.W.nsIn K mainGlobals "FIRST_SIGN" = some (some (.int 32 t_FIRST_SIGN)))
    (g_LAST_SIGN : PySem.W.nsIn K mainGlobals "LAST_SIGN" = some (some (.int 126 t_LAST_SIGN)))
    (g_PERCENT_SIGN : PySem.W.nsIn K mainGlobals "PERCENT_SIGN" = some (some (.int 37 t_PERCENT_SIGN)))
    (g_GREATEST_NUMBER : PySem.W.nsIn K mainGlobals "GREATEST_NUMBER" = some (some (.int 999999999999999999999999999999999999999999999999999999999999 t_GREATEST_NUMBER)))
    (g_MOST_SIGNS : PySem.W.nsIn K mainGlobals "MOST_SIGNS" = some (some (.int 40 t_MOST_SIGNS)))
    (g_MOST_IN_ROW : PySem.W.nsIn K mainGlobals "MOST_IN_ROW" = some (some (.int 20 t_MOST_IN_ROW)))
    (g_LAST_NUMBER : PySem.W.nsIn K mainGlobals "LAST_NUMBER" = some (some (.int 99 t_LAST_NUMBER)))
    (z_isinstance : PySem.W.nsIn K mainGlobals "isinstance" = some none)
    (z_int : PySem.W.nsIn K mainGlobals "int" = some none)
    (z_bool : PySem.W.nsIn K mainGlobals "bool" = some none)
    (z_str : PySem.W.nsIn K mainGlobals "str" = some none)
    (z_list : PySem.W.nsIn K mainGlobals "list" = some none)
    (z_tuple : PySem.W.nsIn K mainGlobals "tuple" = some none)
    (z_len : PySem.W.nsIn K mainGlobals "len" = some none)
    (z_all : PySem.W.nsIn K mainGlobals "all" = some none)
    (z_sum : PySem.W.nsIn K mainGlobals "sum" = some none)
    (z_range : PySem.W.nsIn K mainGlobals "range" = some none)
    (z_zip : PySem.W.nsIn K mainGlobals "zip" = some none)
    (z_enumerate : PySem.W.nsIn K mainGlobals "enumerate" = some none)
    (z_abs : PySem.W.nsIn K mainGlobals "abs" = some none)
    (z_ord : PySem.W.nsIn K mainGlobals "ord" = some none)
    (z_sorted : PySem.W.nsIn K mainGlobals "sorted" = some none)
    (z_min : PySem.W.nsIn K mainGlobals "min" = some none)
    (z_dict : PySem.W.nsIn K mainGlobals "dict" = some none)
    (z_max : PySem.W.nsIn K mainGlobals "max" = some none)
    (n_B : PySem.W.nsIn K mainGlobals "_by_numbers" = some (some (.ref fB)))
    (l_B : K.lookup fB = some ⟨Bq1, Bq2, .func (PySem.W.fnOf "_by_numbers" "_by_numbers" (defArgs s__by_numbers) (defBody s__by_numbers) (defScope s__by_numbers) .none Bq3 Bq4 Bq5 Bq6 (.ref cB) Bq7), Bq8⟩)
    (c_B : PySem.W.codeIn K (.ref cB) "_by_numbers" = true)
    (kp_B : PySem.W.keepIn K (.ref fB) = true)
    (k_B : K.lookup cB = some ⟨Br1, Br2, .fields Bvs, Br3⟩)
    (v_B : Bvs[11]? = some (.ref PB))
    (h_B : PySem.W.codeHdIn K cB PB = true)
    (p_B : K.lookup PB = none)
    (t_B : h.get? PB = some { cls := .none, data := .fields #[] })
    (g_LET : PySem.W.nsIn K mainGlobals "LETTERS" = some (some (.str alpha tLet)))
    (i_a : PySem.W.findIn K (.ref C_Schema) "__init__" = some (some (.ref fI)))
    (i_i : PySem.W.isFn K (.ref fI) = true)
    (i_l : K.lookup fI = some ⟨iq1, iq2, .func (initF (.ref kD) iq4 iq5 iq6 iq9 iq7), iq8⟩)
    (i_c : PySem.W.codeIn K iq9 "Schema.__init__" = true)
    (i_k : PySem.W.keepIn K (.ref fI) = true) :
    LawAtS l w K CX0 14 63 "_law_script" mg fa h := by
  have T : Bt mg := bt_mk X G (by
    intro x hx
    simp only [List.mem_cons, List.not_mem_nil, or_false] at hx
    rcases hx with rfl | rfl | rfl | rfl | rfl | rfl | rfl | rfl | rfl | rfl | rfl | rfl
    · exact z_isinstance
    · exact z_int
    · exact z_bool
    · exact z_str
    · exact z_list
    · exact z_tuple
    · exact z_len
    · exact z_all
    · exact z_sum
    · exact z_range
    · exact z_zip
    · exact z_enumerate)
  obtain ⟨f, oc, od, an, osl, kV, dc, pm, cd, ct, a, lk, c, kp⟩ := d_law
  have e := hfa.symm.trans (PySem.W.mg_of X G a)
  cases e
  refine ⟨PySem.W.fnOf "law" "law" (defArgs s_law) (defBody s_law) (defScope s_law) .none kV dc pm an cd ct, [(cB, PB)], spLaw2 K [(PB, ("_by_numbers.<locals>.<lambda>" : Str))], (one_all (t_B)), (one_all (p_B)), (one_all (PySem.W.codeHd_of_K X h_B)), fun s v => .of_eq rfl, fun H a ns hl _ hP hS => ⟨a, ns, rfl, hS, hl, (one_all (TabS.nil (hP (cB, PB) (.head _)))), fun _ => rfl⟩, fun base _ _ hTB => ?_⟩
  have U : Bu mg := ⟨T, PySem.W.mg_none_of X G z_abs, PySem.W.mg_none_of X G z_ord, PySem.W.mg_none_of X G z_sorted, PySem.W.mg_none_of X G z_min, PySem.W.mg_none_of X G z_dict⟩
  have cl : ClS K C_Schema := ⟨cl_Schema.cls, na_Schema_kinds, na_Schema_choices, na_Schema_root⟩
  have gLet : ∃ u, mg "LETTERS" = some u ∧ RelV (.str alpha) u := ⟨_, PySem.W.mg_of X G g_LET, _, rfl⟩
  have TBB := hTB (cB, PB) (.head _)
  have uB : ∀ p ∈ [(PB, ("_by_numbers.<locals>.<lambda>" : Str))], p.1 = PB → p.2 = ("_by_numbers.<locals>.<lambda>" : Str) := fun p hp e => by rw [List.mem_singleton.mp hp]
  have c1 : Cal l.prog w K mg base 1 "is_whole" ["thing"] (spWhole K) := cal_mk d_is_whole X G (fun _ _ _ _ _ _ us hl => match us, hl with | [_], _ => rfl) fun f fd F => ok_is_whole F T
  have c2 : Cal l.prog w K mg base 1 "is_row" ["thing"] (spRow K) := cal_mk d_is_row X G (fun _ _ _ _ _ _ us hl => match us, hl with | [_], _ => rfl) fun f fd F => ok_is_row F T
  have c3 : Cal l.prog w K mg base 1 "is_name" ["thing"] (spName K) := cal_mk d_is_name X G (fun _ _ _ _ _ _ us hl => match us, hl with | [_], _ => rfl) fun f fd F => ok_is_name F T gLet (gi_mk X G g_MOST_LETTERS)
  have c4 : Cal l.prog w K mg base 1 "is_code" ["code"] spCode := cal_mk d_is_code X G (fun _ _ _ _ _ _ us hl => match us, hl with | [_], _ => rfl) fun f fd F => ok_is_code F (gi_mk X G g_FIRST_SIGN) (gi_mk X G g_LAST_SIGN) (gi_mk X G g_PERCENT_SIGN)
  have c5 : Cal l.prog w K mg base 1 "keeps_bounds" ["number", "low", "high"] spKB := cal_mk d_keeps_bounds X G (fun _ _ _ _ _ _ us hl => match us, hl with | [_, _, _], _ => rfl) fun f fd F => ok_keeps_bounds F
  have c6 : Cal l.prog w K mg base 1 "keeps_figures" ["number"] spKF := cal_mk d_keeps_figures X G (fun _ _ _ _ _ _ us hl => match us, hl with | [_], _ => rfl) fun f fd F => ok_keeps_figures F U (gi_mk X G g_GREATEST_NUMBER)
  have c7 : Cal l.prog w K mg base 2 "_is_most" ["most", "limit"] spMost := cal_mk d__is_most X G (fun _ _ _ _ _ _ us hl => match us, hl with | [_, _], _ => rfl) fun f fd F => ok_is_most F c1
  have c8 : Cal l.prog w K mg base 2 "_are_bounds" ["low", "high"] spBounds := cal_mk d__are_bounds X G (fun _ _ _ _ _ _ us hl => match us, hl with | [_, _], _ => rfl) fun f fd F => ok_are_bounds F c1
  have c9 : Cal l.prog w K mg base 1 "_first_word" ["of"] (spFirst K) := cal_mk d__first_word X G (fun _ _ _ _ _ _ us hl => match us, hl with | [_], _ => rfl) fun f fd F => ok_first_word F U
  have cA : Cal l.prog w K mg base 2 "is_text" ["thing"] spText := cal_mk d_is_text X G (fun _ _ _ _ _ _ us hl => match us, hl with | [_], _ => rfl) fun f fd F => ok_is_text F U c4
  have cB9 : Cal l.prog w K mg base 3 "_is_inmost" ["word", "of", "kinds", "choices"] (spInmost K) := cal_mk d__is_inmost X G (fun _ _ _ _ _ _ us hl => match us, hl with | [_, _, _, _], _ => rfl) fun f fd F => ok_is_inmost F U (gi_mk X G g_MOST_SIGNS) c3 c7 c8
  have cC : Cal l.prog w K mg base 4 "is_sort" ["of", "kinds", "choices"] (spSort K) := cal_mk d_is_sort X G (fun _ _ _ _ _ _ us hl => match us, hl with | [_, _, _], _ => rfl) fun f fd F => ok_is_sort F U (gi_mk X G g_MOST_IN_ROW) c9 c7 cB9
  have cD : Cal l.prog w K mg base 3 "_is_default" ["of", "default"] (spDeflt K) := cal_mk d__is_default X G (fun _ _ _ _ _ _ us hl => match us, hl with | [_, _], _ => rfl) fun f fd F => ok_is_default F U c1 c5 c6 cA
  have cE : Cal l.prog w K mg base 5 "_fault" ["word", "entry", "earlier", "kinds", "choices"] (spFault K) := cal_mk d__fault X G (fun _ _ _ _ _ _ us hl => match us, hl with | [_, _, _, _, _], _ => rfl) fun f fd F => ok_fault F U (gi_mk X G g_LAST_NUMBER) c3 c1 cC cD
  have cF : Cal l.prog w K mg base 2 "_names" ["rows"] spNames := cal_mk d__names X G (fun _ _ _ _ _ _ us hl => match us, hl with | [_], _ => rfl) fun f fd F => ok_names F U c3
  have cG : Cal l.prog w K mg base 6 "_refuse_rows" ["word", "rows", "kinds", "choices"] (spRows K) := cal_mk d__refuse_rows X G (fun _ _ _ _ _ _ us hl => match us, hl with | [_, _, _, _], _ => rfl) fun f fd F => ok_refuse_rows F U c3 c2 cE
  have cH : Cal l.prog w K mg base 1 "_refuse_comings_back" ["choices"] (spBack K) := cal_mk d__refuse_comings_back X G (fun _ _ _ _ _ _ us hl => match us, hl with | [_], _ => rfl) fun f fd F => ok_back F
  have cI : Cal l.prog w K mg base 4 "_by_numbers" ["rows"] (spByN K [(PB, ("_by_numbers.<locals>.<lambda>" : Str))]) := ⟨fB, _, ok_by_numbers l_B c_B U TBB (.head _) uB, PySem.W.mg_of X G n_B, kp_B, (fun_mk (st := s__by_numbers) l_B c_B kp_B).binds (fun _ _ _ _ _ _ us hl => match us, hl with | [_], _ => rfl)⟩
  have okI : FnOk l.prog w K mg base CX0 7 fI (initF (.ref kD) iq4 iq5 iq6 iq9 iq7) ["self", "kinds", "choices", "root"] (spSInit K C_Schema [(PB, ("_by_numbers.<locals>.<lambda>" : Str))]) := ok_sinit (fun_mk (st := s_Schema___init__) i_l i_c i_k) cl cF cG cC cI cH
  have MK : Mk K C_Schema fI := ⟨cl_Schema.mks, i_a, i_i, cl_Schema.kc⟩
  have m3 : MkK l.prog w K mg base C_Schema 7 "Schema" 1 ["choices", "root"] mkV3 (spSInit K C_Schema [(PB, ("_by_numbers.<locals>.<lambda>" : Str))]) := ⟨⟨fI, _, _, _, MK, okI, mk_kb3⟩, PySem.W.mg_of X G cl_Schema.g⟩
  have t1 : Cal l.prog w K mg base 1 "pair_word" ["pair"] (spPW K) := cal_mk d_pair_word X G (fun _ _ _ _ _ _ us hl => match us, hl with | [_], _ => rfl) fun f fd F => ok_pair_word F
  have t2 : Cal l.prog w K mg base 2 "inner_pair" ["pair"] (spInner K) := cal_mk d_inner_pair X G (fun _ _ _ _ _ _ us hl => match us, hl with | [_], _ => rfl) fun f fd F => ok_inner_pair F t1
  have t3 : Cal l.prog w K mg base 1 "by_number" ["row", "number"] (spByNum K) := cal_mk d_by_number X G (fun _ _ _ _ _ _ us hl => match us, hl with | [_, _], _ => rfl) fun f fd F => ok_by_number F
  have t4 : Cal l.prog w K mg base 2 "_likes" ["row", "new_row"] (spLikes K) := cal_mk d__likes X G (fun _ _ _ _ _ _ us hl => match us, hl with | [_, _], _ => rfl) fun f fd F => ok_likes F t3
  have t5 : Cal l.prog w K mg base 3 "gone_into" ["old", "new", "pair"] (spInto K C_Schema) := cal_mk d_gone_into X G (fun _ _ _ _ _ _ us hl => match us, hl with | [_, _, _], _ => rfl) fun f fd F => ok_into F cl t1 t2 t4
  have t6 : Cal l.prog w K mg base 4 "pairs_met" ["old", "new"] (spMet l.prog w K C_Schema) := cal_mk d_pairs_met X G (fun _ _ _ _ _ _ us hl => match us, hl with | [_, _], _ => rfl) fun f fd F => ok_pairs_met F cl t5
  have t7 : Cal l.prog w K mg base 1 "_content_place" ["inner", "new_inner", "places"] (spCont l.prog w K) := cal_mk d__content_place X G (fun _ _ _ _ _ _ us hl => match us, hl with | [_, _, _], _ => rfl) fun f fd F => ok_content_place F
  have t8 : Cal l.prog w K mg base 2 "_choice_step" ["cases", "new_cases", "places"] (spChoice l.prog w K) := cal_mk d__choice_step X G (fun _ _ _ _ _ _ us hl => match us, hl with | [_, _, _], _ => rfl) fun f fd F => ok_choice_step F U t3 t7
  have t9 : Cal l.prog w K mg base 2 "_node_step" ["fields", "new_fields", "kind", "places"] (spNode l.prog w K) := cal_mk d__node_step X G (fun _ _ _ _ _ _ us hl => match us, hl with | [_, _, _, _], _ => rfl) fun f fd F => ok_node_step F U t3
  have tA : Cal l.prog w K mg base 3 "_step" ["old", "new", "pair", "places"] (spStep l.prog w K C_Schema) := cal_mk d__step X G (fun _ _ _ _ _ _ us hl => match us, hl with | [_, _, _, _], _ => rfl) fun f fd F => ok_step F cl t1 t2 t8 t9
  have tB : Cal l.prog w K mg base 5 "made" ["old", "new"] (spMade K C_Schema) := cal_mk d_made X G (fun _ _ _ _ _ _ us hl => match us, hl with | [_, _], _ => rfl) fun f fd F => ok_made F U t6 tA
  have tC : Cal l.prog w K mg base 2 "_are_equal" ["one", "other"] (spAE K) := cal_mk d__are_equal X G (fun _ _ _ _ _ _ us hl => match us, hl with | [_, _], _ => rfl) fun f fd F => ok__are_equal F T c1
  have tD : Cal l.prog w K mg base 3 "alike" ["one", "other"] (spAlike K) := cal_mk d_alike X G (fun _ _ _ _ _ _ us hl => match us, hl with | [_, _], _ => rfl) fun f fd F => ok_alike F T tC
  have tE : Cal l.prog w K mg base 6 "judge_reader" ["old", "new", "steps"] (spJudge K C_Schema) := cal_mk d_judge_reader X G (fun _ _ _ _ _ _ us hl => match us, hl with | [_, _, _], _ => rfl) fun f fd F => ok_judge_reader F U tB tD
  have d1 : Cal l.prog w K mg base 1 "_law_draw" ["_law_well", "_law_many"] spDraw2 := cal_mk d__law_draw X G (fun _ _ _ _ _ _ us hl => match us, hl with | [_, _], _ => rfl) fun f fd F => ok_draw F U
  have d2 : Cal l.prog w K mg base 2 "_law_sort" ["_law_well", "_law_kinds"] (spSortG K) := cal_mk d__law_sort X G (fun _ _ _ _ _ _ us hl => match us, hl with | [_, _], _ => rfl) fun f fd F => ok_sort F U d1
  have d3 : Cal l.prog w K mg base 1 "_law_left" ["_law_sort_here"] (spLeftG K) := cal_mk d__law_left X G (fun _ _ _ _ _ _ us hl => match us, hl with | [_], _ => rfl) fun f fd F => ok_left F
  have d4 : Cal l.prog w K mg base 9 "_law_schema" ["_law_well", "_law_kinds", "_law_stem"] (spSchG K C_Schema [(PB, ("_by_numbers.<locals>.<lambda>" : Str))]) := cal_mk d__law_schema X G (fun _ _ _ _ _ _ us hl => match us, hl with | [_, _, _], _ => rfl) fun f fd F => ok_schema F U d1 d2 d3 m3
  obtain ⟨fSd5, ocSd5, odSd5, anSd5, oslSd5, kVSd5, dcSd5, pmSd5, cdSd5, ctSd5, aSd5, lkSd5, cSd5, kpSd5⟩ := d__law_other
  have FSd5 := fun_mk (st := s__law_other) lkSd5 cSd5 kpSd5
  have bSd5 := FSd5.binds (ps := ["_law_well", "_law_part"]) (fun _ _ _ _ _ _ us hl => match us, hl with | [_, _], _ => rfl)
  have d5 : Cal l.prog w K mg base 12 "_law_other" ["_law_well", "_law_part"] (spOther K 10) := ⟨fSd5, _, ok_other FSd5 U d1 (PySem.W.mg_of X G aSd5) kpSd5 bSd5 10, PySem.W.mg_of X G aSd5, kpSd5, bSd5⟩
  have d6 : Cal l.prog w K mg base 13 "_law_spoilt" ["_law_well", "_law_steps"] (spSpoilt K) := cal_mk d__law_spoilt X G (fun _ _ _ _ _ _ us hl => match us, hl with | [_, _], _ => rfl) fun f fd F => ok_spoilt F U d1 d5
  have d7 : Cal l.prog w K mg base 1 "_law_due" ["_law_steps", "_law_others"] (spDue K) := cal_mk d__law_due X G (fun _ _ _ _ _ _ us hl => match us, hl with | [_, _], _ => rfl) fun f fd F => ok_due F U (PySem.W.mg_none_of X G z_max)
  exact ok_law (fun_mk (st := s_law) lk c kp) U d1 d4 tB tE d6 d7
end K34
open PySem PySem.W PyProof.Rows
set_option maxHeartbeats 0 in
theorem PySem.Challenge.cw_thingwires_k34_whole_readers_judged_holds : PySem.Challenge.rw_thingwires_k34_whole_readers_judged.Holds := by
  w_on; o_law; k_head; (case hw => w_witness2)
  k_fill
  refine LamX.walk_ofTs (l := PySem.Challenge.rw_thingwires_k34_whole_readers_judged) (n := 63) (k := 14) (x := "_law_script") (CX := fun _ => L2.CX0) rfl (by decide) rfl ⟨rfl, by decide, by decide⟩ (fun w h Y => PySem.W.km_in_of Y) ?F (fun _ _ _ _ _ h => h)
  case F =>
    intro w mg fa h Y KX G hmg
    refine' K34.all_mk KX G hmg (Tw.defIn_mk ?twa0 ?twl0 ?twc0 ?twk0) (Tw.defIn_mk ?twa1 ?twl1 ?twc1 ?twk1) (Tw.defIn_mk ?twa2 ?twl2 ?twc2 ?twk2) (Tw.defIn_mk ?twa3 ?twl3 ?twc3 ?twk3) (Tw.defIn_mk ?twa4 ?twl4 ?twc4 ?twk4) (Tw.defIn_mk ?twa5 ?twl5 ?twc5 ?twk5) (Tw.defIn_mk ?twa6 ?twl6 ?twc6 ?twk6) (Tw.defIn_mk ?twa7 ?twl7 ?twc7 ?twk7) (Tw.defIn_mk ?twa8 ?twl8 ?twc8 ?twk8) (Tw.defIn_mk ?twa9 ?twl9 ?twc9 ?twk9) (Tw.defIn_mk ?twa10 ?twl10 ?twc10 ?twk10) (Tw.defIn_mk ?twa11 ?twl11 ?twc11 ?twk11) (Tw.defIn_mk ?twa12 ?twl12 ?twc12 ?twk12) (Tw.defIn_mk ?twa13 ?twl13 ?twc13 ?twk13) (Tw.defIn_mk ?twa14 ?twl14 ?twc14 ?twk14) (Tw.defIn_mk ?twa15 ?twl15 ?twc15 ?twk15) (Tw.defIn_mk ?twa16 ?twl16 ?twc16 ?twk16) (Tw.defIn_mk ?twa17 ?twl17 ?twc17 ?twk17) (Tw.defIn_mk ?twa18 ?twl18 ?twc18 ?twk18) (Tw.defIn_mk ?twa19 ?twl19 ?twc19 ?twk19) (Tw.defIn_mk ?twa20 ?twl20 ?twc20 ?twk20) (Tw.defIn_mk ?twa21 ?twl21 ?twc21 ?twk21) (Tw.defIn_mk ?twa22 ?twl22 ?twc22 ?twk22) (Tw.defIn_mk ?twa23 ?twl23 ?twc23 ?twk23) (Tw.defIn_mk ?twa24 ?twl24 ?twc24 ?twk24) (Tw.defIn_mk ?twa25 ?twl25 ?twc25 ?twk25) (Tw.defIn_mk ?twa26 ?twl26 ?twc26 ?twk26) (Tw.defIn_mk ?twa27 ?twl27 ?twc27 ?twk27) (Tw.defIn_mk ?twa28 ?twl28 ?twc28 ?twk28) (Tw.defIn_mk ?twa29 ?twl29 ?twc29 ?twk29) (Tw.defIn_mk ?twa30 ?twl30 ?twc30 ?twk30) (Tw.defIn_mk ?twa31 ?twl31 ?twc31 ?twk31) (Tw.defIn_mk ?twa32 ?twl32 ?twc32 ?twk32) (Tw.defIn_mk ?twa33 ?twl33 ?twc33 ?twk33) (Tw.defIn_mk ?twa34 ?twl34 ?twc34 ?twk34) (Tw.defIn_mk ?twa35 ?twl35 ?twc35 ?twk35) (Tw.defIn_mk ?twa36 ?twl36 ?twc36 ?twk36) (Tw.defIn_mk ?twa37 ?twl37 ?twc37 ?twk37) (Tw.defIn_mk ?twa38 ?twl38 ?twc38 ?twk38) (Tw.ClIn.mk ?twxg0 ?twxp0 ?twxh0 ?twxo0 ?twxs0 ?twxm0 ?twxk0) ?twn0 ?twn1 ?twn2 ?twg0 ?twg1 ?twg2 ?twg3 ?twg4 ?twg5 ?twg6 ?twg7 ?twz0 ?twz1 ?twz2 ?twz3 ?twz4 ?twz5 ?twz6 ?twz7 ?twz8 ?twz9 ?twz10 ?twz11 ?twz12 ?twz13 ?twz14 ?twz15 ?twz16 ?twz17 ?twe0 ?twe1 ?twe2 ?twe3 ?twe4 ?twe5 ?twe6 ?twe7 ?twe8 ?twe9 ?twe10 ?twe11 ?twe12 ?twe13 ?twe14
    (case twa0 => k_is)
    (case twl0 => k_is)
    (case twc0 => k_is)
    (case twk0 => k_is)
    (case twa1 => k_is)
    (case twl1 => k_is)
    (case twc1 => k_is)
    (case twk1 => k_is)
    (case twa2 => k_is)
    (case twl2 => k_is)
    (case twc2 => k_is)
    (case twk2 => k_is)
    (case twa3 => k_is)
    (case twl3 => k_is)
    (case twc3 => k_is)
    (case twk3 => k_is)
    (case twa4 => k_is)
    (case twl4 => k_is)
    (case twc4 => k_is)
    (case twk4 => k_is)
    (case twa5 => k_is)
    (case twl5 => k_is)
    (case twc5 => k_is)
    (case twk5 => k_is)
    (case twa6 => k_is)
    (case twl6 => k_is)
    (case twc6 => k_is)
    (case twk6 => k_is)
    (case twa7 => k_is)
    (case twl7 => k_is)
    (case twc7 => k_is)
    (case twk7 => k_is)
    (case twa8 => k_is)
    (case twl8 => k_is)
    (case twc8 => k_is)
    (case twk8 => k_is)
    (case twa9 => k_is)
    (case twl9 => k_is)
    (case twc9 => k_is)
    (case twk9 => k_is)
    (case twa10 => k_is)
    (case twl10 => k_is)
    (case twc10 => k_is)
    (case twk10 => k_is)
    (case twa11 => k_is)
    (case twl11 => k_is)
    (case twc11 => k_is)
    (case twk11 => k_is)
    (case twa12 => k_is)
    (case twl12 => k_is)
    (case twc12 => k_is)
    (case twk12 => k_is)
    (case twa13 => k_is)
    (case twl13 => k_is)
    (case twc13 => k_is)
    (case twk13 => k_is)
    (case twa14 => k_is)
    (case twl14 => k_is)
    (case twc14 => k_is)
    (case twk14 => k_is)
    (case twa15 => k_is)
    (case twl15 => k_is)
    (case twc15 => k_is)
    (case twk15 => k_is)
    (case twa16 => k_is)
    (case twl16 => k_is)
    (case twc16 => k_is)
    (case twk16 => k_is)
    (case twa17 => k_is)
    (case twl17 => k_is)
    (case twc17 => k_is)
    (case twk17 => k_is)
    (case twa18 => k_is)
    (case twl18 => k_is)
    (case twc18 => k_is)
    (case twk18 => k_is)
    (case twa19 => k_is)
    (case twl19 => k_is)
    (case twc19 => k_is)
    (case twk19 => k_is)
    (case twa20 => k_is)
    (case twl20 => k_is)
    (case twc20 => k_is)
    (case twk20 => k_is)
    (case twa21 => k_is)
    (case twl21 => k_is)
    (case twc21 => k_is)
    (case twk21 => k_is)
    (case twa22 => k_is)
    (case twl22 => k_is)
    (case twc22 => k_is)
    (case twk22 => k_is)
    (case twa23 => k_is)
    (case twl23 => k_is)
    (case twc23 => k_is)
    (case twk23 => k_is)
    (case twa24 => k_is)
    (case twl24 => k_is)
    (case twc24 => k_is)
    (case twk24 => k_is)
    (case twa25 => k_is)
    (case twl25 => k_is)
    (case twc25 => k_is)
    (case twk25 => k_is)
    (case twa26 => k_is)
    (case twl26 => k_is)
    (case twc26 => k_is)
    (case twk26 => k_is)
    (case twa27 => k_is)
    (case twl27 => k_is)
    (case twc27 => k_is)
    (case twk27 => k_is)
    (case twa28 => k_is)
    (case twl28 => k_is)
    (case twc28 => k_is)
    (case twk28 => k_is)
    (case twa29 => k_is)
    (case twl29 => k_is)
    (case twc29 => k_is)
    (case twk29 => k_is)
    (case twa30 => k_is)
    (case twl30 => k_is)
    (case twc30 => k_is)
    (case twk30 => k_is)
    (case twa31 => k_is)
    (case twl31 => k_is)
    (case twc31 => k_is)
    (case twk31 => k_is)
    (case twa32 => k_is)
    (case twl32 => k_is)
    (case twc32 => k_is)
    (case twk32 => k_is)
    (case twa33 => k_is)
    (case twl33 => k_is)
    (case twc33 => k_is)
    (case twk33 => k_is)
    (case twa34 => k_is)
    (case twl34 => k_is)
    (case twc34 => k_is)
    (case twk34 => k_is)
    (case twa35 => k_is)
    (case twl35 => k_is)
    (case twc35 => k_is)
    (case twk35 => k_is)
    (case twa36 => k_is)
    (case twl36 => k_is)
    (case twc36 => k_is)
    (case twk36 => k_is)
    (case twa37 => k_is)
    (case twl37 => k_is)
    (case twc37 => k_is)
    (case twk37 => k_is)
    (case twa38 => k_is)
    (case twl38 => k_is)
    (case twc38 => k_is)
    (case twk38 => k_is)
    (case twxg0 => k_is)
    (case twxp0 => k_is)
    (case twxh0 => k_is)
    (case twxo0 => k_is)
    (case twxs0 => k_is)
    (case twxm0 => k_is)
    (case twxk0 => k_is)
    (case twn0 => k_is)
    (case twn1 => k_is)
    (case twn2 => k_is)
    (case twg0 => k_is)
    (case twg1 => k_is)
    (case twg2 => k_is)
    (case twg3 => k_is)
    (case twg4 => k_is)
    (case twg5 => k_is)
    (case twg6 => k_is)
    (case twg7 => k_is)
    (case twz0 => k_is)
    (case twz1 => k_is)
    (case twz2 => k_is)
    (case twz3 => k_is)
    (case twz4 => k_is)
    (case twz5 => k_is)
    (case twz6 => k_is)
    (case twz7 => k_is)
    (case twz8 => k_is)
    (case twz9 => k_is)
    (case twz10 => k_is)
    (case twz11 => k_is)
    (case twz12 => k_is)
    (case twz13 => k_is)
    (case twz14 => k_is)
    (case twz15 => k_is)
    (case twz16 => k_is)
    (case twz17 => k_is)
    (case twe0 => k_is)
    (case twe1 => k_is)
    (case twe2 => k_is)
    (case twe3 => k_is)
    (case twe4 => k_is)
    (case twe5 => exact rfl)
    (case twe6 => kernel_rfl)
    (case twe7 => kernel_rfl)
    (case twe8 => exact PySem.W.km_tabs_of Y _ (by decide))
    (case twe9 => k_is)
    (case twe10 => k_is)
    (case twe11 => k_is)
    (case twe12 => k_is)
    (case twe13 => k_is)
    (case twe14 => k_is)
