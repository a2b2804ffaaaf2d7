import PyProof.Rows.All
import Wide.All
import OpenK.AllK
import Wide.FinOn
import HandS.ForMost
import HandS.IsInst
import HandS.Walk
import HandS.Defaults
import HandS.Codes
import PySem.Sem
import KE.GoesEnumKw
import HandS.Star
import HandS.SortKw
import HandS.Wide
import HandS.ListItems
import HandS.TupAny
import PyProof.AutoSeq1
import HandS.Text
import HandS.OwnEq
import HandS.Dict
import HandS.More
import HandS.DictTup
import HandS.Conv
import KE.KDictPairs
import KE.KDictItemsList
import HandS.ExcInit
import HandS.ExcOwn
import HandS.ExcField
import HandS.WordsExc
import HandS.ExcIs
import KE.KExcIs
import KE.KDictWalk
import KE.KDictExact
import HandS.WordsDict
import HandS.MakeKwOnly
import HandS.MakeKw
import HandS.Finally
import PySem.Challenge.RW_thingwires_k11_nodes_and_cases
set_option Elab.async false
set_option linter.all false
set_option maxRecDepth 100000
/-! TwKit: what all our proofs share: defs that may be called, the well of numbers, frames. -/
namespace Tw
open PySem PySem.Spec PyProof.Rows L2

/-! ### a def of the text, as the top has left it -/
def DefIn (K : PySem.W.Frag) (x : Str) (st : Stmt) : Prop := ∃ (f : Addr) (oc : Value) (od an : Option Addr) (osl : Array (Option Value)) (kV dc pm cd ct : Value),
  PySem.W.nsIn K mainGlobals x = some (some (.ref f)) ∧ K.lookup f = some ⟨oc, od, .func (PySem.W.fnOf x x (defArgs st) (defBody st) (defScope st) .none kV dc pm an cd ct), osl⟩ ∧ PySem.W.codeIn K cd x = true ∧ PySem.W.keepIn K (.ref f) = true

section
variable {P : Program} {w : World} {K : PySem.W.Frag} {mg : Str → Option Value} {base : Heap}
theorem defIn_mk {x : Str} {st : Stmt} {f : Addr} {oc : Value} {od an : Option Addr} {osl : Array (Option Value)} {kV dc pm cd ct : Value} (a : PySem.W.nsIn K mainGlobals x = some (some (.ref f)))
    (l : K.lookup f = some ⟨oc, od, .func (PySem.W.fnOf x x (defArgs st) (defBody st) (defScope st) .none kV dc pm an cd ct), osl⟩) (c : PySem.W.codeIn K cd x = true) (k : PySem.W.keepIn K (.ref f) = true) : DefIn K x st :=
  ⟨f, oc, od, an, osl, kV, dc, pm, cd, ct, a, l, c, k⟩
/-- a def by its name: a promise that is kept, called by place -/
structure Cal (P : Program) (w : World) (K : PySem.W.Frag) (mg : Str → Option Value) (base : Heap) (k : Nat) (x : Str) (ps : List Str) (sp : Sp) : Prop where
  ex : ∃ (f : Addr) (fd : FuncData), FnOk P w K mg base CX0 k f fd ps sp ∧ mg x = some (.ref f) ∧ PySem.W.keepIn K (.ref f) = true ∧ Binds K fd ps []
/-- .. by keywords alone, in the order ks; gV puts their values into the parameters' order -/
structure CalK (P : Program) (w : World) (K : PySem.W.Frag) (mg : Str → Option Value) (base : Heap) (k : Nat) (x : Str) (n : Nat) (ks : List Str) (gV : List V → List V → List V) (sp : Sp) : Prop where
  ex : ∃ (f : Addr) (fd : FuncData) (ps : List Str) (g : List Value → List Value → List Value), FnOk P w K mg base CX0 k f fd ps sp ∧ mg x = some (.ref f) ∧ PySem.W.keepIn K (.ref f) = true ∧ KBn K fd ps n ks g gV

theorem cal_mk {x : Str} {st : Stmt} {ps : List Str} {k : Nat} {sp : Sp} {h : Heap} (D : DefIn K x st) (X : K.In h) (G : h.Ns mainGlobals mg)
    (b : ∀ (kV doc pm : Value) (an : Option Addr) (cdv ct : Value) (us : List Value), us.length = ps.length → bindArgs (PySem.W.fnOf x x (defArgs st) (defBody st) (defScope st) .none kV doc pm an cdv ct) ⟨us, []⟩ = pure (ps.zip us))
    (ok : ∀ (f : Addr) (fd : FuncData), Fun K x x st f fd → FnOk P w K mg base CX0 k f fd ps sp) : Cal P w K mg base k x ps sp := by
  obtain ⟨f, oc, od, an, osl, kV, dc, pm, cd, ct, a, l, c, kp⟩ := D
  have F := fun_mk (st := st) l c kp
  exact ⟨f, _, ok f _ F, PySem.W.mg_of X G a, kp, F.binds b⟩
theorem calK_mk {x : Str} {st : Stmt} {ps : List Str} {k n : Nat} {ks : List Str} {sp : Sp} {h : Heap} (g : {α : Type} → List α → List α → List α) (D : DefIn K x st) (X : K.In h) (G : h.Ns mainGlobals mg)
    (b : ∀ (kV doc pm : Value) (an : Option Addr) (cdv ct : Value) (us ws : List Value), us.length = n → ws.length = ks.length → bindArgs (PySem.W.fnOf x x (defArgs st) (defBody st) (defScope st) .none kV doc pm an cdv ct) ⟨us, ks.zip ws⟩ = pure (ps.zip (g us ws)))
    (hrel : ∀ {vs : List V} {us : List Value} {zs : List V} {ws : List Value}, Vals vs us → Vals zs ws → Vals (g vs zs) (g us ws))
    (ok : ∀ (f : Addr) (fd : FuncData), Fun K x x st f fd → FnOk P w K mg base CX0 k f fd ps sp) : CalK P w K mg base k x n ks g sp := by
  obtain ⟨f, oc, od, an, osl, kV, dc, pm, cd, ct, a, l, c, kp⟩ := D
  have F := fun_mk (st := st) l c kp
  exact ⟨f, _, ps, g, ok f _ F, PySem.W.mg_of X G a, kp, fun s us ws _ h1 h2 => .of_eq (b _ _ _ _ _ _ us ws h1 h2), hrel⟩
end

section
variable {X : Cx} {k j n : Nat} {x : Str} {ps ks : List Str} {sp : Sp} {gV : List V → List V → List V} {p pos : Pos} {e : Expr} {es : List Expr} {kws : List Keyword} {t tk : TA}
theorem pe_cal (c : Cal X.prog X.w X.K X.mg X.base k x ps sp) (hr : Room j X.A) (hk : k ≤ j) (hg : Gl X x) (ha : PA X (e :: es) t)
    (hdb : (x == ("__debug__" : Str)) = false := by decide) (he : starEach (e :: es) X.env = (false, eval e X.env) :: starEach es X.env := by rfl) (hpl : (backTo pos (starEach es X.env)).any (·.1) = false := by rfl) :
    PE X (.Call (.Name x p) (e :: es) [] pos) (tCall sp [] E0 t) := by
  obtain ⟨f, fd, F, hm, kp, b⟩ := c.ex
  exact pe_call F (hr.mono hk) hg hm kp b .nil pass0 ha hdb he hpl
theorem pe_cal0 (c : Cal X.prog X.w X.K X.mg X.base k x ps sp) (hr : Room j X.A) (hk : k ≤ j) (hg : Gl X x) (hdb : (x == ("__debug__" : Str)) = false := by decide) :
    PE X (.Call (.Name x p) [] [] pos) (tCall sp [] E0 tNil) := by
  obtain ⟨f, fd, F, hm, kp, b⟩ := c.ex
  exact pe_call0 F (hr.mono hk) hg hm kp b .nil pass0 hdb
/-- f(a, .., k = v, ..) -/
theorem pe_calN (c : CalK X.prog X.w X.K X.mg X.base k x n ks gV sp) (hr : Room j X.A) (hk : k ≤ j) (hg : Gl X x) (ha : PA X (e :: es) t) (hkw : PK X kws tk) (hall : (backToKw pos (keywordEach kws X.env)).all (·.1.isSome) = true := by rfl) (hks : (backToKw pos (keywordEach kws X.env)).filterMap (·.1) = ks := by rfl)
    (hdb : (x == ("__debug__" : Str)) = false := by decide) (he : starEach (e :: es) X.env = (false, eval e X.env) :: starEach es X.env := by rfl)
    (hpl : ((backTo pos (starEach (e :: es) X.env)).any (·.1) || (backToKw pos (keywordEach kws X.env)).any (·.1.isNone)) = false := by rfl) :
    PE X (.Call (.Name x p) (e :: es) kws pos) (tCallN n ks.length sp gV E0 t tk) := by
  obtain ⟨f, fd, ps, g, F, hm, kp, b⟩ := c.ex
  exact pe_callN F (hr.mono hk) hg hm kp b pass0 ha hkw hall hks hdb he hpl
/-- f(k = v, ..) -/
theorem pe_calN0 (c : CalK X.prog X.w X.K X.mg X.base k x 0 ks gV sp) (hr : Room j X.A) (hk : k ≤ j) (hg : Gl X x) (hkw : PK X kws tk) (hall : (backToKw pos (keywordEach kws X.env)).all (·.1.isSome) = true := by rfl) (hks : (backToKw pos (keywordEach kws X.env)).filterMap (·.1) = ks := by rfl)
    (hdb : (x == ("__debug__" : Str)) = false := by decide) (hpl : ((backTo pos (starEach [] X.env)).any (·.1) || (backToKw pos (keywordEach kws X.env)).any (·.1.isNone)) = false := by rfl) :
    PE X (.Call (.Name x p) [] kws pos) (tCallN 0 ks.length sp gV E0 tNil tk) := by
  obtain ⟨f, fd, ps, g, F, hm, kp, b⟩ := c.ex
  refine ⟨fun pins s σ H Q I h => ?_⟩
  refine wpAny_Call_Name_kw (ld_glob I hg hm ?_ hdb)
  refine PySem.W.callWith_KW0 (h₀ := X.base) I.ok.mod.kin kp hall ?_ hpl
  refine thn (hkw.run pos pins s σ H _ I h) fun ws s2 ⟨zs, H2, I2, rz, l1, l2, q2⟩ => ⟨I2.kIn, ?_⟩
  rw [hks]
  exact run_fnN (us := []) (vs := []) F (hr.mono hk) b pass0 I2 .nil rz rfl l2 q2
end

/-! ### heaps -/
theorem same_upd {H : Hp} {p : Addr} {o : HO} (h : H p = none) : Same H (upd H p o) := fun b x e => by
  rw [upd_ne (ne_of_none e h)]
  exact e
theorem Same.tupq {K : PySem.W.Frag} {H H' : Hp} {a : Addr} {xs : List V} (e : Same H H') (h : SqT K H a xs) : SqT K H' a xs := by
  rcases h with (h | ⟨o, h⟩) | h
  · exact .inl (.inl (e _ _ h))
  · exact .inl (.inr ⟨o, e _ _ h⟩)
  · exact .inr h

/-- the well at a: a list of three numbers -/
def IsWl (H : Hp) (a : Addr) : Prop := ∃ x y z : Int, H a = some (.lst [.int x, .int y, .int z])
/-- all but the well at a stays; that is a well again -/
def Fw (a : Addr) (H H' : Hp) : Prop := (∀ b o, b ≠ a → H b = some o → H' b = some o) ∧ IsWl H' a
theorem IsWl.same {H H' : Hp} {a : Addr} (h : IsWl H a) (s : Same H H') : IsWl H' a := by
  obtain ⟨x, y, z, e⟩ := h
  exact ⟨x, y, z, s _ _ e⟩
theorem Fw.refl {H : Hp} {a : Addr} (h : IsWl H a) : Fw a H H := ⟨fun _ _ _ e => e, h⟩
theorem Fw.trans {a : Addr} {H H1 H2 : Hp} (f : Fw a H H1) (g : Fw a H1 H2) : Fw a H H2 := ⟨fun b o n e => g.1 b o n (f.1 b o n e), g.2⟩
theorem Fw.same {a : Addr} {H H1 H2 : Hp} (f : Fw a H H1) (g : Same H1 H2) : Fw a H H2 := ⟨fun b o n e => g b o (f.1 b o n e), f.2.same g⟩
theorem Fw.of_same {a : Addr} {H H1 : Hp} (h : IsWl H a) (g : Same H H1) : Fw a H H1 := (Fw.refl h).same g
theorem Fw.free {a : Addr} {H H' : Hp} (f : Fw a H H') (h : IsWl H a) {p : Addr} (e : H' p = none) : H p = none := by
  cases q : H p with
  | none => rfl
  | some o =>
    by_cases hp : p = a
    · subst hp
      obtain ⟨_, _, _, z⟩ := f.2
      rw [z] at e
      cases e
    · rw [f.1 p o hp q] at e
      cases e
theorem IsWl.ne {H : Hp} {a p : Addr} (h : IsWl H a) (e : H p = none) : p ≠ a := fun q => by
  obtain ⟨_, _, _, z⟩ := h
  rw [q, z] at e
  cases e
/-- the draw's promise: any number below many -/
def spDraw : Sp := fun vs H Q _ => ∃ (a : Addr) (m : Int), vs = [.ref a, .int m] ∧ IsWl H a ∧ 0 < m ∧ m < 1073741824 ∧ ∀ (r : Int) (H' : Hp), 0 ≤ r → r < m → Fw a H H' → Q (.int r) H'

theorem iteB {c : Bool} {A B : Prop} (h1 : c = true → A) (h2 : c = false → B) : if c = true then A else B := by
  cases c
  · exact iteF (h2 rfl)
  · exact iteT (h1 rfl)

/-! ### plain texts -/
/-- a text of at most n signs below 128 -/
structure Asc (n : Nat) (z : Str) : Prop where
  le : z.length ≤ n
  lt : ∀ c ∈ z.cps.toList, c < 128
theorem len_toList (z : Str) : z.length = z.cps.toList.length := by
  show z.cps.size = _
  simp
theorem Asc.mono {m n : Nat} {z : Str} (h : Asc m z) (e : m ≤ n) : Asc n z := ⟨Nat.le_trans h.le e, h.lt⟩
theorem Asc.nil {n : Nat} : Asc n ⟨#[]⟩ := ⟨Nat.zero_le _, fun c h => by simp at h⟩
theorem Asc.one {c : Nat} (h : c < 128) : Asc 1 ⟨#[c]⟩ := ⟨Nat.le_refl _, fun d hd => by
  have e : d = c := by simpa using hd
  omega⟩
theorem toList_append (a b : Str) : (a ++ b).cps.toList = a.cps.toList ++ b.cps.toList := TL.tl_append a b
theorem Asc.append {m n : Nat} {a b : Str} (ha : Asc m a) (hb : Asc n b) : Asc (m + n) (a ++ b) := by
  refine ⟨?_, fun c hc => ?_⟩
  · have h1 := ha.le
    have h2 := hb.le
    rw [len_toList] at h1 h2 ⊢
    rw [toList_append, List.length_append]
    omega
  · rw [toList_append] at hc
    rcases List.mem_append.mp hc with h | h
    · exact ha.lt c h
    · exact hb.lt c h
theorem Asc.cut {n : Nat} {a : Str} (ha : Asc n a) (lo hi : Option Int) : Asc n (cutS a lo hi) := by
  refine ⟨Nat.le_trans (cutS_length a lo hi) ha.le, fun c hc => ha.lt c ?_⟩
  have e : c ∈ (a.cps.toList.drop (HT.sIx a.length 0 lo)).take (HT.sIx a.length a.length hi - HT.sIx a.length 0 lo) := hc
  exact List.mem_of_mem_drop (List.mem_of_mem_take e)
theorem Asc.ok {n : Nat} {z : Str} (h : Asc n z) : PyData.strOk z = true := by
  unfold PyData.strOk
  rw [← Array.all_toList, List.all_eq_true]
  intro c hc
  exact decide_eq_true (Nat.lt_trans (h.lt c hc) (by decide))
theorem asc_toList {l : List Nat} {n : Nat} (h : l.length ≤ n) (k : ∀ c ∈ l, c < 128) : Asc n ⟨l.toArray⟩ := ⟨by rw [len_toList]; simpa using h, fun c hc => k c (by simpa using hc)⟩
/-- written texts -/
def ascB (n : Nat) (z : Str) : Bool := decide (z.length ≤ n) && z.cps.toList.all fun c => decide (c < 128)
theorem Asc.of {n : Nat} {z : Str} (h : ascB n z = true) : Asc n z := by
  unfold ascB at h
  simp only [Bool.and_eq_true, decide_eq_true_eq, List.all_eq_true] at h
  exact ⟨h.1, h.2⟩
theorem Asc.at {n : Nat} {z : Str} (h : Asc n z) {i : Nat} (hi : i < z.length) : ∃ c, atI z.cps.toList (i : Int) = some c ∧ c < 128 := by
  have e : i < z.cps.toList.length := by rw [← len_toList]; exact hi
  exact ⟨z.cps.toList[i], atI_nat (List.getElem?_eq_getElem e), h.lt _ (List.getElem_mem e)⟩
theorem Asc.atZ {n : Nat} {z : Str} (h : Asc n z) {i : Int} (h0 : 0 ≤ i) (hi : i < z.length) : ∃ c, atI z.cps.toList i = some c ∧ c < 128 := by
  obtain ⟨c, e, l⟩ := h.at (i := i.toNat) (by omega)
  rw [Int.toNat_of_nonneg h0] at e
  exact ⟨c, e, l⟩
end Tw
/-! Sb: what the streams tell, on lists of numbers alone (no Python here). -/
namespace Sb
def By (xs : List Int) : Prop := ∀ b ∈ xs, 0 ≤ b ∧ b ≤ 255
def NZ (xs : List Int) : Prop := ∀ b ∈ xs, b ≠ 0
theorem By.nil : By [] := fun _ h => by cases h
theorem By.append {xs ys : List Int} (h : By xs) (k : By ys) : By (xs ++ ys) := fun b hb => (List.mem_append.mp hb).elim (h b) (k b)
theorem By.cons {x : Int} {xs : List Int} (h0 : 0 ≤ x) (h1 : x ≤ 255) (k : By xs) : By (x :: xs) := fun b hb => by
  rcases List.mem_cons.mp hb with rfl | h
  · exact ⟨h0, h1⟩
  · exact k b h
theorem By.one {x : Int} (h0 : 0 ≤ x) (h1 : x ≤ 255) : By [x] := By.cons h0 h1 .nil
theorem By.take {xs : List Int} (h : By xs) (n : Nat) : By (xs.take n) := fun b hb => h b (List.mem_of_mem_take hb)
theorem By.drop {xs : List Int} (h : By xs) (n : Nat) : By (xs.drop n) := fun b hb => h b (List.mem_of_mem_drop hb)
theorem By.left {xs ys : List Int} (h : By (xs ++ ys)) : By xs := fun b hb => h b (List.mem_append_left _ hb)
theorem By.right {xs ys : List Int} (h : By (xs ++ ys)) : By ys := fun b hb => h b (List.mem_append_right _ hb)
theorem By.rep {x : Int} (n : Nat) (h0 : 0 ≤ x) (h1 : x ≤ 255) : By (List.replicate n x) := fun b hb => by
  rw [(List.mem_replicate.mp hb).2]
  exact ⟨h0, h1⟩
theorem NZ.nil : NZ [] := fun _ h => by cases h
theorem NZ.append {xs ys : List Int} (h : NZ xs) (k : NZ ys) : NZ (xs ++ ys) := fun b hb => (List.mem_append.mp hb).elim (h b) (k b)
theorem NZ.take {xs : List Int} (h : NZ xs) (n : Nat) : NZ (xs.take n) := fun b hb => h b (List.mem_of_mem_take hb)
theorem NZ.drop {xs : List Int} (h : NZ xs) (n : Nat) : NZ (xs.drop n) := fun b hb => h b (List.mem_of_mem_drop hb)

/-! ### zeros -/
def zs (off : Nat) : List Int → List Nat
  | [] => []
  | b :: r => if b = 0 then off :: zs (off + 1) r else zs (off + 1) r
theorem zs_append (off : Nat) (xs ys : List Int) : zs off (xs ++ ys) = zs off xs ++ zs (off + xs.length) ys := by
  induction xs generalizing off with
  | nil => rfl
  | cons b r ih =>
    have e : off + (b :: r).length = off + 1 + r.length := by rw [List.length_cons]; omega
    rw [e]
    by_cases h : b = 0
    · simp only [List.cons_append, zs, if_pos h, ih]
    · simp only [List.cons_append, zs, if_neg h, ih]
theorem zs_nz {xs : List Int} (h : NZ xs) (off : Nat) : zs off xs = [] := by
  induction xs generalizing off with
  | nil => rfl
  | cons b r ih =>
    have h1 : b ≠ 0 := h b (List.mem_cons_self ..)
    simp only [zs, if_neg h1]
    exact ih (fun c hc => h c (List.mem_cons_of_mem _ hc)) _
theorem zs_length (off : Nat) (xs : List Int) : (zs off xs).length ≤ xs.length := by
  induction xs generalizing off with
  | nil => exact Nat.le_refl _
  | cons b r ih =>
    have := ih (off + 1)
    by_cases h : b = 0
    · simp only [zs, if_pos h, List.length_cons]; omega
    · simp only [zs, if_neg h, List.length_cons]; omega
theorem nz_of_zs {xs : List Int} {off : Nat} (h : zs off xs = []) : NZ xs := by
  induction xs generalizing off with
  | nil => exact .nil
  | cons b r ih =>
    by_cases hb : b = 0
    · simp [zs, hb] at h
    · simp only [zs, if_neg hb] at h
      intro c hc
      rcases List.mem_cons.mp hc with rfl | q
      · exact hb
      · exact ih h c q
/-- the first zero: ahead of it none -/
theorem zs_cons {xs : List Int} {off z : Nat} {t : List Nat} (h : zs off xs = z :: t) : ∃ seg r, xs = seg ++ 0 :: r ∧ NZ seg ∧ z = off + seg.length ∧ t = zs (z + 1) r := by
  induction xs generalizing off with
  | nil => cases h
  | cons b r ih =>
    by_cases hb : b = 0
    · simp only [zs, if_pos hb] at h
      cases h
      exact ⟨[], r, by rw [hb]; rfl, .nil, rfl, rfl⟩
    · simp only [zs, if_neg hb] at h
      obtain ⟨seg, r', e, hn, ez, et⟩ := ih h
      refine ⟨b :: seg, r', by rw [e]; rfl, fun c hc => ?_, by rw [ez, List.length_cons]; omega, et⟩
      rcases List.mem_cons.mp hc with rfl | q
      · exact hb
      · exact hn c q
theorem zs_take_succ {xs : List Int} {i : Nat} {b : Int} (h : xs[i]? = some b) (off : Nat) : zs off (xs.take (i + 1)) = zs off (xs.take i) ++ if b = 0 then [off + i] else [] := by
  have hi : i < xs.length := (List.getElem?_eq_some_iff.mp h).1
  rw [List.take_add_one, h, zs_append]
  have e : (xs.take i).length = i := by rw [List.length_take]; omega
  rw [e]
  by_cases hb : b = 0
  · simp [zs, hb]
  · simp [zs, hb]

/-! ### the check -/
def wsum (k : Int) : List Int → Int
  | [] => 0
  | b :: r => k * b + wsum (k + 1) r
def check (p : List Int) : List Int := [p.sum % 65521 / 256, p.sum % 65521 % 256, wsum 1 p % 65521 / 256, wsum 1 p % 65521 % 256]
theorem wsum_append (k : Int) (xs ys : List Int) : wsum k (xs ++ ys) = wsum k xs + wsum (k + (xs.length : Int)) ys := by
  induction xs generalizing k with
  | nil => simp [wsum]
  | cons b r ih =>
    have e : k + ((b :: r).length : Int) = k + 1 + (r.length : Int) := by rw [List.length_cons]; push_cast; omega
    rw [e, List.cons_append]
    simp only [wsum, ih]
    omega
theorem check_length (p : List Int) : (check p).length = 4 := rfl
theorem check_by (p : List Int) : By (check p) := by
  intro b hb
  have h1 : 0 ≤ p.sum % 65521 ∧ p.sum % 65521 < 65521 := by omega
  have h2 : 0 ≤ wsum 1 p % 65521 ∧ wsum 1 p % 65521 < 65521 := by omega
  simp only [check, List.mem_cons, List.not_mem_nil, or_false] at hb
  rcases hb with rfl | rfl | rfl | rfl <;> omega

/-! ### runs undone -/
/-- by fuel: what is made, what is left -/
def undo : Nat → List Int → List Int → Option (List Int)
  | 0, acc, _ => some acc
  | _ + 1, acc, [] => some acc
  | f + 1, acc, n :: r =>
    if r.length + 1 < n.toNat then none
    else undo f (acc ++ r.take (n.toNat - 1) ++ if n < 255 ∧ n.toNat < r.length + 1 then [0] else []) ((n :: r).drop n.toNat)
def unrun (p : List Int) : Option (List Int) := undo p.length [] p
theorem undo_nil (f : Nat) (acc : List Int) : undo f acc [] = some acc := by cases f <;> rfl
theorem undo_length {f : Nat} {acc p w : List Int} (hp : ∀ b ∈ p, 1 ≤ b) (h : undo f acc p = some w) : w.length ≤ acc.length + p.length := by
  induction f generalizing acc p with
  | zero => simp only [undo, Option.some.injEq] at h; subst h; omega
  | succ f ih =>
    cases p with
    | nil => simp only [undo, Option.some.injEq] at h; subst h; simp
    | cons n r =>
      simp only [undo] at h
      split at h
      · cases h
      · rename_i hn
        have h1 := hp n (List.mem_cons_self ..)
        have q := ih (fun b hb => hp b (List.mem_of_mem_drop hb)) h
        have e : ((n :: r).drop n.toNat).length = r.length + 1 - n.toNat := by rw [List.length_drop, List.length_cons]
        rw [e, List.length_append, List.length_append, List.length_take] at q
        rw [List.length_cons]
        have e2 : (if n < 255 ∧ n.toNat < r.length + 1 then [(0 : Int)] else []).length ≤ 1 := by split <;> simp
        omega
theorem undo_by {f : Nat} {acc p w : List Int} (ha : By acc) (hp : By p) (h : undo f acc p = some w) : By w := by
  induction f generalizing acc p with
  | zero => simp only [undo, Option.some.injEq] at h; subst h; exact ha
  | succ f ih =>
    cases p with
    | nil => simp only [undo, Option.some.injEq] at h; subst h; exact ha
    | cons n r =>
      simp only [undo] at h
      split at h
      · cases h
      · refine ih ?_ (hp.drop _) h
        refine (ha.append (By.take (fun b hb => hp b (List.mem_cons_of_mem _ hb)) _)).append ?_
        split
        · exact .one (by omega) (by omega)
        · exact .nil
theorem unrun_length {p w : List Int} (hp : ∀ b ∈ p, 1 ≤ b) (h : unrun p = some w) : w.length ≤ p.length := by
  have := undo_length hp h
  simpa using this
theorem unrun_by {p w : List Int} (hp : By p) (h : unrun p = some w) : By w := undo_by .nil hp h

/-! ### what is told -/
inductive Tell where
  | part (pl : Nat) (bs : List Int)
  | torn (pl n : Nat)
deriving DecidableEq
def tell (pl : Nat) (p : List Int) : Tell :=
  match unrun p with
  | some w => if 4 ≤ w.length ∧ w.drop (w.length - 4) = check (w.take (w.length - 4)) then .part pl (w.take (w.length - 4)) else .torn pl p.length
  | none => .torn pl p.length
def goes : List Int → Nat → List Int → List Tell × List Int × Nat
  | pc, pl, [] => ([], pc, pl)
  | pc, pl, b :: r => if b = 0 then ((if pc = [] then [] else [tell pl pc]) ++ (goes [] (pl + pc.length + 1) r).1, (goes [] (pl + pc.length + 1) r).2) else goes (pc ++ [b]) pl r
def rests (pc : List Int) (pl : Nat) : List Tell := if pc = [] then [] else [.torn pl pc.length]
def unstr (xs : List Int) : List Tell := (goes [] 0 xs).1 ++ rests (goes [] 0 xs).2.1 (goes [] 0 xs).2.2
theorem goes_nz {seg : List Int} (h : NZ seg) (pc : List Int) (pl : Nat) : goes pc pl seg = ([], pc ++ seg, pl) := by
  induction seg generalizing pc with
  | nil => simp [goes]
  | cons b r ih =>
    have hb : b ≠ 0 := h b (List.mem_cons_self ..)
    simp only [goes, if_neg hb]
    rw [ih (fun c hc => h c (List.mem_cons_of_mem _ hc))]
    simp
theorem goes_append (pc : List Int) (pl : Nat) (xs ys : List Int) : goes pc pl (xs ++ ys) = ((goes pc pl xs).1 ++ (goes (goes pc pl xs).2.1 (goes pc pl xs).2.2 ys).1, (goes (goes pc pl xs).2.1 (goes pc pl xs).2.2 ys).2) := by
  induction xs generalizing pc pl with
  | nil => simp [goes]
  | cons b r ih =>
    by_cases hb : b = 0
    · simp only [List.cons_append, goes, if_pos hb, ih, List.append_assoc]
    · simp only [List.cons_append, goes, if_neg hb, ih]
theorem goes_zero {seg : List Int} (h : NZ seg) (pc : List Int) (pl : Nat) (r : List Int) :
    goes pc pl (seg ++ 0 :: r) = ((if pc ++ seg = [] then [] else [tell pl (pc ++ seg)]) ++ (goes [] (pl + (pc ++ seg).length + 1) r).1, (goes [] (pl + (pc ++ seg).length + 1) r).2) := by
  rw [goes_append, goes_nz h]
  simp only [goes, if_true, List.nil_append]
/-- the piece kept is of none but bytes, without zeros -/
theorem goes_keeps {pc xs : List Int} {pl : Nat} (h1 : By pc) (h2 : NZ pc) (hx : By xs) : By (goes pc pl xs).2.1 ∧ NZ (goes pc pl xs).2.1 ∧ (goes pc pl xs).2.1.length ≤ pc.length + xs.length := by
  induction xs generalizing pc pl with
  | nil => exact ⟨h1, h2, Nat.le_add_right _ _⟩
  | cons b r ih =>
    have hb := hx b (List.mem_cons_self ..)
    have hr : By r := fun c hc => hx c (List.mem_cons_of_mem _ hc)
    by_cases h0 : b = 0
    · simp only [goes, if_pos h0]
      obtain ⟨a, c, d⟩ := ih (pl := pl + pc.length + 1) By.nil NZ.nil hr
      refine ⟨a, c, ?_⟩
      rw [List.length_cons]
      have e : ([] : List Int).length = 0 := rfl
      omega
    · simp only [goes, if_neg h0]
      obtain ⟨a, c, d⟩ := ih (pc := pc ++ [b]) (pl := pl) (h1.append (.one hb.1 hb.2)) (h2.append fun c hc => by
        have e : c = b := by simpa using hc
        rw [e]; exact h0) hr
      refine ⟨a, c, ?_⟩
      rw [List.length_append] at d
      rw [List.length_cons]
      have e : [b].length = 1 := rfl
      omega
theorem goes_many (pc : List Int) (pl : Nat) (xs : List Int) : (goes pc pl xs).1.length ≤ xs.length := by
  induction xs generalizing pc pl with
  | nil => exact Nat.le_refl _
  | cons b r ih =>
    by_cases h0 : b = 0
    · simp only [goes, if_pos h0, List.length_append, List.length_cons]
      have := ih [] (pl + pc.length + 1)
      have e : (if pc = [] then [] else [tell pl pc]).length ≤ 1 := by split <;> simp
      omega
    · simp only [goes, if_neg h0, List.length_cons]
      have := ih (pc ++ [b]) pl
      omega
theorem undo_at {ns acc : List Int} {a k f : Nat} (h : ns[a]? = some (k : Int)) (hk : 1 ≤ k) (hf : ns.length - a ≤ f) :
    ∃ f', ns.length - (a + k) ≤ f' ∧ undo f acc (ns.drop a) = if ns.length < a + k then none else undo f' (acc ++ (ns.drop (a + 1)).take (k - 1) ++ if (k : Int) < 255 ∧ a + k < ns.length then [0] else []) (ns.drop (a + k)) := by
  have ha : a < ns.length := (List.getElem?_eq_some_iff.mp h).1
  have e : ns.drop a = (k : Int) :: ns.drop (a + 1) := by
    rw [List.drop_eq_getElem_cons ha]
    have := (List.getElem?_eq_some_iff.mp h).2
    rw [this]
  cases f with
  | zero => omega
  | succ f =>
    refine ⟨f, by omega, ?_⟩
    have e2 : ((k : Int) :: ns.drop (a + 1)).drop k = ns.drop (a + k) := by
      rw [← e, List.drop_drop]
    rw [e]
    simp only [undo, Int.toNat_natCast]
    rw [e2, List.length_drop]
    by_cases c : ns.length < a + k
    · rw [if_pos c, if_pos (by omega)]
    · rw [if_neg c, if_neg (by omega)]
      have e3 : (if (k : Int) < 255 ∧ k < ns.length - (a + 1) + 1 then [(0 : Int)] else []) = if (k : Int) < 255 ∧ a + k < ns.length then [0] else [] := by
        by_cases d : (k : Int) < 255 ∧ a + k < ns.length
        · rw [if_pos d, if_pos ⟨d.1, by omega⟩]
        · rw [if_neg d, if_neg (fun q => d ⟨q.1, by omega⟩)]
      rw [e3]
theorem byte_nat {ns : List Int} (hB : By ns) (hN : NZ ns) {a : Nat} {b : Int} (h : ns[a]? = some b) : ∃ k : Nat, b = (k : Int) ∧ 1 ≤ k ∧ k ≤ 255 := by
  have hm := List.mem_of_getElem? h
  have h1 := hB b hm
  have h2 := hN b hm
  exact ⟨b.toNat, by omega, by omega, by omega⟩
end Sb
/-! TwS: rules that we lack elsewhere: a statement that is never come to; enumerate over rows, counted from any number; the sum of a row. -/
namespace Tw
open PySem PySem.Spec PyProof.Rows L2

section
variable {X : Cx} {st : Stmt} {sts : List Stmt}
theorem ps_dead : PS X st (fun _ _ _ => False) := ⟨fun _ _ _ _ _ _ no => no.elim⟩
theorem pss_dead : PSs X sts (fun _ _ _ => False) := ⟨fun _ _ _ _ _ _ no => no.elim⟩
/-- a statement and what follows, by a word M that stands between -/
def tMid (t u : TS) : TS := fun D σ H => ∃ M : L2.St → Hp → Prop, t { D with nx := M } σ H ∧ ∀ σ1 H1, M σ1 H1 → u D σ1 H1
theorem pss_mid {t u : TS} (h1 : PS X st t) (h2 : PSs X sts u) : PSs X (st :: sts) (tMid t u) := by
  refine ⟨fun pins sh σ H D I hh => ?_⟩
  obtain ⟨M, ht, hu⟩ := hh
  refine wpAny_execs_cons (thn (h1.run pins sh σ H { D with nx := M } I ht) fun fl s1 q => ?_)
  cases fl with
  | next => exact q.elim fun σ1 q => q.elim fun H1 q => h2.run pins s1 σ1 H1 D q.1 (hu σ1 H1 q.2)
  | _ => exact q
end

/-! ### a built-in class called with keywords -/
section
variable {Mo : Model} {Ar : Around} {Ex : Value → Shared → Prop} {sh : Shared} {en : Env}
theorem tyCall_kw {ps : Pos} {T : String} {a : Expr} {as : List Expr} {ks : List Keyword} {Qv : Value → Shared → Prop}
    (go : wpAny Mo Ar (spliced (backTo ps (starEach (a :: as) en))) (fun us s1 => wpAny Mo Ar (evalAll ((backToKw ps (keywordEach ks en)).map (·.2))) (fun ws s2 => wpAny Mo Ar (call (.type T) us (((backToKw ps (keywordEach ks en)).filterMap (·.1)).zip ws)) Qv Ex s2) Ex s1) Ex sh)
    (e1 : backTo ps (starEach (a :: as) en) = (false, eval a en) :: backTo ps (starEach as en) := by rfl) (e2 : (backTo ps (starEach (a :: as) en)).any (·.1) = false := by rfl)
    (e3 : (backToKw ps (keywordEach ks en)).all (·.1.isSome) = true := by rfl) (e4 : (backToKw ps (keywordEach ks en)).any (·.1.isNone) = false := by rfl) :
    wpAny Mo Ar (callWith ps (.type T) [] (backTo ps (starEach (a :: as) en)) (backToKw ps (keywordEach ks en))) Qv Ex sh := by
  have ev : wpAny Mo Ar (evalArgs (.type T) true (backTo ps (starEach (a :: as) en)) (backToKw ps (keywordEach ks en))) (fun g s1 => wpAny Mo Ar (call (.type T) ([] ++ g.pos) g.kw) Qv Ex s1) Ex sh := by
    rw [e1] at go ⊢
    exact evalArgs_kwB e3 go
  unfold callWith
  refine wpAny_bind (wpAny_holding (wpAny_mono ev (fun g s1 hg => wpAny_bind (wpAny_standAt ?_)) fun _ _ z => z))
  simp only [e2, e4, Bool.or_false]
  exact wpAny_bind (wpAny_pure (wpAny_bind (wpAny_mono hg (fun r s2 hr => wpAny_bind (wpAny_holding (wpAny_point (wpAny_pure hr)))) fun _ _ z => z)))
end

/-! ### enumerate from c on -/
/-- the list at a, counted from c -/
def IteC (K : PySem.W.Frag) (a : Addr) (c : Int) : It where
  go := fun i H => ∃ (ys : List V) (y : V), SqL K H a ys ∧ ys[i]? = some y
  yld := fun i H v H' => ∃ T y, v = .ref T ∧ H T = none ∧ H' = upd H T (.tup [.int (c + (i : Nat)), y]) ∧ ∀ ys, SqL K H a ys → ys[i]? = some y
  stop := fun i H => ∃ ys : List V, SqL K H a ys ∧ ys.length = i
/-- the tuple at a -/
def ItuC (K : PySem.W.Frag) (a : Addr) (c : Int) : It where
  go := fun i H => ∃ (ys : List V) (y : V), SqT K H a ys ∧ ys[i]? = some y
  yld := fun i H v H' => ∃ T y, v = .ref T ∧ H T = none ∧ H' = upd H T (.tup [.int (c + (i : Nat)), y]) ∧ ∀ ys, SqT K H a ys → ys[i]? = some y
  stop := fun i H => ∃ ys : List V, SqT K H a ys ∧ ys.length = i

theorem turn_enC {P : Program} {w : World} {K : PySem.W.Frag} {es : List Expr} {kx : Nat} {tp : Pos} (a e it : Addr) (c : Int) :
    Turn P w K (.Tuple es kx tp) (IteC K a c) [e, it] e (fun i h => (∃ old, IsEnum h e it (c + (i : Nat)) old) ∧ h.IsListIter it a i ∧ e ≠ it) where
  mem := by simp
  obj := by
    rintro i h ⟨⟨old, h1⟩, ⟨o, h2, _, h3⟩, _⟩ b hb
    rcases (show b = e ∨ b = it by simpa using hb) with rfl | rfl
    · exact ⟨_, h1, fun v q => nomatch q⟩
    · exact ⟨o, h2, fun v q => by rw [h3] at q; cases q⟩
  keep := by
    rintro i h h' ⟨⟨old, h1⟩, h2, h3⟩ k
    exact ⟨⟨old, k e (by simp) _ h1⟩, h2.at fun o q => k it (by simp) o q, h3⟩
  item := by
    rintro X rfl rfl rfl cm i pins s σ H E I ff ⟨⟨old, h1⟩, h2, h3⟩ ⟨ys, y, h4, h5⟩
    obtain ⟨us, rv, pl, hz⟩ := I.list h4
    obtain ⟨u, hu, ru⟩ := rv.get h5
    have le : e < s.heap.objs.size := Heap.lt_size h1
    have li : it < s.heap.objs.size := by obtain ⟨_, q, _⟩ := h2; exact Heap.lt_size q
    have na : a ≠ it := fun z => by
      obtain ⟨o, q, q2, _⟩ := h2
      obtain ⟨o3, q3, q4, _⟩ := pl.isList
      rw [← z, q3] at q
      cases q
      rw [q4] at q2
      injection q2 with q2
      exact absurd q2 (by decide)
    have nea : e ≠ a := fun z => by
      obtain ⟨o3, q3, q4, _⟩ := pl.isList
      rw [← z, show s.heap.get? e = _ from h1] at q3
      cases q3
      injection q4 with q4
      exact absurd q4 (by decide)
    have ul : i < us.toArray.size := by
      have := (List.getElem?_eq_some_iff.mp hu).1
      simpa using this
    refine wpAny_pyNext_enum_itemC (Draws.list (A := X.A.in1) (I.ok.hd cm) it a na us.toArray) h1 ⟨h2, pl.isList⟩ ul h3 (fun q => ?_) fun x h' tk hx ho st hT hsz hk => ?_
    · rcases (show e = it ∨ e = a by simpa using q) with q | q
      · exact h3 q
      · exact nea q
    obtain rfl : x = u := by
      have q : us.toArray[i]? = some x := hx
      rw [List.getElem?_toArray, hu] at q
      cases q
      rfl
    refine ⟨_, rfl, wpAny_letOwnedTupleGo_enum (s := { s with heap := h', toks := tk + 1 }) ho fun h'' he' sb => ?_⟩
    have hT2 : h''.get? s.heap.objs.size = some { cls := .type "tuple", data := .seq #[.int (c + (i : Nat)) tk, x] } := (sb.2 _ (Nat.ne_of_gt le)).trans hT
    have nw : ObjOk X.prog X.w (upd H s.heap.objs.size (.tup [.int (c + (i : Nat)), y])) h'' s.heap.objs.size (.tup [.int (c + (i : Nat)), y]) :=
      ⟨by show 2 ≤ sizeLine; decide, [.int (c + (i : Nat)) tk, x], .cons ⟨_, rfl⟩ (.cons ru .nil), ⟨_, hT2, rfl, _, rfl⟩⟩
    have I1 : Inv X pins σ (upd H s.heap.objs.size (.tup [.int (c + (i : Nat)), y])) { s with heap := h'', toks := tk + 1 } :=
      I.turnedNew (ch := [e, it]) (fun b ob hb q => (sb.2 b (fun z => hb (by simp [z]))).trans (hk b ob (fun z => hb (by simp [z])) (fun z => hb (by simp [z])) q)) ff (Nat.le_refl _) nw
    refine ⟨.ref s.heap.objs.size, _, I1, rfl, ⟨_, y, rfl, I.hok.fresh (Nat.le_refl _), rfl, fun zs hz' => by rw [I.list_inj hz' h4]; exact h5⟩, ⟨⟨x, ?_⟩, st.1.at fun o q => (sb.2 it h3.symm).trans q, h3⟩, fun b hb => ?_⟩
    · rw [show (c + ((i + 1 : Nat) : Int)) = c + (i : Int) + 1 by omega]
      exact he'
    · have lb : b < s.heap.objs.size := by
        rcases (show b = e ∨ b = it by simpa using hb) with rfl | rfl
        · exact le
        · exact li
      rw [upd_ne (Nat.ne_of_lt lb)]
      exact (ff b hb).1
  done := by
    rintro X rfl rfl rfl cm i pins s σ H E I ff ⟨⟨old, h1⟩, h2, h3⟩ ⟨ys, h4, h5⟩
    obtain ⟨us, rv, pl, hz⟩ := I.list h4
    obtain ⟨f0, f1, f2, f3, f4, f5⟩ := ff it (by simp)
    have na : a ≠ it := fun z => by
      obtain ⟨o, q, q2, _⟩ := h2
      obtain ⟨o3, q3, q4, _⟩ := pl.isList
      rw [← z, q3] at q
      cases q
      rw [q4] at q2
      injection q2 with q2
      exact absurd q2 (by decide)
    have hl := rv.length
    have hn : us.toArray.size = i := by
      rw [List.size_toArray]
      omega
    have h2' : s.heap.IsListIter it a us.toArray.size := by
      rw [hn]
      exact h2
    exact wpAny_pyNext_enum_endD (Draws.list (A := X.A.in1) (I.ok.hd cm) it a na us.toArray) h1 ⟨h2', pl.isList⟩ fun h' eb => ⟨rfl, I.turned (t' := s.toks) (fun b o hb q => eb b o hb q) f0 f1 f3 f4 f5⟩
  self := by
    rintro A i s Q E ⟨⟨old, h1⟩, _⟩ h
    exact wpAny_pyIter_enum h1 h
theorem turn_enT {P : Program} {w : World} {K : PySem.W.Frag} {es : List Expr} {kx : Nat} {tp : Pos} (a e it : Addr) (c : Int) :
    Turn P w K (.Tuple es kx tp) (ItuC K a c) [e, it] e (fun i h => (∃ old, IsEnum h e it (c + (i : Nat)) old) ∧ h.IsTupleIter it a i ∧ e ≠ it) where
  mem := by simp
  obj := by
    rintro i h ⟨⟨old, h1⟩, ⟨o, h2, _, h3⟩, _⟩ b hb
    rcases (show b = e ∨ b = it by simpa using hb) with rfl | rfl
    · exact ⟨_, h1, fun v q => nomatch q⟩
    · exact ⟨o, h2, fun v q => by rw [h3] at q; cases q⟩
  keep := by
    rintro i h h' ⟨⟨old, h1⟩, h2, h3⟩ k
    exact ⟨⟨old, k e (by simp) _ h1⟩, h2.at fun o q => k it (by simp) o q, h3⟩
  item := by
    rintro X rfl rfl rfl cm i pins s σ H E I ff ⟨⟨old, h1⟩, h2, h3⟩ ⟨ys, y, h4, h5⟩
    obtain ⟨us, rv, pl, hz⟩ := I.tuple h4
    obtain ⟨u, hu, ru⟩ := rv.get h5
    have le : e < s.heap.objs.size := Heap.lt_size h1
    have li : it < s.heap.objs.size := by obtain ⟨_, q, _⟩ := h2; exact Heap.lt_size q
    have na : a ≠ it := fun z => by
      obtain ⟨o, q, q2, _⟩ := h2
      obtain ⟨o3, q3, q4, _⟩ := pl
      rw [← z, q3] at q
      cases q
      rw [q4] at q2
      injection q2 with q2
      exact absurd q2 (by decide)
    have nea : e ≠ a := fun z => by
      obtain ⟨o3, q3, q4, _⟩ := pl
      rw [← z, show s.heap.get? e = _ from h1] at q3
      cases q3
      injection q4 with q4
      exact absurd q4 (by decide)
    have ul : i < us.toArray.size := by
      have := (List.getElem?_eq_some_iff.mp hu).1
      simpa using this
    refine wpAny_pyNext_enum_itemC (Draws.tuple (A := X.A.in1) (I.ok.hd cm) it a na us.toArray) h1 ⟨h2, pl⟩ ul h3 (fun q => ?_) fun x h' tk hx ho st hT hsz hk => ?_
    · rcases (show e = it ∨ e = a by simpa using q) with q | q
      · exact h3 q
      · exact nea q
    obtain rfl : x = u := by
      have q : us.toArray[i]? = some x := hx
      rw [List.getElem?_toArray, hu] at q
      cases q
      rfl
    refine ⟨_, rfl, wpAny_letOwnedTupleGo_enum (s := { s with heap := h', toks := tk + 1 }) ho fun h'' he' sb => ?_⟩
    have hT2 : h''.get? s.heap.objs.size = some { cls := .type "tuple", data := .seq #[.int (c + (i : Nat)) tk, x] } := (sb.2 _ (Nat.ne_of_gt le)).trans hT
    have nw : ObjOk X.prog X.w (upd H s.heap.objs.size (.tup [.int (c + (i : Nat)), y])) h'' s.heap.objs.size (.tup [.int (c + (i : Nat)), y]) :=
      ⟨by show 2 ≤ sizeLine; decide, [.int (c + (i : Nat)) tk, x], .cons ⟨_, rfl⟩ (.cons ru .nil), ⟨_, hT2, rfl, _, rfl⟩⟩
    have I1 : Inv X pins σ (upd H s.heap.objs.size (.tup [.int (c + (i : Nat)), y])) { s with heap := h'', toks := tk + 1 } :=
      I.turnedNew (ch := [e, it]) (fun b ob hb q => (sb.2 b (fun z => hb (by simp [z]))).trans (hk b ob (fun z => hb (by simp [z])) (fun z => hb (by simp [z])) q)) ff (Nat.le_refl _) nw
    refine ⟨.ref s.heap.objs.size, _, I1, rfl, ⟨_, y, rfl, I.hok.fresh (Nat.le_refl _), rfl, fun zs hz' => by rw [I.tuple_inj hz' h4]; exact h5⟩, ⟨⟨x, ?_⟩, st.1.at fun o q => (sb.2 it h3.symm).trans q, h3⟩, fun b hb => ?_⟩
    · rw [show (c + ((i + 1 : Nat) : Int)) = c + (i : Int) + 1 by omega]
      exact he'
    · have lb : b < s.heap.objs.size := by
        rcases (show b = e ∨ b = it by simpa using hb) with rfl | rfl
        · exact le
        · exact li
      rw [upd_ne (Nat.ne_of_lt lb)]
      exact (ff b hb).1
  done := by
    rintro X rfl rfl rfl cm i pins s σ H E I ff ⟨⟨old, h1⟩, h2, h3⟩ ⟨ys, h4, h5⟩
    obtain ⟨us, rv, pl, hz⟩ := I.tuple h4
    obtain ⟨f0, f1, f2, f3, f4, f5⟩ := ff it (by simp)
    have na : a ≠ it := fun z => by
      obtain ⟨o, q, q2, _⟩ := h2
      obtain ⟨o3, q3, q4, _⟩ := pl
      rw [← z, q3] at q
      cases q
      rw [q4] at q2
      injection q2 with q2
      exact absurd q2 (by decide)
    have hl := rv.length
    have hn : us.toArray.size = i := by
      rw [List.size_toArray]
      omega
    have h2' : s.heap.IsTupleIter it a us.toArray.size := by
      rw [hn]
      exact h2
    exact wpAny_pyNext_enum_endD (Draws.tuple (A := X.A.in1) (I.ok.hd cm) it a na us.toArray) h1 ⟨h2', pl⟩ fun h' eb => ⟨rfl, I.turned (t' := s.toks) (fun b o hb q => eb b o hb q) f0 f1 f3 f4 f5⟩
  self := by
    rintro A i s Q E ⟨⟨old, h1⟩, _⟩ h
    exact wpAny_pyIter_enum h1 h

/-! ### enumerate(v), enumerate(v, start=k): how the walk begins -/
set_option maxHeartbeats 1000000 in
theorem meets_en1 {v : Value} {o : Obj} {Hh : Heap → Prop} (B : Begins v o Hh) :
    Meets (Builtin.«enumerate.__new__» ⟨[.type "enumerate", v], []⟩) (fun _ R z => Hh z.heap ∧
      R (.ok (.ret (.ref (z.heap.push o).objs.size))) { z with heap := (z.heap.push o).push { cls := .type "enumerate", data := .fields #[.none, .bool false, .ref z.heap.objs.size, rawInt 0, .none, .none] } }) := by
  refine .of_wp fun pg wo Ar R z hz => ?_
  obtain ⟨hp, g, d, tk, os⟩ := z
  obtain ⟨h1, h⟩ := hz
  have hsub := sub_enumerate
  have begin1 : ∀ {A' : Around} {E' : Value → Shared → Prop} {Q' : Value → Shared → Prop}, Q' (.ref hp.objs.size) ⟨hp.push o, g, d, tk, os⟩ → wpAny (model pg wo) A' (pyIter v) Q' E' ⟨hp, g, d, tk, os⟩ :=
    fun q => B.iter pg wo _ _ ⟨hp, g, d, tk, os⟩ _ h1 q
  wp_walk using begin1
  refine wpAny_stack_any fun stk => wpAny_pure ?_
  split
  · rename_i c _ _ _ _ _
    cases hc : (c == Value.type "enumerate") <;> (wp_walk using begin1; exact ⟨_, rfl, h⟩)
  · wp_walk using begin1
    exact ⟨_, rfl, h⟩
section
variable {pg : Program} {wo : World} {Ar : Around} {Ex : Value → Shared → Prop} {sh : Shared}
theorem en1_begins {v : Value} {o : Obj} {Hh : Heap → Prop} {Q : Value → Shared → Prop} (B : Begins v o Hh) (h1 : Hh sh.heap)
    (h : ∀ h', IsEnum h' (sh.heap.objs.size + 1) sh.heap.objs.size 0 .none → h'.get? sh.heap.objs.size = some o → (∀ b u, sh.heap.get? b = some u → h'.get? b = some u) → Q (.ref (sh.heap.objs.size + 1)) { sh with heap := h' }) :
    wpAny (model pg wo) Ar (call (.type "enumerate") [v]) Q Ex sh := by
  refine callType_new F.called_enumerate (by decide) (F.typeCall_enumerate_1 _) (F.newCall_enumerate_1 _) (fun obj => F.args_object_init_2 obj _) F.entry_enumerate_new (meets_en1 B) ⟨h1, ?_⟩
  have sz : (sh.heap.push o).objs.size = sh.heap.objs.size + 1 := Heap.size_push ..
  show _ ∧ _
  rw [sz]
  have ie : IsEnum ((sh.heap.push o).push { cls := .type "enumerate", data := .fields #[.none, .bool false, .ref sh.heap.objs.size, rawInt 0, .none, .none] }) (sh.heap.objs.size + 1) sh.heap.objs.size 0 .none := by
    have q := Heap.get?_push_size (sh.heap.push o) (o := { cls := .type "enumerate", data := .fields #[.none, .bool false, .ref sh.heap.objs.size, rawInt 0, .none, .none] }) rfl
    rw [sz] at q
    exact q
  exact ⟨⟨_, ie, rfl⟩, h _ ie (Heap.get?_push_of_some _ (Heap.get?_push_size _ B.free)) fun b u x => Heap.get?_push_of_some _ (Heap.get?_push_of_some _ x)⟩
end

/-- a row at a, list or tuple -/
def SqR (K : PySem.W.Frag) (H : Hp) (a : Addr) (xs : List V) : Prop := SqL K H a xs ∨ SqT K H a xs
theorem SqR.same {K : PySem.W.Frag} {H H' : Hp} {a : Addr} {xs : List V} (e : Same H H') (h : SqR K H a xs) : SqR K H' a xs := by
  rcases h with h | h
  · exact .inl (e.seq h)
  · exact .inr (Same.tupq e h)
/-- enumerate of a list or a tuple, counted from c: as one iterator -/
def ItrC (K : PySem.W.Frag) (a : Addr) (c : Int) (tup : Bool) : It := if tup = true then ItuC K a c else IteC K a c
def iEnC (K : PySem.W.Frag) (ta : TA) : TI := fun σ H R => ta σ H fun vs H1 => ∃ a xs, vs = [.ref a] ∧ SqR K H1 a xs ∧ ∀ b, (b = true → SqT K H1 a xs) → (b = false → SqL K H1 a xs) → R (ItrC K a 0 b) H1
def iEnK (K : PySem.W.Frag) (ta tk : TA) : TI := fun σ H R => ta σ H fun vs H1 => tk σ H1 fun zs H2 => ∃ a c xs, vs = [.ref a] ∧ zs = [.int c] ∧ (-(2 ^ 63) ≤ c ∧ c < 2 ^ 63) ∧ SqR K H2 a xs ∧ ∀ b, (b = true → SqT K H2 a xs) → (b = false → SqL K H2 a xs) → R (ItrC K a c b) H2
section
variable {X : Cx} {pins : List (Addr × Obj)} {σ : L2.St} {H : Hp} {s : Shared} {R : It → Hp → Prop} {es : List Expr} {kx : Nat} {tp : Pos}
theorem en_pie {a : Addr} {c : Int} {b : Bool} {h' : Heap} (I : Inv X pins σ H s) (hne : a < s.heap.objs.size)
    (he : IsEnum h' (s.heap.objs.size + 1) s.heap.objs.size c .none) (hi : if b = true then h'.IsTupleIter s.heap.objs.size a 0 else h'.IsListIter s.heap.objs.size a 0) (hk : ∀ z u, s.heap.get? z = some u → h'.get? z = some u)
    (q : R (ItrC X.K a c b) H) : wpAny (model X.prog X.w) X.A (pyIter (.ref (s.heap.objs.size + 1))) (PIE X pins σ (.Tuple es kx tp) R) X.xe { s with heap := h' } := by
  refine wpAny_pyIter_enum he ?_
  have I2 : Inv X pins σ H { s with heap := h' } := I.kept (t' := s.toks) hk
  have fp : ∀ z ∈ [s.heap.objs.size + 1, s.heap.objs.size], FpOk X pins H z := fun z hz => by
    have le : s.heap.objs.size ≤ z := by
      rcases (show z = s.heap.objs.size + 1 ∨ z = s.heap.objs.size by simpa using hz) with r | r <;> omega
    exact I.fpOk le (I.hok.fresh le)
  have he0 : IsEnum h' (s.heap.objs.size + 1) s.heap.objs.size (c + ((0 : Nat) : Int)) .none := by
    rw [show c + ((0 : Nat) : Int) = c by omega]
    exact he
  cases b with
  | true => exact ⟨s.heap.objs.size + 1, [s.heap.objs.size + 1, s.heap.objs.size], _, ItuC X.K a c, H, rfl, I2, turn_enT a _ _ c, ⟨⟨.none, he0⟩, hi, Nat.succ_ne_self _⟩, fp, q⟩
  | false => exact ⟨s.heap.objs.size + 1, [s.heap.objs.size + 1, s.heap.objs.size], _, IteC X.K a c, H, rfl, I2, turn_enC a _ _ c, ⟨⟨.none, he0⟩, hi, Nat.succ_ne_self _⟩, fp, q⟩
theorem pi_en {e : Expr} {ta : TA} {p pos : Pos} (hg : Gl X "enumerate") (hm : X.mg "enumerate" = none) (ha : PA X [e] ta) (hs : starEach [e] X.env = [(false, eval e X.env)] := by rfl) :
    PI X (.Tuple es kx tp) (.Call (.Name "enumerate" p) [e] [] pos) (iEnC X.K ta) := by
  refine ⟨fun pins s σ H R I h => Call_ (ld_blt I hg hm boot_enumerate (PyProof.Rows.callWith_type1 (thn (ha.run pos pins s σ H _ I h) fun us s1 hh => ?_) hs rfl))⟩
  obtain ⟨vs, H1, I1, rv, a, xs, rfl, hr, q⟩ := hh
  rw [Vals.ref1 rv]
  rcases hr with hr | hr
  · obtain ⟨its, _, pl, _⟩ := I1.list hr
    have lt : a < s1.heap.objs.size := by obtain ⟨_, z, _⟩ := pl.isList; exact Heap.lt_size z
    exact en1_begins (begins_list a its.toArray) pl.isList fun h' he hi hk => en_pie (b := false) I1 lt he ⟨_, hi, rfl, rfl⟩ hk (q false (fun z => nomatch z) fun _ => hr)
  · obtain ⟨its, _, pl, _⟩ := I1.tuple hr
    have lt : a < s1.heap.objs.size := by obtain ⟨_, z, _⟩ := pl; exact Heap.lt_size z
    exact en1_begins (begins_tuple a its.toArray) pl fun h' he hi hk => en_pie (b := true) I1 lt he ⟨_, hi, rfl, rfl⟩ hk (q true (fun _ => hr) fun z => nomatch z)
theorem pi_enK {e : Expr} {ta tk : TA} {p pos : Pos} {kws : List Keyword} (hg : Gl X "enumerate") (hm : X.mg "enumerate" = none) (ha : PA X [e] ta) (hk : PK X kws tk) (hks : (backToKw pos (keywordEach kws X.env)).filterMap (·.1) = [Str.ofString "start"] := by rfl)
    (e1 : backTo pos (starEach [e] X.env) = (false, eval e X.env) :: backTo pos (starEach [] X.env) := by rfl) (e2 : (backTo pos (starEach [e] X.env)).any (·.1) = false := by rfl)
    (e3 : (backToKw pos (keywordEach kws X.env)).all (·.1.isSome) = true := by rfl) (e4 : (backToKw pos (keywordEach kws X.env)).any (·.1.isNone) = false := by rfl) :
    PI X (.Tuple es kx tp) (.Call (.Name "enumerate" p) [e] kws pos) (iEnK X.K ta tk) := by
  refine ⟨fun pins s σ H R I h => wpAny_Call_Name_kw (ld_blt I hg hm boot_enumerate (tyCall_kw (thn (ha.run pos pins s σ H _ I h) fun us s1 ⟨vs, H1, I1, r1, q1⟩ => thn (hk.run pos pins s1 σ H1 _ I1 q1) fun ws s2 hh => ?_) e1 e2 e3 e4))⟩
  obtain ⟨zs, H2, I2, r2, a, c, xs, rfl, rfl, hc, hr, q⟩ := hh
  rw [hks, Vals.ref1 r1]
  cases r2 with
  | cons r rr =>
    cases rr
    obtain ⟨t, rfl⟩ := r
    show wpAny _ _ (call (.type "enumerate") [.ref a] [(Str.ofString "start", .int c t)]) _ _ _
    rcases hr with hr | hr
    · obtain ⟨its, _, pl, _⟩ := I2.list hr
      have lt : a < s2.heap.objs.size := by obtain ⟨_, z, _⟩ := pl.isList; exact Heap.lt_size z
      exact enum_begins_start (begins_list a its.toArray) pl.isList hc.1 hc.2 fun h' he hi _ hk => en_pie (b := false) I2 lt he ⟨_, hi, rfl, rfl⟩ hk (q false (fun z => nomatch z) fun _ => hr)
    · obtain ⟨its, _, pl, _⟩ := I2.tuple hr
      have lt : a < s2.heap.objs.size := by obtain ⟨_, z, _⟩ := pl; exact Heap.lt_size z
      exact enum_begins_start (begins_tuple a its.toArray) pl hc.1 hc.2 fun h' he hi _ hk => en_pie (b := true) I2 lt he ⟨_, hi, rfl, rfl⟩ hk (q true (fun _ => hr) fun z => nomatch z)
end
theorem walk_enC {K : PySem.W.Frag} {a : Addr} {xs : List V} {c : Int} {b : Bool} : Walk (ItrC K a c b) xs.length (fun H => if b = true then SqT K H a xs else SqL K H a xs) (YPair (fun i => some (.int (c + (i : Nat)))) (fun i => xs[i]?)) := by
  cases b with
  | true =>
    refine ⟨fun i _ hi q => ⟨xs, xs[i], q, by simp [hi]⟩, fun _ q => ⟨xs, q, rfl⟩, fun i H v H' _ q y => ?_⟩
    obtain ⟨T, x, y1, y2, y3, y4⟩ := y
    exact ⟨T, .int (c + (i : Nat)), x, y1, y2, y3, rfl, y4 xs q⟩
  | false =>
    refine ⟨fun i _ hi q => ⟨xs, xs[i], q, by simp [hi]⟩, fun _ q => ⟨xs, q, rfl⟩, fun i H v H' _ q y => ?_⟩
    obtain ⟨T, x, y1, y2, y3, y4⟩ := y
    exact ⟨T, .int (c + (i : Nat)), x, y1, y2, y3, rfl, y4 xs q⟩

/-! ### sum of a row -/
def rSumR (K : PySem.W.Frag) : List V → Hp → VK → Prop := fun vs H Q => ∃ (a : Addr) (ns : List Int), vs = [V.ref a] ∧ SqR K H a (ns.map V.int) ∧ Q (.int ns.sum) H
section
variable {X : Cx}
theorem tup_sum {pg : Program} {wo : World} {Ar : Around} {Ex : Value → Shared → Prop} {sh : Shared} {l : Addr} {its : List Value} {ns : List Int} {Q : Value → Shared → Prop} (hh : Ar.handled = none) (hl : sh.heap.IsTuple l its.toArray) (hi : IntsAre its ns)
    (h : ∀ h' tk t', (∀ b o, sh.heap.get? b = some o → h'.get? b = some o) → Q (.int ns.sum t') { sh with heap := h', toks := tk }) : wpAny (model pg wo) Ar (call (.builtin "sum") [.ref l]) Q Ex sh := by
  obtain ⟨xs, e⟩ := hi.allInts.items
  have hn : numsOf (intItems xs).toList = ns := by
    rw [← e]
    exact hi.numsOf
  rw [nums_intItems] at hn
  rw [e] at hl
  have lt : l < sh.heap.objs.size := by obtain ⟨_, z, _⟩ := hl; exact Heap.lt_size z
  refine call_sum_walkG (wpAny_pyIter_tuple hl ?_)
  have t1 : (sh.heap.push { cls := .type "tuple_iterator", data := .fields #[.ref l, .int 0 0] }).IsTupleIter sh.heap.objs.size l 0 := ⟨_, Heap.get?_push_size _ rfl, rfl, rfl⟩
  refine ⟨_, [_, l], [_], _, _, _, numAt xs, rfl, Walks.tuple (A := Ar.in1) hh _ l (Nat.ne_of_lt lt) (intItems xs), ⟨t1, hl.push _⟩, fun b hb => ?_, fun _ _ => intItems_at, fun h' tk t' hk => ?_⟩
  · show b < (sh.heap.push _).objs.size
    rw [Heap.size_push]
    rcases (show b = sh.heap.objs.size ∨ b = l by simpa using hb) with r | r
    · rw [r]; exact Nat.lt_succ_self _
    · rw [r]; exact Nat.lt_succ_of_lt lt
  · have kept : ∀ b o, sh.heap.get? b = some o → h'.get? b = some o := fun b o q => by
      refine hk b o (fun m => ?_) (Heap.get?_push_of_some _ q)
      have z : b = sh.heap.objs.size := by simpa using m
      exact absurd (z ▸ Heap.lt_size q) (Nat.lt_irrefl _)
    have fin := h h' tk t' kept
    rw [preSum_eq]
    have e3 : (intItems xs).size = xs.size := by simp [intItems]
    rw [e3, List.take_of_length_le (by simp), hn]
    exact fin
theorem cr_sumR (cm : X.calm = true) : CallR X (.builtin "sum") (rSumR X.K) := by
  rintro pins s σ H vs us Q I r ⟨a, ns, rfl, hs, q⟩
  rw [Vals.ref1 r]
  rcases hs with hs | hs
  · obtain ⟨its, rv, hl, _⟩ := I.list hs
    exact sum_raw (I.ok.hd cm) hl.isList rv.ints fun h' tk t' hk => ⟨.int _, H, I.kept hk, ⟨_, rfl⟩, q⟩
  · obtain ⟨its, rv, hl, _⟩ := I.tuple hs
    exact tup_sum (I.ok.hd cm) hl rv.ints fun h' tk t' hk => ⟨.int _, H, I.kept hk, ⟨_, rfl⟩, q⟩
end
end Tw
/-! TwO: methods and makings by name; rows; the law's state of draws; what is told of a stream, in the heap. -/
namespace Tw
open PySem PySem.Spec PyProof.Rows L2 Sb

/-- no built-in's name is the module's own -/
structure Bt (mg : Str → Option Value) : Prop where
  n_isinstance : mg "isinstance" = none
  n_int : mg "int" = none
  n_bool : mg "bool" = none
  n_str : mg "str" = none
  n_list : mg "list" = none
  n_tuple : mg "tuple" = none
  n_len : mg "len" = none
  n_all : mg "all" = none
  n_sum : mg "sum" = none
  n_range : mg "range" = none
  n_zip : mg "zip" = none
  n_enumerate : mg "enumerate" = none
def NoB (K : PySem.W.Frag) : Prop := ∀ x ∈ (["isinstance", "int", "bool", "str", "list", "tuple", "len", "all", "sum", "range", "zip", "enumerate"] : List Str), PySem.W.nsIn K mainGlobals x = some none
theorem bt_mk {K : PySem.W.Frag} {h : Heap} {mg : Str → Option Value} (X : K.In h) (G : h.Ns mainGlobals mg) (n : NoB K) : Bt mg := by
  constructor <;> exact PySem.W.mg_none_of X G (n _ (by simp))

/-! ### methods -/
def MethIn (K : PySem.W.Frag) (C : Addr) (m q : Str) (st : Stmt) : Prop := ∃ (f : Addr) (oc : Value) (od an : Option Addr) (osl : Array (Option Value)) (kV dc pm cd ct : Value),
  PySem.W.findIn K (.ref C) m = some (some (.ref f)) ∧ PySem.W.isFn K (.ref f) = true ∧ K.lookup f = some ⟨oc, od, .func (PySem.W.fnOf m q (defArgs st) (defBody st) (defScope st) .none kV dc pm an cd ct), osl⟩ ∧ PySem.W.codeIn K cd q = true ∧ PySem.W.keepIn K (.ref f) = true
section
variable {P : Program} {w : World} {K : PySem.W.Frag} {mg : Str → Option Value} {base : Heap} {C : Addr} {m q : Str} {st : Stmt} {ps : List Str} {k : Nat} {sp : Sp}
theorem methIn_mk {f : Addr} {oc : Value} {od an : Option Addr} {osl : Array (Option Value)} {kV dc pm cd ct : Value} (a : PySem.W.findIn K (.ref C) m = some (some (.ref f))) (i : PySem.W.isFn K (.ref f) = true)
    (l : K.lookup f = some ⟨oc, od, .func (PySem.W.fnOf m q (defArgs st) (defBody st) (defScope st) .none kV dc pm an cd ct), osl⟩) (c : PySem.W.codeIn K cd q = true) (kp : PySem.W.keepIn K (.ref f) = true) : MethIn K C m q st := ⟨f, oc, od, an, osl, kV, dc, pm, cd, ct, a, i, l, c, kp⟩
structure MCal (P : Program) (w : World) (K : PySem.W.Frag) (mg : Str → Option Value) (base : Heap) (C : Addr) (k : Nat) (m : Str) (ps : List Str) (sp : Sp) : Prop where
  ex : ∃ (f : Addr) (fd : FuncData), Meth K C m f ∧ FnOk P w K mg base CX0 k f fd ps sp ∧ Binds K fd ps []
theorem mcal_mk (D : MethIn K C m q st) (b : ∀ (kV doc pm : Value) (an : Option Addr) (cdv ct : Value) (us : List Value), us.length = ps.length → bindArgs (PySem.W.fnOf m q (defArgs st) (defBody st) (defScope st) .none kV doc pm an cdv ct) ⟨us, []⟩ = pure (ps.zip us))
    (ok : ∀ (f : Addr) (fd : FuncData), Fun K m q st f fd → FnOk P w K mg base CX0 k f fd ps sp) : MCal P w K mg base C k m ps sp := by
  obtain ⟨f, oc, od, an, osl, kV, dc, pm, cd, ct, a, i, l, c, kp⟩ := D
  have F := fun_mk (st := st) l c kp
  exact ⟨f, _, ⟨a, i, kp⟩, ok f _ F, F.binds b⟩
/-- C(), C's __init__ with self alone -/
structure MkC (P : Program) (w : World) (K : PySem.W.Frag) (mg : Str → Option Value) (base : Heap) (C : Addr) (k : Nat) (x : Str) (sp : Sp) : Prop where
  ex : ∃ (f : Addr) (fd : FuncData), Mk K C f ∧ FnOk P w K mg base CX0 k f fd ["self"] sp ∧ Binds K fd ["self"] []
  gC : mg x = some (.ref C)
theorem mkC_mk {h : Heap} {x : Str} (X : K.In h) (G : h.Ns mainGlobals mg) (g : PySem.W.nsIn K mainGlobals x = some (some (.ref C))) (D : MethIn K C "__init__" q st) (mk : PySem.W.makesIn K C = true) (kc : PySem.W.keepIn K (.ref C) = true)
    (b : ∀ (kV doc pm : Value) (an : Option Addr) (cdv ct : Value) (us : List Value), us.length = (["self"] : List Str).length → bindArgs (PySem.W.fnOf "__init__" q (defArgs st) (defBody st) (defScope st) .none kV doc pm an cdv ct) ⟨us, []⟩ = pure ((["self"] : List Str).zip us))
    (ok : ∀ (f : Addr) (fd : FuncData), Fun K "__init__" q st f fd → FnOk P w K mg base CX0 k f fd ["self"] sp) : MkC P w K mg base C k x sp := by
  obtain ⟨f, oc, od, an, osl, kV, dc, pm, cd, ct, a, i, l, c, kp⟩ := D
  have F := fun_mk (st := st) l c kp
  exact ⟨⟨f, _, ⟨mk, a, i, kc⟩, ok f _ F, F.binds b⟩, PySem.W.mg_of X G g⟩
end
section
variable {X : Cx} {j k : Nat} {C : Addr} {m x : Str} {ps : List Str} {sp : Sp} {o e : Expr} {es : List Expr} {to : TE} {t : TA} {pos apos p : Pos}
theorem pe_mcal {pl : Sem Bool} (M : MCal X.prog X.w X.K X.mg X.base C k m ps sp) (c : Cls X.K C) (hr : Room j X.A) (hk : k ≤ j) (ho : PE X o to) (ha : PA X (e :: es) t)
    (hst : starEach (e :: es) X.env = (false, eval e X.env) :: starEach es X.env := by rfl) (hpl : (backTo pos (starEach es X.env)).any (·.1) = false := by rfl)
    (ht : eval (.Call (.Attribute o m apos) (e :: es) [] pos) X.env = (do
      let ov ← eval o X.env
      standAt apos.atName
      let (f, first) ← holding [ov] (getMethod ov m pl)
      callWith pos f first (backTo pos (starEach (e :: es) X.env)) (backToKw pos (keywordEach [] X.env))) := by rfl) : PE X (.Call (.Attribute o m apos) (e :: es) [] pos) (tMeth C m sp [] E0 to t) := by
  obtain ⟨f, fd, hm, F, b⟩ := M.ex
  exact pe_meth ho c hm F (hr.mono hk) b .nil pass0 ha hst hpl ht
theorem pe_mcal0 {pl : Sem Bool} (M : MCal X.prog X.w X.K X.mg X.base C k m ps sp) (c : Cls X.K C) (hr : Room j X.A) (hk : k ≤ j) (ho : PE X o to)
    (ht : eval (.Call (.Attribute o m apos) [] [] pos) X.env = (do
      let ov ← eval o X.env
      standAt apos.atName
      let (f, first) ← holding [ov] (getMethod ov m pl)
      callWith pos f first (backTo pos (starEach [] X.env)) (backToKw pos (keywordEach [] X.env))) := by rfl) : PE X (.Call (.Attribute o m apos) [] [] pos) (tMeth C m sp [] E0 to tNil) := by
  obtain ⟨f, fd, hm, F, b⟩ := M.ex
  exact pe_meth0 ho c hm F (hr.mono hk) b .nil pass0 ht
theorem pe_mk0 (M : MkC X.prog X.w X.K X.mg X.base C k x sp) (hr : Room j X.A) (hk : k + 1 ≤ j) (hg : Gl X x) (hdb : (x == ("__debug__" : Str)) = false := by decide) : PE X (.Call (.Name x p) [] [] pos) (tMake C sp [] E0 tNil) := by
  obtain ⟨f, fd, hm, F, b⟩ := M.ex
  exact pe_make0 hm F (hr.mono hk) hg M.gC b .nil pass0 hdb
/-- either of two readings of what is walked -/
theorem pi_or {tg l : Expr} {a b : TI} (ha : PI X tg l a) (hb : PI X tg l b) : PI X tg l (fun σ H R => a σ H R ∨ b σ H R) := ⟨fun pins s σ H R I h => h.elim (ha.run pins s σ H R I) (hb.run pins s σ H R I)⟩
theorem pe_or2 {l : Expr} {a b : TE} (ha : PE X l a) (hb : PE X l b) : PE X l (fun σ H Q => a σ H Q ∨ b σ H Q) := ⟨fun pins s σ H Q I h => h.elim (ha.run pins s σ H Q I) (hb.run pins s σ H Q I)⟩
end

/-! ### rows -/
abbrev iV (xs : List Int) : List V := xs.map V.int
/-- the row at a -/
def Rw (H : Hp) (a : Addr) (xs : List V) : Prop := H a = some (.lst xs) ∨ H a = some (.tup xs)
theorem Rw.sq {K : PySem.W.Frag} {H : Hp} {a : Addr} {xs : List V} (h : Rw H a xs) : SqR K H a xs := h.elim (fun h => .inl (SqL.of h)) (fun h => .inr (SqT.of h))
theorem Rw.same {H H' : Hp} {a : Addr} {xs : List V} (h : Rw H a xs) (s : Same H H') : Rw H' a xs := h.elim (fun h => .inl (s _ _ h)) (fun h => .inr (s _ _ h))
theorem iV_len (xs : List Int) : (iV xs).length = xs.length := by simp
theorem iV_at {xs : List Int} {i : Nat} {v : V} (h : (iV xs)[i]? = some v) : ∃ b, xs[i]? = some b ∧ v = .int b := by
  rw [List.getElem?_map] at h
  cases e : xs[i]? with
  | none => rw [e] at h; cases h
  | some b => rw [e] at h; cases h; exact ⟨b, rfl, rfl⟩
theorem iV_atI {xs : List Int} {i : Nat} {b : Int} (h : xs[i]? = some b) : atI (iV xs) (i : Int) = some (.int b) := atI_nat (by rw [List.getElem?_map, h]; rfl)
theorem iV_append (xs ys : List Int) : iV (xs ++ ys) = iV xs ++ iV ys := List.map_append
theorem dp_ints {K : PySem.W.Frag} {H : Hp} : ∀ xs : List Int, DpAll K H (iV xs) (xs.map PyData.int)
  | [] => .nil
  | x :: r => .cons (.int x) (dp_ints r)
theorem lay_ints : ∀ xs : List Int, PyData.canLayAll0 (xs.map PyData.int) = true
  | [] => rfl
  | x :: r => by
    show (true && PyData.canLayAll0 (r.map PyData.int)) = true
    rw [lay_ints r]
    rfl
theorem dep_ints : ∀ xs : List Int, PyData.depthAll (xs.map PyData.int) = 0
  | [] => rfl
  | x :: r => by
    show max 0 (PyData.depthAll (r.map PyData.int)) = 0
    rw [dep_ints r]
    rfl
theorem sh_ints (xs : List Int) : SeqAt.shaped (.list (xs.map PyData.int)) = true := by
  unfold SeqAt.shaped
  rw [Bool.and_eq_true]
  refine ⟨lay_ints xs, decide_eq_true ?_⟩
  show PyData.depthAll _ + 1 ≤ 64
  rw [dep_ints]
  decide
theorem eqv_ints : ∀ xs ys : List Int, PyData.eqv (.list (xs.map PyData.int)) (.list (ys.map PyData.int)) = decide (xs = ys) := by
  have go : ∀ xs ys : List Int, PyData.eqvAll (xs.map PyData.int) (ys.map PyData.int) = decide (xs = ys) := by
    intro xs
    induction xs with
    | nil =>
      intro ys
      cases ys with
      | nil => rfl
      | cons y r => simp [PyData.eqvAll]
    | cons x r ih =>
      intro ys
      cases ys with
      | nil => simp [PyData.eqvAll]
      | cons y t =>
        simp only [List.map_cons, PyData.eqvAll, ih]
        by_cases e : x = y
        · subst e
          simp [PyData.eqv]
        · simp [PyData.eqv, e]
  intro xs ys
  have e := go xs ys
  simpa only [PyData.eqv] using e
theorem dpL {K : PySem.W.Frag} {H : Hp} {a : Addr} {xs : List Int} (h : H a = some (.lst (iV xs))) : Dp K H (.ref a) (.list (xs.map PyData.int)) := .lst (SqL.of h) (dp_ints xs)

/-! ### the law's state: a list of the numbers that are left, and three numbers -/
structure IsSt (H : Hp) (a b : Addr) : Prop where
  ne : a ≠ b
  ex : ∃ (ns : List Int) (x y z : Int), H a = some (.lst [.ref b, .int x, .int y, .int z]) ∧ H b = some (.lst (iV ns))
/-- all but the state stays -/
structure Fs (a b : Addr) (H H' : Hp) : Prop where
  keep : ∀ c o, c ≠ a → c ≠ b → H c = some o → H' c = some o
  st : IsSt H' a b
theorem IsSt.same {H H' : Hp} {a b : Addr} (h : IsSt H a b) (s : Same H H') : IsSt H' a b := by
  obtain ⟨ne, ns, x, y, z, e, f⟩ := h
  exact ⟨ne, ns, x, y, z, s _ _ e, s _ _ f⟩
theorem Fs.refl {H : Hp} {a b : Addr} (h : IsSt H a b) : Fs a b H H := ⟨fun _ _ _ _ e => e, h⟩
theorem Fs.trans {a b : Addr} {H H1 H2 : Hp} (f : Fs a b H H1) (g : Fs a b H1 H2) : Fs a b H H2 := ⟨fun c o n m e => g.keep c o n m (f.keep c o n m e), g.st⟩
theorem Fs.same {a b : Addr} {H H1 H2 : Hp} (f : Fs a b H H1) (g : Same H1 H2) : Fs a b H H2 := ⟨fun c o n m e => g c o (f.keep c o n m e), f.st.same g⟩
theorem Fs.of_same {a b : Addr} {H H1 : Hp} (h : IsSt H a b) (g : Same H H1) : Fs a b H H1 := (Fs.refl h).same g
theorem IsSt.na {H : Hp} {a b p : Addr} (h : IsSt H a b) (e : H p = none) : p ≠ a ∧ p ≠ b := by
  obtain ⟨_, _, _, _, _, e1, e2⟩ := h
  constructor
  · intro q
    rw [q, e1] at e
    cases e
  · intro q
    rw [q, e2] at e
    cases e
theorem Fs.free {a b p : Addr} {H H' : Hp} (f : Fs a b H H') (h : IsSt H a b) (e : H' p = none) : H p = none := by
  obtain ⟨n1, n2⟩ := f.st.na e
  cases q : H p with
  | none => rfl
  | some o =>
    rw [f.keep p o n1 n2 q] at e
    cases e
/-- a new thing at p, written later -/
theorem Fs.upd {a b p : Addr} {H H' : Hp} {o : HO} (f : Fs a b H H') (n1 : p ≠ a) (n2 : p ≠ b) (hp : H p = none) : Fs a b H (upd H' p o) := by
  obtain ⟨k, ne, ns, x, y, z, e1, e2⟩ := f
  refine ⟨fun c u m1 m2 e => ?_, ne, ns, x, y, z, ?_, ?_⟩
  · rw [upd_ne (ne_of_none e hp)]
    exact k c u m1 m2 e
  · rw [upd_ne n1.symm]
    exact e1
  · rw [upd_ne n2.symm]
    exact e2
/-- the draw's promise: any number below many -/
def spTake : Sp := fun vs H Q _ => ∃ (a b : Addr) (m : Int), vs = [.ref a, .int m] ∧ IsSt H a b ∧ 0 < m ∧ m < 1180591620717411303424 ∧ ∀ (r : Int) (H' : Hp), 0 ≤ r → r < m → Fs a b H H' → Q (.int r) H'

theorem Fs.kp {a b p : Addr} {H H1 H2 : Hp} {o : HO} (f : Fs a b H1 H2) (h : IsSt H a b) (hp : H p = none) (e : H1 p = some o) : H2 p = some o := f.keep p o (h.na hp).1 (h.na hp).2 e
/-- a list of bytes, new behind H -/
structure Nw (H H' : Hp) (r : Addr) (xs : List Int) : Prop where
  new : H r = none
  at_ : H' r = some (.lst (iV xs))
theorem Nw.st {a b r : Addr} {H H1 H2 : Hp} {xs : List Int} (n : Nw H H1 r xs) (h : IsSt H a b) (f : Fs a b H1 H2) : Nw H H2 r xs := ⟨n.new, f.kp h n.new n.at_⟩
theorem Nw.same {r : Addr} {H H1 H2 : Hp} {xs : List Int} (n : Nw H H1 r xs) (s : Same H1 H2) : Nw H H2 r xs := ⟨n.new, s _ _ n.at_⟩
/-- a function of the state alone that tells a new list of bytes, of at most N -/
def spGen (N : Nat) : Sp := fun vs H Q _ => ∃ (a b : Addr), vs = [.ref a] ∧ IsSt H a b ∧ ∀ (H' : Hp) (r : Addr) (xs : List Int), Fs a b H H' → Nw H H' r xs → By xs → xs.length ≤ N → Q (.ref r) H'
theorem rep_one {α : Type} (n : Nat) (x : α) : (List.replicate n [x]).flatten = List.replicate n x := by
  induction n with
  | zero => rfl
  | succ n ih => rw [List.replicate_succ, List.flatten_cons, ih, List.replicate_succ]; rfl
theorem iV_rep (n : Nat) (x : Int) : iV (List.replicate n x) = List.replicate n (V.int x) := List.map_replicate

/-! ### what is told -/
/-- t stands at v, all of it new behind H0 -/
def TlAt (H0 H : Hp) : Tell → V → Prop
  | .part pl bs, v => ∃ a l, v = .ref a ∧ H a = some (.tup [.str "part", .int (pl : Nat), .ref l]) ∧ H l = some (.lst (iV bs)) ∧ H0 a = none ∧ H0 l = none
  | .torn pl n, v => ∃ a, v = .ref a ∧ H a = some (.tup [.str "torn", .int (pl : Nat), .int (n : Nat)]) ∧ H0 a = none
abbrev Tls (H0 H : Hp) (ts : List Tell) (vs : List V) : Prop := Paired (TlAt H0 H) ts vs
theorem TlAt.keep {H0 H H' : Hp} {t : Tell} {v : V} (h : TlAt H0 H t v) (k : ∀ b o, H0 b = none → H b = some o → H' b = some o) : TlAt H0 H' t v := by
  cases t with
  | part pl bs =>
    obtain ⟨a, l, e, h1, h2, h3, h4⟩ := h
    exact ⟨a, l, e, k _ _ h3 h1, k _ _ h4 h2, h3, h4⟩
  | torn pl n =>
    obtain ⟨a, e, h1, h2⟩ := h
    exact ⟨a, e, k _ _ h2 h1, h2⟩
theorem TlAt.old {H0 H1 H : Hp} {t : Tell} {v : V} (h : TlAt H1 H t v) (k : ∀ b, H1 b = none → H0 b = none) : TlAt H0 H t v := by
  cases t with
  | part pl bs =>
    obtain ⟨a, l, e, h1, h2, h3, h4⟩ := h
    exact ⟨a, l, e, h1, h2, k _ h3, k _ h4⟩
  | torn pl n =>
    obtain ⟨a, e, h1, h2⟩ := h
    exact ⟨a, e, h1, k _ h2⟩
theorem pd_mono {α β : Type} {F G : α → β → Prop} (i : ∀ a b, F a b → G a b) : ∀ {xs : List α} {ys : List β}, Paired F xs ys → Paired G xs ys
  | _, _, .nil => .nil
  | _, _, .cons h t => .cons (i _ _ h) (pd_mono i t)
theorem pd_append {α β : Type} {F : α → β → Prop} : ∀ {xs zs : List α} {ys ws : List β}, Paired F xs ys → Paired F zs ws → Paired F (xs ++ zs) (ys ++ ws)
  | _, _, _, _, .nil, t => t
  | _, _, _, _, .cons h r, t => .cons h (pd_append r t)
theorem Tls.keep {H0 H H' : Hp} {ts : List Tell} {vs : List V} (h : Tls H0 H ts vs) (k : ∀ b o, H0 b = none → H b = some o → H' b = some o) : Tls H0 H' ts vs := pd_mono (fun _ _ q => q.keep k) h
theorem Tls.same {H0 H H' : Hp} {ts : List Tell} {vs : List V} (h : Tls H0 H ts vs) (s : Same H H') : Tls H0 H' ts vs := h.keep fun b o _ e => s b o e
theorem Tls.old {H0 H1 H : Hp} {ts : List Tell} {vs : List V} (h : Tls H1 H ts vs) (k : ∀ b, H1 b = none → H0 b = none) : Tls H0 H ts vs := pd_mono (fun _ _ q => q.old k) h
/-- .. as data -/
def Tell.pd : Tell → PyData
  | .part pl bs => .tuple [.str "part", .int (pl : Nat), .list (bs.map PyData.int)]
  | .torn pl n => .tuple [.str "torn", .int (pl : Nat), .int (n : Nat)]
theorem TlAt.dp {K : PySem.W.Frag} {H0 H : Hp} {t : Tell} {v : V} (h : TlAt H0 H t v) : Dp K H v (Tell.pd t) := by
  cases t with
  | part pl bs =>
    obtain ⟨a, l, e, h1, h2, _⟩ := h
    rw [e]
    exact .tup (SqT.of h1) (.cons (.str _) (.cons (.int _) (.cons (dpL h2) .nil)))
  | torn pl n =>
    obtain ⟨a, e, h1, _⟩ := h
    rw [e]
    exact .tup (SqT.of h1) (.cons (.str _) (.cons (.int _) (.cons (.int _) .nil)))
theorem Tls.dp {K : PySem.W.Frag} {H0 H : Hp} : ∀ {ts : List Tell} {vs : List V}, Tls H0 H ts vs → DpAll K H vs (ts.map Tell.pd)
  | _, _, .nil => .nil
  | _, _, .cons h t => .cons h.dp (Tls.dp t)
theorem tell_lay (t : Tell) : PyData.canLay0 (Tell.pd t) = true ∧ PyData.depth (Tell.pd t) ≤ 2 := by
  cases t with
  | part pl bs =>
    constructor
    · show (PyData.strOk "part" && (true && (PyData.canLayAll0 (bs.map PyData.int) && true))) = true
      rw [lay_ints, show PyData.strOk ("part" : Str) = true from by decide +kernel]
      rfl
    · show max 0 (max 0 (max (PyData.depthAll (bs.map PyData.int) + 1) 0)) + 1 ≤ 2
      rw [dep_ints]
      decide
  | torn pl n =>
    constructor
    · show (PyData.strOk "torn" && (true && (true && true))) = true
      rw [show PyData.strOk ("torn" : Str) = true from by decide +kernel]
      rfl
    · show max 0 (max 0 (max 0 0)) + 1 ≤ 2
      decide
theorem sh_tells (ts : List Tell) : SeqAt.shaped (.list (ts.map Tell.pd)) = true := by
  have h : PyData.canLayAll0 (ts.map Tell.pd) = true ∧ PyData.depthAll (ts.map Tell.pd) ≤ 2 := by
    induction ts with
    | nil => exact ⟨rfl, by decide⟩
    | cons t r ih =>
      obtain ⟨h1, h2⟩ := tell_lay t
      constructor
      · show (PyData.canLay0 (Tell.pd t) && PyData.canLayAll0 (r.map Tell.pd)) = true
        rw [h1, ih.1]
        rfl
      · show max (PyData.depth (Tell.pd t)) (PyData.depthAll (r.map Tell.pd)) ≤ 2
        have := ih.2
        omega
  unfold SeqAt.shaped
  rw [Bool.and_eq_true]
  refine ⟨h.1, decide_eq_true ?_⟩
  have := h.2
  show PyData.depthAll _ + 1 ≤ 64
  omega
end Tw
namespace K11
open PySem PySem.Spec PyProof.Rows L2 Tw
def topS (i : Nat) : Stmt := PySem.Challenge.pw_thingwires_k11_nodes_and_cases.main.body.getD i (.Pass ⟨0, 0, 0, 0⟩)
abbrev s__law_well : Stmt := topS 4
abbrev N__law_well : List Str := ["_law_cell"]
theorem sc__law_well : FnScope N__law_well ["_law_cell"] (defScope s__law_well) := ⟨rfl, rfl, rfl, by decide +kernel, rfl, by decide +kernel, by decide +kernel⟩
abbrev s__law_draw : Stmt := topS 5
abbrev N__law_draw : List Str := ["_law_well_here", "_law_many", "_law_digit", "_law_prime", "_law_number"]
theorem sc__law_draw : FnScope N__law_draw ["_law_well_here", "_law_many"] (defScope s__law_draw) := ⟨rfl, rfl, rfl, by decide +kernel, rfl, by decide +kernel, by decide +kernel⟩
abbrev s__law_one : Stmt := topS 6
abbrev N__law_one : List Str := ["_law_well_here", "_law_some"]
theorem sc__law_one : FnScope N__law_one ["_law_well_here", "_law_some"] (defScope s__law_one) := ⟨rfl, rfl, rfl, by decide +kernel, rfl, by decide +kernel, by decide +kernel⟩
abbrev s__law_text : Stmt := topS 7
abbrev N__law_text : List Str := ["_law_well_here", "_law_least", "_law_most", "_law_letters", "_law_k"]
theorem sc__law_text : FnScope N__law_text ["_law_well_here", "_law_least", "_law_most"] (defScope s__law_text) := ⟨rfl, rfl, rfl, by decide +kernel, rfl, by decide +kernel, by decide +kernel⟩
abbrev s__law_thing : Stmt := topS 8
abbrev N__law_thing : List Str := ["_law_well_here", "_law_nodes", "_law_way", "_law_number"]
theorem sc__law_thing : FnScope N__law_thing ["_law_well_here", "_law_nodes"] (defScope s__law_thing) := ⟨rfl, rfl, rfl, by decide +kernel, rfl, by decide +kernel, by decide +kernel⟩
abbrev s__law_alike : Stmt := topS 9
abbrev N__law_alike : List Str := ["_law_found", "_law_due"]
theorem sc__law_alike : FnScope N__law_alike ["_law_found", "_law_due"] (defScope s__law_alike) := ⟨rfl, rfl, rfl, by decide +kernel, rfl, by decide +kernel, by decide +kernel⟩
abbrev s__law_right : Stmt := topS 10
abbrev N__law_right : List Str := ["_law_node", "_law_sort", "_law_due", "_law_called"]
theorem sc__law_right : FnScope N__law_right ["_law_node", "_law_sort", "_law_due"] (defScope s__law_right) := ⟨rfl, rfl, rfl, by decide +kernel, rfl, by decide +kernel, by decide +kernel⟩
abbrev s__law_made : Stmt := topS 11
abbrev N__law_made : List Str := ["_law_way", "_law_sort", "_law_due", "_law_handed", "_law_node", "_law_at", "_law_called"]
theorem sc__law_made : FnScope N__law_made ["_law_way", "_law_sort", "_law_due"] (defScope s__law_made) := ⟨rfl, rfl, rfl, by decide +kernel, rfl, by decide +kernel, by decide +kernel⟩
abbrev s__law_cases_right : Stmt := topS 12
abbrev N__law_cases_right : List Str := ["_law_well_here", "_law_text_here", "_law_what", "_law_some", "_law_one_here"]
theorem sc__law_cases_right : FnScope N__law_cases_right ["_law_well_here"] (defScope s__law_cases_right) := ⟨rfl, rfl, rfl, by decide +kernel, rfl, by decide +kernel, by decide +kernel⟩
abbrev s_law : Stmt := topS 13
abbrev N_law : List Str := ["_law_script", "_law_cell", "_law_well_here", "_law_ways", "_law_blanks", "_law_nodes", "_law_dues", "_law_sorts", "_law_way", "_law_names", "_law_due", "_law_k", "_law_at", "_law_called", "_law_what", "_law_node", "_law_sort"]
theorem sc_law : FnScope N_law ["_law_script"] (defScope s_law) := ⟨rfl, rfl, rfl, by decide +kernel, rfl, by decide +kernel, by decide +kernel⟩
abbrev s_Node___init__ : Stmt := inClass (topS 1) 0
abbrev N_Node___init__ : List Str := ["self", "kind", "fields"]
theorem sc_Node___init__ : FnScope N_Node___init__ ["self", "kind", "fields"] (defScope s_Node___init__) := ⟨rfl, rfl, rfl, by decide +kernel, rfl, by decide +kernel, by decide +kernel⟩
abbrev s_Node_put : Stmt := inClass (topS 1) 1
abbrev N_Node_put : List Str := ["self", "name", "thing"]
theorem sc_Node_put : FnScope N_Node_put ["self", "name", "thing"] (defScope s_Node_put) := ⟨rfl, rfl, rfl, by decide +kernel, rfl, by decide +kernel, by decide +kernel⟩
abbrev s_Case___init__ : Stmt := inClass (topS 2) 0
abbrev N_Case___init__ : List Str := ["self", "word", "content"]
theorem sc_Case___init__ : FnScope N_Case___init__ ["self", "word", "content"] (defScope s_Case___init__) := ⟨rfl, rfl, rfl, by decide +kernel, rfl, by decide +kernel, by decide +kernel⟩
abbrev s_Case___eq__ : Stmt := inClass (topS 2) 1
abbrev N_Case___eq__ : List Str := ["self", "other"]
theorem sc_Case___eq__ : FnScope N_Case___eq__ ["self", "other"] (defScope s_Case___eq__) := ⟨rfl, rfl, rfl, by decide +kernel, rfl, by decide +kernel, by decide +kernel⟩
end K11
/-! TwP: what the streams' defs promise. -/
namespace Tw
open PySem PySem.Spec PyProof.Rows L2 Sb
theorem TyX.same {K : PySem.W.Frag} {H H' : Hp} {v : V} {t : Value} (s : Same H H') (h : TyX K H v t) : TyX K H' v t := by
  cases h with
  | base b =>
    refine .base ?_
    cases b with
    | non => exact .non
    | bl y => exact .bl y
    | int i => exact .int i
    | str y => exact .str y
    | flt y => exact .flt y
    | lst e => exact .lst (s _ _ e)
    | frz e => exact .frz (s _ _ e)
    | tup e => exact .tup (s _ _ e)
    | dK e => exact .dK (s _ _ e)
    | dT e => exact .dT (s _ _ e)
    | ins e c h1 h2 h3 h4 => exact .ins (s _ _ e) c h1 h2 h3 h4
  | byt b => exact .byt b
  | set e => exact .set (s _ _ e)
  | kList e c => exact .kList e c
  | kTuple e c => exact .kTuple e c
  | kDict e c => exact .kDict e c
  | fTuple e => exact .fTuple (s _ _ e)
  | fDict e => exact .fDict (s _ _ e)
theorem Rw.ty {K : PySem.W.Frag} {H : Hp} {a : Addr} {xs : List V} (h : Rw H a xs) : ∃ t, TyX K H (.ref a) t ∧ PySem.W.kitAny K t [.type "list", .type "tuple"] = some true := by
  rcases h with h | h
  · exact ⟨.type "list", .base (.lst h), kitAny_cons (b := true) (kit_ty (by decide +kernel)) (fun z => nomatch z) fun _ => rfl⟩
  · exact ⟨.type "tuple", .base (.tup h), kitAny_cons (b := false) (kit_ty (by decide +kernel)) (fun _ => kitAny_cons (b := true) (kit_ty (by decide +kernel)) (fun z => nomatch z) fun _ => rfl) fun z => nomatch z⟩
/-- a module's number -/
abbrev Gi (mg : Str → Option Value) (x : Str) (n : Int) : Prop := ∃ u, mg x = some u ∧ RelV (.int n) u
abbrev big : Nat := 4000000
def spWhole (K : PySem.W.Frag) : Sp := fun vs H Q _ => ∃ (v : V) (t : Value) (b1 b2 : Bool), vs = [v] ∧ TyX K H v t ∧ PySem.W.kitOne K t (.type "int") = some b1 ∧ (b1 = true → PySem.W.kitOne K t (.type "bool") = some b2) ∧ Q (.bl (b1 && !b2)) H
def spRow (K : PySem.W.Frag) : Sp := fun vs H Q _ => ∃ (v : V) (t : Value) (b : Bool), vs = [v] ∧ TyX K H v t ∧ PySem.W.kitAny K t [.type "list", .type "tuple"] = some b ∧ ∀ H', Same H H' → Q (.bl b) H'
/-- rows of bytes are asked of alone -/
def spBytes : Sp := fun vs H Q _ => ∃ (a : Addr) (ns : List Int), vs = [.ref a] ∧ Rw H a (iV ns) ∧ By ns ∧ ns.length ≤ big ∧ ∀ H', Same H H' → Q (.bl true) H'
def spRefuse : Sp := fun vs H Q _ => ∃ (a : Addr) (ns : List Int), vs = [.ref a] ∧ Rw H a (iV ns) ∧ By ns ∧ ns.length ≤ big ∧ ∀ H', Same H H' → Q .non H'
def spZeros : Sp := fun vs H Q _ => ∃ (a : Addr) (ns : List Int), vs = [.ref a] ∧ Rw H a (iV ns) ∧ ns.length ≤ big ∧ ∀ (H' : Hp) (p : Addr), Same H H' → H p = none → H' p = some (.lst ((zs 0 ns).map fun (i : Nat) => V.int i)) → Q (.ref p) H'
def spCheck : Sp := fun vs H Q _ => ∃ (a : Addr) (ns : List Int), vs = [.ref a] ∧ Rw H a (iV ns) ∧ By ns ∧ ns.length ≤ big ∧ ∀ (H' : Hp) (p : Addr), Same H H' → H p = none → H' p = some (.lst (iV (check ns))) → Q (.ref p) H'
def optL (H0 H : Hp) : Option (List Int) → V → Prop
  | none, v => v = .non
  | some w, v => ∃ p, v = .ref p ∧ H0 p = none ∧ H p = some (.lst (iV w))
/-- runs undone, of pieces without zeros -/
def spWithZ : Sp := fun vs H Q _ => ∃ (a : Addr) (ns : List Int), vs = [.ref a] ∧ H a = some (.lst (iV ns)) ∧ By ns ∧ NZ ns ∧ ns.length ≤ big ∧ ∀ (H' : Hp) (v : V), Same H H' → optL H H' (unrun ns) v → Q v H'
def spRead : Sp := fun vs H Q _ => ∃ (a : Addr) (pl : Nat) (ns : List Int), vs = [.int (pl : Nat), .ref a] ∧ H a = some (.lst (iV ns)) ∧ By ns ∧ NZ ns ∧ ns.length ≤ big ∧ ∀ (H' : Hp) (v : V), Same H H' → TlAt H H' (tell pl ns) v → Q v H'

/-! ### cuts by natural places -/
theorem sIx_natV (n d k : Nat) : HT.sIx n d (some (k : Int)) = min k n := HT.sIx_nat n d k
theorem cut_nn (xs : List V) (i j : Nat) : cutV xs (some (i : Int)) (some (j : Int)) = (xs.drop i).take (j - i) := by
  unfold cutV
  rw [sIx_natV, sIx_natV]
  by_cases h : i ≤ xs.length
  · rw [Nat.min_eq_left h]
    by_cases h2 : j ≤ xs.length
    · rw [Nat.min_eq_left h2]
    · rw [Nat.min_eq_right (show xs.length ≤ j by omega), List.take_of_length_le (by rw [List.length_drop]; omega), List.take_of_length_le (by rw [List.length_drop]; omega)]
  · rw [Nat.min_eq_right (show xs.length ≤ i by omega), List.drop_of_length_le (Nat.le_refl _), List.drop_of_length_le (show xs.length ≤ i by omega)]
    simp
theorem cut_n0 (xs : List V) (i : Nat) : cutV xs (some (i : Int)) none = xs.drop i := by
  unfold cutV
  rw [sIx_natV, show HT.sIx xs.length xs.length none = xs.length from HT.sIx_none _ _]
  by_cases h : i ≤ xs.length
  · rw [Nat.min_eq_left h, List.take_of_length_le (by rw [List.length_drop]; omega)]
  · rw [Nat.min_eq_right (show xs.length ≤ i by omega), List.drop_of_length_le (Nat.le_refl _), List.drop_of_length_le (show xs.length ≤ i by omega)]
    simp
theorem cut_0n (xs : List V) (j : Nat) : cutV xs none (some (j : Int)) = xs.take j := by
  unfold cutV
  rw [sIx_natV, show HT.sIx xs.length 0 none = 0 from HT.sIx_none _ _, List.drop_zero, Nat.sub_zero]
  by_cases h : j ≤ xs.length
  · rw [Nat.min_eq_left h]
  · rw [Nat.min_eq_right (show xs.length ≤ j by omega), List.take_of_length_le (Nat.le_refl _), List.take_of_length_le (show xs.length ≤ j by omega)]
/-- a negative place, counted from the end -/
theorem sIx_neg (n d k : Nat) (h0 : 1 ≤ k) (hk : k ≤ n) : HT.sIx n d (some (-(k : Int))) = n - k := by
  unfold HT.sIx
  simp only
  split <;> omega
theorem cut_0m (xs : List V) (k : Nat) (h0 : 1 ≤ k) (hk : k ≤ xs.length) : cutV xs none (some (-(k : Int))) = xs.take (xs.length - k) := by
  unfold cutV
  rw [sIx_neg _ _ _ h0 hk, show HT.sIx xs.length 0 none = 0 from HT.sIx_none _ _, List.drop_zero, Nat.sub_zero]
theorem cut_m0 (xs : List V) (k : Nat) (h0 : 1 ≤ k) (hk : k ≤ xs.length) : cutV xs (some (-(k : Int))) none = xs.drop (xs.length - k) := by
  unfold cutV
  rw [sIx_neg _ _ _ h0 hk, show HT.sIx xs.length xs.length none = xs.length from HT.sIx_none _ _, List.take_of_length_le (by rw [List.length_drop]; omega)]
theorem iV_take (xs : List Int) (n : Nat) : iV (xs.take n) = (iV xs).take n := List.map_take
theorem iV_drop (xs : List Int) (n : Nat) : iV (xs.drop n) = (iV xs).drop n := List.map_drop
theorem iV_snoc (xs : List Int) (b : Int) : iV (xs ++ [b]) = iV xs ++ [V.int b] := iV_append xs [b]
theorem iteNF {c A B : Prop} [Decidable c] (hc : ¬ c) (h : A) : if (!decide c) = true then A else B := by
  rw [decide_eq_false hc]
  exact iteT h

/-! ### the feeder -/
theorem rest_place : ¬ (("rest" : Str) = "place") := by decide +kernel
theorem place_rest : ¬ (("place" : Str) = "rest") := by decide +kernel
abbrev fdF (l : Addr) (n : Int) : List (Str × V) := [("rest", .ref l), ("place", .int n)]
theorem fd_init (l : Addr) (n : Int) : putF "place" (.int n) (putF "rest" (.ref l) []) = fdF l n := by
  show (if ("rest" : Str) = "place" then _ else (("rest" : Str), V.ref l) :: putF "place" (.int n) []) = _
  rw [if_neg rest_place]
  rfl
theorem fd_rest (l m : Addr) (n : Int) : putF "rest" (.ref m) (fdF l n) = fdF m n := by
  show (if ("rest" : Str) = "rest" then (("rest" : Str), V.ref m) :: [(("place" : Str), V.int n)] else _) = _
  rw [if_pos rfl]
theorem fd_place (l : Addr) (n k : Int) : putF "place" (.int k) (fdF l n) = fdF l k := by
  show (if ("rest" : Str) = "place" then _ else (("rest" : Str), V.ref l) :: (if ("place" : Str) = "place" then [(("place" : Str), V.int k)] else _)) = _
  rw [if_neg rest_place, if_pos rfl]
theorem fd_get_rest (l : Addr) (n : Int) : (fdF l n).lookup ("rest" : Str) = some (.ref l) := by simp [fdF, List.lookup]
theorem fd_get_place (l : Addr) (n : Int) : (fdF l n).lookup ("place" : Str) = some (.int n) := by
  have e : (("place" : Str) == ("rest" : Str)) = false := by decide +kernel
  simp [fdF, List.lookup, e]
theorem fd_no (l : Addr) (n : Int) {m : Str} (h1 : (m == ("rest" : Str)) = false) (h2 : (m == ("place" : Str)) = false) : (fdF l n).lookup m = none := by simp [fdF, List.lookup, h1, h2]
/-- a feeder at p that holds rest, in the list at l, from the place pl on -/
def FdAt (C : Addr) (H : Hp) (p l : Addr) (rest : List Int) (pl : Nat) : Prop := ∃ dx, H p = some (.ins C dx (fdF l (pl : Nat))) ∧ H l = some (.lst (iV rest))
structure ClF (K : PySem.W.Frag) (C : Addr) : Prop where
  cl : Cls K C
  nR : NoAttr K C "rest"
  nP : NoAttr K C "place"
theorem FdAt.ne {C : Addr} {H : Hp} {p l : Addr} {r : List Int} {n : Nat} (h : FdAt C H p l r n) : p ≠ l := by
  obtain ⟨dx, h1, h2⟩ := h
  exact ne_of h1 h2 (by intro z; cases z)
theorem FdAt.keep {C : Addr} {H H' : Hp} {p l : Addr} {r : List Int} {n : Nat} (h : FdAt C H p l r n) (s : Same H H') : FdAt C H' p l r n := by
  obtain ⟨dx, h1, h2⟩ := h
  exact ⟨dx, s _ _ h1, s _ _ h2⟩
/-- all but two places stay -/
def But (p l : Addr) (H H' : Hp) : Prop := ∀ b o, b ≠ p → b ≠ l → H b = some o → H' b = some o
theorem But.refl {p l : Addr} {H : Hp} : But p l H H := fun _ _ _ _ e => e
theorem But.trans {p l : Addr} {H H1 H2 : Hp} (h : But p l H H1) (k : But p l H1 H2) : But p l H H2 := fun b o n m e => k b o n m (h b o n m e)
theorem But.same {p l : Addr} {H H1 H2 : Hp} (h : But p l H H1) (k : Same H1 H2) : But p l H H2 := fun b o n m e => k b o (h b o n m e)
def spFInit (C : Addr) : Sp := fun vs H Q _ => ∃ (p dx : Addr), vs = [.ref p] ∧ H p = some (.ins C dx []) ∧ ∀ (H' : Hp) (l : Addr), (∀ b o, b ≠ p → H b = some o → H' b = some o) → H l = none → FdAt C H' p l [] 0 → Q .non H'
def spFDone (C : Addr) : Sp := fun vs H Q _ => ∃ (p l : Addr) (rest : List Int) (pl : Nat), vs = [.ref p] ∧ FdAt C H p l rest pl ∧ rest.length ≤ big ∧
  ∀ (H' : Hp) (l' r : Addr) (ws : List V), (∀ b o, b ≠ p → H b = some o → H' b = some o) → H l' = none → FdAt C H' p l' [] 0 → H r = none → r ≠ l' → H' r = some (.lst ws) → Tls (upd H r (.lst [])) H' (rests rest pl) ws → Q (.ref r) H'
def spFFeed (C : Addr) : Sp := fun vs H Q _ => ∃ (p d l : Addr) (rest xs : List Int) (pl : Nat), vs = [.ref p, .ref d] ∧ FdAt C H p l rest pl ∧ H d = some (.lst (iV xs)) ∧ d ≠ l ∧ By rest ∧ NZ rest ∧ By xs ∧ rest.length + xs.length ≤ big ∧
  ∀ (H' : Hp) (l' r : Addr) (ws : List V), But p l H H' → FdAt C H' p l' (goes rest pl xs).2.1 (goes rest pl xs).2.2 → (l' = l ∨ H l' = none) → H r = none → r ≠ l' → H' r = some (.lst ws) → Tls (upd H r (.lst [])) H' (goes rest pl xs).1 ws → Q (.ref r) H'
def spUnst : Sp := fun vs H Q _ => ∃ (d : Addr) (xs : List Int), vs = [.ref d] ∧ H d = some (.lst (iV xs)) ∧ By xs ∧ xs.length ≤ big ∧ ∀ (H' : Hp) (r : Addr) (ws : List V), Same H H' → H r = none → H' r = some (.lst ws) → Tls (upd H r (.lst [])) H' (unstr xs) ws → Q (.ref r) H'
theorem Tls.more {H0 H : Hp} {x : Addr} {o : HO} (hx : H x = none) : ∀ {ts : List Tell} {ws : List V}, Tls H0 H ts ws → Tls (upd H0 x o) H ts ws := by
  have go : ∀ (t : Tell) (v : V), TlAt H0 H t v → TlAt (upd H0 x o) H t v := by
    intro t v h
    cases t with
    | part pl bs =>
      obtain ⟨a, l, e, h1, h2, h3, h4⟩ := h
      exact ⟨a, l, e, h1, h2, by rw [upd_ne (ne_of_none h1 hx)]; exact h3, by rw [upd_ne (ne_of_none h2 hx)]; exact h4⟩
    | torn pl n =>
      obtain ⟨a, e, h1, h2⟩ := h
      exact ⟨a, e, h1, by rw [upd_ne (ne_of_none h1 hx)]; exact h2⟩
  intro ts ws h
  exact pd_mono go h
theorem upd_none {H0 : Hp} {x b : Addr} {o : HO} (h : upd H0 x o b = none) : b ≠ x ∧ H0 b = none := by
  have n : b ≠ x := fun z => by rw [z, upd_same] at h; cases h
  rw [upd_ne n] at h
  exact ⟨n, h⟩
theorem none_upd {H0 : Hp} {x b : Addr} {o : HO} (n : b ≠ x) (h : H0 b = none) : upd H0 x o b = none := by
  rw [upd_ne n]
  exact h
theorem pd_len {α β : Type} {F : α → β → Prop} : ∀ {xs : List α} {ys : List β}, Paired F xs ys → xs.length = ys.length
  | _, _, .nil => rfl
  | _, _, .cons _ t => by rw [List.length_cons, List.length_cons, pd_len t]
theorem seq0 {α : Type} {x : α} {xs : List α} (f : α → V) : seqIndex? 0 ((x :: xs).map f).length = some 0 := by
  rw [List.length_map, List.length_cons]
  unfold seqIndex?
  simp
theorem iV_at0 {xs : List Int} {i : Nat} {b : Int} (h : xs[i]? = some b) : atI (iV xs) (0 + (i : Int)) = some (.int b) := by
  rw [show (0 : Int) + (i : Int) = (i : Int) by omega]
  exact iV_atI h
theorem cutB {xs : List Int} (h : By xs) (lo hi : Option Int) : ∃ ys, cutV (iV xs) lo hi = iV ys ∧ By ys ∧ ys.length ≤ xs.length := by
  refine ⟨(xs.drop (HT.sIx (iV xs).length 0 lo)).take (HT.sIx (iV xs).length (iV xs).length hi - HT.sIx (iV xs).length 0 lo), ?_, (h.drop _).take _, ?_⟩
  · unfold cutV
    rw [iV_take, iV_drop]
  · rw [List.length_take, List.length_drop]
    omega
/-- the check of a list -/
def spCheckL : Sp := fun vs H Q _ => ∃ (a : Addr) (ns : List Int), vs = [.ref a] ∧ H a = some (.lst (iV ns)) ∧ By ns ∧ ns.length ≤ big ∧ ∀ (H' : Hp) (p : Addr), Same H H' → Nw H H' p (check ns) → Q (.ref p) H'
/-- some new list of bytes, of at most twice as many and two -/
def spRunsL : Sp := fun vs H Q _ => ∃ (a : Addr) (ns : List Int), vs = [.ref a] ∧ H a = some (.lst (iV ns)) ∧ By ns ∧ ns.length ≤ 100000 ∧ ∀ (H' : Hp) (p : Addr) (xs : List Int), Same H H' → Nw H H' p xs → By xs → xs.length ≤ 2 * ns.length + 1 → Q (.ref p) H'
/-- what the law undoes -/
def spUndoneL : Sp := fun vs H Q _ => ∃ (a : Addr) (ns : List Int), vs = [.ref a] ∧ H a = some (.lst (iV ns)) ∧ By ns ∧ NZ ns ∧ ns.length ≤ big ∧ ∀ (H' : Hp) (v : V), Same H H' → optL H H' (unrun ns) v → Q v H'
theorem ixN_at {v : Int} {n : Nat} (h0 : 0 ≤ v) (h : v.toNat < n) : ixN n v = some v.toNat := by
  unfold ixN
  rw [if_pos h0, if_pos (by omega)]
theorem By.set {xs : List Int} (h : By xs) (i : Nat) {y : Int} (h0 : 0 ≤ y) (h1 : y ≤ 255) : By (xs.set i y) := fun b hb => by
  rcases List.mem_or_eq_of_mem_set hb with q | q
  · exact h b q
  · rw [q]
    exact ⟨h0, h1⟩
theorem iV_set (xs : List Int) (i : Nat) (y : Int) : (iV xs).set i (.int y) = iV (xs.set i y) := List.map_set.symm
/-- what the law tells of a piece -/
def spToldL : Sp := fun vs H Q _ => ∃ (a : Addr) (pl : Nat) (en : Bool) (ns : List Int), vs = [.ref a, .int (pl : Nat), .bl en] ∧ H a = some (.lst (iV ns)) ∧ By ns ∧ NZ ns ∧ ns.length ≤ big ∧ ∀ (H' : Hp) (v : V), Same H H' → TlAt H H' (if en = true then tell pl ns else .torn pl ns.length) v → Q v H'
/-- what is due of a stream -/
def spDueL : Sp := fun vs H Q _ => ∃ (d : Addr) (xs : List Int), vs = [.ref d] ∧ H d = some (.lst (iV xs)) ∧ By xs ∧ xs.length ≤ big ∧ ∀ (H' : Hp) (r : Addr) (ws : List V), Same H H' → H r = none → H' r = some (.lst ws) → Tls H H' (unstr xs) ws → Q (.ref r) H'
theorem pd_at {α β : Type} {F : α → β → Prop} : ∀ {xs : List α} {ys : List β} {i : Nat} {y : β}, Paired F xs ys → ys[i]? = some y → ∃ x, xs[i]? = some x ∧ F x y
  | _, _, 0, _, .cons h _, e => by
    cases e
    exact ⟨_, rfl, h⟩
  | _, _, i + 1, _, .cons _ t, e => by
    obtain ⟨x, h1, h2⟩ := pd_at (i := i) t (by simpa using e)
    exact ⟨x, by simpa using h1, h2⟩
theorem cutI (xs : List Int) (lo hi : Option Int) : ∃ ys, cutV (iV xs) lo hi = iV ys ∧ ys.length ≤ xs.length := by
  refine ⟨(xs.drop (HT.sIx (iV xs).length 0 lo)).take (HT.sIx (iV xs).length (iV xs).length hi - HT.sIx (iV xs).length 0 lo), ?_, ?_⟩
  · unfold cutV
    rw [iV_take, iV_drop]
  · rw [List.length_take, List.length_drop]
    omega
theorem eqv_int_refl (xs : List Int) : PyData.eqv (.list (xs.map PyData.int)) (.list (xs.map PyData.int)) = true := by
  rw [eqv_ints]
  exact decide_eq_true rfl
theorem tell_refl (t : Tell) : PyData.eqv (Tell.pd t) (Tell.pd t) = true := by
  cases t with
  | part pl bs =>
    have e := eqv_int_refl bs
    simp only [Tell.pd, PyData.eqv, PyData.eqvAll] at e ⊢
    simp [e]
  | torn pl n => simp [Tell.pd, PyData.eqv, PyData.eqvAll]
theorem tells_refl (ts : List Tell) : PyData.eqv (.list (ts.map Tell.pd)) (.list (ts.map Tell.pd)) = true := by
  have go : ∀ ts : List Tell, PyData.eqvAll (ts.map Tell.pd) (ts.map Tell.pd) = true := by
    intro ts
    induction ts with
    | nil => rfl
    | cons t r ih =>
      simp only [List.map_cons, PyData.eqvAll, tell_refl t, ih, Bool.and_self]
  have e := go ts
  simpa only [PyData.eqv] using e
def spLaw (K : PySem.W.Frag) : Sp := fun vs H Q _ => ∃ (a : Addr) (ns : List Int), vs = [.ref a] ∧ SqL K H a (ns.map V.int) ∧ ns.length ≤ 63 ∧ ∀ H', Q (.bl true) H'
/-- the facts of a class at C with __init__, as the top left it -/
structure ClIn (K : PySem.W.Frag) (C : Addr) (x : Str) : Prop where
  g : PySem.W.nsIn K mainGlobals x = some (some (.ref C))
  pg : PySem.W.plainGet K C Str.empty = true
  hd : PySem.W.hasDictIn K C = true
  po : PySem.W.plainOver K C = true
  sa : PySem.W.findIn K (.ref C) "__setattr__" = some (some (.builtin "object.__setattr__"))
  mks : PySem.W.makesIn K C = true
  kc : PySem.W.keepIn K (.ref C) = true
theorem ClIn.cls {K : PySem.W.Frag} {C : Addr} {x : Str} (c : ClIn K C x) : Cls K C := ⟨c.pg, c.hd, c.po, c.sa⟩
theorem gi_mk {K : PySem.W.Frag} {h : Heap} {mg : Str → Option Value} {x : Str} {n : Int} {t : Tok} (X : K.In h) (G : h.Ns mainGlobals mg) (g : PySem.W.nsIn K mainGlobals x = some (some (.int n t))) : Gi mg x n := ⟨_, PySem.W.mg_of X G g, _, rfl⟩
/-! ### list(x), tuple(x), in comprehensions too -/
def rListOf (K : PySem.W.Frag) : List V → Hp → VK → Prop := fun xs H Q => ∃ p ys, xs = [.ref p] ∧ (SqL K H p ys ∨ SqT K H p ys) ∧ ∀ l, H l = none → Q (.ref l) (upd H l (.lst ys))
def rTupOf (K : PySem.W.Frag) : List V → Hp → VK → Prop := fun xs H Q => ∃ p ys, xs = [.ref p] ∧ ((SqL K H p ys ∧ ∀ l, H l = none → Q (.ref l) (upd H l (.tup ys))) ∨ (SqT K H p ys ∧ Q (.ref p) H))
theorem cr_listK {X : Cx} : CallR X (.type "list") (rListOf X.K) := call_list_of
theorem cr_tupK {X : Cx} : CallR X (.type "tuple") (rTupOf X.K) := call_tuple_of
end Tw
/-! Sw: how a part is written, and that it is read back. -/
namespace Sb
/-- a stretch without zeros in runs -/
def encS (last : Bool) (seg : List Int) : List Int :=
  if 254 < seg.length ∨ (seg.length = 254 ∧ last = false) then 255 :: (seg.take 254 ++ encS last (seg.drop 254)) else (((seg.length : Nat) : Int) + 1) :: seg
termination_by seg.length
decreasing_by
  rw [List.length_drop]
  omega
theorem encS_full {last : Bool} {seg : List Int} (h : 254 < seg.length ∨ (seg.length = 254 ∧ last = false)) : encS last seg = 255 :: (seg.take 254 ++ encS last (seg.drop 254)) := by
  rw [encS, if_pos h]
theorem encS_end {last : Bool} {seg : List Int} (h : ¬ (254 < seg.length ∨ (seg.length = 254 ∧ last = false))) : encS last seg = (((seg.length : Nat) : Int) + 1) :: seg := by
  rw [encS, if_neg h]
theorem encS_ne (last : Bool) (seg : List Int) : encS last seg ≠ [] := by
  rw [encS]
  split <;> simp
/-- behind the stretch seg -/
def enc (seg : List Int) : List Int → List Int
  | [] => encS true seg
  | b :: r => if b = 0 then encS false seg ++ enc [] r else enc (seg ++ [b]) r
theorem enc_ne (seg xs : List Int) : enc seg xs ≠ [] := by
  cases xs with
  | nil => exact encS_ne _ _
  | cons b r =>
    by_cases h : b = 0
    · simp only [enc, if_pos h]
      intro e
      exact encS_ne _ _ (List.append_eq_nil_iff.mp e).1
    · simp only [enc, if_neg h]
      exact enc_ne (seg ++ [b]) r
theorem enc_nz {seg : List Int} (pre : List Int) (h : NZ seg) (r : List Int) : enc pre (seg ++ 0 :: r) = encS false (pre ++ seg) ++ enc [] r := by
  induction seg generalizing pre with
  | nil => simp [enc]
  | cons b t ih =>
    have hb : b ≠ 0 := h b (List.mem_cons_self ..)
    simp only [List.cons_append, enc, if_neg hb]
    rw [ih _ fun c hc => h c (List.mem_cons_of_mem _ hc)]
    simp
theorem enc_end {seg : List Int} (pre : List Int) (h : NZ seg) : enc pre seg = encS true (pre ++ seg) := by
  induction seg generalizing pre with
  | nil => simp [enc]
  | cons b t ih =>
    have hb : b ≠ 0 := h b (List.mem_cons_self ..)
    simp only [enc, if_neg hb]
    rw [ih _ fun c hc => h c (List.mem_cons_of_mem _ hc)]
    simp
theorem encS_len (last : Bool) (seg : List Int) : (encS last seg).length ≤ seg.length + seg.length / 254 + 1 := by
  rw [encS]
  split
  · rename_i h
    have l := encS_len last (seg.drop 254)
    rw [List.length_cons, List.length_append, List.length_take]
    rw [List.length_drop] at l
    omega
  · rw [List.length_cons]
    omega
termination_by seg.length
decreasing_by
  rw [List.length_drop]
  omega
theorem enc_len (seg xs : List Int) : (enc seg xs).length ≤ 2 * (seg.length + xs.length) + 1 := by
  induction xs generalizing seg with
  | nil =>
    have := encS_len true seg
    simp only [enc]
    have e : ([] : List Int).length = 0 := rfl
    omega
  | cons b r ih =>
    by_cases h : b = 0
    · simp only [enc, if_pos h, List.length_append, List.length_cons]
      have := encS_len false seg
      have := ih []
      have e : ([] : List Int).length = 0 := rfl
      omega
    · simp only [enc, if_neg h, List.length_cons]
      have := ih (seg ++ [b])
      rw [List.length_append] at this
      have e : [b].length = 1 := rfl
      omega
/-- bytes, none of them 0 -/
def Ps (xs : List Int) : Prop := ∀ b ∈ xs, 1 ≤ b ∧ b ≤ 255
theorem Ps.by {xs : List Int} (h : Ps xs) : By xs := fun b hb => by
  have := h b hb
  omega
theorem Ps.nz {xs : List Int} (h : Ps xs) : NZ xs := fun b hb => by
  have := h b hb
  omega
theorem Ps.of {xs : List Int} (h : By xs) (k : NZ xs) : Ps xs := fun b hb => by
  have := h b hb
  have := k b hb
  omega
theorem Ps.append {xs ys : List Int} (h : Ps xs) (k : Ps ys) : Ps (xs ++ ys) := fun b hb => (List.mem_append.mp hb).elim (h b) (k b)
theorem Ps.cons {x : Int} {xs : List Int} (h0 : 1 ≤ x ∧ x ≤ 255) (k : Ps xs) : Ps (x :: xs) := fun b hb => by
  rcases List.mem_cons.mp hb with rfl | h
  · exact h0
  · exact k b h
theorem Ps.take {xs : List Int} (h : Ps xs) (n : Nat) : Ps (xs.take n) := fun b hb => h b (List.mem_of_mem_take hb)
theorem Ps.drop {xs : List Int} (h : Ps xs) (n : Nat) : Ps (xs.drop n) := fun b hb => h b (List.mem_of_mem_drop hb)
theorem Ps.nil : Ps [] := fun _ h => by cases h
theorem encS_ps {last : Bool} {seg : List Int} (h : Ps seg) : Ps (encS last seg) := by
  rw [encS]
  split
  · exact .cons ⟨by decide, by decide⟩ ((h.take _).append (encS_ps (h.drop _)))
  · rename_i k
    exact .cons ⟨by omega, by omega⟩ h
termination_by seg.length
decreasing_by
  rw [List.length_drop]
  omega
theorem enc_ps {seg xs : List Int} (h : Ps seg) (k : By xs) : Ps (enc seg xs) := by
  induction xs generalizing seg with
  | nil => exact encS_ps h
  | cons b r ih =>
    have hb := k b (List.mem_cons_self ..)
    have hr : By r := fun c hc => k c (List.mem_cons_of_mem _ hc)
    by_cases e : b = 0
    · simp only [enc, if_pos e]
      exact (encS_ps h).append (ih .nil hr)
    · simp only [enc, if_neg e]
      exact ih (h.append (.cons ⟨by omega, by omega⟩ .nil)) hr

/-! ### undone again -/
/-- as undo, and refused where a run of none stands at the end behind a full one -/
def undoA : Nat → Int → List Int → List Int → Option (List Int)
  | 0, _, acc, _ => some acc
  | _ + 1, _, acc, [] => some acc
  | f + 1, ah, acc, n :: r =>
    if r.length + 1 < n.toNat then none
    else if n = 1 ∧ ah = 255 ∧ r = [] then none
    else undoA f n (acc ++ r.take (n.toNat - 1) ++ if n < 255 ∧ n.toNat < r.length + 1 then [0] else []) ((n :: r).drop n.toNat)
theorem undoA_nil (f : Nat) (ah : Int) (acc : List Int) : undoA f ah acc [] = some acc := by cases f <;> rfl
/-- where undoA tells something, undo tells it -/
theorem undo_of {f : Nat} {ah : Int} {acc p w : List Int} (h : undoA f ah acc p = some w) : undo f acc p = some w := by
  induction f generalizing ah acc p with
  | zero => exact h
  | succ f ih =>
    cases p with
    | nil => exact h
    | cons n r =>
      simp only [undoA] at h
      simp only [undo]
      split at h
      · cases h
      · rename_i h1
        rw [if_neg h1]
        split at h
        · cases h
        · exact ih h
/-- a written run, behind it something -/
theorem undoA_run {f : Nat} {ah n : Int} {acc seg t : List Int} (hn : n = ((seg.length : Nat) : Int) + 1) (hl : seg.length ≤ 254) (hz : ¬ (n = 1 ∧ ah = 255 ∧ t = [])) :
    undoA (f + 1) ah acc (n :: (seg ++ t)) = undoA f n (acc ++ seg ++ if n < 255 ∧ t ≠ [] then [0] else []) t := by
  have en : n.toNat = seg.length + 1 := by omega
  have e1 : ¬ ((seg ++ t).length + 1 < n.toNat) := by rw [List.length_append, en]; omega
  have e2 : ¬ (n = 1 ∧ ah = 255 ∧ seg ++ t = []) := fun q => hz ⟨q.1, q.2.1, (List.append_eq_nil_iff.mp q.2.2).2⟩
  have e3 : (seg ++ t).take (n.toNat - 1) = seg := by rw [en, Nat.add_sub_cancel, List.take_left']; rfl
  have e4 : (n :: (seg ++ t)).drop n.toNat = t := by
    rw [en, List.drop_succ_cons, List.drop_left']
    rfl
  have e5 : (if n < 255 ∧ n.toNat < (seg ++ t).length + 1 then [(0 : Int)] else []) = if n < 255 ∧ t ≠ [] then [0] else [] := by
    rw [List.length_append, en]
    cases t with
    | nil => simp
    | cons x t => simp
  simp only [undoA]
  rw [if_neg e1, if_neg e2, e3, e4, e5]
theorem undoA_encS {last : Bool} {seg : List Int} {f : Nat} {ah : Int} {acc t : List Int} (ht : last = true ↔ t = []) (ha : seg = [] → last = true → ah ≠ 255) (hf : (encS last seg ++ t).length ≤ f) :
    ∃ f' ah', t.length ≤ f' ∧ (last = false → ah' ≠ 255) ∧ undoA f ah acc (encS last seg ++ t) = undoA f' ah' (acc ++ seg ++ if t = [] then [] else [0]) t := by
  by_cases h : 254 < seg.length ∨ (seg.length = 254 ∧ last = false)
  · have el : (seg.take 254).length = 254 := by rw [List.length_take]; omega
    rw [encS_full h] at hf ⊢
    cases f with
    | zero => simp at hf
    | succ f =>
      have e0 : (255 :: (seg.take 254 ++ encS last (seg.drop 254))) ++ t = 255 :: (seg.take 254 ++ (encS last (seg.drop 254) ++ t)) := by simp
      rw [e0] at hf ⊢
      rw [undoA_run (by rw [el]; rfl) (by rw [el]; exact Nat.le_refl _) (fun q => absurd q.1 (by decide))]
      rw [if_neg (fun q => absurd q.1 (by decide)), List.append_nil]
      have hf2 : (encS last (seg.drop 254) ++ t).length ≤ f := by
        rw [List.length_cons, List.length_append] at hf
        omega
      obtain ⟨f', ah', h1, h2, h3⟩ := undoA_encS (seg := seg.drop 254) (ah := 255) (acc := acc ++ seg.take 254) ht (fun e l => by
        have := congrArg List.length e
        rw [List.length_drop] at this
        rcases h with h | h
        · simp at this
          omega
        · rw [h.2] at l
          cases l) hf2
      refine ⟨f', ah', h1, h2, ?_⟩
      rw [h3, List.append_assoc acc, List.take_append_drop]
  · rw [encS_end h] at hf ⊢
    cases f with
    | zero => simp at hf
    | succ f =>
      have hl : seg.length ≤ 254 := by omega
      have e0 : ((((seg.length : Nat) : Int) + 1) :: seg) ++ t = (((seg.length : Nat) : Int) + 1) :: (seg ++ t) := rfl
      rw [e0] at hf ⊢
      have hz : ¬ (((seg.length : Nat) : Int) + 1 = 1 ∧ ah = 255 ∧ t = []) := fun q => ha (List.length_eq_zero_iff.mp (by omega)) (ht.mpr q.2.2) q.2.1
      rw [undoA_run rfl hl hz]
      have e6 : (if ((seg.length : Nat) : Int) + 1 < 255 ∧ t ≠ [] then [(0 : Int)] else []) = if t = [] then [] else [0] := by
        by_cases c : t = []
        · rw [if_pos c, if_neg fun q => q.2 c]
        · have l : last = false := by
            cases hq : last with
            | false => rfl
            | true => exact absurd (ht.mp hq) c
          have : ¬ seg.length = 254 := fun e => h (.inr ⟨e, l⟩)
          rw [if_neg c, if_pos ⟨by omega, c⟩]
      rw [e6]
      refine ⟨f, ((seg.length : Nat) : Int) + 1, ?_, fun l => ?_, rfl⟩
      · rw [List.length_cons, List.length_append] at hf
        omega
      · intro e
        exact h (.inr ⟨by omega, l⟩)
termination_by seg.length
decreasing_by
  rw [List.length_drop]
  omega
theorem undoA_enc {seg xs : List Int} {f : Nat} {ah : Int} {acc : List Int} (ha : ah ≠ 255) (hf : (enc seg xs).length ≤ f) : undoA f ah acc (enc seg xs) = some (acc ++ seg ++ xs) := by
  induction xs generalizing seg f ah acc with
  | nil =>
    simp only [enc] at hf ⊢
    have hf' : (encS true seg ++ []).length ≤ f := by rw [List.append_nil]; exact hf
    obtain ⟨f', ah', h1, h2, h3⟩ := undoA_encS (acc := acc) (t := []) (by simp) (fun _ _ => ha) hf'
    rw [List.append_nil] at h3
    rw [h3, undoA_nil]
    simp
  | cons b r ih =>
    by_cases h : b = 0
    · simp only [enc, if_pos h] at hf ⊢
      obtain ⟨f', ah', h1, h2, h3⟩ := undoA_encS (acc := acc) (t := enc [] r) (by
        constructor
        · intro q
          cases q
        · intro q
          exact absurd q (enc_ne _ _)) (fun _ q => by cases q) hf
      rw [h3, ih (h2 rfl) h1, if_neg (enc_ne _ _), h]
      simp
    · simp only [enc, if_neg h] at hf ⊢
      rw [ih ha hf]
      simp
theorem unrun_enc (xs : List Int) : unrun (enc [] xs) = some xs := by
  have h := undoA_enc (seg := []) (xs := xs) (ah := 0) (acc := []) (by decide) (Nat.le_refl _)
  have := undo_of h
  simpa [unrun] using this

/-! ### streams -/
def whole (p : List Int) : List Int := p ++ check p
def piece (p : List Int) : List Int := enc [] (whole p)
def strm (ps : List (List Int)) : List Int := (ps.map fun p => piece p ++ [0]).flatten
theorem whole_by {p : List Int} (h : By p) : By (whole p) := h.append (check_by p)
theorem whole_len (p : List Int) : (whole p).length = p.length + 4 := by
  unfold whole
  rw [List.length_append, check_length]
theorem piece_ps {p : List Int} (h : By p) : Ps (piece p) := enc_ps .nil (whole_by h)
theorem piece_ne (p : List Int) : piece p ≠ [] := enc_ne _ _
theorem piece_len (p : List Int) : (piece p).length ≤ 2 * p.length + 9 := by
  have := enc_len [] (whole p)
  rw [whole_len] at this
  have e : ([] : List Int).length = 0 := rfl
  unfold piece
  omega
theorem strm_append (ps qs : List (List Int)) : strm (ps ++ qs) = strm ps ++ strm qs := by simp [strm]
theorem strm_cons (p : List Int) (ps : List (List Int)) : strm (p :: ps) = piece p ++ 0 :: strm ps := by simp [strm]
theorem strm_one (p : List Int) : strm [p] = piece p ++ [0] := by simp [strm]
theorem strm_by {ps : List (List Int)} (h : ∀ p ∈ ps, By p) : By (strm ps) := by
  induction ps with
  | nil => exact .nil
  | cons p r ih =>
    rw [strm_cons]
    refine ((piece_ps (h p (List.mem_cons_self ..))).by).append (.cons (by decide) (by decide) (ih fun q hq => h q (List.mem_cons_of_mem _ hq)))
/-- a written part is told whole -/
theorem tell_piece (pl : Nat) (p : List Int) : tell pl (piece p) = .part pl p := by
  unfold tell piece
  rw [unrun_enc]
  have e1 : (whole p).length - 4 = p.length := by rw [whole_len]; omega
  have e2 : (whole p).take p.length = p := by unfold whole; rw [List.take_left']; rfl
  have e3 : (whole p).drop p.length = check p := by unfold whole; rw [List.drop_left']; rfl
  show (if 4 ≤ (whole p).length ∧ _ then _ else _) = _
  rw [e1, e2, e3, if_pos ⟨by rw [whole_len]; omega, rfl⟩]
theorem goes_piece (pl : Nat) {p : List Int} (h : By p) (r : List Int) : goes [] pl (piece p ++ 0 :: r) = (.part pl p :: (goes [] (pl + (piece p).length + 1) r).1, (goes [] (pl + (piece p).length + 1) r).2) := by
  rw [goes_zero (piece_ps h).nz, List.nil_append, if_neg (piece_ne p), tell_piece]
  rfl
theorem undoA_at {ns acc : List Int} {a k f : Nat} {ah : Int} (h : ns[a]? = some (k : Int)) (hk : 1 ≤ k) (hf : ns.length - a ≤ f) :
    ∃ f', ns.length - (a + k) ≤ f' ∧ undoA f ah acc (ns.drop a) = if ns.length < a + k then none else if k = 1 ∧ ah = 255 ∧ a + 1 = ns.length then none else
      undoA f' (k : Int) (acc ++ (ns.drop (a + 1)).take (k - 1) ++ if (k : Int) < 255 ∧ a + k < ns.length then [0] else []) (ns.drop (a + k)) := by
  have ha : a < ns.length := (List.getElem?_eq_some_iff.mp h).1
  have e : ns.drop a = (k : Int) :: ns.drop (a + 1) := by
    rw [List.drop_eq_getElem_cons ha]
    have := (List.getElem?_eq_some_iff.mp h).2
    rw [this]
  cases f with
  | zero => omega
  | succ f =>
    refine ⟨f, by omega, ?_⟩
    have e2 : ((k : Int) :: ns.drop (a + 1)).drop k = ns.drop (a + k) := by
      rw [← e, List.drop_drop]
    rw [e]
    simp only [undoA, Int.toNat_natCast]
    rw [e2, List.length_drop]
    by_cases c : ns.length < a + k
    · rw [if_pos c, if_pos (by omega)]
    · rw [if_neg c, if_neg (by omega)]
      have e4 : ((k : Int) = 1 ∧ ah = 255 ∧ ns.drop (a + 1) = []) ↔ (k = 1 ∧ ah = 255 ∧ a + 1 = ns.length) := by
        constructor
        · rintro ⟨h1, h2, h3⟩
          have := congrArg List.length h3
          rw [List.length_drop] at this
          simp at this
          exact ⟨by omega, h2, by omega⟩
        · rintro ⟨h1, h2, h3⟩
          exact ⟨by omega, h2, List.drop_of_length_le (by omega)⟩
      by_cases d2 : k = 1 ∧ ah = 255 ∧ a + 1 = ns.length
      · rw [if_pos d2, if_pos (e4.mpr d2)]
      · rw [if_neg d2, if_neg (fun q => d2 (e4.mp q))]
        have e3 : (if (k : Int) < 255 ∧ k < ns.length - (a + 1) + 1 then [(0 : Int)] else []) = if (k : Int) < 255 ∧ a + k < ns.length then [0] else [] := by
          by_cases d : (k : Int) < 255 ∧ a + k < ns.length
          · rw [if_pos d, if_pos ⟨d.1, by omega⟩]
          · rw [if_neg d, if_neg (fun q => d ⟨q.1, by omega⟩)]
        rw [e3]
theorem undoA_piece (p : List Int) : undoA (piece p).length 0 [] (piece p) = some (whole p) := by
  have h := undoA_enc (seg := []) (xs := whole p) (ah := 0) (acc := []) (by decide) (Nat.le_refl _)
  simpa [piece] using h
/-- cut at the zeros: the pieces that a zero ends, and what is left -/
def cutz : List Int → List Int → List (List Int) × List Int
  | pc, [] => ([], pc)
  | pc, b :: r => if b = 0 then (pc :: (cutz [] r).1, (cutz [] r).2) else cutz (pc ++ [b]) r
theorem cutz_zero {seg : List Int} (h : NZ seg) (pc r : List Int) : cutz pc (seg ++ 0 :: r) = ((pc ++ seg) :: (cutz [] r).1, (cutz [] r).2) := by
  induction seg generalizing pc with
  | nil => simp [cutz]
  | cons b t ih =>
    have hb : b ≠ 0 := h b (List.mem_cons_self ..)
    simp only [List.cons_append, cutz, if_neg hb]
    rw [ih fun c hc => h c (List.mem_cons_of_mem _ hc)]
    simp
theorem cutz_strm {ps : List (List Int)} (h : ∀ p ∈ ps, By p) : cutz [] (strm ps) = (ps.map piece, []) := by
  induction ps with
  | nil => rfl
  | cons p r ih =>
    rw [strm_cons, cutz_zero (piece_ps (h p (List.mem_cons_self ..))).nz, ih fun q hq => h q (List.mem_cons_of_mem _ hq)]
    rfl
end Sb
/-! TwR: a row walked, list or tuple; what writing streams promises. -/
namespace Tw
open PySem PySem.Spec PyProof.Rows L2 Sb
def ItR (K : PySem.W.Frag) (a : Addr) (b : Bool) : It := if b = true then Itt K a else Itl K a
def iRow (K : PySem.W.Frag) (tl : TE) : TI := fun σ H R => tl σ H fun x H1 => ∃ a xs, x = .ref a ∧ SqR K H1 a xs ∧ ∀ b, (b = true → SqT K H1 a xs) → (b = false → SqL K H1 a xs) → R (ItR K a b) H1
theorem pi_row {X : Cx} {tg l : Expr} {tl : TE} (he : PE X l tl) : PI X tg l (iRow X.K tl) := by
  refine ⟨fun pins s σ H R I h => thn (he.run pins s σ H _ I h) fun v s1 hh => ?_⟩
  obtain ⟨x, H1, I1, rx, a, xs, rfl, hr, q⟩ := hh
  cases rx
  have fp : ∀ b ∈ [s1.heap.objs.size], FpOk X pins H1 b := fun b hb => by
    have e : b = s1.heap.objs.size := by simpa using hb
    rw [e]
    exact I1.fpOk (Nat.le_refl _) (I1.hok.fresh (Nat.le_refl _))
  rcases hr with hr | hr
  · obtain ⟨its, _, pl, _⟩ := I1.list hr
    exact wpAny_pyIter_list pl.isList ⟨s1.heap.objs.size, [s1.heap.objs.size], _, Itl X.K a, H1, rfl, I1.kept (t' := s1.toks) fun b o e => Heap.get?_push_of_some _ e, turn_list a _, ⟨_, Heap.get?_push_size _ rfl, rfl, rfl⟩, fp, q false (fun z => nomatch z) fun _ => hr⟩
  · obtain ⟨its, _, pl, _⟩ := I1.tuple hr
    exact wpAny_pyIter_tuple (show s1.heap.IsTuple a its.toArray from pl) ⟨s1.heap.objs.size, [s1.heap.objs.size], _, Itt X.K a, H1, rfl, I1.kept (t' := s1.toks) fun b o e => Heap.get?_push_of_some _ e, turn_tuple a _, ⟨_, Heap.get?_push_size _ rfl, rfl, rfl⟩, fp, q true (fun _ => hr) fun z => nomatch z⟩
theorem walk_row {K : PySem.W.Frag} {a : Addr} {xs : List V} {b : Bool} : Walk (ItR K a b) xs.length (fun H => if b = true then SqT K H a xs else SqL K H a xs) (YAt xs) := by
  cases b with
  | true => exact walk_tup
  | false => exact walk_list
theorem SqR.star {K : PySem.W.Frag} {H : Hp} {a : Addr} {xs : List V} (h : Rw H a xs) : SqT K H a xs ∨ SqL K H a xs := h.elim (fun h => .inr (SqL.of h)) (fun h => .inl (SqT.of h))
/-- the runs of a whole -/
def spWz : Sp := fun vs H Q _ => ∃ (a : Addr) (xs : List Int), vs = [.ref a] ∧ H a = some (.lst (iV xs)) ∧ By xs ∧ xs.length ≤ 200000 ∧ ∀ (H' : Hp) (p : Addr), Same H H' → Nw H H' p (enc [] xs) → Q (.ref p) H'
/-- rows of bytes -/
def PartAt (H : Hp) (p : List Int) (v : V) : Prop := ∃ r, v = .ref r ∧ Rw H r (iV p) ∧ By p ∧ p.length ≤ 100000
theorem PartAt.same {H H' : Hp} {p : List Int} {v : V} (h : PartAt H p v) (s : Same H H') : PartAt H' p v := by
  obtain ⟨r, e, h1, h2, h3⟩ := h
  exact ⟨r, e, h1.same s, h2, h3⟩
def spStrm : Sp := fun vs H Q _ => ∃ (a : Addr) (ps : List (List Int)) (ws : List V), vs = [.ref a] ∧ Rw H a ws ∧ Paired (PartAt H) ps ws ∧ (strm ps).length ≤ big ∧ ∀ (H' : Hp) (r : Addr), Same H H' → Nw H H' r (strm ps) → Q (.ref r) H'
theorem strm_take_len (ps : List (List Int)) (k : Nat) : (strm (ps.take k)).length ≤ (strm ps).length := by
  have e := congrArg List.length (strm_append (ps.take k) (ps.drop k))
  rw [List.take_append_drop, List.length_append] at e
  omega
theorem SqT.at_ {K : PySem.W.Frag} {H H' : Hp} {a : Addr} {xs : List V} (k : ∀ o, H a = some o → H' a = some o) (h : SqT K H a xs) : SqT K H' a xs := by
  rcases h with (h | ⟨o, h⟩) | h
  · exact .inl (.inl (k _ h))
  · exact .inl (.inr ⟨o, k _ h⟩)
  · exact .inr h
theorem SqL.at_ {K : PySem.W.Frag} {H H' : Hp} {a : Addr} {xs : List V} (k : ∀ o, H a = some o → H' a = some o) (h : SqL K H a xs) : SqL K H' a xs := by
  rcases h with (h | ⟨o, h⟩) | h
  · exact .inl (.inl (k _ h))
  · exact .inl (.inr ⟨o, k _ h⟩)
  · exact .inr h
/-- what stands at a row's place stays while the row stays -/
theorem Rw.keeps {H H0 H' : Hp} {a : Addr} {xs : List V} (h : Rw H a xs) (s : Same H H0) (s' : Same H H') : ∀ o, H0 a = some o → H' a = some o := fun o e => by
  rcases h with h | h
  · rw [s _ _ h] at e
    rw [← e]
    exact s' _ _ h
  · rw [s _ _ h] at e
    rw [← e]
    exact s' _ _ h
end Tw
/-! TwX: a list grows by a row; slices of rows. -/
namespace Tw
open PySem PySem.Spec PyProof.Rows L2 Sb
open AutoSeq1 (wpAny_loadPart')
section
theorem ext_tup (l : Addr) (ia : Array Value) (n : Nat) (b : Addr) (ib : Array Value) (m : Nat) (dd : Option Addr) (ss : Array (Option Value)) (h0 : ¬(!ia.isEmpty && Builtin.List.listTooLong (ia.size + ib.size)) = true) (h1 : ia.size ≤ sizeLine) (h2 : ia.size + ib.size ≤ sizeLine + 1) :
    Meets (Builtin.«list.extend» ⟨[.ref l, .ref b], []⟩) (fun _ R z => z.heap.get? l = some { cls := .type "list", dict := none, data := .seq ia n, slots := #[] } ∧ z.heap.get? b = some { cls := .type "tuple", dict := dd, data := .seq ib m, slots := ss } ∧
      R (.ok (.ret Value.none)) { z with heap := z.heap.update l (Obj.mapSeq fun x => x ++ ib), toks := z.toks }) := by
  refine .of_wp fun pg wo Ar R z hz => ?_
  obtain ⟨hp, g, d, tk, os⟩ := z
  obtain ⟨hl, hb, h⟩ := hz
  have k1 := AutoSeq1.idx_int
  have k2 := AutoSeq1.sub_tuple_tuple
  have k3 := AutoSeq1.sub_list_list
  have k4 := AutoSeq1.sub_tuple_list
  have k5 := AutoSeq1.sub_list_tuple
  have k6 : (ia ++ ib).size ≤ sizeLine + 1 := by
    rw [Array.size_append]
    exact h2
  wp_walk using (PySem.wpAny_updateSeq hl rfl (hz := h1) (_hz' := k6)), wpAny_loadPart' hl, wpAny_loadPart' hb
  exact ⟨_, rfl, h⟩
end
def rExtR : V → List V → Hp → VK → Prop := fun x vs H Q => ∃ l b xs zs, x = .ref l ∧ vs = [.ref b] ∧ H l = some (.lst xs) ∧ Rw H b zs ∧ xs.length + zs.length ≤ sizeLine ∧ Q .non (upd H l (.lst (xs ++ zs)))
theorem mt_extR {X : Cx} : MtM X "list.extend" rExtR := by
  rintro pins s σ H x vs v us Q I rx rv ⟨l, b, xs, zs, rfl, rfl, hH, hB, hz, q⟩
  rcases hB with hB | hB
  · exact mt_extend pins s σ H (.ref l) [.ref b] v us Q I rx rv ⟨l, b, xs, zs, rfl, rfl, hH, hB, hz, q⟩
  · cases rx
    obtain ⟨u, rfl, ru⟩ := rv.one
    cases ru
    obtain ⟨z, its, n, r, hl, e⟩ := I.lstM hH
    obtain ⟨its2, r2, ⟨⟨c2, d2, dt2, sl2⟩, e2, hc2, m, hd2⟩, _⟩ := I.tuple (SqT.of (K := X.K) hB)
    replace hc2 : c2 = .type "tuple" := hc2
    replace hd2 : dt2 = .seq its2.toArray m := hd2
    subst hc2 hd2
    have l2 := r2.length
    have sz : its.toArray.size + its2.toArray.size ≤ sizeLine := by
      rw [List.size_toArray, List.size_toArray]
      omega
    have lg : ¬ (!its.toArray.isEmpty && Builtin.List.listTooLong (its.toArray.size + its2.toArray.size)) = true := by
      rw [notLongL sz, Bool.and_false]
      exact Bool.false_ne_true
    refine call_meets F.slot_list_extend ⟨_, e, rfl⟩ F.entry_list_extend (F.args_list_extend_2 _ _) (ext_tup l its.toArray n b its2.toArray m d2 sl2 lg (by rw [List.size_toArray]; omega) (by omega)) ⟨e, e2, .non, _, I.lset (its' := its ++ its2) hH e (by simp) (r.append r2) ?_, rfl, q⟩
    rw [List.length_append]
    omega
/-- a slice of a row is a row -/
def rSlR : V → Option Int → Option Int → Hp → VK → Prop := fun x lo hi H Q => ∃ a xs, x = .ref a ∧ Rw H a xs ∧ ∀ (H' : Hp) (t : Addr), Same H H' → Rw H' t (cutV xs lo hi) → Q (.ref t) H'
theorem sl_row {X : Cx} : SlR X rSlR := by
  intro pins s σ H x v vl vu lo hi sl Q I rx hs pl pu h
  refine SlR.or (sl_list (X := X)) (sl_tupA (X := X)) pins s σ H x v vl vu lo hi sl Q I rx hs pl pu ?_
  obtain ⟨a, xs, rfl, hr, q⟩ := h
  rcases hr with hr | hr
  · exact .inl ⟨a, xs, rfl, SqL.of hr, fun p hp => q _ p (same_upd hp) (.inl upd_same)⟩
  · refine .inr ⟨a, xs, rfl, SqT.of hr, fun e => q H a (Same.refl _) ?_, fun _ p hp => q _ p (same_upd hp) (.inr upd_same)⟩
    have c : cutV xs lo hi = xs := by
      unfold cutV
      rw [e.1, e.2, List.drop_zero, Nat.sub_zero, List.take_length]
    rw [c]
    exact .inr hr
def spFFeedR (C : Addr) : Sp := fun vs H Q _ => ∃ (p d l : Addr) (rest xs : List Int) (pl : Nat), vs = [.ref p, .ref d] ∧ FdAt C H p l rest pl ∧ Rw H d (iV xs) ∧ d ≠ l ∧ By rest ∧ NZ rest ∧ By xs ∧ rest.length + xs.length ≤ big ∧
  ∀ (H' : Hp) (l' r : Addr) (ws : List V), But p l H H' → FdAt C H' p l' (goes rest pl xs).2.1 (goes rest pl xs).2.2 → (l' = l ∨ H l' = none) → H r = none → r ≠ l' → H' r = some (.lst ws) → Tls (upd (upd H r (.lst [])) l' (.lst [])) H' (goes rest pl xs).1 ws → Q (.ref r) H'
def spUnstR : Sp := fun vs H Q _ => ∃ (d : Addr) (xs : List Int), vs = [.ref d] ∧ Rw H d (iV xs) ∧ By xs ∧ xs.length ≤ big ∧ ∀ (H' : Hp) (r : Addr) (ws : List V), Same H H' → H r = none → H' r = some (.lst ws) → Tls (upd H r (.lst [])) H' (unstr xs) ws → Q (.ref r) H'
theorem Rw.ne {H : Hp} {a p : Addr} {xs : List V} {o : HO} (h : Rw H a xs) (e : H p = some o) (n1 : ∀ ys, o ≠ .lst ys) (n2 : ∀ ys, o ≠ .tup ys) : a ≠ p := fun w => by
  rcases h with h | h
  · rw [w, e] at h
    exact n1 _ (Option.some.inj h)
  · rw [w, e] at h
    exact n2 _ (Option.some.inj h)
theorem Rw.at_ {H H' : Hp} {a : Addr} {xs : List V} (h : Rw H a xs) (k : ∀ o, H a = some o → H' a = some o) : Rw H' a xs := h.elim (fun h => .inl (k _ h)) (fun h => .inr (k _ h))
theorem Rw.some {H : Hp} {a : Addr} {xs : List V} (h : Rw H a xs) (e : H a = none) : False := by
  rcases h with h | h
  · rw [h] at e
    cases e
  · rw [h] at e
    cases e
end Tw
namespace K11
open PySem PySem.Spec PyProof.Rows L2 Tw Sb
/-- the well at a, at most n draws old -/
def IsWn (n : Nat) (H : Hp) (a : Addr) : Prop := ∃ x y z : Int, H a = some (.lst [.int x, .int y, .int z]) ∧ 0 ≤ y ∧ y < 2147483647 ∧ 0 ≤ z ∧ z ≤ n
/-- all but the well at a stays; that is a well again -/
structure Fn (n : Nat) (a : Addr) (H H' : Hp) : Prop where
  k : ∀ b o, b ≠ a → H b = some o → H' b = some o
  w : IsWn n H' a
abbrev many : Nat := 1000000000
theorem IsWn.same {n : Nat} {H H' : Hp} {a : Addr} (h : IsWn n H a) (s : Same H H') : IsWn n H' a := by
  obtain ⟨x, y, z, e, r⟩ := h
  exact ⟨x, y, z, s _ _ e, r⟩
theorem IsWn.mono {m n : Nat} {H : Hp} {a : Addr} (h : IsWn m H a) (e : m ≤ n) : IsWn n H a := by
  obtain ⟨x, y, z, e1, r1, r2, r3, r4⟩ := h
  exact ⟨x, y, z, e1, r1, r2, r3, by omega⟩
theorem IsWn.ne {n : Nat} {H : Hp} {a p : Addr} (h : IsWn n H a) (e : H p = none) : p ≠ a := fun q => by
  obtain ⟨_, _, _, z, _⟩ := h
  rw [q, z] at e
  cases e
theorem Fn.refl {n : Nat} {H : Hp} {a : Addr} (h : IsWn n H a) : Fn n a H H := ⟨fun _ _ _ e => e, h⟩
theorem Fn.trans {m n : Nat} {a : Addr} {H H1 H2 : Hp} (f : Fn m a H H1) (g : Fn n a H1 H2) : Fn n a H H2 := ⟨fun b o n e => g.k b o n (f.k b o n e), g.w⟩
theorem Fn.same {n : Nat} {a : Addr} {H H1 H2 : Hp} (f : Fn n a H H1) (g : Same H1 H2) : Fn n a H H2 := ⟨fun b o n e => g b o (f.k b o n e), f.w.same g⟩
theorem Fn.mono {m n : Nat} {a : Addr} {H H' : Hp} (f : Fn m a H H') (e : m ≤ n) : Fn n a H H' := ⟨f.k, f.w.mono e⟩
theorem Fn.free {m n : Nat} {a : Addr} {H H' : Hp} (f : Fn n a H H') (h : IsWn m H a) {p : Addr} (e : H' p = none) : H p = none := by
  cases q : H p with
  | none => rfl
  | some o =>
    by_cases hp : p = a
    · subst hp
      obtain ⟨_, _, _, z, _⟩ := f.w
      rw [z] at e
      cases e
    · rw [f.k p o hp q] at e
      cases e
/-- what was new stays -/
theorem Fn.kp {m n : Nat} {a p : Addr} {H H1 H2 : Hp} {o : HO} (f : Fn n a H1 H2) (h : IsWn m H a) (hp : H p = none) (e : H1 p = some o) : H2 p = some o := f.k p o (h.ne hp) e
/-- a new thing at p, written later -/
theorem Fn.upd {n : Nat} {a p : Addr} {H H' : Hp} {o : HO} (f : Fn n a H H') (n1 : p ≠ a) (hp : H p = none) : Fn n a H (upd H' p o) := by
  obtain ⟨k, x, y, z, e1, r⟩ := f
  refine ⟨fun c u m1 e => ?_, x, y, z, ?_, r⟩
  · rw [upd_ne (ne_of_none e hp)]
    exact k c u m1 e
  · rw [upd_ne n1.symm]
    exact e1
def spWell : Sp := fun vs H Q _ => ∃ (n : Int), vs = [.int n] ∧ ∀ (a : Addr) (H' : Hp), H a = none → Same H H' → IsWn 0 H' a → Q (.ref a) H'
def spDraw : Sp := fun vs H Q _ => ∃ (a : Addr) (m : Int) (n : Nat), vs = [.ref a, .int m] ∧ IsWn n H a ∧ n < many ∧ 0 < m ∧ m < 1073741824 ∧ ∀ (r : Int) (H' : Hp), 0 ≤ r → r < m → Fn (n + 1) a H H' → Q (.int r) H'
section
variable {P : Program} {w : World} {K : PySem.W.Frag} {mg : Str → Option Value} {base : Heap}
theorem ok_well {f : Addr} {fd : FuncData} (F : Fun K "_law_well" "_law_well" s__law_well f fd) (T : Bt mg) : FnOk P w K mg base CX0 1 f fd ["_law_cell"] spWell := by
  refine F.ok sc__law_well (fun vs H Q E h => ?_) (fun cdv A outer s H vs Q E hr h => ?_)
  · obtain ⟨n, rfl, _⟩ := h
    rfl
  · obtain ⟨n, rfl, q⟩ := h
    refine ⟨_, (pss_one (ps_ret (pe_lst (pa_cons (pe_op op_mul (pv 0) (pe_callTy call_int1 (by rfl) T.n_int (by decide +kernel) (pa_cons (pe_cmpR op_ge (pv 0) (pe_op op_pow pe_int pe_int) (nomark _)) pa_nil))) (pa_cons (pe_op op_mod (pv 0) pe_int) (pa_cons pe_int pa_nil)))))), ?_⟩
    refine ⟨_, rfl, _, rfl, 10, 18, rfl, rfl, ⟨by decide, by decide, by decide⟩, _, _, rfl, rfl, .inr ⟨_, rfl, ?_⟩⟩
    refine ⟨_, _, rfl, rfl, .inr ?_, ?_⟩
    · split <;> decide
    · refine ⟨_, rfl, _, _, rfl, rfl, (by show (0 : Int) < 2147483647; decide), by show 3 ≤ sizeLine; decide, fun p hp => ?_⟩
      exact q p _ hp (same_upd hp) ⟨_, _, _, upd_same, Int.emod_nonneg _ (by decide), Int.emod_lt_of_pos _ (by decide), by decide, by decide⟩
theorem ok_draw {f : Addr} {fd : FuncData} (F : Fun K "_law_draw" "_law_draw" s__law_draw f fd) (T : Bt mg) : FnOk P w K mg base CX0 1 f fd ["_law_well_here", "_law_many"] spDraw := by
  refine F.ok sc__law_draw (fun vs H Q E h => ?_) (fun cdv A outer s H vs Q E hr h => ?_)
  · obtain ⟨a, m, n, rfl, _⟩ := h
    rfl
  · obtain ⟨a, m, n, rfl, ⟨x, y, z, hw, y0, y1, z0, zn⟩, hn, m0, mM, q⟩ := h
    refine ⟨_, (pss_cons (ps_if (pt_cmpR op_gt (pe_ix (r := rIxL K) ix_list (pv 0) pe_int (fun _ _ => rfl)) pe_int (nomark _))
        (pss_cons (ps_set (i := 2) sc__law_draw.nd rfl (.inl rfl) (pe_op op_mod (pe_ix (r := rIxL K) ix_list (pv 0) pe_int (fun _ _ => rfl)) (pv 1)))
        (pss_cons (ps_asg (pe_op op_fdivW (pe_ix (r := rIxL K) ix_list (pv 0) pe_int (fun _ _ => rfl)) (pv 1)) (pg_sub (pv 0) pe_int set_list))
        (pss_one (ps_ret (pv 2)))))
        pss_nil)
      (pss_cons (ps_asg (pe_op op_add (pe_ix (r := rIxL K) ix_list (pv 0) pe_int (fun _ _ => rfl)) pe_int) (pg_sub (pv 0) pe_int set_list))
      (pss_cons (ps_set (i := 3) sc__law_draw.nd rfl (.inl rfl) (pe_ix (r := rIxL K) ix_list (pe_lst (pa_cons pe_int (pa_cons pe_int (pa_cons pe_int (pa_cons pe_int (pa_cons pe_int pa_nil)))))) (pe_op op_mod (pe_ix (r := rIxL K) ix_list (pv 0) pe_int (fun _ _ => rfl)) pe_int) (fun _ _ => rfl)))
      (pss_cons (ps_set (i := 4) sc__law_draw.nd rfl (.inl rfl) (pe_op op_mod (pe_op op_pow (pe_op op_add (pe_op op_add (pe_ix (r := rIxL K) ix_list (pv 0) pe_int (fun _ _ => rfl)) (pe_op op_mul pe_int (pe_ix (r := rIxL K) ix_list (pv 0) pe_int (fun _ _ => rfl)))) pe_int) pe_int) (pv 3)))
      (pss_cons (ps_set (i := 4) sc__law_draw.nd rfl (.inl rfl) (pe_op op_mod (pe_op op_mul (pe_op op_add (pv 4) (pe_ix (r := rIxL K) ix_list (pv 0) pe_int (fun _ _ => rfl))) (pe_op op_add (pe_op op_fdiv (pv 4) pe_int) pe_int)) (pv 3)))
      (pss_one (ps_ret (pe_op op_mod (pe_op op_fdiv (pv 4) pe_int) (pv 1))))))))), ?_⟩
    have S0 : ∀ {H' : Hp} {x y z : Int}, H' a = some (.lst [.int x, .int y, .int z]) → SqL K H' a [.int x, .int y, .int z] := fun h => SqL.of h
    have em : ∀ v : Int, 0 ≤ v % m ∧ v % m < m := fun v => ⟨Int.emod_nonneg _ (by omega), Int.emod_lt_of_pos _ m0⟩
    have hn' : n < 1000000000 := hn
    refine ⟨.ref a, rfl, a, _, 0, .int x, rfl, rfl, S0 hw, rfl, x, 0, rfl, rfl, _, rfl, ?_⟩
    refine ite2 (fun g => ?_) (fun g => ?_)
    · refine ⟨.ref a, rfl, a, _, 0, .int x, rfl, rfl, S0 hw, rfl, _, rfl, x, m, rfl, rfl, m0, ?_⟩
      refine ⟨.ref a, rfl, a, _, 0, .int x, rfl, rfl, S0 hw, rfl, _, rfl, x, m, rfl, rfl, wide_div (b := 70) m0 (show m.natAbs < 1180591620717411303424 by omega) (by decide) (by decide), ?_⟩
      refine ⟨_, rfl, a, _, 0, 0, rfl, rfl, hw, rfl, _, rfl, ?_⟩
      exact q _ _ (em x).1 (em x).2 ⟨fun b o n e => by rw [upd_ne n]; exact e, _, _, _, upd_same, y0, y1, z0, by omega⟩
    · refine ⟨.ref a, rfl, a, _, 2, .int z, rfl, rfl, S0 hw, rfl, z, 1, rfl, rfl, ?_⟩
      refine ⟨_, rfl, a, _, 2, 2, rfl, rfl, hw, rfl, ?_⟩
      have hw2 : (upd H a (.lst [.int x, .int y, .int (z + 1)])) a = some (.lst [.int x, .int y, .int (z + 1)]) := upd_same
      have f2 : Fn (n + 1) a H (upd H a (.lst [.int x, .int y, .int (z + 1)])) := ⟨fun b o n e => by rw [upd_ne n]; exact e, _, _, _, upd_same, y0, y1, by omega, by omega⟩
      refine ⟨by show 5 ≤ sizeLine; decide, fun L hL => ?_⟩
      have s3 : Same (upd H a (.lst [.int x, .int y, .int (z + 1)])) (upd (upd H a (.lst [.int x, .int y, .int (z + 1)])) L (.lst (iV [2147483647, 2147483629, 2147483587, 2147483579, 2147483563]))) := same_upd (o := .lst (iV [2147483647, 2147483629, 2147483587, 2147483579, 2147483563])) hL
      have hw3 := s3 _ _ hw2
      have hL3 : (upd (upd H a (.lst [.int x, .int y, .int (z + 1)])) L (.lst (iV [2147483647, 2147483629, 2147483587, 2147483579, 2147483563]))) L = some (.lst (iV [2147483647, 2147483629, 2147483587, 2147483579, 2147483563])) := upd_same
      have f3 := f2.same s3
      refine ⟨.ref a, rfl, a, _, 2, .int (z + 1), rfl, rfl, S0 hw3, rfl, z + 1, 5, rfl, rfl, (by show (0 : Int) < 5; decide), ?_⟩
      obtain ⟨pr, hpr, pr0⟩ : ∃ pr : Int, atI (iV [2147483647, 2147483629, 2147483587, 2147483579, 2147483563]) ((z + 1) % 5) = some (.int pr) ∧ 2147483563 ≤ pr ∧ pr ≤ 2147483647 := by
        obtain h | h | h | h | h : (z + 1) % 5 = 0 ∨ (z + 1) % 5 = 1 ∨ (z + 1) % 5 = 2 ∨ (z + 1) % 5 = 3 ∨ (z + 1) % 5 = 4 := by omega
        · rw [h]; exact ⟨_, rfl, by decide, by decide⟩
        · rw [h]; exact ⟨_, rfl, by decide, by decide⟩
        · rw [h]; exact ⟨_, rfl, by decide, by decide⟩
        · rw [h]; exact ⟨_, rfl, by decide, by decide⟩
        · rw [h]; exact ⟨_, rfl, by decide, by decide⟩
      refine ⟨L, _, _, _, rfl, rfl, SqL.of hL3, hpr, ?_⟩
      have pp : 0 < pr := by omega
      refine ⟨.ref a, rfl, a, _, 1, .int y, rfl, rfl, S0 hw3, rfl, _, rfl, a, _, 2, .int (z + 1), rfl, rfl, S0 hw3, rfl, 7919, z + 1, rfl, rfl, .inl ⟨by decide, by decide⟩, y, _, rfl, rfl, _, 3, rfl, rfl, _, 5, rfl, rfl, ⟨by decide, by decide, ?_⟩, _, rfl, _, pr, rfl, rfl, pp, ?_⟩
      · show (y + 7919 * (z + 1) + 3).natAbs < 18446744073709551616
        omega
      dsimp only
      generalize hn1 : ((y + 7919 * (z + 1) + 3) ^ (5 : Int).toNat % pr : Int) = n1
      have b1 : 0 ≤ n1 ∧ n1 < 2147483647 := by
        rw [← hn1]
        exact ⟨Int.emod_nonneg _ (by omega), Int.lt_of_lt_of_le (Int.emod_lt_of_pos _ pp) pr0.2⟩
      refine ⟨_, rfl, .ref a, rfl, a, _, 2, .int (z + 1), rfl, rfl, S0 hw3, rfl, n1, z + 1, rfl, rfl, _, rfl, n1, 1013, rfl, rfl, ⟨by decide, by decide⟩, _, 69621, rfl, rfl, _, _, rfl, rfl, .inl ⟨by omega, by omega⟩, _, rfl, _, pr, rfl, rfl, pp, ?_⟩
      dsimp only
      generalize hn2 : ((n1 + (z + 1)) * (n1 / 1013 + 69621) % pr : Int) = n2
      refine ⟨_, rfl, n2, 11, rfl, rfl, ⟨by decide, by decide⟩, _, rfl, _, m, rfl, rfl, m0, ?_⟩
      exact q _ _ (em _).1 (em _).2 f3
def Pick (K : PySem.W.Frag) (H : Hp) (v : V) (ys : List V) : Prop := ∃ p, v = .ref p ∧ (SqL K H p ys ∨ SqT K H p ys)
/-- one of some: of a list, or of a text -/
def spOne (K : PySem.W.Frag) : Sp := fun vs H Q _ => ∃ (a : Addr) (n : Nat) (v : V), vs = [.ref a, v] ∧ IsWn n H a ∧ n < many ∧
  ((∃ (p : Addr) (ys : List V), v = .ref p ∧ H p = some (.lst ys) ∧ p ≠ a ∧ 0 < ys.length ∧ ys.length < 1000000 ∧ ∀ (H' : Hp) (y : V), Fn (n + 1) a H H' → y ∈ ys → Q y H') ∨
   (∃ (z : Str), v = .str z ∧ 0 < z.length ∧ Asc 1000000 z ∧ ∀ (H' : Hp) (c : Nat), Fn (n + 1) a H H' → c < 128 → Q (.str ⟨#[c]⟩) H'))
theorem ok_one {f : Addr} {fd : FuncData} (F : Fun K "_law_one" "_law_one" s__law_one f fd) (T : Bt mg) (c__law_draw : Cal P w K mg base 1 "_law_draw" ["_law_well_here", "_law_many"] spDraw) : FnOk P w K mg base CX0 2 f fd ["_law_well_here", "_law_some"] (spOne K) := by
  refine F.ok sc__law_one (fun vs H Q E h => ?_) (fun cdv A outer s H vs Q E hr h => ?_)
  · obtain ⟨a, n, v, rfl, _⟩ := h
    rfl
  · obtain ⟨a, n, v, rfl, hw, hn, h⟩ := h
    refine ⟨_, (pss_one (ps_ret (pe_ix (r := fun x y H Q => rIxL K x y H Q ∨ rIxS x y H Q) (IxR.or ix_list ix_str) (pv 1) (pe_cal c__law_draw hr (by decide) (by rfl) (pa_cons (pv 0) (pa_cons (pe_callB call_len (by rfl) T.n_len (by decide +kernel) (pa_cons (pv 1) pa_nil)) pa_nil))) (fun _ _ => rfl)))), ?_⟩
    rcases h with ⟨p, ys, rfl, hp, npa, l0, l1, q⟩ | ⟨z, rfl, l0, hz, q⟩
    · refine ⟨_, rfl, _, rfl, _, rfl, .ref p, _, rfl, .inl ⟨ys, SqL.of hp, rfl⟩, a, _, n, rfl, hw, hn, by omega, by omega, fun r H2 r0 r1 f2 => ?_⟩
      obtain ⟨j, rfl⟩ : ∃ j : Nat, r = (j : Int) := ⟨r.toNat, by omega⟩
      have hj : j < ys.length := by omega
      exact .inl ⟨p, ys, _, _, rfl, rfl, SqL.of (f2.k p _ npa hp), atI_nat (List.getElem?_eq_getElem hj), q H2 _ f2 (List.getElem_mem hj)⟩
    · have hl : z.length ≤ sizeLine := Nat.le_trans hz.le (by decide)
      have hl2 := hz.le
      refine ⟨_, rfl, _, rfl, _, rfl, .str z, _, rfl, ⟨hl, rfl⟩, a, _, n, rfl, hw, hn, by omega, by omega, fun r H2 r0 r1 f2 => ?_⟩
      obtain ⟨c, hc, hl3⟩ := hz.atZ r0 r1
      exact .inr ⟨z, _, c, rfl, rfl, hl, hc, q H2 c f2 hl3⟩
/-- texts of one plain sign each, joined -/
theorem asc_joined {ys : List Str} {n : Nat} (h : ys.length ≤ n) (k : ∀ y ∈ ys, Asc 1 y) : Asc n (Txt.join ⟨#[]⟩ ys) := by
  have e : ∀ l : List Str, (Txt.join ⟨#[]⟩ l).cps.toList = (l.map fun y => y.cps.toList).flatten := by
    intro l
    have e1 := congrArg TL.tl (TL.join_eq ⟨#[]⟩ l)
    have e2 := TL.tl_join ⟨#[]⟩ l
    have e3 : ∀ l : List (List Nat), TL.joinL [] l = l.flatten := by
      intro l
      induction l with
      | nil => rfl
      | cons x r ih =>
        cases r with
        | nil => simp [TL.joinL]
        | cons y r => 
          show x ++ ([] ++ TL.joinL [] (y :: r)) = _
          rw [ih]
          simp
    exact e1.trans (e2.trans (e3 _))
  have e2 := e ys
  refine ⟨?_, ?_⟩
  · rw [len_toList, e2]
    have : ∀ l : List Str, (∀ y ∈ l, Asc 1 y) → ((l.map fun y => y.cps.toList).flatten).length ≤ l.length := by
      intro l
      induction l with
      | nil => intro _; exact Nat.le_refl _
      | cons y r ih =>
        intro hk
        have h1 := (hk y (List.mem_cons_self ..)).le
        have h2 := ih fun z hz => hk z (List.mem_cons_of_mem _ hz)
        rw [len_toList] at h1
        rw [List.map_cons, List.flatten_cons, List.length_append, List.length_cons]
        omega
    exact Nat.le_trans (this ys k) h
  · rw [e2]
    intro c hc
    obtain ⟨l, h1, h2⟩ := List.mem_flatten.mp hc
    obtain ⟨y, hy, rfl⟩ := List.mem_map.mp h1
    exact (k y hy).lt c h2
/-- a text of letters -/
def spText : Sp := fun vs H Q _ => ∃ (a : Addr) (lo hi n : Nat), vs = [.ref a, .int (lo : Nat), .int (hi : Nat)] ∧ IsWn n H a ∧ n + 2000 < many ∧ lo ≤ hi ∧ hi ≤ 100 ∧ ∀ (H' : Hp) (z : Str), Fn (n + 1 + hi) a H H' → Asc hi z → Q (.str z) H'
theorem ok_text {f : Addr} {fd : FuncData} (F : Fun K "_law_text" "_law_text" s__law_text f fd) (T : Bt mg) (c__law_draw : Cal P w K mg base 1 "_law_draw" ["_law_well_here", "_law_many"] spDraw) (c__law_one : Cal P w K mg base 2 "_law_one" ["_law_well_here", "_law_some"] (spOne K)) : FnOk P w K mg base CX0 3 f fd ["_law_well_here", "_law_least", "_law_most"] spText := by
  refine F.ok sc__law_text (fun vs H Q E h => ?_) (fun cdv A outer s H vs Q E hr h => ?_)
  · obtain ⟨a, lo, hi, n, rfl, _⟩ := h
    rfl
  · obtain ⟨a, lo, hi, n, rfl, hw, hn, h1, h2, q⟩ := h
    refine ⟨_, (pss_cons (ps_set (i := 3) sc__law_text.nd rfl (.inr rfl) pe_str)
      (pss_one (ps_ret (pe_join pe_str (pe_lc (own := [("_law_k", 4)]) rfl sc__law_text.nd (pi_range1 rfl T.n_range (pa_cons (pe_op op_add (pv 1) (pe_cal c__law_draw hr (by decide) (by rfl) (pa_cons (pv 0) (pa_cons (pe_op op_add (pe_op op_sub (pv 2) (pv 1)) pe_int) pa_nil)))) pa_nil)) (blkOk_by (N := N__law_text) (sc := defScope s__law_text) (by decide +kernel)) (fun _ _ _ _ _ => (pg_name (i := 4) sc__law_text.nd rfl (.inl rfl))) (fun _ _ _ _ _ => pts_nil) (fun _ _ _ _ _ => (pe_cal c__law_one hr (by decide) (by rfl) (pa_cons (pv 0) (pa_cons (pv 3) pa_nil))))))))), ?_⟩
    have hn' : n + 2000 < 1000000000 := hn
    refine ⟨⟨_, rfl⟩, _, rfl, _, rfl, _, rfl, _, rfl, _, _, rfl, rfl, _, 1, rfl, rfl, a, _, n, rfl, hw, (show n < 1000000000 by omega), by omega, by omega, fun r H1 r0 r1 f1 => ?_⟩
    refine ⟨_, _, rfl, rfl, _, rfl, by omega, by omega, fun D hD => ?_⟩
    obtain ⟨R, rfl⟩ : ∃ R : Nat, r = (R : Int) := ⟨r.toNat, by omega⟩
    have hR : ((lo : Int) + (R : Int)).toNat = lo + R := by omega
    rw [hR]
    refine lc_it walk_range (fun j H' => Fn (n + 1 + j) a H H' ∧ ∃ zs : List Str, H' D = some (.lst (zs.map V.str)) ∧ zs.length = j ∧ ∀ z ∈ zs, Asc 1 z) ⟨f1.same (same_upd hD), [], upd_same, rfl, fun _ h => by cases h⟩ (fun _ _ _ _ => trivial) ?_ ?_
    · rintro j x H2 H3 hj ⟨f2, zs, hz, hl, hA⟩ ⟨rfl, rfl⟩
      have hD0 := f1.free hw hD
      refine ⟨rfl, _, rfl, _, rfl, a, n + 1 + j, _, rfl, f2.w, (show n + 1 + j < 1000000000 by omega), .inr ⟨_, rfl, by decide +kernel, Asc.of (by decide +kernel), fun H4 c f4 hc => ?_⟩⟩
      have f24 := f2.trans f4
      refine ⟨_, f4.k D _ (hw.ne hD0) hz, ?_, ?_⟩
      · rw [List.length_map]
        exact Nat.lt_of_le_of_lt (show zs.length ≤ 1000 by omega) (by decide)
      · refine ⟨f24.upd (hw.ne hD0) hD0, zs ++ [⟨#[c]⟩], by rw [upd_same, List.map_append]; rfl, by rw [List.length_append, hl]; rfl, fun z hz2 => ?_⟩
        rcases List.mem_append.mp hz2 with h | h
        · exact hA z h
        · have e : z = ⟨#[c]⟩ := by simpa using h
          rw [e]
          exact Asc.one hc
    · rintro H2 ⟨f2, zs, hz, hl, hA⟩
      refine ⟨_, D, zs, rfl, rfl, .inl (SqL.of hz), ?_, ?_⟩
      · have hs : ∀ l : List Str, (∀ z ∈ l, Asc 1 z) → (l.map fun x => x.length).sum ≤ l.length := by
          intro l
          induction l with
          | nil => intro _; exact Nat.le_refl _
          | cons z r ih =>
            intro hk
            have h1 := (hk z (List.mem_cons_self ..)).le
            have h2 := ih fun y hy => hk y (List.mem_cons_of_mem _ hy)
            rw [List.map_cons, List.sum_cons, List.length_cons]
            omega
        have h1 := hs zs hA
        rw [show (Str.ofString "").length = 0 from rfl, Nat.mul_zero]
        omega
      · exact q _ _ (f2.mono (by omega)) (asc_joined (by omega) hA)
end
end K11
namespace K11
open PySem PySem.Spec PyProof.Rows L2 Tw Sb
theorem word_content : ¬ (("word" : Str) = "content") := by decide +kernel
abbrev csF (x c : V) : List (Str × V) := [("word", x), ("content", c)]
theorem cs_init (x c : V) : putF "content" c (putF "word" x []) = csF x c := by
  show (if ("word" : Str) = "content" then _ else (("word" : Str), x) :: putF "content" c []) = _
  rw [if_neg word_content]
  rfl
def spCInit (C : Addr) : Sp := fun vs H Q _ => ∃ (p dx : Addr) (x c : V), vs = [.ref p, x, c] ∧ H p = some (.ins C dx []) ∧ ∀ (H' : Hp), (∀ b o, b ≠ p → H b = some o → H' b = some o) → H' p = some (.ins C dx (csF x c)) → Q .non H'
abbrev cPs : List Str := ["self", "word", "content"]
structure CaseC (P : Program) (w : World) (K : PySem.W.Frag) (mg : Str → Option Value) (base : Heap) (C : Addr) : Prop where
  cl : Cls K C
  nW : NoAttr K C "word"
  nC : NoAttr K C "content"
  g : mg "Case" = some (.ref C)
  ex : ∃ (f : Addr) (fd : FuncData), Mk K C f ∧ FnOk P w K mg base CX0 1 f fd cPs (spCInit C) ∧ Binds K fd cPs [] ∧ Binds K fd cPs [.none] ∧ KBn K fd cPs 1 ["content", "word"] (fun us ws => us ++ ws.reverse) (fun us ws => us ++ ws.reverse) ∧
    KBn K fd cPs 2 ["content"] (fun us ws => us ++ ws) (fun us ws => us ++ ws) ∧ KBn K fd cPs 1 ["word"] (fun us ws => us ++ ws ++ [.none]) (fun us ws => us ++ ws ++ [.non])
/-- a thing -/
inductive Th (CN CC : Addr) (H : Hp) : V → Prop
  | int (n : Int) : Th CN CC H (.int n)
  | bl (b : Bool) : Th CN CC H (.bl b)
  | non : Th CN CC H .non
  | str {z : Str} : Asc 1000 z → Th CN CC H (.str z)
  | tup0 {a : Addr} : H a = some (.tup []) → Th CN CC H (.ref a)
  | tup1 {a : Addr} (n : Int) : H a = some (.tup [.int n]) → Th CN CC H (.ref a)
  | tup2 {a b : Addr} (m n : Int) : H a = some (.tup [.int m, .ref b]) → H b = some (.tup [.int n, .non]) → Th CN CC H (.ref a)
  | tup11 {a : Addr} (m n : Int) : H a = some (.tup [.int m, .int n]) → Th CN CC H (.ref a)
  | case {a dx : Addr} {z : Str} (n : Int) : Asc 1000 z → H a = some (.ins CC dx (csF (.str z) (.int n))) → Th CN CC H (.ref a)
  | node {a dx : Addr} {fs : List (Str × V)} : H a = some (.ins CN dx fs) → Th CN CC H (.ref a)
/-- tuples and objects stay -/
def TI (H H' : Hp) : Prop := (∀ b xs, H b = some (.tup xs) → H' b = some (.tup xs)) ∧ ∀ b C dx fs, H b = some (.ins C dx fs) → H' b = some (.ins C dx fs)
theorem TI.refl {H : Hp} : TI H H := ⟨fun _ _ h => h, fun _ _ _ _ h => h⟩
theorem TI.trans {H H1 H2 : Hp} (h : TI H H1) (k : TI H1 H2) : TI H H2 := ⟨fun b xs e => k.1 b xs (h.1 b xs e), fun b C dx fs e => k.2 b C dx fs (h.2 b C dx fs e)⟩
theorem Same.ti {H H' : Hp} (s : Same H H') : TI H H' := ⟨fun b xs e => s b _ e, fun b C dx fs e => s b _ e⟩
theorem Fn.ti {n m : Nat} {a : Addr} {H H' : Hp} (f : Fn n a H H') (h : IsWn m H a) : TI H H' := by
  obtain ⟨x, y, z, e, _⟩ := h
  exact ⟨fun b xs h => f.k b _ (ne_of h e (by intro z; cases z)) h, fun b C dx fs h => f.k b _ (ne_of h e (by intro z; cases z)) h⟩
theorem Th.ti {CN CC : Addr} {H H' : Hp} {v : V} (h : Th CN CC H v) (k : TI H H') : Th CN CC H' v := by
  cases h with
  | int n => exact .int n
  | bl b => exact .bl b
  | non => exact .non
  | str z => exact .str z
  | tup0 e => exact .tup0 (k.1 _ _ e)
  | tup1 n e => exact .tup1 n (k.1 _ _ e)
  | tup2 m n e e2 => exact .tup2 m n (k.1 _ _ e) (k.1 _ _ e2)
  | tup11 m n e => exact .tup11 m n (k.1 _ _ e)
  | case n z e => exact .case n z (k.2 _ _ _ _ e)
  | node e => exact .node (k.2 _ _ _ _ e)
section
variable {P : Program} {w : World} {K : PySem.W.Frag} {mg : Str → Option Value} {base : Heap} {CN CC : Addr}
theorem ok_cinit {C : Addr} {dvs : List V} {f : Addr} {fd : FuncData} (F : FunD K "__init__" "Case.__init__" (defArgs s_Case___init__) (defBody s_Case___init__) (defScope s_Case___init__) dvs [] f fd) (cl : Cls K C) (nW : NoAttr K C "word") (nC : NoAttr K C "content") : FnOk P w K mg base CX0 1 f fd cPs (spCInit C) := by
  refine FunD.ok (CX := CX0) F sc_Case___init__ (fun vs H Q E h => ?_) (fun cdv A outer s H vs Q E hr h => ?_)
  · obtain ⟨p, dx, x, c, rfl, _⟩ := h
    rfl
  · obtain ⟨p, dx, x, c, rfl, hp, q⟩ := h
    refine ⟨_, PSs.nox ((pss_cons (ps_fld (pv 0) (pv 1) rfl)
      (pss_one (ps_fld (pv 0) (pv 2) rfl)))), ?_⟩
    refine ⟨_, rfl, _, rfl, p, C, dx, [], rfl, hp, cl, nW, (by show 0 < 1000; decide), _, rfl, _, rfl, p, C, dx, _, rfl, upd_same, cl, nC, (by show 1 < 1000; decide), ?_⟩
    refine q _ (fun b o nb e => ?_) ?_
    · rw [upd_ne nb, upd_ne nb]
      exact e
    · rw [upd_same, cs_init]
def spThing (CN CC : Addr) : Sp := fun vs H Q _ => ∃ (a p : Addr) (ys : List V) (n : Nat), vs = [.ref a, .ref p] ∧ IsWn n H a ∧ n + 10000 < many ∧ H p = some (.lst ys) ∧ p ≠ a ∧ 0 < ys.length ∧ ys.length < 1000 ∧ (∀ y ∈ ys, Th CN CC H y) ∧ ∀ (H' : Hp) (v : V), Fn (n + 20) a H H' → Th CN CC H' v → Q v H'
theorem ok_thing {f : Addr} {fd : FuncData} (F : Fun K "_law_thing" "_law_thing" s__law_thing f fd) (T : Bt mg) (KC : CaseC P w K mg base CC) (c__law_draw : Cal P w K mg base 1 "_law_draw" ["_law_well_here", "_law_many"] spDraw) (c__law_one : Cal P w K mg base 2 "_law_one" ["_law_well_here", "_law_some"] (spOne K)) (c__law_text : Cal P w K mg base 3 "_law_text" ["_law_well_here", "_law_least", "_law_most"] spText) :
    FnOk P w K mg base CX0 4 f fd ["_law_well_here", "_law_nodes"] (spThing CN CC) := by
  obtain ⟨fC, fdC, CM, CF, CB, _⟩ := KC.ex
  refine F.ok sc__law_thing (fun vs H Q E h => ?_) (fun cdv A outer s H vs Q E hr h => ?_)
  · obtain ⟨a, p, ys, n, rfl, _⟩ := h
    rfl
  · obtain ⟨a, p, ys, n, rfl, hw, hn, hp, npa, l0, l1, hy, q⟩ := h
    refine ⟨_, (pss_cons (ps_set (i := 2) sc__law_thing.nd rfl (.inl rfl) (pe_cal c__law_draw hr (by decide) (by rfl) (pa_cons (pv 0) (pa_cons pe_int pa_nil))))
      (pss_cons (ps_set (i := 3) sc__law_thing.nd rfl (.inl rfl) (pe_op op_sub (pe_cal c__law_draw hr (by decide) (by rfl) (pa_cons (pv 0) (pa_cons (pe_op op_pow pe_int pe_int) pa_nil))) (pe_op op_mul pe_int (pe_op op_pow pe_int pe_int))))
      (pss_cons (ps_if (pt_cmpR op_eq (pv 2) pe_int (nomark _))
        (pss_one (ps_ret (pv 3)))
        pss_nil)
      (pss_cons (ps_if (pt_cmpR op_eq (pv 2) pe_int (nomark _))
        (pss_one (ps_ret (pe_cmpR op_gt (pv 3) pe_int (nomark _))))
        pss_nil)
      (pss_cons (ps_if (pt_cmpR op_eq (pv 2) pe_int (nomark _))
        (pss_one (ps_ret (pe_cal c__law_text hr (by decide) (by rfl) (pa_cons (pv 0) (pa_cons pe_int (pa_cons pe_int pa_nil))))))
        pss_nil)
      (pss_cons (ps_if (pt_cmpR op_eq (pv 2) pe_int (nomark _))
        (pss_one (ps_ret pe_non))
        pss_nil)
      (pss_cons (ps_if (pt_cmpR op_eq (pv 2) pe_int (nomark _))
        (pss_one (ps_ret (pe_slice (r := rSlA K) sl_tupA (pe_tup (pa_cons (pv 3) (pa_cons (pe_tup (pa_cons (pv 3) (pa_cons pe_non pa_nil))) pa_nil))) po_none (po_some (pe_cal c__law_draw hr (by decide) (by rfl) (pa_cons (pv 0) (pa_cons pe_int pa_nil)))))))
        pss_nil)
      (pss_cons (ps_if (pt_cmpR op_eq (pv 2) pe_int (nomark _))
        (pss_one (ps_ret (pe_make CM CF (hr.mono (by decide)) (by rfl) KC.g CB .nil pass0 (pa_cons (pe_cal c__law_text hr (by decide) (by rfl) (pa_cons (pv 0) (pa_cons pe_int (pa_cons pe_int pa_nil)))) (pa_cons (pv 3) pa_nil)))))
        pss_nil)
      (pss_one (ps_ret (pe_cal c__law_one hr (by decide) (by rfl) (pa_cons (pv 0) (pa_cons (pv 1) pa_nil))))))))))))), ?_⟩
    have hn' : n + 10000 < 1000000000 := hn
    refine ⟨_, rfl, a, _, n, rfl, hw, (show n < 1000000000 by omega), by decide, by decide, fun z H1 z0 z8 f1 => ?_⟩
    refine ⟨_, rfl, 10, 9, rfl, rfl, ⟨by decide, by decide, by decide⟩, a, _, n + 1, rfl, f1.w, (show n + 1 < 1000000000 by omega), by decide, by decide, fun u H2 u0 u1 f2 => ?_⟩
    have f12 := f1.trans f2
    refine ⟨10, 8, rfl, rfl, ⟨by decide, by decide, by decide⟩, 5, _, rfl, rfl, .inl ⟨by decide, by decide⟩, _, _, rfl, rfl, ?_⟩
    dsimp only
    generalize (u - 5 * 10 ^ (8 : Int).toNat : Int) = nn
    refine ⟨_, rfl, rfl, _, rfl, ?_⟩
    refine iteB (fun _ => ⟨_, rfl, q _ _ (f12.mono (by omega)) (.int _)⟩) (fun _ => ?_)
    refine ⟨_, rfl, rfl, _, rfl, ?_⟩
    refine iteB (fun _ => ⟨_, rfl, _, _, rfl, rfl, q _ _ (f12.mono (by omega)) (.bl _)⟩) (fun _ => ?_)
    refine ⟨_, rfl, rfl, _, rfl, ?_⟩
    refine iteB (fun _ => ⟨_, rfl, a, 0, 5, n + 1 + 1, rfl, f12.w, (show n + 1 + 1 + 2000 < 1000000000 by omega), by decide, by decide, fun H3 s f3 hs => q _ _ ((f12.trans f3).mono (by omega)) (.str (hs.mono (by decide)))⟩) (fun _ => ?_)
    refine ⟨_, rfl, rfl, _, rfl, ?_⟩
    refine iteB (fun _ => q _ _ (f12.mono (by omega)) .non) (fun _ => ?_)
    refine ⟨_, rfl, rfl, _, rfl, ?_⟩
    refine iteB (fun _ => ?_) (fun _ => ?_)
    · refine ⟨_, rfl, _, rfl, by show 2 ≤ sizeLine; decide, fun t2 ht2 => ⟨by show 2 ≤ sizeLine; decide, fun t1 ht1 => ?_⟩⟩
      have s3 := (same_upd (o := .tup [.int nn, .non]) ht2).trans (same_upd (o := .tup [.int nn, .ref t2]) ht1)
      have hT1 : (upd (upd H2 t2 (.tup [.int nn, .non])) t1 (.tup [.int nn, .ref t2])) t1 = some (.tup [.int nn, .ref t2]) := upd_same
      have hT2 : (upd (upd H2 t2 (.tup [.int nn, .non])) t1 (.tup [.int nn, .ref t2])) t2 = some (.tup [.int nn, .non]) := (same_upd ht1) _ _ upd_same
      have f3 := f12.same s3
      generalize upd (upd H2 t2 (.tup [.int nn, .non])) t1 (.tup [.int nn, .ref t2]) = H3 at s3 hT1 hT2 f3 ⊢
      refine ⟨_, rfl, a, 3, n + 1 + 1, rfl, f3.w, (show n + 1 + 1 < 1000000000 by omega), by decide, by decide, fun r H4 r0 r1 f4 => ⟨_, rfl, t1, _, rfl, SqT.of (f4.k _ _ (ne_of hT1 f3.w.choose_spec.choose_spec.choose_spec.1 (by intro z; cases z)) hT1), fun _ => ?_, fun _ pp hpp => ?_⟩⟩
      · have hti := (f4.ti f3.w)
        exact q _ _ ((f3.trans f4).mono (by omega)) (.tup2 nn nn (hti.1 _ _ hT1) (hti.1 _ _ hT2))
      · have hti := (f4.ti f3.w)
        have s5 := same_upd (o := .tup (cutV [.int nn, .ref t2] none (some r))) hpp
        refine q _ _ (((f3.trans f4).same s5).mono (by omega)) ?_
        obtain rfl | rfl | rfl : r = 0 ∨ r = 1 ∨ r = 2 := by omega
        · exact .tup0 upd_same
        · exact .tup1 nn upd_same
        · exact .tup2 nn nn upd_same (s5 _ _ (hti.1 _ _ hT2))
    refine ⟨_, rfl, rfl, _, rfl, ?_⟩
    refine iteB (fun _ => ?_) (fun _ => ?_)
    · refine ⟨_, rfl, a, 1, 3, n + 1 + 1, rfl, f12.w, (show n + 1 + 1 + 2000 < 1000000000 by omega), by decide, by decide, fun H3 s f3 hs => ⟨_, rfl, fun x dx hx hdx ndx => ?_⟩⟩
      have f23 := f12.trans f3
      have s4 : Same H3 (upd (upd H3 dx (.own x)) x (.ins CC dx [])) := fun b o e => by
        rw [upd_ne (ne_of_none e hx), upd_ne (ne_of_none e hdx)]
        exact e
      refine ⟨x, dx, _, _, rfl, upd_same, fun H5 k5 h5 => ⟨rfl, ?_⟩⟩
      have s5 : Same H3 H5 := fun b o e => k5 b o (ne_of_none e hx) (s4 _ _ e)
      exact q _ _ ((f23.same s5).mono (by omega)) (.case nn (hs.mono (by decide)) h5)
    have hp2 := f12.k p _ npa hp
    exact ⟨_, rfl, _, rfl, a, n + 1 + 1, _, rfl, f12.w, (show n + 1 + 1 < 1000000000 by omega), .inl ⟨p, ys, rfl, hp2, npa, l0, (by omega), fun H3 y f3 hm => q _ _ ((f12.trans f3).mono (by omega)) ((hy y hm).ti ((f12.trans f3).ti hw))⟩⟩
end
end K11
/-! TwN: an object of a class without an own __eq__ is equal to itself. -/
namespace Tw
open PySem PySem.Spec PyProof.Rows L2 Sb
def strKeysB (es : Array DictEntry) : Bool := es.toList.all fun e => match e.key with | .str _ _ => true | _ => false
theorem strKeys_of {es : Array DictEntry} (h : strKeysB es = true) : StrKeys es := fun e he => by
  have h1 := (List.all_eq_true.mp h) e (by simpa using he)
  cases hk : e.key with
  | str n t => exact ⟨n, t, rfl⟩
  | _ => rw [hk] at h1; cases h1
/-- a class over object alone, without an own __eq__ and __ne__ -/
structure PlainEq (K : PySem.W.Frag) (C : Addr) : Prop where
  ex : ∃ (nm q : Str) (N : Addr) (bs : List Value) (hdct : Bool) (sn : List Str) (sub : List Value) (ab : Bool) (col : Option Bool) (dd : Option Addr) (k0 k1 k2 k3 k5 : Option Value) (newId : String) (cl : Value) (d : Option Addr) (es : Array DictEntry) (ep : Nat) (sl : Array (Option Value)),
    K.lookup C = some (excClassObj nm q C N bs [.type "object"] hdct sn sub ab col dd k0 k1 k2 k3 k5 newId) ∧ K.lookup N = some ⟨cl, d, .dict es ep, sl⟩ ∧ strKeysB es = true ∧ (nsFind es "__eq__").isNone = true ∧ (nsFind es "__ne__").isNone = true
theorem op_eqN {X : Cx} {C : Addr} (E : PlainEq X.K C) (hu : X.A.units < cLine) : OpR X (compareOp .Eq) (fun x y H Q => ∃ a dx fs, x = .ref a ∧ y = .ref a ∧ H a = some (.ins C dx fs) ∧ Q (.bl true) H) := by
  rintro pins s σ H x y v u Q I rx ry ⟨a, dx, fs, rfl, rfl, ha, q⟩
  cases rx
  cases ry
  have hx : ObjOk X.prog X.w H s.heap a (.ins C dx fs) := I.hok a _ ha
  obtain ⟨nm, q2, N, bs, hdct, sn, sub, ab, col, dd, k0, k1, k2, k3, k5, newId, cl, d, es, ep, sl, h1, h2, h3, h4, h5⟩ := E.ex
  obtain ⟨_, _, _, hg, _⟩ := hx
  exact compareOp_eq_same PySem.F.cmp_object ⟨_, nm, q2, N, bs, hdct, sn, sub, ab, col, dd, k0, k1, k2, k3, k5, newId, nsFind es, hg, rfl, I.kIn _ _ h1, ⟨_, es, ep, I.kIn _ _ h2, rfl, strKeys_of h3, fun _ => rfl⟩, Option.isNone_iff_eq_none.mp h4, Option.isNone_iff_eq_none.mp h5⟩ hu ⟨.bl true, H, I, rfl, q⟩
end Tw
namespace K11
open PySem PySem.Spec PyProof.Rows L2 Tw Sb
/-- the class's facts for isinstance -/
structure InsF (K : PySem.W.Frag) (C : Addr) : Prop where
  cl : Cls K C
  a : PySem.W.findIn K (.ref C) "__class__" = some (some (.builtin "object.__class__"))
  n : PySem.W.specialIn K (.builtin "object.__class__") "__get__" = some (some (.builtin "getset_descriptor.__get__"))
  t : PySem.W.takesIn K (.builtin "object.__class__") = some true
  m : PySem.W.mroIn K C (.type "object") = some true
  b : PySem.W.kitOne K (.ref C) (.type "bool") = some false
theorem InsF.ty {K : PySem.W.Frag} {C : Addr} (h : InsF K C) {H : Hp} {a dx : Addr} {fs : List (Str × V)} (e : H a = some (.ins C dx fs)) : TyX K H (.ref a) (.ref C) := .base (.ins e h.cl h.a h.n h.t h.m)
theorem kit_self {K : PySem.W.Frag} {C : Addr} : PySem.W.kitOne K (.ref C) (.ref C) = some true := by
  unfold PySem.W.kitOne
  rw [if_pos (by simp)]
theorem lk_word (x c : V) : (csF x c).lookup ("word" : Str) = some x := by simp [csF, List.lookup]
theorem lk_content (x c : V) : (csF x c).lookup ("content" : Str) = some c := by
  have e : (("content" : Str) == ("word" : Str)) = false := by decide +kernel
  simp [csF, List.lookup, e]
def CaseR (CC : Addr) (a b : Addr) (H : Hp) : Prop := a = b ∧ ∃ (dx : Addr) (z : Str) (n : Int), Asc 1000 z ∧ H a = some (.ins CC dx (csF (.str z) (.int n)))
section
variable {P : Program} {w : World} {K : PySem.W.Frag} {mg : Str → Option Value} {base : Heap} {CN CC : Addr}
theorem ok_ceq {f : Addr} {fd : FuncData} (F : Fun K "__eq__" "Case.__eq__" s_Case___eq__ f fd) (T : Bt mg) (IC : InsF K CC) (nW : NoAttr K CC "word") (nC : NoAttr K CC "content") (g_Case : ∃ u, mg "Case" = some u ∧ RelV (.ref CC) u) : FnOk P w K mg base CX0 1 f fd ["self", "other"] (spEq (CaseR CC)) := by
  refine F.ok sc_Case___eq__ (fun vs H Q E h => ?_) (fun cdv A outer s H vs Q E hr h => ?_)
  · obtain ⟨a, b, rfl, _⟩ := h
    rfl
  · obtain ⟨a, b, rfl, ⟨rfl, dx, z, n, hz, ha⟩, q⟩ := h
    refine ⟨_, (pss_one (ps_ret (pe_and (pe_callB (id := "isinstance") (r := rIsi K) call_isi (by rfl) T.n_isinstance (by decide +kernel) (pa_cons (pv 1) (pa_cons (C8.pe_gc rfl g_Case) pa_nil))) (pe_and (pe_cmpR op_eq (pe_fld (pv 0) rfl) (pe_fld (pv 1) rfl) (nomark _)) (pe_one (pe_cmpR op_eq (pe_fld (pv 0) rfl) (pe_fld (pv 1) rfl) (nomark _))))))), ?_⟩
    refine ⟨_, rfl, .ref a, .ref CC, .ref CC, .ref CC, true, rfl, .own CC, IC.ty ha, kit_self, true, rfl, iteT ?_⟩
    refine ⟨_, rfl, a, CC, dx, _, _, rfl, ha, IC.cl, nW, lk_word _ _, _, rfl, a, CC, dx, _, _, rfl, ha, IC.cl, nW, lk_word _ _, rfl, _, rfl, ?_⟩
    rw [decide_eq_true (show V.str z = V.str z from rfl)]
    refine iteT ⟨_, rfl, a, CC, dx, _, _, rfl, ha, IC.cl, nC, lk_content _ _, _, rfl, a, CC, dx, _, _, rfl, ha, IC.cl, nC, lk_content _ _, rfl, ?_⟩
    rw [decide_eq_true (show V.int n = V.int n from rfl)]
    exact q _ Ext.rfl'
def spAlike (CN CC : Addr) : Sp := fun vs H Q _ => ∃ (v : V), vs = [v, v] ∧ Th CN CC H v ∧ ∀ H', Same H H' → Q (.bl true) H'
/-- is it a truth? -/
theorem Th.ty {H : Hp} {v : V} (IC : InsF K CC) (IN : InsF K CN) (h : Th CN CC H v) : ∃ (t : Value) (b : Bool), TyX K H v t ∧ PySem.W.kitOne K t (.type "bool") = some b := by
  cases h with
  | int n => exact ⟨_, false, .base (.int n), kit_ty (by decide +kernel)⟩
  | bl c => exact ⟨_, true, .base (.bl c), kit_ty (by decide +kernel)⟩
  | non => exact ⟨_, false, .base .non, kit_ty (by decide +kernel)⟩
  | str z => exact ⟨_, false, .base (.str _), kit_ty (by decide +kernel)⟩
  | tup0 e => exact ⟨_, false, .base (.tup e), kit_ty (by decide +kernel)⟩
  | tup1 n e => exact ⟨_, false, .base (.tup e), kit_ty (by decide +kernel)⟩
  | tup2 m n e e2 => exact ⟨_, false, .base (.tup e), kit_ty (by decide +kernel)⟩
  | tup11 m n e => exact ⟨_, false, .base (.tup e), kit_ty (by decide +kernel)⟩
  | case n z e => exact ⟨_, false, IC.ty e, IC.b⟩
  | node e => exact ⟨_, false, IN.ty e, IN.b⟩
theorem ok_alike {fE : Addr} {fdE : FuncData} {f : Addr} {fd : FuncData} (F : Fun K "_law_alike" "_law_alike" s__law_alike f fd) (T : Bt mg) (IC : InsF K CC) (IN : InsF K CN) (PN : PlainEq K CN) (FE : FnOk P w K mg base CX0 1 fE fdE ["self", "other"] (spEq (CaseR CC)))
    (e1 : PySem.W.findIn K (.ref CC) "__eq__" = some (some (.ref fE))) (e2 : PySem.W.isFn K (.ref fE) = true) (e3 : Binds K fdE ["self", "other"] []) : FnOk P w K mg base CX0 2 f fd ["_law_found", "_law_due"] (spAlike CN CC) := by
  refine F.ok sc__law_alike (fun vs H Q E h => ?_) (fun cdv A outer s H vs Q E hr h => ?_)
  · obtain ⟨v, rfl, _⟩ := h
    rfl
  · obtain ⟨v, rfl, hv, q⟩ := h
    refine ⟨_, (pss_one (ps_ret (pe_and (pe_cmpR op_eq (pe_callB (id := "isinstance") (r := rIsi K) call_isi (by rfl) T.n_isinstance (by decide +kernel) (pa_cons (pv 0) (pa_cons (pe_bltn (v := .ty "bool") rfl T.n_bool (by decide +kernel) rfl) pa_nil))) (pe_callB (id := "isinstance") (r := rIsi K) call_isi (by rfl) T.n_isinstance (by decide +kernel) (pa_cons (pv 1) (pa_cons (pe_bltn (v := .ty "bool") rfl T.n_bool (by decide +kernel) rfl) pa_nil))) (nomark _)) (pe_one (pe_cmpR (OpR.or (op_eqD hr.units) (OpR.or (op_eqG (rcG_ins (E := E0) FE e1 e2 e3 pass0) (hr.mono (by decide))) (op_eqN PN (Nat.lt_of_le_of_lt (Nat.le_add_right _ 64) hr.units)))) (pv 0) (pv 1) (nomark _)))))), ?_⟩
    obtain ⟨t, b, hty, hk⟩ := hv.ty IC IN
    refine ⟨_, rfl, v, .ty "bool", t, .type "bool", b, rfl, .ty "bool", hty, hk, _, rfl, v, .ty "bool", t, .type "bool", b, rfl, .ty "bool", hty, hk, rfl, _, rfl, ?_⟩
    rw [decide_eq_true (show V.bl b = V.bl b from rfl)]
    refine iteT ?_
    have dat : ∀ d : PyData, Dp K H v d → SeqAt.shaped d = true → PyData.eqv d d = true → rEqD K v v H Q := fun d h1 h2 h3 => ⟨d, d, h1, h1, h2, h2, by rw [h3]; exact q H (Same.refl _)⟩
    refine ⟨v, rfl, v, rfl, ?_⟩
    cases hv with
    | int n => exact .inl (dat (.int n) (.int n) rfl (by simp [PyData.eqv]))
    | bl c => exact .inl (dat (.bool c) (.bl c) rfl (by cases c <;> rfl))
    | non => exact .inl (dat .none .non rfl rfl)
    | str hz => exact .inl (dat (.str _) (.str _) (by unfold SeqAt.shaped; rw [Bool.and_eq_true]; exact ⟨hz.ok, rfl⟩) (by simp [PyData.eqv]))
    | tup0 e => exact .inl (dat (.tuple []) (.tup (SqT.of e) .nil) rfl rfl)
    | tup1 n e => exact .inl (dat (.tuple [.int n]) (.tup (SqT.of e) (.cons (.int n) .nil)) rfl (by simp [PyData.eqv, PyData.eqvAll]))
    | tup11 m n e => exact .inl (dat (.tuple [.int m, .int n]) (.tup (SqT.of e) (.cons (.int m) (.cons (.int n) .nil))) rfl (by simp [PyData.eqv, PyData.eqvAll]))
    | tup2 m n e e2 => exact .inl (dat (.tuple [.int m, .tuple [.int n, .none]]) (.tup (SqT.of e) (.cons (.int m) (.cons (.tup (SqT.of e2) (.cons (.int n) (.cons .non .nil))) .nil))) rfl (by simp [PyData.eqv, PyData.eqvAll]))
    | case n hz e => exact .inr (.inl ⟨⟨_, _, _, _, _, _, rfl, rfl, e, e, rfl, _, _, n, hz, e⟩, fun H' x => q H' x⟩)
    | node e => exact .inr (.inr ⟨_, _, _, rfl, rfl, e, q H (Same.refl _)⟩)
end
end K11
/-! TwD: tuples out of a dict's entries; a dict out of a tuple of pairs. -/
namespace Tw
open PySem PySem.Spec PyProof.Rows L2 Sb
open AutoSeq1 (wpAny_loadPart')
set_option maxHeartbeats 2000000 in
theorem meets_tuple_items {prog : Program} {w : World} (r d : Addr) (es : Array DictEntry) (ep : Nat) :
    MeetsIn prog w (Builtin.«tuple.__new__» { pos := [.type "tuple", .ref r] }) (fun A R s => A.handled = none ∧ s.heap.IsItemsView r d ∧ s.heap.DictRaw d es ep ∧ es.size ≤ sizeLine ∧
      ∀ (h' : Heap) (tk : Nat) (as : List Addr), (∀ (b : Addr) (o : Obj), s.heap.get? b = some o → h'.get? b = some o) → as.length = es.size → PySem.W.DilG es s.heap.objs.size h' as →
        R (.ok (.ret (.ref h'.objs.size))) { heap := h'.push { cls := .type "tuple", data := .seq (as.map Value.ref).toArray }, gens := s.gens, drawn := s.drawn, toks := tk, os := s.os }) := by
  intro A R s hz
  obtain ⟨hp, g, dr, tk0, os⟩ := s
  obtain ⟨hh, hv, hd, hs, h⟩ := hz
  have hh1 : A.in1.handled = none := hh
  obtain ⟨o, ho, hc, hdd⟩ := id hv
  have k2 := AutoSeq1.sub_tuple_tuple
  have k3 := PySem.madeHere_tuple
  have k4 := PySem.init_tuple_lookup
  wp_walk using (PySem.W.dil_collect hh1 hv hd hs), wpAny_loadPart' ho
  intro h' tk as q1 q2 q3
  have e := h h' tk as q1 q2 q3
  wp_walk
  exact e
theorem inv_more {X : Cx} {pins : List (Addr × Obj)} {σ : L2.St} {H H' : Hp} {s : Shared} {h' : Heap} {tk : Nat} (I : Inv X pins σ H s) (hk : ∀ (b : Addr) (u : Obj), s.heap.get? b = some u → h'.get? b = some u) (hs : Same H H')
    (hn : ∀ b o, H b = none → H' b = some o → s.heap.objs.size ≤ b ∧ ObjOk X.prog X.w H' h' b o) : Inv X pins σ H' { heap := h', gens := s.gens, drawn := s.drawn, toks := tk, os := s.os } := by
  refine I.step (ch := []) (fun b hb => by cases hb) (fun b o _ _ _ h _ => hk b o h) (fun b o _ _ _ h _ => ⟨o.slots, hk b o h⟩) (fun b o _ h e => ?_) (fun b o _ h => ⟨o, hk b o h⟩) (fun b xs e => hs b _ e) (fun b o u e => hs b _ e) (fun b ps e => ⟨#[], by rw [hs b _ e]; simp⟩) (fun m h => ?_) (fun b o e => ?_) I.bare
  · cases e2 : H' b with
    | none => rfl
    | some o2 =>
      exact absurd (Heap.lt_size h) (Nat.not_lt.mpr (hn b o2 e e2).1)
  · obtain ⟨o, es, ep, h1, h2⟩ := h
    exact ⟨o, es, ep, hk _ _ h1, h2⟩
  · cases e2 : H b with
    | none => exact (hn b o e2 e).2
    | some o2 =>
      have e3 := hs b o2 e2
      rw [e] at e3
      cases e3
      exact (I.hok b o e2).stay (fun c u _ h => hk c u h) (fun c h => hs c _ h) (fun c xs h => hs c _ h)
theorem mt_itemsK {X : Cx} : MtR X "dict.items" (fun x xs H Q => ∃ (a : Addr) (kvs : List (Key × V)), x = .ref a ∧ xs = [] ∧ H a = some (.dK kvs) ∧ ∀ p, H p = none → Q (.ref p) (upd H p (L2.DX.itemsO p a))) := by
  rintro pins s σ H x xs v us Q I rx rv ⟨a, kvs, rfl, rfl, ha, q⟩
  cases rx
  cases rv
  obtain ⟨hl, nsys, vs, kv, D⟩ := dk_of I.hok ha
  obtain ⟨es, ep, raw, hsz, hes⟩ := D.raw
  have hd : ∃ o, s.heap.get? a = some o ∧ o.cls = .type "dict" := by
    have h1 := raw
    obtain ⟨o, h2, h3⟩ := h1
    exact ⟨o, h2, h3.1.1⟩
  refine call_meetsIn F.slot_dict_items hd F.entry_dict_items (F.args_dict_items_1 _) (meets_dict_items_raw a nsys) ⟨⟨es, ep, raw⟩, .ref s.heap.objs.size, _, inv_more I (H' := upd H s.heap.objs.size (L2.DX.itemsO s.heap.objs.size a)) (fun b u e => Heap.get?_push_of_some _ e) (same_upd I.fresh) (fun b o e e2 => ?_), rfl, q _ I.fresh⟩
  by_cases hb : b = s.heap.objs.size
  · subst hb
    rw [upd_same] at e2
    cases e2
    exact ⟨Nat.le_refl _, L2.DX.itemsO_ok (Heap.get?_push_size _ rfl)⟩
  · rw [upd_ne hb, e] at e2
    cases e2
/-- an exact tuple -/
def PTup (H : Hp) (t : Addr) (xs : List V) : Prop := ∃ o : Obj, H t = some (.frz o (.tup xs)) ∧ o.cls = .type "tuple" ∧ o.dict = none
def rTupItems : List V → Hp → VK → Prop := fun xs H Q => ∃ (p d : Addr) (kvs : List (Key × V)), xs = [.ref p] ∧ H p = some (L2.DX.itemsO p d) ∧ H d = some (.dK kvs) ∧
  ∀ (H' : Hp) (t : Addr) (ts : List Addr), Same H H' → H t = none → (∀ q ∈ ts, H q = none) → t ∉ ts → PTup H' t (ts.map V.ref) → Paired (fun q kv => H' q = some (.tup [kV kv.1, kv.2])) ts kvs → Q (.ref t) H'
theorem zip_lookup {α : Type} : ∀ {as : List Nat} {xs : List α} {j a : Nat} {x : α}, as.Pairwise (· < ·) → as[j]? = some a → xs[j]? = some x → (as.zip xs).lookup a = some x
  | [], _, _, _, _, _, h, _ => by cases h
  | _ :: _, [], _, _, _, _, _, h => by cases h
  | b :: as, y :: xs, 0, a, x, _, h1, h2 => by
    cases h1
    cases h2
    simp [List.lookup]
  | b :: as, y :: xs, j + 1, a, x, hp, h1, h2 => by
    have hm : a ∈ as := List.mem_of_getElem? (i := j) h1
    have hlt := (List.pairwise_cons.mp hp).1 a hm
    have ne : (a == b) = false := by simp; omega
    simp only [List.zip_cons_cons, List.lookup, ne]
    exact zip_lookup (List.pairwise_cons.mp hp).2 h1 h2
theorem lookup_at {α : Type} : ∀ {as : List Nat} {xs : List α} {a : Nat} {x : α}, (as.zip xs).lookup a = some x → ∃ j : Nat, as[j]? = some a ∧ xs[j]? = some x
  | [], _, _, _, h => by cases h
  | _ :: _, [], _, _, h => by cases h
  | b :: as, y :: xs, a, x, h => by
    by_cases e : a = b
    · subst e
      simp [List.lookup] at h
      exact ⟨0, rfl, by simp [h]⟩
    · have ne : (a == b) = false := by simpa using e
      simp only [List.zip_cons_cons, List.lookup, ne] at h
      obtain ⟨j, h1, h2⟩ := lookup_at h
      exact ⟨j + 1, h1, h2⟩
theorem pd_atR' {α β : Type} {F : α → β → Prop} : ∀ {xs : List α} {ys : List β} {i : Nat} {x : α}, Paired F xs ys → xs[i]? = some x → ∃ y, ys[i]? = some y ∧ F x y
  | _, _, 0, _, .cons h _, e => ⟨_, rfl, by cases e; exact h⟩
  | _, _, i + 1, _, .cons _ t, e => pd_atR' (i := i) t e
theorem pd_of {α β : Type} {F : α → β → Prop} : ∀ {xs : List α} {ys : List β}, xs.length = ys.length → (∀ (i : Nat) x y, xs[i]? = some x → ys[i]? = some y → F x y) → Paired F xs ys
  | [], [], _, _ => .nil
  | [], _ :: _, h, _ => by cases h
  | _ :: _, [], h, _ => by cases h
  | x :: xs, y :: ys, h, k => .cons (k 0 x y rfl rfl) (pd_of (Nat.succ.inj h) fun i a b h1 h2 => k (i + 1) a b h1 h2)
theorem vals_refs : ∀ as : List Addr, Vals (as.map V.ref) (as.map Value.ref)
  | [] => .nil
  | _ :: r => .cons rfl (vals_refs r)
theorem cr_tupItems {X : Cx} (hc : X.calm = true) : CallR X (.type "tuple") rTupItems := by
  rintro pins s σ H xs us Q I r ⟨p, d, kvs, rfl, hp, hd, q⟩
  obtain ⟨u, rfl, ru⟩ := r.one
  cases ru
  have hv : s.heap.IsItemsView p d := (show _ ∧ _ from I.hok p _ hp).1
  obtain ⟨hl, nsys, vs, kv, D⟩ := dk_of I.hok hd
  obtain ⟨es, ep, raw, hsz, hes⟩ := D.raw
  have hlv : kvs.length = vs.length := pd_len kv
  refine callType_newIn F.called_tuple (by decide) (F.typeCall_tuple_1 _) (F.newCall_tuple_1 _) (fun _ => rfl) F.entry_tuple_new (meets_tuple_items p d es ep) ⟨I.ok.hd hc, hv, raw, by omega, fun h' tk as k1 k2 k3 => ⟨⟨_, Heap.get?_push_size _ rfl, rfl⟩, ?_⟩⟩
  -- the pairs
  have hp1 : ∀ (j : Nat) (a : Addr), as[j]? = some a → ∃ kv0 : Key × V, kvs[j]? = some kv0 ∧ H a = none ∧ s.heap.objs.size ≤ a ∧ ∃ us, Vals [kV kv0.1, kv0.2] us ∧ IsTup h' a us.toArray := by
    intro j a ha
    obtain ⟨hj, hg⟩ := k3.pairs j a ha
    have hjk : j < kvs.length := by omega
    have hjv : j < vs.length := by omega
    obtain ⟨e1, e2⟩ := hes j hj vs[j].1 vs[j].2 (List.getElem?_eq_getElem hjv)
    have hab := k3.above a (List.mem_of_getElem? ha)
    obtain ⟨q2, h1, h2, h3⟩ := pd_atR' kv (List.getElem?_eq_getElem hjk)
    rw [List.getElem?_eq_getElem hjv] at h1
    cases h1
    refine ⟨kvs[j], List.getElem?_eq_getElem hjk, ?_, Nat.le_of_lt hab, [es[j].key, es[j].val], ?_, ⟨_, hg, rfl, _, rfl⟩⟩
    · exact I.hok.fresh (Nat.le_of_lt hab)
    · refine .cons (relV_key ?_) (.cons ?_ .nil)
      · rw [h2]
        exact e1
      · rw [e2]
        exact h3
  let H1 : Hp := fun b => match (as.zip kvs).lookup b with | some kv0 => some (.tup [kV kv0.1, kv0.2]) | none => H b
  have hH1 : ∀ (j : Nat) (a : Addr) (kv0 : Key × V), as[j]? = some a → kvs[j]? = some kv0 → H1 a = some (.tup [kV kv0.1, kv0.2]) := by
    intro j a kv0 ha hk
    show (match (as.zip kvs).lookup a with | some kv0 => some (HO.tup [kV kv0.1, kv0.2]) | none => H a) = _
    rw [zip_lookup k3.rise ha hk]
  have hsame : Same H H1 := fun b o e => by
    show (match (as.zip kvs).lookup b with | some kv0 => some (HO.tup [kV kv0.1, kv0.2]) | none => H b) = _
    cases e2 : (as.zip kvs).lookup b with
    | none => exact e
    | some kv0 =>
      obtain ⟨j, ha, _⟩ := lookup_at e2
      obtain ⟨_, _, h0, _⟩ := hp1 j b ha
      rw [h0] at e
      cases e
  have I1 : Inv X pins σ H1 { heap := h', gens := s.gens, drawn := s.drawn, toks := tk, os := s.os } := by
    refine inv_more I k1 hsame (fun b o e e2 => ?_)
    have e3 : (match (as.zip kvs).lookup b with | some kv0 => some (HO.tup [kV kv0.1, kv0.2]) | none => H b) = some o := e2
    cases e4 : (as.zip kvs).lookup b with
    | none =>
      rw [e4] at e3
      rw [show H b = some o from e3] at e
      cases e
    | some kv0 =>
      rw [e4] at e3
      cases e3
      obtain ⟨j, ha, hk⟩ := lookup_at e4
      obtain ⟨kv1, hk1, _, hb, us, hus, ht⟩ := hp1 j b ha
      rw [hk] at hk1
      cases hk1
      exact ⟨hb, (show 2 ≤ sizeLine by decide), us, hus, ht⟩
  have hT0 : H1 h'.objs.size = none := I1.fresh
  have hTs : ∀ q2 ∈ as, H q2 = none := fun q2 hq => by
    obtain ⟨j, hj⟩ := List.getElem?_of_mem hq
    exact (hp1 j q2 hj).choose_spec.2.1
  have hTn : h'.objs.size ∉ as := fun hm => by
    obtain ⟨j, hj⟩ := List.getElem?_of_mem hm
    obtain ⟨kv1, hk1, _⟩ := hp1 j _ hj
    rw [hH1 j _ _ hj hk1] at hT0
    cases hT0
  have hTH : H h'.objs.size = none := by
    cases e : H h'.objs.size with
    | none => rfl
    | some o =>
      rw [hsame _ _ e] at hT0
      cases hT0
  have hval : Vals (as.map V.ref) (as.map Value.ref) := vals_refs as
  refine ⟨.ref h'.objs.size, upd H1 h'.objs.size (.frz { cls := .type "tuple", data := .seq (as.map Value.ref).toArray } (.tup (as.map V.ref))), ?_, rfl, ?_⟩
  · refine inv_more (s := { heap := h', gens := s.gens, drawn := s.drawn, toks := tk, os := s.os }) I1 (h' := h'.push { cls := .type "tuple", data := .seq (as.map Value.ref).toArray }) (tk := tk) (fun b u e => Heap.get?_push_of_some _ e) (same_upd hT0) (fun b o e e2 => ?_)
    by_cases hb : b = h'.objs.size
    · subst hb
      rw [upd_same] at e2
      cases e2
      refine ⟨Nat.le_refl _, Heap.get?_push_size _ rfl, ?_, as.map Value.ref, hval, ⟨_, Heap.get?_push_size _ rfl, rfl, _, rfl⟩⟩
      rw [List.length_map]
      omega
    · rw [upd_ne hb, e] at e2
      cases e2
  · have s2 := same_upd (o := HO.frz { cls := .type "tuple", data := .seq (as.map Value.ref).toArray } (.tup (as.map V.ref))) hT0
    refine q _ h'.objs.size as (hsame.trans s2) hTH hTs hTn ⟨_, upd_same, rfl, rfl⟩ ?_
    refine pd_of (by omega) fun j a kv0 ha hk => s2 _ _ (hH1 j a kv0 ha hk)
end Tw
/-! TwG: a dict out of a tuple of pairs. -/
namespace Tw
open PySem PySem.Spec PyProof.Rows L2 Sb
theorem list_choice {α β : Type} : ∀ {P : Nat → α → β → Prop} (l : List α), (∀ (j : Nat) x, l[j]? = some x → ∃ y, P j x y) → ∃ L : List β, L.length = l.length ∧ ∀ (j : Nat) x, l[j]? = some x → ∃ y, L[j]? = some y ∧ P j x y
  | P, [], _ => ⟨[], rfl, fun j x h => by cases h⟩
  | P, a :: r, h => by
    obtain ⟨y, hy⟩ := h 0 a rfl
    obtain ⟨L, hl, hL⟩ := list_choice (P := fun j => P (j + 1)) r (fun j x e => h (j + 1) x e)
    refine ⟨y :: L, by rw [List.length_cons, List.length_cons, hl], fun j x e => ?_⟩
    cases j with
    | zero =>
      cases e
      exact ⟨y, rfl, hy⟩
    | succ j => exact hL j x e
theorem vals_refs_eq : ∀ {as : List Addr} {us : List Value}, Vals (as.map V.ref) us → us = as.map Value.ref
  | [], _, .nil => rfl
  | _ :: _, _, .cons h t => by
    rw [vals_refs_eq t, show _ = Value.ref _ from h]
    rfl
/-- a tuple of pairs, known as it stands -/
theorem dict_pairs {X : Cx} (hc : X.calm = true) {pins : List (Addr × Obj)} {s : Shared} {σ : L2.St} {H : Hp} (I : Inv X pins σ H s) {a : Addr} {o : Obj} {n : Nat} {ps : List Addr} {kvs : List (Key × V)} {Q : VK} (ho : s.heap.get? a = some o) (hcls : o.cls = .type "tuple") (hd : o.dict = none) (hdat : o.data = .seq (ps.map Value.ref).toArray n)
    (hp : Paired (fun p kv => SqT X.K H p [kV kv.1, kv.2]) ps kvs) (hl : ps.length ≤ sizeLine) (q : ∀ p, H p = none → Q (.ref p) (upd H p (.dK (mergeK [] kvs)))) :
    wpAny (model X.prog X.w) X.A (call (.type "dict") [.ref a]) (EP X pins σ Q) X.xe s := by
  obtain ⟨prs, kv, hlen, hh⟩ := pairs_of I hp
  obtain ⟨L, hL, hLL⟩ := list_choice (P := fun j (q : Key × Value) (y : Value × Value) => ∃ b, ps[j]? = some b ∧ IsTup s.heap b #[y.1, y.2] ∧ keyIs q.1 y.1 = true ∧ y.2 = q.2) prs (fun j q e => by
    obtain ⟨b, u, h1, h2, h3⟩ := hh j q e
    exact ⟨(u, q.2), b, h1, h2, h3, rfl⟩)
  have hLp : L.length = ps.length := by omega
  refine call_dict_pairs (knd := mixKind X.prog X.w) (kvs := prs) (PairArg.tuple a (ps.map Value.ref).toArray (fun j => (ps[j]?).getD 0) L) (I.ok.hd hc) ⟨⟨o, n, ho, hcls, hd, hdat⟩, by simp [hLp], fun j k v e => ?_⟩ ⟨by omega, fun i key v e => ?_⟩ (by omega) fun h' tk D hk => ?_
  · have hj : j < prs.length := by
      have := (List.getElem?_eq_some_iff.mp e).1
      omega
    obtain ⟨y, h1, b, h2, h3, _, _⟩ := hLL j _ (List.getElem?_eq_getElem hj)
    rw [e] at h1
    cases h1
    refine ⟨?_, ?_⟩
    · simp [h2]
    · show PairAt s.heap ((ps[j]?).getD 0) k v
      rw [h2]
      exact .inl h3
  · have hj : i < prs.length := by
      have := (List.getElem?_eq_some_iff.mp (show L[i]? = some (key, v) from e)).1
      omega
    obtain ⟨y, h1, b, _, _, h4, h5⟩ := hLL i _ (List.getElem?_eq_getElem hj)
    rw [show L[i]? = some (key, v) from e] at h1
    cases h1
    refine ⟨prs[i].1, ?_, h4⟩
    rw [List.getElem?_eq_getElem hj, show v = prs[i].2 from h5]
  · have hkv : KV (mergeK [] kvs) (merged [] prs) := KV.merge kv .nil
    have hll : (mergeK [] kvs).length ≤ 0 + kvs.length := length_mergeK kvs []
    have hkl : kvs.length = prs.length := pd_len kv
    refine ⟨.ref s.heap.objs.size, upd H s.heap.objs.size (.dK (mergeK [] kvs)), inv_more I (fun b u e => hk b u (fun z => by cases z) e) (same_upd I.fresh) (fun b o2 e e2 => ?_), rfl, q _ I.fresh⟩
    by_cases hb : b = s.heap.objs.size
    · subst hb
      rw [upd_same] at e2
      cases e2
      have hbig : (1 : Nat) < s.heap.objs.size := I.big
      exact ⟨Nat.le_refl _, dk_new (by omega) (by show (s.heap.objs.size == 1) = false; simp; omega) hkv D⟩
    · rw [upd_ne hb, e] at e2
      cases e2
/-- dict(t), t an exact tuple of pairs of our own, or a constant, empty one -/
theorem cr_dictT {X : Cx} (hc : X.calm = true) : CallR X (.type "dict") (fun xs H Q => ∃ (a : Addr) (ps : List Addr) (kvs : List (Key × V)), xs = [.ref a] ∧ PTup H a (ps.map V.ref) ∧ Paired (fun p kv => SqT X.K H p [kV kv.1, kv.2]) ps kvs ∧ ∀ p, H p = none → Q (.ref p) (upd H p (.dK (mergeK [] kvs)))) := by
  rintro pins s σ H xs us Q I r ⟨a, ps, kvs, rfl, ⟨o, ha, h1, h2⟩, hp, q⟩
  obtain ⟨u, rfl, ru⟩ := r.one
  cases ru
  have hx : s.heap.get? a = some o ∧ ObjOk X.prog X.w H s.heap a (.tup (ps.map V.ref)) := I.hok a _ ha
  obtain ⟨hg, hl, its, hv, o2, hg2, hc2, n, hd2⟩ := hx
  rw [hg] at hg2
  cases hg2
  rw [vals_refs_eq hv] at hd2
  exact dict_pairs hc I hg h1 h2 hd2 hp (by simpa using hl) q
/-- an empty tuple among the constants -/
def ETup (K : PySem.W.Frag) (a : Addr) : Prop := ∃ (o : Obj) (n : Nat), K.lookup a = some o ∧ o.cls = .type "tuple" ∧ o.dict = none ∧ o.data = .seq #[] n
theorem cr_dictE {X : Cx} (hc : X.calm = true) : CallR X (.type "dict") (fun xs H Q => ∃ (a : Addr), xs = [.ref a] ∧ ETup X.K a ∧ ∀ p, H p = none → Q (.ref p) (upd H p (.dK []))) := by
  rintro pins s σ H xs us Q I r ⟨a, rfl, ⟨o, n, ha, h1, h2, h3⟩, q⟩
  obtain ⟨u, rfl, ru⟩ := r.one
  cases ru
  exact dict_pairs (ps := []) (kvs := []) hc I (I.kIn _ _ ha) h1 h2 h3 .nil (Nat.zero_le _) q
end Tw
/-! TwE: what is no bytes; the error that is raised of it. -/
namespace Tw
open PySem PySem.Spec PyProof.Rows L2 Sb
/-- a thing out of a row: is it a byte? -/
inductive ElT (H : Hp) : V → Bool → Prop
  | int (n : Int) : ElT H (.int n) (decide (0 ≤ n) && decide (n ≤ 255))
  | bl (c : Bool) : ElT H (.bl c) false
  | non : ElT H .non false
  | str (s : Str) : ElT H (.str s) false
  | row {a : Addr} {xs : List V} : Rw H a xs → ElT H (.ref a) false
theorem ElT.same {H H' : Hp} {x : V} {b : Bool} (h : ElT H x b) (s : Same H H') : ElT H' x b := by
  cases h with
  | int n => exact .int n
  | bl c => exact .bl c
  | non => exact .non
  | str z => exact .str z
  | row h => exact .row (h.same s)
/-- a thing: is it a row of bytes? -/
inductive ByT (H : Hp) : V → Bool → Prop
  | row {a : Addr} {xs : List V} {bs : List Bool} : Rw H a xs → Paired (ElT H) xs bs → xs.length ≤ big → ByT H (.ref a) (bs.all id)
  | int (n : Int) : ByT H (.int n) false
  | bl (c : Bool) : ByT H (.bl c) false
  | non : ByT H .non false
  | str (s : Str) : ByT H (.str s) false
theorem ByT.same {H H' : Hp} {x : V} {b : Bool} (h : ByT H x b) (s : Same H H') : ByT H' x b := by
  cases h with
  | row h p l => exact .row (h.same s) (pd_mono (fun _ _ q => q.same s) p) l
  | int n => exact .int n
  | bl c => exact .bl c
  | non => exact .non
  | str z => exact .str z
def spBytesG : Sp := fun vs H Q _ => ∃ (v : V) (b : Bool), vs = [v] ∧ ByT H v b ∧ ∀ H', Same H H' → Q (.bl b) H'
/-- the error of the class at C, told why -/
def spRefuseX (C : Addr) : Sp := fun vs H Q E => ∃ (v : V) (b : Bool), vs = [v] ∧ ByT H v b ∧ (b = true → ∀ H', Same H H' → Q .non H') ∧
  (b = false → ∀ (H' : Hp) (d : Addr), Same H H' → H d = none → H' d = some (.xd [(("why" : Str), .str "wire")]) → E (.ref C) (some d) H')
def spNbInit (C : Addr) : Sp := fun vs H Q _ => ∃ (a : Addr) (y : V), vs = [.ref a, y] ∧ H a = some (exo a C none) ∧ ∀ dx, H dx = none → dx ≠ a → Q .non (upd (upd H dx (exd dx [(("why" : Str), y)])) a (exo a C (some dx)))
/-- what the top says of the error's class -/
structure NbC (K : PySem.W.Frag) (mg : Str → Option Value) (x : Str) (C fI : Addr) : Prop where
  oex : OexC K C
  g : mg x = some (.ref C)
  iC : PySem.W.findIn K (.ref C) "__init__" = some (some (.ref fI))
  tI : PySem.W.typeIn K (.ref fI) = some (.type "function")
  no : PySem.W.findIn K (.ref C) "why" = some none
end Tw
/-! TwF: calls that may raise, inside of a try or out of a def; isinstance of a caught error that has fields. -/
namespace Tw
open PySem PySem.Spec PyProof.Rows L2 Sb
section
variable {X : Cx} {CX : CXT} {k j : Nat} {f C : Addr} {fd : FuncData} {ps : List Str} {sp : Sp} {E : L2.St → XK} {x m : Str} {p pos apos : Pos} {e o : Expr} {es : List Expr} {to : TE} {t : TA}
/-- the reading of o.m(..), what it lets out told at the slots -/
def tMethA (C : Addr) (m : Str) (sp : Sp) (E : L2.St → XK) (to : TE) (t : TA) : TE := fun σ H Q => to σ H fun x H1 => ∃ a dx fs, x = .ref a ∧ H1 a = some (.ins C dx fs) ∧ fs.lookup m = none ∧ t σ H1 fun vs H2 => sp (x :: vs) H2 Q (E σ)
theorem pe_methA {pl : Sem Bool} (ho : PE X o to) (c : Cls X.K C) (hm : Meth X.K C m f) (F : FnOk X.prog X.w X.K X.mg X.base CX k f fd ps sp) (hr : Room k X.A) (hb : Binds X.K fd ps []) (hx : ∀ σ, PassesAt CX X σ (E σ)) (ha : PA X (e :: es) t)
    (hst : starEach (e :: es) X.env = (false, eval e X.env) :: starEach es X.env := by rfl) (hpl : (backTo pos (starEach es X.env)).any (·.1) = false := by rfl)
    (ht : eval (.Call (.Attribute o m apos) (e :: es) [] pos) X.env = (do
      let ov ← eval o X.env
      standAt apos.atName
      let (f, first) ← holding [ov] (getMethod ov m pl)
      callWith pos f first (backTo pos (starEach (e :: es) X.env)) (backToKw pos (keywordEach [] X.env))) := by rfl) :
    PE X (.Call (.Attribute o m apos) (e :: es) [] pos) (tMethA C m sp E to t) := ⟨fun pins s σ H Q I h =>
  PySem.W.methodCall_KW (pl := pl) (thn (ho.run pins s σ H _ I h) fun u s1 z => by
    obtain ⟨y, H1, I1, ry, a, dx, fs, rfl, ea, l, q⟩ := z
    obtain rfl : u = Value.ref a := ry
    exact getmeth_ok I1 ea c hm l (PySem.W.callWith_K (first := [.ref a]) (h₀ := X.base) I.ok.mod.kin hm.kp (thn (ha.run pos pins s1 σ H1 _ I1 q) fun us s2 z2 => by
      obtain ⟨vs, H2, I2, r, q2⟩ := z2
      exact ⟨I2.kIn, run_fnS (us := .ref a :: us) (vs := .ref a :: vs) F hr hb (hx σ) I2 (.cons rfl r) q2⟩) hst hpl)) ht⟩
/-- a def of the module that may raise -/
structure CalX (P : Program) (w : World) (K : PySem.W.Frag) (mg : Str → Option Value) (base : Heap) (k : Nat) (x : Str) (ps : List Str) (sp : Sp) : Prop where
  ex : ∃ (f : Addr) (fd : FuncData), FnOk P w K mg base (L2.CX P w) k f fd ps sp ∧ mg x = some (.ref f) ∧ PySem.W.keepIn K (.ref f) = true ∧ Binds K fd ps []
theorem pe_calX {W : WX} (c : CalX X.prog X.w X.K X.mg X.base k x ps sp) (hr : Room j X.A) (hk : k ≤ j) (hg : Gl X x) (tk : Takes X W) (ha : PA X (e :: es) t)
    (hdb : (x == ("__debug__" : Str)) = false := by decide) (he : starEach (e :: es) X.env = (false, eval e X.env) :: starEach es X.env := by rfl) (hpl : (backTo pos (starEach es X.env)).any (·.1) = false := by rfl) :
    PE X (.Call (.Name x p) (e :: es) [] pos) (tCallS sp (WE W) t) := by
  obtain ⟨f, fd, F, hm, kp, b⟩ := c.ex
  exact pe_callS F (hr.mono hk) hg hm kp b (fun σ => passAt tk σ) ha hdb he hpl
theorem calX_mk {P : Program} {w : World} {K : PySem.W.Frag} {mg : Str → Option Value} {base h : Heap} {st : Stmt} (D : DefIn K x st) (X : K.In h) (G : h.Ns mainGlobals mg)
    (b : ∀ (kV doc pm : Value) (an : Option Addr) (cdv ct : Value) (us : List Value), us.length = ps.length → bindArgs (PySem.W.fnOf x x (defArgs st) (defBody st) (defScope st) .none kV doc pm an cdv ct) ⟨us, []⟩ = pure (ps.zip us))
    (ok : ∀ (f : Addr) (fd : FuncData), Fun K x x st f fd → FnOk P w K mg base (L2.CX P w) k f fd ps sp) : CalX P w K mg base k x ps sp := by
  obtain ⟨f, oc, od, an, osl, kV, dc, pm, cd, ct, a, l, c, kp⟩ := D
  have F := fun_mk (st := st) l c kp
  exact ⟨f, _, ok f _ F, PySem.W.mg_of X G a, kp, F.binds b⟩
/-- a method that may raise -/
structure MCalX (P : Program) (w : World) (K : PySem.W.Frag) (mg : Str → Option Value) (base : Heap) (C : Addr) (k : Nat) (m : Str) (ps : List Str) (sp : Sp) : Prop where
  ex : ∃ (f : Addr) (fd : FuncData), Meth K C m f ∧ FnOk P w K mg base (L2.CX P w) k f fd ps sp ∧ Binds K fd ps []
theorem mcalX_mk {P : Program} {w : World} {K : PySem.W.Frag} {mg : Str → Option Value} {base : Heap} {q : Str} {st : Stmt} (D : MethIn K C m q st) (b : ∀ (kV doc pm : Value) (an : Option Addr) (cdv ct : Value) (us : List Value), us.length = ps.length → bindArgs (PySem.W.fnOf m q (defArgs st) (defBody st) (defScope st) .none kV doc pm an cdv ct) ⟨us, []⟩ = pure (ps.zip us))
    (ok : ∀ (f : Addr) (fd : FuncData), Fun K m q st f fd → FnOk P w K mg base (L2.CX P w) k f fd ps sp) : MCalX P w K mg base C k m ps sp := by
  obtain ⟨f, oc, od, an, osl, kV, dc, pm, cd, ct, a, i, l, c, kp⟩ := D
  have F := fun_mk (st := st) l c kp
  exact ⟨f, _, ⟨a, i, kp⟩, ok f _ F, F.binds b⟩
theorem pe_mcalX {W : WX} {pl : Sem Bool} (M : MCalX X.prog X.w X.K X.mg X.base C k m ps sp) (c : Cls X.K C) (hr : Room j X.A) (hk : k ≤ j) (tk : Takes X W) (ho : PE X o to) (ha : PA X (e :: es) t)
    (hst : starEach (e :: es) X.env = (false, eval e X.env) :: starEach es X.env := by rfl) (hpl : (backTo pos (starEach es X.env)).any (·.1) = false := by rfl)
    (ht : eval (.Call (.Attribute o m apos) (e :: es) [] pos) X.env = (do
      let ov ← eval o X.env
      standAt apos.atName
      let (f, first) ← holding [ov] (getMethod ov m pl)
      callWith pos f first (backTo pos (starEach (e :: es) X.env)) (backToKw pos (keywordEach [] X.env))) := by rfl) : PE X (.Call (.Attribute o m apos) (e :: es) [] pos) (tMethA C m sp (WE W) to t) := by
  obtain ⟨f, fd, hm, F, b⟩ := M.ex
  exact pe_methA ho c hm F (hr.mono hk) b (fun σ => passAt tk σ) ha hst hpl ht
end
/-- isinstance(e, c), e the error that the suite holds: of the class at D, its fields in a dict -/
def rIsX (K : PySem.W.Frag) (D a : Addr) (cls : Value) (d : Option Addr) : List V → Hp → VK → Prop := fun xs H Q => ∃ (c : V) (cv : Value) (b : Bool) (dd : Addr) (fs : List (Str × V)), xs = [.ref a, c] ∧ cls = .ref D ∧ d = some dd ∧ H dd = some (.xd fs) ∧ (∀ u, RelV c u → u = cv) ∧ PySem.W.kitOne K (.ref D) cv = some b ∧ Q (.bl b) H
theorem call_isX {X : Cx} {a D : Addr} {oe : Obj} {cls : Value} {d : Option Addr} {pn : List (Addr × Obj)} (C : ExcC X.K D) (hz : Zc cls d oe) (hf : ∃ vs, oe.data = .fields vs) : CallR (X.suite a ((a, oe) :: pn)) (.builtin "isinstance") (rIsX X.K D a cls d) := by
  rintro pins s σ H xs us Q I r ⟨c, cv, b, dd, fs, rfl, rfl, rfl, hdd, hcv, e, q⟩
  obtain ⟨u1, u2, rfl, rx, rt⟩ : ∃ u1 u2, us = [u1, u2] ∧ RelV (.ref a) u1 ∧ RelV c u2 := by
    cases r with
    | cons rx rr =>
      cases rr with
      | cons rt rr =>
        cases rr
        exact ⟨_, _, rfl, rx, rt⟩
  cases rx
  obtain rfl := hcv _ rt
  have at_ : s.heap.get? a = some oe := (I.pin (a, oe) (List.mem_append_left _ List.mem_cons_self)).1
  have hx : ObjOk X.prog X.w H s.heap dd (.xd fs) := I.hok dd _ hdd
  obtain ⟨mA, hns, _⟩ := hx
  obtain ⟨od, ho, _⟩ := lookIn_ns hns
  obtain ⟨vs, hv⟩ := hf
  have J : PySem.W.InstAt s.heap a oe D (some od) := ⟨at_, hz.1, by unfold PySem.W.notCls; rw [hv] <;> rfl, by rw [hz.2]; exact ho⟩
  have hcl : (PySem.W.clsIn X.K D).isSome = true := by
    obtain ⟨cd, hc, _⟩ := PySem.W.any_some C.hd
    rw [hc]
    rfl
  exact PySem.W.kia_one (PySem.W.kitx_exc hcl C.hg C.hk C.hs C.ha C.hn C.ht C.hm) I.kIn J e (fun z => nomatch z) fun tk => ⟨.bl b, H, I.kept (t' := tk) fun _ _ z => z, rfl, q⟩
end Tw
namespace Tw
open PySem PySem.Spec PyProof.Rows L2 Sb
theorem oexC_mk {K : PySem.W.Frag} {C : Addr} {nm q : Str} {N : Addr} {bs bm : List Value} {sn : List Str} {sub : List Value} {ab : Bool} {col : Option Bool} {dd : Option Addr} {k0 k1 k2 k3 k5 : Option Value}
    (ox : K.lookup C = some (excClassObj nm q C N bs bm true sn sub ab col dd k0 k1 k2 k3 k5 "ValueError.__new__")) (orf : PySem.HandSPX.refsVE bm = true) (sa : PySem.W.findIn K (.ref C) "__setattr__" = some (some (.builtin "object.__setattr__"))) (ex : PySem.W.subIn K (.ref C) (.type "BaseException") = some true)
    (ty : PySem.W.typeIn K (.ref C) = some (.type "type")) (kC : PySem.W.keepIn K (.ref C) = true) : OexC K C := ⟨⟨nm, q, N, bs, bm, sn, sub, ab, col, dd, k0, k1, k2, k3, k5, ox, orf⟩, sa, ex, ty, kC⟩
end Tw
namespace Tw
open PySem PySem.Spec PyProof.Rows L2 Sb
theorem kit_ref {K : PySem.W.Frag} {B S : Addr} (h2 : PySem.W.isClsIn K S = true) (h3 : PySem.W.typeIn K (.ref S) = some (.type "type")) (h4 : PySem.W.subIn K (.ref B) (.ref S) = some true) : PySem.W.kitOne K (.ref B) (.ref S) = some true := by
  unfold PySem.W.kitOne
  split
  · rfl
  · have h2' : (PySem.W.clsIn K S).isSome = true := h2
    show (if ((PySem.W.clsIn K S).isSome && PySem.W.typeIn K (.ref S) == some (.type "type")) = true then PySem.W.subIn K (.ref B) (.ref S) else none) = some true
    rw [if_pos (by rw [h2', h3] <;> rfl)]
    exact h4
theorem kit_bltn {K : PySem.W.Frag} {B : Addr} {t : String} (h : PySem.W.kitMeta t = true) (h4 : PySem.W.subIn K (.ref B) (.type t) = some true) : PySem.W.kitOne K (.ref B) (.type t) = some true := by
  unfold PySem.W.kitOne
  split
  · rfl
  · show (if PySem.W.kitMeta t = true then PySem.W.subIn K (.ref B) (.type t) else none) = some true
    rw [if_pos h]
    exact h4
theorem exm_of {K : PySem.W.Frag} {B S : Addr} (h1 : PySem.W.subIn K (.ref S) (.type "BaseException") = some true) (h2 : PySem.W.isClsIn K S = true) (h3 : PySem.W.typeIn K (.ref S) = some (.type "type")) (h4 : PySem.W.subIn K (.ref B) (.ref S) = some true) : PySem.W.exmOne K (.ref B) (.ref S) = some true := by
  have h2' : (PySem.W.clsIn K S).isSome = true := h2
  show (if (PySem.W.subIn K (.ref S) (.type "BaseException") == some true) = true then (if ((PySem.W.clsIn K S).isSome && PySem.W.typeIn K (.ref S) == some (.type "type")) = true then PySem.W.subIn K (.ref B) (.ref S) else none) else none) = some true
  rw [if_pos (by rw [h1] <;> rfl), if_pos (by rw [h2', h3] <;> rfl)]
  exact h4
end Tw
/-! TwM: a method called by keywords alone. -/
namespace Tw
open PySem PySem.Spec PyProof.Rows L2 Sb
section
variable {X : Cx} {CX : CXT} {k j : Nat} {f C : Addr} {fd : FuncData} {ps ks : List Str} {sp : Sp} {E : XK} {m : Str} {pos apos : Pos} {o : Expr} {kws : List Keyword} {to : TE} {tk : TA} {g : List Value → List Value → List Value} {gV : List V → List V → List V}
def tMethK0 (C : Addr) (m : Str) (n : Nat) (sp : Sp) (gV : List V → List V → List V) (E : XK) (to : TE) (tk : TA) : TE := fun σ H Q => to σ H fun x H1 => ∃ a dx fs, x = .ref a ∧ H1 a = some (.ins C dx fs) ∧ fs.lookup m = none ∧ tk σ H1 fun zs H2 => zs.length = n ∧ sp (gV [x] zs) H2 Q E
theorem pe_methK0 {pl : Sem Bool} (c : Cls X.K C) (hm : Meth X.K C m f) (F : FnOk X.prog X.w X.K X.mg X.base CX k f fd ps sp) (hr : Room k X.A) (hb : KBn X.K fd ps 1 ks g gV) (hx : Passes CX X E) (ho : PE X o to) (hkw : PK X kws tk)
    (hall : (backToKw pos (keywordEach kws X.env)).all (·.1.isSome) = true := by rfl) (hks : (backToKw pos (keywordEach kws X.env)).filterMap (·.1) = ks := by rfl)
    (hpl : ((backTo pos (starEach [] X.env)).any (·.1) || (backToKw pos (keywordEach kws X.env)).any (·.1.isNone)) = false := by rfl)
    (ht : eval (.Call (.Attribute o m apos) [] kws pos) X.env = (do
      let ov ← eval o X.env
      standAt apos.atName
      let (f, first) ← holding [ov] (getMethod ov m pl)
      callWith pos f first (backTo pos (starEach [] X.env)) (backToKw pos (keywordEach kws X.env))) := by rfl) :
    PE X (.Call (.Attribute o m apos) [] kws pos) (tMethK0 C m ks.length sp gV E to tk) := ⟨fun pins s σ H Q I h =>
  PySem.W.methodCall_KW (pl := pl) (thn (ho.run pins s σ H _ I h) fun u s1 z => by
    obtain ⟨y, H1, I1, ry, a, dx, fs, rfl, ea, l, q⟩ := z
    obtain rfl : u = Value.ref a := ry
    refine getmeth_ok I1 ea c hm l ?_
    refine PySem.W.callWith_KW0 (first := [.ref a]) (h₀ := X.base) I.ok.mod.kin hm.kp hall ?_ hpl
    refine thn (hkw.run pos pins s1 σ H1 _ I1 q) fun ws s2 ⟨zs, H2, I2, rz, l2, q2⟩ => ⟨I2.kIn, ?_⟩
    rw [hks]
    exact run_fnN (us := [.ref a]) (vs := [.ref a]) F hr hb hx I2 (.cons rfl .nil) rz rfl l2 q2) ht⟩
end
end Tw
/-! TwZ: for x, y, z in zip(a, b, c): three lists. -/
namespace Tw
open PySem PySem.Spec PyProof.Rows L2 Sb
def Itz3 (K : PySem.W.Frag) (a b c : Addr) : It where
  go := fun i H => ∃ (xs ys zs : List V) (x y z : V), SqL K H a xs ∧ SqL K H b ys ∧ SqL K H c zs ∧ xs[i]? = some x ∧ ys[i]? = some y ∧ zs[i]? = some z
  yld := fun i H v H' => ∃ T x y z, v = .ref T ∧ H T = none ∧ H' = upd H T (.tup [x, y, z]) ∧ (∀ xs, SqL K H a xs → xs[i]? = some x) ∧ (∀ ys, SqL K H b ys → ys[i]? = some y) ∧ ∀ zs, SqL K H c zs → zs[i]? = some z
  stop := fun i H => ∃ xs ys zs : List V, SqL K H a xs ∧ SqL K H b ys ∧ SqL K H c zs ∧ xs.length = i ∧ ys.length = i ∧ zs.length = i
theorem walk_zip3 {K : PySem.W.Frag} {a b c : Addr} {xs ys zs : List V} {n : Nat} (h1 : xs.length = n) (h2 : ys.length = n) (h3 : zs.length = n) : Walk (Itz3 K a b c) n (fun H => SqL K H a xs ∧ SqL K H b ys ∧ SqL K H c zs)
    (fun i H v H' => ∃ T x y z, v = .ref T ∧ H T = none ∧ H' = upd H T (.tup [x, y, z]) ∧ xs[i]? = some x ∧ ys[i]? = some y ∧ zs[i]? = some z) :=
  ⟨fun i H hi hG => ⟨xs, ys, zs, _, _, _, hG.1, hG.2.1, hG.2.2, List.getElem?_eq_getElem (by omega), List.getElem?_eq_getElem (by omega), List.getElem?_eq_getElem (by omega)⟩,
   fun H hG => ⟨xs, ys, zs, hG.1, hG.2.1, hG.2.2, h1, h2, h3⟩,
   fun i H x H' hi hG hy => by
    obtain ⟨T, x, y, z, e1, e2, e3, k1, k2, k3⟩ := hy
    exact ⟨T, x, y, z, e1, e2, e3, k1 _ hG.1, k2 _ hG.2.1, k3 _ hG.2.2⟩⟩
theorem inv_turns {X : Cx} {pins : List (Addr × Obj)} {σ : L2.St} {H : Hp} {s : Shared} {h' : Heap} {tk : Nat} {ch : List Addr} (I : Inv X pins σ H s) (hk : ∀ (b : Addr) (u : Obj), b ∉ ch → s.heap.get? b = some u → h'.get? b = some u) (ff : ∀ b ∈ ch, FpOk X pins H b) :
    Inv X pins σ H { heap := h', gens := s.gens, drawn := s.drawn, toks := tk, os := s.os } := by
  refine I.step (ch := ch) (fun b hb => ⟨(ff b hb).2.2.2.1, (ff b hb).2.1, (ff b hb).2.2.2.2.1, (ff b hb).2.2.2.2.2⟩) (fun b o _ _ n h _ => hk b o n h) (fun b o _ _ n h _ => ⟨o.slots, hk b o n h⟩) (fun b o _ _ e => e) (fun b o n h => ⟨o, hk b o n h⟩) (fun b xs e => e) (fun b o u e => e) (fun b ps e => ⟨#[], by rw [e]; simp⟩) (fun m h => ?_) (fun b o e => ?_) I.bare
  · obtain ⟨o, es, ep, h1, h2⟩ := h
    exact ⟨o, es, ep, hk _ _ (fun hm => (ff _ hm).2.1 rfl) h1, h2⟩
  · refine (I.hok b o e).stay (fun c u hc h => hk c u (fun hm => ?_) h) (fun c h => h) (fun c xs h => h)
    have h0 := (ff c hm).1
    rcases hc with rfl | hc
    · rw [e] at h0
      cases h0
    · rw [hc] at h0
      cases h0
theorem turn_zip3 {P : Program} {w : World} {K : PySem.W.Frag} {es : List Expr} {kx : Nat} {tp : Pos} {a b c z TI TO i1 i2 i3 : Addr} (Z : ZipSep3 z TI TO i1 i2 i3 [i1, a] [i2, b] [i3, c]) :
    Turn P w K (.Tuple es kx tp) (Itz3 K a b c) [z, TI, TO, i1, i2, i3] z (fun i h => IsZip h z TI TO .none ∧ IsTupOf3 h TI (.ref i1) (.ref i2) (.ref i3) ∧ (∃ x y u, IsTupOf3 h TO x y u) ∧ h.IsListIter i1 a i ∧ h.IsListIter i2 b i ∧ h.IsListIter i3 c i) where
  mem := by simp
  obj := by
    rintro i h ⟨h1, h2, ⟨x, y, u, h3⟩, ⟨o4, h4, _, q4⟩, ⟨o5, h5, _, q5⟩, ⟨o6, h6, _, q6⟩⟩ d hd
    rcases (show d = z ∨ d = TI ∨ d = TO ∨ d = i1 ∨ d = i2 ∨ d = i3 by simpa using hd) with rfl | rfl | rfl | rfl | rfl | rfl
    · exact ⟨_, h1, fun v q => nomatch q⟩
    · exact ⟨_, h2, fun v q => nomatch q⟩
    · exact ⟨_, h3, fun v q => nomatch q⟩
    · exact ⟨o4, h4, fun v q => by rw [q4] at q; cases q⟩
    · exact ⟨o5, h5, fun v q => by rw [q5] at q; cases q⟩
    · exact ⟨o6, h6, fun v q => by rw [q6] at q; cases q⟩
  keep := by
    rintro i h h' ⟨h1, h2, ⟨x, y, u, h3⟩, h4, h5, h6⟩ k
    exact ⟨k z (by simp) _ h1, k TI (by simp) _ h2, ⟨x, y, u, k TO (by simp) _ h3⟩, h4.at fun o q => k i1 (by simp) o q, h5.at fun o q => k i2 (by simp) o q, h6.at fun o q => k i3 (by simp) o q⟩
  item := by
    rintro X rfl rfl rfl cm i pins s σ H E I ff ⟨h1, h2, ⟨a1, a2, a3, h3⟩, h4, h5, h6⟩ ⟨xs, ys, zs, x, y, u, g1, g2, g3, e1, e2, e3⟩
    obtain ⟨us, rv, pl, hz⟩ := I.list g1
    obtain ⟨vs, rv2, pl2, hz2⟩ := I.list g2
    obtain ⟨ws, rv3, pl3, hz3⟩ := I.list g3
    obtain ⟨x', hx', rx⟩ := rv.get e1
    obtain ⟨y', hy', ry⟩ := rv2.get e2
    obtain ⟨u', hu', ru⟩ := rv3.get e3
    have lf : ∀ {l : Addr} {its : Array Value} {it : Addr} {j : Nat}, s.heap.IsList l its → s.heap.IsListIter it l j → l ≠ it := by
      intro l its it j hp hi z
      obtain ⟨o, q, q2, _⟩ := hi
      obtain ⟨o3, q3, q4, _⟩ := hp
      rw [← z, q3] at q
      cases q
      rw [q4] at q2
      injection q2 with q2
      exact absurd q2 (by decide)
    have sz : ∀ {l : List Value} {j : Nat} {v : Value}, l[j]? = some v → j < l.toArray.size := by
      intro l j v h
      have := (List.getElem?_eq_some_iff.mp h).1
      simpa using this
    refine wpAny_pyNext_zipD3_item Z (Draws.list (A := X.A.in1) (I.ok.hd cm) i1 a (lf pl.isList h4) us.toArray) (Draws.list (A := X.A.in1) (I.ok.hd cm) i2 b (lf pl2.isList h5) vs.toArray) (Draws.list (A := X.A.in1) (I.ok.hd cm) i3 c (lf pl3.isList h6) ws.toArray) h1 h2 h3 ⟨h4, pl.isList⟩ ⟨h5, pl2.isList⟩ ⟨h6, pl3.isList⟩ (sz hx') (sz hy') (sz hu') fun x1 x2 x3 h' tk p1 p2 p3 k1 k2 k3 k4 k5 k6 k7 k8 => ?_
    have ex : ∀ {l : List Value} {v w : Value}, l[i]? = some v → l.toArray[i]? = some w → w = v := by
      intro l v w h q
      rw [List.getElem?_toArray, h] at q
      cases q
      rfl
    obtain rfl := ex hx' p1
    obtain rfl := ex hy' p2
    obtain rfl := ex hu' p3
    refine ⟨_, rfl, wpAny_letOwnedTupleGo_zip (s := { s with heap := h', toks := tk }) k1 fun h'' he' sb => ?_⟩
    have lz : z < s.heap.objs.size := Heap.lt_size h1
    have hT2 : h''.get? s.heap.objs.size = some { cls := .type "tuple", data := .seq #[x1, x2, x3] } := (sb.2 _ (Nat.ne_of_gt lz)).trans k6
    have nw : ObjOk X.prog X.w (upd H s.heap.objs.size (.tup [x, y, u])) h'' s.heap.objs.size (.tup [x, y, u]) :=
      ⟨by show 3 ≤ sizeLine; decide, [x1, x2, x3], .cons rx (.cons ry (.cons ru .nil)), ⟨_, hT2, rfl, _, rfl⟩⟩
    have I1 : Inv X pins σ (upd H s.heap.objs.size (.tup [x, y, u])) { s with heap := h'', toks := tk } :=
      I.turnedNew (ch := [z, TI, TO, i1, i2, i3]) (fun d ob hb q => (sb.2 d (fun w => hb (by simp [w]))).trans (k8 d ob (fun w => hb (by simp [w])) (fun w => hb (by simp [w])) (fun w => hb (by simp [w])) (fun w => hb (by simp [w])) (fun w => hb (by simp [w])) q)) ff (Nat.le_refl _) nw
    have lt : ∀ d ∈ [z, TI, TO, i1, i2, i3], d < s.heap.objs.size := by
      intro d hd
      rcases (show d = z ∨ d = TI ∨ d = TO ∨ d = i1 ∨ d = i2 ∨ d = i3 by simpa using hd) with rfl | rfl | rfl | rfl | rfl | rfl
      · exact lz
      · exact Heap.lt_size h2
      · exact Heap.lt_size h3
      · obtain ⟨_, q, _⟩ := h4; exact Heap.lt_size q
      · obtain ⟨_, q, _⟩ := h5; exact Heap.lt_size q
      · obtain ⟨_, q, _⟩ := h6; exact Heap.lt_size q
    have nz : ∀ {d : Addr}, d ≠ z → h''.get? d = h'.get? d := fun n => sb.2 _ n
    have n1 : i1 ≠ z := fun w => Z.zf1 (by simp [w])
    have n2 : i2 ≠ z := fun w => Z.zf2 (by simp [w])
    have n3 : i3 ≠ z := fun w => Z.zf3 (by simp [w])
    have t2 : IsTupOf3 h' TI (.ref i1) (.ref i2) (.ref i3) := k8 TI _ Z.TIz Z.TITO Z.TIi1 Z.TIi2 Z.TIi3 h2
    refine ⟨.ref s.heap.objs.size, _, I1, rfl, ⟨_, x, y, u, rfl, I.hok.fresh (Nat.le_refl _), rfl, fun q hq => by rw [I.list_inj hq g1]; exact e1, fun q hq => by rw [I.list_inj hq g2]; exact e2, fun q hq => by rw [I.list_inj hq g3]; exact e3⟩, ⟨he', (nz Z.TIz).trans t2, ⟨x1, x2, x3, (nz Z.TOz).trans k2⟩, k3.1.at fun o q => (nz n1).trans q, k4.1.at fun o q => (nz n2).trans q, k5.1.at fun o q => (nz n3).trans q⟩, fun d hd => ?_⟩
    rw [upd_ne (Nat.ne_of_lt (lt d hd))]
    exact (ff d hd).1
  done := by
    rintro X rfl rfl rfl cm i pins s σ H E I ff ⟨h1, h2, ⟨a1, a2, a3, h3⟩, h4, h5, h6⟩ ⟨xs, ys, zs, g1, g2, g3, l1, l2, l3⟩
    obtain ⟨us, rv, pl, hz⟩ := I.list g1
    obtain ⟨vs, rv2, pl2, hz2⟩ := I.list g2
    obtain ⟨ws, rv3, pl3, hz3⟩ := I.list g3
    have lf : ∀ {l : Addr} {its : Array Value} {it : Addr} {j : Nat}, s.heap.IsList l its → s.heap.IsListIter it l j → l ≠ it := by
      intro l its it j hp hi z
      obtain ⟨o, q, q2, _⟩ := hi
      obtain ⟨o3, q3, q4, _⟩ := hp
      rw [← z, q3] at q
      cases q
      rw [q4] at q2
      injection q2 with q2
      exact absurd q2 (by decide)
    have s1 : us.toArray.size = i := by
      have := rv.length
      rw [List.size_toArray]
      omega
    have s2 : vs.toArray.size = i := by
      have := rv2.length
      rw [List.size_toArray]
      omega
    have s3 : ws.toArray.size = i := by
      have := rv3.length
      rw [List.size_toArray]
      omega
    refine wpAny_pyNext_zipD3_end (i := i) Z (Draws.list (A := X.A.in1) (I.ok.hd cm) i1 a (lf pl.isList h4) us.toArray) (Draws.list (A := X.A.in1) (I.ok.hd cm) i2 b (lf pl2.isList h5) vs.toArray) (Draws.list (A := X.A.in1) (I.ok.hd cm) i3 c (lf pl3.isList h6) ws.toArray) h1 h2 h3 ⟨h4, pl.isList⟩ ⟨h5, pl2.isList⟩ ⟨h6, pl3.isList⟩ (by omega) (by omega) (by omega) (.inl s1.symm) fun h' tk k => ⟨rfl, inv_turns (ch := [z, TI, TO, i1, i2, i3]) I (fun d u n e => k d u (fun w => n (by simp [w])) (fun w => n (by simp [w])) (fun w => n (by simp [w])) (fun w => n (by simp [w])) (fun w => n (by simp [w])) e) ff⟩
  self := by
    rintro A i s Q E ⟨h1, _⟩ h
    exact wpAny_pyIter_zip h1 h
def iZip3 (K : PySem.W.Frag) (ta : TA) : TI := fun σ H R => ta σ H fun vs H1 => ∃ a b c xs ys zs, vs = [.ref a, .ref b, .ref c] ∧ SqL K H1 a xs ∧ SqL K H1 b ys ∧ SqL K H1 c zs ∧ R (Itz3 K a b c) H1
theorem pi_zip3 {X : Cx} {e e2 e3 : Expr} {ta : TA} {p pos tpos : Pos} {elts : List Expr} {kk : Nat} (hg : Gl X "zip") (hm : X.mg "zip" = none) (ha : PA X [e, e2, e3] ta) (hs : starEach [e, e2, e3] X.env = (false, eval e X.env) :: starEach [e2, e3] X.env := by rfl) (hpl : ((backTo pos (starEach [e2, e3] X.env)).any fun x => x.1) = false := by rfl) :
    PI X (.Tuple elts kk tpos) (.Call (.Name "zip" p) [e, e2, e3] [] pos) (iZip3 X.K ta) := by
  refine ⟨fun pins s σ H R I h => Call_ (ld_blt I hg hm boot_zip (PyProof.Rows.callWith_type1 (thn (ha.run pos pins s σ H _ I h) fun us s1 hh => ?_) hs hpl))⟩
  obtain ⟨vs, H1, I1, rv, a, b, c, xs, ys, zs, rfl, g1, g2, g3, q⟩ := hh
  obtain rfl : us = [.ref a, .ref b, .ref c] := by
    cases rv with
    | cons r1 rv =>
      cases rv with
      | cons r2 rv =>
        cases rv with
        | cons r3 rv =>
          cases rv
          rw [show _ = Value.ref a from r1, show _ = Value.ref b from r2, show _ = Value.ref c from r3]
  obtain ⟨i1, _, p1, _⟩ := I1.list g1
  obtain ⟨i2, _, p2, _⟩ := I1.list g2
  obtain ⟨i3, _, p3, _⟩ := I1.list g3
  have l1 : a < s1.heap.objs.size := by obtain ⟨_, z, _⟩ := p1.isList; exact Heap.lt_size z
  have l2 : b < s1.heap.objs.size := by obtain ⟨_, z, _⟩ := p2.isList; exact Heap.lt_size z
  have l3 : c < s1.heap.objs.size := by obtain ⟨_, z, _⟩ := p3.isList; exact Heap.lt_size z
  refine zip_begins3 (begins_list a i1.toArray) (begins_list b i2.toArray) (begins_list c i3.toArray) p1.isList p2.isList p3.isList fun h' z1 z2 z3 k1 k2 k3 hsz hk => ?_
  refine wpAny_pyIter_zip z1 ?_
  have I2 : Inv X pins σ H1 { s1 with heap := h' } := I1.kept (t' := s1.toks) hk
  have fp : ∀ d ∈ [s1.heap.objs.size + 5, s1.heap.objs.size + 3, s1.heap.objs.size + 4, s1.heap.objs.size, s1.heap.objs.size + 1, s1.heap.objs.size + 2], FpOk X pins H1 d := fun d hd => by
    have le : s1.heap.objs.size ≤ d := by
      simp only [List.mem_cons, List.not_mem_nil, or_false] at hd
      omega
    exact I1.fpOk le (I1.hok.fresh le)
  have Z := zip_sep3 (N := s1.heap.objs.size) (fp1 := [a]) (fp2 := [b]) (fp3 := [c]) (fun d hd => by rw [List.mem_singleton.mp hd]; exact l1) (fun d hd => by rw [List.mem_singleton.mp hd]; exact l2) (fun d hd => by rw [List.mem_singleton.mp hd]; exact l3)
  exact ⟨_, _, _, Itz3 X.K a b c, H1, rfl, I2, turn_zip3 Z, ⟨z1, z2, ⟨_, _, _, z3⟩, ⟨_, k1, rfl, rfl⟩, ⟨_, k2, rfl, rfl⟩, ⟨_, k3, rfl, rfl⟩⟩, fp, q⟩
end Tw
/-! TwK: enumerate over a dict's keys. -/
namespace Tw
open PySem PySem.Spec PyProof.Rows L2 Sb
open AutoSeq1 (wpAny_loadPart')
set_option maxHeartbeats 1000000 in
theorem meets_dkn (it d : Addr) (i n : Nat) (ep : Nat) (dd dd2 : Option Addr) (ss ss2 : Array (Option Value)) (es : Array DictEntry) (hi : i < es.size) (hn : n = es.size) :
    Meets (Builtin.«dict_keyiterator.__next__» ⟨[.ref it], []⟩) (fun _ R z => z.heap.get? it = some { cls := .type "dict_keyiterator", dict := dd, data := .fields #[.ref d, .int i 0, .int n 0, .int ep 0], slots := ss } ∧ z.heap.get? d = some { cls := .type "dict", dict := dd2, data := .dict es ep, slots := ss2 } ∧ ∀ h', h'.IsKeyIter it d (i + 1) n ep → Heap.SameBut it z.heap h' → R (.ok (.ret es[i].key)) { z with heap := h' }) := by
  refine .of_wp fun pg wo Ar R z hz => ?_
  obtain ⟨hp, g, dr, tk, os⟩ := z
  obtain ⟨h1, h2, h⟩ := hz
  unfold Builtin.«dict_keyiterator.__next__»
  wp_walk using wpAny_loadPart' h1, wpAny_loadPart' h2
  have e : (if (i : Int) < 0 then none else es[(i : Int).toNat]?) = some es[i] := by
    rw [if_neg (by omega), Int.toNat_natCast]
    exact Array.getElem?_eq_getElem hi
  rw [e]
  wp_walk using wpAny_loadPart' h1, wpAny_loadPart' h2
  exact ⟨_, rfl, h _ ⟨_, Heap.get?_update_self _ h1 rfl, rfl, rfl⟩ (Heap.SameBut.update ..)⟩
set_option maxHeartbeats 1000000 in
theorem meets_dkn_end (it d : Addr) (n : Nat) (ep : Nat) (dd dd2 : Option Addr) (ss ss2 : Array (Option Value)) (es : Array DictEntry) (hn : n = es.size) :
    Meets (Builtin.«dict_keyiterator.__next__» ⟨[.ref it], []⟩) (fun Ar R z => Ar.handled = none ∧ z.heap.get? it = some { cls := .type "dict_keyiterator", dict := dd, data := .fields #[.ref d, .int n 0, .int n 0, .int ep 0], slots := ss } ∧ z.heap.get? d = some { cls := .type "dict", dict := dd2, data := .dict es ep, slots := ss2 } ∧
      ∀ (h' : Heap) (e : Addr), Heap.ExtBut it z.heap h' → (∃ o, h'.get? e = some o ∧ o.cls = .type "StopIteration") → R (.error (.ref e)) { z with heap := h' }) := by
  refine .of_wp fun pg wo Ar R z hz => ?_
  obtain ⟨hp, g, dr, tk, os⟩ := z
  obtain ⟨hh, h1, h2, h⟩ := hz
  unfold Builtin.«dict_keyiterator.__next__»
  wp_walk using wpAny_loadPart' h1, wpAny_loadPart' h2
  have e : (if (n : Int) < 0 then none else es[(n : Int).toNat]?) = none := by
    rw [if_neg (by omega), Int.toNat_natCast, hn]
    exact Array.getElem?_eq_none (Nat.le_refl _)
  rw [e]
  wp_walk using wpAny_loadPart' h1, wpAny_loadPart' h2
  refine wpAny_raiseNew_none (show Ar.in1.handled = none from hh) ?_
  refine h _ _ (fun b o n hb => ?_) ⟨_, Heap.get?_push_size _ rfl, rfl⟩
  exact Heap.get?_push_of_some _ (Heap.get?_push_of_some _ (((Heap.SameBut.update ..).2 b n).trans hb))
/-- what a walk over a dict's keys draws -/
theorem draws_keys {prog : Program} {w : World} {A : Around} (hh : A.handled = none) {it d : Addr} (ne : d ≠ it) {es : Array DictEntry} {ep : Nat} :
    Draws prog w A it [it, d] es.size (fun i v => ∃ hi : i < es.size, v = es[i].key) (fun i h => h.IsKeyIter it d i es.size ep ∧ h.DictRaw d es ep) where
  live := by
    rintro i h ⟨⟨o, h1, _⟩, _⟩
    exact ⟨o, h1⟩
  frame := by
    rintro i h h' ⟨⟨o, h1, h2⟩, ⟨o3, h3, h4⟩⟩ k
    exact ⟨⟨o, k it (by simp) _ h1, h2⟩, ⟨o3, k d (by simp) _ h3, h4⟩⟩
  item := by
    rintro i s Q E hi ⟨⟨⟨c, dd, dt, ss⟩, h1, h2, h3⟩, ⟨⟨c2, dd2, dt2, ss2⟩, h4, h5, h6⟩⟩ q
    replace h2 : c = .type "dict_keyiterator" := h2
    replace h3 : dt = .fields #[.ref d, .int i 0, .int es.size 0, .int ep 0] := h3
    replace h6 : dt2 = .dict es ep := h6
    have h7 : c2 = .type "dict" := h5.1
    subst h2 h3 h6 h7
    unfold Builtin.SmallTypes.nextOf
    refine wpAny_bind (wpAny_callSpecial?_slot ⟨_, h1, rfl⟩ F.slot_dict_keyiterator_next (call_meets F.slot_dict_keyiterator_next ⟨_, h1, rfl⟩ F.entry_dict_keyiterator_next (F.args_dict_keyiterator_next_1 _) (meets_dkn it d i es.size ep dd dd2 ss ss2 es hi rfl) ⟨h1, h4, fun h' k1 k2 => ?_⟩))
    refine wpAny_pure (q _ h' s.toks ⟨hi, rfl⟩ ⟨k1, ⟨_, (k2.2 d ne).trans h4, h5, rfl⟩⟩ k2)
  done := by
    rintro s Q E ⟨⟨⟨c, dd, dt, ss⟩, h1, h2, h3⟩, ⟨⟨c2, dd2, dt2, ss2⟩, h4, h5, h6⟩⟩ q
    replace h2 : c = .type "dict_keyiterator" := h2
    replace h3 : dt = .fields #[.ref d, .int es.size 0, .int es.size 0, .int ep 0] := h3
    replace h6 : dt2 = .dict es ep := h6
    have h7 : c2 = .type "dict" := h5.1
    subst h2 h3 h6 h7
    unfold Builtin.SmallTypes.nextOf
    exact wpAny_bind (wpAny_callSpecial?_slot ⟨_, h1, rfl⟩ F.slot_dict_keyiterator_next (call_meets F.slot_dict_keyiterator_next ⟨_, h1, rfl⟩ F.entry_dict_keyiterator_next (F.args_dict_keyiterator_next_1 _) (meets_dkn_end it d es.size ep dd dd2 ss ss2 es rfl) ⟨hh, h1, h4, fun h' e k1 k2 => q h' e k1 k2⟩))
end Tw
/-! TwKe: for i, k in enumerate(d), d a dict that isn't changed within. -/
namespace Tw
open PySem PySem.Spec PyProof.Rows L2 Sb
def Iek (d : Addr) (o : Obj) (kvs : List (Key × V)) : It where
  go := fun i H => H d = some (.frz o (.dK kvs)) ∧ i < kvs.length
  yld := fun i H v H' => ∃ T k y, v = .ref T ∧ H T = none ∧ H' = upd H T (.tup [.int (i : Nat), kV k]) ∧ kvs[i]? = some (k, y)
  stop := fun i H => H d = some (.frz o (.dK kvs)) ∧ kvs.length = i
theorem walk_ek {d : Addr} {o : Obj} {kvs : List (Key × V)} : Walk (Iek d o kvs) kvs.length (fun H => H d = some (.frz o (.dK kvs))) (fun i H v H' => ∃ T k y, v = .ref T ∧ H T = none ∧ H' = upd H T (.tup [.int (i : Nat), kV k]) ∧ kvs[i]? = some (k, y)) :=
  ⟨fun i H hi hG => ⟨hG, hi⟩, fun H hG => ⟨hG, rfl⟩, fun i H x H' hi hG hy => hy⟩
theorem frz_raw {X : Cx} {pins : List (Addr × Obj)} {σ : L2.St} {H : Hp} {s : Shared} (I : Inv X pins σ H s) {d : Addr} {o : Obj} {kvs : List (Key × V)} (h : H d = some (.frz o (.dK kvs))) :
    ∃ (es : Array DictEntry) (ep : Nat) (vs : List (Key × Value)), o.data = .dict es ep ∧ s.heap.DictRaw d es ep ∧ KV kvs vs ∧ es.size = kvs.length ∧ (d == sysModules) = false ∧ ∀ (i : Nat) (hi : i < es.size) (k : Key) (v : Value), vs[i]? = some (k, v) → (mixKind X.prog X.w).is k es[i].key = true := by
  obtain ⟨hl, ns, vs, kv, D⟩ := dk_rd I.hok (.inr ⟨o, h⟩)
  have hg : s.heap.get? d = some o := (show _ ∧ _ from I.hok d _ h).1
  obtain ⟨es, ep, raw, hsz, hes⟩ := D.raw
  obtain ⟨o2, g2, ex, dat⟩ := id raw
  rw [hg] at g2
  cases g2
  exact ⟨es, ep, vs, dat, raw, kv, by rw [hsz, ← pd_len kv], ns, fun i hi k v e => (hes i hi k v e).1⟩
theorem turn_ek {P : Program} {w : World} {K : PySem.W.Frag} {es : List Expr} {kx : Nat} {tp : Pos} (d e it : Addr) (o : Obj) (kvs : List (Key × V)) {ds : Array DictEntry} {ep : Nat} (ho : o.data = .dict ds ep) :
    Turn P w K (.Tuple es kx tp) (Iek d o kvs) [e, it] e (fun i h => (∃ old, IsEnum h e it (i : Nat) old) ∧ h.IsKeyIter it d i ds.size ep ∧ e ≠ it) where
  mem := by simp
  obj := by
    rintro i h ⟨⟨old, h1⟩, ⟨o, h2, _, h3⟩, _⟩ b hb
    rcases (show b = e ∨ b = it by simpa using hb) with rfl | rfl
    · exact ⟨_, h1, fun v q => nomatch q⟩
    · exact ⟨o, h2, fun v q => by rw [h3] at q; cases q⟩
  keep := by
    rintro i h h' ⟨⟨old, h1⟩, ⟨o, h2, h4⟩, h3⟩ k
    exact ⟨⟨old, k e (by simp) _ h1⟩, ⟨o, k it (by simp) _ h2, h4⟩, h3⟩
  item := by
    rintro X rfl rfl rfl cm i pins s σ H E I ff ⟨⟨old, h1⟩, h2, h3⟩ ⟨h4, h5⟩
    obtain ⟨es2, ep2, vs, hd, raw, kv, hsz, ns, hes⟩ := frz_raw I h4
    rw [ho] at hd
    cases hd
    have le : e < s.heap.objs.size := Heap.lt_size h1
    have li : it < s.heap.objs.size := by obtain ⟨_, q, _⟩ := h2; exact Heap.lt_size q
    have na : d ≠ it := fun z => by
      obtain ⟨o, q, q2, _⟩ := h2
      obtain ⟨o3, q3, q4, _⟩ := raw
      rw [← z, q3] at q
      cases q
      rw [q4.1] at q2
      injection q2 with q2
      exact absurd q2 (by decide)
    have nea : e ≠ d := fun z => by
      obtain ⟨o3, q3, q4, _⟩ := raw
      rw [← z, show s.heap.get? e = _ from h1] at q3
      cases q3
      have q5 := q4.1
      injection q5 with q5
      exact absurd q5 (by decide)
    have hi : i < ds.size := by omega
    have hiv : i < vs.length := by rw [← pd_len kv]; exact h5
    refine wpAny_pyNext_enum_itemC (draws_keys (A := X.A.in1) (I.ok.hd cm) na) h1 ⟨h2, raw⟩ hi h3 (fun q => ?_) fun x h' tk hx ho' st hT hsz' hk => ?_
    · rcases (show e = it ∨ e = d by simpa using q) with q | q
      · exact h3 q
      · exact nea q
    obtain ⟨_, rfl⟩ := hx
    have hke := hes i hi vs[i].1 vs[i].2 (List.getElem?_eq_getElem hiv)
    obtain ⟨y, hy1, _⟩ := kv.at' (i := i) (List.getElem?_eq_getElem hiv)
    refine ⟨_, rfl, wpAny_letOwnedTupleGo_enum (s := { s with heap := h', toks := tk + 1 }) ho' fun h'' he' sb => ?_⟩
    have hT2 : h''.get? s.heap.objs.size = some { cls := .type "tuple", data := .seq #[.int (i : Nat) tk, ds[i].key] } := (sb.2 _ (Nat.ne_of_gt le)).trans hT
    have nw : ObjOk X.prog X.w (upd H s.heap.objs.size (.tup [.int (i : Nat), kV vs[i].1])) h'' s.heap.objs.size (.tup [.int (i : Nat), kV vs[i].1]) :=
      ⟨by show 2 ≤ sizeLine; decide, [.int (i : Nat) tk, ds[i].key], .cons ⟨_, rfl⟩ (.cons (relV_key hke) .nil), ⟨_, hT2, rfl, _, rfl⟩⟩
    have I1 : Inv X pins σ (upd H s.heap.objs.size (.tup [.int (i : Nat), kV vs[i].1])) { s with heap := h'', toks := tk + 1 } :=
      I.turnedNew (ch := [e, it]) (fun b ob hb q => (sb.2 b (fun z => hb (by simp [z]))).trans (hk b ob (fun z => hb (by simp [z])) (fun z => hb (by simp [z])) q)) ff (Nat.le_refl _) nw
    refine ⟨.ref s.heap.objs.size, _, I1, rfl, ⟨_, vs[i].1, y, rfl, I.hok.fresh (Nat.le_refl _), rfl, hy1⟩, ⟨⟨ds[i].key, ?_⟩, ?_, h3⟩, fun b hb => ?_⟩
    · rw [show (((i + 1 : Nat) : Int)) = (i : Int) + 1 by omega]
      exact he'
    · obtain ⟨⟨o5, g5, g6⟩, _⟩ := st
      exact ⟨o5, (sb.2 it h3.symm).trans g5, g6⟩
    · have lb : b < s.heap.objs.size := by
        rcases (show b = e ∨ b = it by simpa using hb) with rfl | rfl
        · exact le
        · exact li
      rw [upd_ne (Nat.ne_of_lt lb)]
      exact (ff b hb).1
  done := by
    rintro X rfl rfl rfl cm i pins s σ H E I ff ⟨⟨old, h1⟩, h2, h3⟩ ⟨h4, h5⟩
    obtain ⟨es2, ep2, vs, hd, raw, kv, hsz, ns, hes⟩ := frz_raw I h4
    rw [ho] at hd
    cases hd
    obtain ⟨f0, f1, f2, f3, f4, f5⟩ := ff it (by simp)
    have na : d ≠ it := fun z => by
      obtain ⟨o, q, q2, _⟩ := h2
      obtain ⟨o3, q3, q4, _⟩ := raw
      rw [← z, q3] at q
      cases q
      rw [q4.1] at q2
      injection q2 with q2
      exact absurd q2 (by decide)
    have h2' : s.heap.IsKeyIter it d ds.size ds.size ep := by
      rw [show i = ds.size by omega] at h2
      exact h2
    exact wpAny_pyNext_enum_endD (draws_keys (A := X.A.in1) (I.ok.hd cm) na) h1 ⟨h2', raw⟩ fun h' eb => ⟨rfl, I.turned (t' := s.toks) (fun b o hb q => eb b o hb q) f0 f1 f3 f4 f5⟩
  self := by
    rintro A i s Q E ⟨⟨old, h1⟩, _⟩ h
    exact wpAny_pyIter_enum h1 h
theorem begins_keys {d : Addr} {es : Array DictEntry} {ep : Nat} (ns : (d == sysModules) = false) : Begins (.ref d) { cls := .type "dict_keyiterator", data := .fields #[.ref d, .int 0 0, .int (es.size : Nat) 0, .int (ep : Nat) 0] } (fun h => h.DictRaw d es ep) where
  iter := fun pg w A E s Q h q => wpAny_pyIter_dict_raw ns h q
  keeps := by
    rintro h h' ⟨o, h1, h2⟩ k
    exact ⟨o, k _ _ h1, h2⟩
  free := rfl
def iEk (ta : TA) : TI := fun σ H R => ta σ H fun vs H1 => ∃ d o kvs, vs = [.ref d] ∧ H1 d = some (.frz o (.dK kvs)) ∧ R (Iek d o kvs) H1
theorem pi_ek {X : Cx} {es : List Expr} {kx : Nat} {tp : Pos} {e : Expr} {ta : TA} {p pos : Pos} (hg : Gl X "enumerate") (hm : X.mg "enumerate" = none) (ha : PA X [e] ta) (hs : starEach [e] X.env = [(false, eval e X.env)] := by rfl) :
    PI X (.Tuple es kx tp) (.Call (.Name "enumerate" p) [e] [] pos) (iEk ta) := by
  refine ⟨fun pins s σ H R I h => Call_ (ld_blt I hg hm boot_enumerate (PyProof.Rows.callWith_type1 (thn (ha.run pos pins s σ H _ I h) fun us s1 hh => ?_) hs rfl))⟩
  obtain ⟨vs, H1, I1, rv, d, o, kvs, rfl, hd, q⟩ := hh
  rw [Vals.ref1 rv]
  obtain ⟨ds, ep, ws, ho, raw, kv, hsz, ns, hes⟩ := frz_raw I1 hd
  have lt : d < s1.heap.objs.size := by obtain ⟨_, z, _⟩ := raw; exact Heap.lt_size z
  refine en1_begins (begins_keys ns) raw fun h' he hi hk => ?_
  refine wpAny_pyIter_enum he ?_
  have I2 : Inv X pins σ H1 { s1 with heap := h' } := I1.kept (t' := s1.toks) hk
  have fp : ∀ z ∈ [s1.heap.objs.size + 1, s1.heap.objs.size], FpOk X pins H1 z := fun z hz => by
    have le : s1.heap.objs.size ≤ z := by
      rcases (show z = s1.heap.objs.size + 1 ∨ z = s1.heap.objs.size by simpa using hz) with r | r <;> omega
    exact I1.fpOk le (I1.hok.fresh le)
  exact ⟨s1.heap.objs.size + 1, [s1.heap.objs.size + 1, s1.heap.objs.size], _, Iek d o kvs, H1, rfl, I2, turn_ek d _ _ o kvs ho, ⟨⟨.none, he⟩, ⟨_, hi, rfl, rfl⟩, Nat.succ_ne_self _⟩, fp, q⟩
end Tw
namespace K11
open PySem PySem.Spec PyProof.Rows L2 Tw Sb
abbrev KVs := List (L2.Key × V)
def rDict (K : PySem.W.Frag) : List V → Hp → VK → Prop := fun xs H Q => (∃ (a : Addr) (kvs : KVs), xs = [.ref a] ∧ Rd H a (.dK kvs) ∧ ∀ p, H p = none → Q (.ref p) (upd H p (.dK kvs))) ∨
  (∃ (a : Addr) (ps : List Addr) (kvs : KVs), xs = [.ref a] ∧ PTup H a (ps.map V.ref) ∧ Paired (fun p kv => SqT K H p [kV kv.1, kv.2]) ps kvs ∧ ∀ p, H p = none → Q (.ref p) (upd H p (.dK (mergeK [] kvs)))) ∨
  (∃ (a : Addr) (ps : List Addr) (kvs : KVs), xs = [.ref a] ∧ SqL K H a (ps.map V.ref) ∧ Paired (fun p kv => SqT K H p [kV kv.1, kv.2]) ps kvs ∧ ∀ p, H p = none → Q (.ref p) (upd H p (.dK (mergeK [] kvs)))) ∨
  (∃ (a : Addr), xs = [.ref a] ∧ ETup K a ∧ ∀ p, H p = none → Q (.ref p) (upd H p (.dK [])))
/-- what dict() takes -/
inductive Src (K : PySem.W.Frag) (H : Hp) : V → KVs → Prop
  | dict {a : Addr} {kvs : KVs} : H a = some (.dK kvs) → Src K H (.ref a) kvs
  | tup {a : Addr} {ps : List Addr} {kvs : KVs} : PTup H a (ps.map V.ref) → Paired (fun p kv => H p = some (.tup [kV kv.1, kv.2])) ps kvs → Src K H (.ref a) kvs
  | lst {a : Addr} {ps : List Addr} {kvs : KVs} : H a = some (.lst (ps.map V.ref)) → Paired (fun p kv => H p = some (.tup [kV kv.1, kv.2])) ps kvs → Src K H (.ref a) kvs
  | non {a : Addr} : ETup K a → Src K H (.ref a) []
theorem Src.keep {K : PySem.W.Frag} {H H' : Hp} {v : V} {kvs : KVs} (h : Src K H v kvs) (k : ∀ b o, (∀ C dx fs, o ≠ .ins C dx fs) → H b = some o → H' b = some o) : Src K H' v kvs := by
  cases h with
  | dict e => exact .dict (k _ _ (fun C dx fs z => by cases z) e)
  | tup e p =>
    obtain ⟨o, e1, e2⟩ := e
    exact .tup ⟨o, k _ _ (fun C dx fs z => by cases z) e1, e2⟩ (pd_mono (fun _ _ q => k _ _ (fun C dx fs z => by cases z) q) p)
  | lst e p => exact .lst (k _ _ (fun C dx fs z => by cases z) e) (pd_mono (fun _ _ q => k _ _ (fun C dx fs z => by cases z) q) p)
  | non e => exact .non e
def Nd (kvs : KVs) : Prop := (kvs.map Prod.fst).Nodup
theorem putK_new {kvs : KVs} {k : L2.Key} {v : V} (h : k ∉ kvs.map Prod.fst) : putK kvs k v = kvs ++ [(k, v)] := by
  unfold putK
  rw [if_neg]
  intro hh
  obtain ⟨x, hx, hk⟩ := List.any_eq_true.mp hh
  exact h (List.mem_map.mpr ⟨x, hx, of_decide_eq_true hk⟩)
theorem mergeK_nd : ∀ (more kvs : KVs), Nd (kvs ++ more) → mergeK kvs more = kvs ++ more
  | [], kvs, _ => by rw [List.append_nil]; rfl
  | (k, v) :: r, kvs, h => by
    have h1 : k ∉ kvs.map Prod.fst := by
      unfold Nd at h
      rw [List.map_append, List.map_cons] at h
      have h2 := (List.nodup_append.mp h).2.2
      intro hm
      exact h2 k hm k (List.mem_cons_self ..) rfl
    show mergeK (putK kvs k v) r = _
    rw [putK_new h1, mergeK_nd r (kvs ++ [(k, v)]) (by rw [List.append_assoc]; exact h), List.append_assoc]
    rfl
theorem merge0 {kvs : KVs} (h : Nd kvs) : mergeK [] kvs = kvs := mergeK_nd kvs [] h
theorem kind_fields : ¬ (("kind" : Str) = "fields") := by decide +kernel
abbrev nF (x : V) (f : Addr) : List (Str × V) := [("kind", x), ("fields", .ref f)]
theorem nd_init (x : V) (f : Addr) : putF "fields" (.ref f) (putF "kind" x []) = nF x f := by
  show (if ("kind" : Str) = "fields" then _ else (("kind" : Str), x) :: putF "fields" (.ref f) []) = _
  rw [if_neg kind_fields]
  rfl
theorem lk_kind (x : V) (f : Addr) : (nF x f).lookup ("kind" : Str) = some x := by simp [nF, List.lookup]
theorem lk_fields (x : V) (f : Addr) : (nF x f).lookup ("fields" : Str) = some (.ref f) := by
  have e : (("fields" : Str) == ("kind" : Str)) = false := by decide +kernel
  simp [nF, List.lookup, e]
theorem lk_put (x : V) (f : Addr) : (nF x f).lookup ("put" : Str) = none := by
  have e : (("put" : Str) == ("kind" : Str)) = false := by decide +kernel
  have e2 : (("put" : Str) == ("fields" : Str)) = false := by decide +kernel
  simp [nF, List.lookup, e, e2]
def spNInit (K : PySem.W.Frag) (C : Addr) : Sp := fun vs H Q _ => ∃ (p dx : Addr) (x v : V) (kvs : KVs), vs = [.ref p, x, v] ∧ H p = some (.ins C dx []) ∧ Src K H v kvs ∧ Nd kvs ∧ kvs.length < 1000 ∧
  ∀ (H' : Hp) (f : Addr), (∀ b o, b ≠ p → H b = some o → H' b = some o) → H f = none → H' p = some (.ins C dx (nF x f)) → H' f = some (.dK kvs) → Q .non H'
def spPut (C : Addr) : Sp := fun vs H Q _ => ∃ (p dx f : Addr) (x v : V) (z : Str) (kvs : KVs), vs = [.ref p, .str z, v] ∧ H p = some (.ins C dx (nF x f)) ∧ H f = some (.dK kvs) ∧ kvs.length < 1000 ∧ Q .non (upd H f (.dK (putK kvs (.inr z) v)))
abbrev nPs : List Str := ["self", "kind", "fields"]
section
variable {P : Program} {w : World} {K : PySem.W.Frag} {mg : Str → Option Value} {base : Heap} {CN CC : Addr}
theorem ok_ninit {C : Addr} {dvs : List V} {f : Addr} {fd : FuncData} (F : FunD K "__init__" "Node.__init__" (defArgs s_Node___init__) (defBody s_Node___init__) (defScope s_Node___init__) dvs [] f fd) (T : Bt mg) (hD : mg "dict" = none) (cl : Cls K C) (nK : NoAttr K C "kind") (nF : NoAttr K C "fields") : FnOk P w K mg base CX0 1 f fd nPs (spNInit K C) := by
  refine FunD.ok (CX := CX0) F sc_Node___init__ (fun vs H Q E h => ?_) (fun cdv A outer s H vs Q E hr h => ?_)
  · obtain ⟨p, dx, x, v, kvs, rfl, _⟩ := h
    rfl
  · obtain ⟨p, dx, x, v, kvs, rfl, hp, hv, hn, hlen, q⟩ := h
    refine ⟨_, PSs.nox ((pss_cons (ps_fld (pv 0) (pv 1) rfl)
      (pss_one (ps_fld (pv 0) (pe_callTy (T := "dict") (r := rDict K) (CallR.or call_dictD (CallR.or (cr_dictT rfl) (CallR.or (call_dictP rfl) (cr_dictE rfl)))) (by rfl) hD (by decide +kernel) (pa_cons (pv 2) pa_nil)) rfl)))), ?_⟩
    refine ⟨_, rfl, _, rfl, p, C, dx, [], rfl, hp, cl, nK, (by show 0 < 1000; decide), ?_⟩
    have hv1 := hv.keep (H' := upd H p (.ins C dx (putF "kind" x []))) (fun b o no e => by
      rw [upd_ne (fun w => by rw [w, hp] at e; cases e; exact no _ _ _ rfl)]
      exact e)
    have fin : ∀ f, (upd H p (.ins C dx (putF "kind" x []))) f = none → ∀ xs, xs = kvs → Q .non (upd (upd (upd H p (.ins C dx (putF "kind" x []))) f (.dK xs)) p (.ins C dx (putF "fields" (.ref f) (putF "kind" x [])))) := by
      intro f hf xs hxs
      obtain ⟨nfp, hf0⟩ := upd_none hf
      refine q _ f (fun b o nb e => ?_) hf0 (by rw [upd_same, nd_init]) (by rw [upd_ne nfp, upd_same, hxs])
      rw [upd_ne nb, upd_ne (ne_of_none e hf0), upd_ne nb]
      exact e
    refine ⟨_, rfl, ?_⟩
    cases hv1 with
    | dict e => exact .inl ⟨_, _, rfl, .inl e, fun f hf => ⟨_, rfl, p, C, dx, _, rfl, (by rw [upd_ne (upd_none hf).1.symm, upd_same]), cl, nF, (by show 1 < 1000; decide), fin f hf _ rfl⟩⟩
    | tup e ps => exact .inr (.inl ⟨_, _, _, rfl, e, pd_mono (fun _ _ h => SqT.of h) ps, fun f hf => ⟨_, rfl, p, C, dx, _, rfl, (by rw [upd_ne (upd_none hf).1.symm, upd_same]), cl, nF, (by show 1 < 1000; decide), fin f hf _ (merge0 hn)⟩⟩)
    | lst e ps => exact .inr (.inr (.inl ⟨_, _, _, rfl, SqL.of e, pd_mono (fun _ _ h => SqT.of h) ps, fun f hf => ⟨_, rfl, p, C, dx, _, rfl, (by rw [upd_ne (upd_none hf).1.symm, upd_same]), cl, nF, (by show 1 < 1000; decide), fin f hf _ (merge0 hn)⟩⟩))
    | non e => exact .inr (.inr (.inr ⟨_, rfl, e, fun f hf => ⟨_, rfl, p, C, dx, _, rfl, (by rw [upd_ne (upd_none hf).1.symm, upd_same]), cl, nF, (by show 1 < 1000; decide), fin f hf _ rfl⟩⟩))
theorem ok_put {C : Addr} {f : Addr} {fd : FuncData} (F : Fun K "put" "Node.put" s_Node_put f fd) (cl : Cls K C) (nF : NoAttr K C "fields") : FnOk P w K mg base CX0 1 f fd ["self", "name", "thing"] (spPut C) := by
  refine F.ok sc_Node_put (fun vs H Q E h => ?_) (fun cdv A outer s H vs Q E hr h => ?_)
  · obtain ⟨p, dx, f, x, v, z, kvs, rfl, _⟩ := h
    rfl
  · obtain ⟨p, dx, f, x, v, z, kvs, rfl, hp, hf, hlen, q⟩ := h
    refine ⟨_, (pss_one (ps_dput (Nat.lt_of_le_of_lt (Nat.add_le_add_left (by decide) _) hr.units) (pe_fld (pv 0) rfl) (pv 1) (pv 2) rfl)), ?_⟩
    refine ⟨_, rfl, _, rfl, p, C, dx, _, _, rfl, hp, cl, nF, lk_fields _ _, _, rfl, ?_⟩
    exact ⟨f, _, rfl, .inl ⟨kvs, .inr z, hf, rfl, Nat.lt_of_lt_of_le hlen (by decide), rfl⟩, q⟩
theorem valV_at : ∀ {kvs : KVs} {i : Nat} {k : L2.Key} {v : V}, Nd kvs → kvs[i]? = some (k, v) → valV kvs k = some v
  | [], _, _, _, _, h => by cases h
  | (k0, v0) :: r, 0, k, v, _, h => by
    cases h
    simp [valV]
  | (k0, v0) :: r, i + 1, k, v, hn, h => by
    have hn2 := List.nodup_cons.mp (show (k0 :: r.map Prod.fst).Nodup from hn)
    have hm : k ∈ r.map Prod.fst := List.mem_map.mpr ⟨(k, v), List.mem_of_getElem? (i := i) h, rfl⟩
    have ne : ¬ (k0 = k) := fun w => hn2.1 (w ▸ hm)
    have ih := valV_at (kvs := r) (i := i) hn2.2 h
    unfold valV at ih ⊢
    rw [List.find?_cons_of_neg (by simpa using ne)]
    exact ih
/-- a node stands right: of this kind, with these fields -/
def spRight (CN CC : Addr) : Sp := fun vs H Q _ => ∃ (p dx f d : Addr) (z : Str) (kvs : KVs), vs = [.ref p, .str z, .ref d] ∧ H p = some (.ins CN dx (nF (.str z) f)) ∧ H f = some (.dK kvs) ∧ H d = some (.dK kvs) ∧ f ≠ d ∧ Nd kvs ∧ (∀ kv ∈ kvs, Th CN CC H kv.2 ∧ ∃ y, kv.1 = .inr y) ∧ ∀ H', Same H H' → Q (.bl true) H'
theorem ok_right {f : Addr} {fd : FuncData} (F : Fun K "_law_right" "_law_right" s__law_right f fd) (T : Bt mg) (hD : mg "dict" = none) (cl : Cls K CN) (nK : NoAttr K CN "kind") (nFd : NoAttr K CN "fields") (c__law_alike : Cal P w K mg base 2 "_law_alike" ["_law_found", "_law_due"] (spAlike CN CC)) : FnOk P w K mg base CX0 3 f fd ["_law_node", "_law_sort", "_law_due"] (spRight CN CC) := by
  refine F.ok sc__law_right (fun vs H Q E h => ?_) (fun cdv A outer s H vs Q E hr h => ?_)
  · obtain ⟨p, dx, f, d, z, kvs, rfl, _⟩ := h
    rfl
  · obtain ⟨p, dx, f, d, z, kvs, rfl, hp, hf, hd, nfd, hn, hall, q⟩ := h
    refine ⟨_, (pss_cons (ps_if (PW.pt (pw_or (pt_cmpR op_ne (pe_fld (pv 0) rfl) (pv 1) (nomark _)) (pw_or (pt_not (pt_val (pe_callB (id := "isinstance") (r := rIsi K) call_isi (by rfl) T.n_isinstance (by decide +kernel) (pa_cons (pe_fld (pv 0) rfl) (pa_cons (pe_bltn (v := .ty "dict") rfl hD (by decide +kernel) rfl) pa_nil))))) (pw_or1 (pt_cmpR op_ne (pe_callB call_lenD (by rfl) T.n_len (by decide +kernel) (pa_cons (pe_fld (pv 0) rfl) pa_nil)) (pe_callB call_lenD (by rfl) T.n_len (by decide +kernel) (pa_cons (pv 2) pa_nil)) (nomark _))))))
        (pss_one (ps_ret pe_bl))
        pss_nil)
      (pss_cons (ps_lock (ps_for PassesOwn.never rfl (pi_keys (pv 2)) (pg_name (i := 3) sc__law_right.nd rfl (.inl rfl))
        (pss_one (ps_if (PW.pt (pw_or (pt_cmp (pc_dnotin (Nat.lt_of_le_of_lt (Nat.add_le_add_left (by decide) _) hr.units) (pv 3) (pe_fld (pv 0) rfl))) (pw_or1 (pt_not (pt_val (pe_cal c__law_alike hr (by decide) (by rfl) (pa_cons (pe_dget (Nat.lt_of_le_of_lt (Nat.add_le_add_left (by decide) _) hr.units) (pe_fld (pv 0) rfl) (pv 3) (fun _ _ => rfl)) (pa_cons (pe_dget (Nat.lt_of_le_of_lt (Nat.add_le_add_left (by decide) _) hr.units) (pv 2) (pv 3) (fun _ _ => rfl)) pa_nil))))))))
          (pss_one (ps_ret pe_bl))
          pss_nil))))
      (pss_one (ps_ret pe_bl)))), ?_⟩
    refine ⟨_, rfl, p, CN, dx, _, _, rfl, hp, cl, nK, lk_kind _ _, _, rfl, rfl, _, rfl, ?_⟩
    rw [decide_eq_true (show V.str z = V.str z from rfl)]
    refine iteF ⟨_, rfl, p, CN, dx, _, _, rfl, hp, cl, nFd, lk_fields _ _, .ref f, .ty "dict", .type "dict", .type "dict", true, rfl, .ty "dict", .base (.dK hf), kit_ty (by decide +kernel), true, rfl, ?_⟩
    refine iteF ⟨_, rfl, p, CN, dx, _, _, rfl, hp, cl, nFd, lk_fields _ _, f, kvs, rfl, hf, _, rfl, d, kvs, rfl, hd, rfl, _, rfl, ?_⟩
    rw [decide_eq_true (show V.int (kvs.length : Nat) = V.int (kvs.length : Nat) from rfl)]
    refine iteF ⟨d, _, hd, trivial, fun od => ?_⟩
    have hti : TI H (upd H d (.frz od (.dK kvs))) := ⟨fun b xs e => by rw [upd_ne (ne_of e hd (by intro z; cases z))]; exact e, fun b C dx fs e => by rw [upd_ne (ne_of e hd (by intro z; cases z))]; exact e⟩
    have hf1 : (upd H d (.frz od (.dK kvs))) f = some (.dK kvs) := by rw [upd_ne nfd]; exact hf
    have hp1 := hti.2 _ _ _ _ hp
    have hd1 : (upd H d (.frz od (.dK kvs))) d = some (.frz od (.dK kvs)) := upd_same
    have hend : ∀ H', Same (upd H d (.frz od (.dK kvs))) H' → Same H (upd H' d (.dK kvs)) := fun H' s b o e => by
      by_cases hb : b = d
      · rw [hb] at e ⊢
        rw [upd_same, ← hd]
        exact e
      · rw [upd_ne hb]
        exact s b o (by rw [upd_ne hb]; exact e)
    generalize upd H d (.frz od (.dK kvs)) = H1 at hti hf1 hp1 hd1 hend ⊢
    refine ⟨_, rfl, d, od, rfl, .inl ⟨kvs, hd1, ?_⟩⟩
    refine for_it (walk_keys (d := d) (o := od) (kvs := kvs)) (fun i σ H' => ∃ y, σ = [some (.ref p), some (.str z), some (.ref d), y] ∧ Same H1 H') ⟨_, rfl, Same.refl _⟩ (fun i σ H' _ h => ?_) ?_ ?_
    · obtain ⟨_, _, s⟩ := h
      exact s _ _ hd1
    · rintro i x σ H2 H3 hi ⟨y, rfl, s⟩ ⟨rfl, k, v, hkv, rfl⟩
      have hv := hall _ (List.mem_of_getElem? hkv)
      have hval := valV_at hn hkv
      refine ⟨_, rfl, _, rfl, p, CN, dx, _, _, rfl, s _ _ hp1, cl, nFd, lk_fields _ _, f, some v, rfl, .inl ⟨kvs, k, .inl (s _ _ hf1), rfl, hval.symm⟩, _, rfl, ?_⟩
      refine iteF ⟨_, rfl, p, CN, dx, _, _, rfl, s _ _ hp1, cl, nFd, lk_fields _ _, _, rfl, f, v, rfl, .inl ⟨kvs, k, .inl (s _ _ hf1), rfl, hval.symm⟩, _, rfl, _, rfl, d, v, rfl, .inl ⟨kvs, k, .inr ⟨od, s _ _ hd1⟩, rfl, hval.symm⟩, v, rfl, (hv.1.ti hti).ti (Same.ti s), fun H4 s4 => ⟨true, rfl, ?_⟩⟩
      exact iteF ⟨_, rfl, s.trans s4⟩
    · rintro σ H2 ⟨y, rfl, s⟩
      exact ⟨s _ _ hd1, q _ (hend _ s)⟩
end
end K11
namespace K11
open PySem PySem.Spec PyProof.Rows L2 Tw Sb
structure NodeC (P : Program) (w : World) (K : PySem.W.Frag) (mg : Str → Option Value) (base : Heap) (C tE : Addr) : Prop where
  cl : Cls K C
  nK : NoAttr K C "kind"
  nF : NoAttr K C "fields"
  g : mg "Node" = some (.ref C)
  et : ETup K tE
  ex : ∃ (f : Addr) (fd : FuncData), Mk K C f ∧ FnOk P w K mg base CX0 1 f fd nPs (spNInit K C) ∧ Binds K fd nPs [] ∧ Binds K fd nPs [.ref tE] ∧ KBn K fd nPs 1 ["fields", "kind"] (fun us ws => us ++ ws.reverse) (fun us ws => us ++ ws.reverse) ∧
    KBn K fd nPs 2 ["fields"] (fun us ws => us ++ ws) (fun us ws => us ++ ws)
  put : MCal P w K mg base C 1 "put" ["self", "name", "thing"] (spPut C)
  putk : ∃ (f : Addr) (fd : FuncData), Meth K C "put" f ∧ FnOk P w K mg base CX0 1 f fd ["self", "name", "thing"] (spPut C) ∧ KBn K fd ["self", "name", "thing"] 1 ["thing", "name"] (fun us ws => us ++ ws.reverse) (fun us ws => us ++ ws.reverse)
section
variable {P : Program} {w : World} {K : PySem.W.Frag} {mg : Str → Option Value} {base : Heap} {CN CC tE : Addr}
def spMade (CN : Addr) : Sp := fun vs H Q _ => ∃ (way : Int) (z : Str) (d : Addr) (kvs : KVs), vs = [.int way, .str z, .ref d] ∧ H d = some (.dK kvs) ∧ Nd kvs ∧ kvs.length < 64 ∧ (∀ kv ∈ kvs, ∃ y, kv.1 = .inr y) ∧
  ∀ (H' : Hp) (p dx f : Addr), Same H H' → H p = none → H f = none → f ≠ p → H' p = some (.ins CN dx (nF (.str z) f)) → H' f = some (.dK kvs) → Q (.ref p) H'
theorem ok_made {f : Addr} {fd : FuncData} (F : Fun K "_law_made" "_law_made" s__law_made f fd) (T : Bt mg) (hD : mg "dict" = none) (NC : NodeC P w K mg base CN tE) : FnOk P w K mg base CX0 3 f fd ["_law_way", "_law_sort", "_law_due"] (spMade CN) := by
  obtain ⟨fN, fdN, NM, NF, nb0, nbD, nk1, nk2⟩ := NC.ex
  obtain ⟨fP, fdP, PM, PF, pk⟩ := NC.putk
  have m_put := NC.put
  refine F.ok sc__law_made (fun vs H Q E h => ?_) (fun cdv A outer s H vs Q E hr h => ?_)
  · obtain ⟨way, z, d, kvs, rfl, _⟩ := h
    rfl
  · obtain ⟨way, z, d, kvs, rfl, hd, hn, hlen, hk, q⟩ := h
    refine ⟨_, (pss_cons (ps_if (pt_cmpR op_eq (pv 0) pe_int (nomark _))
        (pss_cons (ps_set (i := 3) sc__law_made.nd rfl (.inl rfl) (pe_callTy (T := "dict") (r := rDict K) (CallR.or call_dictD (CallR.or (cr_dictT rfl) (CallR.or (call_dictP rfl) (cr_dictE rfl)))) (by rfl) hD (by decide +kernel) (pa_cons (pv 2) pa_nil)))
        (pss_cons (ps_set (i := 4) sc__law_made.nd rfl (.inl rfl) (pe_make NM NF (hr.mono (by decide)) (by rfl) NC.g nb0 .nil pass0 (pa_cons (pv 1) (pa_cons (pv 3) pa_nil))))
        (pss_cons (ps_expr (pe_dclear (pv 3)))
        (pss_one (ps_ret (pv 4))))))
        pss_nil)
      (pss_cons (ps_if (pt_cmpR op_eq (pv 0) pe_int (nomark _))
        (pss_cons (ps_set (i := 3) sc__law_made.nd rfl (.inl rfl) (LiI.pe_listItems rfl (pv 2) (by rfl) T.n_list (by decide +kernel)))
        (pss_cons (ps_set (i := 4) sc__law_made.nd rfl (.inl rfl) (pe_makeK0 NM NF (hr.mono (by decide)) (by rfl) NC.g nk1 pass0 (pk_cons (pv 3) (pk_cons (pv 1) pk_nil))))
        (pss_cons (ps_expr (pe_bm0 PySem.F.plainAttrs_list PySem.F.slot_list_clear PySem.F.type_list_clear mt_clear (pv 3)))
        (pss_one (ps_ret (pv 4))))))
        pss_nil)
      (pss_cons (ps_if (pt_cmpR op_eq (pv 0) pe_int (nomark _))
        (pss_one (ps_ret (pe_makeK NM NF (hr.mono (by decide)) (by rfl) NC.g nk2 pass0 (pa_cons (pv 1) pa_nil) (pk_cons (pe_callTy (T := "tuple") (r := rTupItems) (cr_tupItems rfl) (by rfl) T.n_tuple (by decide +kernel) (pa_cons (pe_bm0 PySem.F.plainAttrs_dict PySem.F.slot_dict_items PySem.F.type_dict_items mt_itemsK (pv 2)) pa_nil)) pk_nil))))
        pss_nil)
      (pss_cons (ps_set (i := 4) sc__law_made.nd rfl (.inl rfl) (pe_make NM NF (hr.mono (by decide)) (by rfl) NC.g nbD (.cons (show RelV (.ref tE) _ from rfl) .nil) pass0 (pa_cons (pv 1) pa_nil)))
      (pss_cons (ps_lock (ps_for PassesOwn.never rfl (pi_ek (by rfl) T.n_enumerate (pa_cons (pv 2) pa_nil)) (pg_tup rfl (pgs_cons (pg_name (i := 5) sc__law_made.nd rfl (.inl rfl)) (pgs_cons (pg_name (i := 6) sc__law_made.nd rfl (.inl rfl)) pgs_nil)))
        (pss_one (ps_if (pt_cmpR op_eq (pe_op op_mod (pv 5) pe_int) pe_int (nomark _))
          (pss_one (ps_expr (pe_mcal m_put NC.cl hr (by decide) (pv 4) (pa_cons (pv 6) (pa_cons (pe_dget (Nat.lt_of_le_of_lt (Nat.add_le_add_left (by decide) _) hr.units) (pv 2) (pv 6) (fun _ _ => rfl)) pa_nil)))))
          (pss_one (ps_expr (pe_methK0 NC.cl PM PF (hr.mono (by decide)) pk pass0 (pv 4) (pk_cons (pe_dget (Nat.lt_of_le_of_lt (Nat.add_le_add_left (by decide) _) hr.units) (pv 2) (pv 6) (fun _ _ => rfl)) (pk_cons (pv 6) pk_nil)))))))))
      (pss_one (ps_ret (pv 4)))))))), ?_⟩
    have mk : ∀ {H1 : Hp} {x dx : Addr}, H1 x = none → H1 dx = none → Same H1 (upd (upd H1 dx (.own x)) x (.ins CN dx [])) := fun hx hdx b o e => by
      rw [upd_ne (ne_of_none e hx), upd_ne (ne_of_none e hdx)]
      exact e
    have hl2 : kvs.length < 1000 := by omega
    refine ⟨_, rfl, rfl, _, rfl, ?_⟩
    refine iteB (fun _ => ?_) (fun _ => ?_)
    · refine ⟨_, rfl, .inl ⟨d, kvs, rfl, .inl hd, fun g hg => ⟨_, rfl, _, rfl, fun p dx hp hdx ndx => ?_⟩⟩⟩
      have s1 := same_upd (o := .dK kvs) hg
      have hG1 : (upd H g (.dK kvs)) g = some (.dK kvs) := upd_same
      generalize upd H g (.dK kvs) = H1 at s1 hG1 hp hdx ⊢
      have s2 := mk hp hdx
      refine ⟨p, dx, .str z, .ref g, kvs, rfl, upd_same, .dict (s2 _ _ hG1), hn, hl2, fun H2 f k2 hf h1 h2 => ⟨rfl, ?_⟩⟩
      have s3 : Same H1 H2 := fun b o e => k2 b o (ne_of_none e hp) (s2 _ _ e)
      have hf1 : H1 f = none := s2.free hf
      have ngf : g ≠ f := ne_of_none hG1 hf1
      have ngp : g ≠ p := ne_of_none hG1 hp
      have nfp : f ≠ p := fun w => by rw [w, upd_same] at hf; cases hf
      have hG2 := s3 _ _ hG1
      have hp0 : H p = none := s1.free hp
      refine ⟨_, rfl, .inr (.inr (.inl ⟨rfl, .inl ⟨_, hG2⟩⟩)), g, kvs, rfl, rfl, hG2, ⟨_, rfl, q _ p dx f (fun b o e => ?_) hp0 (s1.free hf1) nfp (by rw [upd_ne ngp.symm]; exact h1) (by rw [upd_ne ngf.symm]; exact h2)⟩⟩
      rw [upd_ne (ne_of_none e hg)]
      exact s3 _ _ (s1 _ _ e)
    refine ⟨_, rfl, rfl, _, rfl, ?_⟩
    refine iteB (fun _ => ?_) (fun _ => ?_)
    · refine ⟨_, rfl, d, kvs, rfl, hd, fun H1 g ts s1 hg hts hgn hg1 hps => ⟨_, rfl, _, rfl, rfl, rfl, fun p dx hp hdx ndx => ?_⟩⟩
      have s2 := mk hp hdx
      refine ⟨p, dx, .str z, .ref g, kvs, rfl, upd_same, .lst (s2 _ _ hg1) (pd_mono (fun _ _ h => s2 _ _ h) hps), hn, hl2, fun H2 f k2 hf h1 h2 => ⟨rfl, ?_⟩⟩
      have s3 : Same H1 H2 := fun b o e => k2 b o (ne_of_none e hp) (s2 _ _ e)
      have hf1 : H1 f = none := s2.free hf
      have ngf : g ≠ f := ne_of_none hg1 hf1
      have ngp : g ≠ p := ne_of_none hg1 hp
      have nfp : f ≠ p := fun w => by rw [w, upd_same] at hf; cases hf
      have hG2 := s3 _ _ hg1
      have hp0 : H p = none := Same.free s1 hp
      refine ⟨_, rfl, .inl ⟨rfl, _, SqL.of hG2⟩, g, _, rfl, rfl, hG2, ⟨_, rfl, q _ p dx f (fun b o e => ?_) hp0 (Same.free s1 hf1) nfp (by rw [upd_ne ngp.symm]; exact h1) (by rw [upd_ne ngf.symm]; exact h2)⟩⟩
      rw [upd_ne (ne_of_none e hg)]
      exact s3 _ _ (s1 _ _ e)
    refine ⟨_, rfl, rfl, _, rfl, ?_⟩
    refine iteB (fun _ => ?_) (fun _ => ?_)
    · refine ⟨_, rfl, _, rfl, .inr (.inr (.inl ⟨rfl, .inl ⟨_, hd⟩⟩)), d, kvs, rfl, rfl, hd, fun vw hvw => ?_⟩
      have s0 := same_upd (o := L2.DX.itemsO vw d) hvw
      refine ⟨vw, d, kvs, rfl, upd_same, s0 _ _ hd, fun H1 t ts s1 ht hts htn pt ps => ⟨rfl, rfl, fun p dx hp hdx ndx => ?_⟩⟩
      have s01 := s0.trans s1
      have s2 := mk hp hdx
      obtain ⟨ob, pt1, pt2⟩ := pt
      refine ⟨p, dx, .str z, .ref t, kvs, rfl, upd_same, .tup ⟨ob, s2 _ _ pt1, pt2⟩ (pd_mono (fun _ _ h => s2 _ _ h) ps), hn, hl2, fun H2 f k2 hf h1 h2 => ⟨rfl, ?_⟩⟩
      have s3 : Same H1 H2 := fun b o e => k2 b o (ne_of_none e hp) (s2 _ _ e)
      have hf1 : H1 f = none := s2.free hf
      have nfp : f ≠ p := fun w => by rw [w, upd_same] at hf; cases hf
      exact q _ p dx f (s01.trans s3) (s01.free hp) (s01.free hf1) nfp h1 h2
    refine ⟨_, rfl, fun p dx hp hdx ndx => ?_⟩
    have s2 := mk hp hdx
    refine ⟨p, dx, .str z, .ref tE, [], rfl, upd_same, .non NC.et, List.nodup_nil, by decide, fun H2 f k2 hf h1 h2 => ⟨rfl, ?_⟩⟩
    have s3 : Same H H2 := fun b o e => k2 b o (ne_of_none e hp) (s2 _ _ e)
    have hf0 : H f = none := s2.free hf
    have nfp : f ≠ p := fun w => by rw [w, upd_same] at hf; cases hf
    have hd2 := s3 _ _ hd
    refine ⟨d, _, hd2, trivial, fun od => ?_⟩
    have nfd : f ≠ d := fun w => by rw [w, hd] at hf0; cases hf0
    have npd : p ≠ d := fun w => by rw [w, hd] at hp; cases hp
    have hd3 : (upd H2 d (.frz od (.dK kvs))) d = some (.frz od (.dK kvs)) := upd_same
    have h13 : (upd H2 d (.frz od (.dK kvs))) p = some (.ins CN dx (nF (.str z) f)) := by rw [upd_ne npd]; exact h1
    have h23 : (upd H2 d (.frz od (.dK kvs))) f = some (.dK []) := by rw [upd_ne nfd]; exact h2
    have hend : ∀ H', (∀ b o, b ≠ f → (upd H2 d (.frz od (.dK kvs))) b = some o → H' b = some o) → Same H (upd H' d (.dK kvs)) := fun H' s b o e => by
      by_cases hb : b = d
      · rw [hb] at e ⊢
        rw [upd_same, ← hd]
        exact e
      · rw [upd_ne hb]
        exact s b o (ne_of_none e hf0) (by rw [upd_ne hb]; exact s3 _ _ e)
    generalize upd H2 d (.frz od (.dK kvs)) = H3 at hd3 h13 h23 hend ⊢
    refine ⟨_, rfl, d, od, kvs, rfl, hd3, ?_⟩
    refine for_it (walk_ek (d := d) (o := od) (kvs := kvs)) (fun i σ H' => ∃ y5 y6, σ = [some (.int way), some (.str z), some (.ref d), none, some (.ref p), y5, y6] ∧ (∀ b o, b ≠ f → H3 b = some o → H' b = some o) ∧ H' f = some (.dK (kvs.take i))) ⟨_, _, rfl, fun _ _ _ e => e, h23⟩ (fun i σ H' _ h => ?_) ?_ ?_
    · obtain ⟨_, _, _, s, _⟩ := h
      exact s _ _ nfd.symm hd3
    · rintro i x σ H4 H5 hi ⟨y5, y6, rfl, s4, hf4⟩ ⟨TT, k, v, rfl, hTT, rfl, hkv⟩
      obtain ⟨y0, rfl⟩ : ∃ y0, k = .inr y0 := hk _ (List.mem_of_getElem? hkv)
      have sT := same_upd (o := .tup [.int (i : Nat), .str y0]) hTT
      have hfT := sT _ _ hf4
      have hpT := sT _ _ (s4 _ _ nfp.symm h13)
      have hdT := sT _ _ (s4 _ _ nfd.symm hd3)
      have hval := valV_at hn hkv
      have hput : putK (kvs.take i) (.inr y0) v = kvs.take (i + 1) := by
        rw [putK_new, List.take_add_one, hkv]
        · rfl
        · intro hm
          have h1 := List.take_append_drop i kvs
          have hn2 : ((kvs.take i).map Prod.fst ++ (kvs.drop i).map Prod.fst).Nodup := by
            rw [← List.map_append, h1]
            exact hn
          refine (List.nodup_append.mp hn2).2.2 _ hm _ ?_ rfl
          have hi2 : i < kvs.length := (List.getElem?_eq_some_iff.mp hkv).1
          rw [List.drop_eq_getElem_cons hi2, (List.getElem?_eq_some_iff.mp hkv).2]
          exact List.mem_cons_self ..
      have lt : (kvs.take i).length < 1000 := by rw [List.length_take]; omega
      have fin : ∃ y5' y6', ([some (.int way), some (.str z), some (.ref d), none, some (.ref p), some (.int (i : Nat)), some (.str y0)] : L2.St) = [some (.int way), some (.str z), some (.ref d), none, some (.ref p), y5', y6'] ∧ (∀ b o, b ≠ f → H3 b = some o → (upd (upd H4 TT (.tup [.int (i : Nat), .str y0])) f (.dK (putK (kvs.take i) (.inr y0) v))) b = some o) ∧ (upd (upd H4 TT (.tup [.int (i : Nat), .str y0])) f (.dK (putK (kvs.take i) (.inr y0) v))) f = some (.dK (kvs.take (i + 1))) := ⟨_, _, rfl, fun b o nb e => by rw [upd_ne nb]; exact sT _ _ (s4 b o nb e), by rw [upd_same, hput]⟩
      refine ⟨TT, _, rfl, SqT.of upd_same, rfl, _, _, rfl, _, _, rfl, rfl, _, rfl, _, 2, rfl, rfl, (show (0 : Int) < 2 by decide), rfl, _, rfl, ?_⟩
      refine iteB (fun _ => ?_) (fun _ => ?_)
      · exact ⟨_, rfl, p, dx, _, rfl, hpT, lk_put _ _, _, rfl, _, rfl, _, rfl, d, v, rfl, .inl ⟨kvs, .inr y0, .inr ⟨od, hdT⟩, rfl, hval.symm⟩, p, dx, f, _, v, y0, _, rfl, hpT, hfT, lt, fin⟩
      · exact ⟨_, rfl, p, dx, _, rfl, hpT, lk_put _ _, _, rfl, _, rfl, d, v, rfl, .inl ⟨kvs, .inr y0, .inr ⟨od, hdT⟩, rfl, hval.symm⟩, _, rfl, rfl, p, dx, f, _, v, y0, _, rfl, hpT, hfT, lt, fin⟩
    · rintro σ H4 ⟨y5, y6, rfl, s4, hf4⟩
      rw [List.take_length] at hf4
      refine ⟨s4 _ _ nfd.symm hd3, ⟨_, rfl, q _ p dx f (hend _ s4) hp hf0 nfp ?_ ?_⟩⟩
      · rw [upd_ne npd]
        exact s4 _ _ nfp.symm h13
      · rw [upd_ne nfd]
        exact hf4
end
end K11
namespace K11
open PySem PySem.Spec PyProof.Rows L2 Tw Sb
section
variable {P : Program} {w : World} {K : PySem.W.Frag} {mg : Str → Option Value} {base : Heap} {CN CC tE : Addr}
def spCases : Sp := fun vs H Q _ => ∃ (a : Addr) (n : Nat), vs = [.ref a] ∧ IsWn n H a ∧ n + 10000 < many ∧ ∀ H', Fn (n + 10) a H H' → Q (.bl true) H'
theorem ok_cases {f : Addr} {fd : FuncData} (F : Fun K "_law_cases_right" "_law_cases_right" s__law_cases_right f fd) (T : Bt mg) (NC : NodeC P w K mg base CN tE) (KC : CaseC P w K mg base CC) (c__law_one : Cal P w K mg base 2 "_law_one" ["_law_well_here", "_law_some"] (spOne K)) (c__law_text : Cal P w K mg base 3 "_law_text" ["_law_well_here", "_law_least", "_law_most"] spText)
    (c__law_alike : Cal P w K mg base 2 "_law_alike" ["_law_found", "_law_due"] (spAlike CN CC)) : FnOk P w K mg base CX0 4 f fd ["_law_well_here"] spCases := by
  obtain ⟨fN, fdN, NM, NF, nb0, nbD, nk1, nk2⟩ := NC.ex
  obtain ⟨fC, fdC, CM, CF, cb0, cbD, ck1, ck2, ck3⟩ := KC.ex
  refine F.ok sc__law_cases_right (fun vs H Q E h => ?_) (fun cdv A outer s H vs Q E hr h => ?_)
  · obtain ⟨a, n, rfl, _⟩ := h
    rfl
  · obtain ⟨a, n, rfl, hw, hn, q⟩ := h
    refine ⟨_, (pss_cons (ps_set (i := 1) sc__law_cases_right.nd rfl (.inr rfl) (pe_cal c__law_text hr (by decide) (by rfl) (pa_cons (pv 0) (pa_cons pe_int (pa_cons pe_int pa_nil)))))
      (pss_cons (ps_set (i := 2) sc__law_cases_right.nd rfl (.inr rfl) (pe_cal c__law_one hr (by decide) (by rfl) (pa_cons (pv 0) (pa_cons (pe_lst (pa_cons pe_int (pa_cons pe_bl (pa_cons pe_str (pa_cons (pe_tup pa_nil) (pa_cons pe_non (pa_cons pe_str (pa_cons (pe_tup (pa_cons pe_int (pa_cons pe_int pa_nil))) (pa_cons (pe_make NM NF (hr.mono (by decide)) (by rfl) NC.g nbD (.cons (show RelV (.ref tE) _ from rfl) .nil) pass0 (pa_cons pe_str pa_nil)) pa_nil))))))))) pa_nil))))
      (pss_cons (ps_set (i := 3) sc__law_cases_right.nd rfl (.inl rfl) (pe_lst (pa_cons (pe_make CM CF (hr.mono (by decide)) (by rfl) KC.g cb0 .nil pass0 (pa_cons (pv 1) (pa_cons (pv 2) pa_nil))) (pa_cons (pe_makeK0 CM CF (hr.mono (by decide)) (by rfl) KC.g ck1 pass0 (pk_cons (pv 2) (pk_cons (pv 1) pk_nil))) (pa_cons (pe_makeK CM CF (hr.mono (by decide)) (by rfl) KC.g ck2 pass0 (pa_cons (pv 1) pa_nil) (pk_cons (pv 2) pk_nil)) pa_nil)))))
      (pss_cons (ps_if (pt_cmpR (op_neD hr.units) (pe_lc (own := [("_law_one_here", 4)]) rfl sc__law_cases_right.nd (pi_list (pv 3)) (blkOk_by (N := N__law_cases_right) (sc := defScope s__law_cases_right) (by decide +kernel)) (fun _ _ _ _ _ => (pg_name (i := 4) sc__law_cases_right.nd rfl (.inl rfl))) (fun _ _ _ _ _ => (pts_one (PW.pt (pw_or (pt_cmpR op_ne (show PE _ _ (tFld K (tVar 4) "word") from pe_fld (pv 4) (by rfl)) (pv 1) (nomark _)) (pw_or1 (pt_not (pt_val (pe_cal c__law_alike hr (by decide) (by rfl) (pa_cons (show PE _ _ (tFld K (tVar 4) "content") from pe_fld (pv 4) (by rfl)) (pa_cons (pv 2) pa_nil)))))))))) (fun _ _ _ _ _ => (pv 4))) (pe_lst pa_nil) (nomark _))
        (pss_one (ps_ret pe_bl))
        pss_nil)
      (pss_one (ps_ret (pe_and (pe_cmp (pc_isN (pe_fld (pe_make CM CF (hr.mono (by decide)) (by rfl) KC.g cbD (.cons (show RelV .non _ from rfl) .nil) pass0 (pa_cons (pv 1) pa_nil)) rfl))) (pe_one (pe_cmpR op_eq (pe_fld (pe_makeK0 CM CF (hr.mono (by decide)) (by rfl) KC.g ck3 pass0 (pk_cons (pv 1) pk_nil)) rfl) (pv 1) (nomark _)))))))))), ?_⟩
    have hn' : n + 10000 < 1000000000 := hn
    refine ⟨_, rfl, a, 1, 8, n, rfl, hw, (show n + 2000 < 1000000000 by omega), by decide, by decide, fun H1 z f1 hz => ?_⟩
    have mk : ∀ {C : Addr} {H1 : Hp} {x dx : Addr}, H1 x = none → H1 dx = none → Same H1 (upd (upd H1 dx (.own x)) x (.ins C dx [])) := fun hx hdx b o e => by
      rw [upd_ne (ne_of_none e hx), upd_ne (ne_of_none e hdx)]
      exact e
    have mk2 : ∀ {C : Addr} {H1 H2 : Hp} {x dx : Addr}, H1 x = none → H1 dx = none → (∀ b o, b ≠ x → (upd (upd H1 dx (.own x)) x (.ins C dx [])) b = some o → H2 b = some o) → Same H1 H2 := fun hx hdx k b o e => k b o (ne_of_none e hx) (mk hx hdx _ _ e)
    refine ⟨_, rfl, Nat.zero_le _, fun t0 ht0 => ⟨by show 2 ≤ sizeLine; decide, fun t1 ht1 => ?_⟩⟩
    have s2 := (same_upd (o := .tup []) ht0).trans (same_upd (o := .tup [.int 1, .int 2]) ht1)
    have h0 : (upd (upd H1 t0 (.tup [])) t1 (.tup [.int 1, .int 2])) t0 = some (.tup []) := (same_upd ht1) _ _ upd_same
    have h1 : (upd (upd H1 t0 (.tup [])) t1 (.tup [.int 1, .int 2])) t1 = some (.tup [.int 1, .int 2]) := upd_same
    generalize upd (upd H1 t0 (.tup [])) t1 (.tup [.int 1, .int 2]) = H2 at s2 h0 h1 ⊢
    intro p dx hp hdx ndx
    refine ⟨p, dx, .str "k", .ref tE, [], rfl, upd_same, .non NC.et, List.nodup_nil, by decide, fun H3 fk k3 hfk hp3 hf3 => ⟨rfl, ?_⟩⟩
    have s3 : Same H2 H3 := mk2 hp hdx k3
    refine ⟨by show 8 ≤ sizeLine; decide, fun L hL => ?_⟩
    have s4 := same_upd (o := .lst [.int 0, .bl false, .str "", .ref t0, .non, .str "x", .ref t1, .ref p]) hL
    have hLL : (upd H3 L (.lst [.int 0, .bl false, .str "", .ref t0, .non, .str "x", .ref t1, .ref p])) L = some (.lst [.int 0, .bl false, .str "", .ref t0, .non, .str "x", .ref t1, .ref p]) := upd_same
    have s14 := s2.trans (s3.trans s4)
    have f4 := f1.same s14
    have hTh : ∀ y ∈ ([.int 0, .bl false, .str "", .ref t0, .non, .str "x", .ref t1, .ref p] : List V), Th CN CC (upd H3 L (.lst [.int 0, .bl false, .str "", .ref t0, .non, .str "x", .ref t1, .ref p])) y := by
      intro y hy
      simp only [List.mem_cons, List.not_mem_nil, or_false] at hy
      rcases hy with rfl | rfl | rfl | rfl | rfl | rfl | rfl | rfl
      · exact .int 0
      · exact .bl false
      · exact .str (Asc.of (by decide +kernel))
      · exact .tup0 ((s3.trans s4) _ _ h0)
      · exact .non
      · exact .str (Asc.of (by decide +kernel))
      · exact .tup11 1 2 ((s3.trans s4) _ _ h1)
      · exact .node (s4 _ _ hp3)
    generalize upd H3 L (.lst [.int 0, .bl false, .str "", .ref t0, .non, .str "x", .ref t1, .ref p]) = H4 at s4 hLL s14 f4 hTh ⊢
    have hL0 : H L = none := f1.free hw ((s2.trans s3).free hL)
    refine ⟨a, n + 1 + 8, _, rfl, f4.w, (show n + 1 + 8 < 1000000000 by omega), .inl ⟨L, _, rfl, hLL, hw.ne hL0, (by show 0 < 8; decide), (by show 8 < 1000000; decide), fun H5 y f5 hy => ?_⟩⟩
    have f15 := f4.trans f5
    have hY := (hTh y hy).ti (f5.ti f4.w)
    refine ⟨_, rfl, _, rfl, fun x1 d1 hx1 hd1 nx1 => ?_⟩
    refine ⟨x1, d1, .str z, y, rfl, upd_same, fun H6 k6 c6 => ⟨rfl, ?_⟩⟩
    have s6 : Same H5 H6 := mk2 hx1 hd1 k6
    refine ⟨_, rfl, _, rfl, rfl, rfl, fun x2 d2 hx2 hd2 nx2 => ?_⟩
    refine ⟨x2, d2, .str z, y, rfl, upd_same, fun H7 k7 c7 => ⟨rfl, ?_⟩⟩
    have s7 : Same H6 H7 := mk2 hx2 hd2 k7
    refine ⟨_, rfl, _, rfl, rfl, rfl, fun x3 d3 hx3 hd3 nx3 => ?_⟩
    refine ⟨x3, d3, .str z, y, rfl, upd_same, fun H8 k8 c8 => ⟨rfl, ?_⟩⟩
    have s8 : Same H7 H8 := mk2 hx3 hd3 k8
    refine ⟨by show 3 ≤ sizeLine; decide, fun M hM => ?_⟩
    have s9 := same_upd (o := .lst [.ref x1, .ref x2, .ref x3]) hM
    have hMM : (upd H8 M (.lst [.ref x1, .ref x2, .ref x3])) M = some (.lst [.ref x1, .ref x2, .ref x3]) := upd_same
    have s59 := s6.trans (s7.trans (s8.trans s9))
    have cs : ∀ v ∈ ([.ref x1, .ref x2, .ref x3] : List V), ∃ x d, v = .ref x ∧ (upd H8 M (.lst [.ref x1, .ref x2, .ref x3])) x = some (.ins CC d (csF (.str z) y)) := by
      intro v hv
      simp only [List.mem_cons, List.not_mem_nil, or_false] at hv
      rcases hv with rfl | rfl | rfl
      · exact ⟨_, _, rfl, (s7.trans (s8.trans s9)) _ _ c6⟩
      · exact ⟨_, _, rfl, (s8.trans s9) _ _ c7⟩
      · exact ⟨_, _, rfl, s9 _ _ c8⟩
    generalize upd H8 M (.lst [.ref x1, .ref x2, .ref x3]) = H9 at s9 hMM s59 cs ⊢
    have hY9 := hY.ti (Same.ti s59)
    have f9 := f15.same s59
    refine ⟨_, rfl, M, rfl, ⟨_, SqL.of hMM⟩, fun D hD => lc_it (walk_list (K := K) (a := M) (xs := [.ref x1, .ref x2, .ref x3])) (fun j H' => Same H9 H' ∧ H' D = some (.lst [])) ⟨same_upd hD, upd_same⟩ (fun _ _ _ h => SqL.of (h.1 _ _ hMM)) ?_ ?_⟩
    · rintro j v H10 H11 hj ⟨sA, hDA⟩ ⟨rfl, hv⟩
      obtain ⟨x, d, rfl, hx⟩ := cs v (List.mem_of_getElem? hv)
      have hx' := sA _ _ hx
      refine ⟨rfl, _, rfl, x, CC, d, _, _, rfl, hx', KC.cl, KC.nW, lk_word _ _, _, rfl, rfl, _, rfl, ?_⟩
      rw [decide_eq_true (show V.str z = V.str z from rfl)]
      refine iteF ⟨_, rfl, x, CC, d, _, _, rfl, hx', KC.cl, KC.nC, lk_content _ _, _, rfl, y, rfl, hY9.ti (Same.ti sA), fun H12 sB => ⟨true, rfl, ?_⟩⟩
      exact iteF ⟨sA.trans sB, sB _ _ hDA⟩
    · rintro H10 ⟨sA, hDA⟩
      refine ⟨Nat.zero_le _, fun e0 he0 => ?_⟩
      have sB := same_upd (o := .lst []) he0
      refine ⟨_, _, .lst (SqL.of (sB _ _ hDA)) .nil, .lst (SqL.of upd_same) .nil, sh_tells [], sh_tells [], _, rfl, ?_⟩
      have e1 : PyData.eqv (.list []) (.list []) = true := tells_refl []
      rw [e1]
      refine iteF ?_
      have fB := f9.same (sA.trans sB)
      generalize upd H10 e0 (.lst []) = H12 at fB ⊢
      refine ⟨_, rfl, fun x4 d4 hx4 hd4 nx4 => ?_⟩
      refine ⟨x4, d4, .str z, .non, rfl, upd_same, fun H13 k13 c13 => ⟨rfl, ?_⟩⟩
      have sC : Same H12 H13 := mk2 hx4 hd4 k13
      refine ⟨x4, CC, d4, _, _, rfl, c13, KC.cl, KC.nC, lk_content _ _, ?_⟩
      refine ⟨true, by rfl, iteT ?_⟩
      refine ⟨_, rfl, rfl, rfl, fun x5 d5 hx5 hd5 nx5 => ?_⟩
      refine ⟨x5, d5, .str z, .non, rfl, upd_same, fun H14 k14 c14 => ⟨rfl, ?_⟩⟩
      have sD : Same H13 H14 := mk2 hx5 hd5 k14
      refine ⟨x5, CC, d5, _, _, rfl, c14, KC.cl, KC.nW, lk_word _ _, _, rfl, rfl, ?_⟩
      rw [decide_eq_true (show V.str z = V.str z from rfl)]
      exact q _ ((fB.same (sC.trans sD)).mono (by omega))
end
end K11
namespace K11
open PySem PySem.Spec PyProof.Rows L2 Tw Sb
theorem nd_put {kvs : KVs} (h : Nd kvs) (k : L2.Key) (v : V) : Nd (putK kvs k v) := by
  unfold putK
  split
  · show ((kvs.map fun kv => if kv.1 = k then (kv.1, v) else kv).map Prod.fst).Nodup
    rw [List.map_map]
    have e : (Prod.fst ∘ fun kv : L2.Key × V => if kv.1 = k then (kv.1, v) else kv) = Prod.fst := by
      funext kv
      show (if kv.1 = k then (kv.1, v) else kv).1 = kv.1
      split <;> rfl
    rw [e]
    exact h
  · rename_i hn
    show ((kvs ++ [(k, v)]).map Prod.fst).Nodup
    rw [List.map_append, List.nodup_append]
    refine ⟨h, by simp, fun a ha b hb => ?_⟩
    have e : b = k := by simpa using hb
    rw [e]
    intro w
    obtain ⟨x, hx, hk⟩ := List.mem_map.mp ha
    exact hn (List.any_eq_true.mpr ⟨x, hx, decide_eq_true (hk.trans w)⟩)
theorem len_put (kvs : KVs) (k : L2.Key) (v : V) : (putK kvs k v).length ≤ kvs.length + 1 := by
  unfold putK
  split
  · rw [List.length_map]
    omega
  · rw [List.length_append]
    exact Nat.le_refl _
theorem mem_put {kvs : KVs} {k : L2.Key} {v : V} {kv : L2.Key × V} (h : kv ∈ putK kvs k v) : kv ∈ kvs ∨ kv = (k, v) := by
  unfold putK at h
  split at h
  · obtain ⟨x, hx, e⟩ := List.mem_map.mp h
    by_cases hk : x.1 = k
    · rw [if_pos hk] at e
      rw [← e, hk]
      exact .inr rfl
    · rw [if_neg hk] at e
      rw [← e]
      exact .inl hx
  · rcases List.mem_append.mp h with h | h
    · exact .inl h
    · exact .inr (by simpa using h)
theorem merge_ok : ∀ (more kvs : KVs), Nd kvs → Nd (mergeK kvs more) ∧ (mergeK kvs more).length ≤ kvs.length + more.length ∧ ∀ kv ∈ mergeK kvs more, kv ∈ kvs ∨ kv ∈ more
  | [], kvs, h => ⟨h, Nat.le_refl _, fun kv hk => .inl hk⟩
  | (k, v) :: r, kvs, h => by
    obtain ⟨h1, h2, h3⟩ := merge_ok r (putK kvs k v) (nd_put h k v)
    have hl := len_put kvs k v
    refine ⟨h1, Nat.le_trans h2 (by rw [List.length_cons]; omega), fun kv hk => ?_⟩
    rcases h3 kv hk with g | g
    · rcases mem_put g with g | g
      · exact .inl g
      · exact .inr (by rw [g]; exact List.mem_cons_self ..)
    · exact .inr (List.mem_cons_of_mem _ g)
/-- a node, its sort, what is due of it, where its fields lie -/
structure Ent where
  n : Addr
  d : Addr
  f : Addr
  z : Str
  kvs : KVs
def Gd (CN CC : Addr) (H : Hp) (kvs : KVs) : Prop := Nd kvs ∧ ∀ kv ∈ kvs, Th CN CC H kv.2 ∧ ∃ y, kv.1 = .inr y ∧ Asc 1000 y
structure EntAt (CN CC : Addr) (H : Hp) (c : Nat) (e : Ent) : Prop where
  n : ∃ dx, H e.n = some (.ins CN dx (nF (.str e.z) e.f))
  d : H e.d = some (.dK e.kvs)
  f : H e.f = some (.dK e.kvs)
  g : Gd CN CC H e.kvs
  l : e.kvs.length ≤ c
theorem Gd.ti {CN CC : Addr} {H H' : Hp} {kvs : KVs} (h : Gd CN CC H kvs) (k : TI H H') : Gd CN CC H' kvs := ⟨h.1, fun kv hk => ⟨(h.2 kv hk).1.ti k, (h.2 kv hk).2⟩⟩
/-- the dicts' places -/
def plc (es : List Ent) : List Addr := es.flatMap fun e => [e.d, e.f]
/-- where all stands, c: at most so many fields -/
structure St (CN CC : Addr) (Hs H : Hp) (a B NL DL SL b0 b1 g0 g1 : Addr) (n c : Nat) (ns ds ss : List V) (es : List Ent) : Prop where
  same : Same Hs H
  wl : IsWn n H a
  ha : Hs a = none
  hB : H B = some (.lst [.ref b0, .ref b1])
  hN : H NL = some (.lst ns)
  hD : H DL = some (.lst ds)
  hS : H SL = some (.lst ss)
  new : Hs B = none ∧ Hs NL = none ∧ Hs DL = none ∧ Hs SL = none
  ne : B ≠ a ∧ NL ≠ a ∧ DL ≠ a ∧ SL ≠ a ∧ NL ≠ B ∧ DL ≠ B ∧ SL ≠ B ∧ NL ≠ DL ∧ NL ≠ SL ∧ DL ≠ SL
  ents : ∀ e ∈ es, EntAt CN CC H c e
  bl0 : ∃ dx, H b0 = some (.ins CN dx (nF (.str "z") g0))
  bl1 : ∃ dx, H b1 = some (.ins CN dx (nF (.str "y") g1))
  hg0 : H g0 = some (.dK [])
  hg1 : H g1 = some (.dK [])
  nd : (g0 :: g1 :: plc es).Nodup
  newd : ∀ x ∈ plc es, Hs x = none
section
variable {CN CC : Addr} {Hs H H' : Hp} {a B NL DL SL b0 b1 g0 g1 : Addr} {n m c : Nat} {ns ds ss xs : List V} {es : List Ent}
theorem St.ne1 (S : St CN CC Hs H a B NL DL SL b0 b1 g0 g1 n c ns ds ss es) {x : Addr} {o : HO} (e : H x = some o) (h : ∀ ys, o ≠ .lst ys) : x ≠ a := by
  obtain ⟨_, _, _, h2, _⟩ := S.wl
  exact ne_of e h2 (fun z => h _ z)
theorem St.keep (S : St CN CC Hs H a B NL DL SL b0 b1 g0 g1 n c ns ds ss es) (k : ∀ x o, x ≠ a → H x = some o → H' x = some o) (w : IsWn m H' a) : St CN CC Hs H' a B NL DL SL b0 b1 g0 g1 m c ns ds ss es := by
  have kd : ∀ {x o}, H x = some o → (∀ ys, o ≠ .lst ys) → H' x = some o := fun e h => k _ _ (S.ne1 e h) e
  have ti : TI H H' := ⟨fun b xs e => kd e (fun ys z => by cases z), fun b C dx fs e => kd e (fun ys z => by cases z)⟩
  refine ⟨fun x o e => k x o (ne_of_none e S.ha) (S.same x o e), w, S.ha, k _ _ S.ne.1 S.hB, k _ _ S.ne.2.1 S.hN, k _ _ S.ne.2.2.1 S.hD, k _ _ S.ne.2.2.2.1 S.hS, S.new, S.ne, fun e he => ?_, ?_, ?_, kd S.hg0 (fun ys z => by cases z), kd S.hg1 (fun ys z => by cases z), S.nd, S.newd⟩
  · have E := S.ents e he
    obtain ⟨dx, hn⟩ := E.n
    exact ⟨⟨dx, kd hn (fun ys z => by cases z)⟩, kd E.d (fun ys z => by cases z), kd E.f (fun ys z => by cases z), E.g.ti ti, E.l⟩
  · obtain ⟨dx, h⟩ := S.bl0
    exact ⟨dx, kd h (fun ys z => by cases z)⟩
  · obtain ⟨dx, h⟩ := S.bl1
    exact ⟨dx, kd h (fun ys z => by cases z)⟩
theorem St.fn (S : St CN CC Hs H a B NL DL SL b0 b1 g0 g1 n c ns ds ss es) (f : Fn m a H H') : St CN CC Hs H' a B NL DL SL b0 b1 g0 g1 m c ns ds ss es := S.keep f.k f.w
theorem St.sm (S : St CN CC Hs H a B NL DL SL b0 b1 g0 g1 n c ns ds ss es) (s : Same H H') : St CN CC Hs H' a B NL DL SL b0 b1 g0 g1 n c ns ds ss es := S.keep (fun x o _ e => s x o e) (S.wl.same s)
theorem St.mono (S : St CN CC Hs H a B NL DL SL b0 b1 g0 g1 n c ns ds ss es) (h : n ≤ m) {c' : Nat} (h2 : c ≤ c') : St CN CC Hs H a B NL DL SL b0 b1 g0 g1 m c' ns ds ss es := ⟨S.same, S.wl.mono h, S.ha, S.hB, S.hN, S.hD, S.hS, S.new, S.ne, fun e he => ⟨(S.ents e he).n, (S.ents e he).d, (S.ents e he).f, (S.ents e he).g, Nat.le_trans (S.ents e he).l h2⟩, S.bl0, S.bl1, S.hg0, S.hg1, S.nd, S.newd⟩
theorem St.dk (S : St CN CC Hs H a B NL DL SL b0 b1 g0 g1 n c ns ds ss es) {X : Addr} {ys : List V} (hX : ∃ zs, H X = some (.lst zs)) {x : Addr} {o : HO} (e : H x = some o) (h : ∀ ys, o ≠ .lst ys) : (upd H X (.lst ys)) x = some o := by
  obtain ⟨zs, hX⟩ := hX
  rw [upd_ne (ne_of e hX (fun z => h _ z))]
  exact e
theorem St.lst (S : St CN CC Hs H a B NL DL SL b0 b1 g0 g1 n c ns ds ss es) {X : Addr} {ys : List V} (hX : ∃ zs, H X = some (.lst zs)) (hn : Hs X = none) (xa : X ≠ a) : Same Hs (upd H X (.lst ys)) ∧ IsWn n (upd H X (.lst ys)) a ∧ (∀ e ∈ es, EntAt CN CC (upd H X (.lst ys)) c e) ∧ (∃ dx, (upd H X (.lst ys)) b0 = some (.ins CN dx (nF (.str "z") g0))) ∧ (∃ dx, (upd H X (.lst ys)) b1 = some (.ins CN dx (nF (.str "y") g1))) ∧ (upd H X (.lst ys)) g0 = some (.dK []) ∧ (upd H X (.lst ys)) g1 = some (.dK []) := by
  have kd : ∀ {x o}, H x = some o → (∀ ys, o ≠ .lst ys) → (upd H X (.lst ys)) x = some o := fun e h => S.dk hX e h
  have ti : TI H (upd H X (.lst ys)) := ⟨fun b xs e => kd e (fun ys z => by cases z), fun b C dx fs e => kd e (fun ys z => by cases z)⟩
  refine ⟨fun x o e => ?_, ?_, fun e he => ?_, ?_, ?_, kd S.hg0 (fun ys z => by cases z), kd S.hg1 (fun ys z => by cases z)⟩
  · rw [upd_ne (ne_of_none e hn)]
    exact S.same x o e
  · obtain ⟨x, y, z, h, r⟩ := S.wl
    exact ⟨x, y, z, by rw [upd_ne xa.symm]; exact h, r⟩
  · have E := S.ents e he
    obtain ⟨dx, hn⟩ := E.n
    exact ⟨⟨dx, kd hn (fun ys z => by cases z)⟩, kd E.d (fun ys z => by cases z), kd E.f (fun ys z => by cases z), E.g.ti ti, E.l⟩
  · obtain ⟨dx, h⟩ := S.bl0
    exact ⟨dx, kd h (fun ys z => by cases z)⟩
  · obtain ⟨dx, h⟩ := S.bl1
    exact ⟨dx, kd h (fun ys z => by cases z)⟩
theorem St.setN (S : St CN CC Hs H a B NL DL SL b0 b1 g0 g1 n c ns ds ss es) : St CN CC Hs (upd H NL (.lst xs)) a B NL DL SL b0 b1 g0 g1 n c xs ds ss es := by
  obtain ⟨h1, h2, h3, h4, h5, h6, h7⟩ := S.lst (ys := xs) ⟨_, S.hN⟩ S.new.2.1 S.ne.2.1
  obtain ⟨n1, n2, n3, n4, n5, n6, n7, n8, n9, n10⟩ := S.ne
  exact ⟨h1, h2, S.ha, by rw [upd_ne n5.symm]; exact S.hB, upd_same, by rw [upd_ne n8.symm]; exact S.hD, by rw [upd_ne n9.symm]; exact S.hS, S.new, S.ne, h3, h4, h5, h6, h7, S.nd, S.newd⟩
theorem St.setD (S : St CN CC Hs H a B NL DL SL b0 b1 g0 g1 n c ns ds ss es) : St CN CC Hs (upd H DL (.lst xs)) a B NL DL SL b0 b1 g0 g1 n c ns xs ss es := by
  obtain ⟨h1, h2, h3, h4, h5, h6, h7⟩ := S.lst (ys := xs) ⟨_, S.hD⟩ S.new.2.2.1 S.ne.2.2.1
  obtain ⟨n1, n2, n3, n4, n5, n6, n7, n8, n9, n10⟩ := S.ne
  exact ⟨h1, h2, S.ha, by rw [upd_ne n6.symm]; exact S.hB, by rw [upd_ne n8]; exact S.hN, upd_same, by rw [upd_ne n10.symm]; exact S.hS, S.new, S.ne, h3, h4, h5, h6, h7, S.nd, S.newd⟩
theorem St.setS (S : St CN CC Hs H a B NL DL SL b0 b1 g0 g1 n c ns ds ss es) : St CN CC Hs (upd H SL (.lst xs)) a B NL DL SL b0 b1 g0 g1 n c ns ds xs es := by
  obtain ⟨h1, h2, h3, h4, h5, h6, h7⟩ := S.lst (ys := xs) ⟨_, S.hS⟩ S.new.2.2.2 S.ne.2.2.2.1
  obtain ⟨n1, n2, n3, n4, n5, n6, n7, n8, n9, n10⟩ := S.ne
  exact ⟨h1, h2, S.ha, by rw [upd_ne n7.symm]; exact S.hB, by rw [upd_ne n9]; exact S.hN, by rw [upd_ne n10]; exact S.hD, upd_same, S.new, S.ne, h3, h4, h5, h6, h7, S.nd, S.newd⟩
theorem plc_snoc (es : List Ent) (e : Ent) : plc (es ++ [e]) = plc es ++ [e.d, e.f] := by
  unfold plc
  rw [List.flatMap_append]
  simp
theorem mem_plc {x : Addr} (h : x ∈ plc es) : ∃ e ∈ es, x = e.d ∨ x = e.f := by
  obtain ⟨e, he, hx⟩ := List.mem_flatMap.mp h
  exact ⟨e, he, by simpa using hx⟩
theorem St.free (S : St CN CC Hs H a B NL DL SL b0 b1 g0 g1 n c ns ds ss es) {x : Addr} (h : H x = none) : x ≠ g0 ∧ x ≠ g1 ∧ x ∉ plc es ∧ Hs x = none := by
  refine ⟨fun w => ?_, fun w => ?_, fun hm => ?_, Same.free S.same h⟩
  · rw [w, S.hg0] at h
    cases h
  · rw [w, S.hg1] at h
    cases h
  · obtain ⟨e, he, hx⟩ := mem_plc hm
    rcases hx with w | w
    · rw [w, (S.ents e he).d] at h
      cases h
    · rw [w, (S.ents e he).f] at h
      cases h
theorem St.addE (S : St CN CC Hs H a B NL DL SL b0 b1 g0 g1 n c ns ds ss es) {e : Ent} (E : EntAt CN CC H c e) (ndf : e.d ≠ e.f) (fd : e.d ≠ g0 ∧ e.d ≠ g1 ∧ e.d ∉ plc es ∧ Hs e.d = none) (ff : e.f ≠ g0 ∧ e.f ≠ g1 ∧ e.f ∉ plc es ∧ Hs e.f = none) : St CN CC Hs H a B NL DL SL b0 b1 g0 g1 n c ns ds ss (es ++ [e]) := by
  refine ⟨S.same, S.wl, S.ha, S.hB, S.hN, S.hD, S.hS, S.new, S.ne, fun x hx => ?_, S.bl0, S.bl1, S.hg0, S.hg1, ?_, fun x hx => ?_⟩
  · rcases List.mem_append.mp hx with h | h
    · exact S.ents x h
    · have w : x = e := by simpa using h
      rw [w]
      exact E
  · rw [plc_snoc]
    have h := S.nd
    rw [show g0 :: g1 :: (plc es ++ [e.d, e.f]) = (g0 :: g1 :: plc es) ++ [e.d, e.f] from rfl, List.nodup_append]
    refine ⟨h, by simp [ndf], fun x hx y hy => ?_⟩
    simp only [List.mem_cons, List.not_mem_nil, or_false] at hx hy
    rintro rfl
    rcases hy with rfl | rfl
    · rcases hx with w | w | w
      · exact fd.1 w
      · exact fd.2.1 w
      · exact fd.2.2.1 w
    · rcases hx with w | w | w
      · exact ff.1 w
      · exact ff.2.1 w
      · exact ff.2.2.1 w
  · rw [plc_snoc] at hx
    rcases List.mem_append.mp hx with h | h
    · exact S.newd x h
    · simp only [List.mem_cons, List.not_mem_nil, or_false] at h
      rcases h with rfl | rfl
      · exact fd.2.2.2
      · exact ff.2.2.2
theorem plc_mid (l1 l2 : List Ent) (e : Ent) : plc (l1 ++ e :: l2) = plc l1 ++ e.d :: e.f :: plc l2 := by
  unfold plc
  rw [List.flatMap_append, List.flatMap_cons]
  rfl
theorem split_at {α : Type} {l : List α} {i : Nat} {x : α} (h : l[i]? = some x) : ∃ l1 l2, l = l1 ++ x :: l2 := by
  have hi : i < l.length := (List.getElem?_eq_some_iff.mp h).1
  refine ⟨l.take i, l.drop (i + 1), ?_⟩
  have e := List.drop_eq_getElem_cons hi
  rw [(List.getElem?_eq_some_iff.mp h).2] at e
  rw [← e, List.take_append_drop]
theorem St.setE {l1 l2 : List Ent} {e : Ent} {kvs' : KVs} (S : St CN CC Hs H a B NL DL SL b0 b1 g0 g1 n c ns ds ss (l1 ++ e :: l2)) (hg : Gd CN CC H kvs') (hl : kvs'.length ≤ c + 1) : St CN CC Hs (upd (upd H e.f (.dK kvs')) e.d (.dK kvs')) a B NL DL SL b0 b1 g0 g1 n (c + 1) ns ds ss (l1 ++ { e with kvs := kvs' } :: l2) := by
  have E := S.ents e (by simp)
  have kd : ∀ {x o}, H x = some o → (∀ k, o ≠ .dK k) → (upd (upd H e.f (.dK kvs')) e.d (.dK kvs')) x = some o := fun {x o} h no => by
    rw [upd_ne (ne_of h E.d (fun z => no _ z)), upd_ne (ne_of h E.f (fun z => no _ z))]
    exact h
  have kk : ∀ {x o}, H x = some o → x ≠ e.d → x ≠ e.f → (upd (upd H e.f (.dK kvs')) e.d (.dK kvs')) x = some o := fun h n1 n2 => by
    rw [upd_ne n1, upd_ne n2]
    exact h
  have ti : TI H (upd (upd H e.f (.dK kvs')) e.d (.dK kvs')) := ⟨fun b xs h => kd h (fun ys z => by cases z), fun b C dx fs h => kd h (fun ys z => by cases z)⟩
  have nd := S.nd
  rw [plc_mid] at nd
  have hin : e.d ∈ plc (l1 ++ e :: l2) ∧ e.f ∈ plc (l1 ++ e :: l2) := by
    rw [plc_mid]
    simp
  have nd0 := List.nodup_cons.mp nd
  have nd1 := List.nodup_cons.mp nd0.2
  have ndp := nd1.2
  have n0 : g0 ≠ e.d ∧ g0 ≠ e.f ∧ g1 ≠ e.d ∧ g1 ≠ e.f := ⟨fun w => nd0.1 (by simp [w]), fun w => nd0.1 (by simp [w]), fun w => nd1.1 (by simp [w]), fun w => nd1.1 (by simp [w])⟩
  obtain ⟨np1, np2, np3⟩ := List.nodup_append.mp ndp
  have np4 := List.nodup_cons.mp np2
  have np5 := List.nodup_cons.mp np4.2
  have ndf : e.d ≠ e.f := fun w => np4.1 (by simp [w])
  have oth : ∀ x ∈ plc l1 ++ plc l2, x ≠ e.d ∧ x ≠ e.f := by
    intro x hx
    rcases List.mem_append.mp hx with h | h
    · exact ⟨np3 x h e.d (by simp), np3 x h e.f (by simp)⟩
    · exact ⟨fun w => np4.1 (by simp [← w, h]), fun w => np5.1 (by rw [← w]; exact h)⟩
  refine ⟨fun x o h => ?_, ?_, S.ha, kd S.hB (fun ys z => by cases z), kd S.hN (fun ys z => by cases z), kd S.hD (fun ys z => by cases z), kd S.hS (fun ys z => by cases z), S.new, S.ne, fun x hx => ?_, ?_, ?_, kk S.hg0 n0.1 n0.2.1, kk S.hg1 n0.2.2.1 n0.2.2.2, ?_, fun x hx => ?_⟩
  · exact kk (S.same x o h) (ne_of_none h (S.newd _ hin.1)) (ne_of_none h (S.newd _ hin.2))
  · obtain ⟨x, y, z, h, r⟩ := S.wl
    exact ⟨x, y, z, kd h (fun ys z => by cases z), r⟩
  · have other : x ∈ l1 ∨ x ∈ l2 → EntAt CN CC (upd (upd H e.f (.dK kvs')) e.d (.dK kvs')) (c + 1) x := by
      intro hm
      have X := S.ents x (by rcases hm with h | h <;> simp [h])
      obtain ⟨dx, hn⟩ := X.n
      have hpl : x.d ∈ plc l1 ++ plc l2 ∧ x.f ∈ plc l1 ++ plc l2 := by
        constructor
        · rw [List.mem_append]
          rcases hm with h | h
          · exact .inl (List.mem_flatMap.mpr ⟨x, h, by simp⟩)
          · exact .inr (List.mem_flatMap.mpr ⟨x, h, by simp⟩)
        · rw [List.mem_append]
          rcases hm with h | h
          · exact .inl (List.mem_flatMap.mpr ⟨x, h, by simp⟩)
          · exact .inr (List.mem_flatMap.mpr ⟨x, h, by simp⟩)
      have o1 := oth _ hpl.1
      have o2 := oth _ hpl.2
      exact ⟨⟨dx, kd hn (fun ys z => by cases z)⟩, kk X.d o1.1 o1.2, kk X.f o2.1 o2.2, X.g.ti ti, Nat.le_succ_of_le X.l⟩
    rcases List.mem_append.mp hx with h | h
    · exact other (.inl h)
    · rcases List.mem_cons.mp h with h | h
      · obtain ⟨dx, hn⟩ := E.n
        rw [h]
        exact ⟨⟨dx, kd hn (fun ys z => by cases z)⟩, upd_same, by
          show (upd (upd H e.f (.dK kvs')) e.d (.dK kvs')) e.f = _
          rw [upd_ne ndf.symm, upd_same], hg.ti ti, hl⟩
      · exact other (.inr h)
  · obtain ⟨dx, h⟩ := S.bl0
    exact ⟨dx, kd h (fun ys z => by cases z)⟩
  · obtain ⟨dx, h⟩ := S.bl1
    exact ⟨dx, kd h (fun ys z => by cases z)⟩
  · rw [plc_mid]
    exact nd
  · rw [plc_mid] at hx
    exact S.newd x (by rw [plc_mid]; exact hx)
end
end K11
namespace K11
open PySem PySem.Spec PyProof.Rows L2 Tw Sb
def rDictP (K : PySem.W.Frag) : List V → Hp → VK → Prop := fun xs H Q => ∃ (a : Addr) (ps : List Addr) (kvs : KVs), xs = [.ref a] ∧ SqL K H a (ps.map V.ref) ∧ Paired (fun p kv => SqT K H p [kV kv.1, kv.2]) ps kvs ∧ ∀ p, H p = none → Q (.ref p) (upd H p (.dK (mergeK [] kvs)))
def rListD : List V → Hp → VK → Prop := fun xs H Q => ∃ (a : Addr) (kvs : KVs), xs = [.ref a] ∧ Rd H a (.dK kvs) ∧ ∀ p, H p = none → Q (.ref p) (upd H p (.lst (kvs.map fun kv => kV kv.1)))
section
variable {P : Program} {w : World} {K : PySem.W.Frag} {mg : Str → Option Value} {base : Heap} {CN CC tE : Addr}
theorem ok_law {f : Addr} {fd : FuncData} (F : Fun K "law" "law" s_law f fd) (T : Bt mg) (hD : mg "dict" = none) (NC : NodeC P w K mg base CN tE) (c__law_well : Cal P w K mg base 1 "_law_well" ["_law_cell"] spWell) (c__law_draw : Cal P w K mg base 1 "_law_draw" ["_law_well_here", "_law_many"] spDraw) (c__law_one : Cal P w K mg base 2 "_law_one" ["_law_well_here", "_law_some"] (spOne K))
    (c__law_text : Cal P w K mg base 3 "_law_text" ["_law_well_here", "_law_least", "_law_most"] spText) (c__law_thing : Cal P w K mg base 4 "_law_thing" ["_law_well_here", "_law_nodes"] (spThing CN CC)) (c__law_made : Cal P w K mg base 3 "_law_made" ["_law_way", "_law_sort", "_law_due"] (spMade CN)) (c__law_right : Cal P w K mg base 3 "_law_right" ["_law_node", "_law_sort", "_law_due"] (spRight CN CC))
    (c__law_cases_right : Cal P w K mg base 4 "_law_cases_right" ["_law_well_here"] spCases) : FnOk P w K mg base CX0 5 f fd ["_law_script"] (spLaw K) := by
  obtain ⟨fN, fdN, NM, NF, nb0, nbD, nk1, nk2⟩ := NC.ex
  have m_put := NC.put
  refine F.ok sc_law (fun vs H Q E h => ?_) (fun cdv A outer s H vs Q E hr h => ?_)
  · obtain ⟨a, ns, rfl, _⟩ := h
    rfl
  · obtain ⟨sa, sns, rfl, hS, hlen, q⟩ := h
    refine ⟨_, (pss_cons (ps_for PassesOwn.never rfl (pi_list (pe_op op_cat (pe_slice (r := rSlL K) sl_list (pv 0) po_none (po_some pe_int)) (pe_lst (pa_cons pe_int pa_nil)))) (pg_name (i := 1) sc_law.nd rfl (.inl rfl))
        (pss_cons (ps_set (i := 2) sc_law.nd rfl (.inr rfl) (pe_cal c__law_well hr (by decide) (by rfl) (pa_cons (pv 1) pa_nil)))
        (pss_cons (ps_setLc (i := 3) (own := [("_law_k", 11)]) rfl sc_law.nd rfl rfl (sw_true rfl rfl rfl (by decide +kernel)) (pi_range1 rfl T.n_range (pa_cons (pe_op op_add pe_int (pe_cal c__law_draw hr (by decide) (by rfl) (pa_cons (pv 2) (pa_cons pe_int pa_nil)))) pa_nil)) (blkOk_by (N := N_law) (sc := defScope s_law) (by decide +kernel)) (fun _ _ _ _ _ => (pg_name (i := 11) sc_law.nd rfl (.inl rfl))) (fun _ _ _ _ _ => pts_nil) (fun _ _ _ _ _ => (pe_cal c__law_draw hr (by decide) (by rfl) (pa_cons (pv 2) (pa_cons pe_int pa_nil)))))
        (pss_cons (ps_set (i := 4) sc_law.nd rfl (.inr rfl) (pe_lst (pa_cons (pe_make NM NF (hr.mono (by decide)) (by rfl) NC.g nbD (.cons (show RelV (.ref tE) _ from rfl) .nil) pass0 (pa_cons pe_str pa_nil)) (pa_cons (pe_make NM NF (hr.mono (by decide)) (by rfl) NC.g nbD (.cons (show RelV (.ref tE) _ from rfl) .nil) pass0 (pa_cons pe_str pa_nil)) pa_nil))))
        (pss_cons (ps_set (i := 5) sc_law.nd rfl (.inr rfl) (pe_lst pa_nil))
        (pss_cons (ps_set (i := 6) sc_law.nd rfl (.inl rfl) (pe_lst pa_nil))
        (pss_cons (ps_set (i := 7) sc_law.nd rfl (.inl rfl) (pe_lst pa_nil))
        (pss_cons (ps_for PassesOwn.never rfl (pi_list (pv 3)) (pg_name (i := 8) sc_law.nd rfl (.inl rfl))
          (pss_cons (ps_setLc (i := 9) (own := [("_law_k", 11)]) rfl sc_law.nd rfl rfl (sw_true rfl rfl rfl (by decide +kernel)) (pi_range1 rfl T.n_range (pa_cons (pe_cal c__law_draw hr (by decide) (by rfl) (pa_cons (pv 2) (pa_cons pe_int pa_nil))) pa_nil)) (blkOk_by (N := N_law) (sc := defScope s_law) (by decide +kernel)) (fun _ _ _ _ _ => (pg_name (i := 11) sc_law.nd rfl (.inl rfl))) (fun _ _ _ _ _ => pts_nil) (fun _ _ _ _ _ => (pe_cal c__law_text hr (by decide) (by rfl) (pa_cons (pv 2) (pa_cons pe_int (pa_cons pe_int pa_nil))))))
          (pss_cons (ps_set (i := 10) sc_law.nd rfl (.inl rfl) (pe_callTy (T := "dict") (r := rDictP K) (call_dictP rfl) (by rfl) hD (by decide +kernel) (pa_cons (pe_lc (own := [("_law_called", 13)]) rfl sc_law.nd (pi_list (pv 9)) (blkOk_by (N := N_law) (sc := defScope s_law) (by decide +kernel)) (fun _ _ _ _ _ => (pg_name (i := 13) sc_law.nd rfl (.inl rfl))) (fun _ _ _ _ _ => pts_nil) (fun _ _ _ _ _ => (pe_tup (pa_cons (pv 13) (pa_cons (pe_cal c__law_thing hr (by decide) (by rfl) (pa_cons (pv 2) (pa_cons (pe_op op_cat (pv 4) (pv 5)) pa_nil))) pa_nil))))) pa_nil)))
          (pss_cons (ps_expr (pe_bm PySem.F.plainAttrs_list PySem.F.slot_list_append PySem.F.type_list_append mt_append (pv 7) (pa_cons (pe_cal c__law_text hr (by decide) (by rfl) (pa_cons (pv 2) (pa_cons pe_int (pa_cons pe_int pa_nil)))) pa_nil)))
          (pss_cons (ps_expr (pe_bm PySem.F.plainAttrs_list PySem.F.slot_list_append PySem.F.type_list_append mt_append (pv 5) (pa_cons (pe_cal c__law_made hr (by decide) (by rfl) (pa_cons (pv 8) (pa_cons (pe_ix (r := rIxL K) ix_list (pv 7) (pe_un un_neg pe_int) (fun _ _ => rfl)) (pa_cons (pv 10) pa_nil)))) pa_nil)))
          (pss_one (ps_expr (pe_bm PySem.F.plainAttrs_list PySem.F.slot_list_append PySem.F.type_list_append mt_append (pv 6) (pa_cons (pv 10) pa_nil)))))))))
        (pss_cons (ps_for PassesOwn.never rfl (pi_range1 rfl T.n_range (pa_cons (pe_cal c__law_draw hr (by decide) (by rfl) (pa_cons (pv 2) (pa_cons pe_int pa_nil))) pa_nil)) (pg_name (i := 11) sc_law.nd rfl (.inl rfl))
          (pss_cons (ps_set (i := 12) sc_law.nd rfl (.inl rfl) (pe_cal c__law_draw hr (by decide) (by rfl) (pa_cons (pv 2) (pa_cons (pe_callB call_len_seq (by rfl) T.n_len (by decide +kernel) (pa_cons (pv 5) pa_nil)) pa_nil))))
          (pss_cons (ps_set (i := 13) sc_law.nd rfl (.inl rfl) (pe_cal c__law_one hr (by decide) (by rfl) (pa_cons (pv 2) (pa_cons (pe_op op_cat (pe_callTy (T := "list") (r := rListD) (call_listD rfl) (by rfl) T.n_list (by decide +kernel) (pa_cons (pe_ix (r := rIxL K) ix_list (pv 6) (pv 12) (fun _ _ => rfl)) pa_nil)) (pe_lst (pa_cons (pe_cal c__law_text hr (by decide) (by rfl) (pa_cons (pv 2) (pa_cons pe_int (pa_cons pe_int pa_nil)))) pa_nil))) pa_nil))))
          (pss_cons (ps_set (i := 14) sc_law.nd rfl (.inl rfl) (pe_cal c__law_thing hr (by decide) (by rfl) (pa_cons (pv 2) (pa_cons (pv 5) pa_nil))))
          (pss_cons (ps_expr (pe_mcal m_put NC.cl hr (by decide) (pe_ix (r := rIxL K) ix_list (pv 5) (pv 12) (fun _ _ => rfl)) (pa_cons (pv 13) (pa_cons (pv 14) pa_nil))))
          (pss_one (ps_dput (Nat.lt_of_le_of_lt (Nat.add_le_add_left (by decide) _) hr.units) (pe_ix (r := rIxL K) ix_list (pv 6) (pv 12) (fun _ _ => rfl)) (pv 13) (pv 14) rfl)))))))
        (pss_cons (ps_for PassesOwn.never rfl (pi_zip3 (by rfl) T.n_zip (pa_cons (pv 5) (pa_cons (pv 7) (pa_cons (pv 6) pa_nil)))) (pg_tup rfl (pgs_cons (pg_name (i := 15) sc_law.nd rfl (.inl rfl)) (pgs_cons (pg_name (i := 16) sc_law.nd rfl (.inl rfl)) (pgs_cons (pg_name (i := 10) sc_law.nd rfl (.inl rfl)) pgs_nil))))
          (pss_one (ps_if (pt_not (pt_val (pe_cal c__law_right hr (by decide) (by rfl) (pa_cons (pv 15) (pa_cons (pv 16) (pa_cons (pv 10) pa_nil))))))
            (pss_one (ps_ret pe_bl))
            pss_nil)))
        (pss_one (ps_if (PW.pt (pw_or (pt_not (pt_val (pe_cal c__law_cases_right hr (by decide) (by rfl) (pa_cons (pv 2) pa_nil)))) (pw_or (pt_not (pt_val (pe_cal c__law_right hr (by decide) (by rfl) (pa_cons (pe_ix (r := rIxL K) ix_list (pv 4) pe_int (fun _ _ => rfl)) (pa_cons pe_str (pa_cons pe_dnewK pa_nil)))))) (pw_or1 (pt_not (pt_val (pe_cal c__law_right hr (by decide) (by rfl) (pa_cons (pe_ix (r := rIxL K) ix_list (pv 4) pe_int (fun _ _ => rfl)) (pa_cons pe_str (pa_cons pe_dnewK pa_nil))))))))))
          (pss_one (ps_ret pe_bl))
          pss_nil))))))))))))
      (pss_one (ps_ret pe_bl))), ?_⟩
    refine ⟨_, rfl, 6, rfl, sa, _, rfl, hS, fun p0 hp0 => ?_⟩
    have mk : ∀ {C : Addr} {H1 : Hp} {x dx : Addr}, H1 x = none → H1 dx = none → Same H1 (upd (upd H1 dx (.own x)) x (.ins C dx [])) := fun hx hdx b o e => by
      rw [upd_ne (ne_of_none e hx), upd_ne (ne_of_none e hdx)]
      exact e
    have mk2 : ∀ {C : Addr} {H1 H2 : Hp} {x dx : Addr}, H1 x = none → H1 dx = none → (∀ b o, b ≠ x → (upd (upd H1 dx (.own x)) x (.ins C dx [])) b = some o → H2 b = some o) → Same H1 H2 := fun hx hdx k b o e => k b o (ne_of_none e hx) (by
      rw [upd_ne (ne_of_none e hx), upd_ne (ne_of_none e hdx)]
      exact e)
    obtain ⟨ms, em, hms⟩ := cutI sns none (some 6)
    rw [show cutV (sns.map V.int) none (some 6) = iV ms from em]
    refine ⟨by show 1 ≤ sizeLine; decide, fun q0 hq0 => ?_⟩
    refine ⟨p0, q0, iV ms, iV [0], rfl, rfl, (same_upd hq0) _ _ upd_same, upd_same, ?_, fun L hL => ⟨L, rfl, ⟨_, SqL.of upd_same⟩, ?_⟩⟩
    · rw [iV_len, iV_len]
      exact Nat.le_trans (show ms.length + 1 ≤ 100 by omega) (by decide)
    rw [← iV_append]
    generalize ms ++ [0] = cells
    have hL1 : (upd (upd (upd H p0 (.lst (iV ms))) q0 (.lst [.int 0])) L (.lst (iV cells))) L = some (.lst (iV cells)) := upd_same
    generalize upd (upd (upd H p0 (.lst (iV ms))) q0 (.lst [.int 0])) L (.lst (iV cells)) = HL at hL1 ⊢
    refine for_it (walk_list (K := K) (a := L) (xs := iV cells)) (fun i σ H' => ∃ y1 y2 y3 y4 y5 y6 y7 y8 y9 y10 y11 y12 y13 y14 y15 y16, σ = [some (.ref sa), y1, y2, y3, y4, y5, y6, y7, y8, y9, y10, y11, y12, y13, y14, y15, y16] ∧ Same HL H')
      ⟨_, _, _, _, _, _, _, _, _, _, _, _, _, _, _, _, rfl, Same.refl _⟩ (fun i σ H' _ h => ?_) ?_ ?_
    · obtain ⟨_, _, _, _, _, _, _, _, _, _, _, _, _, _, _, _, _, s⟩ := h
      exact SqL.of (s _ _ hL1)
    · rintro i x σ Hs0 Hs hi ⟨y1, y2, y3, y4, y5, y6, y7, y8, y9, y10, y11, y12, y13, y14, y15, y16, rfl, sL⟩ ⟨rfl, hx⟩
      obtain ⟨cell, _, rfl⟩ := iV_at hx
      refine ⟨_, rfl, cell, rfl, fun a H3 ha s3 w3 => ?_⟩
      refine ⟨_, rfl, a, 3, 0, rfl, w3, by decide, by decide, by decide, fun r H4 r0 r1 f4 => ?_⟩
      refine ⟨_, _, rfl, rfl, _, rfl, by omega, by omega, fun D hD => ?_⟩
      obtain ⟨R, rfl⟩ : ∃ R : Nat, r = (R : Int) := ⟨r.toNat, by omega⟩
      have hD3 := f4.free w3 hD
      refine lc_it walk_range (fun j H' => Fn (0 + 1 + j) a H3 H' ∧ ∃ ws : List Int, H' D = some (.lst (iV ws)) ∧ ws.length = j) ⟨f4.same (same_upd hD), [], upd_same, rfl⟩ (fun _ _ _ _ => trivial) ?_ ?_
      · rintro j x H5 H6 hj ⟨f5, ws, hDw, hwl⟩ ⟨rfl, rfl⟩
        refine ⟨rfl, _, rfl, a, 4, 0 + 1 + j, rfl, f5.w, (show 0 + 1 + j < 1000000000 by omega), by decide, by decide, fun v H7 v0 v1 f7 => ?_⟩
        have f57 := f5.trans f7
        refine ⟨_, f7.k D _ (w3.ne hD3) hDw, ?_, ?_⟩
        · rw [iV_len]
          exact Nat.lt_of_le_of_lt (show ws.length ≤ 1000 by omega) (by decide)
        · rw [← iV_snoc]
          exact ⟨f57.upd (w3.ne hD3) hD3, ws ++ [v], upd_same, by rw [List.length_append, hwl]; rfl⟩
      rintro H5 ⟨f5, ws, hDw, hwl⟩
      have hwl4 : ws.length ≤ 3 := by omega
      have f5' : Fn 4 a H3 H5 := f5.mono (by omega)
      -- the blanks
      intro b0 db0 hb0 hdb0 nb0'
      refine ⟨b0, db0, .str "z", .ref tE, [], rfl, upd_same, .non NC.et, List.nodup_nil, by decide, fun H6 g0 k6 hg0 hB0 hG0 => ⟨rfl, ?_⟩⟩
      have s6 : Same H5 H6 := mk2 hb0 hdb0 k6
      intro b1 db1 hb1 hdb1 nb1'
      refine ⟨b1, db1, .str "y", .ref tE, [], rfl, upd_same, .non NC.et, List.nodup_nil, by decide, fun H7 g1 k7 hg1 hB1 hG1 => ⟨rfl, ?_⟩⟩
      have s7 : Same H6 H7 := mk2 hb1 hdb1 k7
      refine ⟨by show 2 ≤ sizeLine; decide, fun B hB => ⟨Nat.zero_le _, fun NL hNL => ⟨Nat.zero_le _, fun DL hDL => ⟨Nat.zero_le _, fun SL hSL => ?_⟩⟩⟩⟩
      have sB := same_upd (o := .lst [.ref b0, .ref b1]) hB
      have hBB : (upd H7 B (.lst [.ref b0, .ref b1])) B = some (.lst [.ref b0, .ref b1]) := upd_same
      generalize upd H7 B (.lst [.ref b0, .ref b1]) = H8 at sB hBB hNL hDL hSL ⊢
      have sN := same_upd (o := .lst []) hNL
      have hNN : (upd H8 NL (.lst [])) NL = some (.lst []) := upd_same
      generalize upd H8 NL (.lst []) = H9 at sN hNN hDL hSL ⊢
      have sD := same_upd (o := .lst []) hDL
      have hDD : (upd H9 DL (.lst [])) DL = some (.lst []) := upd_same
      generalize upd H9 DL (.lst []) = H10 at sD hDD hSL ⊢
      have sS := same_upd (o := .lst []) hSL
      have hSS : (upd H10 SL (.lst [])) SL = some (.lst []) := upd_same
      generalize upd H10 SL (.lst []) = H11 at sS hSS ⊢
      have s57 := s6.trans s7
      have s58 := s57.trans sB
      have s59 := s58.trans sN
      have s510 := s59.trans sD
      have s511 := s510.trans sS
      have bk : ∀ {x}, H5 x = none → Hs x = none := fun h => s3.free (f5'.free w3 h)
      have w5 := f5'.w
      have hg06 : H5 g0 = none := (mk hb0 hdb0).free hg0
      have hg16 : H6 g1 = none := (mk hb1 hdb1).free hg1
      have ng : g0 ≠ g1 := fun w => by rw [← w, hG0] at hg16; cases hg16
      have S0 : St CN CC Hs H11 a B NL DL SL b0 b1 g0 g1 4 5 [] [] [] [] := by
        refine ⟨fun x o e => s511 x o (f5'.k x o (ne_of_none e ha) (s3 x o e)), w5.same s511, ha, (sN.trans (sD.trans sS)) _ _ hBB, (sD.trans sS) _ _ hNN, sS _ _ hDD, hSS, ⟨bk (s57.free hB), bk (s58.free hNL), bk (s59.free hDL), bk (s510.free hSL)⟩, ⟨w5.ne (s57.free hB), w5.ne (s58.free hNL), w5.ne (s59.free hDL), w5.ne (s510.free hSL), ?_, ?_, ?_, ?_, ?_, ?_⟩, (fun e he => by cases he), ⟨_, (s7.trans (sB.trans (sN.trans (sD.trans sS)))) _ _ hB0⟩, ⟨_, (sB.trans (sN.trans (sD.trans sS))) _ _ hB1⟩, (s7.trans (sB.trans (sN.trans (sD.trans sS)))) _ _ hG0, (sB.trans (sN.trans (sD.trans sS))) _ _ hG1, ?_, (fun x hx => by cases hx)⟩
        · exact fun w => by rw [w, hBB] at hNL; cases hNL
        · exact fun w => by rw [w, sN _ _ hBB] at hDL; cases hDL
        · exact fun w => by rw [w, (sN.trans sD) _ _ hBB] at hSL; cases hSL
        · exact fun w => by rw [← w, hNN] at hDL; cases hDL
        · exact fun w => by rw [← w, sD _ _ hNN] at hSL; cases hSL
        · exact fun w => by rw [← w, hDD] at hSL; cases hSL
        · show [g0, g1].Nodup
          simp [ng]
      have hD11 := s511 _ _ hDw
      have nDa : D ≠ a := w3.ne hD3
      have nDs : D ≠ NL ∧ D ≠ DL ∧ D ≠ SL := ⟨ne_of_none (s58 _ _ hDw) hNL, ne_of_none (s59 _ _ hDw) hDL, ne_of_none (s510 _ _ hDw) hSL⟩
      refine ⟨_, rfl, D, rfl, ⟨_, SqL.of hD11⟩, ?_⟩
      refine for_it (walk_list (K := K) (a := D) (xs := iV ws)) (fun i σ H' => ∃ y8 y9 y10 y11 y12 y13 y14 y15 y16, σ = [some (.ref sa), some (.int cell), some (.ref a), some (.ref D), some (.ref B), some (.ref NL), some (.ref DL), some (.ref SL), y8, y9, y10, y11, y12, y13, y14, y15, y16] ∧
          H' D = some (.lst (iV ws)) ∧ ∃ es : List Ent, es.length = i ∧ St CN CC Hs H' a B NL DL SL b0 b1 g0 g1 (10 + 200 * i) 5 (es.map fun e => V.ref e.n) (es.map fun e => V.ref e.d) (es.map fun e => V.str e.z) es)
        ⟨_, _, _, _, _, _, _, _, _, rfl, hD11, [], rfl, S0.mono (by omega) (Nat.le_refl _)⟩ (fun i σ H' _ h => ?_) ?_ ?_
      · obtain ⟨_, _, _, _, _, _, _, _, _, _, h, _⟩ := h
        exact SqL.of h
      · rintro k x σ H12 H13 hk ⟨y8, y9, y10, y11, y12, y13, y14, y15, y16, rfl, hD12, es, hes, S⟩ ⟨rfl, hx⟩
        obtain ⟨way, _, rfl⟩ := iV_at hx
        have hk3 : k < 3 := by rw [iV_len] at hk; omega
        refine ⟨_, rfl, a, 6, 10 + 200 * k, rfl, S.wl, (show 10 + 200 * k < 1000000000 by omega), by decide, by decide, fun r2 H14 r20 r21 f14 => ?_⟩
        obtain ⟨R2, rfl⟩ : ∃ R2 : Nat, r2 = (R2 : Int) := ⟨r2.toNat, by omega⟩
        have S14 := S.fn f14
        refine ⟨R2, rfl, by omega, by omega, fun ND hND => ?_⟩
        have hND13 := f14.free S.wl hND
        have nNDa : ND ≠ a := S.wl.ne hND13
        refine lc_it walk_range (fun j H' => Fn (10 + 200 * k + 1 + 3 * j) a H14 H' ∧ ∃ zs : List Str, H' ND = some (.lst (zs.map V.str)) ∧ zs.length = j ∧ ∀ z ∈ zs, Asc 2 z) ⟨(Fn.refl S14.wl).same (same_upd hND), [], upd_same, rfl, fun _ h => by cases h⟩ (fun _ _ _ _ => trivial) ?_ ?_
        · rintro j x H15 H16 hj ⟨f15, zs, hzs, hzl, hzA⟩ ⟨rfl, rfl⟩
          have hj5 : j < 5 := by omega
          refine ⟨rfl, _, rfl, a, 1, 2, 10 + 200 * k + 1 + 3 * j, rfl, f15.w, (show 10 + 200 * k + 1 + 3 * j + 2000 < 1000000000 by omega), by decide, by decide, fun H17 z f17 hz => ?_⟩
          have f157 := f15.trans f17
          refine ⟨_, f17.k ND _ nNDa hzs, ?_, ?_⟩
          · rw [List.length_map]
            exact Nat.lt_of_le_of_lt (show zs.length ≤ 1000 by omega) (by decide)
          · refine ⟨(f157.upd nNDa hND).mono (by omega), zs ++ [z], by rw [upd_same, List.map_append]; rfl, by rw [List.length_append, hzl]; rfl, fun y hy => ?_⟩
            rcases List.mem_append.mp hy with h | h
            · exact hzA y h
            · have e : y = z := by simpa using h
              rw [e]
              exact hz
        rintro H15 ⟨f15, zs, hzs, hzl, hzA⟩
        have hzl5 : zs.length ≤ 5 := by omega
        have f15' : Fn (10 + 200 * k + 20) a H14 H15 := f15.mono (by omega)
        have S15 := S14.fn f15'
        have hD15 := (f14.trans f15').k D _ nDa hD12
        refine ⟨_, rfl, ND, rfl, ⟨_, SqL.of hzs⟩, fun PD hPD => ?_⟩
        have nPDa : PD ≠ a := S15.wl.ne hPD
        refine lc_it (walk_list (K := K) (a := ND) (xs := zs.map V.str)) (fun j H' => Fn (10 + 200 * k + 20 + 20 * j) a H15 H' ∧ ∃ (ps : List Addr) (kv0 : KVs), H' PD = some (.lst (ps.map V.ref)) ∧ Paired (fun p kv => H' p = some (.tup [kV kv.1, kv.2])) ps kv0 ∧ kv0.length = j ∧ ∀ kv ∈ kv0, Th CN CC H' kv.2 ∧ ∃ y, kv.1 = .inr y ∧ Asc 1000 y) ⟨(Fn.refl S15.wl).same (same_upd hPD), [], [], upd_same, .nil, rfl, fun _ h => by cases h⟩ (fun j H' _ h => ?_) ?_ ?_
        · obtain ⟨h, _⟩ := h
          exact SqL.of (h.k ND _ nNDa hzs)
        · rintro j x H16 H17 hj ⟨f16, ps, kv0, hP, hps, hkl, hkv⟩ ⟨rfl, hx⟩
          obtain ⟨z, hz, rfl⟩ : ∃ z, zs[j]? = some z ∧ x = V.str z := by
            rw [List.getElem?_map] at hx
            cases e : zs[j]? with
            | none => rw [e] at hx; cases hx
            | some z => rw [e] at hx; cases hx; exact ⟨z, rfl, rfl⟩
          have hzz := hzA z (List.mem_of_getElem? hz)
          have hj5 : j < 5 := by rw [List.length_map] at hj; omega
          have S17 := S15.fn f16
          have lns : (es.map fun e => V.ref e.n).length ≤ 3 := by rw [List.length_map]; omega
          refine ⟨rfl, _, rfl, _, rfl, _, rfl, _, rfl, B, NL, _, _, rfl, rfl, S17.hB, S17.hN, Nat.le_trans (show 2 + (es.map fun e => V.ref e.n).length ≤ 5 by omega) (by decide), fun CL hCL => ?_⟩
          have sC := same_upd (o := .lst ([.ref b0, .ref b1] ++ es.map fun e => V.ref e.n)) hCL
          have SC := S17.sm sC
          refine ⟨a, CL, _, 10 + 200 * k + 20 + 20 * j, rfl, SC.wl, (show 10 + 200 * k + 20 + 20 * j + 10000 < 1000000000 by omega), upd_same, S17.wl.ne hCL, ?_, ?_, fun y hy => ?_, fun H18 v f18 hv => ⟨by show 2 ≤ sizeLine; decide, fun t ht => ?_⟩⟩
          · rw [List.length_append]
            show 0 < 2 + _
            omega
          · rw [List.length_append]
            show 2 + _ < 1000
            omega
          · rcases List.mem_append.mp hy with h | h
            · simp only [List.mem_cons, List.not_mem_nil, or_false] at h
              rcases h with rfl | rfl
              · obtain ⟨_, h⟩ := SC.bl0
                exact .node h
              · obtain ⟨_, h⟩ := SC.bl1
                exact .node h
            · obtain ⟨e, he, rfl⟩ := List.mem_map.mp h
              obtain ⟨_, h⟩ := (SC.ents e he).n
              exact .node h
          · have s9 := same_upd (o := .tup [.str z, v]) ht
            have f1718 : Fn (10 + 200 * k + 20 + 20 * j + 20) a H17 H18 := ⟨fun b o n e => f18.k b o n (sC b o e), f18.w⟩
            have ff := f16.trans f1718
            have ti : TI H17 (upd H18 t (.tup [.str z, v])) := (Same.ti sC).trans ((f18.ti SC.wl).trans (Same.ti s9))
            have hP18 := s9 _ _ (f1718.k PD _ nPDa hP)
            have htt : (upd H18 t (.tup [.str z, v])) t = some (.tup [.str z, v]) := upd_same
            have ff9 := ff.same s9
            have hv9 := hv.ti (Same.ti s9)
            generalize upd H18 t (.tup [.str z, v]) = H19 at s9 ti hP18 htt ff9 hv9 ⊢
            have pdl := pd_len hps
            refine ⟨_, hP18, ?_, ff9.upd nPDa hPD, ps ++ [t], kv0 ++ [(.inr z, v)], by rw [upd_same, List.map_append]; rfl, ?_, by rw [List.length_append, hkl]; rfl, fun kv hk9 => ?_⟩
            · rw [List.length_map]
              exact Nat.lt_of_le_of_lt (show ps.length ≤ 1000 by omega) (by decide)
            · have tk : ∀ {p : Addr} {xs : List V}, H19 p = some (.tup xs) → (upd H19 PD (.lst (ps.map V.ref ++ [.ref t]))) p = some (.tup xs) := fun h => by
                rw [upd_ne (ne_of h hP18 (by intro z; cases z))]
                exact h
              exact pd_append (pd_mono (fun _ _ h => tk (ti.1 _ _ h)) hps) (.cons (tk htt) .nil)
            · have tl : TI H19 (upd H19 PD (.lst (ps.map V.ref ++ [.ref t]))) := ⟨fun b xs h => by rw [upd_ne (ne_of h hP18 (by intro z; cases z))]; exact h, fun b C dx fs h => by rw [upd_ne (ne_of h hP18 (by intro z; cases z))]; exact h⟩
              rcases List.mem_append.mp hk9 with h | h
              · exact ⟨((hkv kv h).1.ti ti).ti tl, (hkv kv h).2⟩
              · have e : kv = (.inr z, v) := by simpa using h
                rw [e]
                exact ⟨hv9.ti tl, z, rfl, hzz.mono (by decide)⟩
        rintro H16 ⟨f16, ps, kv0, hP, hps, hkl, hkv⟩
        rw [List.length_map] at hkl f16
        have f16' : Fn (10 + 200 * k + 120) a H15 H16 := f16.mono (by omega)
        have S16 := S15.fn f16'
        have hD16 := f16'.k D _ nDa hD15
        obtain ⟨mg1, mg2, mg3⟩ := merge_ok kv0 [] List.nodup_nil
        simp only [List.length_nil, Nat.zero_add] at mg2
        refine ⟨PD, ps, kv0, rfl, SqL.of hP, pd_mono (fun _ _ h => SqT.of h) hps, fun d hd => ?_⟩
        have gd : Gd CN CC H16 (mergeK [] kv0) := ⟨mg1, fun kv hk9 => by
          rcases mg3 kv hk9 with h | h
          · cases h
          · exact hkv kv h⟩
        generalize mergeK [] kv0 = kvs at mg1 mg2 gd ⊢
        have hkvs5 : kvs.length ≤ 5 := by omega
        have fd := S16.free hd
        have sd := same_upd (o := .dK kvs) hd
        have hdd : (upd H16 d (.dK kvs)) d = some (.dK kvs) := upd_same
        have S17 := S16.sm sd
        have hD17 := sd _ _ hD16
        have gd17 := gd.ti (Same.ti sd)
        generalize upd H16 d (.dK kvs) = H17 at sd hdd S17 hD17 gd17 ⊢
        have les : es.length ≤ 3 := by omega
        refine ⟨_, rfl, .inl ⟨rfl, _, SqL.of S17.hS⟩, _, rfl, a, 1, 8, 10 + 200 * k + 120, rfl, S17.wl, (show 10 + 200 * k + 120 + 2000 < 1000000000 by omega), by decide, by decide, fun H18 z f18 hz => ?_⟩
        have S18 := S17.fn f18
        have hdd18 := f18.k d _ (S17.ne1 hdd (fun ys z => by cases z)) hdd
        have hD18 := f18.k D _ nDa hD17
        have gd18 := gd17.ti (f18.ti S17.wl)
        refine ⟨SL, _, _, rfl, rfl, S18.hS, ?_, ?_⟩
        · rw [List.length_map]
          exact Nat.lt_of_le_of_lt (show es.length ≤ 1000 by omega) (by decide)
        have S19 := S18.setS (xs := (es.map fun e => V.str e.z) ++ [.str z])
        have tS : TI H18 (upd H18 SL (.lst ((es.map fun e => V.str e.z) ++ [.str z]))) := ⟨fun b xs h => by rw [upd_ne (ne_of h S18.hS (by intro z; cases z))]; exact h, fun b C dx fs h => by rw [upd_ne (ne_of h S18.hS (by intro z; cases z))]; exact h⟩
        have hdd19 : (upd H18 SL (.lst ((es.map fun e => V.str e.z) ++ [.str z]))) d = some (.dK kvs) := by rw [upd_ne (ne_of hdd18 S18.hS (by intro z; cases z))]; exact hdd18
        have hD19 : (upd H18 SL (.lst ((es.map fun e => V.str e.z) ++ [.str z]))) D = some (.lst (iV ws)) := by rw [upd_ne nDs.2.2]; exact hD18
        have gd19 := gd18.ti tS
        generalize upd H18 SL (.lst ((es.map fun e => V.str e.z) ++ [.str z])) = H19 at S19 hdd19 hD19 gd19 ⊢
        refine ⟨_, rfl, .inl ⟨rfl, _, SqL.of S19.hN⟩, _, rfl, _, rfl, 1, rfl, SL, _, _, _, rfl, rfl, SqL.of S19.hS, atI_last _ _, _, rfl, way, z, d, kvs, rfl, hdd19, gd19.1, (by omega), (fun kv hk9 => by
          obtain ⟨_, y, h, _⟩ := gd19.2 kv hk9
          exact ⟨y, h⟩), fun H20 p dx f s20 hp hf nfp hpp hff => ?_⟩
        have S20 := S19.sm s20
        have hdd20 := s20 _ _ hdd19
        have hD20 := s20 _ _ hD19
        have gd20 := gd19.ti (Same.ti s20)
        refine ⟨NL, _, _, rfl, rfl, S20.hN, ?_, ?_⟩
        · rw [List.length_map]
          exact Nat.lt_of_le_of_lt (show es.length ≤ 1000 by omega) (by decide)
        have S21 := S20.setN (xs := (es.map fun e => V.ref e.n) ++ [.ref p])
        have tN : TI H20 (upd H20 NL (.lst ((es.map fun e => V.ref e.n) ++ [.ref p]))) := ⟨fun b xs h => by rw [upd_ne (ne_of h S20.hN (by intro z; cases z))]; exact h, fun b C dx fs h => by rw [upd_ne (ne_of h S20.hN (by intro z; cases z))]; exact h⟩
        have kN : ∀ {x : Addr} {kk : KVs}, H20 x = some (.dK kk) → (upd H20 NL (.lst ((es.map fun e => V.ref e.n) ++ [.ref p]))) x = some (.dK kk) := fun h => by rw [upd_ne (ne_of h S20.hN (by intro z; cases z))]; exact h
        have hdd21 := kN hdd20
        have hff21 := kN hff
        have hpp21 := tN.2 _ _ _ _ hpp
        have hD21 : (upd H20 NL (.lst ((es.map fun e => V.ref e.n) ++ [.ref p]))) D = some (.lst (iV ws)) := by rw [upd_ne nDs.1]; exact hD20
        have gd21 := gd20.ti tN
        generalize upd H20 NL (.lst ((es.map fun e => V.ref e.n) ++ [.ref p])) = H21 at S21 hdd21 hff21 hpp21 hD21 gd21 ⊢
        refine ⟨_, rfl, .inl ⟨rfl, _, SqL.of S21.hD⟩, _, rfl, DL, _, _, rfl, rfl, S21.hD, ?_, ?_⟩
        · rw [List.length_map]
          exact Nat.lt_of_le_of_lt (show es.length ≤ 1000 by omega) (by decide)
        have ndf : d ≠ f := fun w => by rw [← w, hdd19] at hf; cases hf
        have S22 := (S21.addE (e := ⟨p, d, f, z, kvs⟩) ⟨⟨dx, hpp21⟩, hdd21, hff21, gd21, hkvs5⟩ ndf fd (S19.free hf)).setD (xs := (es.map fun e => V.ref e.d) ++ [.ref d])
        refine ⟨_, _, _, _, _, _, _, _, _, rfl, by rw [upd_ne nDs.2.1]; exact hD21, es ++ [⟨p, d, f, z, kvs⟩], by rw [List.length_append, hes]; rfl, ?_⟩
        rw [List.map_append, List.map_append, List.map_append]
        exact S22.mono (by omega) (Nat.le_refl _)
      · rintro σ H12 ⟨y8, y9, y10, y11, y12, y13, y14, y15, y16, rfl, hD12, es, hes, S⟩
        rw [iV_len] at hes
        have les1 : 1 ≤ es.length := by omega
        have les3 : es.length ≤ 3 := by omega
        have SA := S.mono (m := 1000) (by rw [iV_len]; omega) (Nat.le_refl 5)
        clear S
        refine ⟨_, rfl, a, 5, 1000, rfl, SA.wl, by decide, by decide, by decide, fun r3 H13 r30 r31 f13 => ⟨r3, rfl, by omega, by omega, ?_⟩⟩
        refine for_it (walk_range (lo := 0) (n := r3.toNat)) (fun i σ H' => ∃ y8 y9 y10 y11 y12 y13 y14 y15 y16, σ = [some (.ref sa), some (.int cell), some (.ref a), some (.ref D), some (.ref B), some (.ref NL), some (.ref DL), some (.ref SL), y8, y9, y10, y11, y12, y13, y14, y15, y16] ∧
          ∃ es : List Ent, 1 ≤ es.length ∧ es.length ≤ 3 ∧ St CN CC Hs H' a B NL DL SL b0 b1 g0 g1 (1001 + 100 * i) (5 + i) (es.map fun e => V.ref e.n) (es.map fun e => V.ref e.d) (es.map fun e => V.str e.z) es)
          ⟨_, _, _, _, _, _, _, _, _, rfl, es, les1, les3, SA.fn f13⟩ (fun _ _ _ _ _ => trivial) ?_ ?_
        · rintro i x σ H14 H15 hi ⟨y8, y9, y10, y11, y12, y13, y14, y15, y16, rfl, es, les1, les3, S⟩ ⟨rfl, rfl⟩
          have hi4 : i < 5 := by omega
          have nm : ∀ m, m < 5000 → m < many := fun m h => (show m < 1000000000 by omega)
          have lm : ∀ {α : Type} (g : Ent → α), (es.map g).length = es.length := fun g => List.length_map ..
          refine ⟨_, rfl, _, rfl, NL, _, rfl, .inl (SqL.of S.hN), a, _, 1001 + 100 * i, rfl, S.wl, nm _ (by omega), (by rw [lm]; omega), (by rw [lm]; omega), fun r4 H16 r40 r41 f16 => ?_⟩
          rw [lm] at r41
          obtain ⟨R4, rfl⟩ : ∃ R4 : Nat, r4 = (R4 : Int) := ⟨r4.toNat, by omega⟩
          have hR4 : R4 < es.length := by omega
          obtain ⟨e, he⟩ : ∃ e, es[R4]? = some e := ⟨_, List.getElem?_eq_getElem hR4⟩
          have hem := List.mem_of_getElem? he
          have S16 := S.fn f16
          have E16 := S16.ents e hem
          have atm : ∀ (g : Ent → V), atI (es.map g) (R4 : Int) = some (g e) := fun g => atI_nat (by rw [List.getElem?_map, he]; rfl)
          refine ⟨_, rfl, _, rfl, _, rfl, DL, _, _, .ref e.d, rfl, rfl, SqL.of S16.hD, atm _, e.d, e.kvs, rfl, .inl E16.d, fun q1 hq1 => ?_⟩
          have s1 := same_upd (o := .lst (e.kvs.map fun kv => kV kv.1)) hq1
          have hq11 : (upd H16 q1 (.lst (e.kvs.map fun kv => kV kv.1))) q1 = some (.lst (e.kvs.map fun kv => kV kv.1)) := upd_same
          have S17 := S16.sm s1
          have nq1 := S16.wl.ne hq1
          generalize upd H16 q1 (.lst (e.kvs.map fun kv => kV kv.1)) = H17 at s1 hq11 S17 ⊢
          refine ⟨_, rfl, a, 1, 2, 1001 + 100 * i + 1, rfl, S17.wl, (show 1001 + 100 * i + 1 + 2000 < 1000000000 by omega), by decide, by decide, fun H18 z f18 hz => ⟨by show 1 ≤ sizeLine; decide, fun q2 hq2 => ?_⟩⟩
          have S18 := S17.fn f18
          have s2 := same_upd (o := .lst [.str z]) hq2
          have hq18 := f18.k q1 _ nq1 hq11
          have S19 := S18.sm s2
          have E19 := S19.ents e hem
          refine ⟨q1, q2, _, _, rfl, rfl, s2 _ _ hq18, upd_same, Nat.le_trans (show (e.kvs.map fun kv => kV kv.1).length + 1 ≤ 100 by rw [List.length_map]; have := E19.l; omega) (by decide), fun q3 hq3 => ?_⟩
          have s3' := same_upd (o := .lst ((e.kvs.map fun kv => kV kv.1) ++ [.str z])) hq3
          have S20 := S19.sm s3'
          refine ⟨a, 1001 + 100 * i + 1 + 1 + 2, _, rfl, S20.wl, nm _ (by omega), .inl ⟨q3, _, rfl, upd_same, S19.wl.ne hq3, (by rw [List.length_append]; show 0 < _ + 1; omega), (by rw [List.length_append, List.length_map]; have := E19.l; show _ + 1 < 1000000; omega), fun H21 y f21 hy => ?_⟩⟩
          obtain ⟨y0, rfl, hy0⟩ : ∃ y0, y = V.str y0 ∧ Asc 1000 y0 := by
            rcases List.mem_append.mp hy with h | h
            · obtain ⟨kv, hk9, rfl⟩ := List.mem_map.mp h
              obtain ⟨_, y0, e1, e2⟩ := E19.g.2 kv hk9
              exact ⟨y0, by rw [e1]; rfl, e2⟩
            · have w : y = .str z := by simpa using h
              exact ⟨z, w, hz.mono (by decide)⟩
          have S21 := S20.fn f21
          refine ⟨_, rfl, _, rfl, a, NL, _, 1001 + 100 * i + 1 + 1 + 2 + 1, rfl, S21.wl, (show 1001 + 100 * i + 1 + 1 + 2 + 1 + 10000 < 1000000000 by omega), S21.hN, S21.ne.2.1, (by rw [lm]; omega), (by rw [lm]; omega), (fun y hy => by
            obtain ⟨x, hx, rfl⟩ := List.mem_map.mp hy
            obtain ⟨_, h⟩ := (S21.ents x hx).n
            exact .node h), fun H22 v f22 hv => ?_⟩
          have S22 := S21.fn f22
          have E22 := S22.ents e hem
          obtain ⟨dx, hn22⟩ := E22.n
          have hl22 := E22.l
          refine ⟨_, rfl, _, rfl, NL, _, _, .ref e.n, rfl, rfl, SqL.of S22.hN, atm _, e.n, dx, _, rfl, hn22, lk_put _ _, _, rfl, _, rfl, e.n, dx, e.f, _, v, y0, e.kvs, rfl, hn22, E22.f, (by omega), ?_⟩
          obtain ⟨l1, l2, hes⟩ := split_at he
          have ndf : e.d ≠ e.f := by
            have nd := S22.nd
            rw [hes, plc_mid] at nd
            have n2 := (List.nodup_append.mp (List.nodup_cons.mp (List.nodup_cons.mp nd).2).2).2.1
            exact fun w => (List.nodup_cons.mp n2).1 (by simp [w])
          have hDL : (upd H22 e.f (.dK (putK e.kvs (.inr y0) v))) DL = some (.lst (es.map fun e => V.ref e.d)) := by rw [upd_ne (ne_of S22.hD E22.f (by intro z; cases z))]; exact S22.hD
          have hed : (upd H22 e.f (.dK (putK e.kvs (.inr y0) v))) e.d = some (.dK e.kvs) := by rw [upd_ne ndf]; exact E22.d
          refine ⟨_, rfl, _, rfl, _, rfl, DL, _, _, .ref e.d, rfl, rfl, SqL.of hDL, atm _, _, rfl, e.d, _, rfl, .inl ⟨e.kvs, .inr y0, hed, rfl, Nat.lt_of_le_of_lt (show e.kvs.length ≤ 100 by omega) (by decide), rfl⟩, ?_⟩
          have hg : Gd CN CC H22 (putK e.kvs (.inr y0) v) := ⟨nd_put E22.g.1 _ _, fun kv hk9 => by
            rcases mem_put hk9 with h | h
            · exact E22.g.2 kv h
            · rw [h]
              exact ⟨hv, y0, rfl, hy0⟩⟩
          have hlp := len_put e.kvs (.inr y0) v
          rw [hes] at S22
          have SE := S22.setE hg (by omega)
          refine ⟨_, _, _, _, _, _, _, _, _, rfl, l1 ++ { e with kvs := putK e.kvs (.inr y0) v } :: l2, ?_, ?_, ?_⟩
          · rw [List.length_append, List.length_cons]
            omega
          · have h := congrArg List.length hes
            rw [List.length_append, List.length_cons] at h ⊢
            omega
          · have em : ∀ (g : Ent → V), g { e with kvs := putK e.kvs (.inr y0) v } = g e → (l1 ++ e :: l2).map g = (l1 ++ { e with kvs := putK e.kvs (.inr y0) v } :: l2).map g := fun g hg => by
              rw [List.map_append, List.map_append, List.map_cons, List.map_cons, hg]
            rw [em (fun e => V.ref e.n) rfl, em (fun e => V.ref e.d) rfl, em (fun e => V.str e.z) rfl] at SE
            exact SE.mono (by omega) (by omega)
        · rintro σ H14 ⟨y8, y9, y10, y11, y12, y13, y14, y15, y16, rfl, es, les1, les3, S⟩
          have SA := S.mono (m := 2000) (by omega) (Nat.le_refl _)
          clear S
          have lm : ∀ {α : Type} (g : Ent → α), (es.map g).length = es.length := fun g => List.length_map ..
          refine ⟨_, rfl, _, rfl, _, rfl, NL, SL, DL, _, _, _, rfl, SqL.of SA.hN, SqL.of SA.hS, SqL.of SA.hD, ?_⟩
          refine for_it (walk_zip3 (K := K) (a := NL) (b := SL) (c := DL) (xs := es.map fun e => V.ref e.n) (ys := es.map fun e => V.str e.z) (zs := es.map fun e => V.ref e.d) (n := es.length) (lm _) (lm _) (lm _)) (fun i σ H' => ∃ y8 y9 y10 y11 y12 y13 y14 y15 y16, σ = [some (.ref sa), some (.int cell), some (.ref a), some (.ref D), some (.ref B), some (.ref NL), some (.ref DL), some (.ref SL), y8, y9, y10, y11, y12, y13, y14, y15, y16] ∧
            St CN CC Hs H' a B NL DL SL b0 b1 g0 g1 2000 (5 + r3.toNat) (es.map fun e => V.ref e.n) (es.map fun e => V.ref e.d) (es.map fun e => V.str e.z) es)
            ⟨_, _, _, _, _, _, _, _, _, rfl, SA⟩ (fun i σ H' _ h => ?_) ?_ ?_
          · obtain ⟨_, _, _, _, _, _, _, _, _, _, S⟩ := h
            exact ⟨SqL.of S.hN, SqL.of S.hS, SqL.of S.hD⟩
          · rintro i x σ H15 H16 hi ⟨y8, y9, y10, y11, y12, y13, y14, y15, y16, rfl, S⟩ ⟨TT, x1, x2, x3, rfl, hTT, rfl, e1, e2, e3⟩
            obtain ⟨e, he⟩ : ∃ e, es[i]? = some e := ⟨_, List.getElem?_eq_getElem hi⟩
            rw [List.getElem?_map, he] at e1 e2 e3
            cases e1
            cases e2
            cases e3
            have S2 := S.sm (same_upd (o := .tup [.ref e.n, .str e.z, .ref e.d]) hTT)
            have Ee := S2.ents e (List.mem_of_getElem? he)
            obtain ⟨dx, hn2⟩ := Ee.n
            have ndf : e.f ≠ e.d := by
              obtain ⟨l1, l2, hes⟩ := split_at he
              have nd := S2.nd
              rw [hes, plc_mid] at nd
              have n2 := (List.nodup_append.mp (List.nodup_cons.mp (List.nodup_cons.mp nd).2).2).2.1
              exact fun w => (List.nodup_cons.mp n2).1 (by simp [w])
            refine ⟨TT, _, rfl, SqT.of upd_same, rfl, _, _, rfl, _, _, rfl, _, _, rfl, rfl, _, rfl, _, rfl, _, rfl, e.n, dx, e.f, e.d, e.z, e.kvs, rfl, hn2, Ee.f, Ee.d, ndf, Ee.g.1, (fun kv hk9 => ⟨(Ee.g.2 kv hk9).1, by
              obtain ⟨_, y, h, _⟩ := Ee.g.2 kv hk9
              exact ⟨y, h⟩⟩), fun H17 s17 => ⟨true, rfl, ?_⟩⟩
            exact iteF ⟨_, _, _, _, _, _, _, _, _, rfl, S2.sm s17⟩
          · rintro σ H15 ⟨y8, y9, y10, y11, y12, y13, y14, y15, y16, rfl, S⟩
            refine ⟨_, rfl, a, 2000, rfl, S.wl, (show 2000 + 10000 < 1000000000 by omega), fun H16 f16 => ⟨true, rfl, ?_⟩⟩
            have S16 := S.fn f16
            obtain ⟨dx0, hb0'⟩ := S16.bl0
            refine iteF ⟨_, rfl, B, _, 0, .ref b0, rfl, rfl, SqL.of S16.hB, rfl, fun d0 hd0 => ?_⟩
            have sE := same_upd (o := .dK []) hd0
            have nE : g0 ≠ d0 := (S16.free hd0).1.symm
            refine ⟨b0, dx0, g0, d0, "z", [], rfl, sE _ _ hb0', sE _ _ S16.hg0, upd_same, nE, List.nodup_nil, (fun _ h => by cases h), fun H17 s17 => ⟨true, rfl, ?_⟩⟩
            have S17 := (S16.sm sE).sm s17
            obtain ⟨dx1, hb1'⟩ := S17.bl1
            refine iteF ⟨_, rfl, B, _, 1, .ref b1, rfl, rfl, SqL.of S17.hB, rfl, fun d1 hd1 => ?_⟩
            have sF := same_upd (o := .dK []) hd1
            have nF' : g1 ≠ d1 := (S17.free hd1).2.1.symm
            refine ⟨b1, dx1, g1, d1, "y", [], rfl, sF _ _ hb1', sF _ _ S17.hg1, upd_same, nF', List.nodup_nil, (fun _ h => by cases h), fun H18 s18 => ⟨true, rfl, ?_⟩⟩
            exact iteF ⟨_, _, _, _, _, _, _, _, _, _, _, _, _, _, _, _, rfl, sL.trans ((S17.sm sF).sm s18).same⟩
    · rintro σ H1 ⟨y1, y2, y3, y4, y5, y6, y7, y8, y9, y10, y11, y12, y13, y14, y15, y16, rfl, sL⟩
      exact q _
end
end K11
namespace K11
open PySem PySem.Spec PyProof.Rows L2 Tw Sb
/-- a method with one default, as the top left it -/
def MethD (K : PySem.W.Frag) (C : Addr) (m q : Str) (st : Stmt) (T : Addr) (dv : Value) : Prop := ∃ (f : Addr) (oc : Value) (od an : Option Addr) (osl : Array (Option Value)) (kV dc pm cd ct : Value) (cT : Value) (dT : Option Addr) (n : Nat) (sT : Array (Option Value)),
  PySem.W.findIn K (.ref C) m = some (some (.ref f)) ∧ PySem.W.isFn K (.ref f) = true ∧ K.lookup f = some ⟨oc, od, .func (PySem.W.fnOf m q (defArgs st) (defBody st) (defScope st) (.ref T) kV dc pm an cd ct), osl⟩ ∧ PySem.W.codeIn K cd q = true ∧ PySem.W.keepIn K (.ref f) = true ∧ K.lookup T = some ⟨cT, dT, .seq #[dv] n, sT⟩
theorem methD_mk {K : PySem.W.Frag} {C : Addr} {m q : Str} {st : Stmt} {T : Addr} {dv : Value} {f : Addr} {oc : Value} {od an : Option Addr} {osl : Array (Option Value)} {kV dc pm cd ct : Value} {cT : Value} {dT : Option Addr} {n : Nat} {sT : Array (Option Value)} (a : PySem.W.findIn K (.ref C) m = some (some (.ref f))) (i : PySem.W.isFn K (.ref f) = true)
    (l : K.lookup f = some ⟨oc, od, .func (PySem.W.fnOf m q (defArgs st) (defBody st) (defScope st) (.ref T) kV dc pm an cd ct), osl⟩) (c : PySem.W.codeIn K cd q = true) (kp : PySem.W.keepIn K (.ref f) = true) (lT : K.lookup T = some ⟨cT, dT, .seq #[dv] n, sT⟩) : MethD K C m q st T dv := ⟨f, oc, od, an, osl, kV, dc, pm, cd, ct, cT, dT, n, sT, a, i, l, c, kp, lT⟩
theorem eTup_mk {K : PySem.W.Frag} {a : Addr} {n : Nat} {sl : Array (Option Value)} (l : K.lookup a = some ⟨.type "tuple", none, .seq #[] n, sl⟩) : ETup K a := ⟨_, n, l, rfl, rfl, rfl⟩
theorem plainEq_mk {K : PySem.W.Frag} {C : Addr} {nm q : Str} {N : Addr} {bs : List Value} {hdct : Bool} {sn : List Str} {sub : List Value} {ab : Bool} {col : Option Bool} {dd : Option Addr} {k0 k1 k2 k3 k5 : Option Value} {newId : String} {cl : Value} {d : Option Addr} {es : Array DictEntry} {ep : Nat} {sl : Array (Option Value)}
    (h1 : K.lookup C = some (excClassObj nm q C N bs [.type "object"] hdct sn sub ab col dd k0 k1 k2 k3 k5 newId)) (h2 : K.lookup N = some ⟨cl, d, .dict es ep, sl⟩) (h3 : strKeysB es = true) (h4 : (nsFind es "__eq__").isNone = true) (h5 : (nsFind es "__ne__").isNone = true) : PlainEq K C :=
  ⟨nm, q, N, bs, hdct, sn, sub, ab, col, dd, k0, k1, k2, k3, k5, newId, cl, d, es, ep, sl, h1, h2, h3, h4, h5⟩
theorem kit_no {K : PySem.W.Frag} {B : Addr} {t : String} (h : PySem.W.kitMeta t = true) (h4 : PySem.W.subIn K (.ref B) (.type t) = some false) : PySem.W.kitOne K (.ref B) (.type t) = some false := by
  unfold PySem.W.kitOne
  rw [if_neg (by simp)]
  show (if PySem.W.kitMeta t = true then PySem.W.subIn K (.ref B) (.type t) else none) = some false
  rw [if_pos h]
  exact h4
section
variable {P : Program} {w : World} {K : PySem.W.Frag} {mg : Str → Option Value} {base : Heap} {C tE T : Addr}
theorem caseC_mk (c : ClIn K C "Case") (g : mg "Case" = some (.ref C)) (nW : NoAttr K C "word") (nC : NoAttr K C "content") (D : MethD K C "__init__" "Case.__init__" s_Case___init__ T .none) : CaseC P w K mg base C := by
  obtain ⟨f, oc, od, an, osl, kV, dc, pm, cd, ct, cT, dT, n, sT, a, i, l, co, kp, lT⟩ := D
  have F : FunD K "__init__" "Case.__init__" (defArgs s_Case___init__) (defBody s_Case___init__) (defScope s_Case___init__) [.non] [] f (PySem.W.fnOf "__init__" "Case.__init__" (defArgs s_Case___init__) (defBody s_Case___init__) (defScope s_Case___init__) (.ref T) kV dc pm an cd ct) :=
    ⟨⟨oc, od, .ref T, kV, dc, pm, an, cd, ct, osl, rfl, l, co, .inr ⟨(fun z => nomatch z), T, _, [.none], n, rfl, lT, rfl, .cons rfl .nil⟩, .inl rfl⟩, kp⟩
  refine ⟨c.cls, nW, nC, g, f, _, ⟨c.mks, a, i, c.kc⟩, ok_cinit F c.cls nW nC, ?_, ?_, ⟨?_, ?_⟩, ⟨?_, ?_⟩, ⟨?_, ?_⟩⟩
  · intro s us hin hl
    match us, hl with
    | [_, _, _], _ => exact .of_defaults rfl (hin _ _ lT) rfl rfl rfl
  · intro s us hin hl
    have hl2 : us.length = 2 := by
      have h : (us ++ _).length = 3 := hl
      rw [List.length_append] at h
      exact Nat.succ.inj h
    match us, hl2 with
    | [_, _], _ => exact .of_defaults rfl (hin _ _ lT) rfl rfl rfl
  · intro s us ws hin hl hl2
    match us, hl, ws, hl2 with
    | [_], _, [_, _], _ => exact .of_defaults rfl (hin _ _ lT) rfl rfl rfl
  · intro vs us zs ws h1 h2
    exact h1.append h2.reverse
  · intro s us ws hin hl hl2
    match us, hl, ws, hl2 with
    | [_, _], _, [_], _ => exact .of_defaults rfl (hin _ _ lT) rfl rfl rfl
  · intro vs us zs ws h1 h2
    exact h1.append h2
  · intro s us ws hin hl hl2
    match us, hl, ws, hl2 with
    | [_], _, [_], _ => exact .of_defaults rfl (hin _ _ lT) rfl rfl rfl
  · intro vs us zs ws h1 h2
    exact (h1.append h2).append (.cons rfl .nil)
theorem nodeC_mk (hD : mg "dict" = none) (TB : Bt mg) (c : ClIn K C "Node") (g : mg "Node" = some (.ref C)) (nK : NoAttr K C "kind") (nF : NoAttr K C "fields") (et : ETup K tE) (D : MethD K C "__init__" "Node.__init__" s_Node___init__ T (.ref tE)) (M : MethIn K C "put" "Node.put" s_Node_put) : NodeC P w K mg base C tE := by
  obtain ⟨f, oc, od, an, osl, kV, dc, pm, cd, ct, cT, dT, n, sT, a, i, l, co, kp, lT⟩ := D
  have F : FunD K "__init__" "Node.__init__" (defArgs s_Node___init__) (defBody s_Node___init__) (defScope s_Node___init__) [.ref tE] [] f (PySem.W.fnOf "__init__" "Node.__init__" (defArgs s_Node___init__) (defBody s_Node___init__) (defScope s_Node___init__) (.ref T) kV dc pm an cd ct) :=
    ⟨⟨oc, od, .ref T, kV, dc, pm, an, cd, ct, osl, rfl, l, co, .inr ⟨(fun z => nomatch z), T, _, [.ref tE], n, rfl, lT, rfl, .cons rfl .nil⟩, .inl rfl⟩, kp⟩
  refine ⟨c.cls, nK, nF, g, et, ⟨f, _, ⟨c.mks, a, i, c.kc⟩, ok_ninit F TB hD c.cls nK nF, ?_, ?_, ⟨?_, ?_⟩, ⟨?_, ?_⟩⟩, ?_, ?_⟩
  · intro s us hin hl
    match us, hl with
    | [_, _, _], _ => exact .of_defaults rfl (hin _ _ lT) rfl rfl rfl
  · intro s us hin hl
    have hl2 : us.length = 2 := by
      have h : (us ++ _).length = 3 := hl
      rw [List.length_append] at h
      exact Nat.succ.inj h
    match us, hl2 with
    | [_, _], _ => exact .of_defaults rfl (hin _ _ lT) rfl rfl rfl
  · intro s us ws hin hl hl2
    match us, hl, ws, hl2 with
    | [_], _, [_, _], _ => exact .of_defaults rfl (hin _ _ lT) rfl rfl rfl
  · intro vs us zs ws h1 h2
    exact h1.append h2.reverse
  · intro s us ws hin hl hl2
    match us, hl, ws, hl2 with
    | [_, _], _, [_], _ => exact .of_defaults rfl (hin _ _ lT) rfl rfl rfl
  · intro vs us zs ws h1 h2
    exact h1.append h2
  · exact mcal_mk M (fun _ _ _ _ _ _ us hl => match us, hl with | [_, _, _], _ => rfl) fun f fd F => ok_put F c.cls nF
  · obtain ⟨f, oc, od, an, osl, kV, dc, pm, cd, ct, a, i, l, co, kp⟩ := M
    have F := fun_mk (st := s_Node_put) l co kp
    refine ⟨f, _, ⟨a, i, kp⟩, ok_put F c.cls nF, ?_, ?_⟩
    · intro s us ws hin hl hl2
      match us, hl, ws, hl2 with
      | [_], _, [_, _], _ => exact .of_eq rfl
    · intro vs us zs ws h1 h2
      exact h1.append h2.reverse
end
end K11
namespace K11
open PySem PySem.Spec PyProof.Rows L2 Tw Sb
theorem all_mk {l : PySem.W.OpenLaw} {w : World} {K : PySem.W.Frag} {h : Heap} {mg : Str → Option Value} {fa C_Node C_Case tE T_Node T_Case : Addr} (X : K.In h) (G : h.Ns mainGlobals mg) (hfa : mg "law" = some (.ref fa))
    (d__law_well : DefIn K "_law_well" s__law_well)
    (d__law_draw : DefIn K "_law_draw" s__law_draw)
    (d__law_one : DefIn K "_law_one" s__law_one)
    (d__law_text : DefIn K "_law_text" s__law_text)
    (d__law_thing : DefIn K "_law_thing" s__law_thing)
    (d__law_alike : DefIn K "_law_alike" s__law_alike)
    (d__law_right : DefIn K "_law_right" s__law_right)
    (d__law_made : DefIn K "_law_made" s__law_made)
    (d__law_cases_right : DefIn K "_law_cases_right" s__law_cases_right)
    (d_law : DefIn K "law" s_law)
    (cl_Node : ClIn K C_Node "Node")
    (cl_Case : ClIn K C_Case "Case")
    (m_Node_put : MethIn K C_Node "put" "Node.put" s_Node_put)
    (m_Case___eq__ : MethIn K C_Case "__eq__" "Case.__eq__" s_Case___eq__)
    (na_Node_kind : PySem.W.findIn K (.ref C_Node) "kind" = some none)
    (na_Node_fields : PySem.W.findIn K (.ref C_Node) "fields" = some none)
    (na_Case_word : PySem.W.findIn K (.ref C_Case) "word" = some none)
    (na_Case_content : PySem.W.findIn K (.ref C_Case) "content" = some none)
    (z_isinstance : PySem.W.nsIn K mainGlobals "isinstance" = some none)
    (z_int : PySem.W.nsIn K mainGlobals "int" = some none)
    (z_bool : PySem.W.nsIn K mainGlobals "bool" = some none)
    (z_str : PySem.W.nsIn K mainGlobals "str" = some none)
    (z_list : PySem.W.nsIn K mainGlobals "list" = some none)
    (z_tuple : PySem.W.nsIn K mainGlobals "tuple" = some none)
    (z_len : PySem.W.nsIn K mainGlobals "len" = some none)
    (z_all : PySem.W.nsIn K mainGlobals "all" = some none)
    (z_sum : PySem.W.nsIn K mainGlobals "sum" = some none)
    (z_range : PySem.W.nsIn K mainGlobals "range" = some none)
    (z_zip : PySem.W.nsIn K mainGlobals "zip" = some none)
    (z_enumerate : PySem.W.nsIn K mainGlobals "enumerate" = some none)
    (e_dict : PySem.W.nsIn K mainGlobals "dict" = some none)
    (e_aN : PySem.W.findIn K (.ref C_Node) "__class__" = some (some (.builtin "object.__class__")))
    (e_aC : PySem.W.findIn K (.ref C_Case) "__class__" = some (some (.builtin "object.__class__")))
    (e_n : PySem.W.specialIn K (.builtin "object.__class__") "__get__" = some (some (.builtin "getset_descriptor.__get__")))
    (e_t : PySem.W.takesIn K (.builtin "object.__class__") = some true)
    (e_mN : PySem.W.mroIn K C_Node (.type "object") = some true)
    (e_mC : PySem.W.mroIn K C_Case (.type "object") = some true)
    (e_bN : PySem.W.subIn K (.ref C_Node) (.type "bool") = some false)
    (e_bC : PySem.W.subIn K (.ref C_Case) (.type "bool") = some false)
    (dN : MethD K C_Node "__init__" "Node.__init__" s_Node___init__ T_Node (.ref tE))
    (dC : MethD K C_Case "__init__" "Case.__init__" s_Case___init__ T_Case .none)
    (et : ETup K tE)
    (pN : PlainEq K C_Node) :
    ∃ fd : FuncData, (∀ (s : Shared) (v : Value), BindsTo s fd ⟨[v], []⟩ [("_law_script", v)]) ∧ ∀ base : Heap, K.In base → base.Ns mainGlobals mg → FnOk l.prog w K mg base CX0 5 fa fd ["_law_script"] (spLaw K) := by
  have T : Bt mg := bt_mk X G (by
    intro x hx
    simp only [List.mem_cons, List.not_mem_nil, or_false] at hx
    rcases hx with rfl | rfl | rfl | rfl | rfl | rfl | rfl | rfl | rfl | rfl | rfl | rfl
    · exact z_isinstance
    · exact z_int
    · exact z_bool
    · exact z_str
    · exact z_list
    · exact z_tuple
    · exact z_len
    · exact z_all
    · exact z_sum
    · exact z_range
    · exact z_zip
    · exact z_enumerate)
  obtain ⟨f, oc, od, an, osl, kV, dc, pm, cd, ct, a, lk, c, kp⟩ := d_law
  have e := hfa.symm.trans (PySem.W.mg_of X G a)
  cases e
  refine ⟨PySem.W.fnOf "law" "law" (defArgs s_law) (defBody s_law) (defScope s_law) .none kV dc pm an cd ct, fun s v => .of_eq rfl, fun base _ _ => ?_⟩
  have hD : mg "dict" = none := PySem.W.mg_none_of X G e_dict
  have gN : mg "Node" = some (.ref C_Node) := PySem.W.mg_of X G cl_Node.g
  have gC : mg "Case" = some (.ref C_Case) := PySem.W.mg_of X G cl_Case.g
  have NC : NodeC l.prog w K mg base C_Node tE := nodeC_mk hD T cl_Node gN na_Node_kind na_Node_fields et dN m_Node_put
  have KC : CaseC l.prog w K mg base C_Case := caseC_mk cl_Case gC na_Case_word na_Case_content dC
  have IN : InsF K C_Node := ⟨cl_Node.cls, e_aN, e_n, e_t, e_mN, kit_no (by decide +kernel) e_bN⟩
  have IC : InsF K C_Case := ⟨cl_Case.cls, e_aC, e_n, e_t, e_mC, kit_no (by decide +kernel) e_bC⟩
  obtain ⟨fE, ocE, odE, anE, oslE, kVE, dcE, pmE, cdE, ctE, aE, iE, lE, cE, kpE⟩ := m_Case___eq__
  have FE0 := fun_mk (st := s_Case___eq__) lE cE kpE
  have FE : FnOk l.prog w K mg base CX0 1 fE _ ["self", "other"] (spEq (CaseR C_Case)) := ok_ceq FE0 T IC na_Case_word na_Case_content ⟨_, gC, rfl⟩
  have bE := FE0.binds (ps := ["self", "other"]) (fun _ _ _ _ _ _ us hl => match us, hl with | [_, _], _ => rfl)
  have e1 : Cal l.prog w K mg base 1 "_law_well" ["_law_cell"] spWell := cal_mk d__law_well X G (fun _ _ _ _ _ _ us hl => match us, hl with | [_], _ => rfl) fun f fd F => ok_well F T
  have e2 : Cal l.prog w K mg base 1 "_law_draw" ["_law_well_here", "_law_many"] spDraw := cal_mk d__law_draw X G (fun _ _ _ _ _ _ us hl => match us, hl with | [_, _], _ => rfl) fun f fd F => ok_draw F T
  have e3 : Cal l.prog w K mg base 2 "_law_one" ["_law_well_here", "_law_some"] (spOne K) := cal_mk d__law_one X G (fun _ _ _ _ _ _ us hl => match us, hl with | [_, _], _ => rfl) fun f fd F => ok_one F T e2
  have e4 : Cal l.prog w K mg base 3 "_law_text" ["_law_well_here", "_law_least", "_law_most"] spText := cal_mk d__law_text X G (fun _ _ _ _ _ _ us hl => match us, hl with | [_, _, _], _ => rfl) fun f fd F => ok_text F T e2 e3
  have e5 : Cal l.prog w K mg base 4 "_law_thing" ["_law_well_here", "_law_nodes"] (spThing C_Node C_Case) := cal_mk d__law_thing X G (fun _ _ _ _ _ _ us hl => match us, hl with | [_, _], _ => rfl) fun f fd F => ok_thing F T KC e2 e3 e4
  have e6 : Cal l.prog w K mg base 2 "_law_alike" ["_law_found", "_law_due"] (spAlike C_Node C_Case) := cal_mk d__law_alike X G (fun _ _ _ _ _ _ us hl => match us, hl with | [_, _], _ => rfl) fun f fd F => ok_alike F T IC IN pN FE aE iE bE
  have e7 : Cal l.prog w K mg base 3 "_law_right" ["_law_node", "_law_sort", "_law_due"] (spRight C_Node C_Case) := cal_mk d__law_right X G (fun _ _ _ _ _ _ us hl => match us, hl with | [_, _, _], _ => rfl) fun f fd F => ok_right F T hD cl_Node.cls na_Node_kind na_Node_fields e6
  have e8 : Cal l.prog w K mg base 3 "_law_made" ["_law_way", "_law_sort", "_law_due"] (spMade C_Node) := cal_mk d__law_made X G (fun _ _ _ _ _ _ us hl => match us, hl with | [_, _, _], _ => rfl) fun f fd F => ok_made F T hD NC
  have e9 : Cal l.prog w K mg base 4 "_law_cases_right" ["_law_well_here"] spCases := cal_mk d__law_cases_right X G (fun _ _ _ _ _ _ us hl => match us, hl with | [_], _ => rfl) fun f fd F => ok_cases F T NC KC e3 e4 e6
  exact ok_law (fun_mk (st := s_law) lk c kp) T hD NC e1 e2 e3 e4 e5 e8 e7 e9
end K11
open PySem PySem.W PyProof.Rows
set_option maxHeartbeats 0 in
theorem PySem.Challenge.cw_thingwires_k11_nodes_and_cases_holds : PySem.Challenge.rw_thingwires_k11_nodes_and_cases.Holds := by
  w_on; o_law; k_head; (case hw => w_witness2)
  k_fill
  refine L2.walk_of (l := PySem.Challenge.rw_thingwires_k11_nodes_and_cases) (n := 63) (k := 5) (x := "_law_script") (CX := fun _ => L2.CX0) (sp := fun w => Tw.spLaw _) rfl (by decide) rfl ⟨rfl, by decide, by decide⟩ (fun w h Y => PySem.W.kIn_of Y) ?F (fun _ _ a ns hl _ hS => ⟨a, ns, rfl, hS, hl, fun _ => rfl⟩) (fun _ _ _ _ _ h => h)
  case F =>
    intro w mg fa h KX G hmg
    refine' K11.all_mk KX G hmg (Tw.defIn_mk ?twa0 ?twl0 ?twc0 ?twk0) (Tw.defIn_mk ?twa1 ?twl1 ?twc1 ?twk1) (Tw.defIn_mk ?twa2 ?twl2 ?twc2 ?twk2) (Tw.defIn_mk ?twa3 ?twl3 ?twc3 ?twk3) (Tw.defIn_mk ?twa4 ?twl4 ?twc4 ?twk4) (Tw.defIn_mk ?twa5 ?twl5 ?twc5 ?twk5) (Tw.defIn_mk ?twa6 ?twl6 ?twc6 ?twk6) (Tw.defIn_mk ?twa7 ?twl7 ?twc7 ?twk7) (Tw.defIn_mk ?twa8 ?twl8 ?twc8 ?twk8) (Tw.defIn_mk ?twa9 ?twl9 ?twc9 ?twk9) (Tw.ClIn.mk ?twxg0 ?twxp0 ?twxh0 ?twxo0 ?twxs0 ?twxm0 ?twxk0) (Tw.ClIn.mk ?twxg1 ?twxp1 ?twxh1 ?twxo1 ?twxs1 ?twxm1 ?twxk1) (Tw.methIn_mk ?twya0 ?twyi0 ?twyl0 ?twyc0 ?twyk0) (Tw.methIn_mk ?twya1 ?twyi1 ?twyl1 ?twyc1 ?twyk1) ?twn0 ?twn1 ?twn2 ?twn3 ?twz0 ?twz1 ?twz2 ?twz3 ?twz4 ?twz5 ?twz6 ?twz7 ?twz8 ?twz9 ?twz10 ?twz11 ?twe0 ?twe1 ?twe2 ?twe3 ?twe4 ?twe5 ?twe6 ?twe7 ?twe8 (K11.methD_mk ?tws0x0 ?tws0x1 ?tws0x2 ?tws0x3 ?tws0x4 ?tws0x5) (K11.methD_mk ?tws1x0 ?tws1x1 ?tws1x2 ?tws1x3 ?tws1x4 ?tws1x5) (K11.eTup_mk ?tws2x0) (K11.plainEq_mk ?tws3x0 ?tws3x1 ?tws3x2 ?tws3x3 ?tws3x4)
    (case twa0 => k_is)
    (case twl0 => k_is)
    (case twc0 => k_is)
    (case twk0 => k_is)
    (case twa1 => k_is)
    (case twl1 => k_is)
    (case twc1 => k_is)
    (case twk1 => k_is)
    (case twa2 => k_is)
    (case twl2 => k_is)
    (case twc2 => k_is)
    (case twk2 => k_is)
    (case twa3 => k_is)
    (case twl3 => k_is)
    (case twc3 => k_is)
    (case twk3 => k_is)
    (case twa4 => k_is)
    (case twl4 => k_is)
    (case twc4 => k_is)
    (case twk4 => k_is)
    (case twa5 => k_is)
    (case twl5 => k_is)
    (case twc5 => k_is)
    (case twk5 => k_is)
    (case twa6 => k_is)
    (case twl6 => k_is)
    (case twc6 => k_is)
    (case twk6 => k_is)
    (case twa7 => k_is)
    (case twl7 => k_is)
    (case twc7 => k_is)
    (case twk7 => k_is)
    (case twa8 => k_is)
    (case twl8 => k_is)
    (case twc8 => k_is)
    (case twk8 => k_is)
    (case twa9 => k_is)
    (case twl9 => k_is)
    (case twc9 => k_is)
    (case twk9 => k_is)
    (case twxg0 => k_is)
    (case twxp0 => k_is)
    (case twxh0 => k_is)
    (case twxo0 => k_is)
    (case twxs0 => k_is)
    (case twxm0 => k_is)
    (case twxk0 => k_is)
    (case twxg1 => k_is)
    (case twxp1 => k_is)
    (case twxh1 => k_is)
    (case twxo1 => k_is)
    (case twxs1 => k_is)
    (case twxm1 => k_is)
    (case twxk1 => k_is)
    (case twya0 => k_is)
    (case twyi0 => k_is)
    (case twyl0 => k_is)
    (case twyc0 => k_is)
    (case twyk0 => k_is)
    (case twya1 => k_is)
    (case twyi1 => k_is)
    (case twyl1 => k_is)
    (case twyc1 => k_is)
    (case twyk1 => k_is)
    (case twn0 => k_is)
    (case twn1 => k_is)
    (case twn2 => k_is)
    (case twn3 => k_is)
    (case twz0 => k_is)
    (case twz1 => k_is)
    (case twz2 => k_is)
    (case twz3 => k_is)
    (case twz4 => k_is)
    (case twz5 => k_is)
    (case twz6 => k_is)
    (case twz7 => k_is)
    (case twz8 => k_is)
    (case twz9 => k_is)
    (case twz10 => k_is)
    (case twz11 => k_is)
    (case twe0 => k_is)
    (case twe1 => k_is)
    (case twe2 => k_is)
    (case twe3 => k_is)
    (case twe4 => k_is)
    (case twe5 => k_is)
    (case twe6 => k_is)
    (case twe7 => k_is)
    (case twe8 => k_is)
    (case tws0x0 => k_is)
    (case tws0x1 => k_is)
    (case tws0x2 => k_is)
    (case tws0x3 => k_is)
    (case tws0x4 => k_is)
    (case tws0x5 => k_is)
    (case tws1x0 => k_is)
    (case tws1x1 => k_is)
    (case tws1x2 => k_is)
    (case tws1x3 => k_is)
    (case tws1x4 => k_is)
    (case tws1x5 => k_is)
    (case tws2x0 => k_is)
    (case tws3x0 => k_is)
    (case tws3x1 => k_is)
    (case tws3x2 => rfl)
    (case tws3x3 => rfl)
    (case tws3x4 => rfl)
