import PyProof.Rows.All
import Wide.All
import OpenK.AllK
import Wide.FinOn
import HandS.ForMost
import HandS.IsInst
import HandS.Walk
import HandS.Defaults
import HandS.Codes
import PySem.Sem
import KE.GoesEnumKw
import HandS.Star
import HandS.SortKw
import HandS.Wide
import HandS.ListItems
import HandS.TupAny
import PyProof.AutoSeq1
import HandS.ExcInit
import HandS.ExcOwn
import HandS.ExcField
import HandS.WordsExc
import HandS.ExcIs
import KE.KExcIs
import PySem.Challenge.RW_thingwires_k54_whole_fed_in_pieces
set_option Elab.async false
set_option linter.all false
set_option maxRecDepth 100000
/-! TwKit: what all our proofs share: defs that may be called, the well of numbers, frames. -/
namespace Tw
open PySem PySem.Spec PyProof.Rows L2

/-! ### a def of the text, as the top has left it -/
def DefIn (K : PySem.W.Frag) (x : Str) (st : Stmt) : Prop := ∃ (f : Addr) (oc : Value) (od an : Option Addr) (osl : Array (Option Value)) (kV dc pm cd ct : Value),
  PySem.W.nsIn K mainGlobals x = some (some (.ref f)) ∧ K.lookup f = some ⟨oc, od, .func (PySem.W.fnOf x x (defArgs st) (defBody st) (defScope st) .none kV dc pm an cd ct), osl⟩ ∧ PySem.W.codeIn K cd x = true ∧ PySem.W.keepIn K (.ref f) = true

section
variable {P : Program} {w : World} {K : PySem.W.Frag} {mg : Str → Option Value} {base : Heap}
theorem defIn_mk {x : Str} {st : Stmt} {f : Addr} {oc : Value} {od an : Option Addr} {osl : Array (Option Value)} {kV dc pm cd ct : Value} (a : PySem.W.nsIn K mainGlobals x = some (some (.ref f)))
    (l : K.lookup f = some ⟨oc, od, .func (PySem.W.fnOf x x (defArgs st) (defBody st) (defScope st) .none kV dc pm an cd ct), osl⟩) (c : PySem.W.codeIn K cd x = true) (k : PySem.W.keepIn K (.ref f) = true) : DefIn K x st :=
  ⟨f, oc, od, an, osl, kV, dc, pm, cd, ct, a, l, c, k⟩
/-- a def by its name: a promise that is kept, called by place -/
structure Cal (P : Program) (w : World) (K : PySem.W.Frag) (mg : Str → Option Value) (base : Heap) (k : Nat) (x : Str) (ps : List Str) (sp : Sp) : Prop where
  ex : ∃ (f : Addr) (fd : FuncData), FnOk P w K mg base CX0 k f fd ps sp ∧ mg x = some (.ref f) ∧ PySem.W.keepIn K (.ref f) = true ∧ Binds K fd ps []
/-- .. by keywords alone, in the order ks; gV puts their values into the parameters' order -/
structure CalK (P : Program) (w : World) (K : PySem.W.Frag) (mg : Str → Option Value) (base : Heap) (k : Nat) (x : Str) (n : Nat) (ks : List Str) (gV : List V → List V → List V) (sp : Sp) : Prop where
  ex : ∃ (f : Addr) (fd : FuncData) (ps : List Str) (g : List Value → List Value → List Value), FnOk P w K mg base CX0 k f fd ps sp ∧ mg x = some (.ref f) ∧ PySem.W.keepIn K (.ref f) = true ∧ KBn K fd ps n ks g gV

theorem cal_mk {x : Str} {st : Stmt} {ps : List Str} {k : Nat} {sp : Sp} {h : Heap} (D : DefIn K x st) (X : K.In h) (G : h.Ns mainGlobals mg)
    (b : ∀ (kV doc pm : Value) (an : Option Addr) (cdv ct : Value) (us : List Value), us.length = ps.length → bindArgs (PySem.W.fnOf x x (defArgs st) (defBody st) (defScope st) .none kV doc pm an cdv ct) ⟨us, []⟩ = pure (ps.zip us))
    (ok : ∀ (f : Addr) (fd : FuncData), Fun K x x st f fd → FnOk P w K mg base CX0 k f fd ps sp) : Cal P w K mg base k x ps sp := by
  obtain ⟨f, oc, od, an, osl, kV, dc, pm, cd, ct, a, l, c, kp⟩ := D
  have F := fun_mk (st := st) l c kp
  exact ⟨f, _, ok f _ F, PySem.W.mg_of X G a, kp, F.binds b⟩
theorem calK_mk {x : Str} {st : Stmt} {ps : List Str} {k n : Nat} {ks : List Str} {sp : Sp} {h : Heap} (g : {α : Type} → List α → List α → List α) (D : DefIn K x st) (X : K.In h) (G : h.Ns mainGlobals mg)
    (b : ∀ (kV doc pm : Value) (an : Option Addr) (cdv ct : Value) (us ws : List Value), us.length = n → ws.length = ks.length → bindArgs (PySem.W.fnOf x x (defArgs st) (defBody st) (defScope st) .none kV doc pm an cdv ct) ⟨us, ks.zip ws⟩ = pure (ps.zip (g us ws)))
    (hrel : ∀ {vs : List V} {us : List Value} {zs : List V} {ws : List Value}, Vals vs us → Vals zs ws → Vals (g vs zs) (g us ws))
    (ok : ∀ (f : Addr) (fd : FuncData), Fun K x x st f fd → FnOk P w K mg base CX0 k f fd ps sp) : CalK P w K mg base k x n ks g sp := by
  obtain ⟨f, oc, od, an, osl, kV, dc, pm, cd, ct, a, l, c, kp⟩ := D
  have F := fun_mk (st := st) l c kp
  exact ⟨f, _, ps, g, ok f _ F, PySem.W.mg_of X G a, kp, fun s us ws _ h1 h2 => .of_eq (b _ _ _ _ _ _ us ws h1 h2), hrel⟩
end

section
variable {X : Cx} {k j n : Nat} {x : Str} {ps ks : List Str} {sp : Sp} {gV : List V → List V → List V} {p pos : Pos} {e : Expr} {es : List Expr} {kws : List Keyword} {t tk : TA}
theorem pe_cal (c : Cal X.prog X.w X.K X.mg X.base k x ps sp) (hr : Room j X.A) (hk : k ≤ j) (hg : Gl X x) (ha : PA X (e :: es) t)
    (hdb : (x == ("__debug__" : Str)) = false := by decide) (he : starEach (e :: es) X.env = (false, eval e X.env) :: starEach es X.env := by rfl) (hpl : (backTo pos (starEach es X.env)).any (·.1) = false := by rfl) :
    PE X (.Call (.Name x p) (e :: es) [] pos) (tCall sp [] E0 t) := by
  obtain ⟨f, fd, F, hm, kp, b⟩ := c.ex
  exact pe_call F (hr.mono hk) hg hm kp b .nil pass0 ha hdb he hpl
theorem pe_cal0 (c : Cal X.prog X.w X.K X.mg X.base k x ps sp) (hr : Room j X.A) (hk : k ≤ j) (hg : Gl X x) (hdb : (x == ("__debug__" : Str)) = false := by decide) :
    PE X (.Call (.Name x p) [] [] pos) (tCall sp [] E0 tNil) := by
  obtain ⟨f, fd, F, hm, kp, b⟩ := c.ex
  exact pe_call0 F (hr.mono hk) hg hm kp b .nil pass0 hdb
/-- f(a, .., k = v, ..) -/
theorem pe_calN (c : CalK X.prog X.w X.K X.mg X.base k x n ks gV sp) (hr : Room j X.A) (hk : k ≤ j) (hg : Gl X x) (ha : PA X (e :: es) t) (hkw : PK X kws tk) (hall : (backToKw pos (keywordEach kws X.env)).all (·.1.isSome) = true := by rfl) (hks : (backToKw pos (keywordEach kws X.env)).filterMap (·.1) = ks := by rfl)
    (hdb : (x == ("__debug__" : Str)) = false := by decide) (he : starEach (e :: es) X.env = (false, eval e X.env) :: starEach es X.env := by rfl)
    (hpl : ((backTo pos (starEach (e :: es) X.env)).any (·.1) || (backToKw pos (keywordEach kws X.env)).any (·.1.isNone)) = false := by rfl) :
    PE X (.Call (.Name x p) (e :: es) kws pos) (tCallN n ks.length sp gV E0 t tk) := by
  obtain ⟨f, fd, ps, g, F, hm, kp, b⟩ := c.ex
  exact pe_callN F (hr.mono hk) hg hm kp b pass0 ha hkw hall hks hdb he hpl
/-- f(k = v, ..) -/
theorem pe_calN0 (c : CalK X.prog X.w X.K X.mg X.base k x 0 ks gV sp) (hr : Room j X.A) (hk : k ≤ j) (hg : Gl X x) (hkw : PK X kws tk) (hall : (backToKw pos (keywordEach kws X.env)).all (·.1.isSome) = true := by rfl) (hks : (backToKw pos (keywordEach kws X.env)).filterMap (·.1) = ks := by rfl)
    (hdb : (x == ("__debug__" : Str)) = false := by decide) (hpl : ((backTo pos (starEach [] X.env)).any (·.1) || (backToKw pos (keywordEach kws X.env)).any (·.1.isNone)) = false := by rfl) :
    PE X (.Call (.Name x p) [] kws pos) (tCallN 0 ks.length sp gV E0 tNil tk) := by
  obtain ⟨f, fd, ps, g, F, hm, kp, b⟩ := c.ex
  refine ⟨fun pins s σ H Q I h => ?_⟩
  refine wpAny_Call_Name_kw (ld_glob I hg hm ?_ hdb)
  refine PySem.W.callWith_KW0 (h₀ := X.base) I.ok.mod.kin kp hall ?_ hpl
  refine thn (hkw.run pos pins s σ H _ I h) fun ws s2 ⟨zs, H2, I2, rz, l1, l2, q2⟩ => ⟨I2.kIn, ?_⟩
  rw [hks]
  exact run_fnN (us := []) (vs := []) F (hr.mono hk) b pass0 I2 .nil rz rfl l2 q2
end

/-! ### heaps -/
theorem same_upd {H : Hp} {p : Addr} {o : HO} (h : H p = none) : Same H (upd H p o) := fun b x e => by
  rw [upd_ne (ne_of_none e h)]
  exact e
theorem Same.tupq {K : PySem.W.Frag} {H H' : Hp} {a : Addr} {xs : List V} (e : Same H H') (h : SqT K H a xs) : SqT K H' a xs := by
  rcases h with (h | ⟨o, h⟩) | h
  · exact .inl (.inl (e _ _ h))
  · exact .inl (.inr ⟨o, e _ _ h⟩)
  · exact .inr h

/-- the well at a: a list of three numbers -/
def IsWl (H : Hp) (a : Addr) : Prop := ∃ x y z : Int, H a = some (.lst [.int x, .int y, .int z])
/-- all but the well at a stays; that is a well again -/
def Fw (a : Addr) (H H' : Hp) : Prop := (∀ b o, b ≠ a → H b = some o → H' b = some o) ∧ IsWl H' a
theorem IsWl.same {H H' : Hp} {a : Addr} (h : IsWl H a) (s : Same H H') : IsWl H' a := by
  obtain ⟨x, y, z, e⟩ := h
  exact ⟨x, y, z, s _ _ e⟩
theorem Fw.refl {H : Hp} {a : Addr} (h : IsWl H a) : Fw a H H := ⟨fun _ _ _ e => e, h⟩
theorem Fw.trans {a : Addr} {H H1 H2 : Hp} (f : Fw a H H1) (g : Fw a H1 H2) : Fw a H H2 := ⟨fun b o n e => g.1 b o n (f.1 b o n e), g.2⟩
theorem Fw.same {a : Addr} {H H1 H2 : Hp} (f : Fw a H H1) (g : Same H1 H2) : Fw a H H2 := ⟨fun b o n e => g b o (f.1 b o n e), f.2.same g⟩
theorem Fw.of_same {a : Addr} {H H1 : Hp} (h : IsWl H a) (g : Same H H1) : Fw a H H1 := (Fw.refl h).same g
theorem Fw.free {a : Addr} {H H' : Hp} (f : Fw a H H') (h : IsWl H a) {p : Addr} (e : H' p = none) : H p = none := by
  cases q : H p with
  | none => rfl
  | some o =>
    by_cases hp : p = a
    · subst hp
      obtain ⟨_, _, _, z⟩ := f.2
      rw [z] at e
      cases e
    · rw [f.1 p o hp q] at e
      cases e
theorem IsWl.ne {H : Hp} {a p : Addr} (h : IsWl H a) (e : H p = none) : p ≠ a := fun q => by
  obtain ⟨_, _, _, z⟩ := h
  rw [q, z] at e
  cases e
/-- the draw's promise: any number below many -/
def spDraw : Sp := fun vs H Q _ => ∃ (a : Addr) (m : Int), vs = [.ref a, .int m] ∧ IsWl H a ∧ 0 < m ∧ m < 1073741824 ∧ ∀ (r : Int) (H' : Hp), 0 ≤ r → r < m → Fw a H H' → Q (.int r) H'

theorem iteB {c : Bool} {A B : Prop} (h1 : c = true → A) (h2 : c = false → B) : if c = true then A else B := by
  cases c
  · exact iteF (h2 rfl)
  · exact iteT (h1 rfl)

/-! ### plain texts -/
/-- a text of at most n signs below 128 -/
structure Asc (n : Nat) (z : Str) : Prop where
  le : z.length ≤ n
  lt : ∀ c ∈ z.cps.toList, c < 128
theorem len_toList (z : Str) : z.length = z.cps.toList.length := by
  show z.cps.size = _
  simp
theorem Asc.mono {m n : Nat} {z : Str} (h : Asc m z) (e : m ≤ n) : Asc n z := ⟨Nat.le_trans h.le e, h.lt⟩
theorem Asc.nil {n : Nat} : Asc n ⟨#[]⟩ := ⟨Nat.zero_le _, fun c h => by simp at h⟩
theorem Asc.one {c : Nat} (h : c < 128) : Asc 1 ⟨#[c]⟩ := ⟨Nat.le_refl _, fun d hd => by
  have e : d = c := by simpa using hd
  omega⟩
theorem toList_append (a b : Str) : (a ++ b).cps.toList = a.cps.toList ++ b.cps.toList := TL.tl_append a b
theorem Asc.append {m n : Nat} {a b : Str} (ha : Asc m a) (hb : Asc n b) : Asc (m + n) (a ++ b) := by
  refine ⟨?_, fun c hc => ?_⟩
  · have h1 := ha.le
    have h2 := hb.le
    rw [len_toList] at h1 h2 ⊢
    rw [toList_append, List.length_append]
    omega
  · rw [toList_append] at hc
    rcases List.mem_append.mp hc with h | h
    · exact ha.lt c h
    · exact hb.lt c h
theorem Asc.cut {n : Nat} {a : Str} (ha : Asc n a) (lo hi : Option Int) : Asc n (cutS a lo hi) := by
  refine ⟨Nat.le_trans (cutS_length a lo hi) ha.le, fun c hc => ha.lt c ?_⟩
  have e : c ∈ (a.cps.toList.drop (HT.sIx a.length 0 lo)).take (HT.sIx a.length a.length hi - HT.sIx a.length 0 lo) := hc
  exact List.mem_of_mem_drop (List.mem_of_mem_take e)
theorem Asc.ok {n : Nat} {z : Str} (h : Asc n z) : PyData.strOk z = true := by
  unfold PyData.strOk
  rw [← Array.all_toList, List.all_eq_true]
  intro c hc
  exact decide_eq_true (Nat.lt_trans (h.lt c hc) (by decide))
theorem asc_toList {l : List Nat} {n : Nat} (h : l.length ≤ n) (k : ∀ c ∈ l, c < 128) : Asc n ⟨l.toArray⟩ := ⟨by rw [len_toList]; simpa using h, fun c hc => k c (by simpa using hc)⟩
/-- written texts -/
def ascB (n : Nat) (z : Str) : Bool := decide (z.length ≤ n) && z.cps.toList.all fun c => decide (c < 128)
theorem Asc.of {n : Nat} {z : Str} (h : ascB n z = true) : Asc n z := by
  unfold ascB at h
  simp only [Bool.and_eq_true, decide_eq_true_eq, List.all_eq_true] at h
  exact ⟨h.1, h.2⟩
theorem Asc.at {n : Nat} {z : Str} (h : Asc n z) {i : Nat} (hi : i < z.length) : ∃ c, atI z.cps.toList (i : Int) = some c ∧ c < 128 := by
  have e : i < z.cps.toList.length := by rw [← len_toList]; exact hi
  exact ⟨z.cps.toList[i], atI_nat (List.getElem?_eq_getElem e), h.lt _ (List.getElem_mem e)⟩
theorem Asc.atZ {n : Nat} {z : Str} (h : Asc n z) {i : Int} (h0 : 0 ≤ i) (hi : i < z.length) : ∃ c, atI z.cps.toList i = some c ∧ c < 128 := by
  obtain ⟨c, e, l⟩ := h.at (i := i.toNat) (by omega)
  rw [Int.toNat_of_nonneg h0] at e
  exact ⟨c, e, l⟩
end Tw
/-! Sb: what the streams tell, on lists of numbers alone (no Python here). -/
namespace Sb
def By (xs : List Int) : Prop := ∀ b ∈ xs, 0 ≤ b ∧ b ≤ 255
def NZ (xs : List Int) : Prop := ∀ b ∈ xs, b ≠ 0
theorem By.nil : By [] := fun _ h => by cases h
theorem By.append {xs ys : List Int} (h : By xs) (k : By ys) : By (xs ++ ys) := fun b hb => (List.mem_append.mp hb).elim (h b) (k b)
theorem By.cons {x : Int} {xs : List Int} (h0 : 0 ≤ x) (h1 : x ≤ 255) (k : By xs) : By (x :: xs) := fun b hb => by
  rcases List.mem_cons.mp hb with rfl | h
  · exact ⟨h0, h1⟩
  · exact k b h
theorem By.one {x : Int} (h0 : 0 ≤ x) (h1 : x ≤ 255) : By [x] := By.cons h0 h1 .nil
theorem By.take {xs : List Int} (h : By xs) (n : Nat) : By (xs.take n) := fun b hb => h b (List.mem_of_mem_take hb)
theorem By.drop {xs : List Int} (h : By xs) (n : Nat) : By (xs.drop n) := fun b hb => h b (List.mem_of_mem_drop hb)
theorem By.left {xs ys : List Int} (h : By (xs ++ ys)) : By xs := fun b hb => h b (List.mem_append_left _ hb)
theorem By.right {xs ys : List Int} (h : By (xs ++ ys)) : By ys := fun b hb => h b (List.mem_append_right _ hb)
theorem By.rep {x : Int} (n : Nat) (h0 : 0 ≤ x) (h1 : x ≤ 255) : By (List.replicate n x) := fun b hb => by
  rw [(List.mem_replicate.mp hb).2]
  exact ⟨h0, h1⟩
theorem NZ.nil : NZ [] := fun _ h => by cases h
theorem NZ.append {xs ys : List Int} (h : NZ xs) (k : NZ ys) : NZ (xs ++ ys) := fun b hb => (List.mem_append.mp hb).elim (h b) (k b)
theorem NZ.take {xs : List Int} (h : NZ xs) (n : Nat) : NZ (xs.take n) := fun b hb => h b (List.mem_of_mem_take hb)
theorem NZ.drop {xs : List Int} (h : NZ xs) (n : Nat) : NZ (xs.drop n) := fun b hb => h b (List.mem_of_mem_drop hb)

/-! ### zeros -/
def zs (off : Nat) : List Int → List Nat
  | [] => []
  | b :: r => if b = 0 then off :: zs (off + 1) r else zs (off + 1) r
theorem zs_append (off : Nat) (xs ys : List Int) : zs off (xs ++ ys) = zs off xs ++ zs (off + xs.length) ys := by
  induction xs generalizing off with
  | nil => rfl
  | cons b r ih =>
    have e : off + (b :: r).length = off + 1 + r.length := by rw [List.length_cons]; omega
    rw [e]
    by_cases h : b = 0
    · simp only [List.cons_append, zs, if_pos h, ih]
    · simp only [List.cons_append, zs, if_neg h, ih]
theorem zs_nz {xs : List Int} (h : NZ xs) (off : Nat) : zs off xs = [] := by
  induction xs generalizing off with
  | nil => rfl
  | cons b r ih =>
    have h1 : b ≠ 0 := h b (List.mem_cons_self ..)
    simp only [zs, if_neg h1]
    exact ih (fun c hc => h c (List.mem_cons_of_mem _ hc)) _
theorem zs_length (off : Nat) (xs : List Int) : (zs off xs).length ≤ xs.length := by
  induction xs generalizing off with
  | nil => exact Nat.le_refl _
  | cons b r ih =>
    have := ih (off + 1)
    by_cases h : b = 0
    · simp only [zs, if_pos h, List.length_cons]; omega
    · simp only [zs, if_neg h, List.length_cons]; omega
theorem nz_of_zs {xs : List Int} {off : Nat} (h : zs off xs = []) : NZ xs := by
  induction xs generalizing off with
  | nil => exact .nil
  | cons b r ih =>
    by_cases hb : b = 0
    · simp [zs, hb] at h
    · simp only [zs, if_neg hb] at h
      intro c hc
      rcases List.mem_cons.mp hc with rfl | q
      · exact hb
      · exact ih h c q
/-- the first zero: ahead of it none -/
theorem zs_cons {xs : List Int} {off z : Nat} {t : List Nat} (h : zs off xs = z :: t) : ∃ seg r, xs = seg ++ 0 :: r ∧ NZ seg ∧ z = off + seg.length ∧ t = zs (z + 1) r := by
  induction xs generalizing off with
  | nil => cases h
  | cons b r ih =>
    by_cases hb : b = 0
    · simp only [zs, if_pos hb] at h
      cases h
      exact ⟨[], r, by rw [hb]; rfl, .nil, rfl, rfl⟩
    · simp only [zs, if_neg hb] at h
      obtain ⟨seg, r', e, hn, ez, et⟩ := ih h
      refine ⟨b :: seg, r', by rw [e]; rfl, fun c hc => ?_, by rw [ez, List.length_cons]; omega, et⟩
      rcases List.mem_cons.mp hc with rfl | q
      · exact hb
      · exact hn c q
theorem zs_take_succ {xs : List Int} {i : Nat} {b : Int} (h : xs[i]? = some b) (off : Nat) : zs off (xs.take (i + 1)) = zs off (xs.take i) ++ if b = 0 then [off + i] else [] := by
  have hi : i < xs.length := (List.getElem?_eq_some_iff.mp h).1
  rw [List.take_add_one, h, zs_append]
  have e : (xs.take i).length = i := by rw [List.length_take]; omega
  rw [e]
  by_cases hb : b = 0
  · simp [zs, hb]
  · simp [zs, hb]

/-! ### the check -/
def wsum (k : Int) : List Int → Int
  | [] => 0
  | b :: r => k * b + wsum (k + 1) r
def check (p : List Int) : List Int := [p.sum % 65521 / 256, p.sum % 65521 % 256, wsum 1 p % 65521 / 256, wsum 1 p % 65521 % 256]
theorem wsum_append (k : Int) (xs ys : List Int) : wsum k (xs ++ ys) = wsum k xs + wsum (k + (xs.length : Int)) ys := by
  induction xs generalizing k with
  | nil => simp [wsum]
  | cons b r ih =>
    have e : k + ((b :: r).length : Int) = k + 1 + (r.length : Int) := by rw [List.length_cons]; push_cast; omega
    rw [e, List.cons_append]
    simp only [wsum, ih]
    omega
theorem check_length (p : List Int) : (check p).length = 4 := rfl
theorem check_by (p : List Int) : By (check p) := by
  intro b hb
  have h1 : 0 ≤ p.sum % 65521 ∧ p.sum % 65521 < 65521 := by omega
  have h2 : 0 ≤ wsum 1 p % 65521 ∧ wsum 1 p % 65521 < 65521 := by omega
  simp only [check, List.mem_cons, List.not_mem_nil, or_false] at hb
  rcases hb with rfl | rfl | rfl | rfl <;> omega

/-! ### runs undone -/
/-- by fuel: what is made, what is left -/
def undo : Nat → List Int → List Int → Option (List Int)
  | 0, acc, _ => some acc
  | _ + 1, acc, [] => some acc
  | f + 1, acc, n :: r =>
    if r.length + 1 < n.toNat then none
    else undo f (acc ++ r.take (n.toNat - 1) ++ if n < 255 ∧ n.toNat < r.length + 1 then [0] else []) ((n :: r).drop n.toNat)
def unrun (p : List Int) : Option (List Int) := undo p.length [] p
theorem undo_nil (f : Nat) (acc : List Int) : undo f acc [] = some acc := by cases f <;> rfl
theorem undo_length {f : Nat} {acc p w : List Int} (hp : ∀ b ∈ p, 1 ≤ b) (h : undo f acc p = some w) : w.length ≤ acc.length + p.length := by
  induction f generalizing acc p with
  | zero => simp only [undo, Option.some.injEq] at h; subst h; omega
  | succ f ih =>
    cases p with
    | nil => simp only [undo, Option.some.injEq] at h; subst h; simp
    | cons n r =>
      simp only [undo] at h
      split at h
      · cases h
      · rename_i hn
        have h1 := hp n (List.mem_cons_self ..)
        have q := ih (fun b hb => hp b (List.mem_of_mem_drop hb)) h
        have e : ((n :: r).drop n.toNat).length = r.length + 1 - n.toNat := by rw [List.length_drop, List.length_cons]
        rw [e, List.length_append, List.length_append, List.length_take] at q
        rw [List.length_cons]
        have e2 : (if n < 255 ∧ n.toNat < r.length + 1 then [(0 : Int)] else []).length ≤ 1 := by split <;> simp
        omega
theorem undo_by {f : Nat} {acc p w : List Int} (ha : By acc) (hp : By p) (h : undo f acc p = some w) : By w := by
  induction f generalizing acc p with
  | zero => simp only [undo, Option.some.injEq] at h; subst h; exact ha
  | succ f ih =>
    cases p with
    | nil => simp only [undo, Option.some.injEq] at h; subst h; exact ha
    | cons n r =>
      simp only [undo] at h
      split at h
      · cases h
      · refine ih ?_ (hp.drop _) h
        refine (ha.append (By.take (fun b hb => hp b (List.mem_cons_of_mem _ hb)) _)).append ?_
        split
        · exact .one (by omega) (by omega)
        · exact .nil
theorem unrun_length {p w : List Int} (hp : ∀ b ∈ p, 1 ≤ b) (h : unrun p = some w) : w.length ≤ p.length := by
  have := undo_length hp h
  simpa using this
theorem unrun_by {p w : List Int} (hp : By p) (h : unrun p = some w) : By w := undo_by .nil hp h

/-! ### what is told -/
inductive Tell where
  | part (pl : Nat) (bs : List Int)
  | torn (pl n : Nat)
deriving DecidableEq
def tell (pl : Nat) (p : List Int) : Tell :=
  match unrun p with
  | some w => if 4 ≤ w.length ∧ w.drop (w.length - 4) = check (w.take (w.length - 4)) then .part pl (w.take (w.length - 4)) else .torn pl p.length
  | none => .torn pl p.length
def goes : List Int → Nat → List Int → List Tell × List Int × Nat
  | pc, pl, [] => ([], pc, pl)
  | pc, pl, b :: r => if b = 0 then ((if pc = [] then [] else [tell pl pc]) ++ (goes [] (pl + pc.length + 1) r).1, (goes [] (pl + pc.length + 1) r).2) else goes (pc ++ [b]) pl r
def rests (pc : List Int) (pl : Nat) : List Tell := if pc = [] then [] else [.torn pl pc.length]
def unstr (xs : List Int) : List Tell := (goes [] 0 xs).1 ++ rests (goes [] 0 xs).2.1 (goes [] 0 xs).2.2
theorem goes_nz {seg : List Int} (h : NZ seg) (pc : List Int) (pl : Nat) : goes pc pl seg = ([], pc ++ seg, pl) := by
  induction seg generalizing pc with
  | nil => simp [goes]
  | cons b r ih =>
    have hb : b ≠ 0 := h b (List.mem_cons_self ..)
    simp only [goes, if_neg hb]
    rw [ih (fun c hc => h c (List.mem_cons_of_mem _ hc))]
    simp
theorem goes_append (pc : List Int) (pl : Nat) (xs ys : List Int) : goes pc pl (xs ++ ys) = ((goes pc pl xs).1 ++ (goes (goes pc pl xs).2.1 (goes pc pl xs).2.2 ys).1, (goes (goes pc pl xs).2.1 (goes pc pl xs).2.2 ys).2) := by
  induction xs generalizing pc pl with
  | nil => simp [goes]
  | cons b r ih =>
    by_cases hb : b = 0
    · simp only [List.cons_append, goes, if_pos hb, ih, List.append_assoc]
    · simp only [List.cons_append, goes, if_neg hb, ih]
theorem goes_zero {seg : List Int} (h : NZ seg) (pc : List Int) (pl : Nat) (r : List Int) :
    goes pc pl (seg ++ 0 :: r) = ((if pc ++ seg = [] then [] else [tell pl (pc ++ seg)]) ++ (goes [] (pl + (pc ++ seg).length + 1) r).1, (goes [] (pl + (pc ++ seg).length + 1) r).2) := by
  rw [goes_append, goes_nz h]
  simp only [goes, if_true, List.nil_append]
/-- the piece kept is of none but bytes, without zeros -/
theorem goes_keeps {pc xs : List Int} {pl : Nat} (h1 : By pc) (h2 : NZ pc) (hx : By xs) : By (goes pc pl xs).2.1 ∧ NZ (goes pc pl xs).2.1 ∧ (goes pc pl xs).2.1.length ≤ pc.length + xs.length := by
  induction xs generalizing pc pl with
  | nil => exact ⟨h1, h2, Nat.le_add_right _ _⟩
  | cons b r ih =>
    have hb := hx b (List.mem_cons_self ..)
    have hr : By r := fun c hc => hx c (List.mem_cons_of_mem _ hc)
    by_cases h0 : b = 0
    · simp only [goes, if_pos h0]
      obtain ⟨a, c, d⟩ := ih (pl := pl + pc.length + 1) By.nil NZ.nil hr
      refine ⟨a, c, ?_⟩
      rw [List.length_cons]
      have e : ([] : List Int).length = 0 := rfl
      omega
    · simp only [goes, if_neg h0]
      obtain ⟨a, c, d⟩ := ih (pc := pc ++ [b]) (pl := pl) (h1.append (.one hb.1 hb.2)) (h2.append fun c hc => by
        have e : c = b := by simpa using hc
        rw [e]; exact h0) hr
      refine ⟨a, c, ?_⟩
      rw [List.length_append] at d
      rw [List.length_cons]
      have e : [b].length = 1 := rfl
      omega
theorem goes_many (pc : List Int) (pl : Nat) (xs : List Int) : (goes pc pl xs).1.length ≤ xs.length := by
  induction xs generalizing pc pl with
  | nil => exact Nat.le_refl _
  | cons b r ih =>
    by_cases h0 : b = 0
    · simp only [goes, if_pos h0, List.length_append, List.length_cons]
      have := ih [] (pl + pc.length + 1)
      have e : (if pc = [] then [] else [tell pl pc]).length ≤ 1 := by split <;> simp
      omega
    · simp only [goes, if_neg h0, List.length_cons]
      have := ih (pc ++ [b]) pl
      omega
theorem undo_at {ns acc : List Int} {a k f : Nat} (h : ns[a]? = some (k : Int)) (hk : 1 ≤ k) (hf : ns.length - a ≤ f) :
    ∃ f', ns.length - (a + k) ≤ f' ∧ undo f acc (ns.drop a) = if ns.length < a + k then none else undo f' (acc ++ (ns.drop (a + 1)).take (k - 1) ++ if (k : Int) < 255 ∧ a + k < ns.length then [0] else []) (ns.drop (a + k)) := by
  have ha : a < ns.length := (List.getElem?_eq_some_iff.mp h).1
  have e : ns.drop a = (k : Int) :: ns.drop (a + 1) := by
    rw [List.drop_eq_getElem_cons ha]
    have := (List.getElem?_eq_some_iff.mp h).2
    rw [this]
  cases f with
  | zero => omega
  | succ f =>
    refine ⟨f, by omega, ?_⟩
    have e2 : ((k : Int) :: ns.drop (a + 1)).drop k = ns.drop (a + k) := by
      rw [← e, List.drop_drop]
    rw [e]
    simp only [undo, Int.toNat_natCast]
    rw [e2, List.length_drop]
    by_cases c : ns.length < a + k
    · rw [if_pos c, if_pos (by omega)]
    · rw [if_neg c, if_neg (by omega)]
      have e3 : (if (k : Int) < 255 ∧ k < ns.length - (a + 1) + 1 then [(0 : Int)] else []) = if (k : Int) < 255 ∧ a + k < ns.length then [0] else [] := by
        by_cases d : (k : Int) < 255 ∧ a + k < ns.length
        · rw [if_pos d, if_pos ⟨d.1, by omega⟩]
        · rw [if_neg d, if_neg (fun q => d ⟨q.1, by omega⟩)]
      rw [e3]
theorem byte_nat {ns : List Int} (hB : By ns) (hN : NZ ns) {a : Nat} {b : Int} (h : ns[a]? = some b) : ∃ k : Nat, b = (k : Int) ∧ 1 ≤ k ∧ k ≤ 255 := by
  have hm := List.mem_of_getElem? h
  have h1 := hB b hm
  have h2 := hN b hm
  exact ⟨b.toNat, by omega, by omega, by omega⟩
end Sb
/-! TwS: rules that we lack elsewhere: a statement that is never come to; enumerate over rows, counted from any number; the sum of a row. -/
namespace Tw
open PySem PySem.Spec PyProof.Rows L2

section
variable {X : Cx} {st : Stmt} {sts : List Stmt}
theorem ps_dead : PS X st (fun _ _ _ => False) := ⟨fun _ _ _ _ _ _ no => no.elim⟩
theorem pss_dead : PSs X sts (fun _ _ _ => False) := ⟨fun _ _ _ _ _ _ no => no.elim⟩
/-- a statement and what follows, by a word M that stands between -/
def tMid (t u : TS) : TS := fun D σ H => ∃ M : L2.St → Hp → Prop, t { D with nx := M } σ H ∧ ∀ σ1 H1, M σ1 H1 → u D σ1 H1
theorem pss_mid {t u : TS} (h1 : PS X st t) (h2 : PSs X sts u) : PSs X (st :: sts) (tMid t u) := by
  refine ⟨fun pins sh σ H D I hh => ?_⟩
  obtain ⟨M, ht, hu⟩ := hh
  refine wpAny_execs_cons (thn (h1.run pins sh σ H { D with nx := M } I ht) fun fl s1 q => ?_)
  cases fl with
  | next => exact q.elim fun σ1 q => q.elim fun H1 q => h2.run pins s1 σ1 H1 D q.1 (hu σ1 H1 q.2)
  | _ => exact q
end

/-! ### a built-in class called with keywords -/
section
variable {Mo : Model} {Ar : Around} {Ex : Value → Shared → Prop} {sh : Shared} {en : Env}
theorem tyCall_kw {ps : Pos} {T : String} {a : Expr} {as : List Expr} {ks : List Keyword} {Qv : Value → Shared → Prop}
    (go : wpAny Mo Ar (spliced (backTo ps (starEach (a :: as) en))) (fun us s1 => wpAny Mo Ar (evalAll ((backToKw ps (keywordEach ks en)).map (·.2))) (fun ws s2 => wpAny Mo Ar (call (.type T) us (((backToKw ps (keywordEach ks en)).filterMap (·.1)).zip ws)) Qv Ex s2) Ex s1) Ex sh)
    (e1 : backTo ps (starEach (a :: as) en) = (false, eval a en) :: backTo ps (starEach as en) := by rfl) (e2 : (backTo ps (starEach (a :: as) en)).any (·.1) = false := by rfl)
    (e3 : (backToKw ps (keywordEach ks en)).all (·.1.isSome) = true := by rfl) (e4 : (backToKw ps (keywordEach ks en)).any (·.1.isNone) = false := by rfl) :
    wpAny Mo Ar (callWith ps (.type T) [] (backTo ps (starEach (a :: as) en)) (backToKw ps (keywordEach ks en))) Qv Ex sh := by
  have ev : wpAny Mo Ar (evalArgs (.type T) true (backTo ps (starEach (a :: as) en)) (backToKw ps (keywordEach ks en))) (fun g s1 => wpAny Mo Ar (call (.type T) ([] ++ g.pos) g.kw) Qv Ex s1) Ex sh := by
    rw [e1] at go ⊢
    exact evalArgs_kwB e3 go
  unfold callWith
  refine wpAny_bind (wpAny_holding (wpAny_mono ev (fun g s1 hg => wpAny_bind (wpAny_standAt ?_)) fun _ _ z => z))
  simp only [e2, e4, Bool.or_false]
  exact wpAny_bind (wpAny_pure (wpAny_bind (wpAny_mono hg (fun r s2 hr => wpAny_bind (wpAny_holding (wpAny_point (wpAny_pure hr)))) fun _ _ z => z)))
end

/-! ### enumerate from c on -/
/-- the list at a, counted from c -/
def IteC (K : PySem.W.Frag) (a : Addr) (c : Int) : It where
  go := fun i H => ∃ (ys : List V) (y : V), SqL K H a ys ∧ ys[i]? = some y
  yld := fun i H v H' => ∃ T y, v = .ref T ∧ H T = none ∧ H' = upd H T (.tup [.int (c + (i : Nat)), y]) ∧ ∀ ys, SqL K H a ys → ys[i]? = some y
  stop := fun i H => ∃ ys : List V, SqL K H a ys ∧ ys.length = i
/-- the tuple at a -/
def ItuC (K : PySem.W.Frag) (a : Addr) (c : Int) : It where
  go := fun i H => ∃ (ys : List V) (y : V), SqT K H a ys ∧ ys[i]? = some y
  yld := fun i H v H' => ∃ T y, v = .ref T ∧ H T = none ∧ H' = upd H T (.tup [.int (c + (i : Nat)), y]) ∧ ∀ ys, SqT K H a ys → ys[i]? = some y
  stop := fun i H => ∃ ys : List V, SqT K H a ys ∧ ys.length = i

theorem turn_enC {P : Program} {w : World} {K : PySem.W.Frag} {es : List Expr} {kx : Nat} {tp : Pos} (a e it : Addr) (c : Int) :
    Turn P w K (.Tuple es kx tp) (IteC K a c) [e, it] e (fun i h => (∃ old, IsEnum h e it (c + (i : Nat)) old) ∧ h.IsListIter it a i ∧ e ≠ it) where
  mem := by simp
  obj := by
    rintro i h ⟨⟨old, h1⟩, ⟨o, h2, _, h3⟩, _⟩ b hb
    rcases (show b = e ∨ b = it by simpa using hb) with rfl | rfl
    · exact ⟨_, h1, fun v q => nomatch q⟩
    · exact ⟨o, h2, fun v q => by rw [h3] at q; cases q⟩
  keep := by
    rintro i h h' ⟨⟨old, h1⟩, h2, h3⟩ k
    exact ⟨⟨old, k e (by simp) _ h1⟩, h2.at fun o q => k it (by simp) o q, h3⟩
  item := by
    rintro X rfl rfl rfl cm i pins s σ H E I ff ⟨⟨old, h1⟩, h2, h3⟩ ⟨ys, y, h4, h5⟩
    obtain ⟨us, rv, pl, hz⟩ := I.list h4
    obtain ⟨u, hu, ru⟩ := rv.get h5
    have le : e < s.heap.objs.size := Heap.lt_size h1
    have li : it < s.heap.objs.size := by obtain ⟨_, q, _⟩ := h2; exact Heap.lt_size q
    have na : a ≠ it := fun z => by
      obtain ⟨o, q, q2, _⟩ := h2
      obtain ⟨o3, q3, q4, _⟩ := pl.isList
      rw [← z, q3] at q
      cases q
      rw [q4] at q2
      injection q2 with q2
      exact absurd q2 (by decide)
    have nea : e ≠ a := fun z => by
      obtain ⟨o3, q3, q4, _⟩ := pl.isList
      rw [← z, show s.heap.get? e = _ from h1] at q3
      cases q3
      injection q4 with q4
      exact absurd q4 (by decide)
    have ul : i < us.toArray.size := by
      have := (List.getElem?_eq_some_iff.mp hu).1
      simpa using this
    refine wpAny_pyNext_enum_itemC (Draws.list (A := X.A.in1) (I.ok.hd cm) it a na us.toArray) h1 ⟨h2, pl.isList⟩ ul h3 (fun q => ?_) fun x h' tk hx ho st hT hsz hk => ?_
    · rcases (show e = it ∨ e = a by simpa using q) with q | q
      · exact h3 q
      · exact nea q
    obtain rfl : x = u := by
      have q : us.toArray[i]? = some x := hx
      rw [List.getElem?_toArray, hu] at q
      cases q
      rfl
    refine ⟨_, rfl, wpAny_letOwnedTupleGo_enum (s := { s with heap := h', toks := tk + 1 }) ho fun h'' he' sb => ?_⟩
    have hT2 : h''.get? s.heap.objs.size = some { cls := .type "tuple", data := .seq #[.int (c + (i : Nat)) tk, x] } := (sb.2 _ (Nat.ne_of_gt le)).trans hT
    have nw : ObjOk X.prog X.w (upd H s.heap.objs.size (.tup [.int (c + (i : Nat)), y])) h'' s.heap.objs.size (.tup [.int (c + (i : Nat)), y]) :=
      ⟨by show 2 ≤ sizeLine; decide, [.int (c + (i : Nat)) tk, x], .cons ⟨_, rfl⟩ (.cons ru .nil), ⟨_, hT2, rfl, _, rfl⟩⟩
    have I1 : Inv X pins σ (upd H s.heap.objs.size (.tup [.int (c + (i : Nat)), y])) { s with heap := h'', toks := tk + 1 } :=
      I.turnedNew (ch := [e, it]) (fun b ob hb q => (sb.2 b (fun z => hb (by simp [z]))).trans (hk b ob (fun z => hb (by simp [z])) (fun z => hb (by simp [z])) q)) ff (Nat.le_refl _) nw
    refine ⟨.ref s.heap.objs.size, _, I1, rfl, ⟨_, y, rfl, I.hok.fresh (Nat.le_refl _), rfl, fun zs hz' => by rw [I.list_inj hz' h4]; exact h5⟩, ⟨⟨x, ?_⟩, st.1.at fun o q => (sb.2 it h3.symm).trans q, h3⟩, fun b hb => ?_⟩
    · rw [show (c + ((i + 1 : Nat) : Int)) = c + (i : Int) + 1 by omega]
      exact he'
    · have lb : b < s.heap.objs.size := by
        rcases (show b = e ∨ b = it by simpa using hb) with rfl | rfl
        · exact le
        · exact li
      rw [upd_ne (Nat.ne_of_lt lb)]
      exact (ff b hb).1
  done := by
    rintro X rfl rfl rfl cm i pins s σ H E I ff ⟨⟨old, h1⟩, h2, h3⟩ ⟨ys, h4, h5⟩
    obtain ⟨us, rv, pl, hz⟩ := I.list h4
    obtain ⟨f0, f1, f2, f3, f4, f5⟩ := ff it (by simp)
    have na : a ≠ it := fun z => by
      obtain ⟨o, q, q2, _⟩ := h2
      obtain ⟨o3, q3, q4, _⟩ := pl.isList
      rw [← z, q3] at q
      cases q
      rw [q4] at q2
      injection q2 with q2
      exact absurd q2 (by decide)
    have hl := rv.length
    have hn : us.toArray.size = i := by
      rw [List.size_toArray]
      omega
    have h2' : s.heap.IsListIter it a us.toArray.size := by
      rw [hn]
      exact h2
    exact wpAny_pyNext_enum_endD (Draws.list (A := X.A.in1) (I.ok.hd cm) it a na us.toArray) h1 ⟨h2', pl.isList⟩ fun h' eb => ⟨rfl, I.turned (t' := s.toks) (fun b o hb q => eb b o hb q) f0 f1 f3 f4 f5⟩
  self := by
    rintro A i s Q E ⟨⟨old, h1⟩, _⟩ h
    exact wpAny_pyIter_enum h1 h
theorem turn_enT {P : Program} {w : World} {K : PySem.W.Frag} {es : List Expr} {kx : Nat} {tp : Pos} (a e it : Addr) (c : Int) :
    Turn P w K (.Tuple es kx tp) (ItuC K a c) [e, it] e (fun i h => (∃ old, IsEnum h e it (c + (i : Nat)) old) ∧ h.IsTupleIter it a i ∧ e ≠ it) where
  mem := by simp
  obj := by
    rintro i h ⟨⟨old, h1⟩, ⟨o, h2, _, h3⟩, _⟩ b hb
    rcases (show b = e ∨ b = it by simpa using hb) with rfl | rfl
    · exact ⟨_, h1, fun v q => nomatch q⟩
    · exact ⟨o, h2, fun v q => by rw [h3] at q; cases q⟩
  keep := by
    rintro i h h' ⟨⟨old, h1⟩, h2, h3⟩ k
    exact ⟨⟨old, k e (by simp) _ h1⟩, h2.at fun o q => k it (by simp) o q, h3⟩
  item := by
    rintro X rfl rfl rfl cm i pins s σ H E I ff ⟨⟨old, h1⟩, h2, h3⟩ ⟨ys, y, h4, h5⟩
    obtain ⟨us, rv, pl, hz⟩ := I.tuple h4
    obtain ⟨u, hu, ru⟩ := rv.get h5
    have le : e < s.heap.objs.size := Heap.lt_size h1
    have li : it < s.heap.objs.size := by obtain ⟨_, q, _⟩ := h2; exact Heap.lt_size q
    have na : a ≠ it := fun z => by
      obtain ⟨o, q, q2, _⟩ := h2
      obtain ⟨o3, q3, q4, _⟩ := pl
      rw [← z, q3] at q
      cases q
      rw [q4] at q2
      injection q2 with q2
      exact absurd q2 (by decide)
    have nea : e ≠ a := fun z => by
      obtain ⟨o3, q3, q4, _⟩ := pl
      rw [← z, show s.heap.get? e = _ from h1] at q3
      cases q3
      injection q4 with q4
      exact absurd q4 (by decide)
    have ul : i < us.toArray.size := by
      have := (List.getElem?_eq_some_iff.mp hu).1
      simpa using this
    refine wpAny_pyNext_enum_itemC (Draws.tuple (A := X.A.in1) (I.ok.hd cm) it a na us.toArray) h1 ⟨h2, pl⟩ ul h3 (fun q => ?_) fun x h' tk hx ho st hT hsz hk => ?_
    · rcases (show e = it ∨ e = a by simpa using q) with q | q
      · exact h3 q
      · exact nea q
    obtain rfl : x = u := by
      have q : us.toArray[i]? = some x := hx
      rw [List.getElem?_toArray, hu] at q
      cases q
      rfl
    refine ⟨_, rfl, wpAny_letOwnedTupleGo_enum (s := { s with heap := h', toks := tk + 1 }) ho fun h'' he' sb => ?_⟩
    have hT2 : h''.get? s.heap.objs.size = some { cls := .type "tuple", data := .seq #[.int (c + (i : Nat)) tk, x] } := (sb.2 _ (Nat.ne_of_gt le)).trans hT
    have nw : ObjOk X.prog X.w (upd H s.heap.objs.size (.tup [.int (c + (i : Nat)), y])) h'' s.heap.objs.size (.tup [.int (c + (i : Nat)), y]) :=
      ⟨by show 2 ≤ sizeLine; decide, [.int (c + (i : Nat)) tk, x], .cons ⟨_, rfl⟩ (.cons ru .nil), ⟨_, hT2, rfl, _, rfl⟩⟩
    have I1 : Inv X pins σ (upd H s.heap.objs.size (.tup [.int (c + (i : Nat)), y])) { s with heap := h'', toks := tk + 1 } :=
      I.turnedNew (ch := [e, it]) (fun b ob hb q => (sb.2 b (fun z => hb (by simp [z]))).trans (hk b ob (fun z => hb (by simp [z])) (fun z => hb (by simp [z])) q)) ff (Nat.le_refl _) nw
    refine ⟨.ref s.heap.objs.size, _, I1, rfl, ⟨_, y, rfl, I.hok.fresh (Nat.le_refl _), rfl, fun zs hz' => by rw [I.tuple_inj hz' h4]; exact h5⟩, ⟨⟨x, ?_⟩, st.1.at fun o q => (sb.2 it h3.symm).trans q, h3⟩, fun b hb => ?_⟩
    · rw [show (c + ((i + 1 : Nat) : Int)) = c + (i : Int) + 1 by omega]
      exact he'
    · have lb : b < s.heap.objs.size := by
        rcases (show b = e ∨ b = it by simpa using hb) with rfl | rfl
        · exact le
        · exact li
      rw [upd_ne (Nat.ne_of_lt lb)]
      exact (ff b hb).1
  done := by
    rintro X rfl rfl rfl cm i pins s σ H E I ff ⟨⟨old, h1⟩, h2, h3⟩ ⟨ys, h4, h5⟩
    obtain ⟨us, rv, pl, hz⟩ := I.tuple h4
    obtain ⟨f0, f1, f2, f3, f4, f5⟩ := ff it (by simp)
    have na : a ≠ it := fun z => by
      obtain ⟨o, q, q2, _⟩ := h2
      obtain ⟨o3, q3, q4, _⟩ := pl
      rw [← z, q3] at q
      cases q
      rw [q4] at q2
      injection q2 with q2
      exact absurd q2 (by decide)
    have hl := rv.length
    have hn : us.toArray.size = i := by
      rw [List.size_toArray]
      omega
    have h2' : s.heap.IsTupleIter it a us.toArray.size := by
      rw [hn]
      exact h2
    exact wpAny_pyNext_enum_endD (Draws.tuple (A := X.A.in1) (I.ok.hd cm) it a na us.toArray) h1 ⟨h2', pl⟩ fun h' eb => ⟨rfl, I.turned (t' := s.toks) (fun b o hb q => eb b o hb q) f0 f1 f3 f4 f5⟩
  self := by
    rintro A i s Q E ⟨⟨old, h1⟩, _⟩ h
    exact wpAny_pyIter_enum h1 h

/-! ### enumerate(v), enumerate(v, start=k): how the walk begins -/
set_option maxHeartbeats 1000000 in
theorem meets_en1 {v : Value} {o : Obj} {Hh : Heap → Prop} (B : Begins v o Hh) :
    Meets (Builtin.«enumerate.__new__» ⟨[.type "enumerate", v], []⟩) (fun _ R z => Hh z.heap ∧
      R (.ok (.ret (.ref (z.heap.push o).objs.size))) { z with heap := (z.heap.push o).push { cls := .type "enumerate", data := .fields #[.none, .bool false, .ref z.heap.objs.size, rawInt 0, .none, .none] } }) := by
  refine .of_wp fun pg wo Ar R z hz => ?_
  obtain ⟨hp, g, d, tk, os⟩ := z
  obtain ⟨h1, h⟩ := hz
  have hsub := sub_enumerate
  have begin1 : ∀ {A' : Around} {E' : Value → Shared → Prop} {Q' : Value → Shared → Prop}, Q' (.ref hp.objs.size) ⟨hp.push o, g, d, tk, os⟩ → wpAny (model pg wo) A' (pyIter v) Q' E' ⟨hp, g, d, tk, os⟩ :=
    fun q => B.iter pg wo _ _ ⟨hp, g, d, tk, os⟩ _ h1 q
  wp_walk using begin1
  refine wpAny_stack_any fun stk => wpAny_pure ?_
  split
  · rename_i c _ _ _ _ _
    cases hc : (c == Value.type "enumerate") <;> (wp_walk using begin1; exact ⟨_, rfl, h⟩)
  · wp_walk using begin1
    exact ⟨_, rfl, h⟩
section
variable {pg : Program} {wo : World} {Ar : Around} {Ex : Value → Shared → Prop} {sh : Shared}
theorem en1_begins {v : Value} {o : Obj} {Hh : Heap → Prop} {Q : Value → Shared → Prop} (B : Begins v o Hh) (h1 : Hh sh.heap)
    (h : ∀ h', IsEnum h' (sh.heap.objs.size + 1) sh.heap.objs.size 0 .none → h'.get? sh.heap.objs.size = some o → (∀ b u, sh.heap.get? b = some u → h'.get? b = some u) → Q (.ref (sh.heap.objs.size + 1)) { sh with heap := h' }) :
    wpAny (model pg wo) Ar (call (.type "enumerate") [v]) Q Ex sh := by
  refine callType_new F.called_enumerate (by decide) (F.typeCall_enumerate_1 _) (F.newCall_enumerate_1 _) (fun obj => F.args_object_init_2 obj _) F.entry_enumerate_new (meets_en1 B) ⟨h1, ?_⟩
  have sz : (sh.heap.push o).objs.size = sh.heap.objs.size + 1 := Heap.size_push ..
  show _ ∧ _
  rw [sz]
  have ie : IsEnum ((sh.heap.push o).push { cls := .type "enumerate", data := .fields #[.none, .bool false, .ref sh.heap.objs.size, rawInt 0, .none, .none] }) (sh.heap.objs.size + 1) sh.heap.objs.size 0 .none := by
    have q := Heap.get?_push_size (sh.heap.push o) (o := { cls := .type "enumerate", data := .fields #[.none, .bool false, .ref sh.heap.objs.size, rawInt 0, .none, .none] }) rfl
    rw [sz] at q
    exact q
  exact ⟨⟨_, ie, rfl⟩, h _ ie (Heap.get?_push_of_some _ (Heap.get?_push_size _ B.free)) fun b u x => Heap.get?_push_of_some _ (Heap.get?_push_of_some _ x)⟩
end

/-- a row at a, list or tuple -/
def SqR (K : PySem.W.Frag) (H : Hp) (a : Addr) (xs : List V) : Prop := SqL K H a xs ∨ SqT K H a xs
theorem SqR.same {K : PySem.W.Frag} {H H' : Hp} {a : Addr} {xs : List V} (e : Same H H') (h : SqR K H a xs) : SqR K H' a xs := by
  rcases h with h | h
  · exact .inl (e.seq h)
  · exact .inr (Same.tupq e h)
/-- enumerate of a list or a tuple, counted from c: as one iterator -/
def ItrC (K : PySem.W.Frag) (a : Addr) (c : Int) (tup : Bool) : It := if tup = true then ItuC K a c else IteC K a c
def iEnC (K : PySem.W.Frag) (ta : TA) : TI := fun σ H R => ta σ H fun vs H1 => ∃ a xs, vs = [.ref a] ∧ SqR K H1 a xs ∧ ∀ b, (b = true → SqT K H1 a xs) → (b = false → SqL K H1 a xs) → R (ItrC K a 0 b) H1
def iEnK (K : PySem.W.Frag) (ta tk : TA) : TI := fun σ H R => ta σ H fun vs H1 => tk σ H1 fun zs H2 => ∃ a c xs, vs = [.ref a] ∧ zs = [.int c] ∧ (-(2 ^ 63) ≤ c ∧ c < 2 ^ 63) ∧ SqR K H2 a xs ∧ ∀ b, (b = true → SqT K H2 a xs) → (b = false → SqL K H2 a xs) → R (ItrC K a c b) H2
section
variable {X : Cx} {pins : List (Addr × Obj)} {σ : L2.St} {H : Hp} {s : Shared} {R : It → Hp → Prop} {es : List Expr} {kx : Nat} {tp : Pos}
theorem en_pie {a : Addr} {c : Int} {b : Bool} {h' : Heap} (I : Inv X pins σ H s) (hne : a < s.heap.objs.size)
    (he : IsEnum h' (s.heap.objs.size + 1) s.heap.objs.size c .none) (hi : if b = true then h'.IsTupleIter s.heap.objs.size a 0 else h'.IsListIter s.heap.objs.size a 0) (hk : ∀ z u, s.heap.get? z = some u → h'.get? z = some u)
    (q : R (ItrC X.K a c b) H) : wpAny (model X.prog X.w) X.A (pyIter (.ref (s.heap.objs.size + 1))) (PIE X pins σ (.Tuple es kx tp) R) X.xe { s with heap := h' } := by
  refine wpAny_pyIter_enum he ?_
  have I2 : Inv X pins σ H { s with heap := h' } := I.kept (t' := s.toks) hk
  have fp : ∀ z ∈ [s.heap.objs.size + 1, s.heap.objs.size], FpOk X pins H z := fun z hz => by
    have le : s.heap.objs.size ≤ z := by
      rcases (show z = s.heap.objs.size + 1 ∨ z = s.heap.objs.size by simpa using hz) with r | r <;> omega
    exact I.fpOk le (I.hok.fresh le)
  have he0 : IsEnum h' (s.heap.objs.size + 1) s.heap.objs.size (c + ((0 : Nat) : Int)) .none := by
    rw [show c + ((0 : Nat) : Int) = c by omega]
    exact he
  cases b with
  | true => exact ⟨s.heap.objs.size + 1, [s.heap.objs.size + 1, s.heap.objs.size], _, ItuC X.K a c, H, rfl, I2, turn_enT a _ _ c, ⟨⟨.none, he0⟩, hi, Nat.succ_ne_self _⟩, fp, q⟩
  | false => exact ⟨s.heap.objs.size + 1, [s.heap.objs.size + 1, s.heap.objs.size], _, IteC X.K a c, H, rfl, I2, turn_enC a _ _ c, ⟨⟨.none, he0⟩, hi, Nat.succ_ne_self _⟩, fp, q⟩
theorem pi_en {e : Expr} {ta : TA} {p pos : Pos} (hg : Gl X "enumerate") (hm : X.mg "enumerate" = none) (ha : PA X [e] ta) (hs : starEach [e] X.env = [(false, eval e X.env)] := by rfl) :
    PI X (.Tuple es kx tp) (.Call (.Name "enumerate" p) [e] [] pos) (iEnC X.K ta) := by
  refine ⟨fun pins s σ H R I h => Call_ (ld_blt I hg hm boot_enumerate (PyProof.Rows.callWith_type1 (thn (ha.run pos pins s σ H _ I h) fun us s1 hh => ?_) hs rfl))⟩
  obtain ⟨vs, H1, I1, rv, a, xs, rfl, hr, q⟩ := hh
  rw [Vals.ref1 rv]
  rcases hr with hr | hr
  · obtain ⟨its, _, pl, _⟩ := I1.list hr
    have lt : a < s1.heap.objs.size := by obtain ⟨_, z, _⟩ := pl.isList; exact Heap.lt_size z
    exact en1_begins (begins_list a its.toArray) pl.isList fun h' he hi hk => en_pie (b := false) I1 lt he ⟨_, hi, rfl, rfl⟩ hk (q false (fun z => nomatch z) fun _ => hr)
  · obtain ⟨its, _, pl, _⟩ := I1.tuple hr
    have lt : a < s1.heap.objs.size := by obtain ⟨_, z, _⟩ := pl; exact Heap.lt_size z
    exact en1_begins (begins_tuple a its.toArray) pl fun h' he hi hk => en_pie (b := true) I1 lt he ⟨_, hi, rfl, rfl⟩ hk (q true (fun _ => hr) fun z => nomatch z)
theorem pi_enK {e : Expr} {ta tk : TA} {p pos : Pos} {kws : List Keyword} (hg : Gl X "enumerate") (hm : X.mg "enumerate" = none) (ha : PA X [e] ta) (hk : PK X kws tk) (hks : (backToKw pos (keywordEach kws X.env)).filterMap (·.1) = [Str.ofString "start"] := by rfl)
    (e1 : backTo pos (starEach [e] X.env) = (false, eval e X.env) :: backTo pos (starEach [] X.env) := by rfl) (e2 : (backTo pos (starEach [e] X.env)).any (·.1) = false := by rfl)
    (e3 : (backToKw pos (keywordEach kws X.env)).all (·.1.isSome) = true := by rfl) (e4 : (backToKw pos (keywordEach kws X.env)).any (·.1.isNone) = false := by rfl) :
    PI X (.Tuple es kx tp) (.Call (.Name "enumerate" p) [e] kws pos) (iEnK X.K ta tk) := by
  refine ⟨fun pins s σ H R I h => wpAny_Call_Name_kw (ld_blt I hg hm boot_enumerate (tyCall_kw (thn (ha.run pos pins s σ H _ I h) fun us s1 ⟨vs, H1, I1, r1, q1⟩ => thn (hk.run pos pins s1 σ H1 _ I1 q1) fun ws s2 hh => ?_) e1 e2 e3 e4))⟩
  obtain ⟨zs, H2, I2, r2, a, c, xs, rfl, rfl, hc, hr, q⟩ := hh
  rw [hks, Vals.ref1 r1]
  cases r2 with
  | cons r rr =>
    cases rr
    obtain ⟨t, rfl⟩ := r
    show wpAny _ _ (call (.type "enumerate") [.ref a] [(Str.ofString "start", .int c t)]) _ _ _
    rcases hr with hr | hr
    · obtain ⟨its, _, pl, _⟩ := I2.list hr
      have lt : a < s2.heap.objs.size := by obtain ⟨_, z, _⟩ := pl.isList; exact Heap.lt_size z
      exact enum_begins_start (begins_list a its.toArray) pl.isList hc.1 hc.2 fun h' he hi _ hk => en_pie (b := false) I2 lt he ⟨_, hi, rfl, rfl⟩ hk (q false (fun z => nomatch z) fun _ => hr)
    · obtain ⟨its, _, pl, _⟩ := I2.tuple hr
      have lt : a < s2.heap.objs.size := by obtain ⟨_, z, _⟩ := pl; exact Heap.lt_size z
      exact enum_begins_start (begins_tuple a its.toArray) pl hc.1 hc.2 fun h' he hi _ hk => en_pie (b := true) I2 lt he ⟨_, hi, rfl, rfl⟩ hk (q true (fun _ => hr) fun z => nomatch z)
end
theorem walk_enC {K : PySem.W.Frag} {a : Addr} {xs : List V} {c : Int} {b : Bool} : Walk (ItrC K a c b) xs.length (fun H => if b = true then SqT K H a xs else SqL K H a xs) (YPair (fun i => some (.int (c + (i : Nat)))) (fun i => xs[i]?)) := by
  cases b with
  | true =>
    refine ⟨fun i _ hi q => ⟨xs, xs[i], q, by simp [hi]⟩, fun _ q => ⟨xs, q, rfl⟩, fun i H v H' _ q y => ?_⟩
    obtain ⟨T, x, y1, y2, y3, y4⟩ := y
    exact ⟨T, .int (c + (i : Nat)), x, y1, y2, y3, rfl, y4 xs q⟩
  | false =>
    refine ⟨fun i _ hi q => ⟨xs, xs[i], q, by simp [hi]⟩, fun _ q => ⟨xs, q, rfl⟩, fun i H v H' _ q y => ?_⟩
    obtain ⟨T, x, y1, y2, y3, y4⟩ := y
    exact ⟨T, .int (c + (i : Nat)), x, y1, y2, y3, rfl, y4 xs q⟩

/-! ### sum of a row -/
def rSumR (K : PySem.W.Frag) : List V → Hp → VK → Prop := fun vs H Q => ∃ (a : Addr) (ns : List Int), vs = [V.ref a] ∧ SqR K H a (ns.map V.int) ∧ Q (.int ns.sum) H
section
variable {X : Cx}
theorem tup_sum {pg : Program} {wo : World} {Ar : Around} {Ex : Value → Shared → Prop} {sh : Shared} {l : Addr} {its : List Value} {ns : List Int} {Q : Value → Shared → Prop} (hh : Ar.handled = none) (hl : sh.heap.IsTuple l its.toArray) (hi : IntsAre its ns)
    (h : ∀ h' tk t', (∀ b o, sh.heap.get? b = some o → h'.get? b = some o) → Q (.int ns.sum t') { sh with heap := h', toks := tk }) : wpAny (model pg wo) Ar (call (.builtin "sum") [.ref l]) Q Ex sh := by
  obtain ⟨xs, e⟩ := hi.allInts.items
  have hn : numsOf (intItems xs).toList = ns := by
    rw [← e]
    exact hi.numsOf
  rw [nums_intItems] at hn
  rw [e] at hl
  have lt : l < sh.heap.objs.size := by obtain ⟨_, z, _⟩ := hl; exact Heap.lt_size z
  refine call_sum_walkG (wpAny_pyIter_tuple hl ?_)
  have t1 : (sh.heap.push { cls := .type "tuple_iterator", data := .fields #[.ref l, .int 0 0] }).IsTupleIter sh.heap.objs.size l 0 := ⟨_, Heap.get?_push_size _ rfl, rfl, rfl⟩
  refine ⟨_, [_, l], [_], _, _, _, numAt xs, rfl, Walks.tuple (A := Ar.in1) hh _ l (Nat.ne_of_lt lt) (intItems xs), ⟨t1, hl.push _⟩, fun b hb => ?_, fun _ _ => intItems_at, fun h' tk t' hk => ?_⟩
  · show b < (sh.heap.push _).objs.size
    rw [Heap.size_push]
    rcases (show b = sh.heap.objs.size ∨ b = l by simpa using hb) with r | r
    · rw [r]; exact Nat.lt_succ_self _
    · rw [r]; exact Nat.lt_succ_of_lt lt
  · have kept : ∀ b o, sh.heap.get? b = some o → h'.get? b = some o := fun b o q => by
      refine hk b o (fun m => ?_) (Heap.get?_push_of_some _ q)
      have z : b = sh.heap.objs.size := by simpa using m
      exact absurd (z ▸ Heap.lt_size q) (Nat.lt_irrefl _)
    have fin := h h' tk t' kept
    rw [preSum_eq]
    have e3 : (intItems xs).size = xs.size := by simp [intItems]
    rw [e3, List.take_of_length_le (by simp), hn]
    exact fin
theorem cr_sumR (cm : X.calm = true) : CallR X (.builtin "sum") (rSumR X.K) := by
  rintro pins s σ H vs us Q I r ⟨a, ns, rfl, hs, q⟩
  rw [Vals.ref1 r]
  rcases hs with hs | hs
  · obtain ⟨its, rv, hl, _⟩ := I.list hs
    exact sum_raw (I.ok.hd cm) hl.isList rv.ints fun h' tk t' hk => ⟨.int _, H, I.kept hk, ⟨_, rfl⟩, q⟩
  · obtain ⟨its, rv, hl, _⟩ := I.tuple hs
    exact tup_sum (I.ok.hd cm) hl rv.ints fun h' tk t' hk => ⟨.int _, H, I.kept hk, ⟨_, rfl⟩, q⟩
end
end Tw
/-! TwO: methods and makings by name; rows; the law's state of draws; what is told of a stream, in the heap. -/
namespace Tw
open PySem PySem.Spec PyProof.Rows L2 Sb

/-- no built-in's name is the module's own -/
structure Bt (mg : Str → Option Value) : Prop where
  n_isinstance : mg "isinstance" = none
  n_int : mg "int" = none
  n_bool : mg "bool" = none
  n_str : mg "str" = none
  n_list : mg "list" = none
  n_tuple : mg "tuple" = none
  n_len : mg "len" = none
  n_all : mg "all" = none
  n_sum : mg "sum" = none
  n_range : mg "range" = none
  n_zip : mg "zip" = none
  n_enumerate : mg "enumerate" = none
def NoB (K : PySem.W.Frag) : Prop := ∀ x ∈ (["isinstance", "int", "bool", "str", "list", "tuple", "len", "all", "sum", "range", "zip", "enumerate"] : List Str), PySem.W.nsIn K mainGlobals x = some none
theorem bt_mk {K : PySem.W.Frag} {h : Heap} {mg : Str → Option Value} (X : K.In h) (G : h.Ns mainGlobals mg) (n : NoB K) : Bt mg := by
  constructor <;> exact PySem.W.mg_none_of X G (n _ (by simp))

/-! ### methods -/
def MethIn (K : PySem.W.Frag) (C : Addr) (m q : Str) (st : Stmt) : Prop := ∃ (f : Addr) (oc : Value) (od an : Option Addr) (osl : Array (Option Value)) (kV dc pm cd ct : Value),
  PySem.W.findIn K (.ref C) m = some (some (.ref f)) ∧ PySem.W.isFn K (.ref f) = true ∧ K.lookup f = some ⟨oc, od, .func (PySem.W.fnOf m q (defArgs st) (defBody st) (defScope st) .none kV dc pm an cd ct), osl⟩ ∧ PySem.W.codeIn K cd q = true ∧ PySem.W.keepIn K (.ref f) = true
section
variable {P : Program} {w : World} {K : PySem.W.Frag} {mg : Str → Option Value} {base : Heap} {C : Addr} {m q : Str} {st : Stmt} {ps : List Str} {k : Nat} {sp : Sp}
theorem methIn_mk {f : Addr} {oc : Value} {od an : Option Addr} {osl : Array (Option Value)} {kV dc pm cd ct : Value} (a : PySem.W.findIn K (.ref C) m = some (some (.ref f))) (i : PySem.W.isFn K (.ref f) = true)
    (l : K.lookup f = some ⟨oc, od, .func (PySem.W.fnOf m q (defArgs st) (defBody st) (defScope st) .none kV dc pm an cd ct), osl⟩) (c : PySem.W.codeIn K cd q = true) (kp : PySem.W.keepIn K (.ref f) = true) : MethIn K C m q st := ⟨f, oc, od, an, osl, kV, dc, pm, cd, ct, a, i, l, c, kp⟩
structure MCal (P : Program) (w : World) (K : PySem.W.Frag) (mg : Str → Option Value) (base : Heap) (C : Addr) (k : Nat) (m : Str) (ps : List Str) (sp : Sp) : Prop where
  ex : ∃ (f : Addr) (fd : FuncData), Meth K C m f ∧ FnOk P w K mg base CX0 k f fd ps sp ∧ Binds K fd ps []
theorem mcal_mk (D : MethIn K C m q st) (b : ∀ (kV doc pm : Value) (an : Option Addr) (cdv ct : Value) (us : List Value), us.length = ps.length → bindArgs (PySem.W.fnOf m q (defArgs st) (defBody st) (defScope st) .none kV doc pm an cdv ct) ⟨us, []⟩ = pure (ps.zip us))
    (ok : ∀ (f : Addr) (fd : FuncData), Fun K m q st f fd → FnOk P w K mg base CX0 k f fd ps sp) : MCal P w K mg base C k m ps sp := by
  obtain ⟨f, oc, od, an, osl, kV, dc, pm, cd, ct, a, i, l, c, kp⟩ := D
  have F := fun_mk (st := st) l c kp
  exact ⟨f, _, ⟨a, i, kp⟩, ok f _ F, F.binds b⟩
/-- C(), C's __init__ with self alone -/
structure MkC (P : Program) (w : World) (K : PySem.W.Frag) (mg : Str → Option Value) (base : Heap) (C : Addr) (k : Nat) (x : Str) (sp : Sp) : Prop where
  ex : ∃ (f : Addr) (fd : FuncData), Mk K C f ∧ FnOk P w K mg base CX0 k f fd ["self"] sp ∧ Binds K fd ["self"] []
  gC : mg x = some (.ref C)
theorem mkC_mk {h : Heap} {x : Str} (X : K.In h) (G : h.Ns mainGlobals mg) (g : PySem.W.nsIn K mainGlobals x = some (some (.ref C))) (D : MethIn K C "__init__" q st) (mk : PySem.W.makesIn K C = true) (kc : PySem.W.keepIn K (.ref C) = true)
    (b : ∀ (kV doc pm : Value) (an : Option Addr) (cdv ct : Value) (us : List Value), us.length = (["self"] : List Str).length → bindArgs (PySem.W.fnOf "__init__" q (defArgs st) (defBody st) (defScope st) .none kV doc pm an cdv ct) ⟨us, []⟩ = pure ((["self"] : List Str).zip us))
    (ok : ∀ (f : Addr) (fd : FuncData), Fun K "__init__" q st f fd → FnOk P w K mg base CX0 k f fd ["self"] sp) : MkC P w K mg base C k x sp := by
  obtain ⟨f, oc, od, an, osl, kV, dc, pm, cd, ct, a, i, l, c, kp⟩ := D
  have F := fun_mk (st := st) l c kp
  exact ⟨⟨f, _, ⟨mk, a, i, kc⟩, ok f _ F, F.binds b⟩, PySem.W.mg_of X G g⟩
end
section
variable {X : Cx} {j k : Nat} {C : Addr} {m x : Str} {ps : List Str} {sp : Sp} {o e : Expr} {es : List Expr} {to : TE} {t : TA} {pos apos p : Pos}
theorem pe_mcal {pl : Sem Bool} (M : MCal X.prog X.w X.K X.mg X.base C k m ps sp) (c : Cls X.K C) (hr : Room j X.A) (hk : k ≤ j) (ho : PE X o to) (ha : PA X (e :: es) t)
    (hst : starEach (e :: es) X.env = (false, eval e X.env) :: starEach es X.env := by rfl) (hpl : (backTo pos (starEach es X.env)).any (·.1) = false := by rfl)
    (ht : eval (.Call (.Attribute o m apos) (e :: es) [] pos) X.env = (do
      let ov ← eval o X.env
      standAt apos.atName
      let (f, first) ← holding [ov] (getMethod ov m pl)
      callWith pos f first (backTo pos (starEach (e :: es) X.env)) (backToKw pos (keywordEach [] X.env))) := by rfl) : PE X (.Call (.Attribute o m apos) (e :: es) [] pos) (tMeth C m sp [] E0 to t) := by
  obtain ⟨f, fd, hm, F, b⟩ := M.ex
  exact pe_meth ho c hm F (hr.mono hk) b .nil pass0 ha hst hpl ht
theorem pe_mcal0 {pl : Sem Bool} (M : MCal X.prog X.w X.K X.mg X.base C k m ps sp) (c : Cls X.K C) (hr : Room j X.A) (hk : k ≤ j) (ho : PE X o to)
    (ht : eval (.Call (.Attribute o m apos) [] [] pos) X.env = (do
      let ov ← eval o X.env
      standAt apos.atName
      let (f, first) ← holding [ov] (getMethod ov m pl)
      callWith pos f first (backTo pos (starEach [] X.env)) (backToKw pos (keywordEach [] X.env))) := by rfl) : PE X (.Call (.Attribute o m apos) [] [] pos) (tMeth C m sp [] E0 to tNil) := by
  obtain ⟨f, fd, hm, F, b⟩ := M.ex
  exact pe_meth0 ho c hm F (hr.mono hk) b .nil pass0 ht
theorem pe_mk0 (M : MkC X.prog X.w X.K X.mg X.base C k x sp) (hr : Room j X.A) (hk : k + 1 ≤ j) (hg : Gl X x) (hdb : (x == ("__debug__" : Str)) = false := by decide) : PE X (.Call (.Name x p) [] [] pos) (tMake C sp [] E0 tNil) := by
  obtain ⟨f, fd, hm, F, b⟩ := M.ex
  exact pe_make0 hm F (hr.mono hk) hg M.gC b .nil pass0 hdb
/-- either of two readings of what is walked -/
theorem pi_or {tg l : Expr} {a b : TI} (ha : PI X tg l a) (hb : PI X tg l b) : PI X tg l (fun σ H R => a σ H R ∨ b σ H R) := ⟨fun pins s σ H R I h => h.elim (ha.run pins s σ H R I) (hb.run pins s σ H R I)⟩
theorem pe_or2 {l : Expr} {a b : TE} (ha : PE X l a) (hb : PE X l b) : PE X l (fun σ H Q => a σ H Q ∨ b σ H Q) := ⟨fun pins s σ H Q I h => h.elim (ha.run pins s σ H Q I) (hb.run pins s σ H Q I)⟩
end

/-! ### rows -/
abbrev iV (xs : List Int) : List V := xs.map V.int
/-- the row at a -/
def Rw (H : Hp) (a : Addr) (xs : List V) : Prop := H a = some (.lst xs) ∨ H a = some (.tup xs)
theorem Rw.sq {K : PySem.W.Frag} {H : Hp} {a : Addr} {xs : List V} (h : Rw H a xs) : SqR K H a xs := h.elim (fun h => .inl (SqL.of h)) (fun h => .inr (SqT.of h))
theorem Rw.same {H H' : Hp} {a : Addr} {xs : List V} (h : Rw H a xs) (s : Same H H') : Rw H' a xs := h.elim (fun h => .inl (s _ _ h)) (fun h => .inr (s _ _ h))
theorem iV_len (xs : List Int) : (iV xs).length = xs.length := by simp
theorem iV_at {xs : List Int} {i : Nat} {v : V} (h : (iV xs)[i]? = some v) : ∃ b, xs[i]? = some b ∧ v = .int b := by
  rw [List.getElem?_map] at h
  cases e : xs[i]? with
  | none => rw [e] at h; cases h
  | some b => rw [e] at h; cases h; exact ⟨b, rfl, rfl⟩
theorem iV_atI {xs : List Int} {i : Nat} {b : Int} (h : xs[i]? = some b) : atI (iV xs) (i : Int) = some (.int b) := atI_nat (by rw [List.getElem?_map, h]; rfl)
theorem iV_append (xs ys : List Int) : iV (xs ++ ys) = iV xs ++ iV ys := List.map_append
theorem dp_ints {K : PySem.W.Frag} {H : Hp} : ∀ xs : List Int, DpAll K H (iV xs) (xs.map PyData.int)
  | [] => .nil
  | x :: r => .cons (.int x) (dp_ints r)
theorem lay_ints : ∀ xs : List Int, PyData.canLayAll0 (xs.map PyData.int) = true
  | [] => rfl
  | x :: r => by
    show (true && PyData.canLayAll0 (r.map PyData.int)) = true
    rw [lay_ints r]
    rfl
theorem dep_ints : ∀ xs : List Int, PyData.depthAll (xs.map PyData.int) = 0
  | [] => rfl
  | x :: r => by
    show max 0 (PyData.depthAll (r.map PyData.int)) = 0
    rw [dep_ints r]
    rfl
theorem sh_ints (xs : List Int) : SeqAt.shaped (.list (xs.map PyData.int)) = true := by
  unfold SeqAt.shaped
  rw [Bool.and_eq_true]
  refine ⟨lay_ints xs, decide_eq_true ?_⟩
  show PyData.depthAll _ + 1 ≤ 64
  rw [dep_ints]
  decide
theorem eqv_ints : ∀ xs ys : List Int, PyData.eqv (.list (xs.map PyData.int)) (.list (ys.map PyData.int)) = decide (xs = ys) := by
  have go : ∀ xs ys : List Int, PyData.eqvAll (xs.map PyData.int) (ys.map PyData.int) = decide (xs = ys) := by
    intro xs
    induction xs with
    | nil =>
      intro ys
      cases ys with
      | nil => rfl
      | cons y r => simp [PyData.eqvAll]
    | cons x r ih =>
      intro ys
      cases ys with
      | nil => simp [PyData.eqvAll]
      | cons y t =>
        simp only [List.map_cons, PyData.eqvAll, ih]
        by_cases e : x = y
        · subst e
          simp [PyData.eqv]
        · simp [PyData.eqv, e]
  intro xs ys
  have e := go xs ys
  simpa only [PyData.eqv] using e
theorem dpL {K : PySem.W.Frag} {H : Hp} {a : Addr} {xs : List Int} (h : H a = some (.lst (iV xs))) : Dp K H (.ref a) (.list (xs.map PyData.int)) := .lst (SqL.of h) (dp_ints xs)

/-! ### the law's state: a list of the numbers that are left, and three numbers -/
structure IsSt (H : Hp) (a b : Addr) : Prop where
  ne : a ≠ b
  ex : ∃ (ns : List Int) (x y z : Int), H a = some (.lst [.ref b, .int x, .int y, .int z]) ∧ H b = some (.lst (iV ns))
/-- all but the state stays -/
structure Fs (a b : Addr) (H H' : Hp) : Prop where
  keep : ∀ c o, c ≠ a → c ≠ b → H c = some o → H' c = some o
  st : IsSt H' a b
theorem IsSt.same {H H' : Hp} {a b : Addr} (h : IsSt H a b) (s : Same H H') : IsSt H' a b := by
  obtain ⟨ne, ns, x, y, z, e, f⟩ := h
  exact ⟨ne, ns, x, y, z, s _ _ e, s _ _ f⟩
theorem Fs.refl {H : Hp} {a b : Addr} (h : IsSt H a b) : Fs a b H H := ⟨fun _ _ _ _ e => e, h⟩
theorem Fs.trans {a b : Addr} {H H1 H2 : Hp} (f : Fs a b H H1) (g : Fs a b H1 H2) : Fs a b H H2 := ⟨fun c o n m e => g.keep c o n m (f.keep c o n m e), g.st⟩
theorem Fs.same {a b : Addr} {H H1 H2 : Hp} (f : Fs a b H H1) (g : Same H1 H2) : Fs a b H H2 := ⟨fun c o n m e => g c o (f.keep c o n m e), f.st.same g⟩
theorem Fs.of_same {a b : Addr} {H H1 : Hp} (h : IsSt H a b) (g : Same H H1) : Fs a b H H1 := (Fs.refl h).same g
theorem IsSt.na {H : Hp} {a b p : Addr} (h : IsSt H a b) (e : H p = none) : p ≠ a ∧ p ≠ b := by
  obtain ⟨_, _, _, _, _, e1, e2⟩ := h
  constructor
  · intro q
    rw [q, e1] at e
    cases e
  · intro q
    rw [q, e2] at e
    cases e
theorem Fs.free {a b p : Addr} {H H' : Hp} (f : Fs a b H H') (h : IsSt H a b) (e : H' p = none) : H p = none := by
  obtain ⟨n1, n2⟩ := f.st.na e
  cases q : H p with
  | none => rfl
  | some o =>
    rw [f.keep p o n1 n2 q] at e
    cases e
/-- a new thing at p, written later -/
theorem Fs.upd {a b p : Addr} {H H' : Hp} {o : HO} (f : Fs a b H H') (n1 : p ≠ a) (n2 : p ≠ b) (hp : H p = none) : Fs a b H (upd H' p o) := by
  obtain ⟨k, ne, ns, x, y, z, e1, e2⟩ := f
  refine ⟨fun c u m1 m2 e => ?_, ne, ns, x, y, z, ?_, ?_⟩
  · rw [upd_ne (ne_of_none e hp)]
    exact k c u m1 m2 e
  · rw [upd_ne n1.symm]
    exact e1
  · rw [upd_ne n2.symm]
    exact e2
/-- the draw's promise: any number below many -/
def spTake : Sp := fun vs H Q _ => ∃ (a b : Addr) (m : Int), vs = [.ref a, .int m] ∧ IsSt H a b ∧ 0 < m ∧ m < 1180591620717411303424 ∧ ∀ (r : Int) (H' : Hp), 0 ≤ r → r < m → Fs a b H H' → Q (.int r) H'

theorem Fs.kp {a b p : Addr} {H H1 H2 : Hp} {o : HO} (f : Fs a b H1 H2) (h : IsSt H a b) (hp : H p = none) (e : H1 p = some o) : H2 p = some o := f.keep p o (h.na hp).1 (h.na hp).2 e
/-- a list of bytes, new behind H -/
structure Nw (H H' : Hp) (r : Addr) (xs : List Int) : Prop where
  new : H r = none
  at_ : H' r = some (.lst (iV xs))
theorem Nw.st {a b r : Addr} {H H1 H2 : Hp} {xs : List Int} (n : Nw H H1 r xs) (h : IsSt H a b) (f : Fs a b H1 H2) : Nw H H2 r xs := ⟨n.new, f.kp h n.new n.at_⟩
theorem Nw.same {r : Addr} {H H1 H2 : Hp} {xs : List Int} (n : Nw H H1 r xs) (s : Same H1 H2) : Nw H H2 r xs := ⟨n.new, s _ _ n.at_⟩
/-- a function of the state alone that tells a new list of bytes, of at most N -/
def spGen (N : Nat) : Sp := fun vs H Q _ => ∃ (a b : Addr), vs = [.ref a] ∧ IsSt H a b ∧ ∀ (H' : Hp) (r : Addr) (xs : List Int), Fs a b H H' → Nw H H' r xs → By xs → xs.length ≤ N → Q (.ref r) H'
theorem rep_one {α : Type} (n : Nat) (x : α) : (List.replicate n [x]).flatten = List.replicate n x := by
  induction n with
  | zero => rfl
  | succ n ih => rw [List.replicate_succ, List.flatten_cons, ih, List.replicate_succ]; rfl
theorem iV_rep (n : Nat) (x : Int) : iV (List.replicate n x) = List.replicate n (V.int x) := List.map_replicate

/-! ### what is told -/
/-- t stands at v, all of it new behind H0 -/
def TlAt (H0 H : Hp) : Tell → V → Prop
  | .part pl bs, v => ∃ a l, v = .ref a ∧ H a = some (.tup [.str "part", .int (pl : Nat), .ref l]) ∧ H l = some (.lst (iV bs)) ∧ H0 a = none ∧ H0 l = none
  | .torn pl n, v => ∃ a, v = .ref a ∧ H a = some (.tup [.str "torn", .int (pl : Nat), .int (n : Nat)]) ∧ H0 a = none
abbrev Tls (H0 H : Hp) (ts : List Tell) (vs : List V) : Prop := Paired (TlAt H0 H) ts vs
theorem TlAt.keep {H0 H H' : Hp} {t : Tell} {v : V} (h : TlAt H0 H t v) (k : ∀ b o, H0 b = none → H b = some o → H' b = some o) : TlAt H0 H' t v := by
  cases t with
  | part pl bs =>
    obtain ⟨a, l, e, h1, h2, h3, h4⟩ := h
    exact ⟨a, l, e, k _ _ h3 h1, k _ _ h4 h2, h3, h4⟩
  | torn pl n =>
    obtain ⟨a, e, h1, h2⟩ := h
    exact ⟨a, e, k _ _ h2 h1, h2⟩
theorem TlAt.old {H0 H1 H : Hp} {t : Tell} {v : V} (h : TlAt H1 H t v) (k : ∀ b, H1 b = none → H0 b = none) : TlAt H0 H t v := by
  cases t with
  | part pl bs =>
    obtain ⟨a, l, e, h1, h2, h3, h4⟩ := h
    exact ⟨a, l, e, h1, h2, k _ h3, k _ h4⟩
  | torn pl n =>
    obtain ⟨a, e, h1, h2⟩ := h
    exact ⟨a, e, h1, k _ h2⟩
theorem pd_mono {α β : Type} {F G : α → β → Prop} (i : ∀ a b, F a b → G a b) : ∀ {xs : List α} {ys : List β}, Paired F xs ys → Paired G xs ys
  | _, _, .nil => .nil
  | _, _, .cons h t => .cons (i _ _ h) (pd_mono i t)
theorem pd_append {α β : Type} {F : α → β → Prop} : ∀ {xs zs : List α} {ys ws : List β}, Paired F xs ys → Paired F zs ws → Paired F (xs ++ zs) (ys ++ ws)
  | _, _, _, _, .nil, t => t
  | _, _, _, _, .cons h r, t => .cons h (pd_append r t)
theorem Tls.keep {H0 H H' : Hp} {ts : List Tell} {vs : List V} (h : Tls H0 H ts vs) (k : ∀ b o, H0 b = none → H b = some o → H' b = some o) : Tls H0 H' ts vs := pd_mono (fun _ _ q => q.keep k) h
theorem Tls.same {H0 H H' : Hp} {ts : List Tell} {vs : List V} (h : Tls H0 H ts vs) (s : Same H H') : Tls H0 H' ts vs := h.keep fun b o _ e => s b o e
theorem Tls.old {H0 H1 H : Hp} {ts : List Tell} {vs : List V} (h : Tls H1 H ts vs) (k : ∀ b, H1 b = none → H0 b = none) : Tls H0 H ts vs := pd_mono (fun _ _ q => q.old k) h
/-- .. as data -/
def Tell.pd : Tell → PyData
  | .part pl bs => .tuple [.str "part", .int (pl : Nat), .list (bs.map PyData.int)]
  | .torn pl n => .tuple [.str "torn", .int (pl : Nat), .int (n : Nat)]
theorem TlAt.dp {K : PySem.W.Frag} {H0 H : Hp} {t : Tell} {v : V} (h : TlAt H0 H t v) : Dp K H v (Tell.pd t) := by
  cases t with
  | part pl bs =>
    obtain ⟨a, l, e, h1, h2, _⟩ := h
    rw [e]
    exact .tup (SqT.of h1) (.cons (.str _) (.cons (.int _) (.cons (dpL h2) .nil)))
  | torn pl n =>
    obtain ⟨a, e, h1, _⟩ := h
    rw [e]
    exact .tup (SqT.of h1) (.cons (.str _) (.cons (.int _) (.cons (.int _) .nil)))
theorem Tls.dp {K : PySem.W.Frag} {H0 H : Hp} : ∀ {ts : List Tell} {vs : List V}, Tls H0 H ts vs → DpAll K H vs (ts.map Tell.pd)
  | _, _, .nil => .nil
  | _, _, .cons h t => .cons h.dp (Tls.dp t)
theorem tell_lay (t : Tell) : PyData.canLay0 (Tell.pd t) = true ∧ PyData.depth (Tell.pd t) ≤ 2 := by
  cases t with
  | part pl bs =>
    constructor
    · show (PyData.strOk "part" && (true && (PyData.canLayAll0 (bs.map PyData.int) && true))) = true
      rw [lay_ints, show PyData.strOk ("part" : Str) = true from by decide +kernel]
      rfl
    · show max 0 (max 0 (max (PyData.depthAll (bs.map PyData.int) + 1) 0)) + 1 ≤ 2
      rw [dep_ints]
      decide
  | torn pl n =>
    constructor
    · show (PyData.strOk "torn" && (true && (true && true))) = true
      rw [show PyData.strOk ("torn" : Str) = true from by decide +kernel]
      rfl
    · show max 0 (max 0 (max 0 0)) + 1 ≤ 2
      decide
theorem sh_tells (ts : List Tell) : SeqAt.shaped (.list (ts.map Tell.pd)) = true := by
  have h : PyData.canLayAll0 (ts.map Tell.pd) = true ∧ PyData.depthAll (ts.map Tell.pd) ≤ 2 := by
    induction ts with
    | nil => exact ⟨rfl, by decide⟩
    | cons t r ih =>
      obtain ⟨h1, h2⟩ := tell_lay t
      constructor
      · show (PyData.canLay0 (Tell.pd t) && PyData.canLayAll0 (r.map Tell.pd)) = true
        rw [h1, ih.1]
        rfl
      · show max (PyData.depth (Tell.pd t)) (PyData.depthAll (r.map Tell.pd)) ≤ 2
        have := ih.2
        omega
  unfold SeqAt.shaped
  rw [Bool.and_eq_true]
  refine ⟨h.1, decide_eq_true ?_⟩
  have := h.2
  show PyData.depthAll _ + 1 ≤ 64
  omega
end Tw
/-! TwP: what the streams' defs promise. -/
namespace Tw
open PySem PySem.Spec PyProof.Rows L2 Sb
theorem TyX.same {K : PySem.W.Frag} {H H' : Hp} {v : V} {t : Value} (s : Same H H') (h : TyX K H v t) : TyX K H' v t := by
  cases h with
  | base b =>
    refine .base ?_
    cases b with
    | non => exact .non
    | bl y => exact .bl y
    | int i => exact .int i
    | str y => exact .str y
    | flt y => exact .flt y
    | lst e => exact .lst (s _ _ e)
    | frz e => exact .frz (s _ _ e)
    | tup e => exact .tup (s _ _ e)
    | dK e => exact .dK (s _ _ e)
    | dT e => exact .dT (s _ _ e)
    | ins e c h1 h2 h3 h4 => exact .ins (s _ _ e) c h1 h2 h3 h4
  | byt b => exact .byt b
  | set e => exact .set (s _ _ e)
  | kList e c => exact .kList e c
  | kTuple e c => exact .kTuple e c
  | kDict e c => exact .kDict e c
  | fTuple e => exact .fTuple (s _ _ e)
  | fDict e => exact .fDict (s _ _ e)
theorem Rw.ty {K : PySem.W.Frag} {H : Hp} {a : Addr} {xs : List V} (h : Rw H a xs) : ∃ t, TyX K H (.ref a) t ∧ PySem.W.kitAny K t [.type "list", .type "tuple"] = some true := by
  rcases h with h | h
  · exact ⟨.type "list", .base (.lst h), kitAny_cons (b := true) (kit_ty (by decide +kernel)) (fun z => nomatch z) fun _ => rfl⟩
  · exact ⟨.type "tuple", .base (.tup h), kitAny_cons (b := false) (kit_ty (by decide +kernel)) (fun _ => kitAny_cons (b := true) (kit_ty (by decide +kernel)) (fun z => nomatch z) fun _ => rfl) fun z => nomatch z⟩
/-- a module's number -/
abbrev Gi (mg : Str → Option Value) (x : Str) (n : Int) : Prop := ∃ u, mg x = some u ∧ RelV (.int n) u
abbrev big : Nat := 4000000
def spWhole (K : PySem.W.Frag) : Sp := fun vs H Q _ => ∃ (v : V) (t : Value) (b1 b2 : Bool), vs = [v] ∧ TyX K H v t ∧ PySem.W.kitOne K t (.type "int") = some b1 ∧ (b1 = true → PySem.W.kitOne K t (.type "bool") = some b2) ∧ Q (.bl (b1 && !b2)) H
def spRow (K : PySem.W.Frag) : Sp := fun vs H Q _ => ∃ (v : V) (t : Value) (b : Bool), vs = [v] ∧ TyX K H v t ∧ PySem.W.kitAny K t [.type "list", .type "tuple"] = some b ∧ ∀ H', Same H H' → Q (.bl b) H'
/-- rows of bytes are asked of alone -/
def spBytes : Sp := fun vs H Q _ => ∃ (a : Addr) (ns : List Int), vs = [.ref a] ∧ Rw H a (iV ns) ∧ By ns ∧ ns.length ≤ big ∧ ∀ H', Same H H' → Q (.bl true) H'
def spRefuse : Sp := fun vs H Q _ => ∃ (a : Addr) (ns : List Int), vs = [.ref a] ∧ Rw H a (iV ns) ∧ By ns ∧ ns.length ≤ big ∧ ∀ H', Same H H' → Q .non H'
def spZeros : Sp := fun vs H Q _ => ∃ (a : Addr) (ns : List Int), vs = [.ref a] ∧ Rw H a (iV ns) ∧ ns.length ≤ big ∧ ∀ (H' : Hp) (p : Addr), Same H H' → H p = none → H' p = some (.lst ((zs 0 ns).map fun (i : Nat) => V.int i)) → Q (.ref p) H'
def spCheck : Sp := fun vs H Q _ => ∃ (a : Addr) (ns : List Int), vs = [.ref a] ∧ Rw H a (iV ns) ∧ By ns ∧ ns.length ≤ big ∧ ∀ (H' : Hp) (p : Addr), Same H H' → H p = none → H' p = some (.lst (iV (check ns))) → Q (.ref p) H'
def optL (H0 H : Hp) : Option (List Int) → V → Prop
  | none, v => v = .non
  | some w, v => ∃ p, v = .ref p ∧ H0 p = none ∧ H p = some (.lst (iV w))
/-- runs undone, of pieces without zeros -/
def spWithZ : Sp := fun vs H Q _ => ∃ (a : Addr) (ns : List Int), vs = [.ref a] ∧ H a = some (.lst (iV ns)) ∧ By ns ∧ NZ ns ∧ ns.length ≤ big ∧ ∀ (H' : Hp) (v : V), Same H H' → optL H H' (unrun ns) v → Q v H'
def spRead : Sp := fun vs H Q _ => ∃ (a : Addr) (pl : Nat) (ns : List Int), vs = [.int (pl : Nat), .ref a] ∧ H a = some (.lst (iV ns)) ∧ By ns ∧ NZ ns ∧ ns.length ≤ big ∧ ∀ (H' : Hp) (v : V), Same H H' → TlAt H H' (tell pl ns) v → Q v H'

/-! ### cuts by natural places -/
theorem sIx_natV (n d k : Nat) : HT.sIx n d (some (k : Int)) = min k n := HT.sIx_nat n d k
theorem cut_nn (xs : List V) (i j : Nat) : cutV xs (some (i : Int)) (some (j : Int)) = (xs.drop i).take (j - i) := by
  unfold cutV
  rw [sIx_natV, sIx_natV]
  by_cases h : i ≤ xs.length
  · rw [Nat.min_eq_left h]
    by_cases h2 : j ≤ xs.length
    · rw [Nat.min_eq_left h2]
    · rw [Nat.min_eq_right (show xs.length ≤ j by omega), List.take_of_length_le (by rw [List.length_drop]; omega), List.take_of_length_le (by rw [List.length_drop]; omega)]
  · rw [Nat.min_eq_right (show xs.length ≤ i by omega), List.drop_of_length_le (Nat.le_refl _), List.drop_of_length_le (show xs.length ≤ i by omega)]
    simp
theorem cut_n0 (xs : List V) (i : Nat) : cutV xs (some (i : Int)) none = xs.drop i := by
  unfold cutV
  rw [sIx_natV, show HT.sIx xs.length xs.length none = xs.length from HT.sIx_none _ _]
  by_cases h : i ≤ xs.length
  · rw [Nat.min_eq_left h, List.take_of_length_le (by rw [List.length_drop]; omega)]
  · rw [Nat.min_eq_right (show xs.length ≤ i by omega), List.drop_of_length_le (Nat.le_refl _), List.drop_of_length_le (show xs.length ≤ i by omega)]
    simp
theorem cut_0n (xs : List V) (j : Nat) : cutV xs none (some (j : Int)) = xs.take j := by
  unfold cutV
  rw [sIx_natV, show HT.sIx xs.length 0 none = 0 from HT.sIx_none _ _, List.drop_zero, Nat.sub_zero]
  by_cases h : j ≤ xs.length
  · rw [Nat.min_eq_left h]
  · rw [Nat.min_eq_right (show xs.length ≤ j by omega), List.take_of_length_le (Nat.le_refl _), List.take_of_length_le (show xs.length ≤ j by omega)]
/-- a negative place, counted from the end -/
theorem sIx_neg (n d k : Nat) (h0 : 1 ≤ k) (hk : k ≤ n) : HT.sIx n d (some (-(k : Int))) = n - k := by
  unfold HT.sIx
  simp only
  split <;> omega
theorem cut_0m (xs : List V) (k : Nat) (h0 : 1 ≤ k) (hk : k ≤ xs.length) : cutV xs none (some (-(k : Int))) = xs.take (xs.length - k) := by
  unfold cutV
  rw [sIx_neg _ _ _ h0 hk, show HT.sIx xs.length 0 none = 0 from HT.sIx_none _ _, List.drop_zero, Nat.sub_zero]
theorem cut_m0 (xs : List V) (k : Nat) (h0 : 1 ≤ k) (hk : k ≤ xs.length) : cutV xs (some (-(k : Int))) none = xs.drop (xs.length - k) := by
  unfold cutV
  rw [sIx_neg _ _ _ h0 hk, show HT.sIx xs.length xs.length none = xs.length from HT.sIx_none _ _, List.take_of_length_le (by rw [List.length_drop]; omega)]
theorem iV_take (xs : List Int) (n : Nat) : iV (xs.take n) = (iV xs).take n := List.map_take
theorem iV_drop (xs : List Int) (n : Nat) : iV (xs.drop n) = (iV xs).drop n := List.map_drop
theorem iV_snoc (xs : List Int) (b : Int) : iV (xs ++ [b]) = iV xs ++ [V.int b] := iV_append xs [b]
theorem iteNF {c A B : Prop} [Decidable c] (hc : ¬ c) (h : A) : if (!decide c) = true then A else B := by
  rw [decide_eq_false hc]
  exact iteT h

/-! ### the feeder -/
theorem rest_place : ¬ (("rest" : Str) = "place") := by decide +kernel
theorem place_rest : ¬ (("place" : Str) = "rest") := by decide +kernel
abbrev fdF (l : Addr) (n : Int) : List (Str × V) := [("rest", .ref l), ("place", .int n)]
theorem fd_init (l : Addr) (n : Int) : putF "place" (.int n) (putF "rest" (.ref l) []) = fdF l n := by
  show (if ("rest" : Str) = "place" then _ else (("rest" : Str), V.ref l) :: putF "place" (.int n) []) = _
  rw [if_neg rest_place]
  rfl
theorem fd_rest (l m : Addr) (n : Int) : putF "rest" (.ref m) (fdF l n) = fdF m n := by
  show (if ("rest" : Str) = "rest" then (("rest" : Str), V.ref m) :: [(("place" : Str), V.int n)] else _) = _
  rw [if_pos rfl]
theorem fd_place (l : Addr) (n k : Int) : putF "place" (.int k) (fdF l n) = fdF l k := by
  show (if ("rest" : Str) = "place" then _ else (("rest" : Str), V.ref l) :: (if ("place" : Str) = "place" then [(("place" : Str), V.int k)] else _)) = _
  rw [if_neg rest_place, if_pos rfl]
theorem fd_get_rest (l : Addr) (n : Int) : (fdF l n).lookup ("rest" : Str) = some (.ref l) := by simp [fdF, List.lookup]
theorem fd_get_place (l : Addr) (n : Int) : (fdF l n).lookup ("place" : Str) = some (.int n) := by
  have e : (("place" : Str) == ("rest" : Str)) = false := by decide +kernel
  simp [fdF, List.lookup, e]
theorem fd_no (l : Addr) (n : Int) {m : Str} (h1 : (m == ("rest" : Str)) = false) (h2 : (m == ("place" : Str)) = false) : (fdF l n).lookup m = none := by simp [fdF, List.lookup, h1, h2]
/-- a feeder at p that holds rest, in the list at l, from the place pl on -/
def FdAt (C : Addr) (H : Hp) (p l : Addr) (rest : List Int) (pl : Nat) : Prop := ∃ dx, H p = some (.ins C dx (fdF l (pl : Nat))) ∧ H l = some (.lst (iV rest))
structure ClF (K : PySem.W.Frag) (C : Addr) : Prop where
  cl : Cls K C
  nR : NoAttr K C "rest"
  nP : NoAttr K C "place"
theorem FdAt.ne {C : Addr} {H : Hp} {p l : Addr} {r : List Int} {n : Nat} (h : FdAt C H p l r n) : p ≠ l := by
  obtain ⟨dx, h1, h2⟩ := h
  exact ne_of h1 h2 (by intro z; cases z)
theorem FdAt.keep {C : Addr} {H H' : Hp} {p l : Addr} {r : List Int} {n : Nat} (h : FdAt C H p l r n) (s : Same H H') : FdAt C H' p l r n := by
  obtain ⟨dx, h1, h2⟩ := h
  exact ⟨dx, s _ _ h1, s _ _ h2⟩
/-- all but two places stay -/
def But (p l : Addr) (H H' : Hp) : Prop := ∀ b o, b ≠ p → b ≠ l → H b = some o → H' b = some o
theorem But.refl {p l : Addr} {H : Hp} : But p l H H := fun _ _ _ _ e => e
theorem But.trans {p l : Addr} {H H1 H2 : Hp} (h : But p l H H1) (k : But p l H1 H2) : But p l H H2 := fun b o n m e => k b o n m (h b o n m e)
theorem But.same {p l : Addr} {H H1 H2 : Hp} (h : But p l H H1) (k : Same H1 H2) : But p l H H2 := fun b o n m e => k b o (h b o n m e)
def spFInit (C : Addr) : Sp := fun vs H Q _ => ∃ (p dx : Addr), vs = [.ref p] ∧ H p = some (.ins C dx []) ∧ ∀ (H' : Hp) (l : Addr), (∀ b o, b ≠ p → H b = some o → H' b = some o) → H l = none → FdAt C H' p l [] 0 → Q .non H'
def spFDone (C : Addr) : Sp := fun vs H Q _ => ∃ (p l : Addr) (rest : List Int) (pl : Nat), vs = [.ref p] ∧ FdAt C H p l rest pl ∧ rest.length ≤ big ∧
  ∀ (H' : Hp) (l' r : Addr) (ws : List V), (∀ b o, b ≠ p → H b = some o → H' b = some o) → H l' = none → FdAt C H' p l' [] 0 → H r = none → r ≠ l' → H' r = some (.lst ws) → Tls (upd H r (.lst [])) H' (rests rest pl) ws → Q (.ref r) H'
def spFFeed (C : Addr) : Sp := fun vs H Q _ => ∃ (p d l : Addr) (rest xs : List Int) (pl : Nat), vs = [.ref p, .ref d] ∧ FdAt C H p l rest pl ∧ H d = some (.lst (iV xs)) ∧ d ≠ l ∧ By rest ∧ NZ rest ∧ By xs ∧ rest.length + xs.length ≤ big ∧
  ∀ (H' : Hp) (l' r : Addr) (ws : List V), But p l H H' → FdAt C H' p l' (goes rest pl xs).2.1 (goes rest pl xs).2.2 → (l' = l ∨ H l' = none) → H r = none → r ≠ l' → H' r = some (.lst ws) → Tls (upd H r (.lst [])) H' (goes rest pl xs).1 ws → Q (.ref r) H'
def spUnst : Sp := fun vs H Q _ => ∃ (d : Addr) (xs : List Int), vs = [.ref d] ∧ H d = some (.lst (iV xs)) ∧ By xs ∧ xs.length ≤ big ∧ ∀ (H' : Hp) (r : Addr) (ws : List V), Same H H' → H r = none → H' r = some (.lst ws) → Tls (upd H r (.lst [])) H' (unstr xs) ws → Q (.ref r) H'
theorem Tls.more {H0 H : Hp} {x : Addr} {o : HO} (hx : H x = none) : ∀ {ts : List Tell} {ws : List V}, Tls H0 H ts ws → Tls (upd H0 x o) H ts ws := by
  have go : ∀ (t : Tell) (v : V), TlAt H0 H t v → TlAt (upd H0 x o) H t v := by
    intro t v h
    cases t with
    | part pl bs =>
      obtain ⟨a, l, e, h1, h2, h3, h4⟩ := h
      exact ⟨a, l, e, h1, h2, by rw [upd_ne (ne_of_none h1 hx)]; exact h3, by rw [upd_ne (ne_of_none h2 hx)]; exact h4⟩
    | torn pl n =>
      obtain ⟨a, e, h1, h2⟩ := h
      exact ⟨a, e, h1, by rw [upd_ne (ne_of_none h1 hx)]; exact h2⟩
  intro ts ws h
  exact pd_mono go h
theorem upd_none {H0 : Hp} {x b : Addr} {o : HO} (h : upd H0 x o b = none) : b ≠ x ∧ H0 b = none := by
  have n : b ≠ x := fun z => by rw [z, upd_same] at h; cases h
  rw [upd_ne n] at h
  exact ⟨n, h⟩
theorem none_upd {H0 : Hp} {x b : Addr} {o : HO} (n : b ≠ x) (h : H0 b = none) : upd H0 x o b = none := by
  rw [upd_ne n]
  exact h
theorem pd_len {α β : Type} {F : α → β → Prop} : ∀ {xs : List α} {ys : List β}, Paired F xs ys → xs.length = ys.length
  | _, _, .nil => rfl
  | _, _, .cons _ t => by rw [List.length_cons, List.length_cons, pd_len t]
theorem seq0 {α : Type} {x : α} {xs : List α} (f : α → V) : seqIndex? 0 ((x :: xs).map f).length = some 0 := by
  rw [List.length_map, List.length_cons]
  unfold seqIndex?
  simp
theorem iV_at0 {xs : List Int} {i : Nat} {b : Int} (h : xs[i]? = some b) : atI (iV xs) (0 + (i : Int)) = some (.int b) := by
  rw [show (0 : Int) + (i : Int) = (i : Int) by omega]
  exact iV_atI h
theorem cutB {xs : List Int} (h : By xs) (lo hi : Option Int) : ∃ ys, cutV (iV xs) lo hi = iV ys ∧ By ys ∧ ys.length ≤ xs.length := by
  refine ⟨(xs.drop (HT.sIx (iV xs).length 0 lo)).take (HT.sIx (iV xs).length (iV xs).length hi - HT.sIx (iV xs).length 0 lo), ?_, (h.drop _).take _, ?_⟩
  · unfold cutV
    rw [iV_take, iV_drop]
  · rw [List.length_take, List.length_drop]
    omega
/-- the check of a list -/
def spCheckL : Sp := fun vs H Q _ => ∃ (a : Addr) (ns : List Int), vs = [.ref a] ∧ H a = some (.lst (iV ns)) ∧ By ns ∧ ns.length ≤ big ∧ ∀ (H' : Hp) (p : Addr), Same H H' → Nw H H' p (check ns) → Q (.ref p) H'
/-- some new list of bytes, of at most twice as many and two -/
def spRunsL : Sp := fun vs H Q _ => ∃ (a : Addr) (ns : List Int), vs = [.ref a] ∧ H a = some (.lst (iV ns)) ∧ By ns ∧ ns.length ≤ 100000 ∧ ∀ (H' : Hp) (p : Addr) (xs : List Int), Same H H' → Nw H H' p xs → By xs → xs.length ≤ 2 * ns.length + 1 → Q (.ref p) H'
/-- what the law undoes -/
def spUndoneL : Sp := fun vs H Q _ => ∃ (a : Addr) (ns : List Int), vs = [.ref a] ∧ H a = some (.lst (iV ns)) ∧ By ns ∧ NZ ns ∧ ns.length ≤ big ∧ ∀ (H' : Hp) (v : V), Same H H' → optL H H' (unrun ns) v → Q v H'
theorem ixN_at {v : Int} {n : Nat} (h0 : 0 ≤ v) (h : v.toNat < n) : ixN n v = some v.toNat := by
  unfold ixN
  rw [if_pos h0, if_pos (by omega)]
theorem By.set {xs : List Int} (h : By xs) (i : Nat) {y : Int} (h0 : 0 ≤ y) (h1 : y ≤ 255) : By (xs.set i y) := fun b hb => by
  rcases List.mem_or_eq_of_mem_set hb with q | q
  · exact h b q
  · rw [q]
    exact ⟨h0, h1⟩
theorem iV_set (xs : List Int) (i : Nat) (y : Int) : (iV xs).set i (.int y) = iV (xs.set i y) := List.map_set.symm
/-- what the law tells of a piece -/
def spToldL : Sp := fun vs H Q _ => ∃ (a : Addr) (pl : Nat) (en : Bool) (ns : List Int), vs = [.ref a, .int (pl : Nat), .bl en] ∧ H a = some (.lst (iV ns)) ∧ By ns ∧ NZ ns ∧ ns.length ≤ big ∧ ∀ (H' : Hp) (v : V), Same H H' → TlAt H H' (if en = true then tell pl ns else .torn pl ns.length) v → Q v H'
/-- what is due of a stream -/
def spDueL : Sp := fun vs H Q _ => ∃ (d : Addr) (xs : List Int), vs = [.ref d] ∧ H d = some (.lst (iV xs)) ∧ By xs ∧ xs.length ≤ big ∧ ∀ (H' : Hp) (r : Addr) (ws : List V), Same H H' → H r = none → H' r = some (.lst ws) → Tls H H' (unstr xs) ws → Q (.ref r) H'
theorem pd_at {α β : Type} {F : α → β → Prop} : ∀ {xs : List α} {ys : List β} {i : Nat} {y : β}, Paired F xs ys → ys[i]? = some y → ∃ x, xs[i]? = some x ∧ F x y
  | _, _, 0, _, .cons h _, e => by
    cases e
    exact ⟨_, rfl, h⟩
  | _, _, i + 1, _, .cons _ t, e => by
    obtain ⟨x, h1, h2⟩ := pd_at (i := i) t (by simpa using e)
    exact ⟨x, by simpa using h1, h2⟩
theorem cutI (xs : List Int) (lo hi : Option Int) : ∃ ys, cutV (iV xs) lo hi = iV ys ∧ ys.length ≤ xs.length := by
  refine ⟨(xs.drop (HT.sIx (iV xs).length 0 lo)).take (HT.sIx (iV xs).length (iV xs).length hi - HT.sIx (iV xs).length 0 lo), ?_, ?_⟩
  · unfold cutV
    rw [iV_take, iV_drop]
  · rw [List.length_take, List.length_drop]
    omega
theorem eqv_int_refl (xs : List Int) : PyData.eqv (.list (xs.map PyData.int)) (.list (xs.map PyData.int)) = true := by
  rw [eqv_ints]
  exact decide_eq_true rfl
theorem tell_refl (t : Tell) : PyData.eqv (Tell.pd t) (Tell.pd t) = true := by
  cases t with
  | part pl bs =>
    have e := eqv_int_refl bs
    simp only [Tell.pd, PyData.eqv, PyData.eqvAll] at e ⊢
    simp [e]
  | torn pl n => simp [Tell.pd, PyData.eqv, PyData.eqvAll]
theorem tells_refl (ts : List Tell) : PyData.eqv (.list (ts.map Tell.pd)) (.list (ts.map Tell.pd)) = true := by
  have go : ∀ ts : List Tell, PyData.eqvAll (ts.map Tell.pd) (ts.map Tell.pd) = true := by
    intro ts
    induction ts with
    | nil => rfl
    | cons t r ih =>
      simp only [List.map_cons, PyData.eqvAll, tell_refl t, ih, Bool.and_self]
  have e := go ts
  simpa only [PyData.eqv] using e
def spLaw (K : PySem.W.Frag) : Sp := fun vs H Q _ => ∃ (a : Addr) (ns : List Int), vs = [.ref a] ∧ SqL K H a (ns.map V.int) ∧ ns.length ≤ 63 ∧ ∀ H', Q (.bl true) H'
/-- the facts of a class at C with __init__, as the top left it -/
structure ClIn (K : PySem.W.Frag) (C : Addr) (x : Str) : Prop where
  g : PySem.W.nsIn K mainGlobals x = some (some (.ref C))
  pg : PySem.W.plainGet K C Str.empty = true
  hd : PySem.W.hasDictIn K C = true
  po : PySem.W.plainOver K C = true
  sa : PySem.W.findIn K (.ref C) "__setattr__" = some (some (.builtin "object.__setattr__"))
  mks : PySem.W.makesIn K C = true
  kc : PySem.W.keepIn K (.ref C) = true
theorem ClIn.cls {K : PySem.W.Frag} {C : Addr} {x : Str} (c : ClIn K C x) : Cls K C := ⟨c.pg, c.hd, c.po, c.sa⟩
theorem gi_mk {K : PySem.W.Frag} {h : Heap} {mg : Str → Option Value} {x : Str} {n : Int} {t : Tok} (X : K.In h) (G : h.Ns mainGlobals mg) (g : PySem.W.nsIn K mainGlobals x = some (some (.int n t))) : Gi mg x n := ⟨_, PySem.W.mg_of X G g, _, rfl⟩
/-! ### list(x), tuple(x), in comprehensions too -/
def rListOf (K : PySem.W.Frag) : List V → Hp → VK → Prop := fun xs H Q => ∃ p ys, xs = [.ref p] ∧ (SqL K H p ys ∨ SqT K H p ys) ∧ ∀ l, H l = none → Q (.ref l) (upd H l (.lst ys))
def rTupOf (K : PySem.W.Frag) : List V → Hp → VK → Prop := fun xs H Q => ∃ p ys, xs = [.ref p] ∧ ((SqL K H p ys ∧ ∀ l, H l = none → Q (.ref l) (upd H l (.tup ys))) ∨ (SqT K H p ys ∧ Q (.ref p) H))
theorem cr_listK {X : Cx} : CallR X (.type "list") (rListOf X.K) := call_list_of
theorem cr_tupK {X : Cx} : CallR X (.type "tuple") (rTupOf X.K) := call_tuple_of
end Tw
/-! Sw: how a part is written, and that it is read back. -/
namespace Sb
/-- a stretch without zeros in runs -/
def encS (last : Bool) (seg : List Int) : List Int :=
  if 254 < seg.length ∨ (seg.length = 254 ∧ last = false) then 255 :: (seg.take 254 ++ encS last (seg.drop 254)) else (((seg.length : Nat) : Int) + 1) :: seg
termination_by seg.length
decreasing_by
  rw [List.length_drop]
  omega
theorem encS_full {last : Bool} {seg : List Int} (h : 254 < seg.length ∨ (seg.length = 254 ∧ last = false)) : encS last seg = 255 :: (seg.take 254 ++ encS last (seg.drop 254)) := by
  rw [encS, if_pos h]
theorem encS_end {last : Bool} {seg : List Int} (h : ¬ (254 < seg.length ∨ (seg.length = 254 ∧ last = false))) : encS last seg = (((seg.length : Nat) : Int) + 1) :: seg := by
  rw [encS, if_neg h]
theorem encS_ne (last : Bool) (seg : List Int) : encS last seg ≠ [] := by
  rw [encS]
  split <;> simp
/-- behind the stretch seg -/
def enc (seg : List Int) : List Int → List Int
  | [] => encS true seg
  | b :: r => if b = 0 then encS false seg ++ enc [] r else enc (seg ++ [b]) r
theorem enc_ne (seg xs : List Int) : enc seg xs ≠ [] := by
  cases xs with
  | nil => exact encS_ne _ _
  | cons b r =>
    by_cases h : b = 0
    · simp only [enc, if_pos h]
      intro e
      exact encS_ne _ _ (List.append_eq_nil_iff.mp e).1
    · simp only [enc, if_neg h]
      exact enc_ne (seg ++ [b]) r
theorem enc_nz {seg : List Int} (pre : List Int) (h : NZ seg) (r : List Int) : enc pre (seg ++ 0 :: r) = encS false (pre ++ seg) ++ enc [] r := by
  induction seg generalizing pre with
  | nil => simp [enc]
  | cons b t ih =>
    have hb : b ≠ 0 := h b (List.mem_cons_self ..)
    simp only [List.cons_append, enc, if_neg hb]
    rw [ih _ fun c hc => h c (List.mem_cons_of_mem _ hc)]
    simp
theorem enc_end {seg : List Int} (pre : List Int) (h : NZ seg) : enc pre seg = encS true (pre ++ seg) := by
  induction seg generalizing pre with
  | nil => simp [enc]
  | cons b t ih =>
    have hb : b ≠ 0 := h b (List.mem_cons_self ..)
    simp only [enc, if_neg hb]
    rw [ih _ fun c hc => h c (List.mem_cons_of_mem _ hc)]
    simp
theorem encS_len (last : Bool) (seg : List Int) : (encS last seg).length ≤ seg.length + seg.length / 254 + 1 := by
  rw [encS]
  split
  · rename_i h
    have l := encS_len last (seg.drop 254)
    rw [List.length_cons, List.length_append, List.length_take]
    rw [List.length_drop] at l
    omega
  · rw [List.length_cons]
    omega
termination_by seg.length
decreasing_by
  rw [List.length_drop]
  omega
theorem enc_len (seg xs : List Int) : (enc seg xs).length ≤ 2 * (seg.length + xs.length) + 1 := by
  induction xs generalizing seg with
  | nil =>
    have := encS_len true seg
    simp only [enc]
    have e : ([] : List Int).length = 0 := rfl
    omega
  | cons b r ih =>
    by_cases h : b = 0
    · simp only [enc, if_pos h, List.length_append, List.length_cons]
      have := encS_len false seg
      have := ih []
      have e : ([] : List Int).length = 0 := rfl
      omega
    · simp only [enc, if_neg h, List.length_cons]
      have := ih (seg ++ [b])
      rw [List.length_append] at this
      have e : [b].length = 1 := rfl
      omega
/-- bytes, none of them 0 -/
def Ps (xs : List Int) : Prop := ∀ b ∈ xs, 1 ≤ b ∧ b ≤ 255
theorem Ps.by {xs : List Int} (h : Ps xs) : By xs := fun b hb => by
  have := h b hb
  omega
theorem Ps.nz {xs : List Int} (h : Ps xs) : NZ xs := fun b hb => by
  have := h b hb
  omega
theorem Ps.of {xs : List Int} (h : By xs) (k : NZ xs) : Ps xs := fun b hb => by
  have := h b hb
  have := k b hb
  omega
theorem Ps.append {xs ys : List Int} (h : Ps xs) (k : Ps ys) : Ps (xs ++ ys) := fun b hb => (List.mem_append.mp hb).elim (h b) (k b)
theorem Ps.cons {x : Int} {xs : List Int} (h0 : 1 ≤ x ∧ x ≤ 255) (k : Ps xs) : Ps (x :: xs) := fun b hb => by
  rcases List.mem_cons.mp hb with rfl | h
  · exact h0
  · exact k b h
theorem Ps.take {xs : List Int} (h : Ps xs) (n : Nat) : Ps (xs.take n) := fun b hb => h b (List.mem_of_mem_take hb)
theorem Ps.drop {xs : List Int} (h : Ps xs) (n : Nat) : Ps (xs.drop n) := fun b hb => h b (List.mem_of_mem_drop hb)
theorem Ps.nil : Ps [] := fun _ h => by cases h
theorem encS_ps {last : Bool} {seg : List Int} (h : Ps seg) : Ps (encS last seg) := by
  rw [encS]
  split
  · exact .cons ⟨by decide, by decide⟩ ((h.take _).append (encS_ps (h.drop _)))
  · rename_i k
    exact .cons ⟨by omega, by omega⟩ h
termination_by seg.length
decreasing_by
  rw [List.length_drop]
  omega
theorem enc_ps {seg xs : List Int} (h : Ps seg) (k : By xs) : Ps (enc seg xs) := by
  induction xs generalizing seg with
  | nil => exact encS_ps h
  | cons b r ih =>
    have hb := k b (List.mem_cons_self ..)
    have hr : By r := fun c hc => k c (List.mem_cons_of_mem _ hc)
    by_cases e : b = 0
    · simp only [enc, if_pos e]
      exact (encS_ps h).append (ih .nil hr)
    · simp only [enc, if_neg e]
      exact ih (h.append (.cons ⟨by omega, by omega⟩ .nil)) hr

/-! ### undone again -/
/-- as undo, and refused where a run of none stands at the end behind a full one -/
def undoA : Nat → Int → List Int → List Int → Option (List Int)
  | 0, _, acc, _ => some acc
  | _ + 1, _, acc, [] => some acc
  | f + 1, ah, acc, n :: r =>
    if r.length + 1 < n.toNat then none
    else if n = 1 ∧ ah = 255 ∧ r = [] then none
    else undoA f n (acc ++ r.take (n.toNat - 1) ++ if n < 255 ∧ n.toNat < r.length + 1 then [0] else []) ((n :: r).drop n.toNat)
theorem undoA_nil (f : Nat) (ah : Int) (acc : List Int) : undoA f ah acc [] = some acc := by cases f <;> rfl
/-- where undoA tells something, undo tells it -/
theorem undo_of {f : Nat} {ah : Int} {acc p w : List Int} (h : undoA f ah acc p = some w) : undo f acc p = some w := by
  induction f generalizing ah acc p with
  | zero => exact h
  | succ f ih =>
    cases p with
    | nil => exact h
    | cons n r =>
      simp only [undoA] at h
      simp only [undo]
      split at h
      · cases h
      · rename_i h1
        rw [if_neg h1]
        split at h
        · cases h
        · exact ih h
/-- a written run, behind it something -/
theorem undoA_run {f : Nat} {ah n : Int} {acc seg t : List Int} (hn : n = ((seg.length : Nat) : Int) + 1) (hl : seg.length ≤ 254) (hz : ¬ (n = 1 ∧ ah = 255 ∧ t = [])) :
    undoA (f + 1) ah acc (n :: (seg ++ t)) = undoA f n (acc ++ seg ++ if n < 255 ∧ t ≠ [] then [0] else []) t := by
  have en : n.toNat = seg.length + 1 := by omega
  have e1 : ¬ ((seg ++ t).length + 1 < n.toNat) := by rw [List.length_append, en]; omega
  have e2 : ¬ (n = 1 ∧ ah = 255 ∧ seg ++ t = []) := fun q => hz ⟨q.1, q.2.1, (List.append_eq_nil_iff.mp q.2.2).2⟩
  have e3 : (seg ++ t).take (n.toNat - 1) = seg := by rw [en, Nat.add_sub_cancel, List.take_left']; rfl
  have e4 : (n :: (seg ++ t)).drop n.toNat = t := by
    rw [en, List.drop_succ_cons, List.drop_left']
    rfl
  have e5 : (if n < 255 ∧ n.toNat < (seg ++ t).length + 1 then [(0 : Int)] else []) = if n < 255 ∧ t ≠ [] then [0] else [] := by
    rw [List.length_append, en]
    cases t with
    | nil => simp
    | cons x t => simp
  simp only [undoA]
  rw [if_neg e1, if_neg e2, e3, e4, e5]
theorem undoA_encS {last : Bool} {seg : List Int} {f : Nat} {ah : Int} {acc t : List Int} (ht : last = true ↔ t = []) (ha : seg = [] → last = true → ah ≠ 255) (hf : (encS last seg ++ t).length ≤ f) :
    ∃ f' ah', t.length ≤ f' ∧ (last = false → ah' ≠ 255) ∧ undoA f ah acc (encS last seg ++ t) = undoA f' ah' (acc ++ seg ++ if t = [] then [] else [0]) t := by
  by_cases h : 254 < seg.length ∨ (seg.length = 254 ∧ last = false)
  · have el : (seg.take 254).length = 254 := by rw [List.length_take]; omega
    rw [encS_full h] at hf ⊢
    cases f with
    | zero => simp at hf
    | succ f =>
      have e0 : (255 :: (seg.take 254 ++ encS last (seg.drop 254))) ++ t = 255 :: (seg.take 254 ++ (encS last (seg.drop 254) ++ t)) := by simp
      rw [e0] at hf ⊢
      rw [undoA_run (by rw [el]; rfl) (by rw [el]; exact Nat.le_refl _) (fun q => absurd q.1 (by decide))]
      rw [if_neg (fun q => absurd q.1 (by decide)), List.append_nil]
      have hf2 : (encS last (seg.drop 254) ++ t).length ≤ f := by
        rw [List.length_cons, List.length_append] at hf
        omega
      obtain ⟨f', ah', h1, h2, h3⟩ := undoA_encS (seg := seg.drop 254) (ah := 255) (acc := acc ++ seg.take 254) ht (fun e l => by
        have := congrArg List.length e
        rw [List.length_drop] at this
        rcases h with h | h
        · simp at this
          omega
        · rw [h.2] at l
          cases l) hf2
      refine ⟨f', ah', h1, h2, ?_⟩
      rw [h3, List.append_assoc acc, List.take_append_drop]
  · rw [encS_end h] at hf ⊢
    cases f with
    | zero => simp at hf
    | succ f =>
      have hl : seg.length ≤ 254 := by omega
      have e0 : ((((seg.length : Nat) : Int) + 1) :: seg) ++ t = (((seg.length : Nat) : Int) + 1) :: (seg ++ t) := rfl
      rw [e0] at hf ⊢
      have hz : ¬ (((seg.length : Nat) : Int) + 1 = 1 ∧ ah = 255 ∧ t = []) := fun q => ha (List.length_eq_zero_iff.mp (by omega)) (ht.mpr q.2.2) q.2.1
      rw [undoA_run rfl hl hz]
      have e6 : (if ((seg.length : Nat) : Int) + 1 < 255 ∧ t ≠ [] then [(0 : Int)] else []) = if t = [] then [] else [0] := by
        by_cases c : t = []
        · rw [if_pos c, if_neg fun q => q.2 c]
        · have l : last = false := by
            cases hq : last with
            | false => rfl
            | true => exact absurd (ht.mp hq) c
          have : ¬ seg.length = 254 := fun e => h (.inr ⟨e, l⟩)
          rw [if_neg c, if_pos ⟨by omega, c⟩]
      rw [e6]
      refine ⟨f, ((seg.length : Nat) : Int) + 1, ?_, fun l => ?_, rfl⟩
      · rw [List.length_cons, List.length_append] at hf
        omega
      · intro e
        exact h (.inr ⟨by omega, l⟩)
termination_by seg.length
decreasing_by
  rw [List.length_drop]
  omega
theorem undoA_enc {seg xs : List Int} {f : Nat} {ah : Int} {acc : List Int} (ha : ah ≠ 255) (hf : (enc seg xs).length ≤ f) : undoA f ah acc (enc seg xs) = some (acc ++ seg ++ xs) := by
  induction xs generalizing seg f ah acc with
  | nil =>
    simp only [enc] at hf ⊢
    have hf' : (encS true seg ++ []).length ≤ f := by rw [List.append_nil]; exact hf
    obtain ⟨f', ah', h1, h2, h3⟩ := undoA_encS (acc := acc) (t := []) (by simp) (fun _ _ => ha) hf'
    rw [List.append_nil] at h3
    rw [h3, undoA_nil]
    simp
  | cons b r ih =>
    by_cases h : b = 0
    · simp only [enc, if_pos h] at hf ⊢
      obtain ⟨f', ah', h1, h2, h3⟩ := undoA_encS (acc := acc) (t := enc [] r) (by
        constructor
        · intro q
          cases q
        · intro q
          exact absurd q (enc_ne _ _)) (fun _ q => by cases q) hf
      rw [h3, ih (h2 rfl) h1, if_neg (enc_ne _ _), h]
      simp
    · simp only [enc, if_neg h] at hf ⊢
      rw [ih ha hf]
      simp
theorem unrun_enc (xs : List Int) : unrun (enc [] xs) = some xs := by
  have h := undoA_enc (seg := []) (xs := xs) (ah := 0) (acc := []) (by decide) (Nat.le_refl _)
  have := undo_of h
  simpa [unrun] using this

/-! ### streams -/
def whole (p : List Int) : List Int := p ++ check p
def piece (p : List Int) : List Int := enc [] (whole p)
def strm (ps : List (List Int)) : List Int := (ps.map fun p => piece p ++ [0]).flatten
theorem whole_by {p : List Int} (h : By p) : By (whole p) := h.append (check_by p)
theorem whole_len (p : List Int) : (whole p).length = p.length + 4 := by
  unfold whole
  rw [List.length_append, check_length]
theorem piece_ps {p : List Int} (h : By p) : Ps (piece p) := enc_ps .nil (whole_by h)
theorem piece_ne (p : List Int) : piece p ≠ [] := enc_ne _ _
theorem piece_len (p : List Int) : (piece p).length ≤ 2 * p.length + 9 := by
  have := enc_len [] (whole p)
  rw [whole_len] at this
  have e : ([] : List Int).length = 0 := rfl
  unfold piece
  omega
theorem strm_append (ps qs : List (List Int)) : strm (ps ++ qs) = strm ps ++ strm qs := by simp [strm]
theorem strm_cons (p : List Int) (ps : List (List Int)) : strm (p :: ps) = piece p ++ 0 :: strm ps := by simp [strm]
theorem strm_one (p : List Int) : strm [p] = piece p ++ [0] := by simp [strm]
theorem strm_by {ps : List (List Int)} (h : ∀ p ∈ ps, By p) : By (strm ps) := by
  induction ps with
  | nil => exact .nil
  | cons p r ih =>
    rw [strm_cons]
    refine ((piece_ps (h p (List.mem_cons_self ..))).by).append (.cons (by decide) (by decide) (ih fun q hq => h q (List.mem_cons_of_mem _ hq)))
/-- a written part is told whole -/
theorem tell_piece (pl : Nat) (p : List Int) : tell pl (piece p) = .part pl p := by
  unfold tell piece
  rw [unrun_enc]
  have e1 : (whole p).length - 4 = p.length := by rw [whole_len]; omega
  have e2 : (whole p).take p.length = p := by unfold whole; rw [List.take_left']; rfl
  have e3 : (whole p).drop p.length = check p := by unfold whole; rw [List.drop_left']; rfl
  show (if 4 ≤ (whole p).length ∧ _ then _ else _) = _
  rw [e1, e2, e3, if_pos ⟨by rw [whole_len]; omega, rfl⟩]
theorem goes_piece (pl : Nat) {p : List Int} (h : By p) (r : List Int) : goes [] pl (piece p ++ 0 :: r) = (.part pl p :: (goes [] (pl + (piece p).length + 1) r).1, (goes [] (pl + (piece p).length + 1) r).2) := by
  rw [goes_zero (piece_ps h).nz, List.nil_append, if_neg (piece_ne p), tell_piece]
  rfl
theorem undoA_at {ns acc : List Int} {a k f : Nat} {ah : Int} (h : ns[a]? = some (k : Int)) (hk : 1 ≤ k) (hf : ns.length - a ≤ f) :
    ∃ f', ns.length - (a + k) ≤ f' ∧ undoA f ah acc (ns.drop a) = if ns.length < a + k then none else if k = 1 ∧ ah = 255 ∧ a + 1 = ns.length then none else
      undoA f' (k : Int) (acc ++ (ns.drop (a + 1)).take (k - 1) ++ if (k : Int) < 255 ∧ a + k < ns.length then [0] else []) (ns.drop (a + k)) := by
  have ha : a < ns.length := (List.getElem?_eq_some_iff.mp h).1
  have e : ns.drop a = (k : Int) :: ns.drop (a + 1) := by
    rw [List.drop_eq_getElem_cons ha]
    have := (List.getElem?_eq_some_iff.mp h).2
    rw [this]
  cases f with
  | zero => omega
  | succ f =>
    refine ⟨f, by omega, ?_⟩
    have e2 : ((k : Int) :: ns.drop (a + 1)).drop k = ns.drop (a + k) := by
      rw [← e, List.drop_drop]
    rw [e]
    simp only [undoA, Int.toNat_natCast]
    rw [e2, List.length_drop]
    by_cases c : ns.length < a + k
    · rw [if_pos c, if_pos (by omega)]
    · rw [if_neg c, if_neg (by omega)]
      have e4 : ((k : Int) = 1 ∧ ah = 255 ∧ ns.drop (a + 1) = []) ↔ (k = 1 ∧ ah = 255 ∧ a + 1 = ns.length) := by
        constructor
        · rintro ⟨h1, h2, h3⟩
          have := congrArg List.length h3
          rw [List.length_drop] at this
          simp at this
          exact ⟨by omega, h2, by omega⟩
        · rintro ⟨h1, h2, h3⟩
          exact ⟨by omega, h2, List.drop_of_length_le (by omega)⟩
      by_cases d2 : k = 1 ∧ ah = 255 ∧ a + 1 = ns.length
      · rw [if_pos d2, if_pos (e4.mpr d2)]
      · rw [if_neg d2, if_neg (fun q => d2 (e4.mp q))]
        have e3 : (if (k : Int) < 255 ∧ k < ns.length - (a + 1) + 1 then [(0 : Int)] else []) = if (k : Int) < 255 ∧ a + k < ns.length then [0] else [] := by
          by_cases d : (k : Int) < 255 ∧ a + k < ns.length
          · rw [if_pos d, if_pos ⟨d.1, by omega⟩]
          · rw [if_neg d, if_neg (fun q => d ⟨q.1, by omega⟩)]
        rw [e3]
theorem undoA_piece (p : List Int) : undoA (piece p).length 0 [] (piece p) = some (whole p) := by
  have h := undoA_enc (seg := []) (xs := whole p) (ah := 0) (acc := []) (by decide) (Nat.le_refl _)
  simpa [piece] using h
/-- cut at the zeros: the pieces that a zero ends, and what is left -/
def cutz : List Int → List Int → List (List Int) × List Int
  | pc, [] => ([], pc)
  | pc, b :: r => if b = 0 then (pc :: (cutz [] r).1, (cutz [] r).2) else cutz (pc ++ [b]) r
theorem cutz_zero {seg : List Int} (h : NZ seg) (pc r : List Int) : cutz pc (seg ++ 0 :: r) = ((pc ++ seg) :: (cutz [] r).1, (cutz [] r).2) := by
  induction seg generalizing pc with
  | nil => simp [cutz]
  | cons b t ih =>
    have hb : b ≠ 0 := h b (List.mem_cons_self ..)
    simp only [List.cons_append, cutz, if_neg hb]
    rw [ih fun c hc => h c (List.mem_cons_of_mem _ hc)]
    simp
theorem cutz_strm {ps : List (List Int)} (h : ∀ p ∈ ps, By p) : cutz [] (strm ps) = (ps.map piece, []) := by
  induction ps with
  | nil => rfl
  | cons p r ih =>
    rw [strm_cons, cutz_zero (piece_ps (h p (List.mem_cons_self ..))).nz, ih fun q hq => h q (List.mem_cons_of_mem _ hq)]
    rfl
end Sb
/-! TwR: a row walked, list or tuple; what writing streams promises. -/
namespace Tw
open PySem PySem.Spec PyProof.Rows L2 Sb
def ItR (K : PySem.W.Frag) (a : Addr) (b : Bool) : It := if b = true then Itt K a else Itl K a
def iRow (K : PySem.W.Frag) (tl : TE) : TI := fun σ H R => tl σ H fun x H1 => ∃ a xs, x = .ref a ∧ SqR K H1 a xs ∧ ∀ b, (b = true → SqT K H1 a xs) → (b = false → SqL K H1 a xs) → R (ItR K a b) H1
theorem pi_row {X : Cx} {tg l : Expr} {tl : TE} (he : PE X l tl) : PI X tg l (iRow X.K tl) := by
  refine ⟨fun pins s σ H R I h => thn (he.run pins s σ H _ I h) fun v s1 hh => ?_⟩
  obtain ⟨x, H1, I1, rx, a, xs, rfl, hr, q⟩ := hh
  cases rx
  have fp : ∀ b ∈ [s1.heap.objs.size], FpOk X pins H1 b := fun b hb => by
    have e : b = s1.heap.objs.size := by simpa using hb
    rw [e]
    exact I1.fpOk (Nat.le_refl _) (I1.hok.fresh (Nat.le_refl _))
  rcases hr with hr | hr
  · obtain ⟨its, _, pl, _⟩ := I1.list hr
    exact wpAny_pyIter_list pl.isList ⟨s1.heap.objs.size, [s1.heap.objs.size], _, Itl X.K a, H1, rfl, I1.kept (t' := s1.toks) fun b o e => Heap.get?_push_of_some _ e, turn_list a _, ⟨_, Heap.get?_push_size _ rfl, rfl, rfl⟩, fp, q false (fun z => nomatch z) fun _ => hr⟩
  · obtain ⟨its, _, pl, _⟩ := I1.tuple hr
    exact wpAny_pyIter_tuple (show s1.heap.IsTuple a its.toArray from pl) ⟨s1.heap.objs.size, [s1.heap.objs.size], _, Itt X.K a, H1, rfl, I1.kept (t' := s1.toks) fun b o e => Heap.get?_push_of_some _ e, turn_tuple a _, ⟨_, Heap.get?_push_size _ rfl, rfl, rfl⟩, fp, q true (fun _ => hr) fun z => nomatch z⟩
theorem walk_row {K : PySem.W.Frag} {a : Addr} {xs : List V} {b : Bool} : Walk (ItR K a b) xs.length (fun H => if b = true then SqT K H a xs else SqL K H a xs) (YAt xs) := by
  cases b with
  | true => exact walk_tup
  | false => exact walk_list
theorem SqR.star {K : PySem.W.Frag} {H : Hp} {a : Addr} {xs : List V} (h : Rw H a xs) : SqT K H a xs ∨ SqL K H a xs := h.elim (fun h => .inr (SqL.of h)) (fun h => .inl (SqT.of h))
/-- the runs of a whole -/
def spWz : Sp := fun vs H Q _ => ∃ (a : Addr) (xs : List Int), vs = [.ref a] ∧ H a = some (.lst (iV xs)) ∧ By xs ∧ xs.length ≤ 200000 ∧ ∀ (H' : Hp) (p : Addr), Same H H' → Nw H H' p (enc [] xs) → Q (.ref p) H'
/-- rows of bytes -/
def PartAt (H : Hp) (p : List Int) (v : V) : Prop := ∃ r, v = .ref r ∧ Rw H r (iV p) ∧ By p ∧ p.length ≤ 100000
theorem PartAt.same {H H' : Hp} {p : List Int} {v : V} (h : PartAt H p v) (s : Same H H') : PartAt H' p v := by
  obtain ⟨r, e, h1, h2, h3⟩ := h
  exact ⟨r, e, h1.same s, h2, h3⟩
def spStrm : Sp := fun vs H Q _ => ∃ (a : Addr) (ps : List (List Int)) (ws : List V), vs = [.ref a] ∧ Rw H a ws ∧ Paired (PartAt H) ps ws ∧ (strm ps).length ≤ big ∧ ∀ (H' : Hp) (r : Addr), Same H H' → Nw H H' r (strm ps) → Q (.ref r) H'
theorem strm_take_len (ps : List (List Int)) (k : Nat) : (strm (ps.take k)).length ≤ (strm ps).length := by
  have e := congrArg List.length (strm_append (ps.take k) (ps.drop k))
  rw [List.take_append_drop, List.length_append] at e
  omega
theorem SqT.at_ {K : PySem.W.Frag} {H H' : Hp} {a : Addr} {xs : List V} (k : ∀ o, H a = some o → H' a = some o) (h : SqT K H a xs) : SqT K H' a xs := by
  rcases h with (h | ⟨o, h⟩) | h
  · exact .inl (.inl (k _ h))
  · exact .inl (.inr ⟨o, k _ h⟩)
  · exact .inr h
theorem SqL.at_ {K : PySem.W.Frag} {H H' : Hp} {a : Addr} {xs : List V} (k : ∀ o, H a = some o → H' a = some o) (h : SqL K H a xs) : SqL K H' a xs := by
  rcases h with (h | ⟨o, h⟩) | h
  · exact .inl (.inl (k _ h))
  · exact .inl (.inr ⟨o, k _ h⟩)
  · exact .inr h
/-- what stands at a row's place stays while the row stays -/
theorem Rw.keeps {H H0 H' : Hp} {a : Addr} {xs : List V} (h : Rw H a xs) (s : Same H H0) (s' : Same H H') : ∀ o, H0 a = some o → H' a = some o := fun o e => by
  rcases h with h | h
  · rw [s _ _ h] at e
    rw [← e]
    exact s' _ _ h
  · rw [s _ _ h] at e
    rw [← e]
    exact s' _ _ h
end Tw
/-! TwL: lists of lists of bytes; what the laws' own readers of streams promise. -/
namespace Tw
open PySem PySem.Spec PyProof.Rows L2 Sb
/-- v is a list of these numbers, new behind H0 -/
def LisN (H0 H : Hp) (p : List Int) (v : V) : Prop := ∃ l, v = .ref l ∧ Nw H0 H l p
abbrev LisNs (H0 H : Hp) (ps : List (List Int)) (ws : List V) : Prop := Paired (LisN H0 H) ps ws
theorem LisN.keep {H0 H H' : Hp} {p : List Int} {v : V} (h : LisN H0 H p v) (k : ∀ b o, H0 b = none → H b = some o → H' b = some o) : LisN H0 H' p v := by
  obtain ⟨l, e, n⟩ := h
  exact ⟨l, e, n.new, k _ _ n.new n.at_⟩
theorem LisN.old {H0 H1 H : Hp} {p : List Int} {v : V} (h : LisN H1 H p v) (k : ∀ b, H1 b = none → H0 b = none) : LisN H0 H p v := by
  obtain ⟨l, e, n⟩ := h
  exact ⟨l, e, k _ n.new, n.at_⟩
theorem LisNs.keep {H0 H H' : Hp} {ps : List (List Int)} {ws : List V} (h : LisNs H0 H ps ws) (k : ∀ b o, H0 b = none → H b = some o → H' b = some o) : LisNs H0 H' ps ws := pd_mono (fun _ _ q => q.keep k) h
theorem LisNs.same {H0 H H' : Hp} {ps : List (List Int)} {ws : List V} (h : LisNs H0 H ps ws) (s : Same H H') : LisNs H0 H' ps ws := h.keep fun b o _ e => s b o e
theorem LisNs.old {H0 H1 H : Hp} {ps : List (List Int)} {ws : List V} (h : LisNs H1 H ps ws) (k : ∀ b, H1 b = none → H0 b = none) : LisNs H0 H ps ws := pd_mono (fun _ _ q => q.old k) h
theorem LisNs.fs {a b : Addr} {H0 H H' : Hp} {ps : List (List Int)} {ws : List V} (h : LisNs H0 H ps ws) (st : IsSt H0 a b) (f : Fs a b H H') : LisNs H0 H' ps ws := h.keep fun c o n e => f.keep c o (st.na n).1 (st.na n).2 e
theorem LisNs.more {H0 H : Hp} {x : Addr} {o : HO} (hx : H x = none) {ps : List (List Int)} {ws : List V} (h : LisNs H0 H ps ws) : LisNs (upd H0 x o) H ps ws := pd_mono (fun p v q => by
  obtain ⟨l, e, n⟩ := q
  exact ⟨l, e, none_upd (ne_of_none n.at_ hx) n.new, n.at_⟩) h
abbrev pdL (p : List Int) : PyData := .list (p.map PyData.int)
theorem LisNs.dp {K : PySem.W.Frag} {H0 H : Hp} : ∀ {ps : List (List Int)} {ws : List V}, LisNs H0 H ps ws → DpAll K H ws (ps.map pdL)
  | _, _, .nil => .nil
  | _, _, .cons ⟨l, e, n⟩ t => by
    rw [e]
    exact .cons (dpL n.at_) (LisNs.dp t)
theorem sh_lists (ps : List (List Int)) : SeqAt.shaped (.list (ps.map pdL)) = true := by
  have h : PyData.canLayAll0 (ps.map pdL) = true ∧ PyData.depthAll (ps.map pdL) ≤ 1 := by
    induction ps with
    | nil => exact ⟨rfl, by decide⟩
    | cons p r ih =>
      constructor
      · show (PyData.canLayAll0 (p.map PyData.int) && PyData.canLayAll0 (r.map pdL)) = true
        rw [lay_ints, ih.1]
        rfl
      · show max (PyData.depthAll (p.map PyData.int) + 1) (PyData.depthAll (r.map pdL)) ≤ 1
        rw [dep_ints]
        have := ih.2
        omega
  unfold SeqAt.shaped
  rw [Bool.and_eq_true]
  refine ⟨h.1, decide_eq_true ?_⟩
  have := h.2
  show PyData.depthAll _ + 1 ≤ 64
  omega
theorem lists_refl (ps : List (List Int)) : PyData.eqv (.list (ps.map pdL)) (.list (ps.map pdL)) = true := by
  have go : ∀ ps : List (List Int), PyData.eqvAll (ps.map pdL) (ps.map pdL) = true := by
    intro ps
    induction ps with
    | nil => rfl
    | cons p r ih =>
      have e := eqv_int_refl p
      simp only [List.map_cons, PyData.eqvAll, ih, Bool.and_true]
      exact e
  have e := go ps
  simpa only [PyData.eqv] using e
/-- bytes, none too long -/
def OkP (N : Nat) (ps : List (List Int)) : Prop := ∀ p ∈ ps, By p ∧ p.length ≤ N
theorem OkP.parts {N : Nat} {H0 H : Hp} {ps : List (List Int)} {ws : List V} (h : LisNs H0 H ps ws) (k : OkP N ps) (hN : N ≤ 100000) : Paired (PartAt H) ps ws := by
  induction h with
  | nil => exact .nil
  | cons q t ih =>
    obtain ⟨l, e, n⟩ := q
    have hp := k _ (List.mem_cons_self ..)
    exact .cons ⟨l, e, .inl n.at_, hp.1, Nat.le_trans hp.2 hN⟩ (ih fun p hp => k p (List.mem_cons_of_mem _ hp))
theorem strm_len {N : Nat} {ps : List (List Int)} (h : ∀ p ∈ ps, p.length ≤ N) : (strm ps).length ≤ ps.length * (2 * N + 10) := by
  induction ps with
  | nil => exact Nat.zero_le _
  | cons p r ih =>
    have l := piece_len p
    have hp := h p (List.mem_cons_self ..)
    have := ih fun q hq => h q (List.mem_cons_of_mem _ hq)
    rw [strm_cons, List.length_append, List.length_cons, List.length_cons, Nat.succ_mul]
    omega
/-- a function of the state that tells a new list of new lists of bytes -/
def spLists (M N : Nat) : Sp := fun vs H Q _ => ∃ (a b : Addr), vs = [.ref a] ∧ IsSt H a b ∧ ∀ (H' : Hp) (r : Addr) (ws : List V) (ps : List (List Int)), Fs a b H H' → H r = none → H' r = some (.lst ws) → LisNs (upd H r (.lst [])) H' ps ws → OkP N ps → ps.length ≤ M → Q (.ref r) H'
/-- the part and its check -/
def spWholeL : Sp := fun vs H Q _ => ∃ (a : Addr) (ns : List Int), vs = [.ref a] ∧ H a = some (.lst (iV ns)) ∧ By ns ∧ ns.length ≤ 200000 ∧ ∀ (H' : Hp) (p : Addr), Same H H' → Nw H H' p (whole ns) → Q (.ref p) H'
/-- what comes out of a piece, by the law's stricter undoing -/
def spUndoneA : Sp := fun vs H Q _ => ∃ (a : Addr) (ns : List Int), vs = [.ref a] ∧ H a = some (.lst (iV ns)) ∧ By ns ∧ NZ ns ∧ ns.length ≤ big ∧ ∀ (H' : Hp) (v : V), Same H H' → optL H H' (undoA ns.length 0 [] ns) v → Q v H'
def spTrueL : Sp := fun vs H Q _ => ∃ (a : Addr) (ns : List Int), vs = [.ref a] ∧ H a = some (.lst (iV ns)) ∧ By ns ∧ ∀ H', Same H H' → Q (.bl true) H'
/-- the law's own cutting at zeros, of a stream that a zero ends -/
def spCutz : Sp := fun vs H Q _ => ∃ (d : Addr) (xs : List Int), vs = [.ref d] ∧ H d = some (.lst (iV xs)) ∧ By xs ∧ xs.length ≤ big ∧ (cutz [] xs).2 = [] ∧ ∀ (H' : Hp) (r : Addr) (ws : List V), Same H H' → H r = none → H' r = some (.lst ws) → LisNs (upd H r (.lst [])) H' (cutz [] xs).1 ws → Q (.ref r) H'
def withZ (p : List Int) : List Int := p ++ [0]
/-- .. each piece with its zero -/
def spCutzz : Sp := fun vs H Q _ => ∃ (d : Addr) (xs : List Int), vs = [.ref d] ∧ H d = some (.lst (iV xs)) ∧ By xs ∧ xs.length ≤ big ∧ (cutz [] xs).2 = [] ∧ ∀ (H' : Hp) (r : Addr) (ws : List V), Same H H' → H r = none → H' r = some (.lst ws) → LisNs (upd H r (.lst [])) H' ((cutz [] xs).1.map withZ) ws → Q (.ref r) H'
/-- a pair of a place and a list of bytes -/
def DueAt (H : Hp) (q : Nat × List Int) (v : V) : Prop := ∃ a l, v = .ref a ∧ H a = some (.tup [.int (q.1 : Nat), .ref l]) ∧ H l = some (.lst (iV q.2))
theorem DueAt.same {H H' : Hp} {q : Nat × List Int} {v : V} (h : DueAt H q v) (s : Same H H') : DueAt H' q v := by
  obtain ⟨a, l, e, h1, h2⟩ := h
  exact ⟨a, l, e, s _ _ h1, s _ _ h2⟩
def partT (q : Nat × List Int) : Tell := .part q.1 q.2
def spRight : Sp := fun vs H Q _ => ∃ (f d : Addr) (ws zs : List V) (qs : List (Nat × List Int)) (H0 : Hp), vs = [.ref f, .ref d] ∧ H f = some (.lst ws) ∧ H d = some (.lst zs) ∧ Tls H0 H (qs.map partT) ws ∧ Paired (DueAt H) qs zs ∧ ∀ H', Same H H' → Q (.bl true) H'
end Tw
/-! TwX: a list grows by a row; slices of rows. -/
namespace Tw
open PySem PySem.Spec PyProof.Rows L2 Sb
open AutoSeq1 (wpAny_loadPart')
section
theorem ext_tup (l : Addr) (ia : Array Value) (n : Nat) (b : Addr) (ib : Array Value) (m : Nat) (dd : Option Addr) (ss : Array (Option Value)) (h0 : ¬(!ia.isEmpty && Builtin.List.listTooLong (ia.size + ib.size)) = true) (h1 : ia.size ≤ sizeLine) (h2 : ia.size + ib.size ≤ sizeLine + 1) :
    Meets (Builtin.«list.extend» ⟨[.ref l, .ref b], []⟩) (fun _ R z => z.heap.get? l = some { cls := .type "list", dict := none, data := .seq ia n, slots := #[] } ∧ z.heap.get? b = some { cls := .type "tuple", dict := dd, data := .seq ib m, slots := ss } ∧
      R (.ok (.ret Value.none)) { z with heap := z.heap.update l (Obj.mapSeq fun x => x ++ ib), toks := z.toks }) := by
  refine .of_wp fun pg wo Ar R z hz => ?_
  obtain ⟨hp, g, d, tk, os⟩ := z
  obtain ⟨hl, hb, h⟩ := hz
  have k1 := AutoSeq1.idx_int
  have k2 := AutoSeq1.sub_tuple_tuple
  have k3 := AutoSeq1.sub_list_list
  have k4 := AutoSeq1.sub_tuple_list
  have k5 := AutoSeq1.sub_list_tuple
  have k6 : (ia ++ ib).size ≤ sizeLine + 1 := by
    rw [Array.size_append]
    exact h2
  wp_walk using (PySem.wpAny_updateSeq hl rfl (hz := h1) (_hz' := k6)), wpAny_loadPart' hl, wpAny_loadPart' hb
  exact ⟨_, rfl, h⟩
end
def rExtR : V → List V → Hp → VK → Prop := fun x vs H Q => ∃ l b xs zs, x = .ref l ∧ vs = [.ref b] ∧ H l = some (.lst xs) ∧ Rw H b zs ∧ xs.length + zs.length ≤ sizeLine ∧ Q .non (upd H l (.lst (xs ++ zs)))
theorem mt_extR {X : Cx} : MtM X "list.extend" rExtR := by
  rintro pins s σ H x vs v us Q I rx rv ⟨l, b, xs, zs, rfl, rfl, hH, hB, hz, q⟩
  rcases hB with hB | hB
  · exact mt_extend pins s σ H (.ref l) [.ref b] v us Q I rx rv ⟨l, b, xs, zs, rfl, rfl, hH, hB, hz, q⟩
  · cases rx
    obtain ⟨u, rfl, ru⟩ := rv.one
    cases ru
    obtain ⟨z, its, n, r, hl, e⟩ := I.lstM hH
    obtain ⟨its2, r2, ⟨⟨c2, d2, dt2, sl2⟩, e2, hc2, m, hd2⟩, _⟩ := I.tuple (SqT.of (K := X.K) hB)
    replace hc2 : c2 = .type "tuple" := hc2
    replace hd2 : dt2 = .seq its2.toArray m := hd2
    subst hc2 hd2
    have l2 := r2.length
    have sz : its.toArray.size + its2.toArray.size ≤ sizeLine := by
      rw [List.size_toArray, List.size_toArray]
      omega
    have lg : ¬ (!its.toArray.isEmpty && Builtin.List.listTooLong (its.toArray.size + its2.toArray.size)) = true := by
      rw [notLongL sz, Bool.and_false]
      exact Bool.false_ne_true
    refine call_meets F.slot_list_extend ⟨_, e, rfl⟩ F.entry_list_extend (F.args_list_extend_2 _ _) (ext_tup l its.toArray n b its2.toArray m d2 sl2 lg (by rw [List.size_toArray]; omega) (by omega)) ⟨e, e2, .non, _, I.lset (its' := its ++ its2) hH e (by simp) (r.append r2) ?_, rfl, q⟩
    rw [List.length_append]
    omega
/-- a slice of a row is a row -/
def rSlR : V → Option Int → Option Int → Hp → VK → Prop := fun x lo hi H Q => ∃ a xs, x = .ref a ∧ Rw H a xs ∧ ∀ (H' : Hp) (t : Addr), Same H H' → Rw H' t (cutV xs lo hi) → Q (.ref t) H'
theorem sl_row {X : Cx} : SlR X rSlR := by
  intro pins s σ H x v vl vu lo hi sl Q I rx hs pl pu h
  refine SlR.or (sl_list (X := X)) (sl_tupA (X := X)) pins s σ H x v vl vu lo hi sl Q I rx hs pl pu ?_
  obtain ⟨a, xs, rfl, hr, q⟩ := h
  rcases hr with hr | hr
  · exact .inl ⟨a, xs, rfl, SqL.of hr, fun p hp => q _ p (same_upd hp) (.inl upd_same)⟩
  · refine .inr ⟨a, xs, rfl, SqT.of hr, fun e => q H a (Same.refl _) ?_, fun _ p hp => q _ p (same_upd hp) (.inr upd_same)⟩
    have c : cutV xs lo hi = xs := by
      unfold cutV
      rw [e.1, e.2, List.drop_zero, Nat.sub_zero, List.take_length]
    rw [c]
    exact .inr hr
def spFFeedR (C : Addr) : Sp := fun vs H Q _ => ∃ (p d l : Addr) (rest xs : List Int) (pl : Nat), vs = [.ref p, .ref d] ∧ FdAt C H p l rest pl ∧ Rw H d (iV xs) ∧ d ≠ l ∧ By rest ∧ NZ rest ∧ By xs ∧ rest.length + xs.length ≤ big ∧
  ∀ (H' : Hp) (l' r : Addr) (ws : List V), But p l H H' → FdAt C H' p l' (goes rest pl xs).2.1 (goes rest pl xs).2.2 → (l' = l ∨ H l' = none) → H r = none → r ≠ l' → H' r = some (.lst ws) → Tls (upd (upd H r (.lst [])) l' (.lst [])) H' (goes rest pl xs).1 ws → Q (.ref r) H'
def spUnstR : Sp := fun vs H Q _ => ∃ (d : Addr) (xs : List Int), vs = [.ref d] ∧ Rw H d (iV xs) ∧ By xs ∧ xs.length ≤ big ∧ ∀ (H' : Hp) (r : Addr) (ws : List V), Same H H' → H r = none → H' r = some (.lst ws) → Tls (upd H r (.lst [])) H' (unstr xs) ws → Q (.ref r) H'
theorem Rw.ne {H : Hp} {a p : Addr} {xs : List V} {o : HO} (h : Rw H a xs) (e : H p = some o) (n1 : ∀ ys, o ≠ .lst ys) (n2 : ∀ ys, o ≠ .tup ys) : a ≠ p := fun w => by
  rcases h with h | h
  · rw [w, e] at h
    exact n1 _ (Option.some.inj h)
  · rw [w, e] at h
    exact n2 _ (Option.some.inj h)
theorem Rw.at_ {H H' : Hp} {a : Addr} {xs : List V} (h : Rw H a xs) (k : ∀ o, H a = some o → H' a = some o) : Rw H' a xs := h.elim (fun h => .inl (k _ h)) (fun h => .inr (k _ h))
theorem Rw.some {H : Hp} {a : Addr} {xs : List V} (h : Rw H a xs) (e : H a = none) : False := by
  rcases h with h | h
  · rw [h] at e
    cases e
  · rw [h] at e
    cases e
end Tw
/-! Sc: runs of bytes; cells of a stream. -/
namespace Sb
open PySem PySem.Spec PyProof.Rows L2 Tw
/-- a run: where it begins, what it holds, whether a zero ends it -/
def rn : List Int → Nat → List Int → List (Nat × List Int × Bool)
  | pc, pl, [] => if pc = [] then [] else [(pl, pc, false)]
  | pc, pl, b :: r => if b = 0 then (if pc = [] then [] else [(pl, pc, true)]) ++ rn [] (pl + pc.length + 1) r else rn (pc ++ [b]) pl r
def rnT (r : Nat × List Int × Bool) : Tell := if r.2.2 = true then tell r.1 r.2.1 else .torn r.1 r.2.1.length
def rnS (r : Nat × List Int × Bool) : List Int := [((r.1 : Nat) : Int), ((r.2.1.length : Nat) : Int)]
theorem goes_rn (pc : List Int) (pl : Nat) (xs : List Int) : (goes pc pl xs).1 ++ rests (goes pc pl xs).2.1 (goes pc pl xs).2.2 = (rn pc pl xs).map rnT := by
  induction xs generalizing pc pl with
  | nil =>
    cases pc <;> rfl
  | cons b r ih =>
    by_cases hb : b = 0
    · simp only [goes, rn, if_pos hb, List.append_assoc, ih, List.map_append]
      congr 1
      cases pc <;> rfl
    · simp only [goes, rn, if_neg hb, ih]
theorem unstr_rn (xs : List Int) : unstr xs = (rn [] 0 xs).map rnT := goes_rn [] 0 xs
theorem rn_many (pc : List Int) (pl : Nat) (xs : List Int) : (rn pc pl xs).length ≤ xs.length + 1 := by
  induction xs generalizing pc pl with
  | nil =>
    simp only [rn]
    split <;> simp
  | cons b r ih =>
    simp only [rn]
    split
    · have := ih [] (pl + pc.length + 1)
      rw [List.length_append]
      split <;> simp <;> omega
    · have := ih (pc ++ [b]) pl
      simp
      omega
/-- each run is one -/
theorem rn_at {pre pc xs : List Int} {pl : Nat} (hl : pre.length = pl) (hz : NZ pc) {q : Nat × List Int × Bool} (h : q ∈ rn pc pl xs) :
    ∃ A T, pre ++ pc ++ xs = A ++ q.2.1 ++ T ∧ A.length = q.1 ∧ NZ q.2.1 ∧ q.2.1 ≠ [] ∧ ((q.2.2 = true ∧ ∃ S, T = 0 :: S) ∨ (q.2.2 = false ∧ T = [])) := by
  induction xs generalizing pre pc pl with
  | nil =>
    simp only [rn] at h
    by_cases e : pc = []
    · rw [if_pos e] at h
      cases h
    · rw [if_neg e] at h
      have e2 : q = (pl, pc, false) := by simpa using h
      subst e2
      exact ⟨pre, [], rfl, hl, hz, e, .inr ⟨rfl, rfl⟩⟩
  | cons b r ih =>
    simp only [rn] at h
    by_cases hb : b = 0
    · rw [if_pos hb] at h
      rcases List.mem_append.mp h with h | h
      · by_cases e : pc = []
        · rw [if_pos e] at h
          cases h
        · rw [if_neg e] at h
          have e2 : q = (pl, pc, true) := by simpa using h
          subst e2
          exact ⟨pre, b :: r, rfl, hl, hz, e, .inl ⟨rfl, r, by rw [hb]⟩⟩
      · have := ih (pre := pre ++ pc ++ [b]) (pc := []) (pl := pl + pc.length + 1) (by simp; omega) .nil h
        obtain ⟨A, T, e, t⟩ := this
        exact ⟨A, T, by rw [← e]; simp, t⟩
    · rw [if_neg hb] at h
      have := ih (pre := pre) (pc := pc ++ [b]) (pl := pl) hl (hz.append fun c hc => by
        have : c = b := by simpa using hc
        rw [this]
        exact hb) h
      obtain ⟨A, T, e, t⟩ := this
      exact ⟨A, T, by rw [← e]; simp, t⟩
theorem run_eq {pc w T S : List Int} (h1 : NZ pc) (h2 : NZ w) (e : pc ++ T = w ++ 0 :: S) (k : T = [] ∨ ∃ R, T = 0 :: R) : pc = w ∧ T ≠ [] := by
  induction pc generalizing w with
  | nil =>
    cases w with
    | nil =>
      refine ⟨rfl, fun z => ?_⟩
      rw [z] at e
      simp at e
    | cons x w =>
      rcases k with k | ⟨R, k⟩
      · rw [k] at e
        simp at e
      · rw [k] at e
        simp only [List.nil_append, List.cons_append, List.cons.injEq] at e
        exact absurd e.1.symm (h2 x (List.mem_cons_self ..))
  | cons y pc ih =>
    cases w with
    | nil =>
      simp only [List.nil_append, List.cons_append, List.cons.injEq] at e
      exact absurd e.1 (h1 y (List.mem_cons_self ..))
    | cons x w =>
      simp only [List.cons_append, List.cons.injEq] at e
      obtain ⟨i1, i2⟩ := ih (fun c hc => h1 c (List.mem_cons_of_mem _ hc)) (fun c hc => h2 c (List.mem_cons_of_mem _ hc)) e.2
      exact ⟨by rw [e.1, i1], i2⟩
theorem drop_of {xs ys : List Int} {at_ : Nat} (h : ∀ k b, ys[k]? = some b → xs[at_ + k]? = some b) : ∃ S, xs.drop at_ = ys ++ S := by
  induction ys generalizing at_ with
  | nil => exact ⟨_, rfl⟩
  | cons y ys ih =>
    have h0 : xs[at_]? = some y := h 0 y rfl
    obtain ⟨S, e⟩ := ih (at_ := at_ + 1) fun k b hk => by
      have := h (k + 1) b (by simpa using hk)
      rw [← this]
      congr 1
      omega
    have hl := (List.getElem?_eq_some_iff.mp h0).1
    refine ⟨S, ?_⟩
    rw [List.drop_eq_getElem_cons hl, e, (List.getElem?_eq_some_iff.mp h0).2]
    rfl
/-- where a piece stands untouched, its run is just that piece -/
theorem rn_piece {xs p : List Int} (hp : By p) {q : Nat × List Int × Bool} (h : q ∈ rn [] 0 xs) (u : ∀ k b, (withZ (piece p))[k]? = some b → xs[q.1 + k]? = some b) : rnT q = .part q.1 p := by
  obtain ⟨A, T, e, hA, hz, hn, hT⟩ := rn_at (pre := []) rfl .nil h
  have e' : xs = A ++ (q.2.1 ++ T) := by simpa using e
  obtain ⟨S, es⟩ := drop_of u
  rw [e', ← hA, List.drop_left'] at es
  · have es2 : q.2.1 ++ T = piece p ++ 0 :: S := by rw [es]; simp [withZ]
    obtain ⟨r1, r2⟩ := run_eq hz (piece_ps hp).nz es2 (by rcases hT with ⟨_, S, h⟩ | ⟨_, h⟩; exact .inr ⟨S, h⟩; exact .inl h)
    rcases hT with ⟨h1, _⟩ | ⟨_, h2⟩
    · unfold rnT
      rw [if_pos h1, r1, tell_piece]
    · exact absurd h2 r2
  · rfl
/-- cells: a byte, of which piece, which byte of it -/
abbrev Ce := Int × Int × Int
def cel (n p : Nat) : List Int → List Ce
  | [] => []
  | b :: r => (b, (n : Int), (p : Int)) :: if b = 0 then cel (n + 1) 0 r else cel n (p + 1) r
def szs (s : Nat) : List Int → List Nat
  | [] => []
  | b :: r => if b = 0 then (s + 1) :: szs 0 r else szs (s + 1) r
/-- a cell put in, or one of the pieces' own -/
def CeOk (ps : List (List Int)) (c : Ce) : Prop := (0 ≤ c.1 ∧ c.1 ≤ 255) ∧ (c.2.1 < 0 ∨ ∃ (n k : Nat) (p : List Int), c.2.1 = n ∧ c.2.2 = k ∧ ps[n]? = some p ∧ (withZ (piece p))[k]? = some c.1)
theorem szs_nz {seg : List Int} (h : NZ seg) (s : Nat) (r : List Int) : szs s (seg ++ 0 :: r) = (s + seg.length + 1) :: szs 0 r := by
  induction seg generalizing s with
  | nil => simp [szs]
  | cons b t ih =>
    have hb : b ≠ 0 := h b (List.mem_cons_self ..)
    simp only [List.cons_append, szs, if_neg hb]
    rw [ih (fun c hc => h c (List.mem_cons_of_mem _ hc))]
    simp
    omega
theorem szs_strm {ps : List (List Int)} (h : ∀ p ∈ ps, By p) : szs 0 (strm ps) = ps.map fun p => (withZ (piece p)).length := by
  induction ps with
  | nil => rfl
  | cons p ps ih =>
    rw [strm_cons, szs_nz (piece_ps (h p (List.mem_cons_self ..))).nz, ih fun q hq => h q (List.mem_cons_of_mem _ hq)]
    simp [withZ]
theorem cel_len (n p : Nat) (xs : List Int) : (cel n p xs).length = xs.length := by
  induction xs generalizing n p with
  | nil => rfl
  | cons b r ih =>
    simp only [cel, List.length_cons]
    split <;> rw [ih]
theorem cel_ok {all : List (List Int)} {n p : Nat} {pre seg r : List Int} {q : List Int} {ps : List (List Int)} (hs : NZ seg) (hb : By seg) (hq : piece q = pre ++ seg) (hp : pre.length = p) (ha : all[n]? = some q)
    (ih : ∀ c ∈ cel (n + 1) 0 r, CeOk all c) : ∀ c ∈ cel n p (seg ++ 0 :: r), CeOk all c := by
  induction seg generalizing pre p with
  | nil =>
    intro c hc
    simp only [List.nil_append, cel, if_true] at hc
    rcases List.mem_cons.mp hc with e | e
    · rw [e]
      refine ⟨⟨Int.le_refl _, by show (0 : Int) ≤ 255; decide⟩, .inr ⟨n, p, q, rfl, rfl, ha, ?_⟩⟩
      unfold withZ
      rw [hq, List.append_nil, ← hp, List.getElem?_append_right (Nat.le_refl _), Nat.sub_self]
      rfl
    · exact ih c e
  | cons b t it =>
    intro c hc
    have hb0 : b ≠ 0 := hs b (List.mem_cons_self ..)
    simp only [List.cons_append, cel, if_neg hb0] at hc
    rcases List.mem_cons.mp hc with e | e
    · rw [e]
      refine ⟨hb b (List.mem_cons_self ..), .inr ⟨n, p, q, rfl, rfl, ha, ?_⟩⟩
      unfold withZ
      rw [hq, ← hp, List.append_assoc, List.getElem?_append_right (Nat.le_refl _), Nat.sub_self]
      rfl
    · exact it (pre := pre ++ [b]) (p := p + 1) (fun c hc => hs c (List.mem_cons_of_mem _ hc)) (fun c hc => hb c (List.mem_cons_of_mem _ hc)) (by rw [hq]; simp) (by simp [hp]) c e
theorem cel_strm {all ps : List (List Int)} {n : Nat} (h : ∀ p ∈ ps, By p) (ha : ∀ i, ps[i]? = all[n + i]?) : ∀ c ∈ cel n 0 (strm ps), CeOk all c := by
  induction ps generalizing n with
  | nil => intro c hc; cases hc
  | cons p ps ih =>
    rw [strm_cons]
    have hp := h p (List.mem_cons_self ..)
    refine cel_ok (ps := ps) (pre := []) (piece_ps hp).nz (piece_ps hp).by rfl rfl (ha 0).symm (ih (fun q hq => h q (List.mem_cons_of_mem _ hq)) fun i => ?_)
    have := ha (i + 1)
    rw [show n + 1 + i = n + (i + 1) by omega, ← this]
    rfl
end Sb
/-! TwE: what is no bytes; the error that is raised of it. -/
namespace Tw
open PySem PySem.Spec PyProof.Rows L2 Sb
/-- a thing out of a row: is it a byte? -/
inductive ElT (H : Hp) : V → Bool → Prop
  | int (n : Int) : ElT H (.int n) (decide (0 ≤ n) && decide (n ≤ 255))
  | bl (c : Bool) : ElT H (.bl c) false
  | non : ElT H .non false
  | str (s : Str) : ElT H (.str s) false
  | row {a : Addr} {xs : List V} : Rw H a xs → ElT H (.ref a) false
theorem ElT.same {H H' : Hp} {x : V} {b : Bool} (h : ElT H x b) (s : Same H H') : ElT H' x b := by
  cases h with
  | int n => exact .int n
  | bl c => exact .bl c
  | non => exact .non
  | str z => exact .str z
  | row h => exact .row (h.same s)
/-- a thing: is it a row of bytes? -/
inductive ByT (H : Hp) : V → Bool → Prop
  | row {a : Addr} {xs : List V} {bs : List Bool} : Rw H a xs → Paired (ElT H) xs bs → xs.length ≤ big → ByT H (.ref a) (bs.all id)
  | int (n : Int) : ByT H (.int n) false
  | bl (c : Bool) : ByT H (.bl c) false
  | non : ByT H .non false
  | str (s : Str) : ByT H (.str s) false
theorem ByT.same {H H' : Hp} {x : V} {b : Bool} (h : ByT H x b) (s : Same H H') : ByT H' x b := by
  cases h with
  | row h p l => exact .row (h.same s) (pd_mono (fun _ _ q => q.same s) p) l
  | int n => exact .int n
  | bl c => exact .bl c
  | non => exact .non
  | str z => exact .str z
def spBytesG : Sp := fun vs H Q _ => ∃ (v : V) (b : Bool), vs = [v] ∧ ByT H v b ∧ ∀ H', Same H H' → Q (.bl b) H'
/-- the error of the class at C, told why -/
def spRefuseX (C : Addr) : Sp := fun vs H Q E => ∃ (v : V) (b : Bool), vs = [v] ∧ ByT H v b ∧ (b = true → ∀ H', Same H H' → Q .non H') ∧
  (b = false → ∀ (H' : Hp) (d : Addr), Same H H' → H d = none → H' d = some (.xd [(("why" : Str), .str "wire")]) → E (.ref C) (some d) H')
def spNbInit (C : Addr) : Sp := fun vs H Q _ => ∃ (a : Addr) (y : V), vs = [.ref a, y] ∧ H a = some (exo a C none) ∧ ∀ dx, H dx = none → dx ≠ a → Q .non (upd (upd H dx (exd dx [(("why" : Str), y)])) a (exo a C (some dx)))
/-- what the top says of the error's class -/
structure NbC (K : PySem.W.Frag) (mg : Str → Option Value) (x : Str) (C fI : Addr) : Prop where
  oex : OexC K C
  g : mg x = some (.ref C)
  iC : PySem.W.findIn K (.ref C) "__init__" = some (some (.ref fI))
  tI : PySem.W.typeIn K (.ref fI) = some (.type "function")
  no : PySem.W.findIn K (.ref C) "why" = some none
end Tw
/-! TwF: calls that may raise, inside of a try or out of a def; isinstance of a caught error that has fields. -/
namespace Tw
open PySem PySem.Spec PyProof.Rows L2 Sb
section
variable {X : Cx} {CX : CXT} {k j : Nat} {f C : Addr} {fd : FuncData} {ps : List Str} {sp : Sp} {E : L2.St → XK} {x m : Str} {p pos apos : Pos} {e o : Expr} {es : List Expr} {to : TE} {t : TA}
/-- the reading of o.m(..), what it lets out told at the slots -/
def tMethA (C : Addr) (m : Str) (sp : Sp) (E : L2.St → XK) (to : TE) (t : TA) : TE := fun σ H Q => to σ H fun x H1 => ∃ a dx fs, x = .ref a ∧ H1 a = some (.ins C dx fs) ∧ fs.lookup m = none ∧ t σ H1 fun vs H2 => sp (x :: vs) H2 Q (E σ)
theorem pe_methA {pl : Sem Bool} (ho : PE X o to) (c : Cls X.K C) (hm : Meth X.K C m f) (F : FnOk X.prog X.w X.K X.mg X.base CX k f fd ps sp) (hr : Room k X.A) (hb : Binds X.K fd ps []) (hx : ∀ σ, PassesAt CX X σ (E σ)) (ha : PA X (e :: es) t)
    (hst : starEach (e :: es) X.env = (false, eval e X.env) :: starEach es X.env := by rfl) (hpl : (backTo pos (starEach es X.env)).any (·.1) = false := by rfl)
    (ht : eval (.Call (.Attribute o m apos) (e :: es) [] pos) X.env = (do
      let ov ← eval o X.env
      standAt apos.atName
      let (f, first) ← holding [ov] (getMethod ov m pl)
      callWith pos f first (backTo pos (starEach (e :: es) X.env)) (backToKw pos (keywordEach [] X.env))) := by rfl) :
    PE X (.Call (.Attribute o m apos) (e :: es) [] pos) (tMethA C m sp E to t) := ⟨fun pins s σ H Q I h =>
  PySem.W.methodCall_KW (pl := pl) (thn (ho.run pins s σ H _ I h) fun u s1 z => by
    obtain ⟨y, H1, I1, ry, a, dx, fs, rfl, ea, l, q⟩ := z
    obtain rfl : u = Value.ref a := ry
    exact getmeth_ok I1 ea c hm l (PySem.W.callWith_K (first := [.ref a]) (h₀ := X.base) I.ok.mod.kin hm.kp (thn (ha.run pos pins s1 σ H1 _ I1 q) fun us s2 z2 => by
      obtain ⟨vs, H2, I2, r, q2⟩ := z2
      exact ⟨I2.kIn, run_fnS (us := .ref a :: us) (vs := .ref a :: vs) F hr hb (hx σ) I2 (.cons rfl r) q2⟩) hst hpl)) ht⟩
/-- a def of the module that may raise -/
structure CalX (P : Program) (w : World) (K : PySem.W.Frag) (mg : Str → Option Value) (base : Heap) (k : Nat) (x : Str) (ps : List Str) (sp : Sp) : Prop where
  ex : ∃ (f : Addr) (fd : FuncData), FnOk P w K mg base (L2.CX P w) k f fd ps sp ∧ mg x = some (.ref f) ∧ PySem.W.keepIn K (.ref f) = true ∧ Binds K fd ps []
theorem pe_calX {W : WX} (c : CalX X.prog X.w X.K X.mg X.base k x ps sp) (hr : Room j X.A) (hk : k ≤ j) (hg : Gl X x) (tk : Takes X W) (ha : PA X (e :: es) t)
    (hdb : (x == ("__debug__" : Str)) = false := by decide) (he : starEach (e :: es) X.env = (false, eval e X.env) :: starEach es X.env := by rfl) (hpl : (backTo pos (starEach es X.env)).any (·.1) = false := by rfl) :
    PE X (.Call (.Name x p) (e :: es) [] pos) (tCallS sp (WE W) t) := by
  obtain ⟨f, fd, F, hm, kp, b⟩ := c.ex
  exact pe_callS F (hr.mono hk) hg hm kp b (fun σ => passAt tk σ) ha hdb he hpl
theorem calX_mk {P : Program} {w : World} {K : PySem.W.Frag} {mg : Str → Option Value} {base h : Heap} {st : Stmt} (D : DefIn K x st) (X : K.In h) (G : h.Ns mainGlobals mg)
    (b : ∀ (kV doc pm : Value) (an : Option Addr) (cdv ct : Value) (us : List Value), us.length = ps.length → bindArgs (PySem.W.fnOf x x (defArgs st) (defBody st) (defScope st) .none kV doc pm an cdv ct) ⟨us, []⟩ = pure (ps.zip us))
    (ok : ∀ (f : Addr) (fd : FuncData), Fun K x x st f fd → FnOk P w K mg base (L2.CX P w) k f fd ps sp) : CalX P w K mg base k x ps sp := by
  obtain ⟨f, oc, od, an, osl, kV, dc, pm, cd, ct, a, l, c, kp⟩ := D
  have F := fun_mk (st := st) l c kp
  exact ⟨f, _, ok f _ F, PySem.W.mg_of X G a, kp, F.binds b⟩
/-- a method that may raise -/
structure MCalX (P : Program) (w : World) (K : PySem.W.Frag) (mg : Str → Option Value) (base : Heap) (C : Addr) (k : Nat) (m : Str) (ps : List Str) (sp : Sp) : Prop where
  ex : ∃ (f : Addr) (fd : FuncData), Meth K C m f ∧ FnOk P w K mg base (L2.CX P w) k f fd ps sp ∧ Binds K fd ps []
theorem mcalX_mk {P : Program} {w : World} {K : PySem.W.Frag} {mg : Str → Option Value} {base : Heap} {q : Str} {st : Stmt} (D : MethIn K C m q st) (b : ∀ (kV doc pm : Value) (an : Option Addr) (cdv ct : Value) (us : List Value), us.length = ps.length → bindArgs (PySem.W.fnOf m q (defArgs st) (defBody st) (defScope st) .none kV doc pm an cdv ct) ⟨us, []⟩ = pure (ps.zip us))
    (ok : ∀ (f : Addr) (fd : FuncData), Fun K m q st f fd → FnOk P w K mg base (L2.CX P w) k f fd ps sp) : MCalX P w K mg base C k m ps sp := by
  obtain ⟨f, oc, od, an, osl, kV, dc, pm, cd, ct, a, i, l, c, kp⟩ := D
  have F := fun_mk (st := st) l c kp
  exact ⟨f, _, ⟨a, i, kp⟩, ok f _ F, F.binds b⟩
theorem pe_mcalX {W : WX} {pl : Sem Bool} (M : MCalX X.prog X.w X.K X.mg X.base C k m ps sp) (c : Cls X.K C) (hr : Room j X.A) (hk : k ≤ j) (tk : Takes X W) (ho : PE X o to) (ha : PA X (e :: es) t)
    (hst : starEach (e :: es) X.env = (false, eval e X.env) :: starEach es X.env := by rfl) (hpl : (backTo pos (starEach es X.env)).any (·.1) = false := by rfl)
    (ht : eval (.Call (.Attribute o m apos) (e :: es) [] pos) X.env = (do
      let ov ← eval o X.env
      standAt apos.atName
      let (f, first) ← holding [ov] (getMethod ov m pl)
      callWith pos f first (backTo pos (starEach (e :: es) X.env)) (backToKw pos (keywordEach [] X.env))) := by rfl) : PE X (.Call (.Attribute o m apos) (e :: es) [] pos) (tMethA C m sp (WE W) to t) := by
  obtain ⟨f, fd, hm, F, b⟩ := M.ex
  exact pe_methA ho c hm F (hr.mono hk) b (fun σ => passAt tk σ) ha hst hpl ht
end
/-- isinstance(e, c), e the error that the suite holds: of the class at D, its fields in a dict -/
def rIsX (K : PySem.W.Frag) (D a : Addr) (cls : Value) (d : Option Addr) : List V → Hp → VK → Prop := fun xs H Q => ∃ (c : V) (cv : Value) (b : Bool) (dd : Addr) (fs : List (Str × V)), xs = [.ref a, c] ∧ cls = .ref D ∧ d = some dd ∧ H dd = some (.xd fs) ∧ (∀ u, RelV c u → u = cv) ∧ PySem.W.kitOne K (.ref D) cv = some b ∧ Q (.bl b) H
theorem call_isX {X : Cx} {a D : Addr} {oe : Obj} {cls : Value} {d : Option Addr} {pn : List (Addr × Obj)} (C : ExcC X.K D) (hz : Zc cls d oe) (hf : ∃ vs, oe.data = .fields vs) : CallR (X.suite a ((a, oe) :: pn)) (.builtin "isinstance") (rIsX X.K D a cls d) := by
  rintro pins s σ H xs us Q I r ⟨c, cv, b, dd, fs, rfl, rfl, rfl, hdd, hcv, e, q⟩
  obtain ⟨u1, u2, rfl, rx, rt⟩ : ∃ u1 u2, us = [u1, u2] ∧ RelV (.ref a) u1 ∧ RelV c u2 := by
    cases r with
    | cons rx rr =>
      cases rr with
      | cons rt rr =>
        cases rr
        exact ⟨_, _, rfl, rx, rt⟩
  cases rx
  obtain rfl := hcv _ rt
  have at_ : s.heap.get? a = some oe := (I.pin (a, oe) (List.mem_append_left _ List.mem_cons_self)).1
  have hx : ObjOk X.prog X.w H s.heap dd (.xd fs) := I.hok dd _ hdd
  obtain ⟨mA, hns, _⟩ := hx
  obtain ⟨od, ho, _⟩ := lookIn_ns hns
  obtain ⟨vs, hv⟩ := hf
  have J : PySem.W.InstAt s.heap a oe D (some od) := ⟨at_, hz.1, by unfold PySem.W.notCls; rw [hv] <;> rfl, by rw [hz.2]; exact ho⟩
  have hcl : (PySem.W.clsIn X.K D).isSome = true := by
    obtain ⟨cd, hc, _⟩ := PySem.W.any_some C.hd
    rw [hc]
    rfl
  exact PySem.W.kia_one (PySem.W.kitx_exc hcl C.hg C.hk C.hs C.ha C.hn C.ht C.hm) I.kIn J e (fun z => nomatch z) fun tk => ⟨.bl b, H, I.kept (t' := tk) fun _ _ z => z, rfl, q⟩
end Tw
namespace Tw
open PySem PySem.Spec PyProof.Rows L2 Sb
theorem oexC_mk {K : PySem.W.Frag} {C : Addr} {nm q : Str} {N : Addr} {bs bm : List Value} {sn : List Str} {sub : List Value} {ab : Bool} {col : Option Bool} {dd : Option Addr} {k0 k1 k2 k3 k5 : Option Value}
    (ox : K.lookup C = some (excClassObj nm q C N bs bm true sn sub ab col dd k0 k1 k2 k3 k5 "ValueError.__new__")) (orf : PySem.HandSPX.refsVE bm = true) (sa : PySem.W.findIn K (.ref C) "__setattr__" = some (some (.builtin "object.__setattr__"))) (ex : PySem.W.subIn K (.ref C) (.type "BaseException") = some true)
    (ty : PySem.W.typeIn K (.ref C) = some (.type "type")) (kC : PySem.W.keepIn K (.ref C) = true) : OexC K C := ⟨⟨nm, q, N, bs, bm, sn, sub, ab, col, dd, k0, k1, k2, k3, k5, ox, orf⟩, sa, ex, ty, kC⟩
end Tw
namespace Tw
open PySem PySem.Spec PyProof.Rows L2 Sb
theorem kit_ref {K : PySem.W.Frag} {B S : Addr} (h2 : PySem.W.isClsIn K S = true) (h3 : PySem.W.typeIn K (.ref S) = some (.type "type")) (h4 : PySem.W.subIn K (.ref B) (.ref S) = some true) : PySem.W.kitOne K (.ref B) (.ref S) = some true := by
  unfold PySem.W.kitOne
  split
  · rfl
  · have h2' : (PySem.W.clsIn K S).isSome = true := h2
    show (if ((PySem.W.clsIn K S).isSome && PySem.W.typeIn K (.ref S) == some (.type "type")) = true then PySem.W.subIn K (.ref B) (.ref S) else none) = some true
    rw [if_pos (by rw [h2', h3] <;> rfl)]
    exact h4
theorem kit_bltn {K : PySem.W.Frag} {B : Addr} {t : String} (h : PySem.W.kitMeta t = true) (h4 : PySem.W.subIn K (.ref B) (.type t) = some true) : PySem.W.kitOne K (.ref B) (.type t) = some true := by
  unfold PySem.W.kitOne
  split
  · rfl
  · show (if PySem.W.kitMeta t = true then PySem.W.subIn K (.ref B) (.type t) else none) = some true
    rw [if_pos h]
    exact h4
theorem exm_of {K : PySem.W.Frag} {B S : Addr} (h1 : PySem.W.subIn K (.ref S) (.type "BaseException") = some true) (h2 : PySem.W.isClsIn K S = true) (h3 : PySem.W.typeIn K (.ref S) = some (.type "type")) (h4 : PySem.W.subIn K (.ref B) (.ref S) = some true) : PySem.W.exmOne K (.ref B) (.ref S) = some true := by
  have h2' : (PySem.W.clsIn K S).isSome = true := h2
  show (if (PySem.W.subIn K (.ref S) (.type "BaseException") == some true) = true then (if ((PySem.W.clsIn K S).isSome && PySem.W.typeIn K (.ref S) == some (.type "type")) = true then PySem.W.subIn K (.ref B) (.ref S) else none) else none) = some true
  rw [if_pos (by rw [h1] <;> rfl), if_pos (by rw [h2', h3] <;> rfl)]
  exact h4
end Tw
namespace K54
open PySem PySem.Spec PyProof.Rows L2 Tw
def topS (i : Nat) : Stmt := PySem.Challenge.pw_thingwires_k54_whole_fed_in_pieces.main.body.getD i (.Pass ⟨0, 0, 0, 0⟩)
abbrev s_is_whole : Stmt := topS 2
abbrev N_is_whole : List Str := ["thing"]
theorem sc_is_whole : FnScope N_is_whole ["thing"] (defScope s_is_whole) := ⟨rfl, rfl, rfl, by decide +kernel, rfl, by decide +kernel, by decide +kernel⟩
abbrev s_is_row : Stmt := topS 3
abbrev N_is_row : List Str := ["thing"]
theorem sc_is_row : FnScope N_is_row ["thing"] (defScope s_is_row) := ⟨rfl, rfl, rfl, by decide +kernel, rfl, by decide +kernel, by decide +kernel⟩
abbrev s_is_bytes : Stmt := topS 4
abbrev N_is_bytes : List Str := ["thing", "part"]
theorem sc_is_bytes : FnScope N_is_bytes ["thing"] (defScope s_is_bytes) := ⟨rfl, rfl, rfl, by decide +kernel, rfl, by decide +kernel, by decide +kernel⟩
abbrev s_streamed : Stmt := topS 12
abbrev N_streamed : List Str := ["parts", "stream", "part"]
theorem sc_streamed : FnScope N_streamed ["parts"] (defScope s_streamed) := ⟨rfl, rfl, rfl, by decide +kernel, rfl, by decide +kernel, by decide +kernel⟩
abbrev s_unstreamed : Stmt := topS 13
abbrev N_unstreamed : List Str := ["data", "feeder", "pieces"]
theorem sc_unstreamed : FnScope N_unstreamed ["data"] (defScope s_unstreamed) := ⟨rfl, rfl, rfl, by decide +kernel, rfl, by decide +kernel, by decide +kernel⟩
abbrev s__refuse_others : Stmt := topS 15
abbrev N__refuse_others : List Str := ["data"]
theorem sc__refuse_others : FnScope N__refuse_others ["data"] (defScope s__refuse_others) := ⟨rfl, rfl, rfl, by decide +kernel, rfl, by decide +kernel, by decide +kernel⟩
abbrev s__zeros : Stmt := topS 16
abbrev N__zeros : List Str := ["data", "at", "byte"]
theorem sc__zeros : FnScope N__zeros ["data"] (defScope s__zeros) := ⟨rfl, rfl, rfl, by decide +kernel, rfl, by decide +kernel, by decide +kernel⟩
abbrev s__check : Stmt := topS 17
abbrev N__check : List Str := ["part", "one", "other", "number", "byte"]
theorem sc__check : FnScope N__check ["part"] (defScope s__check) := ⟨rfl, rfl, rfl, by decide +kernel, rfl, by decide +kernel, by decide +kernel⟩
abbrev s__without_zeros : Stmt := topS 18
abbrev N__without_zeros : List Str := ["whole", "written", "start", "end"]
theorem sc__without_zeros : FnScope N__without_zeros ["whole"] (defScope s__without_zeros) := ⟨rfl, rfl, rfl, by decide +kernel, rfl, by decide +kernel, by decide +kernel⟩
abbrev s__with_zeros : Stmt := topS 19
abbrev N__with_zeros : List Str := ["piece", "whole", "at", "end"]
theorem sc__with_zeros : FnScope N__with_zeros ["piece"] (defScope s__with_zeros) := ⟨rfl, rfl, rfl, by decide +kernel, rfl, by decide +kernel, by decide +kernel⟩
abbrev s__read_piece : Stmt := topS 20
abbrev N__read_piece : List Str := ["place", "piece", "whole", "part"]
theorem sc__read_piece : FnScope N__read_piece ["place", "piece"] (defScope s__read_piece) := ⟨rfl, rfl, rfl, by decide +kernel, rfl, by decide +kernel, by decide +kernel⟩
abbrev s__law_take : Stmt := topS 22
abbrev N__law_take : List Str := ["_law_state", "_law_many", "_law_cell", "_law_digit", "_law_one"]
theorem sc__law_take : FnScope N__law_take ["_law_state", "_law_many"] (defScope s__law_take) := ⟨rfl, rfl, rfl, by decide +kernel, rfl, by decide +kernel, by decide +kernel⟩
abbrev s__law_block : Stmt := topS 23
abbrev N__law_block : List Str := ["_law_state", "_law_way", "_law_part", "_law_block_here", "_law_at", "_law_k"]
theorem sc__law_block : FnScope N__law_block ["_law_state"] (defScope s__law_block) := ⟨rfl, rfl, rfl, by decide +kernel, rfl, by decide +kernel, by decide +kernel⟩
abbrev s__law_ended : Stmt := topS 24
abbrev N__law_ended : List Str := ["_law_data", "_law_ended_here", "_law_size", "_law_byte"]
theorem sc__law_ended : FnScope N__law_ended ["_law_data"] (defScope s__law_ended) := ⟨rfl, rfl, rfl, by decide +kernel, rfl, by decide +kernel, by decide +kernel⟩
abbrev s__law_wrong : Stmt := topS 25
abbrev N__law_wrong : List Str := ["_law_state", "_law_wrong_here", "_law_row", "_law_at"]
theorem sc__law_wrong : FnScope N__law_wrong ["_law_state"] (defScope s__law_wrong) := ⟨rfl, rfl, rfl, by decide +kernel, rfl, by decide +kernel, by decide +kernel⟩
abbrev s__law_refused : Stmt := topS 26
abbrev N__law_refused : List Str := ["_law_feeder", "_law_piece", "e"]
theorem sc__law_refused : FnScope N__law_refused ["_law_feeder", "_law_piece"] (defScope s__law_refused) := ⟨rfl, rfl, rfl, by decide +kernel, rfl, by decide +kernel, by decide +kernel⟩
abbrev s__law_fed : Stmt := topS 27
abbrev N__law_fed : List Str := ["_law_state", "_law_feeder", "_law_data", "_law_at", "_law_whole", "_law_ended_here", "_law_size", "_law_piece", "_law_behind", "_law_found", "_law_one"]
theorem sc__law_fed : FnScope N__law_fed ["_law_state", "_law_feeder", "_law_data", "_law_at", "_law_whole", "_law_ended_here"] (defScope s__law_fed) := ⟨rfl, rfl, rfl, by decide +kernel, rfl, by decide +kernel, by decide +kernel⟩
abbrev s__law_rest : Stmt := topS 28
abbrev N__law_rest : List Str := ["_law_feeder", "_law_data", "_law_at", "_law_whole", "_law_ended_here"]
theorem sc__law_rest : FnScope N__law_rest ["_law_feeder", "_law_data", "_law_at", "_law_whole", "_law_ended_here"] (defScope s__law_rest) := ⟨rfl, rfl, rfl, by decide +kernel, rfl, by decide +kernel, by decide +kernel⟩
abbrev s_law : Stmt := topS 29
abbrev N_law : List Str := ["_law_script", "_law_state", "_law_data", "_law_k", "_law_cut", "_law_late", "_law_whole", "_law_late_whole", "_law_ended_here", "_law_late_ended", "_law_one", "_law_other", "_law_at", "_law_late_at", "_law_early"]
theorem sc_law : FnScope N_law ["_law_script"] (defScope s_law) := ⟨rfl, rfl, rfl, by decide +kernel, rfl, by decide +kernel, by decide +kernel⟩
abbrev s_NoBytes___init__ : Stmt := inClass (topS 7) 0
abbrev N_NoBytes___init__ : List Str := ["self", "why"]
theorem sc_NoBytes___init__ : FnScope N_NoBytes___init__ ["self", "why"] (defScope s_NoBytes___init__) := ⟨rfl, rfl, rfl, by decide +kernel, rfl, by decide +kernel, by decide +kernel⟩
abbrev s_Feeder___init__ : Stmt := inClass (topS 14) 0
abbrev N_Feeder___init__ : List Str := ["self"]
theorem sc_Feeder___init__ : FnScope N_Feeder___init__ ["self"] (defScope s_Feeder___init__) := ⟨rfl, rfl, rfl, by decide +kernel, rfl, by decide +kernel, by decide +kernel⟩
abbrev s_Feeder_feed : Stmt := inClass (topS 14) 1
abbrev N_Feeder_feed : List Str := ["self", "data", "ended", "start", "at", "piece"]
theorem sc_Feeder_feed : FnScope N_Feeder_feed ["self", "data"] (defScope s_Feeder_feed) := ⟨rfl, rfl, rfl, by decide +kernel, rfl, by decide +kernel, by decide +kernel⟩
abbrev s_Feeder_done : Stmt := inClass (topS 14) 2
abbrev N_Feeder_done : List Str := ["self", "left"]
theorem sc_Feeder_done : FnScope N_Feeder_done ["self"] (defScope s_Feeder_done) := ⟨rfl, rfl, rfl, by decide +kernel, rfl, by decide +kernel, by decide +kernel⟩
end K54
namespace K54
open PySem PySem.Spec PyProof.Rows L2 Tw Sb
section
variable {P : Program} {w : World} {K : PySem.W.Frag} {mg : Str → Option Value} {base : Heap}
theorem ok_is_whole {f : Addr} {fd : FuncData} (F : Fun K "is_whole" "is_whole" s_is_whole f fd) (T : Bt mg) : FnOk P w K mg base CX0 1 f fd ["thing"] (spWhole K) := by
  refine F.ok sc_is_whole (fun vs H Q E h => ?_) (fun cdv A outer s H vs Q E hr h => ?_)
  · obtain ⟨v, t, b1, b2, rfl, _⟩ := h
    rfl
  · obtain ⟨v, t, b1, b2, rfl, hT, h1, h2, q⟩ := h
    refine ⟨_, (pss_one (ps_ret (pe_and (pe_callB (id := "isinstance") (r := rIsi K) call_isi (by rfl) T.n_isinstance (by decide +kernel) (pa_cons (pv 0) (pa_cons (pe_bltn (v := .ty "int") rfl T.n_int (by decide +kernel) rfl) pa_nil))) (pe_one (pe_not (pe_callB (id := "isinstance") (r := rIsi K) call_isi (by rfl) T.n_isinstance (by decide +kernel) (pa_cons (pv 0) (pa_cons (pe_bltn (v := .ty "bool") rfl T.n_bool (by decide +kernel) rfl) pa_nil)))))))), ?_⟩
    refine ⟨v, rfl, v, .ty "int", t, .type "int", b1, rfl, .ty "int", hT, h1, b1, rfl, ?_⟩
    cases b1 with
    | true => exact ⟨v, rfl, v, .ty "bool", t, .type "bool", b2, rfl, .ty "bool", hT, h2 rfl, b2, rfl, q⟩
    | false => exact q
theorem ok_is_row {f : Addr} {fd : FuncData} (F : Fun K "is_row" "is_row" s_is_row f fd) (T : Bt mg) : FnOk P w K mg base CX0 1 f fd ["thing"] (spRow K) := by
  refine F.ok sc_is_row (fun vs H Q E h => ?_) (fun cdv A outer s H vs Q E hr h => ?_)
  · obtain ⟨v, t, b, rfl, _⟩ := h
    rfl
  · obtain ⟨v, t, b, rfl, hT, h1, q⟩ := h
    refine ⟨_, (pss_one (ps_ret (pe_callB (id := "isinstance") (r := rIsiT K) call_isiT (by rfl) T.n_isinstance (by decide +kernel) (pa_cons (pv 0) (pa_cons (pe_tup (pa_cons (pe_bltn (v := .ty "list") rfl T.n_list (by decide +kernel) rfl) (pa_cons (pe_bltn (v := .ty "tuple") rfl T.n_tuple (by decide +kernel) rfl) pa_nil))) pa_nil))))), ?_⟩
    refine ⟨v, rfl, by show 2 ≤ sizeLine; decide, fun p hp => ?_⟩
    exact ⟨v, p, _, t, _, b, rfl, upd_same, .cons (.ty _) (.cons (.ty _) .nil), TyX.same (same_upd hp) hT, h1, q _ (same_upd hp)⟩
theorem ok_is_bytes {f : Addr} {fd : FuncData} (F : Fun K "is_bytes" "is_bytes" s_is_bytes f fd) (T : Bt mg) (g_LAST_BYTE : Gi mg "LAST_BYTE" 255) (c_is_row : Cal P w K mg base 1 "is_row" ["thing"] (spRow K)) (c_is_whole : Cal P w K mg base 1 "is_whole" ["thing"] (spWhole K)) :
    FnOk P w K mg base CX0 2 f fd ["thing"] spBytes := by
  refine F.ok sc_is_bytes (fun vs H Q E h => ?_) (fun cdv A outer s H vs Q E hr h => ?_)
  · obtain ⟨a, ns, rfl, _⟩ := h
    rfl
  · obtain ⟨a, ns, rfl, hR, hB, hl, q⟩ := h
    refine ⟨_, (pss_one (ps_ret (pe_and (pe_cal c_is_row hr (by decide) (by rfl) (pa_cons (pv 0) pa_nil)) (pe_one (pe_callB (cr_all rfl) (by rfl) T.n_all (by decide +kernel) (pa_cons (pe_lc (own := [("part", 1)]) rfl sc_is_bytes.nd (pi_or (pi_list (pv 0)) (pi_tup (pv 0))) (blkOk_by (N := N_is_bytes) (sc := defScope s_is_bytes) (by decide +kernel)) (fun _ _ _ _ _ => (pg_name (i := 1) sc_is_bytes.nd rfl (.inl rfl))) (fun _ _ _ _ _ => pts_nil) (fun _ _ _ _ _ => (pe_and (pe_cal c_is_whole hr (by decide) (by rfl) (pa_cons (pv 1) pa_nil)) (pe_one (pe_chain op_le op_le pe_int (pv 1) (C8.pe_gc rfl g_LAST_BYTE)))))) pa_nil)))))), ?_⟩
    obtain ⟨t, hT, hk⟩ := hR.ty (K := K)
    refine ⟨_, rfl, .ref a, t, true, rfl, hT, hk, fun H1 s1 => ⟨true, rfl, ?_⟩⟩
    have hR1 := hR.same s1
    have turn : ∀ (D : Addr), H1 D = none → ∀ (i : Nat) (H2 : Hp), i < (iV ns).length → Same H1 H2 → H2 D = some (.lst (List.replicate i (V.bl true))) →
        ∃ acc, H2 D = some (HO.lst acc) ∧ acc.length < sizeLine ∧ (Same H1 (upd H2 D (.lst (acc ++ [V.bl true]))) ∧ (upd H2 D (.lst (acc ++ [V.bl true]))) D = some (.lst (List.replicate (i + 1) (V.bl true)))) := by
      intro D hD i H2 hi hs hL
      refine ⟨_, hL, ?_, fun c o e => ?_, ?_⟩
      · rw [List.length_replicate]
        rw [iV_len] at hi
        exact Nat.lt_of_lt_of_le hi (Nat.le_trans hl (by decide))
      · rw [upd_ne (ne_of_none e hD)]
        exact hs c o e
      · rw [upd_same, List.replicate_succ']
    have all1 : ∀ n, (List.replicate n true).all id = true := fun n => by simp
    rcases hR1 with hL | hL
    · refine .inl ⟨_, rfl, a, rfl, ⟨_, SqL.of hL⟩, fun D hD => lc_it walk_list (fun i H' => Same H1 H' ∧ H' D = some (.lst (List.replicate i (.bl true)))) ⟨same_upd hD, upd_same⟩ (fun _ _ _ h => SqL.of (h.1 _ _ hL)) ?_ ?_⟩
      · rintro i x H2 H3 hi ⟨hs, hD2⟩ ⟨rfl, hx⟩
        obtain ⟨b, hb, rfl⟩ := iV_at hx
        have hby := hB b (List.mem_of_getElem? hb)
        refine ⟨rfl, _, rfl, .int b, .type "int", true, false, rfl, .base (.int b), kit_ty (by decide +kernel), fun _ => kit_ty (by decide +kernel), true, rfl, _, rfl, 0, b, rfl, rfl, _, rfl, ?_⟩
        rw [decide_eq_true hby.1]
        refine ⟨b, 255, rfl, rfl, ?_⟩
        dsimp only
        rw [decide_eq_true hby.2]
        exact turn D hD i _ hi hs hD2
      · rintro H2 ⟨hs, hD2⟩
        refine ⟨D, List.replicate (iV ns).length true, rfl, .inl (.inl (by rw [hD2, List.map_replicate])), ?_⟩
        rw [all1]
        exact q _ (s1.trans hs)
    · refine .inr ⟨_, rfl, a, rfl, ⟨_, SqT.of hL⟩, fun D hD => lc_it walk_tup (fun i H' => Same H1 H' ∧ H' D = some (.lst (List.replicate i (.bl true)))) ⟨same_upd hD, upd_same⟩ (fun _ _ _ h => SqT.of (h.1 _ _ hL)) ?_ ?_⟩
      · rintro i x H2 H3 hi ⟨hs, hD2⟩ ⟨rfl, hx⟩
        obtain ⟨b, hb, rfl⟩ := iV_at hx
        have hby := hB b (List.mem_of_getElem? hb)
        refine ⟨rfl, _, rfl, .int b, .type "int", true, false, rfl, .base (.int b), kit_ty (by decide +kernel), fun _ => kit_ty (by decide +kernel), true, rfl, _, rfl, 0, b, rfl, rfl, _, rfl, ?_⟩
        rw [decide_eq_true hby.1]
        refine ⟨b, 255, rfl, rfl, ?_⟩
        dsimp only
        rw [decide_eq_true hby.2]
        exact turn D hD i _ hi hs hD2
      · rintro H2 ⟨hs, hD2⟩
        refine ⟨D, List.replicate (iV ns).length true, rfl, .inl (.inl (by rw [hD2, List.map_replicate])), ?_⟩
        rw [all1]
        exact q _ (s1.trans hs)
theorem ok_refuse {f : Addr} {fd : FuncData} (F : Fun K "_refuse_others" "_refuse_others" s__refuse_others f fd) (T : Bt mg) (c_is_bytes : Cal P w K mg base 2 "is_bytes" ["thing"] spBytes) : FnOk P w K mg base CX0 3 f fd ["data"] spRefuse := by
  refine F.ok sc__refuse_others (fun vs H Q E h => ?_) (fun cdv A outer s H vs Q E hr h => ?_)
  · obtain ⟨a, ns, rfl, _⟩ := h
    rfl
  · obtain ⟨a, ns, rfl, hR, hB, hl, q⟩ := h
    refine ⟨_, (pss_one (ps_if (pt_not (pt_val (pe_cal c_is_bytes hr (by decide) (by rfl) (pa_cons (pv 0) pa_nil))))
        (pss_one ps_dead)
        pss_nil)), ?_⟩
    refine ⟨_, rfl, a, ns, rfl, hR, hB, hl, fun H1 s1 => ⟨true, rfl, ?_⟩⟩
    exact q _ s1
theorem ok_zeros {f : Addr} {fd : FuncData} (F : Fun K "_zeros" "_zeros" s__zeros f fd) (T : Bt mg) : FnOk P w K mg base CX0 1 f fd ["data"] spZeros := by
  refine F.ok sc__zeros (fun vs H Q E h => ?_) (fun cdv A outer s H vs Q E hr h => ?_)
  · obtain ⟨a, ns, rfl, _⟩ := h
    rfl
  · obtain ⟨a, ns, rfl, hR, hl, q⟩ := h
    refine ⟨_, (pss_one (ps_ret (pe_lc (own := [("at", 1), ("byte", 2)]) (g := gTup K 2 (gCons (gName 1) (gCons (gName 2) gNil))) rfl sc__zeros.nd (pi_en rfl T.n_enumerate (pa_cons (pv 0) pa_nil)) (blkOk_by (N := N__zeros) (sc := defScope s__zeros) (by decide +kernel)) (fun _ _ _ _ _ => (pg_tup rfl (pgs_cons (pg_name (i := 1) sc__zeros.nd rfl (.inl rfl)) (pgs_cons (pg_name (i := 2) sc__zeros.nd rfl (.inl rfl)) pgs_nil)))) (fun _ _ _ _ _ => (pts_one (pt_cmpR op_eq (pv 2) pe_int (nomark _)))) (fun _ _ _ _ _ => (pv 1))))), ?_⟩
    refine ⟨_, rfl, a, _, rfl, hR.sq, fun bt hb1 hb0 D hD => lc_it (walk_enC (K := K) (a := a) (xs := iV ns) (c := 0) (b := bt)) (fun i H' => Same H H' ∧ H' D = some (.lst ((zs 0 (ns.take i)).map fun (i : Nat) => V.int i))) ⟨same_upd hD, upd_same⟩ (fun i H' _ h => ?_) ?_ ?_⟩
    · cases bt with
      | true => exact Same.tupq h.1 (hb1 rfl)
      | false => exact h.1.seq (hb0 rfl)
    · rintro i x H2 H3 hi ⟨hs, hL⟩ ⟨T1, x1, y1, rfl, hT, rfl, e1, e2⟩
      cases e1
      obtain ⟨b, hb, rfl⟩ := iV_at e2
      have nD : D ≠ T1 := ne_of_none hL hT
      have hs' : Same H (upd H2 T1 (.tup [.int (0 + (i : Nat)), .int b])) := hs.trans (same_upd hT)
      have hL' : (upd H2 T1 (.tup [.int (0 + (i : Nat)), .int b])) D = some (.lst ((zs 0 (ns.take i)).map fun (i : Nat) => V.int i)) := by
        rw [upd_ne nD]
        exact hL
      have step := zs_take_succ hb 0
      refine ⟨T1, _, rfl, SqT.of upd_same, rfl, _, _, rfl, _, _, rfl, rfl, rfl, _, rfl, rfl, _, rfl, ?_⟩
      refine ite2 (fun g => ?_) (fun g => ?_)
      · have gb : b = 0 := by simpa using g
        refine ⟨_, rfl, _, hL', ?_, fun c o e => ?_, ?_⟩
        · rw [List.length_map]
          have h1 := zs_length 0 (ns.take i)
          rw [List.length_take] at h1
          exact Nat.lt_of_le_of_lt (Nat.le_trans h1 (Nat.le_trans (Nat.min_le_right _ _) hl)) (by decide)
        · rw [upd_ne (ne_of_none e hD)]
          exact hs' c o e
        · rw [upd_same, step, if_pos gb, List.map_append]
          rfl
      · have gb : ¬ b = 0 := by simpa using g
        refine ⟨hs', ?_⟩
        rw [hL', step, if_neg gb, List.append_nil]
    · rintro H2 ⟨hs, hL⟩
      rw [iV_len, List.take_length] at hL
      exact q _ _ hs hD hL
theorem ok_check {f : Addr} {fd : FuncData} (F : Fun K "_check" "_check" s__check f fd) (T : Bt mg) (g_CHECK_RANGE : Gi mg "CHECK_RANGE" 65521) : FnOk P w K mg base CX0 1 f fd ["part"] spCheck := by
  refine F.ok sc__check (fun vs H Q E h => ?_) (fun cdv A outer s H vs Q E hr h => ?_)
  · obtain ⟨a, ns, rfl, _⟩ := h
    rfl
  · obtain ⟨a, ns, rfl, hR, hB, hl, q⟩ := h
    refine ⟨_, (pss_cons (ps_set (i := 1) sc__check.nd rfl (.inl rfl) (pe_op op_mod (pe_callB (cr_sumR rfl) (by rfl) T.n_sum (by decide +kernel) (pa_cons (pv 0) pa_nil)) (C8.pe_gc rfl g_CHECK_RANGE)))
      (pss_cons (ps_set (i := 2) sc__check.nd rfl (.inl rfl) (pe_op op_mod (pe_callB (cr_sumR rfl) (by rfl) T.n_sum (by decide +kernel) (pa_cons (pe_lc (own := [("number", 3), ("byte", 4)]) (g := gTup K 2 (gCons (gName 3) (gCons (gName 4) gNil))) rfl sc__check.nd (pi_enK rfl T.n_enumerate (pa_cons (pv 0) pa_nil) (pk_cons pe_int pk_nil)) (blkOk_by (N := N__check) (sc := defScope s__check) (by decide +kernel)) (fun _ _ _ _ _ => (pg_tup rfl (pgs_cons (pg_name (i := 3) sc__check.nd rfl (.inl rfl)) (pgs_cons (pg_name (i := 4) sc__check.nd rfl (.inl rfl)) pgs_nil)))) (fun _ _ _ _ _ => pts_nil) (fun _ _ _ _ _ => (pe_op op_mul (pv 3) (pv 4)))) pa_nil)) (C8.pe_gc rfl g_CHECK_RANGE)))
      (pss_one (ps_ret (pe_lst (pa_cons (pe_op op_fdiv (pv 1) pe_int) (pa_cons (pe_op op_mod (pv 1) pe_int) (pa_cons (pe_op op_fdiv (pv 2) pe_int) (pa_cons (pe_op op_mod (pv 2) pe_int) pa_nil))))))))), ?_⟩
    refine ⟨_, rfl, a, ns, rfl, hR.sq, _, 65521, rfl, rfl, (by show (0 : Int) < 65521; decide), ?_⟩
    have k1 := hR
    refine ⟨_, rfl, a, 1, _, rfl, rfl, ⟨by decide, by decide⟩, hR.sq, fun bt hb1 hb0 D hD => lc_it (walk_enC (K := K) (a := a) (xs := iV ns) (c := 1) (b := bt)) (fun i H' => Same H H' ∧ ∃ ws : List Int, H' D = some (.lst (iV ws)) ∧ ws.length = i ∧ ws.sum = wsum 1 (ns.take i)) ⟨same_upd hD, [], upd_same, rfl, rfl⟩ (fun i H' _ h => ?_) ?_ ?_⟩
    · cases bt with
      | true => exact Same.tupq h.1 (hb1 rfl)
      | false => exact h.1.seq (hb0 rfl)
    · rintro i x H2 H3 hi ⟨hs, ws, hL, hwl, hwe⟩ ⟨T1, x1, y1, rfl, hT, rfl, e1, e2⟩
      cases e1
      obtain ⟨b, hb, rfl⟩ := iV_at e2
      have hby := hB b (List.mem_of_getElem? hb)
      have nD : D ≠ T1 := ne_of_none hL hT
      have hs' : Same H (upd H2 T1 (.tup [.int (1 + (i : Nat)), .int b])) := hs.trans (same_upd hT)
      refine ⟨T1, _, rfl, SqT.of upd_same, rfl, _, _, rfl, _, _, rfl, rfl, rfl, _, rfl, _, rfl, _, _, rfl, rfl, .inr ⟨by omega, by omega⟩, _, by rw [upd_ne nD]; exact hL, ?_, fun c o e => ?_, ws ++ [(1 + (i : Nat)) * b], ?_, ?_, ?_⟩
      · rw [iV_len, hwl]
        rw [iV_len] at hi
        exact Nat.lt_of_lt_of_le hi (Nat.le_trans hl (by decide))
      · rw [upd_ne (ne_of_none e hD)]
        exact hs' c o e
      · rw [upd_same, iV_append]
        rfl
      · rw [List.length_append, hwl]
        rfl
      · have hi' : i < ns.length := by rw [iV_len] at hi; exact hi
        rw [List.sum_append, hwe, List.take_add_one, hb, wsum_append]
        have e3 : (ns.take i).length = i := by rw [List.length_take]; omega
        rw [e3]
        simp [wsum]
    · rintro H2 ⟨hs, ws, hL, hwl, hwe⟩
      rw [iV_len, List.take_length] at hwe
      refine ⟨D, ws, rfl, .inl (SqL.of hL), _, 65521, rfl, rfl, (by show (0 : Int) < 65521; decide), ?_⟩
      rw [hwe]
      dsimp only
      refine ⟨_, rfl, _, 256, rfl, rfl, ⟨by decide, by decide⟩, _, rfl, _, 256, rfl, rfl, (by show (0 : Int) < 256; decide), _, rfl, _, 256, rfl, rfl, ⟨by decide, by decide⟩, _, rfl, _, 256, rfl, rfl, (by show (0 : Int) < 256; decide), by show 4 ≤ sizeLine; decide, fun p hp => ?_⟩
      exact q _ p (hs.trans (same_upd hp)) (hs.free hp) upd_same
end
end K54
namespace K54
open PySem PySem.Spec PyProof.Rows L2 Tw Sb
section
variable {P : Program} {w : World} {K : PySem.W.Frag} {mg : Str → Option Value} {base : Heap}
theorem pd_atR {α β : Type} {F : α → β → Prop} : ∀ {xs : List α} {ys : List β} {i : Nat} {x : α}, Paired F xs ys → xs[i]? = some x → ∃ y, ys[i]? = some y ∧ F x y
  | _, _, 0, _, .cons h _, e => ⟨_, rfl, by cases e; exact h⟩
  | _, _, i + 1, _, .cons _ t, e => pd_atR (i := i) t e
theorem elT_whole {H : Hp} {x : V} {b : Bool} (h : ElT H x b) : ∃ (t : Value) (b1 b2 : Bool), TyX K H x t ∧ PySem.W.kitOne K t (.type "int") = some b1 ∧ (b1 = true → PySem.W.kitOne K t (.type "bool") = some b2) ∧
    ((∃ n, x = .int n ∧ b1 = true ∧ b2 = false ∧ b = (decide (0 ≤ n) && decide (n ≤ 255))) ∨ (b = false ∧ (b1 && !b2) = false)) := by
  cases h with
  | int n => exact ⟨.type "int", true, false, .base (.int n), kit_ty (by decide +kernel), fun _ => kit_ty (by decide +kernel), .inl ⟨n, rfl, rfl, rfl, rfl⟩⟩
  | bl c => exact ⟨.type "bool", true, true, .base (.bl c), kit_ty (by decide +kernel), fun _ => kit_ty (by decide +kernel), .inr ⟨rfl, rfl⟩⟩
  | non => exact ⟨.type "NoneType", false, false, .base .non, kit_ty (by decide +kernel), (fun z => nomatch z), .inr ⟨rfl, rfl⟩⟩
  | str s => exact ⟨.type "str", false, false, .base (.str s), kit_ty (by decide +kernel), (fun z => nomatch z), .inr ⟨rfl, rfl⟩⟩
  | row h =>
    rcases h with h | h
    · exact ⟨.type "list", false, false, .base (.lst h), kit_ty (by decide +kernel), (fun z => nomatch z), .inr ⟨rfl, rfl⟩⟩
    · exact ⟨.type "tuple", false, false, .base (.tup h), kit_ty (by decide +kernel), (fun z => nomatch z), .inr ⟨rfl, rfl⟩⟩
theorem notRow {t : String} (h1 : PySem.W.kitOne K (.type t) (.type "list") = some false) (h2 : PySem.W.kitOne K (.type t) (.type "tuple") = some false) : PySem.W.kitAny K (.type t) [.type "list", .type "tuple"] = some false :=
  kitAny_cons (b := false) h1 (fun _ => kitAny_cons (b := false) h2 (fun _ => rfl) fun z => nomatch z) fun z => nomatch z
theorem ok_is_bytesG {f : Addr} {fd : FuncData} (F : Fun K "is_bytes" "is_bytes" s_is_bytes f fd) (T : Bt mg) (g_LAST_BYTE : Gi mg "LAST_BYTE" 255) (c_is_row : Cal P w K mg base 1 "is_row" ["thing"] (spRow K)) (c_is_whole : Cal P w K mg base 1 "is_whole" ["thing"] (spWhole K)) :
    FnOk P w K mg base CX0 2 f fd ["thing"] spBytesG := by
  refine F.ok sc_is_bytes (fun vs H Q E h => ?_) (fun cdv A outer s H vs Q E hr h => ?_)
  · obtain ⟨v, b, rfl, _⟩ := h
    rfl
  · obtain ⟨v, b, rfl, hv, q⟩ := h
    refine ⟨_, (pss_one (ps_ret (pe_and (pe_cal c_is_row hr (by decide) (by rfl) (pa_cons (pv 0) pa_nil)) (pe_one (pe_callB (cr_all rfl) (by rfl) T.n_all (by decide +kernel) (pa_cons (pe_lc (own := [("part", 1)]) rfl sc_is_bytes.nd (pi_row (pv 0)) (blkOk_by (N := N_is_bytes) (sc := defScope s_is_bytes) (by decide +kernel)) (fun _ _ _ _ _ => (pg_name (i := 1) sc_is_bytes.nd rfl (.inl rfl))) (fun _ _ _ _ _ => pts_nil) (fun _ _ _ _ _ => (pe_and (pe_cal c_is_whole hr (by decide) (by rfl) (pa_cons (pv 1) pa_nil)) (pe_one (pe_chain op_le op_le pe_int (pv 1) (C8.pe_gc rfl g_LAST_BYTE)))))) pa_nil)))))), ?_⟩
    cases hv with
    | int n => exact ⟨_, rfl, .int n, .type "int", false, rfl, .base (.int n), notRow (kit_ty (by decide +kernel)) (kit_ty (by decide +kernel)), fun H1 s1 => ⟨false, rfl, iteF (q _ s1)⟩⟩
    | bl c => exact ⟨_, rfl, .bl c, .type "bool", false, rfl, .base (.bl c), notRow (kit_ty (by decide +kernel)) (kit_ty (by decide +kernel)), fun H1 s1 => ⟨false, rfl, iteF (q _ s1)⟩⟩
    | non => exact ⟨_, rfl, .non, .type "NoneType", false, rfl, .base .non, notRow (kit_ty (by decide +kernel)) (kit_ty (by decide +kernel)), fun H1 s1 => ⟨false, rfl, iteF (q _ s1)⟩⟩
    | str z => exact ⟨_, rfl, .str z, .type "str", false, rfl, .base (.str z), notRow (kit_ty (by decide +kernel)) (kit_ty (by decide +kernel)), fun H1 s1 => ⟨false, rfl, iteF (q _ s1)⟩⟩
    | @row a xs bs hR hp hl =>
      obtain ⟨t, hT, hk⟩ := hR.ty (K := K)
      refine ⟨_, rfl, .ref a, t, true, rfl, hT, hk, fun H1 s1 => ⟨true, rfl, iteT ?_⟩⟩
      have hR1 := hR.same s1
      have hb0 : Same H1 H1 := Same.refl _
      refine ⟨_, rfl, a, xs, rfl, hR1.sq, fun bb hb1 hb2 D hD => lc_it (walk_row (K := K) (a := a) (xs := xs) (b := bb)) (fun i H' => Same H1 H' ∧ H' D = some (.lst ((bs.take i).map V.bl))) ⟨same_upd hD, upd_same⟩ (fun i H' _ h => ?_) ?_ ?_⟩
      · cases bb with
        | true => exact SqT.at_ (hR1.keeps hb0 h.1) (hb1 rfl)
        | false => exact SqL.at_ (hR1.keeps hb0 h.1) (hb2 rfl)
      · rintro i x H2 H3 hi ⟨hs, hD2⟩ ⟨rfl, hx⟩
        obtain ⟨b, hbi, hxb⟩ : ∃ b, bs[i]? = some b ∧ ElT H x b := by
          exact pd_atR hp hx
        have e1 : bs.take (i + 1) = bs.take i ++ [b] := by rw [List.take_add_one, hbi]; rfl
        have turn : ∃ acc, H3 D = some (HO.lst acc) ∧ acc.length < sizeLine ∧ (Same H1 (upd H3 D (.lst (acc ++ [V.bl b]))) ∧ (upd H3 D (.lst (acc ++ [V.bl b]))) D = some (.lst ((bs.take (i + 1)).map V.bl))) := by
          refine ⟨_, hD2, ?_, fun c o e => ?_, ?_⟩
          · rw [List.length_map, List.length_take]
            exact Nat.lt_of_le_of_lt (Nat.min_le_left _ _) (Nat.lt_of_lt_of_le hi (Nat.le_trans hl (by decide)))
          · rw [upd_ne (ne_of_none e hD)]
            exact hs c o e
          · rw [upd_same, e1, List.map_append]
            rfl
        obtain ⟨t2, b1, b2, hT2, hk1, hk2, hor⟩ := elT_whole (K := K) ((hxb.same s1).same hs)
        refine ⟨rfl, _, rfl, x, t2, b1, b2, rfl, hT2, hk1, hk2, (b1 && !b2), rfl, ?_⟩
        rcases hor with ⟨n, rfl, rfl, rfl, rfl⟩ | ⟨rfl, e⟩
        · refine iteT ⟨_, rfl, 0, n, rfl, rfl, _, rfl, ?_⟩
          by_cases h0 : (0 : Int) ≤ n
          · rw [decide_eq_true h0] at turn ⊢
            exact iteT ⟨n, 255, rfl, rfl, turn⟩
          · rw [decide_eq_false h0] at turn ⊢
            exact iteF turn
        · rw [e]
          exact iteF turn
      · rintro H2 ⟨hs, hD2⟩
        rw [List.take_of_length_le (by rw [← pd_len hp]; exact Nat.le_refl _)] at hD2
        exact ⟨D, bs, rfl, .inl (.inl hD2), q _ (s1.trans hs)⟩
theorem ok_nbinit {x : Str} {C f : Addr} {fd : FuncData} (F : Fun K "__init__" "NoBytes.__init__" s_NoBytes___init__ f fd) (N : NbC K mg x C f) : FnOk P w K mg base CX0 1 f fd ["self", "why"] (spNbInit C) := by
  refine F.ok sc_NoBytes___init__ (fun vs H Q E h => ?_) (fun cdv A outer s H vs Q E hr h => ?_)
  · obtain ⟨a, y, rfl, _⟩ := h
    rfl
  · obtain ⟨a, y, rfl, hA, q⟩ := h
    refine ⟨_, (pss_one (ps_ost (pv 0) (pv 1))), ?_⟩
    exact ⟨_, rfl, _, rfl, a, C, rfl, N.oex, N.no, .inl ⟨hA, fun dx h1 h2 => q dx h1 h2⟩⟩
theorem ok_refuseX {C fI : Addr} {f : Addr} {fd fd1 : FuncData} (F : Fun K "_refuse_others" "_refuse_others" s__refuse_others f fd) (T : Bt mg) (N : NbC K mg "NoBytes" C fI) (F1 : FnOk P w K mg base CX0 1 fI fd1 ["self", "why"] (spNbInit C)) (b1 : Binds K fd1 ["self", "why"] []) (c_is_bytes : Cal P w K mg base 2 "is_bytes" ["thing"] spBytesG) :
    FnOk P w K mg base (L2.CX P w) 3 f fd ["data"] (spRefuseX C) := by
  refine F.okX sc__refuse_others (fun vs H Q E h => ?_) (fun cdv A outer s H vs Q E hr h => ?_)
  · obtain ⟨v, b, rfl, _⟩ := h
    rfl
  · obtain ⟨v, b, rfl, hv, q1, q2⟩ := h
    refine ⟨_, (pss_one (ps_if (pt_not (pt_val (pe_cal c_is_bytes hr (by decide) (by rfl) (pa_cons (pv 0) pa_nil))))
        (pss_one (ps_raise rfl (takes_of rfl rfl rfl rfl) (pmk_oex N.oex N.iC N.tI F1 hr b1 .nil pass0 (by rfl) N.g (pa_cons pe_str pa_nil))))
        pss_nil)), ?_⟩
    refine ⟨_, rfl, v, b, rfl, hv, fun H1 s1 => ⟨b, rfl, ?_⟩⟩
    cases b with
    | true => exact iteF (q1 rfl _ s1)
    | false =>
      refine iteT ⟨by decide, fun a ha => ⟨a, .str "wire", rfl, upd_same, fun dx h1 h2 => ⟨rfl, dx, [(("why" : Str), .str "wire")], upd_same, by rw [upd_ne h2, upd_same], ?_, ?_⟩⟩⟩
      · rw [upd_ne h2] at h1
        exact h1
      · have h10 : H1 dx = none := by
          rw [upd_ne h2] at h1
          exact h1
        refine q2 rfl _ dx (fun c o e => ?_) (s1.free h10) upd_same
        have n1 : c ≠ dx := ne_of_none (s1 c o e) h10
        have n2 : c ≠ a := ne_of_none (s1 c o e) ha
        rw [upd_ne n1, del_ne n2, upd_ne n2, upd_ne n1, upd_ne n2]
        exact s1 c o e
end
end K54
namespace K54
open PySem PySem.Spec PyProof.Rows L2 Tw Sb
section
variable {P : Program} {w : World} {K : PySem.W.Frag} {mg : Str → Option Value} {base : Heap}
theorem ok_with_zeros {f : Addr} {fd : FuncData} (F : Fun K "_with_zeros" "_with_zeros" s__with_zeros f fd) (T : Bt mg) (g_LONGEST_RUN : Gi mg "LONGEST_RUN" 254) : FnOk P w K mg base CX0 1 f fd ["piece"] spWithZ := by
  refine F.ok sc__with_zeros (fun vs H Q E h => ?_) (fun cdv A outer s H vs Q E hr h => ?_)
  · obtain ⟨a, ns, rfl, _⟩ := h
    rfl
  · obtain ⟨a, ns, rfl, hA, hB, hN, hl, q⟩ := h
    refine ⟨_, (pss_cons (ps_set (i := 1) sc__with_zeros.nd rfl (.inl rfl) (pe_lst pa_nil))
      (pss_cons (ps_set (i := 2) sc__with_zeros.nd rfl (.inl rfl) pe_int)
      (pss_cons (ps_while PassesOwn.never (pt_cmpR op_lt (pv 2) (pe_callB call_len_seq (by rfl) T.n_len (by decide +kernel) (pa_cons (pv 0) pa_nil)) (nomark _))
        (pss_cons (ps_set (i := 3) sc__with_zeros.nd rfl (.inl rfl) (pe_op op_add (pv 2) (pe_ix (r := rIxL K) ix_list (pv 0) (pv 2) (fun _ _ => rfl))))
        (pss_cons (ps_if (pt_cmpR op_gt (pv 3) (pe_callB call_len_seq (by rfl) T.n_len (by decide +kernel) (pa_cons (pv 0) pa_nil)) (nomark _))
          (pss_one (ps_ret pe_non))
          pss_nil)
        (pss_cons (ps_expr (pe_bm PySem.F.plainAttrs_list PySem.F.slot_list_extend PySem.F.type_list_extend mt_extend (pv 1) (pa_cons (pe_slice (r := rSlL K) sl_list (pv 0) (po_some (pe_op op_add (pv 2) pe_int)) (po_some (pv 3))) pa_nil)))
        (pss_cons (ps_if (PW.pt (pw_and (pt_cmpR op_le (pe_ix (r := rIxL K) ix_list (pv 0) (pv 2) (fun _ _ => rfl)) (C8.pe_gc rfl g_LONGEST_RUN) (nomark _)) (pw_and1 (pt_cmpR op_lt (pv 3) (pe_callB call_len_seq (by rfl) T.n_len (by decide +kernel) (pa_cons (pv 0) pa_nil)) (nomark _)))))
          (pss_one (ps_expr (pe_bm PySem.F.plainAttrs_list PySem.F.slot_list_append PySem.F.type_list_append mt_append (pv 1) (pa_cons pe_int pa_nil))))
          pss_nil)
        (pss_one (ps_set (i := 2) sc__with_zeros.nd rfl (.inl rfl) (pv 3))))))))
      (pss_one (ps_ret (pv 1)))))), ?_⟩
    refine ⟨Nat.zero_le _, fun p hp => ?_⟩
    have nap : a ≠ p := ne_of_none hA hp
    refine ⟨fun m σ H' => ∃ (i fu : Nat) (acc : List Int) (y : Option V), σ = [some (.ref a), some (.ref p), some (.int (i : Nat)), y] ∧ Same H H' ∧ H' p = some (.lst (iV acc)) ∧ ns.length - i ≤ fu ∧ undo fu acc (ns.drop i) = unrun ns ∧ acc.length ≤ i ∧ i ≤ ns.length ∧ m = ns.length - i,
      ⟨_, 0, ns.length, [], none, rfl, same_upd hp, upd_same, by omega, rfl, Nat.le_refl _, Nat.zero_le _, rfl⟩, ?_⟩
    rintro m σ H' ⟨i, fu, acc, y, rfl, hs, hP, hfu, hu, hac, hi, rfl⟩
    have hA' := hs _ _ hA
    refine ⟨_, rfl, _, rfl, a, _, rfl, .inl (SqL.of hA'), (i : Int), ((iV ns).length : Nat), rfl, rfl, _, rfl, ?_⟩
    rw [iV_len]
    refine ite2 (fun g => ?_) (fun g => ?_)
    · have lt : i < ns.length := by have := of_decide_eq_true g; omega
      refine ⟨fun σ' H2 => ∃ m', m' < ns.length - i ∧ ∃ (i fu : Nat) (acc : List Int) (y : Option V), σ' = [some (.ref a), some (.ref p), some (.int (i : Nat)), y] ∧ Same H H2 ∧ H2 p = some (.lst (iV acc)) ∧ ns.length - i ≤ fu ∧ undo fu acc (ns.drop i) = unrun ns ∧ acc.length ≤ i ∧ i ≤ ns.length ∧ m' = ns.length - i, fun σ' H2 h => h, ?_⟩
      obtain ⟨k, hk, k1, k2⟩ := byte_nat hB hN (List.getElem?_eq_getElem lt)
      have hat : ns[i]? = some (k : Int) := by rw [List.getElem?_eq_getElem lt, hk]
      obtain ⟨fu', hfu', hun⟩ := undo_at (acc := acc) hat k1 hfu
      rw [hu] at hun
      refine ⟨_, rfl, _, rfl, _, rfl, a, _, (i : Int), .int (k : Int), rfl, rfl, SqL.of hA', iV_atI hat, _, _, rfl, rfl, ?_⟩
      refine ⟨_, rfl, _, rfl, a, _, rfl, .inl (SqL.of hA'), (i : Int) + (k : Int), ((iV ns).length : Nat), rfl, rfl, _, rfl, ?_⟩
      rw [iV_len]
      refine ite2 (fun g2 => ?_) (fun g2 => ?_)
      · have gt : ns.length < i + k := by have := of_decide_eq_true g2; omega
        rw [if_pos gt] at hun
        refine q _ _ hs ?_
        rw [hun]
        exact rfl
      · have le : ¬ ns.length < i + k := fun c => g2 (decide_eq_true (by omega))
        rw [if_neg le] at hun
        refine ⟨_, rfl, .inl ⟨rfl, _, SqL.of hP⟩, _, rfl, _, rfl, (i : Int), 1, rfl, rfl, _, rfl, _, rfl, _, rfl, a, _, rfl, SqL.of hA', fun t ht => ?_⟩
        have npt : p ≠ t := ne_of_none hP ht
        have hs2 := hs.trans (same_upd (o := .lst (cutV (iV ns) (some ((i : Int) + 1)) (some ((i : Int) + (k : Int))))) ht)
        have ecut : cutV (iV ns) (some ((i : Int) + 1)) (some ((i : Int) + (k : Int))) = iV ((ns.drop (i + 1)).take (k - 1)) := by
          rw [show (i : Int) + 1 = ((i + 1 : Nat) : Int) by omega, show (i : Int) + (k : Int) = ((i + k : Nat) : Int) by omega, cut_nn, iV_take, iV_drop, show i + k - (i + 1) = k - 1 by omega]
        rw [ecut] at hs2 ⊢
        have ltk : ((ns.drop (i + 1)).take (k - 1)).length = k - 1 := by
          rw [List.length_take, List.length_drop]
          omega
        refine ⟨p, t, iV acc, iV ((ns.drop (i + 1)).take (k - 1)), rfl, rfl, by rw [upd_ne npt]; exact hP, upd_same, ?_, ?_⟩
        · rw [iV_len, iV_len, ltk]
          exact Nat.le_trans (show acc.length + (k - 1) ≤ ns.length by omega) (Nat.le_trans hl (by decide))
        rw [← iV_append]
        generalize hH3 : upd (upd H' t (.lst (iV ((ns.drop (i + 1)).take (k - 1))))) p (.lst (iV (acc ++ (ns.drop (i + 1)).take (k - 1)))) = H3
        have s3 : Same H H3 := fun c o e => by
          rw [← hH3, upd_ne (ne_of_none e hp)]
          exact hs2 c o e
        have hP3 : H3 p = some (.lst (iV (acc ++ (ns.drop (i + 1)).take (k - 1)))) := by rw [← hH3, upd_same]
        have hA3 := s3 _ _ hA
        have l3 : (acc ++ (ns.drop (i + 1)).take (k - 1)).length ≤ i + k - 1 := by
          rw [List.length_append, ltk]
          omega
        have fin : ∀ (H4 : Hp) (acc' : List Int), Same H H4 → H4 p = some (.lst (iV acc')) → acc' = acc ++ (ns.drop (i + 1)).take (k - 1) ++ (if (k : Int) < 255 ∧ i + k < ns.length then [0] else []) →
            ∃ m', m' < ns.length - i ∧ ∃ (i' fu : Nat) (acc : List Int) (y : Option V), ([some (V.ref a), some (.ref p), some (.int ((i : Int) + (k : Int))), some (.int ((i : Int) + (k : Int)))] : L2.St) = [some (.ref a), some (.ref p), some (.int (i' : Nat)), y] ∧ Same H H4 ∧ H4 p = some (.lst (iV acc)) ∧ ns.length - i' ≤ fu ∧ undo fu acc (ns.drop i') = unrun ns ∧ acc.length ≤ i' ∧ i' ≤ ns.length ∧ m' = ns.length - i' := by
          intro H4 acc' s4 h4 e4
          refine ⟨ns.length - (i + k), by omega, i + k, fu', acc', some (.int ((i : Int) + (k : Int))), ?_, s4, h4, hfu', ?_, ?_, by omega, rfl⟩
          · rw [show (i : Int) + (k : Int) = ((i + k : Nat) : Int) by omega]
          · rw [e4]
            exact hun.symm
          · rw [e4, List.length_append]
            have : (if (k : Int) < 255 ∧ i + k < ns.length then [(0 : Int)] else []).length ≤ 1 := by split <;> simp
            omega
        refine ⟨_, rfl, _, rfl, a, _, (i : Int), .int (k : Int), rfl, rfl, SqL.of hA3, iV_atI hat, (k : Int), 254, rfl, rfl, _, rfl, ?_⟩
        refine ite2 (fun g3 => ?_) (fun g3 => ?_)
        · have c1 : (k : Int) < 255 := by have := of_decide_eq_true g3; omega
          refine ⟨_, rfl, _, rfl, a, _, rfl, .inl (SqL.of hA3), (i : Int) + (k : Int), ((iV ns).length : Nat), rfl, rfl, _, rfl, ?_⟩
          rw [iV_len]
          refine ite2 (fun g4 => ?_) (fun g4 => ?_)
          · have c2 : i + k < ns.length := by have := of_decide_eq_true g4; omega
            refine ⟨_, rfl, .inl ⟨rfl, _, SqL.of hP3⟩, p, _, _, rfl, rfl, hP3, ?_, ?_⟩
            · rw [iV_len]
              exact Nat.lt_of_le_of_lt (Nat.le_trans l3 (show i + k - 1 ≤ ns.length by omega)) (Nat.lt_of_le_of_lt hl (by decide))
            refine ⟨_, rfl, fin _ (acc ++ (ns.drop (i + 1)).take (k - 1) ++ [0]) (fun c o e => ?_) ?_ ?_⟩
            · rw [upd_ne (ne_of_none e hp)]
              exact s3 c o e
            · rw [upd_same, iV_snoc]
            · rw [if_pos ⟨c1, c2⟩]
          · have c2 : ¬ i + k < ns.length := fun c => g4 (decide_eq_true (by omega))
            refine ⟨_, rfl, fin _ _ s3 hP3 ?_⟩
            rw [if_neg (fun q => c2 q.2), List.append_nil]
        · have c1 : ¬ (k : Int) < 255 := fun c => g3 (decide_eq_true (by omega))
          refine ⟨_, rfl, fin _ _ s3 hP3 ?_⟩
          rw [if_neg (fun q => c1 q.1), List.append_nil]
    · have ge : ¬ i < ns.length := fun c => g (decide_eq_true (by omega))
      refine ⟨_, rfl, q _ _ hs ?_⟩
      rw [List.drop_of_length_le (by omega), undo_nil] at hu
      rw [← hu]
      exact ⟨p, rfl, hp, hP⟩
theorem ok_read_piece {f : Addr} {fd : FuncData} (F : Fun K "_read_piece" "_read_piece" s__read_piece f fd) (T : Bt mg) (g_CHECK_BYTES : Gi mg "CHECK_BYTES" 4) (c__with_zeros : Cal P w K mg base 1 "_with_zeros" ["piece"] spWithZ) (c__check : Cal P w K mg base 1 "_check" ["part"] spCheck) :
    FnOk P w K mg base CX0 2 f fd ["place", "piece"] spRead := by
  refine F.ok sc__read_piece (fun vs H Q E h => ?_) (fun cdv A outer s H vs Q E hr h => ?_)
  · obtain ⟨a, pl, ns, rfl, _⟩ := h
    rfl
  · obtain ⟨a, pl, ns, rfl, hA, hB, hN, hl, q⟩ := h
    refine ⟨_, (pss_cons (ps_set (i := 2) sc__read_piece.nd rfl (.inl rfl) (pe_cal c__with_zeros hr (by decide) (by rfl) (pa_cons (pv 1) pa_nil)))
      (pss_cons (ps_if (PW.pt (pw_and (pt_cmpR op_notN (pv 2) pe_non (nomark _)) (pw_and1 (pt_cmpR op_ge (pe_callB call_len_seq (by rfl) T.n_len (by decide +kernel) (pa_cons (pv 2) pa_nil)) (C8.pe_gc rfl g_CHECK_BYTES) (nomark _)))))
        (pss_cons (ps_set (i := 3) sc__read_piece.nd rfl (.inl rfl) (pe_slice (r := rSlL K) sl_list (pv 2) po_none (po_some (pe_un un_neg (C8.pe_gc rfl g_CHECK_BYTES)))))
        (pss_one (ps_if (pt_cmpR (op_eqD hr.units) (pe_slice (r := rSlL K) sl_list (pv 2) (po_some (pe_un un_neg (C8.pe_gc rfl g_CHECK_BYTES))) po_none) (pe_cal c__check hr (by decide) (by rfl) (pa_cons (pv 3) pa_nil)) (nomark _))
          (pss_one (ps_ret (pe_tup (pa_cons pe_str (pa_cons (pv 0) (pa_cons (pv 3) pa_nil))))))
          pss_nil)))
        pss_nil)
      (pss_one (ps_ret (pe_tup (pa_cons pe_str (pa_cons (pv 0) (pa_cons (pe_callB call_len_seq (by rfl) T.n_len (by decide +kernel) (pa_cons (pv 1) pa_nil)) pa_nil)))))))), ?_⟩
    refine ⟨_, rfl, a, ns, rfl, hA, hB, hN, hl, fun H1 v s1 hv => ?_⟩
    have hA1 := s1 _ _ hA
    have torn : ∀ (H2 : Hp), Same H H2 → tell pl ns = .torn pl ns.length → ∀ p, H2 p = none → Q (.ref p) (upd H2 p (.tup [.str "torn", .int (pl : Nat), .int ((iV ns).length : Nat)])) := by
      intro H2 s2 et p hp
      refine q _ _ (s2.trans (same_upd hp)) ?_
      rw [et]
      refine ⟨p, rfl, ?_, s2.free hp⟩
      rw [upd_same, iV_len]
    cases hu : unrun ns with
    | none =>
      rw [hu] at hv
      obtain rfl : v = .non := hv
      have et : tell pl ns = .torn pl ns.length := by
        unfold tell
        rw [hu]
      refine ⟨_, rfl, rfl, _, rfl, ?_⟩
      exact ⟨_, rfl, _, rfl, a, _, rfl, .inl (SqL.of hA1), by show 3 ≤ sizeLine; decide, torn _ s1 et⟩
    | some ws =>
      rw [hu] at hv
      obtain ⟨pw, rfl, hpw, hW⟩ := hv
      have hp1 : ∀ b ∈ ns, 1 ≤ b := fun b hb => by have := hB b hb; have := hN b hb; omega
      have lw : ws.length ≤ big := Nat.le_trans (unrun_length hp1 hu) hl
      have bw : By ws := unrun_by hB hu
      refine ⟨_, rfl, rfl, _, rfl, ?_⟩
      refine iteNF (fun z => nomatch z) ?_
      refine ⟨_, rfl, pw, _, rfl, .inl (SqL.of hW), ((iV ws).length : Nat), 4, rfl, rfl, _, rfl, ?_⟩
      rw [iV_len]
      refine ite2 (fun g => ?_) (fun g => ?_)
      · have h4 : 4 ≤ ws.length := by have := of_decide_eq_true g; omega
        have h4' : 4 ≤ (iV ws).length := by rw [iV_len]; exact h4
        refine ⟨_, rfl, 4, rfl, _, rfl, pw, _, rfl, SqL.of hW, fun t ht => ?_⟩
        rw [show (-(4 : Int)) = -((4 : Nat) : Int) from rfl, cut_0m _ _ (by decide) h4', iV_len, ← iV_take]
        have hs2 := s1.trans (same_upd (o := .lst (iV (ws.take (ws.length - 4)))) ht)
        have hW2 : (upd H1 t (.lst (iV (ws.take (ws.length - 4))))) pw = some (.lst (iV ws)) := by rw [upd_ne (ne_of_none hW ht)]; exact hW
        have hT2 : (upd H1 t (.lst (iV (ws.take (ws.length - 4))))) t = some (.lst (iV (ws.take (ws.length - 4)))) := upd_same
        have nt : H t = none := s1.free ht
        generalize upd H1 t (.lst (iV (ws.take (ws.length - 4)))) = H2 at hs2 hW2 hT2 ⊢
        refine ⟨_, rfl, 4, rfl, _, rfl, pw, _, rfl, SqL.of hW2, fun u hu2 => ?_⟩
        rw [show (-(4 : Int)) = -((4 : Nat) : Int) from rfl, cut_m0 _ _ (by decide) h4', iV_len, ← iV_drop]
        have hs3 := hs2.trans (same_upd (o := .lst (iV (ws.drop (ws.length - 4)))) hu2)
        have hT3 : (upd H2 u (.lst (iV (ws.drop (ws.length - 4))))) t = some (.lst (iV (ws.take (ws.length - 4)))) := by rw [upd_ne (ne_of_none hT2 hu2)]; exact hT2
        have hU3 : (upd H2 u (.lst (iV (ws.drop (ws.length - 4))))) u = some (.lst (iV (ws.drop (ws.length - 4)))) := upd_same
        generalize upd H2 u (.lst (iV (ws.drop (ws.length - 4)))) = H3 at hs3 hT3 hU3 ⊢
        refine ⟨_, rfl, t, _, rfl, .inl hT3, bw.take _, Nat.le_trans (by rw [List.length_take]; exact Nat.min_le_right _ _) lw, fun H4 c s4 hc hC => ?_⟩
        refine ⟨_, _, dpL (s4 _ _ hU3), dpL hC, sh_ints _, sh_ints _, _, rfl, ?_⟩
        rw [eqv_ints]
        have hs4 := hs3.trans s4
        refine ite2 (fun g2 => ?_) (fun g2 => ?_)
        · have e2 := of_decide_eq_true g2
          refine ⟨_, rfl, _, rfl, by show 3 ≤ sizeLine; decide, fun p hp => ?_⟩
          refine q _ _ (hs4.trans (same_upd hp)) ?_
          have et : tell pl ns = .part pl (ws.take (ws.length - 4)) := by
            unfold tell
            rw [hu]
            exact if_pos ⟨h4, e2⟩
          rw [et]
          have hT4 := s4 _ _ hT3
          exact ⟨p, t, rfl, upd_same, by rw [upd_ne (ne_of_none hT4 hp)]; exact hT4, hs4.free hp, nt⟩
        · have e2 : ¬ ws.drop (ws.length - 4) = check (ws.take (ws.length - 4)) := fun z => g2 (decide_eq_true z)
          have et : tell pl ns = .torn pl ns.length := by
            unfold tell
            rw [hu]
            exact if_neg fun z => e2 z.2
          exact ⟨_, rfl, _, rfl, a, _, rfl, .inl (SqL.of (hs4 _ _ hA)), by show 3 ≤ sizeLine; decide, torn _ hs4 et⟩
      · have h4 : ¬ 4 ≤ ws.length := fun z => g (decide_eq_true (by omega))
        have et : tell pl ns = .torn pl ns.length := by
          unfold tell
          rw [hu]
          exact if_neg fun z => h4 z.1
        exact ⟨_, rfl, _, rfl, a, _, rfl, .inl (SqL.of hA1), by show 3 ≤ sizeLine; decide, torn _ s1 et⟩
end
end K54
namespace K54
open PySem PySem.Spec PyProof.Rows L2 Tw Sb
section
variable {P : Program} {w : World} {K : PySem.W.Frag} {mg : Str → Option Value} {base : Heap} {C : Addr}
theorem ok_finit {f : Addr} {fd : FuncData} (F : Fun K "__init__" "Feeder.__init__" s_Feeder___init__ f fd) (cl : ClF K C) : FnOk P w K mg base CX0 1 f fd ["self"] (spFInit C) := by
  refine F.ok sc_Feeder___init__ (fun vs H Q E h => ?_) (fun cdv A outer s H vs Q E hr h => ?_)
  · obtain ⟨p, dx, rfl, _⟩ := h
    rfl
  · obtain ⟨p, dx, rfl, hp, q⟩ := h
    refine ⟨_, (pss_cons (ps_fld (pv 0) (pe_lst pa_nil) rfl)
      (pss_one (ps_fld (pv 0) pe_int rfl))), ?_⟩
    refine ⟨Nat.zero_le _, fun l hl => ?_⟩
    have npl : p ≠ l := ne_of_none hp hl
    refine ⟨_, rfl, p, C, dx, [], rfl, (by rw [upd_ne npl]; exact hp), cl.cl, cl.nR, (by show 0 < 1000; decide), _, rfl, p, C, dx, _, rfl, upd_same, cl.cl, cl.nP, (by show 1 < 1000; decide), ?_⟩
    refine q _ l (fun b o nb e => ?_) hl ⟨dx, ?_, ?_⟩
    · rw [upd_ne nb, upd_ne nb, upd_ne (ne_of_none e hl)]
      exact e
    · rw [upd_same, fd_init]
      rfl
    · rw [upd_ne npl.symm, upd_ne npl.symm, upd_same]
      rfl
theorem ok_fdone {f : Addr} {fd : FuncData} (F : Fun K "done" "Feeder.done" s_Feeder_done f fd) (T : Bt mg) (cl : ClF K C) : FnOk P w K mg base CX0 1 f fd ["self"] (spFDone C) := by
  refine F.ok sc_Feeder_done (fun vs H Q E h => ?_) (fun cdv A outer s H vs Q E hr h => ?_)
  · obtain ⟨p, l, rest, pl, rfl, _⟩ := h
    rfl
  · obtain ⟨p, l, rest, pl, rfl, hF, hlen, q⟩ := h
    refine ⟨_, (pss_cons (ps_set (i := 1) sc_Feeder_done.nd rfl (.inl rfl) (pe_lst pa_nil))
      (pss_cons (ps_if (pt_cmpR op_gt (pe_callB call_len_seq (by rfl) T.n_len (by decide +kernel) (pa_cons (pe_fld (pv 0) rfl) pa_nil)) pe_int (nomark _))
        (pss_one (ps_expr (pe_bm PySem.F.plainAttrs_list PySem.F.slot_list_append PySem.F.type_list_append mt_append (pv 1) (pa_cons (pe_tup (pa_cons pe_str (pa_cons (pe_fld (pv 0) rfl) (pa_cons (pe_callB call_len_seq (by rfl) T.n_len (by decide +kernel) (pa_cons (pe_fld (pv 0) rfl) pa_nil)) pa_nil)))) pa_nil))))
        pss_nil)
      (pss_cons (ps_fld (pv 0) (pe_lst pa_nil) rfl)
      (pss_cons (ps_fld (pv 0) pe_int rfl)
      (pss_one (ps_ret (pv 1))))))), ?_⟩
    obtain ⟨dx, hp, hL⟩ := hF
    refine ⟨Nat.zero_le _, fun r hr0 => ?_⟩
    have npr : p ≠ r := ne_of_none hp hr0
    have nlr : l ≠ r := ne_of_none hL hr0
    have s1 := same_upd (o := .lst []) hr0
    have hp1 := s1 _ _ hp
    have hL1 := s1 _ _ hL
    have hR1 : (upd H r (.lst [])) r = some (.lst []) := upd_same
    generalize hH1 : upd H r (.lst []) = H1 at s1 hp1 hL1 hR1 ⊢
    have fin : ∀ (H2 : Hp) (ws : List V), Same H1 (upd H2 r (.lst [])) → (∀ b o, b ≠ r → H1 b = some o → H2 b = some o) → H2 r = some (.lst ws) → Tls H1 H2 (rests rest pl) ws → ∀ l', H2 l' = none →
        Q (.ref r) (upd (upd (upd H2 l' (.lst [])) p (.ins C dx (putF "rest" (.ref l') (fdF l (pl : Nat))))) p (.ins C dx (putF "place" (.int 0) (putF "rest" (.ref l') (fdF l (pl : Nat)))))) := by
      intro H2 ws _ k2 hR2 ht l' hl'
      have nrl : r ≠ l' := ne_of_none hR2 hl'
      have hp2 := k2 p _ npr hp1
      have npl' : p ≠ l' := ne_of_none hp2 hl'
      have hl0 : H l' = none := by
        cases e : H l' with
        | none => rfl
        | some o =>
          rw [k2 l' o nrl.symm (s1 _ _ e)] at hl'
          cases hl'
      have hr0' : H r = none := hr0
      refine q _ l' r ws (fun b o nb e => ?_) hl0 ⟨dx, ?_, ?_⟩ hr0' nrl ?_ (hH1 ▸ ht.keep fun b o e0 e => ?_)
      · have nbr : b ≠ r := ne_of_none e hr0
        rw [upd_ne nb, upd_ne nb, upd_ne (ne_of_none e hl0)]
        exact k2 b o nbr (s1 _ _ e)
      · rw [upd_same, fd_rest, fd_place]
        rfl
      · rw [upd_ne npl'.symm, upd_ne npl'.symm, upd_same]
        rfl
      · rw [upd_ne npr.symm, upd_ne npr.symm, upd_ne nrl]
        exact hR2
      · have nbp : b ≠ p := fun z => by rw [z, hp1] at e0; cases e0
        rw [upd_ne nbp, upd_ne nbp, upd_ne (ne_of_none e hl')]
        exact e
    refine ⟨_, rfl, p, C, dx, _, _, rfl, hp1, cl.cl, cl.nR, fd_get_rest _ _, l, _, rfl, .inl (SqL.of hL1), ((iV rest).length : Nat), 0, rfl, rfl, _, rfl, ?_⟩
    rw [iV_len]
    refine ite2 (fun g => ?_) (fun g => ?_)
    · have g1 : rest ≠ [] := by
        rintro rfl
        simp at g
      refine ⟨_, rfl, .inl ⟨rfl, _, SqL.of hR1⟩, _, rfl, p, C, dx, _, _, rfl, hp1, cl.cl, cl.nP, fd_get_place _ _, _, rfl, p, C, dx, _, _, rfl, hp1, cl.cl, cl.nR, fd_get_rest _ _, l, _, rfl, .inl (SqL.of hL1), by show 3 ≤ sizeLine; decide, fun t ht => ?_⟩
      have nrt : r ≠ t := ne_of_none hR1 ht
      refine ⟨r, [], _, rfl, rfl, by rw [upd_ne nrt]; exact hR1, by show 0 < sizeLine; decide, ?_⟩
      generalize hH2 : upd (upd H1 t (.tup [.str "torn", .int (pl : Nat), .int ((iV rest).length : Nat)])) r (.lst ([] ++ [.ref t])) = H2
      have k2 : ∀ b o, b ≠ r → H1 b = some o → H2 b = some o := fun b o nb e => by
        rw [← hH2, upd_ne nb, upd_ne (ne_of_none e ht)]
        exact e
      refine ⟨Nat.zero_le _, fun l' hl' => ⟨_, rfl, p, C, dx, fdF l (pl : Nat), rfl, ?_, cl.cl, cl.nR, (by show 2 < 1000; decide), _, rfl, p, C, dx, _, rfl, upd_same, cl.cl, cl.nP, (by rw [fd_rest]; show 2 < 1000; decide), _, rfl, ?_⟩⟩
      · have hp2 := k2 p _ npr hp1
        rw [upd_ne (ne_of_none hp2 hl')]
        exact hp2
      · refine fin H2 [.ref t] (fun b o e => ?_) k2 (by rw [← hH2, upd_same]; rfl) ?_ l' hl'
        · by_cases hb : b = r
          · rw [hb] at e ⊢
            rw [upd_same, ← hR1]
            exact e
          · rw [upd_ne hb]
            exact k2 b o hb e
        · unfold rests
          rw [if_neg g1]
          refine .cons ⟨t, rfl, ?_, ht⟩ .nil
          rw [← hH2, upd_ne nrt.symm, upd_same, iV_len]
    · have g1 : rest = [] := by
        cases rest with
        | nil => rfl
        | cons x t =>
          exact absurd (decide_eq_true (show (0 : Int) < (((x :: t).length : Nat) : Int) by rw [List.length_cons]; omega)) g
      refine ⟨Nat.zero_le _, fun l' hl' => ⟨_, rfl, p, C, dx, fdF l (pl : Nat), rfl, ?_, cl.cl, cl.nR, (by show 2 < 1000; decide), _, rfl, p, C, dx, _, rfl, upd_same, cl.cl, cl.nP, (by rw [fd_rest]; show 2 < 1000; decide), _, rfl, ?_⟩⟩
      · rw [upd_ne (ne_of_none hp1 hl')]
        exact hp1
      · refine fin H1 [] (fun b o e => ?_) (fun b o _ e => e) hR1 ?_ l' hl'
        · by_cases hb : b = r
          · rw [hb] at e ⊢
            rw [upd_same, ← hR1]
            exact e
          · rw [upd_ne hb]
            exact e
        · unfold rests
          rw [if_pos g1]
          exact .nil
end
end K54
namespace K54
open PySem PySem.Spec PyProof.Rows L2 Tw Sb
/-- what stands at the k-th zero -/
def feedInv (C p d e z l : Addr) (rest xs : List Int) (pl : Nat) (H : Hp) (zv : List V) (k : Nat) (σ : L2.St) (H' : Hp) : Prop :=
  ∃ (st lk pk : Nat) (rk : List Int) (ts : List Tell) (ws : List V) (y4 y5 : Option V), σ = [some (.ref p), some (.ref d), some (.ref e), some (.int (st : Nat)), y4, y5] ∧ (∀ b o, b ≠ p → H b = some o → H' b = some o) ∧ FdAt C H' p lk rk pk ∧ (lk = l ∨ H lk = none) ∧ e ≠ lk ∧ z ≠ lk ∧ d ≠ lk ∧ H' e = some (.lst ws) ∧ H' z = some (.lst zv) ∧
        (zs 0 xs).drop k = zs st (xs.drop st) ∧ st ≤ xs.length ∧ goes rest pl xs = (ts ++ (goes rk pk (xs.drop st)).1, (goes rk pk (xs.drop st)).2) ∧ Tls (upd (upd H e (.lst [])) lk (.lst [])) H' ts ws ∧ By rk ∧ NZ rk ∧ rk.length ≤ rest.length ∧ ts.length ≤ k
section
variable {P : Program} {w : World} {K : PySem.W.Frag} {mg : Str → Option Value} {base : Heap} {C : Addr}
theorem ok_feed {f : Addr} {fd : FuncData} (F : Fun K "feed" "Feeder.feed" s_Feeder_feed f fd) (T : Bt mg) (cl : ClF K C) (c__refuse_others : Cal P w K mg base 3 "_refuse_others" ["data"] spRefuse) (c__zeros : Cal P w K mg base 1 "_zeros" ["data"] spZeros) (c__read_piece : Cal P w K mg base 2 "_read_piece" ["place", "piece"] spRead) :
    FnOk P w K mg base CX0 4 f fd ["self", "data"] (spFFeedR C) := by
  refine F.ok sc_Feeder_feed (fun vs H Q E h => ?_) (fun cdv A outer s H vs Q E hr h => ?_)
  · obtain ⟨p, d, l, rest, xs, pl, rfl, _⟩ := h
    rfl
  · obtain ⟨p, d, l, rest, xs, pl, rfl, hF, hD, ndl, hBr, hNr, hBx, hlen, q⟩ := h
    refine ⟨_, (pss_cons (ps_expr (pe_cal c__refuse_others hr (by decide) (by rfl) (pa_cons (pv 1) pa_nil)))
      (pss_cons (ps_set (i := 2) sc_Feeder_feed.nd rfl (.inl rfl) (pe_lst pa_nil))
      (pss_cons (ps_set (i := 3) sc_Feeder_feed.nd rfl (.inl rfl) pe_int)
      (pss_cons (ps_for PassesOwn.never rfl (pi_list (pe_cal c__zeros hr (by decide) (by rfl) (pa_cons (pv 1) pa_nil))) (pg_name (i := 4) sc_Feeder_feed.nd rfl (.inl rfl))
        (pss_cons (ps_set (i := 5) sc_Feeder_feed.nd rfl (.inl rfl) (pe_lst (StX.pa_star (pe_fld (pv 0) rfl) (StX.pa_star (pe_slice (r := rSlR) sl_row (pv 1) (po_some (pv 3)) (po_some (pv 4))) pa_nil))))
        (pss_cons (ps_if (pt_cmpR op_gt (pe_callB call_len_seq (by rfl) T.n_len (by decide +kernel) (pa_cons (pv 5) pa_nil)) pe_int (nomark _))
          (pss_one (ps_expr (pe_bm PySem.F.plainAttrs_list PySem.F.slot_list_append PySem.F.type_list_append mt_append (pv 2) (pa_cons (pe_cal c__read_piece hr (by decide) (by rfl) (pa_cons (pe_fld (pv 0) rfl) (pa_cons (pv 5) pa_nil))) pa_nil))))
          pss_nil)
        (pss_cons (ps_fld (pv 0) (pe_lst pa_nil) rfl)
        (pss_cons (ps_fldaug (pv 0) (pe_op op_add (pe_callB call_len_seq (by rfl) T.n_len (by decide +kernel) (pa_cons (pv 5) pa_nil)) pe_int) in_add)
        (pss_one (ps_set (i := 3) sc_Feeder_feed.nd rfl (.inl rfl) (pe_op op_add (pv 4) pe_int))))))))
      (pss_cons (ps_expr (pe_bm PySem.F.plainAttrs_list PySem.F.slot_list_extend PySem.F.type_list_extend mt_extR (pe_fld (pv 0) rfl) (pa_cons (pe_slice (r := rSlR) sl_row (pv 1) (po_some (pv 3)) po_none) pa_nil)))
      (pss_one (ps_ret (pv 2)))))))), ?_⟩
    have hxl : xs.length ≤ big := by omega
    have npd : p ≠ d := by
      obtain ⟨dx, h1, _⟩ := hF
      exact (hD.ne h1 (by intro ys z; cases z) (by intro ys z; cases z)).symm
    refine ⟨_, rfl, d, xs, rfl, hD, hBx, hxl, fun H1 s1 => ?_⟩
    refine ⟨Nat.zero_le _, fun e he => ?_⟩
    have he0 : H e = none := s1.free he
    have s2 := s1.trans (same_upd (o := .lst []) he)
    have hE2 : (upd H1 e (.lst [])) e = some (.lst []) := upd_same
    generalize upd H1 e (.lst []) = H2 at s2 hE2 ⊢
    refine ⟨_, rfl, d, xs, rfl, hD.same s2, hxl, fun H3 z s3 hz hZ => ?_⟩
    have s23 := s2.trans s3
    have hE3 := s3 _ _ hE2
    have hz0 : H z = none := s2.free hz
    have nze : z ≠ e := fun w => by rw [w, hE2] at hz; cases hz
    refine ⟨z, rfl, ⟨_, SqL.of hZ⟩, ?_⟩
    generalize hzv : ((zs 0 xs).map fun (i : Nat) => V.int i) = zv at hZ
    have nzl : (zs 0 xs).length ≤ xs.length := zs_length 0 xs
    have hl0 : H l = some (.lst (iV rest)) := by
      obtain ⟨dx, _, h2⟩ := hF
      exact h2
    have nel' : e ≠ l := fun w => by rw [w, hl0] at he0; cases he0
    have nzl' : z ≠ l := fun w => by rw [w, hl0] at hz0; cases hz0
    refine for_it (walk_list (K := K) (a := z) (xs := zv)) (feedInv C p d e z l rest xs pl H zv)
      ⟨0, l, pl, rest, [], [], _, _, rfl, fun b o _ h => s23 b o h, hF.keep s23, .inl rfl, nel', nzl', ndl, hE3, hZ, rfl, Nat.zero_le _, rfl, .nil, hBr, hNr, Nat.le_refl _, Nat.le_refl _⟩ (fun k σ H' _ h => ?_) ?_ ?_
    · obtain ⟨st, lk, pk, rk, ts, ws, y4, y5, _, _, _, _, _, _, _, _, h2, _⟩ := h
      exact SqL.of h2
    · rintro k x σ H4 H5 hk ⟨st, lk, pk, rk, ts, ws, y4, y5, rfl, bt, hFk, hlk, nel, nzlk, ndlk, hE, hZ4, hzs, hst, hgo, htl, hBk, hNk, hrk, htsl⟩ ⟨rfl, hx⟩
      obtain ⟨i, hi, rfl⟩ : ∃ i : Nat, (zs 0 xs)[k]? = some i ∧ x = V.int i := by
        rw [← hzv, List.getElem?_map] at hx
        cases e : (zs 0 xs)[k]? with
        | none => rw [e] at hx; cases hx
        | some i => rw [e] at hx; cases hx; exact ⟨i, rfl, rfl⟩
      have hklt : k < (zs 0 xs).length := (List.getElem?_eq_some_iff.mp hi).1
      have hdr : (zs 0 xs).drop k = i :: (zs 0 xs).drop (k + 1) := by
        rw [List.drop_eq_getElem_cons hklt, (List.getElem?_eq_some_iff.mp hi).2]
      obtain ⟨seg, r, exs, hNs, ei, ezs⟩ := zs_cons (hzs.symm.trans hdr)
      have hsl : st + seg.length + 1 + r.length = xs.length := by
        have e := congrArg List.length exs
        rw [List.length_drop, List.length_append, List.length_cons] at e
        omega
      have er : xs.drop (i + 1) = r := by
        have e := congrArg (List.drop (seg.length + 1)) exs
        rw [List.drop_drop] at e
        rw [show i + 1 = st + (seg.length + 1) by omega, e, List.drop_append]
        simp
      have eseg : (xs.drop st).take (i - st) = seg := by
        rw [exs, show i - st = seg.length by omega, List.take_left']
        rfl
      have hBs : By seg := by
        have := hBx.drop st
        rw [exs] at this
        exact this.left
      obtain ⟨dx, hp4, hl4⟩ := id hFk
      have hD4 : Rw H5 d (iV xs) := hD.at_ (fun o e => bt d o npd.symm e)
      -- piece
      refine ⟨_, rfl, p, C, dx, _, _, rfl, hp4, cl.cl, cl.nR, fd_get_rest _ _, lk, _, rfl, .inr (SqL.of hl4), _, rfl, _, rfl, _, rfl, _, rfl, _, rfl, d, _, rfl, hD4, fun H50 t s50 ht => ?_⟩
      rw [cut_nn, ← iV_drop, ← iV_take, eseg] at ht
      refine ⟨t, _, rfl, SqR.star ht, ?_, fun pc hpc => ?_⟩
      · rw [List.length_append, List.length_append, iV_len, iV_len]
        exact Nat.le_trans (show rk.length + (seg.length + 0) ≤ big by omega) (by decide)
      rw [List.append_nil, ← iV_append] at *
      have s5 := s50.trans (same_upd (o := .lst (iV (rk ++ seg))) hpc)
      have hPc : (upd H50 pc (.lst (iV (rk ++ seg)))) pc = some (.lst (iV (rk ++ seg))) := upd_same
      have hpc0 : H5 pc = none := s50.free hpc
      generalize upd H50 pc (.lst (iV (rk ++ seg))) = H6 at s5 hPc ⊢
      have hBp : By (rk ++ seg) := hBk.append hBs
      have hNp : NZ (rk ++ seg) := hNk.append hNs
      have hlp : (rk ++ seg).length ≤ big := by rw [List.length_append]; omega
      have hp6 := s5 _ _ hp4
      have hE6 := s5 _ _ hE
      have ge := goes_zero hNs rk pk r
      rw [← exs] at ge
      rw [ge] at hgo
      -- what is the same in both ways
      have npe : p ≠ e := ne_of hp4 hE (by intro w; cases w)
      have hsame5 : ∀ b o, b ≠ p → H b = some o → H6 b = some o := fun b o nb h => s5 _ _ (bt b o nb h)
      have hZ6 := s5 _ _ hZ4
      have hD6 := hD4.same s5
      have nde : d ≠ e := fun w => hD.some (w ▸ he0)
      have npz : p ≠ z := ne_of hp4 hZ4 (by intro w; cases w)
      have hfr : ∀ b, H6 b = none → H b = none := fun b h => by
        cases e1 : H b with
        | none => rfl
        | some o =>
          by_cases hb : b = p
          · rw [hb, hp6] at h
            cases h
          · rw [hsame5 b o hb e1] at h
            cases h
      have hne0 : ∀ b, H6 b = none → (upd H e (.lst [])) b = none := fun b h => by
        have nb : b ≠ e := fun w => by rw [w, hE6] at h; cases h
        rw [upd_ne nb]
        exact hfr b h
      have htH : Tls (upd H e (.lst [])) H6 ts ws := (htl.same s5).old fun b h => (upd_none h).2
      have fin : ∀ (H7 : Hp) (ws7 : List V) (ts7 : List Tell) (l1 : Addr), (∀ b o, b ≠ e → H6 b = some o → H7 b = some o) → H7 e = some (.lst ws7) → Tls (upd H e (.lst [])) H7 ts7 ws7 → ts7 = ts ++ (if rk ++ seg = [] then [] else [tell pk (rk ++ seg)]) → H7 l1 = none →
          feedInv C p d e z l rest xs pl H zv (k + 1) [some (.ref p), some (.ref d), some (.ref e), some (.int ((i : Int) + 1)), some (.int (i : Nat)), some (.ref pc)]
            (upd (upd (upd H7 l1 (.lst [])) p (.ins C dx (putF "rest" (.ref l1) (fdF lk (pk : Nat))))) p (.ins C dx (putF "place" (.int ((pk : Int) + (((iV (rk ++ seg)).length : Nat) + 1))) (fdF l1 (pk : Nat))))) := by
        intro H7 ws7 ts7 l1 k7 hE7 ht7 et7 hl1
        have hp7 := k7 p _ npe hp6
        have hz7 := k7 z _ nze hZ6
        have hd7 := hD6.at_ (fun o e => k7 d o nde e)
        have npl1 : p ≠ l1 := ne_of_none hp7 hl1
        have nel1 : e ≠ l1 := ne_of_none hE7 hl1
        have nzl1 : z ≠ l1 := ne_of_none hz7 hl1
        have h0l1 : H l1 = none := by
          refine hfr l1 ?_
          cases e1 : H6 l1 with
          | none => rfl
          | some o =>
            rw [k7 l1 o nel1.symm e1] at hl1
            cases hl1
        refine ⟨i + 1, l1, pk + (rk ++ seg).length + 1, [], ts7, ws7, some (.int (i : Nat)), some (.ref pc), by rw [show (i : Int) + 1 = ((i + 1 : Nat) : Int) by omega], fun b o nb h => ?_, ⟨dx, ?_, ?_⟩, .inr h0l1, nel1, nzl1, (fun w => hd7.some (w ▸ hl1)), ?_, ?_, ?_, by omega, ?_, ?_, .nil, .nil, Nat.zero_le _, ?_⟩
        · have nbe : b ≠ e := fun w => by rw [w, he0] at h; cases h
          rw [upd_ne nb, upd_ne nb, upd_ne (ne_of_none h h0l1)]
          exact k7 b o nbe (hsame5 b o nb h)
        · rw [upd_same, fd_place, iV_len, show (pk : Int) + (((rk ++ seg).length : Nat) + 1) = ((pk + (rk ++ seg).length + 1 : Nat) : Int) by omega]
        · rw [upd_ne npl1.symm, upd_ne npl1.symm, upd_same]
          rfl
        · rw [upd_ne npe.symm, upd_ne npe.symm, upd_ne nel1]
          exact hE7
        · rw [upd_ne npz.symm, upd_ne npz.symm, upd_ne nzl1]
          exact hz7
        · rw [er]
          exact ezs
        · rw [hgo, et7, er, List.append_assoc]
        · refine (Tls.more hl1 ht7).keep fun b o h1 h2 => ?_
          have nbp : b ≠ p := fun w => by
            obtain ⟨dx', h3, _⟩ := hF
            rw [w] at h1
            rw [(upd_none (upd_none h1).2).2] at h3
            cases h3
          rw [upd_ne nbp, upd_ne nbp, upd_ne (upd_none h1).1]
          exact h2
        · rw [et7, List.length_append]
          have : (if rk ++ seg = [] then [] else [tell pk (rk ++ seg)]).length ≤ 1 := by split <;> simp
          omega
      have hwl : ws.length < sizeLine := by
        rw [← pd_len htl]
        have := zs_length 0 xs
        exact Nat.lt_of_le_of_lt (show ts.length ≤ big by omega) (by decide)
      refine ⟨_, rfl, pc, _, rfl, .inl (SqL.of hPc), ((iV (rk ++ seg)).length : Nat), 0, rfl, rfl, _, rfl, ?_⟩
      refine ite2 (fun g => ?_) (fun g => ?_)
      · have g1 : rk ++ seg ≠ [] := by
          intro w
          rw [w] at g
          exact absurd (of_decide_eq_true g) (by decide)
        refine ⟨_, rfl, .inl ⟨rfl, _, SqL.of hE6⟩, _, rfl, p, C, dx, _, _, rfl, hp6, cl.cl, cl.nP, fd_get_place _ _, _, rfl, pc, pk, rk ++ seg, rfl, hPc, hBp, hNp, hlp, fun H7 v s7 tv => ?_⟩
        have hE7 := s7 _ _ hE6
        refine ⟨e, ws, v, rfl, rfl, hE7, hwl, ?_⟩
        have hp7 : (upd H7 e (.lst (ws ++ [v]))) p = some (.ins C dx (fdF lk (pk : Nat))) := by
          rw [upd_ne npe]
          exact s7 _ _ hp6
        have k7 : ∀ b o, b ≠ e → H6 b = some o → (upd H7 e (.lst (ws ++ [v]))) b = some o := fun b o nb h => by
          rw [upd_ne nb]
          exact s7 _ _ h
        have ht7 : Tls (upd H e (.lst [])) (upd H7 e (.lst (ws ++ [v]))) (ts ++ [tell pk (rk ++ seg)]) (ws ++ [v]) := by
          have h1 : Tls (upd H e (.lst [])) H7 (ts ++ [tell pk (rk ++ seg)]) (ws ++ [v]) := pd_append (htH.same s7) (.cons (tv.old hne0) .nil)
          refine h1.keep fun b o h1 h2 => ?_
          rw [upd_ne (upd_none h1).1]
          exact h2
        have hpc7 : (upd H7 e (.lst (ws ++ [v]))) pc = some (.lst (iV (rk ++ seg))) := by
          have n : pc ≠ e := fun w => by
            rw [w, hE] at hpc0
            cases hpc0
          exact k7 pc _ n hPc
        have hE7' : (upd H7 e (.lst (ws ++ [v]))) e = some (.lst (ws ++ [v])) := upd_same
        generalize upd H7 e (.lst (ws ++ [v])) = H8 at hp7 k7 ht7 hpc7 hE7' ⊢
        refine ⟨Nat.zero_le _, fun l1 hl1 => ?_⟩
        have npl1 : p ≠ l1 := ne_of_none hp7 hl1
        have npc1 : pc ≠ l1 := ne_of_none hpc7 hl1
        have npcp : pc ≠ p := ne_of hpc7 hp7 (by intro w; cases w)
        refine ⟨_, rfl, p, C, dx, fdF lk (pk : Nat), rfl, by rw [upd_ne npl1]; exact hp7, cl.cl, cl.nR, (by show 2 < 1000; decide), _, rfl, p, C, dx, fdF l1 (pk : Nat), .int (pk : Nat), rfl, by rw [upd_same, fd_rest], cl.cl, cl.nP, fd_get_place _ _, _, rfl, pc, _, rfl, .inl (SqL.of (by rw [upd_ne npcp, upd_ne npc1]; exact hpc7)), _, _, rfl, rfl, _, _, rfl, rfl, dx, fdF l1 (pk : Nat), by rw [upd_same, fd_rest], (by show 2 < 1000; decide), _, rfl, _, _, rfl, rfl, ?_⟩
        exact fin H8 (ws ++ [v]) _ l1 k7 hE7' ht7 (by rw [if_neg g1]) hl1
      · have g1 : rk ++ seg = [] := by
          cases hq : rk ++ seg with
          | nil => rfl
          | cons x t =>
            rw [hq] at g
            exact absurd (decide_eq_true (show (0 : Int) < (((iV (x :: t)).length : Nat) : Int) by rw [iV_len, List.length_cons]; omega)) g
        refine ⟨Nat.zero_le _, fun l1 hl1 => ?_⟩
        have npl1 : p ≠ l1 := ne_of_none hp6 hl1
        have npc1 : pc ≠ l1 := ne_of_none hPc hl1
        have npcp : pc ≠ p := ne_of hPc hp6 (by intro w; cases w)
        refine ⟨_, rfl, p, C, dx, fdF lk (pk : Nat), rfl, by rw [upd_ne npl1]; exact hp6, cl.cl, cl.nR, (by show 2 < 1000; decide), _, rfl, p, C, dx, fdF l1 (pk : Nat), .int (pk : Nat), rfl, by rw [upd_same, fd_rest], cl.cl, cl.nP, fd_get_place _ _, _, rfl, pc, _, rfl, .inl (SqL.of (by rw [upd_ne npcp, upd_ne npc1]; exact hPc)), _, _, rfl, rfl, _, _, rfl, rfl, dx, fdF l1 (pk : Nat), by rw [upd_same, fd_rest], (by show 2 < 1000; decide), _, rfl, _, _, rfl, rfl, ?_⟩
        exact fin H6 ws ts l1 (fun b o _ h => h) hE6 htH (by rw [if_pos g1, List.append_nil]) hl1
    · rintro σ H4 ⟨st, lk, pk, rk, ts, ws, y4, y5, rfl, bt, hFk, hlk, nel, nzlk, ndlk, hE, hZ4, hzs, hst, hgo, htl, hBk, hNk, hrk, htsl⟩
      obtain ⟨dx, hp4, hl4⟩ := id hFk
      have hD4 : Rw H4 d (iV xs) := hD.at_ (fun o e => bt d o npd.symm e)
      have hnz : NZ (xs.drop st) := by
        rw [List.drop_of_length_le (by rw [← hzv, List.length_map]; exact Nat.le_refl _)] at hzs
        exact nz_of_zs hzs.symm
      rw [goes_nz hnz, List.append_nil] at hgo
      refine ⟨_, rfl, p, C, dx, _, _, rfl, hp4, cl.cl, cl.nR, fd_get_rest _ _, .inl ⟨rfl, _, SqL.of hl4⟩, _, rfl, _, rfl, _, rfl, d, _, rfl, hD4, fun H40 t s40 ht => ?_⟩
      rw [cut_n0, ← iV_drop] at ht
      refine ⟨lk, t, iV rk, iV (xs.drop st), rfl, rfl, s40 _ _ hl4, ht, ?_, ?_⟩
      · rw [iV_len, iV_len, List.length_drop]
        exact Nat.le_trans (show rk.length + (xs.length - st) ≤ big by omega) (by decide)
      rw [← iV_append]
      have nplk : p ≠ lk := ne_of hp4 hl4 (by intro w; cases w)
      refine ⟨_, rfl, q _ lk e ws (fun b o n1 n2 h => ?_) ⟨dx, ?_, ?_⟩ hlk he0 nel ?_ ?_⟩
      · have nb : b ≠ lk := fun w => by
          rcases hlk with r | r
          · exact n2 (w.trans r)
          · rw [w, r] at h
            cases h
        rw [upd_ne nb]
        exact s40 _ _ (bt b o n1 h)
      · rw [hgo, upd_ne nplk]
        exact s40 _ _ hp4
      · rw [hgo, upd_same]
      · rw [upd_ne nel]
        exact s40 _ _ hE
      · rw [hgo]
        refine htl.keep fun b o h1 h2 => ?_
        rw [upd_ne (upd_none h1).1]
        exact s40 _ _ h2
theorem ok_unstreamed {f : Addr} {fd : FuncData} (F : Fun K "unstreamed" "unstreamed" s_unstreamed f fd) (cl : ClF K C) (m_mk : MkC P w K mg base C 1 "Feeder" (spFInit C)) (m_feed : MCal P w K mg base C 4 "feed" ["self", "data"] (spFFeedR C)) (m_done : MCal P w K mg base C 1 "done" ["self"] (spFDone C)) :
    FnOk P w K mg base CX0 5 f fd ["data"] spUnstR := by
  refine F.ok sc_unstreamed (fun vs H Q E h => ?_) (fun cdv A outer s H vs Q E hr h => ?_)
  · obtain ⟨d, xs, rfl, _⟩ := h
    rfl
  · obtain ⟨d, xs, rfl, hD, hB, hl, q⟩ := h
    refine ⟨_, (pss_cons (ps_set (i := 1) sc_unstreamed.nd rfl (.inl rfl) (pe_mk0 m_mk hr (by decide) (by rfl)))
      (pss_cons (ps_set (i := 2) sc_unstreamed.nd rfl (.inl rfl) (pe_mcal m_feed cl.cl hr (by decide) (pv 1) (pa_cons (pv 0) pa_nil)))
      (pss_cons (ps_expr (pe_bm PySem.F.plainAttrs_list PySem.F.slot_list_extend PySem.F.type_list_extend mt_extend (pv 2) (pa_cons (pe_mcal0 m_done cl.cl hr (by decide) (pv 1)) pa_nil)))
      (pss_one (ps_ret (pv 2)))))), ?_⟩
    intro p dx np ndx nex
    have s1 : Same H (upd (upd H dx (.own p)) p (.ins C dx [])) := fun b o e => by
      rw [upd_ne (ne_of_none e np), upd_ne (ne_of_none e ndx)]
      exact e
    refine ⟨p, dx, rfl, upd_same, fun H2 l k2 hl2 hF2 => ⟨rfl, ?_⟩⟩
    have s2 : Same H H2 := fun b o e => k2 b o (ne_of_none e np) (s1 _ _ e)
    have hl0 : H l = none := s1.free hl2
    have hD2 := hD.same s2
    have ndl : d ≠ l := fun w => hD.some (w ▸ hl0)
    obtain ⟨dx2, hp2, hL2⟩ := id hF2
    refine ⟨_, rfl, p, dx2, _, rfl, hp2, fd_no _ _ (by decide +kernel) (by decide +kernel), _, rfl, p, d, l, [], xs, 0, rfl, hF2, hD2, ndl, .nil, .nil, hB, by simpa using hl, fun H3 l3 r ws b3 hF3 hl3 hr0 nrl hR3 ht3 => ?_⟩
    obtain ⟨dx3, hp3, hL3⟩ := id hF3
    replace ht3 := ht3.old fun b h => (upd_none h).2
    have hgk := goes_keeps (pl := 0) By.nil NZ.nil hB
    have npr : p ≠ r := fun w => by rw [w, hr0] at hp2; cases hp2
    have hmany := goes_many [] 0 xs
    refine ⟨_, rfl, .inl ⟨rfl, _, SqL.of hR3⟩, _, rfl, p, dx3, _, rfl, hp3, fd_no _ _ (by decide +kernel) (by decide +kernel), p, l3, _, _, rfl, hF3, by have := hgk.2.2; simp at this; omega, fun H4 l4 r4 ws4 k4 hl4 hF4 hr4 nr4 hR4 ht4 => ?_⟩
    have hR3' := k4 r _ npr.symm hR3
    have hlen4 : ws4.length ≤ 1 := by
      rw [← pd_len ht4]
      unfold rests
      split <;> simp
    refine ⟨r, r4, ws, ws4, rfl, rfl, hR3', hR4, ?_, ?_⟩
    · rw [← pd_len ht3]
      exact Nat.le_trans (show (goes [] 0 xs).1.length + ws4.length ≤ big + 1 by omega) (by decide)
    have hfr2 : ∀ b, H2 b = none → H b = none := fun b h => s2.free h
    have hfr3 : ∀ b, H3 b = none → H b = none := fun b h => by
      cases e : H b with
      | none => rfl
      | some o =>
        have n1 : b ≠ p := ne_of_none e np
        have n2 : b ≠ l := fun w => by rw [w, hl0] at e; cases e
        rw [b3 b o n1 n2 (s2 _ _ e)] at h
        cases h
    refine ⟨_, rfl, q _ r (ws ++ ws4) (fun b o e => ?_) (hfr2 r hr0) upd_same ?_⟩
    · have n1 : b ≠ p := ne_of_none e np
      have n2 : b ≠ l := fun w => by rw [w, hl0] at e; cases e
      have n3 : b ≠ r := fun w => by rw [w, hfr2 r hr0] at e; cases e
      rw [upd_ne n3]
      exact k4 b o n1 (b3 b o n1 n2 (s2 _ _ e))
    · have nr : ∀ b, H2 b = none → b ≠ p := fun b h w => by rw [w, hp2] at h; cases h
      refine pd_append ((ht3.keep fun b o h1 h2 => ?_).old fun b h => none_upd (upd_none h).1 (hfr2 b (upd_none h).2)) ((ht4.keep fun b o h1 h2 => ?_).old fun b h => none_upd (fun w => ?_) (hfr3 b (upd_none h).2))
      · rw [upd_ne (upd_none h1).1]
        exact k4 b o (nr b (upd_none h1).2) h2
      · have nb : b ≠ r := fun w => by
          have := (upd_none h1).2
          rw [w, hR3] at this
          cases this
        rw [upd_ne nb]
        exact h2
      · have := (upd_none h).2
        rw [w, hR3] at this
        cases this
end
end K54
namespace K54
open PySem PySem.Spec PyProof.Rows L2 Tw Sb
section
variable {P : Program} {w : World} {K : PySem.W.Frag} {mg : Str → Option Value} {base : Heap}
def spFeedX (CB : Addr) : Sp := fun vs H _ E => ∃ (p : Addr) (v : V), vs = [.ref p, v] ∧ ByT H v false ∧ ∀ (H' : Hp) (d : Addr), Same H H' → H d = none → H' d = some (.xd [(("why" : Str), .str "wire")]) → E (.ref CB) (some d) H'
theorem ok_feedX {C CB : Addr} {f : Addr} {fd : FuncData} (F : Fun K "feed" "Feeder.feed" s_Feeder_feed f fd) (T : Bt mg) (cl : ClF K C) (c__refuse_others : CalX P w K mg base 3 "_refuse_others" ["data"] (spRefuseX CB)) (c__zeros : Cal P w K mg base 1 "_zeros" ["data"] spZeros) (c__read_piece : Cal P w K mg base 2 "_read_piece" ["place", "piece"] spRead) :
    FnOk P w K mg base (L2.CX P w) 4 f fd ["self", "data"] (spFeedX CB) := by
  refine F.okX sc_Feeder_feed (fun vs H Q E h => ?_) (fun cdv A outer s H vs Q E hr h => ?_)
  · obtain ⟨p, v, rfl, _⟩ := h
    rfl
  · obtain ⟨p, v, rfl, hv, q⟩ := h
    refine ⟨_, (pss_cons (ps_expr (pe_calX c__refuse_others hr (by decide) (by rfl) (takes_of rfl rfl rfl rfl) (pa_cons (pv 1) pa_nil)))
      (PSs.nox (pss_cons (ps_set (i := 2) sc_Feeder_feed.nd rfl (.inl rfl) (pe_lst pa_nil))
      (pss_cons (ps_set (i := 3) sc_Feeder_feed.nd rfl (.inl rfl) pe_int)
      (pss_cons (ps_for PassesOwn.never rfl (pi_list (pe_cal c__zeros hr (by decide) (by rfl) (pa_cons (pv 1) pa_nil))) (pg_name (i := 4) sc_Feeder_feed.nd rfl (.inl rfl))
        (pss_cons (ps_set (i := 5) sc_Feeder_feed.nd rfl (.inl rfl) (pe_lst (StX.pa_star (pe_fld (pv 0) rfl) (StX.pa_star (pe_slice (r := rSlR) sl_row (pv 1) (po_some (pv 3)) (po_some (pv 4))) pa_nil))))
        (pss_cons (ps_if (pt_cmpR op_gt (pe_callB call_len_seq (by rfl) T.n_len (by decide +kernel) (pa_cons (pv 5) pa_nil)) pe_int (nomark _))
          (pss_one (ps_expr (pe_bm PySem.F.plainAttrs_list PySem.F.slot_list_append PySem.F.type_list_append mt_append (pv 2) (pa_cons (pe_cal c__read_piece hr (by decide) (by rfl) (pa_cons (pe_fld (pv 0) rfl) (pa_cons (pv 5) pa_nil))) pa_nil))))
          pss_nil)
        (pss_cons (ps_fld (pv 0) (pe_lst pa_nil) rfl)
        (pss_cons (ps_fldaug (pv 0) (pe_op op_add (pe_callB call_len_seq (by rfl) T.n_len (by decide +kernel) (pa_cons (pv 5) pa_nil)) pe_int) in_add)
        (pss_one (ps_set (i := 3) sc_Feeder_feed.nd rfl (.inl rfl) (pe_op op_add (pv 4) pe_int))))))))
      (pss_cons (ps_expr (pe_bm PySem.F.plainAttrs_list PySem.F.slot_list_extend PySem.F.type_list_extend mt_extR (pe_fld (pv 0) rfl) (pa_cons (pe_slice (r := rSlR) sl_row (pv 1) (po_some (pv 3)) po_none) pa_nil)))
      (pss_one (ps_ret (pv 2))))))))), ?_⟩
    exact ⟨_, rfl, v, false, rfl, hv, (fun z => nomatch z), fun _ H' d s hd he => q H' d s hd he⟩
end
end K54
namespace K54
open PySem PySem.Spec PyProof.Rows L2 Tw Sb
section
variable {P : Program} {w : World} {K : PySem.W.Frag} {mg : Str → Option Value} {base : Heap}
theorem ok_without_zeros {f : Addr} {fd : FuncData} (F : Fun K "_without_zeros" "_without_zeros" s__without_zeros f fd) (T : Bt mg) (g_LONGEST_RUN : Gi mg "LONGEST_RUN" 254) (c__zeros : Cal P w K mg base 1 "_zeros" ["data"] spZeros) : FnOk P w K mg base CX0 2 f fd ["whole"] spWz := by
  refine F.ok sc__without_zeros (fun vs H Q E h => ?_) (fun cdv A outer s H vs Q E hr h => ?_)
  · obtain ⟨a, xs, rfl, _⟩ := h
    rfl
  · obtain ⟨a, xs, rfl, hA, hB, hl, q⟩ := h
    refine ⟨_, (pss_cons (ps_set (i := 1) sc__without_zeros.nd rfl (.inl rfl) (pe_lst pa_nil))
      (pss_cons (ps_set (i := 2) sc__without_zeros.nd rfl (.inl rfl) pe_int)
      (pss_cons (ps_for PassesOwn.never rfl (pi_list (pe_lst (StX.pa_star (pe_cal c__zeros hr (by decide) (by rfl) (pa_cons (pv 0) pa_nil)) (pa_cons (pe_callB call_len_seq (by rfl) T.n_len (by decide +kernel) (pa_cons (pv 0) pa_nil)) pa_nil)))) (pg_name (i := 3) sc__without_zeros.nd rfl (.inl rfl))
        (pss_cons (ps_while PassesOwn.never (PW.pt (pw_or (pt_cmpR op_gt (pe_op op_sub (pv 3) (pv 2)) (C8.pe_gc rfl g_LONGEST_RUN) (nomark _)) (pw_or1 (PW.pt (pw_and (pt_cmpR op_eq (pe_op op_sub (pv 3) (pv 2)) (C8.pe_gc rfl g_LONGEST_RUN) (nomark _)) (pw_and1 (pt_cmpR op_lt (pv 3) (pe_callB call_len_seq (by rfl) T.n_len (by decide +kernel) (pa_cons (pv 0) pa_nil)) (nomark _))))))))
          (pss_cons (ps_expr (pe_bm PySem.F.plainAttrs_list PySem.F.slot_list_extend PySem.F.type_list_extend mt_extend (pv 1) (pa_cons (pe_lst (pa_cons (pe_op op_add (C8.pe_gc rfl g_LONGEST_RUN) pe_int) (StX.pa_star (pe_slice (r := rSlL K) sl_list (pv 0) (po_some (pv 2)) (po_some (pe_op op_add (pv 2) (C8.pe_gc rfl g_LONGEST_RUN)))) pa_nil))) pa_nil)))
          (pss_one (ps_aug (i := 2) sc__without_zeros.nd rfl (.inl rfl) (C8.pe_gc rfl g_LONGEST_RUN) ip_add))))
        (pss_cons (ps_expr (pe_bm PySem.F.plainAttrs_list PySem.F.slot_list_extend PySem.F.type_list_extend mt_extend (pv 1) (pa_cons (pe_lst (pa_cons (pe_op op_add (pe_op op_sub (pv 3) (pv 2)) pe_int) (StX.pa_star (pe_slice (r := rSlL K) sl_list (pv 0) (po_some (pv 2)) (po_some (pv 3))) pa_nil))) pa_nil)))
        (pss_one (ps_set (i := 2) sc__without_zeros.nd rfl (.inl rfl) (pe_op op_add (pv 3) pe_int))))))
      (pss_one (ps_ret (pv 1)))))), ?_⟩
    have sz : ∀ {m n : Nat}, m + n ≤ 2000000 → m + n ≤ sizeLine := fun h => Nat.le_trans h (by decide)
    refine ⟨Nat.zero_le _, fun p hp => ?_⟩
    have nP0 : Nw H (upd H p (.lst [])) p [] := ⟨hp, upd_same⟩
    have s0 := same_upd (o := .lst []) hp
    generalize upd H p (.lst []) = H0 at nP0 s0 ⊢
    refine ⟨_, rfl, a, xs, rfl, .inl (s0 _ _ hA), Nat.le_trans hl (by decide), fun H1 z s1 hz hZ => ?_⟩
    have hA1 := s1 _ _ (s0 _ _ hA)
    have s01 := s0.trans s1
    refine ⟨z, _, rfl, .inr (SqL.of hZ), _, rfl, a, _, rfl, .inl (SqL.of hA1), ?_, fun u hu => ?_⟩
    · rw [List.length_append, List.length_map]
      have := zs_length 0 xs
      exact Nat.le_trans (show (zs 0 xs).length + 1 ≤ 200001 by omega) (by decide)
    rw [iV_len]
    generalize hL : ((zs 0 xs).map fun (i : Nat) => V.int i) ++ [V.int (xs.length : Nat)] = L
    have hU : (upd H1 u (.lst L)) u = some (.lst L) := upd_same
    have s02 := s01.trans (same_upd (o := .lst L) hu)
    have nP2 := (nP0.same s1).same (same_upd (o := .lst L) hu)
    have nup : u ≠ p := fun e => by
      have := (nP0.same s1).at_
      rw [← e, hu] at this
      cases this
    generalize upd H1 u (.lst L) = H2 at hU s02 nP2 ⊢
    have hLl : L.length = (zs 0 xs).length + 1 := by rw [← hL]; simp
    refine ⟨u, rfl, ⟨_, SqL.of hU⟩, ?_⟩
    refine for_it (walk_list (K := K) (a := u) (xs := L)) (fun k σ H' => ∃ (st : Nat) (wr : List Int) (y : Option V), σ = [some (.ref a), some (.ref p), some (.int (st : Nat)), y] ∧ Same H H' ∧ H' u = some (.lst L) ∧ Nw H H' p wr ∧
        ((k ≤ (zs 0 xs).length ∧ (zs 0 xs).drop k = zs st (xs.drop st) ∧ st ≤ xs.length ∧ enc [] xs = wr ++ enc [] (xs.drop st)) ∨ (k = (zs 0 xs).length + 1 ∧ wr = enc [] xs)))
      ⟨0, [], none, rfl, s02, hU, nP2, .inl ⟨Nat.zero_le _, rfl, Nat.zero_le _, rfl⟩⟩ (fun k σ H' _ h => ?_) ?_ ?_
    · obtain ⟨_, _, _, _, _, h2, _⟩ := h
      exact SqL.of h2
    · rintro k x σ H3 H4 hk ⟨st, wr, y, rfl, hs, hU3, nP, hor⟩ ⟨rfl, hx⟩
      obtain ⟨hk1, hzs, hst, henc⟩ := hor.resolve_right (fun q => by omega)
      -- the end, the stretch
      obtain ⟨e, seg, last, ex, he1, he2, hseg, hlast, hnx, hps⟩ : ∃ (e : Nat) (seg : List Int) (last : Bool), x = V.int (e : Nat) ∧ e = st + seg.length ∧ e ≤ xs.length ∧ (xs.drop st).take (e - st) = seg ∧ (last = true ↔ e = xs.length) ∧
          ((k + 1 ≤ (zs 0 xs).length ∧ (zs 0 xs).drop (k + 1) = zs (e + 1) (xs.drop (e + 1)) ∧ e + 1 ≤ xs.length ∧ enc [] xs = wr ++ encS last seg ++ enc [] (xs.drop (e + 1))) ∨ (k + 1 = (zs 0 xs).length + 1 ∧ enc [] xs = wr ++ encS last seg)) ∧ Ps seg := by
        by_cases c : k < (zs 0 xs).length
        · have hi := List.getElem?_eq_getElem c
          generalize hiv : (zs 0 xs)[k] = i at hi
          have hdr : (zs 0 xs).drop k = i :: (zs 0 xs).drop (k + 1) := by
            rw [List.drop_eq_getElem_cons c, hiv]
          obtain ⟨seg, r, exs, hNs, ei, ezs⟩ := zs_cons (hzs.symm.trans hdr)
          have hsl : st + seg.length + 1 + r.length = xs.length := by
            have e := congrArg List.length exs
            rw [List.length_drop, List.length_append, List.length_cons] at e
            omega
          have er : xs.drop (i + 1) = r := by
            have e := congrArg (List.drop (seg.length + 1)) exs
            rw [List.drop_drop] at e
            rw [show i + 1 = st + (seg.length + 1) by omega, e, List.drop_append]
            simp
          have hBs : By seg := by
            have := hB.drop st
            rw [exs] at this
            exact this.left
          refine ⟨i, seg, false, ?_, ei, by omega, ?_, ?_, .inl ⟨c, by rw [er]; exact ezs, by omega, ?_⟩, Ps.of hBs hNs⟩
          · rw [← hL, List.getElem?_append_left (by simpa using c), List.getElem?_map, hi] at hx
            exact (Option.some.inj hx).symm
          · rw [exs, show i - st = seg.length by omega, List.take_left']
            rfl
          · constructor
            · intro w
              cases w
            · intro w
              omega
          · rw [henc, exs, enc_nz [] hNs, List.nil_append, er, List.append_assoc]
        · have ck : k = (zs 0 xs).length := by omega
          have hnz : NZ (xs.drop st) := by
            rw [ck, List.drop_length] at hzs
            exact nz_of_zs hzs.symm
          refine ⟨xs.length, xs.drop st, true, ?_, by rw [List.length_drop]; omega, Nat.le_refl _, by rw [List.take_of_length_le (by rw [List.length_drop]; exact Nat.le_refl _)], by simp, .inr ⟨by omega, ?_⟩, Ps.of (hB.drop st) hnz⟩
          · rw [← hL, ck, List.getElem?_append_right (by simp)] at hx
            simp at hx
            exact hx.symm
          · rw [henc, enc_end [] hnz, List.nil_append]
      subst ex
      have hA3 := hs _ _ hA
      -- the full runs
      refine ⟨fun m σ H' => ∃ (st' : Nat) (wr' : List Int), σ = [some (.ref a), some (.ref p), some (.int (st' : Nat)), some (.int (e : Nat))] ∧ Same H H' ∧ H' u = some (.lst L) ∧ Nw H H' p wr' ∧ st ≤ st' ∧ st' ≤ e ∧ wr' ++ encS last ((xs.drop st').take (e - st')) = wr ++ encS last seg ∧ m = e - st',
        ⟨_, st, wr, rfl, hs, hU3, nP, Nat.le_refl _, by omega, by rw [hseg], rfl⟩, ?_⟩
      rintro m σ H5 ⟨st', wr', rfl, hs5, hU5, nP5, h1, h2, h3, rfl⟩
      have hA5 := hs5 _ _ hA
      have ls : ((xs.drop st').take (e - st')).length = e - st' := by
        rw [List.length_take, List.length_drop]
        omega
      have hwl : wr'.length ≤ 500000 := by
        have e1 := congrArg List.length h3
        rw [List.length_append, List.length_append] at e1
        have e2 := enc_len [] xs
        have e3 : (enc [] xs).length ≥ (wr ++ encS last seg).length := by
          rcases hnx with ⟨_, _, _, h⟩ | ⟨_, h⟩
          · rw [h, List.length_append]
            exact Nat.le_add_right _ _
          · rw [h]
            exact Nat.le_refl _
        rw [List.length_append] at e3
        have e4 : ([] : List Int).length = 0 := rfl
        omega
      -- what follows the while
      have behind : ¬ (254 < e - st' ∨ (e - st' = 254 ∧ last = false)) → ∀ t : Addr, H5 t = none → ∀ r : Addr, (upd H5 t (.lst (iV ((xs.drop st').take (e - st'))))) r = none →
          ∃ H6, H6 = upd (upd (upd H5 t (.lst (iV ((xs.drop st').take (e - st'))))) r (.lst (iV ((((e : Nat) : Int) - (st' : Nat) + 1) :: ((xs.drop st').take (e - st')))))) p (.lst (iV (wr' ++ ((((e : Nat) : Int) - (st' : Nat) + 1) :: ((xs.drop st').take (e - st')))))) ∧
            (∃ (st : Nat) (wr : List Int) (y : Option V), ([some (.ref a), some (.ref p), some (.int (((e : Nat) : Int) + 1)), some (.int (e : Nat))] : L2.St) = [some (.ref a), some (.ref p), some (.int (st : Nat)), y] ∧ Same H H6 ∧ H6 u = some (.lst L) ∧ Nw H H6 p wr ∧
        ((k + 1 ≤ (zs 0 xs).length ∧ (zs 0 xs).drop (k + 1) = zs st (xs.drop st) ∧ st ≤ xs.length ∧ enc [] xs = wr ++ enc [] (xs.drop st)) ∨ (k + 1 = (zs 0 xs).length + 1 ∧ wr = enc [] xs))) := by
        intro hc t ht r hr0
        refine ⟨_, rfl, e + 1, wr ++ encS last seg, some (.int (e : Nat)), by rw [show ((e : Nat) : Int) + 1 = ((e + 1 : Nat) : Int) by omega], fun b o hb => ?_, ?_, ⟨nP5.new, ?_⟩, ?_⟩
        · have h5 := hs5 _ _ hb
          have h6 : (upd H5 t (.lst (iV ((xs.drop st').take (e - st'))))) b = some o := by rw [upd_ne (ne_of_none h5 ht)]; exact h5
          rw [upd_ne (ne_of_none hb nP5.new), upd_ne (ne_of_none h6 hr0)]
          exact h6
        · have h6 : (upd H5 t (.lst (iV ((xs.drop st').take (e - st'))))) u = some (.lst L) := by rw [upd_ne (ne_of_none hU5 ht)]; exact hU5
          rw [upd_ne nup, upd_ne (ne_of_none h6 hr0)]
          exact h6
        · rw [upd_same, ← h3, encS_end (by rw [ls]; exact hc), ls, show ((e : Nat) : Int) - (st' : Nat) = ((e - st' : Nat) : Int) by omega]
        · rcases hnx with ⟨n1, n2, n3, n4⟩ | ⟨n1, n2⟩
          · exact .inl ⟨n1, n2, n3, n4⟩
          · exact .inr ⟨n1, n2.symm⟩
      have step : (254 < e - st' ∨ (e - st' = 254 ∧ last = false)) → ∀ t : Addr, H5 t = none → ∀ r : Addr, (upd H5 t (.lst (iV ((xs.drop st').take 254)))) r = none →
          ∃ H6, H6 = upd (upd (upd H5 t (.lst (iV ((xs.drop st').take 254)))) r (.lst (iV (255 :: ((xs.drop st').take 254))))) p (.lst (iV (wr' ++ (255 :: ((xs.drop st').take 254))))) ∧
            ∃ m', m' < e - st' ∧ ∃ (st'' : Nat) (wr'' : List Int), ([some (.ref a), some (.ref p), some (.int (((st' : Nat) : Int) + 254)), some (.int (e : Nat))] : L2.St) = [some (.ref a), some (.ref p), some (.int (st'' : Nat)), some (.int (e : Nat))] ∧ Same H H6 ∧ H6 u = some (.lst L) ∧ Nw H H6 p wr'' ∧ st ≤ st'' ∧ st'' ≤ e ∧ wr'' ++ encS last ((xs.drop st'').take (e - st'')) = wr ++ encS last seg ∧ m' = e - st'' := by
        intro hc t ht r hr0
        refine ⟨_, rfl, e - (st' + 254), by omega, st' + 254, wr' ++ (255 :: ((xs.drop st').take 254)), by rw [show ((st' : Nat) : Int) + 254 = ((st' + 254 : Nat) : Int) by omega], fun b o hb => ?_, ?_, ⟨nP5.new, upd_same⟩, by omega, by omega, ?_, rfl⟩
        · have h5 := hs5 _ _ hb
          have h6 : (upd H5 t (.lst (iV ((xs.drop st').take 254)))) b = some o := by rw [upd_ne (ne_of_none h5 ht)]; exact h5
          rw [upd_ne (ne_of_none hb nP5.new), upd_ne (ne_of_none h6 hr0)]
          exact h6
        · have h6 : (upd H5 t (.lst (iV ((xs.drop st').take 254)))) u = some (.lst L) := by rw [upd_ne (ne_of_none hU5 ht)]; exact hU5
          rw [upd_ne nup, upd_ne (ne_of_none h6 hr0)]
          exact h6
        · rw [← h3, encS_full (seg := (xs.drop st').take (e - st')) (by rw [ls]; exact hc), List.take_take, Nat.min_eq_left (by omega), List.append_assoc, List.drop_take, List.drop_drop, show e - st' - 254 = e - (st' + 254) by omega]
          rfl
      have hA5' := SqL.of (K := K) hA5
      -- the body of the while
      have body : (254 < e - st' ∨ (e - st' = 254 ∧ last = false)) → ∀ (N : L2.St → Hp → Prop), (∀ σ' H', (∃ m', m' < e - st' ∧ ∃ (st'' : Nat) (wr'' : List Int), σ' = [some (.ref a), some (.ref p), some (.int (st'' : Nat)), some (.int (e : Nat))] ∧ Same H H' ∧ H' u = some (.lst L) ∧ Nw H H' p wr'' ∧ st ≤ st'' ∧ st'' ≤ e ∧ wr'' ++ encS last ((xs.drop st'').take (e - st'')) = wr ++ encS last seg ∧ m' = e - st'') → N σ' H') →
          ∀ t : Addr, H5 t = none → (cutV (iV xs) (some (st' : Int)) (some ((st' : Int) + 254)) = iV ((xs.drop st').take 254)) ∧ ∀ r : Addr, (upd H5 t (.lst (iV ((xs.drop st').take 254)))) r = none → (upd (upd H5 t (.lst (iV ((xs.drop st').take 254)))) r (.lst (iV (255 :: ((xs.drop st').take 254))))) p = some (.lst (iV wr')) ∧ (iV wr').length + (iV (255 :: ((xs.drop st').take 254))).length ≤ sizeLine ∧
            N [some (.ref a), some (.ref p), some (.int (((st' : Nat) : Int) + 254)), some (.int (e : Nat))] (upd (upd (upd H5 t (.lst (iV ((xs.drop st').take 254)))) r (.lst (iV (255 :: ((xs.drop st').take 254))))) p (.lst (iV (wr' ++ (255 :: ((xs.drop st').take 254)))))) := by
        intro hc N hN t ht
        refine ⟨by rw [show (st' : Int) + 254 = ((st' + 254 : Nat) : Int) by omega, cut_nn, iV_take, iV_drop, show st' + 254 - st' = 254 by omega], fun r hr0 => ?_⟩
        have hp5 := nP5.at_
        have hp6 : (upd H5 t (.lst (iV ((xs.drop st').take 254)))) p = some (.lst (iV wr')) := by rw [upd_ne (ne_of_none hp5 ht)]; exact hp5
        refine ⟨by rw [upd_ne (ne_of_none hp6 hr0)]; exact hp6, sz ?_, ?_⟩
        · rw [iV_len, iV_len, List.length_cons, List.length_take, List.length_drop]
          omega
        · obtain ⟨H6, e6, h6⟩ := step hc t ht r hr0
          rw [← e6]
          exact hN _ _ h6
      have eI : ((e : Nat) : Int) - ((st' : Nat) : Int) = ((e - st' : Nat) : Int) := by omega
      refine ⟨_, rfl, _, rfl, ((e : Nat) : Int), ((st' : Nat) : Int), rfl, rfl, _, 254, rfl, rfl, _, rfl, ?_⟩
      refine ite2 (fun g => ?_) (fun g => ?_)
      · have hc : 254 < e - st' := by have := of_decide_eq_true g; omega
        refine ⟨_, fun σ' H' h => h, ?_⟩
        refine ⟨_, rfl, .inl ⟨rfl, _, SqL.of nP5.at_⟩, 254, 1, rfl, rfl, _, rfl, _, rfl, _, rfl, _, rfl, _, 254, rfl, rfl, _, rfl, a, _, rfl, hA5', fun t ht => ?_⟩
        obtain ⟨ec, hb⟩ := body (.inl hc) _ (fun σ' H' h => h) t ht
        rw [ec]
        refine ⟨t, _, rfl, .inr (SqL.of upd_same), ?_, fun r hr0 => ?_⟩
        · rw [List.append_nil, List.length_cons, iV_len, List.length_take]
          exact Nat.le_trans (show min 254 _ + 1 ≤ 255 by omega) (by decide)
        obtain ⟨b1, b2, b3⟩ := hb r hr0
        rw [List.append_nil, show V.int (254 + 1) :: iV ((xs.drop st').take 254) = iV (255 :: ((xs.drop st').take 254)) from rfl]
        refine ⟨p, r, _, _, rfl, rfl, b1, upd_same, b2, ?_⟩
        rw [← iV_append]
        exact ⟨_, rfl, _, _, rfl, rfl, b3⟩
      · have hc : ¬ 254 < e - st' := fun w => g (decide_eq_true (by omega))
        refine ⟨_, rfl, _, rfl, ((e : Nat) : Int), ((st' : Nat) : Int), rfl, rfl, rfl, _, rfl, ?_⟩
        refine ite2 (fun g2 => ?_) (fun g2 => ?_)
        · have h254 : e - st' = 254 := by
            have := of_decide_eq_true g2
            injection this with this
            omega
          refine ⟨_, rfl, _, rfl, a, _, rfl, .inl hA5', ((e : Nat) : Int), ((iV xs).length : Nat), rfl, rfl, _, rfl, ?_⟩
          rw [iV_len]
          refine ite2 (fun g3 => ?_) (fun g3 => ?_)
          · have hf : last = false := by
              cases hq : last with
              | false => rfl
              | true =>
                have := of_decide_eq_true g3
                have := hlast.mp hq
                omega
            refine ⟨_, fun σ' H' h => h, ?_⟩
            refine ⟨_, rfl, .inl ⟨rfl, _, SqL.of nP5.at_⟩, 254, 1, rfl, rfl, _, rfl, _, rfl, _, rfl, _, rfl, _, 254, rfl, rfl, _, rfl, a, _, rfl, hA5', fun t ht => ?_⟩
            obtain ⟨ec, hb⟩ := body (.inr ⟨h254, hf⟩) _ (fun σ' H' h => h) t ht
            rw [ec]
            refine ⟨t, _, rfl, .inr (SqL.of upd_same), ?_, fun r hr0 => ?_⟩
            · rw [List.append_nil, List.length_cons, iV_len, List.length_take]
              exact Nat.le_trans (show min 254 _ + 1 ≤ 255 by omega) (by decide)
            obtain ⟨b1, b2, b3⟩ := hb r hr0
            rw [List.append_nil, show V.int (254 + 1) :: iV ((xs.drop st').take 254) = iV (255 :: ((xs.drop st').take 254)) from rfl]
            refine ⟨p, r, _, _, rfl, rfl, b1, upd_same, b2, ?_⟩
            rw [← iV_append]
            exact ⟨_, rfl, _, _, rfl, rfl, b3⟩
          · have hn : ¬ (254 < e - st' ∨ (e - st' = 254 ∧ last = false)) := by
              rintro (w | ⟨_, w⟩)
              · exact hc w
              · have : e = xs.length := by
                  rcases Nat.lt_or_ge e xs.length with z | z
                  · exact absurd (decide_eq_true (show ((e : Nat) : Int) < (xs.length : Nat) by omega)) g3
                  · omega
                rw [hlast.mpr this] at w
                cases w
            refine ⟨_, rfl, .inl ⟨rfl, _, SqL.of nP5.at_⟩, _, rfl, _, rfl, _, _, rfl, rfl, _, 1, rfl, rfl, _, rfl, _, rfl, _, rfl, _, rfl, _, rfl, a, _, rfl, hA5', fun t ht => ?_⟩
            rw [show cutV (iV xs) (some ((st' : Nat) : Int)) (some ((e : Nat) : Int)) = iV ((xs.drop st').take (e - st')) by rw [cut_nn, iV_take, iV_drop]]
            refine ⟨t, _, rfl, .inr (SqL.of upd_same), ?_, fun r hr0 => ?_⟩
            · rw [List.append_nil, List.length_cons, iV_len, ls]
              exact sz (show e - st' + 1 ≤ 2000000 by omega)
            obtain ⟨H6, e6, h6⟩ := behind hn t ht r hr0
            rw [List.append_nil, show V.int (((e : Nat) : Int) - (st' : Nat) + 1) :: iV ((xs.drop st').take (e - st')) = iV ((((e : Nat) : Int) - (st' : Nat) + 1) :: ((xs.drop st').take (e - st'))) from rfl]
            have hp6 : (upd H5 t (.lst (iV ((xs.drop st').take (e - st'))))) p = some (.lst (iV wr')) := by rw [upd_ne (ne_of_none nP5.at_ ht)]; exact nP5.at_
            refine ⟨p, r, _, _, rfl, rfl, by rw [upd_ne (ne_of_none hp6 hr0)]; exact hp6, upd_same, sz ?_, ?_⟩
            · rw [iV_len, iV_len, List.length_cons, ls]
              omega
            rw [← iV_append, ← e6]
            exact ⟨_, rfl, _, 1, rfl, rfl, h6⟩
        · have hn : ¬ (254 < e - st' ∨ (e - st' = 254 ∧ last = false)) := by
            rintro (w | ⟨w, _⟩)
            · exact hc w
            · exact g2 (decide_eq_true (by show V.int (((e : Nat) : Int) - ((st' : Nat) : Int)) = V.int 254; rw [eI, w]; rfl))
          refine ⟨_, rfl, .inl ⟨rfl, _, SqL.of nP5.at_⟩, _, rfl, _, rfl, _, _, rfl, rfl, _, 1, rfl, rfl, _, rfl, _, rfl, _, rfl, _, rfl, _, rfl, a, _, rfl, hA5', fun t ht => ?_⟩
          rw [show cutV (iV xs) (some ((st' : Nat) : Int)) (some ((e : Nat) : Int)) = iV ((xs.drop st').take (e - st')) by rw [cut_nn, iV_take, iV_drop]]
          refine ⟨t, _, rfl, .inr (SqL.of upd_same), ?_, fun r hr0 => ?_⟩
          · rw [List.append_nil, List.length_cons, iV_len, ls]
            exact sz (show e - st' + 1 ≤ 2000000 by omega)
          obtain ⟨H6, e6, h6⟩ := behind hn t ht r hr0
          rw [List.append_nil, show V.int (((e : Nat) : Int) - (st' : Nat) + 1) :: iV ((xs.drop st').take (e - st')) = iV ((((e : Nat) : Int) - (st' : Nat) + 1) :: ((xs.drop st').take (e - st'))) from rfl]
          have hp6 : (upd H5 t (.lst (iV ((xs.drop st').take (e - st'))))) p = some (.lst (iV wr')) := by rw [upd_ne (ne_of_none nP5.at_ ht)]; exact nP5.at_
          refine ⟨p, r, _, _, rfl, rfl, by rw [upd_ne (ne_of_none hp6 hr0)]; exact hp6, upd_same, sz ?_, ?_⟩
          · rw [iV_len, iV_len, List.length_cons, ls]
            omega
          rw [← iV_append, ← e6]
          exact ⟨_, rfl, _, 1, rfl, rfl, h6⟩
    · rintro σ H3 ⟨st, wr, y, rfl, hs, hU3, nP, hor⟩
      rcases hor with ⟨hk1, _⟩ | ⟨_, e⟩
      · omega
      · exact ⟨_, rfl, q _ p hs (e ▸ nP)⟩
theorem ok_streamed {f : Addr} {fd : FuncData} (F : Fun K "streamed" "streamed" s_streamed f fd) (c__refuse_others : Cal P w K mg base 3 "_refuse_others" ["data"] spRefuse) (c__without_zeros : Cal P w K mg base 2 "_without_zeros" ["whole"] spWz) (c__check : Cal P w K mg base 1 "_check" ["part"] spCheck) :
    FnOk P w K mg base CX0 4 f fd ["parts"] spStrm := by
  refine F.ok sc_streamed (fun vs H Q E h => ?_) (fun cdv A outer s H vs Q E hr h => ?_)
  · obtain ⟨a, ps, ws, rfl, _⟩ := h
    rfl
  · obtain ⟨a, ps, ws, rfl, hR, hP, hl, q⟩ := h
    refine ⟨_, (pss_cons (ps_set (i := 1) sc_streamed.nd rfl (.inl rfl) (pe_lst pa_nil))
      (pss_cons (ps_for PassesOwn.never rfl (pi_row (pv 0)) (pg_name (i := 2) sc_streamed.nd rfl (.inl rfl))
        (pss_cons (ps_expr (pe_cal c__refuse_others hr (by decide) (by rfl) (pa_cons (pv 2) pa_nil)))
        (pss_cons (ps_expr (pe_bm PySem.F.plainAttrs_list PySem.F.slot_list_extend PySem.F.type_list_extend mt_extend (pv 1) (pa_cons (pe_cal c__without_zeros hr (by decide) (by rfl) (pa_cons (pe_lst (StX.pa_star (pv 2) (StX.pa_star (pe_cal c__check hr (by decide) (by rfl) (pa_cons (pv 2) pa_nil)) pa_nil))) pa_nil)) pa_nil)))
        (pss_one (ps_expr (pe_bm PySem.F.plainAttrs_list PySem.F.slot_list_append PySem.F.type_list_append mt_append (pv 1) (pa_cons pe_int pa_nil)))))))
      (pss_one (ps_ret (pv 1))))), ?_⟩
    have hl' : (strm ps).length ≤ 4000000 := hl
    refine ⟨Nat.zero_le _, fun p hp => ?_⟩
    have nP0 : Nw H (upd H p (.lst [])) p [] := ⟨hp, upd_same⟩
    have s0 := same_upd (o := .lst []) hp
    generalize upd H p (.lst []) = H0 at nP0 s0 ⊢
    have hR0 := hR.same s0
    refine ⟨_, rfl, a, ws, rfl, hR0.sq, fun bt hb1 hb0 => for_it (walk_row (K := K) (a := a) (xs := ws) (b := bt)) (fun k σ H' => ∃ y, σ = [some (.ref a), some (.ref p), y] ∧ Same H H' ∧ Nw H H' p (strm (ps.take k))) ⟨none, rfl, s0, nP0⟩ (fun k σ H' _ h => ?_) ?_ ?_⟩
    · obtain ⟨_, _, hs, _⟩ := h
      cases bt with
      | true => exact SqT.at_ (hR.keeps s0 hs) (hb1 rfl)
      | false => exact SqL.at_ (hR.keeps s0 hs) (hb0 rfl)
    · rintro k x σ H1 H2 hk ⟨y, rfl, hs, nP⟩ ⟨rfl, hx⟩
      obtain ⟨part, hpk, r, rfl, hr1, hB, hpl⟩ := pd_at hP hx
      have hr2 := hr1.same hs
      have ek : ps.take (k + 1) = ps.take k ++ [part] := by rw [List.take_add_one, hpk]; rfl
      have lk := strm_take_len ps (k + 1)
      rw [ek, strm_append, strm_one, List.length_append, List.length_append] at lk
      have l1 : ([0] : List Int).length = 1 := rfl
      refine ⟨_, rfl, r, part, rfl, hr2, hB, Nat.le_trans hpl (by decide), fun H3 s3 => ?_⟩
      have nP3 := nP.same s3
      have hr3 := hr2.same s3
      refine ⟨_, rfl, .inl ⟨rfl, _, SqL.of nP3.at_⟩, _, rfl, r, _, rfl, SqR.star hr3, _, rfl, r, part, rfl, hr3, hB, Nat.le_trans hpl (by decide), fun H4 c s4 hc hC => ?_⟩
      refine ⟨c, _, rfl, .inr (SqL.of hC), ?_, fun t ht => ?_⟩
      · rw [List.append_nil, List.length_append, iV_len, iV_len, check_length]
        exact Nat.le_trans (show part.length + 4 ≤ 100004 by omega) (by decide)
      rw [List.append_nil, ← iV_append]
      have nP4 := (nP3.same s4).same (same_upd (o := .lst (iV (part ++ check part))) ht)
      have hs4 := ((hs.trans s3).trans s4).trans (same_upd (o := .lst (iV (part ++ check part))) ht)
      refine ⟨t, part ++ check part, rfl, upd_same, whole_by hB, by rw [List.length_append, check_length]; omega, fun H5 e s5 nE => ?_⟩
      have nP5 := nP4.same s5
      have hs5 := hs4.trans s5
      refine ⟨p, e, _, _, rfl, rfl, nP5.at_, nE.at_, ?_, ?_⟩
      · rw [iV_len, iV_len]
        exact Nat.le_trans (show (strm (ps.take k)).length + (piece part).length ≤ 4000000 by omega) (by decide)
      rw [← iV_append]
      refine ⟨_, rfl, .inl ⟨rfl, _, SqL.of upd_same⟩, p, _, _, rfl, rfl, upd_same, ?_, ?_⟩
      · rw [iV_len, List.length_append]
        exact Nat.lt_of_le_of_lt (show (strm (ps.take k)).length + (piece part).length ≤ 4000000 by omega) (by decide)
      rw [← iV_snoc]
      refine ⟨_, rfl, fun b o hb => ?_, nP.new, ?_⟩
      · have nb : b ≠ p := ne_of_none hb hp
        rw [upd_ne nb, upd_ne nb]
        exact hs5 _ _ hb
      · rw [upd_same, ek, strm_append, strm_one, List.append_assoc]
        rfl
    · rintro σ H1 ⟨y, rfl, hs, nP⟩
      refine ⟨_, rfl, q _ p hs ?_⟩
      rw [List.take_of_length_le (by rw [pd_len hP]; exact Nat.le_refl _)] at nP
      exact nP
end
end K54
namespace K54
open PySem PySem.Spec PyProof.Rows L2 Tw Sb
section
variable {P : Program} {w : World} {K : PySem.W.Frag} {mg : Str → Option Value} {base : Heap}
theorem ok_take {f : Addr} {fd : FuncData} (F : Fun K "_law_take" "_law_take" s__law_take f fd) : FnOk P w K mg base CX0 1 f fd ["_law_state", "_law_many"] spTake := by
  refine F.ok sc__law_take (fun vs H Q E h => ?_) (fun cdv A outer s H vs Q E hr h => ?_)
  · obtain ⟨a, b, m, rfl, _⟩ := h
    rfl
  · obtain ⟨a, b, m, rfl, st, m0, mL, q⟩ := h
    refine ⟨_, (pss_mid (ps_if (PW.pt (pw_and (pt_cmpR op_eq (pe_ix (r := rIxL K) ix_list (pv 0) pe_int (fun _ _ => rfl)) pe_int (nomark _)) (pw_and (pt_cmpR op_eq (pe_op op_mod (pe_ix (r := rIxL K) ix_list (pv 0) pe_int (fun _ _ => rfl)) pe_int) pe_int (nomark _)) (pw_and1 (pt_cmpR (op_neD hr.units) (pe_ix (r := rIxL K) ix_list (pv 0) pe_int (fun _ _ => rfl)) (pe_lst pa_nil) (nomark _))))))
        (pss_cons (ps_set (i := 2) sc__law_take.nd rfl (.inl rfl) (pe_bm PySem.F.plainAttrs_list PySem.F.slot_list_pop PySem.F.type_list_pop mt_popAt (pe_ix (r := rIxL K) ix_list (pv 0) pe_int (fun _ _ => rfl)) (pa_cons pe_int pa_nil)))
        (pss_mid (ps_if (pt_cmpR op_lt (pv 2) pe_int (nomark _))
          (pss_one (ps_set (i := 2) sc__law_take.nd rfl (.inl rfl) (pe_op op_sub pe_int (pe_op op_mul pe_int (pv 2)))))
          pss_nil)
        (pss_one (ps_if (pt_cmpR op_ge (pv 2) (pe_op op_pow pe_int pe_int) (nomark _))
          (pss_one (ps_asg (pv 2) (pg_sub (pv 0) pe_int set_list)))
          (pss_one (ps_asg (pe_op op_mod (pe_op op_add (pe_op op_mul (pe_ix (r := rIxL K) ix_list (pv 0) pe_int (fun _ _ => rfl)) pe_int) (pv 2)) pe_int) (pg_sub (pv 0) pe_int set_list)))))))
        pss_nil)
      (pss_cons (ps_if (pt_cmpR op_gt (pe_ix (r := rIxL K) ix_list (pv 0) pe_int (fun _ _ => rfl)) pe_int (nomark _))
        (pss_cons (ps_set (i := 3) sc__law_take.nd rfl (.inl rfl) (pe_op op_mod (pe_ix (r := rIxL K) ix_list (pv 0) pe_int (fun _ _ => rfl)) (pv 1)))
        (pss_cons (ps_asg (pe_op op_fdivW (pe_ix (r := rIxL K) ix_list (pv 0) pe_int (fun _ _ => rfl)) (pv 1)) (pg_sub (pv 0) pe_int set_list))
        (pss_one (ps_ret (pv 3)))))
        pss_nil)
      (pss_cons (ps_asg (pe_op op_add (pe_ix (r := rIxL K) ix_list (pv 0) pe_int (fun _ _ => rfl)) pe_int) (pg_sub (pv 0) pe_int set_list))
      (pss_cons (ps_set (i := 4) sc__law_take.nd rfl (.inl rfl) (pe_op op_mod (pe_op op_add (pe_ix (r := rIxL K) ix_list (pv 0) pe_int (fun _ _ => rfl)) (pe_op op_mul pe_int (pe_ix (r := rIxL K) ix_list (pv 0) pe_int (fun _ _ => rfl)))) pe_int))
      (pss_cons (ps_set (i := 4) sc__law_take.nd rfl (.inl rfl) (pe_op op_mod (pe_op op_pow (pv 4) pe_int) pe_int))
      (pss_cons (ps_set (i := 4) sc__law_take.nd rfl (.inl rfl) (pe_op op_mod (pe_op op_mul (pv 4) (pe_op op_add (pe_op op_fdiv (pv 4) pe_int) pe_int)) pe_int))
      (pss_one (ps_ret (pe_op op_mod (pe_op op_fdiv (pv 4) pe_int) (pv 1)))))))))), ?_⟩
    refine ⟨fun σ H1 => ∃ y2, σ = [some (.ref a), some (.int m), y2, none, none] ∧ Fs a b H H1, ?_, ?_⟩
    · obtain ⟨nab, ns, x, y, z, hA, hB⟩ := id st
      refine ⟨.ref a, rfl, a, _, 1, .int x, rfl, rfl, SqL.of hA, rfl, rfl, _, rfl, ?_⟩
      refine ite2 (fun g1 => ?_) (fun g1 => ⟨none, rfl, Fs.refl st⟩)
      refine ⟨.ref a, rfl, a, _, 3, .int z, rfl, rfl, SqL.of hA, rfl, z, 5, rfl, rfl, (by show (0 : Int) < 5; decide), rfl, _, rfl, ?_⟩
      refine ite2 (fun g2 => ?_) (fun g2 => ⟨none, rfl, Fs.refl st⟩)
      refine ⟨.ref a, rfl, a, _, 0, .ref b, rfl, rfl, SqL.of hA, rfl, Nat.zero_le _, fun p hp => ?_⟩
      have s1 := same_upd (o := .lst []) hp
      have hA1 := s1 _ _ hA
      have hB1 := s1 _ _ hB
      have hP1 : (upd H p (.lst [])) p = some (.lst (iV [])) := upd_same
      refine ⟨_, _, dpL hB1, dpL hP1, sh_ints _, sh_ints _, _, rfl, ?_⟩
      rw [eqv_ints]
      generalize upd H p (.lst []) = H1 at s1 hA1 hB1
      cases ns with
      | nil => exact iteNS rfl ⟨none, rfl, Fs.of_same st s1⟩
      | cons c ns =>
        refine iteNF (fun z => nomatch z) ?_
        refine ⟨.ref a, rfl, a, _, 0, .ref b, rfl, rfl, SqL.of hA1, rfl, .inl ⟨rfl, _, SqL.of hB1⟩, b, _, 0, 0, .int c, rfl, rfl, hB1, by decide, by decide, seq0 _, rfl, ?_⟩
        have hA2 : (upd H1 b (.lst ((iV (c :: ns)).eraseIdx 0))) a = some (.lst [.ref b, .int x, .int y, .int z]) := by
          rw [upd_ne nab]
          exact hA1
        have hB2 : (upd H1 b (.lst ((iV (c :: ns)).eraseIdx 0))) b = some (.lst (iV ns)) := upd_same
        have k2 : ∀ e o, e ≠ a → e ≠ b → H e = some o → (upd H1 b (.lst ((iV (c :: ns)).eraseIdx 0))) e = some o := fun e o n1 n2 h => by
          rw [upd_ne n2]
          exact s1 _ _ h
        generalize upd H1 b (.lst ((iV (c :: ns)).eraseIdx 0)) = H2 at hA2 hB2 k2 ⊢
        have fin : ∀ xs : List V, (∃ x y z : Int, xs = [.ref b, .int x, .int y, .int z]) → Fs a b H (upd H2 a (.lst xs)) := by
          rintro xs ⟨x, y, z, rfl⟩
          refine ⟨fun e o n1 n2 h => ?_, nab, ns, x, y, z, upd_same, ?_⟩
          · rw [upd_ne n1]
            exact k2 e o n1 n2 h
          · rw [upd_ne nab.symm]
            exact hB2
        refine ⟨fun σ H3 => ∃ c' : Int, σ = [some (.ref a), some (.int m), some (.int c'), none, none] ∧ H3 = H2, ?_, ?_⟩
        · refine ⟨_, rfl, c, 0, rfl, rfl, _, rfl, ?_⟩
          refine ite2 (fun g => ?_) (fun g => ⟨c, rfl, rfl⟩)
          exact ⟨_, rfl, 3, c, rfl, rfl, .inl ⟨by decide, by decide⟩, 0, _, rfl, rfl, _, rfl, rfl⟩
        · rintro σ H3 ⟨c', rfl, rfl⟩
          refine ⟨_, rfl, 10, 18, rfl, rfl, ⟨by decide, by decide, by decide⟩, c', _, rfl, rfl, _, rfl, ?_⟩
          refine ite2 (fun g => ?_) (fun g => ?_)
          · refine ⟨_, rfl, _, rfl, a, _, 1, 1, rfl, rfl, hA2, rfl, _, rfl, fin _ ⟨_, _, _, rfl⟩⟩
          · refine ⟨.ref a, rfl, a, _, 2, .int y, rfl, rfl, SqL.of hA2, rfl, y, 31, rfl, rfl, .inr ⟨by decide, by decide⟩, _, rfl, _, _, rfl, rfl, _, 2147483647, rfl, rfl, (by show (0 : Int) < 2147483647; decide), _, rfl, a, _, 2, 2, rfl, rfl, hA2, rfl, _, rfl, fin _ ⟨_, _, _, rfl⟩⟩
    · rintro σ H1 ⟨y2, rfl, fs⟩
      obtain ⟨nab, ns, x, y, z, hA, hB⟩ := id fs.st
      have fin : ∀ xs : List V, (∃ x y z : Int, xs = [.ref b, .int x, .int y, .int z]) → Fs a b H (upd H1 a (.lst xs)) := by
        rintro xs ⟨x, y, z, rfl⟩
        refine ⟨fun e o n1 n2 h => ?_, nab, ns, x, y, z, upd_same, ?_⟩
        · rw [upd_ne n1]
          exact fs.keep e o n1 n2 h
        · rw [upd_ne nab.symm]
          exact hB
      have em : ∀ v : Int, 0 ≤ v % m ∧ v % m < m := fun v => ⟨Int.emod_nonneg _ (by omega), Int.emod_lt_of_pos _ m0⟩
      refine ⟨.ref a, rfl, a, _, 1, .int x, rfl, rfl, SqL.of hA, rfl, x, 0, rfl, rfl, _, rfl, ?_⟩
      refine ite2 (fun g => ?_) (fun g => ?_)
      · refine ⟨.ref a, rfl, a, _, 1, .int x, rfl, rfl, SqL.of hA, rfl, _, rfl, x, m, rfl, rfl, m0, ?_⟩
        refine ⟨.ref a, rfl, a, _, 1, .int x, rfl, rfl, SqL.of hA, rfl, _, rfl, x, m, rfl, rfl, wide_div (b := 70) m0 (show m.natAbs < 1180591620717411303424 by omega) (by decide) (by decide), ?_⟩
        refine ⟨_, rfl, a, _, 1, 1, rfl, rfl, hA, rfl, _, rfl, ?_⟩
        exact q _ _ (em x).1 (em x).2 (fin _ ⟨_, _, _, rfl⟩)
      · refine ⟨.ref a, rfl, a, _, 3, .int z, rfl, rfl, SqL.of hA, rfl, z, 1, rfl, rfl, ?_⟩
        refine ⟨_, rfl, a, _, 3, 3, rfl, rfl, hA, rfl, ?_⟩
        have hA2 : (upd H1 a (.lst [.ref b, .int x, .int y, .int (z + 1)])) a = some (.lst [.ref b, .int x, .int y, .int (z + 1)]) := upd_same
        refine ⟨_, rfl, a, _, 2, .int y, rfl, rfl, SqL.of hA2, rfl, _, rfl, a, _, 3, .int (z + 1), rfl, rfl, SqL.of hA2, rfl, 104729, z + 1, rfl, rfl, .inl ⟨by decide, by decide⟩, y, _, rfl, rfl, _, 2147483647, rfl, rfl, (by show (0 : Int) < 2147483647; decide), ?_⟩
        dsimp only
        generalize hn : ((y + 104729 * (z + 1)) % 2147483647 : Int) = n1
        have b1 : 0 ≤ n1 ∧ n1 < 2147483647 := by omega
        refine ⟨_, rfl, n1, 5, rfl, rfl, ⟨by decide, by decide, by omega⟩, _, 2147483647, rfl, rfl, (by show (0 : Int) < 2147483647; decide), ?_⟩
        dsimp only
        generalize hn2 : (n1 ^ (5 : Int).toNat % 2147483647 : Int) = n2
        have b2 : 0 ≤ n2 ∧ n2 < 2147483647 := by
          rw [← hn2]
          exact ⟨Int.emod_nonneg _ (by decide), Int.emod_lt_of_pos _ (by decide)⟩
        refine ⟨_, rfl, _, rfl, n2, 1009, rfl, rfl, ⟨by decide, by decide⟩, _, 69621, rfl, rfl, n2, _, rfl, rfl, .inl ⟨by omega, by omega⟩, _, 2147483399, rfl, rfl, (by show (0 : Int) < 2147483399; decide), ?_⟩
        dsimp only
        generalize hn3 : (n2 * (n2 / 1009 + 69621) % 2147483399 : Int) = n3
        refine ⟨_, rfl, n3, 16, rfl, rfl, ⟨by decide, by decide⟩, _, rfl, _, m, rfl, rfl, m0, ?_⟩
        exact q _ _ (em _).1 (em _).2 (fin _ ⟨_, _, _, rfl⟩)
end
end K54
namespace K54
open PySem PySem.Spec PyProof.Rows L2 Tw Sb
/-- what the top says of the error's class, for a suite that asks it -/
structure NbR (K : PySem.W.Frag) (mg : Str → Option Value) (CB CW : Addr) : Prop where
  xf : XfC K CB
  exc : ExcC K CB
  gW : ∃ u, mg "WireError" = some u ∧ RelV (.ref CW) u
  nV : mg "ValueError" = none
  te : PySem.W.exmOne K (.ref CB) (.ref CB) = some true
  kW : PySem.W.kitOne K (.ref CB) (.ref CW) = some true
  kV : PySem.W.kitOne K (.ref CB) (.type "ValueError") = some true
section
variable {P : Program} {w : World} {K : PySem.W.Frag} {mg : Str → Option Value} {base : Heap}
def spRefused (C : Addr) : Sp := fun vs H Q _ => ∃ (p l : Addr) (rest : List Int) (pl : Nat) (v : V), vs = [.ref p, v] ∧ FdAt C H p l rest pl ∧ ByT H v false ∧ ∀ H', Same H H' → Q (.bl true) H'
theorem ok_refused {C CB CW fI : Addr} {f : Addr} {fd : FuncData} (F : Fun K "_law_refused" "_law_refused" s__law_refused f fd) (T : Bt mg) (cl : ClF K C) (N : NbC K mg "NoBytes" CB fI) (R : NbR K mg CB CW) (MX : MCalX P w K mg base C 4 "feed" ["self", "data"] (spFeedX CB)) :
    FnOk P w K mg base CX0 5 f fd ["_law_feeder", "_law_piece"] (spRefused C) := by
  refine F.ok sc__law_refused (fun vs H Q E h => ?_) (fun cdv A outer s H vs Q E hr h => ?_)
  · obtain ⟨p, l, rest, pl, v, rfl, _⟩ := h
    rfl
  · obtain ⟨p, l, rest, pl, v, rfl, hF, hv, q⟩ := h
    refine ⟨_, (pss_cons (ps_try_as (i := 2) (Wout := fun _ _ _ _ => False) rfl rfl sc__law_refused.nd rfl rfl ⟨rfl, by decide, Or.inl N.g⟩ takes0 (fun W pn xe tk _ => pss_one (ps_expr (pe_mcalX MX cl.cl hr (by decide) tk (pv 0) (pa_cons (pv 1) pa_nil)))) (fun a oe cls d pn hz hf => pss_one (ps_ret (pe_and (pe_cmpR op_eq (pe_xf R.xf N.no hz hf (pv 2)) pe_str (nomark _)) (pe_and (pe_callB (id := "isinstance") (call_isX R.exc hz hf) (by rfl) T.n_isinstance (by decide +kernel) (pa_cons (pv 2) (pa_cons (C8.pe_gc rfl R.gW) pa_nil))) (pe_one (pe_callB (id := "isinstance") (call_isX R.exc hz hf) (by rfl) T.n_isinstance (by decide +kernel) (pa_cons (pv 2) (pa_cons (pe_bltn (v := .ty "ValueError") rfl R.nV (by decide +kernel) rfl) pa_nil)))))))))
      (pss_one (ps_ret pe_bl))), ?_⟩
    obtain ⟨dx, hp, hl⟩ := hF
    refine ⟨_, rfl, p, dx, _, rfl, hp, rfl, _, rfl, p, v, rfl, hv, fun H' d s hd he => ?_⟩
    refine ⟨true, R.te, fun _ a0 ha0 => ?_, fun z => nomatch z⟩
    refine ⟨_, rfl, rfl, rfl, d, _, _, rfl, he, rfl, rfl, _, rfl, ?_⟩
    rw [decide_eq_true (show V.str "wire" = V.str "wire" from rfl)]
    refine iteT ⟨_, rfl, _, _, true, d, _, rfl, rfl, rfl, he, fun u h => h, R.kW, _, rfl, ?_⟩
    refine iteT ⟨_, rfl, _, _, true, d, _, rfl, rfl, rfl, he, fun u h => h, R.kV, q _ s⟩
end
end K54
namespace K54
open PySem PySem.Spec PyProof.Rows L2 Tw Sb
/-- how many parts have ended behind k bytes -/
def en (xs : List Int) (k : Nat) : Nat := (goes [] 0 (xs.take k)).1.length
def ens (xs : List Int) : List Int := (List.range (xs.length + 1)).map fun k => (en xs k : Int)
theorem goes_take (xs : List Int) {a b : Nat} (h : a ≤ b) : goes [] 0 (xs.take b) = ((goes [] 0 (xs.take a)).1 ++ (goes (goes [] 0 (xs.take a)).2.1 (goes [] 0 (xs.take a)).2.2 ((xs.drop a).take (b - a))).1, (goes (goes [] 0 (xs.take a)).2.1 (goes [] 0 (xs.take a)).2.2 ((xs.drop a).take (b - a))).2) := by
  rw [← goes_append]
  congr 1
  rw [← List.take_append_drop a (xs.take b), List.take_take, Nat.min_eq_left h, List.drop_take]
theorem unstr_at (xs : List Int) (b : Nat) : ∃ more, unstr xs = (goes [] 0 (xs.take b)).1 ++ more := by
  unfold unstr
  have e : xs = xs.take b ++ xs.drop b := (List.take_append_drop b xs).symm
  rw [show goes [] 0 xs = goes [] 0 (xs.take b ++ xs.drop b) by rw [← e], goes_append]
  exact ⟨_, List.append_assoc _ _ _⟩
/-- what is told between -/
theorem unstr_cut (xs : List Int) {a b : Nat} (h : a ≤ b) : ((unstr xs).drop (en xs a)).take (en xs b - en xs a) = (goes (goes [] 0 (xs.take a)).2.1 (goes [] 0 (xs.take a)).2.2 ((xs.drop a).take (b - a))).1 := by
  obtain ⟨more, e⟩ := unstr_at xs b
  have hb := goes_take xs h
  unfold en
  rw [e, hb, List.append_assoc, List.drop_left', List.length_append, Nat.add_sub_cancel_left, List.take_left']
  · rfl
  · rfl
theorem unstr_end (xs : List Int) : (unstr xs).drop (en xs xs.length) = rests (goes [] 0 xs).2.1 (goes [] 0 xs).2.2 := by
  unfold en unstr
  rw [List.take_length, List.drop_left']
  rfl
theorem en_le (xs : List Int) {a b : Nat} (h : a ≤ b) : en xs a ≤ en xs b := by
  unfold en
  rw [goes_take xs h, List.length_append]
  omega
theorem ens_at (xs : List Int) {k : Nat} (h : k ≤ xs.length) : atI (iV (ens xs)) (k : Int) = some (.int (en xs k : Nat)) := by
  refine iV_atI ?_
  unfold ens
  rw [List.getElem?_map, List.getElem?_range (by omega)]
  rfl
section
variable {P : Program} {w : World} {K : PySem.W.Frag} {mg : Str → Option Value} {base : Heap}
def spEnded : Sp := fun vs H Q _ => ∃ (d : Addr) (xs : List Int), vs = [.ref d] ∧ H d = some (.lst (iV xs)) ∧ By xs ∧ xs.length ≤ 1000000 ∧ ∀ (H' : Hp) (r : Addr), Same H H' → Nw H H' r (ens xs) → Q (.ref r) H'
theorem ok_ended {f : Addr} {fd : FuncData} (F : Fun K "_law_ended" "_law_ended" s__law_ended f fd) (T : Bt mg) : FnOk P w K mg base CX0 1 f fd ["_law_data"] spEnded := by
  refine F.ok sc__law_ended (fun vs H Q E h => ?_) (fun cdv A outer s H vs Q E hr h => ?_)
  · obtain ⟨d, xs, rfl, _⟩ := h
    rfl
  · obtain ⟨d, xs, rfl, hD, hB, hl, q⟩ := h
    refine ⟨_, (pss_cons (ps_set (i := 1) sc__law_ended.nd rfl (.inl rfl) (pe_lst (pa_cons pe_int pa_nil)))
      (pss_cons (ps_set (i := 2) sc__law_ended.nd rfl (.inl rfl) pe_int)
      (pss_cons (ps_for PassesOwn.never rfl (pi_list (pv 0)) (pg_name (i := 3) sc__law_ended.nd rfl (.inl rfl))
        (pss_one (ps_if (pt_cmpR op_ne (pv 3) pe_int (nomark _))
          (pss_cons (ps_set (i := 2) sc__law_ended.nd rfl (.inl rfl) (pe_op op_add (pv 2) pe_int))
          (pss_one (ps_expr (pe_bm PySem.F.plainAttrs_list PySem.F.slot_list_append PySem.F.type_list_append mt_append (pv 1) (pa_cons (pe_ix (r := rIxL K) ix_list (pv 1) (pe_un un_neg pe_int) (fun _ _ => rfl)) pa_nil)))))
          (pss_cons (ps_expr (pe_bm PySem.F.plainAttrs_list PySem.F.slot_list_append PySem.F.type_list_append mt_append (pv 1) (pa_cons (pe_op op_add (pe_ix (r := rIxL K) ix_list (pv 1) (pe_un un_neg pe_int) (fun _ _ => rfl)) (pe_callTy call_int1 (by rfl) T.n_int (by decide +kernel) (pa_cons (pe_cmpR op_gt (pv 2) pe_int (nomark _)) pa_nil))) pa_nil)))
          (pss_one (ps_set (i := 2) sc__law_ended.nd rfl (.inl rfl) pe_int))))))
      (pss_one (ps_ret (pv 1)))))), ?_⟩
    refine ⟨by show 1 ≤ sizeLine; decide, fun r hr0 => ?_⟩
    have s0 := same_upd (o := .lst (iV [0])) hr0
    have hR0 : (upd H r (.lst (iV [0]))) r = some (.lst (iV [0])) := upd_same
    refine ⟨_, rfl, d, rfl, ⟨_, SqL.of (s0 _ _ hD)⟩, ?_⟩
    refine for_it (walk_list (K := K) (a := d) (xs := iV xs)) (fun k σ H' => ∃ (y : Option V) (us : List Int), σ = [some (.ref d), some (.ref r), some (.int (((goes [] 0 (xs.take k)).2.1.length : Nat) : Int)), y] ∧ Same H H' ∧ H' r = some (.lst (iV us)) ∧ us = (List.range (k + 1)).map (fun k => (en xs k : Int)))
      ⟨none, [0], rfl, s0, hR0, rfl⟩ (fun k σ H' _ h => ?_) ?_ ?_
    · obtain ⟨_, _, _, hs, _⟩ := h
      exact SqL.of (hs _ _ hD)
    · rintro k x σ H1 H2 hk ⟨y, us, rfl, hs, hR, hus⟩ ⟨rfl, hx⟩
      obtain ⟨b, hb, rfl⟩ := iV_at hx
      rw [iV_len] at hk
      have et : xs.take (k + 1) = xs.take k ++ [b] := by rw [List.take_add_one, hb]; rfl
      have hlast : us = (List.range k).map (fun k => (en xs k : Int)) ++ [(en xs k : Int)] := by rw [hus, List.range_succ, List.map_append]; rfl
      have hat : atI (iV us) (-1) = some (.int (en xs k : Nat)) := by
        rw [hlast, iV_append]
        exact atI_last _ _
      have hul : (iV us).length < sizeLine := by
        rw [iV_len, hus, List.length_map, List.length_range]
        exact Nat.lt_of_le_of_lt (show k + 1 ≤ 1000001 by omega) (by decide)
      have hsm : ∀ o, Same H (upd H2 r o) := fun o e u h => by
        rw [upd_ne (ne_of_none h hr0)]
        exact hs e u h
      refine ⟨_, rfl, rfl, _, rfl, ?_⟩
      by_cases b0 : b = 0
      · refine iteNS (show V.int b = V.int 0 by rw [b0]) ?_
        have hg := goes_append [] 0 (xs.take k) [b]
        rw [← et, show goes (goes [] 0 (xs.take k)).2.1 (goes [] 0 (xs.take k)).2.2 [b] = _ from rfl] at hg
        simp only [goes, if_pos b0, List.append_nil] at hg
        refine ⟨_, rfl, .inl ⟨rfl, _, SqL.of hR⟩, _, rfl, 1, rfl, r, _, _, _, rfl, rfl, SqL.of hR, hat, _, rfl, _, 0, rfl, rfl, ?_⟩
        refine .inr ⟨_, rfl, _, _, rfl, rfl, r, _, _, rfl, rfl, hR, hul, ?_⟩
        have e2 : (en xs (k + 1) : Int) = (en xs k : Int) + if decide ((0 : Int) < ((goes [] 0 (xs.take k)).2.1.length : Nat)) = true then 1 else 0 := by
          unfold en
          rw [hg]
          by_cases hp : (goes [] 0 (xs.take k)).2.1 = []
          · rw [if_pos hp, hp]
            simp
          · have h1 : 0 < (goes [] 0 (xs.take k)).2.1.length := List.length_pos_iff.mpr hp
            rw [if_neg hp, if_pos (decide_eq_true (by omega)), List.length_append]
            simp
        refine ⟨some (.int b), us ++ [(en xs (k + 1) : Int)], ?_, hsm _, ?_, ?_⟩
        · rw [hg]
          rfl
        · rw [upd_same, iV_snoc, e2]
        · rw [List.range_succ, List.map_append, ← hus]
          rfl
      · refine iteNF (show ¬ V.int b = V.int 0 from fun z => b0 (by injection z)) ?_
        have hg := goes_append [] 0 (xs.take k) [b]
        rw [← et] at hg
        simp only [goes, if_neg b0, List.append_nil] at hg
        refine ⟨_, rfl, _, 1, rfl, rfl, ?_⟩
        refine ⟨_, rfl, .inl ⟨rfl, _, SqL.of hR⟩, _, rfl, 1, rfl, r, _, _, _, rfl, rfl, SqL.of hR, hat, r, _, _, rfl, rfl, hR, hul, ?_⟩
        refine ⟨some (.int b), us ++ [(en xs k : Int)], ?_, hsm _, by rw [upd_same, iV_snoc], ?_⟩
        · rw [hg, List.length_append]
          rfl
        · have e1 : en xs (k + 1) = en xs k := by
            unfold en
            rw [hg]
          rw [List.range_succ, List.map_append, ← hus]
          show us ++ [(en xs k : Int)] = us ++ [(en xs (k + 1) : Int)]
          rw [e1]
    · rintro σ H1 ⟨y, us, rfl, hs, hR, hus⟩
      rw [iV_len] at hus
      rw [hus] at hR
      exact ⟨_, rfl, q _ r hs ⟨hr0, hR⟩⟩
end
end K54
namespace K54
open PySem PySem.Spec PyProof.Rows L2 Tw Sb
theorem cutB {xs : List Int} (h : By xs) (lo hi : Option Int) : ∃ ys, cutV (iV xs) lo hi = iV ys ∧ By ys ∧ ys.length ≤ xs.length := by
  refine ⟨(xs.drop (HT.sIx (iV xs).length 0 lo)).take (HT.sIx (iV xs).length (iV xs).length hi - HT.sIx (iV xs).length 0 lo), ?_, (h.drop _).take _, ?_⟩
  · unfold cutV
    rw [iV_take, iV_drop]
  · rw [List.length_take, List.length_drop]
    omega
section
variable {P : Program} {w : World} {K : PySem.W.Frag} {mg : Str → Option Value} {base : Heap}
theorem ok_block {f : Addr} {fd : FuncData} (F : Fun K "_law_block" "_law_block" s__law_block f fd) (T : Bt mg) (c__law_take : Cal P w K mg base 1 "_law_take" ["_law_state", "_law_many"] spTake) (c_streamed : Cal P w K mg base 4 "streamed" ["parts"] spStrm) : FnOk P w K mg base CX0 5 f fd ["_law_state"] (spGen 1100) := by
  refine F.ok sc__law_block (fun vs H Q E h => ?_) (fun cdv A outer s H vs Q E hr h => ?_)
  · obtain ⟨a, b, rfl, _⟩ := h
    rfl
  · obtain ⟨a, b, rfl, st, q⟩ := h
    refine ⟨_, (pss_cons (ps_set (i := 1) sc__law_block.nd rfl (.inl rfl) (pe_cal c__law_take hr (by decide) (by rfl) (pa_cons (pv 0) (pa_cons pe_int pa_nil))))
      (pss_cons (ps_if (pt_cmpR op_eq (pv 1) pe_int (nomark _))
        (pss_one (ps_ret (pe_lc (own := [("_law_k", 5)]) rfl sc__law_block.nd (pi_range1 rfl T.n_range (pa_cons (pe_cal c__law_take hr (by decide) (by rfl) (pa_cons (pv 0) (pa_cons pe_int pa_nil))) pa_nil)) (blkOk_by (N := N__law_block) (sc := defScope s__law_block) (by decide +kernel)) (fun _ _ _ _ _ => (pg_name (i := 5) sc__law_block.nd rfl (.inl rfl))) (fun _ _ _ _ _ => pts_nil) (fun _ _ _ _ _ => (pe_cal c__law_take hr (by decide) (by rfl) (pa_cons (pv 0) (pa_cons pe_int pa_nil)))))))
        pss_nil)
      (pss_cons (ps_setLc (i := 2) (own := [("_law_k", 5)]) rfl sc__law_block.nd rfl rfl (sw_true rfl rfl rfl (by decide +kernel)) (pi_range1 rfl T.n_range (pa_cons (pe_cal c__law_take hr (by decide) (by rfl) (pa_cons (pv 0) (pa_cons pe_int pa_nil))) pa_nil)) (blkOk_by (N := N__law_block) (sc := defScope s__law_block) (by decide +kernel)) (fun _ _ _ _ _ => (pg_name (i := 5) sc__law_block.nd rfl (.inl rfl))) (fun _ _ _ _ _ => pts_nil) (fun _ _ _ _ _ => (pe_cal c__law_take hr (by decide) (by rfl) (pa_cons (pv 0) (pa_cons pe_int pa_nil)))))
      (pss_mid (ps_if (pt_cmpR op_eq (pv 1) pe_int (nomark _))
        (pss_one (ps_set (i := 2) sc__law_block.nd rfl (.inl rfl) (pe_op op_rep (pe_lst (pa_cons (pe_op op_add pe_int (pe_cal c__law_take hr (by decide) (by rfl) (pa_cons (pv 0) (pa_cons pe_int pa_nil)))) pa_nil)) (pe_op op_add pe_int (pe_cal c__law_take hr (by decide) (by rfl) (pa_cons (pv 0) (pa_cons pe_int pa_nil)))))))
        pss_nil)
      (pss_cons (ps_set (i := 3) sc__law_block.nd rfl (.inl rfl) (pe_cal c_streamed hr (by decide) (by rfl) (pa_cons (pe_lst (pa_cons (pv 2) pa_nil)) pa_nil)))
      (pss_cons (ps_set (i := 4) sc__law_block.nd rfl (.inl rfl) (pe_cal c__law_take hr (by decide) (by rfl) (pa_cons (pv 0) (pa_cons (pe_callB call_len_seq (by rfl) T.n_len (by decide +kernel) (pa_cons (pv 3) pa_nil)) pa_nil))))
      (pss_cons (ps_if (pt_cmpR op_eq (pv 1) pe_int (nomark _))
        (pss_one (ps_ret (pe_slice (r := rSlL K) sl_list (pv 3) po_none (po_some (pe_un un_neg pe_int)))))
        pss_nil)
      (pss_cons (ps_if (pt_cmpR op_eq (pv 1) pe_int (nomark _))
        (pss_one (ps_ret (pe_op op_cat (pe_slice (r := rSlL K) sl_list (pv 3) po_none (po_some (pv 4))) (pe_slice (r := rSlL K) sl_list (pv 3) (po_some (pe_op op_add (pv 4) pe_int)) po_none))))
        pss_nil)
      (pss_one (ps_ret (pv 3))))))))))), ?_⟩
    refine ⟨.ref a, rfl, a, b, 5, rfl, st, by decide, by decide, fun way H1 w0 w1 f1 => ?_⟩
    refine ⟨_, rfl, rfl, _, rfl, ?_⟩
    refine iteB (fun _ => ?_) (fun _ => ?_)
    · refine ⟨.ref a, rfl, a, b, 10, rfl, f1.st, by decide, by decide, fun z1 H4 z10 z11 g1 => ?_⟩
      have f5 := f1.trans g1
      refine ⟨z1, rfl, by omega, by omega, fun D hD => ?_⟩
      have hD0 := f5.free st hD
      refine lc_it walk_range (fun j H' => Fs a b H H' ∧ ∃ ws : List Int, Nw H H' D ws ∧ By ws ∧ ws.length = j) ⟨f5.same (same_upd hD), [], ⟨hD0, upd_same⟩, .nil, rfl⟩ (fun _ _ _ _ => trivial) ?_ ?_
      · rintro j x H10 H11 hj ⟨f10, ws, nD, hBw, hwl⟩ ⟨rfl, rfl⟩
        refine ⟨rfl, .ref a, rfl, a, b, 256, rfl, f10.st, by decide, by decide, fun v1 H12 v10 v11 g2 => ?_⟩
        have nD' := nD.st st g2
        refine ⟨_, nD'.at_, ?_, ?_⟩
        · rw [iV_len]
          exact Nat.lt_of_le_of_lt (show ws.length ≤ 1000 by omega) (by decide)
        · rw [← iV_snoc]
          refine ⟨(f10.trans g2).upd (st.na hD0).1 (st.na hD0).2 hD0, _, ⟨hD0, upd_same⟩, hBw.append (.one v10 (by omega)), ?_⟩
          rw [List.length_append, hwl]
          rfl
      · rintro H10 ⟨f10, ws, nD, hBw, hwl⟩
        exact q _ D _ f10 nD hBw (by omega)
    · refine ⟨.ref a, rfl, a, b, 31, rfl, f1.st, by decide, by decide, fun z1 H4 z10 z11 g1 => ?_⟩
      have f5 := f1.trans g1
      refine ⟨z1, rfl, by omega, by omega, fun D hD => ?_⟩
      have hD0 := f5.free st hD
      refine lc_it walk_range (fun j H' => Fs a b H H' ∧ ∃ ws : List Int, Nw H H' D ws ∧ By ws ∧ ws.length = j) ⟨f5.same (same_upd hD), [], ⟨hD0, upd_same⟩, .nil, rfl⟩ (fun _ _ _ _ => trivial) ?_ ?_
      · rintro j x H10 H11 hj ⟨f10, ws, nD, hBw, hwl⟩ ⟨rfl, rfl⟩
        refine ⟨rfl, .ref a, rfl, a, b, 256, rfl, f10.st, by decide, by decide, fun v1 H12 v10 v11 g2 => ?_⟩
        have nD' := nD.st st g2
        refine ⟨_, nD'.at_, ?_, ?_⟩
        · rw [iV_len]
          exact Nat.lt_of_le_of_lt (show ws.length ≤ 1000 by omega) (by decide)
        · rw [← iV_snoc]
          refine ⟨(f10.trans g2).upd (st.na hD0).1 (st.na hD0).2 hD0, _, ⟨hD0, upd_same⟩, hBw.append (.one v10 (by omega)), ?_⟩
          rw [List.length_append, hwl]
          rfl
      rintro H10 ⟨f10, ws, nD, hBw, hwl⟩
      refine ⟨fun σ H' => ∃ (p : Addr) (xs : List Int), σ = [some (.ref a), some (.int way), some (.ref p), none, none, none] ∧ Fs a b H H' ∧ Nw H H' p xs ∧ By xs ∧ xs.length ≤ 256, ?_, ?_⟩
      · refine ⟨_, rfl, rfl, _, rfl, ?_⟩
        refine iteB (fun _ => ?_) (fun _ => ⟨D, ws, rfl, f10, nD, hBw, by omega⟩)
        refine ⟨.ref a, rfl, a, b, 255, rfl, f10.st, by decide, by decide, fun v H11 v0 v1 g => ?_⟩
        have f11 := f10.trans g
        refine ⟨1, _, rfl, rfl, by show 1 ≤ sizeLine; decide, fun p1 hp1 => ?_⟩
        have n1 : Nw H (upd H11 p1 (.lst (iV [1 + v]))) p1 [1 + v] := ⟨f11.free st hp1, upd_same⟩
        have f12 := f11.same (same_upd (o := .lst (iV [1 + v])) hp1)
        refine ⟨.ref a, rfl, a, b, 7, rfl, f12.st, by decide, by decide, fun u H13 u0 u1 g2 => ⟨250, _, rfl, rfl, ?_⟩⟩
        have n2 := n1.st st g2
        have f13 := f12.trans g2
        refine ⟨p1, 250 + u, _, rfl, rfl, n2.at_, by omega, by omega, ?_, fun p2 hp2 => ?_⟩
        · show 1 * (250 + u).toNat ≤ sizeLine
          exact Nat.le_trans (show 1 * (250 + u).toNat ≤ 400 by omega) (by decide)
        have e13 : (List.replicate (250 + u).toNat (iV [1 + v])).flatten = iV (List.replicate (250 + u).toNat (1 + v)) := by rw [iV_rep]; exact rep_one _ _
        rw [e13]
        exact ⟨p2, _, rfl, f13.same (same_upd hp2), ⟨f13.free st hp2, upd_same⟩, By.rep _ (by omega) (by omega), by rw [List.length_replicate]; omega⟩
      · rintro σ H11 ⟨p, xs, rfl, f11, nP, hB, hl⟩
        refine ⟨_, rfl, by show 1 ≤ sizeLine; decide, fun t ht => ?_⟩
        have s12 := same_upd (o := .lst [.ref p]) ht
        have f12 := f11.same s12
        have hsl : (strm [xs]).length ≤ 522 := by
          have := strm_len (N := 256) (ps := [xs]) fun p hp => by
            have e : p = xs := by simpa using hp
            rw [e]
            exact hl
          simpa using this
        refine ⟨t, [xs], [.ref p], rfl, .inl upd_same, .cons ⟨p, rfl, .inl (s12 _ _ nP.at_), hB, by omega⟩ .nil, Nat.le_trans hsl (by decide), fun H13 S s13 nS => ?_⟩
        have f13 := f12.same s13
        have hSB : By (strm [xs]) := strm_by fun p hp => by
          have e : p = xs := by simpa using hp
          rw [e]
          exact hB
        have hS0 := f12.free st nS.new
        have hs1 : 1 ≤ (strm [xs]).length := by
          rw [strm_one, List.length_append]
          exact Nat.le_add_left _ _
        refine ⟨.ref a, rfl, _, rfl, S, _, rfl, .inl (SqL.of nS.at_), a, b, _, rfl, f13.st, by rw [iV_len]; omega, by rw [iV_len]; omega, fun at_ H14 a0 a1 g => ?_⟩
        rw [iV_len] at a1
        have f14 := f13.trans g
        have hS14 := (Nw.st (H := H) ⟨hS0, nS.at_⟩ st g).at_
        refine ⟨_, rfl, rfl, _, rfl, ?_⟩
        refine iteB (fun _ => ?_) (fun _ => ?_)
        · refine ⟨_, rfl, 1, rfl, _, rfl, S, _, rfl, SqL.of hS14, fun r hr => ?_⟩
          obtain ⟨ys, ey, hyB, hyl⟩ := cutB hSB none (some (-1))
          rw [ey]
          exact q _ r ys (f14.same (same_upd hr)) ⟨f14.free st hr, upd_same⟩ hyB (by omega)
        refine ⟨_, rfl, rfl, _, rfl, ?_⟩
        refine iteB (fun _ => ?_) (fun _ => ?_)
        · obtain ⟨ys, ey, hyB, hyl⟩ := cutB hSB none (some at_)
          obtain ⟨zs, ez, hzB, hzl⟩ := cutB hSB (some (at_ + 1)) none
          refine ⟨_, rfl, _, rfl, _, rfl, S, _, rfl, SqL.of hS14, fun r1 hr1 => ?_⟩
          rw [ey]
          have s15 := same_upd (o := .lst (iV ys)) hr1
          refine ⟨_, rfl, _, rfl, _, 1, rfl, rfl, _, rfl, S, _, rfl, SqL.of (s15 _ _ hS14), fun r2 hr2 => ?_⟩
          rw [ez]
          have s16 := same_upd (o := .lst (iV zs)) hr2
          refine ⟨r1, r2, _, _, rfl, rfl, s16 _ _ upd_same, upd_same, ?_, fun r hr => ?_⟩
          · rw [iV_len, iV_len]
            exact Nat.le_trans (show ys.length + zs.length ≤ 2000 by omega) (by decide)
          rw [← iV_append]
          refine q _ r _ (((f14.same s15).same s16).same (same_upd hr)) ⟨((f14.same s15).same s16).free st hr, upd_same⟩ (hyB.append hzB) ?_
          rw [List.length_append]
          omega
        · exact ⟨_, rfl, q _ S _ f14 ⟨hS0, hS14⟩ hSB (by omega)⟩
end
end K54
namespace K54
open PySem PySem.Spec PyProof.Rows L2 Tw Sb
theorem pd_take {α β : Type} {F : α → β → Prop} : ∀ {xs : List α} {ys : List β} (n : Nat), Paired F xs ys → Paired F (xs.take n) (ys.take n)
  | _, _, 0, _ => by rw [List.take_zero, List.take_zero]; exact .nil
  | _, _, _ + 1, .nil => .nil
  | _, _, n + 1, .cons h t => .cons h (pd_take n t)
theorem pd_drop {α β : Type} {F : α → β → Prop} : ∀ {xs : List α} {ys : List β} (n : Nat), Paired F xs ys → Paired F (xs.drop n) (ys.drop n)
  | _, _, 0, h => h
  | _, _, _ + 1, .nil => .nil
  | _, _, n + 1, .cons _ t => pd_drop n t
theorem cut_to (ws : List V) (k : Nat) : cutV ws none (some (k : Int)) = ws.take (min k ws.length) := by
  unfold cutV
  rw [HT.sIx_none, HT.sIx_nat, List.drop_zero, Nat.sub_zero]
theorem cut_from (ws : List V) (k : Nat) : cutV ws (some (k : Int)) none = ws.drop (min k ws.length) := by
  unfold cutV
  rw [HT.sIx_none, HT.sIx_nat]
  exact List.take_of_length_le (by rw [List.length_drop]; exact Nat.le_refl _)
section
variable {P : Program} {w : World} {K : PySem.W.Frag} {mg : Str → Option Value} {base : Heap}
def spWrong : Sp := fun vs H Q _ => ∃ (a b : Addr), vs = [.ref a] ∧ IsSt H a b ∧ ∀ (H' : Hp) (v : V), Fs a b H H' → ByT H' v false → Q v H'
theorem ok_wrong {f : Addr} {fd : FuncData} (F : Fun K "_law_wrong" "_law_wrong" s__law_wrong f fd) (T : Bt mg) (c__law_take : Cal P w K mg base 1 "_law_take" ["_law_state", "_law_many"] spTake) : FnOk P w K mg base CX0 2 f fd ["_law_state"] spWrong := by
  refine F.ok sc__law_wrong (fun vs H Q E h => ?_) (fun cdv A outer s H vs Q E hr h => ?_)
  · obtain ⟨a, b, rfl, _⟩ := h
    rfl
  · obtain ⟨a, b, rfl, st, q⟩ := h
    refine ⟨_, (pss_cons (ps_set (i := 1) sc__law_wrong.nd rfl (.inl rfl) (pe_ix (r := rIxL K) ix_list (pe_lst (pa_cons pe_int (pa_cons (pe_un un_neg pe_int) (pa_cons pe_bl (pa_cons pe_bl (pa_cons pe_non (pa_cons pe_str (pa_cons (pe_op op_pow pe_int pe_int) (pa_cons (pe_lst (pa_cons pe_int pa_nil)) pa_nil))))))))) (pe_cal c__law_take hr (by decide) (by rfl) (pa_cons (pv 0) (pa_cons pe_int pa_nil))) (fun _ _ => rfl)))
      (pss_cons (ps_set (i := 2) sc__law_wrong.nd rfl (.inl rfl) (pe_op op_cat (pe_lst (pa_cons pe_int (pa_cons pe_int (pa_cons pe_int pa_nil)))) (pe_lst (pa_cons (pv 1) pa_nil))))
      (pss_cons (ps_if (pt_cmpR op_eq (pe_cal c__law_take hr (by decide) (by rfl) (pa_cons (pv 0) (pa_cons pe_int pa_nil))) pe_int (nomark _))
        (pss_one (ps_ret (pe_ix (r := rIxL K) ix_list (pe_lst (pa_cons pe_non (pa_cons pe_str (pa_cons pe_int (pa_cons pe_str pa_nil))))) (pe_cal c__law_take hr (by decide) (by rfl) (pa_cons (pv 0) (pa_cons pe_int pa_nil))) (fun _ _ => rfl))))
        pss_nil)
      (pss_cons (ps_set (i := 3) sc__law_wrong.nd rfl (.inl rfl) (pe_cal c__law_take hr (by decide) (by rfl) (pa_cons (pv 0) (pa_cons pe_int pa_nil))))
      (pss_one (ps_ret (pe_op op_cat (pe_slice (r := rSlL K) sl_list (pv 2) (po_some (pv 3)) po_none) (pe_slice (r := rSlL K) sl_list (pv 2) po_none (po_some (pv 3)))))))))), ?_⟩
    refine ⟨1, rfl, 10, 20, rfl, rfl, ⟨by decide, by decide, by decide⟩, by show 1 ≤ sizeLine; decide, fun o ho => ⟨by show 8 ≤ sizeLine; decide, fun L hL => ?_⟩⟩
    have sO := (same_upd (o := .lst [.int 0]) ho).trans (same_upd (o := .lst [.int 256, .int (-1), .bl true, .bl false, .non, .str "a", .int (10 ^ (20 : Int).toNat), .ref o]) hL)
    have hO : (upd (upd H o (.lst [.int 0])) L (.lst [.int 256, .int (-1), .bl true, .bl false, .non, .str "a", .int (10 ^ (20 : Int).toNat), .ref o])) o = some (.lst [.int 0]) := (same_upd hL) _ _ upd_same
    have hLL : (upd (upd H o (.lst [.int 0])) L (.lst [.int 256, .int (-1), .bl true, .bl false, .non, .str "a", .int (10 ^ (20 : Int).toNat), .ref o])) L = some (.lst [.int 256, .int (-1), .bl true, .bl false, .non, .str "a", .int (10 ^ (20 : Int).toNat), .ref o]) := upd_same
    have hL0 : H L = none := (same_upd ho).free hL
    refine ⟨.ref a, rfl, a, b, 8, rfl, st.same sO, by decide, by decide, fun z H2 z0 z1 f2 => ?_⟩
    have fs := (Fs.of_same st sO).trans f2
    have hO2 := f2.keep _ _ (st.na ho).1 (st.na ho).2 hO
    have hL2 := f2.keep _ _ (st.na hL0).1 (st.na hL0).2 hLL
    obtain ⟨v, hv, hel⟩ : ∃ v, atI [.int 256, .int (-1), .bl true, .bl false, .non, .str "a", .int (10 ^ (20 : Int).toNat), .ref o] z = some v ∧ ∀ H' : Hp, H' o = some (.lst [.int 0]) → ElT H' v false := by
      obtain rfl | rfl | rfl | rfl | rfl | rfl | rfl | rfl : z = 0 ∨ z = 1 ∨ z = 2 ∨ z = 3 ∨ z = 4 ∨ z = 5 ∨ z = 6 ∨ z = 7 := by omega
      · exact ⟨_, rfl, fun _ _ => ElT.int 256⟩
      · exact ⟨_, rfl, fun _ _ => ElT.int (-1)⟩
      · exact ⟨_, rfl, fun _ _ => .bl true⟩
      · exact ⟨_, rfl, fun _ _ => .bl false⟩
      · exact ⟨_, rfl, fun _ _ => .non⟩
      · exact ⟨_, rfl, fun _ _ => .str "a"⟩
      · exact ⟨_, rfl, fun _ _ => ElT.int (10 ^ (20 : Int).toNat)⟩
      · exact ⟨_, rfl, fun _ h => .row (.inl h)⟩
    refine ⟨L, _, z, v, rfl, rfl, SqL.of hL2, hv, ?_⟩
    refine ⟨by show 3 ≤ sizeLine; decide, fun o1 ho1 => ⟨_, rfl, by show 1 ≤ sizeLine; decide, fun o2 ho2 => ?_⟩⟩
    have s3 := (same_upd (o := .lst [.int 0, .int 5, .int 0]) ho1).trans (same_upd (o := .lst [v]) ho2)
    refine ⟨o1, o2, _, _, rfl, rfl, (same_upd ho2) _ _ upd_same, upd_same, by show 4 ≤ sizeLine; decide, fun R hR => ?_⟩
    have s4 := s3.trans (same_upd (o := .lst ([.int 0, .int 5, .int 0] ++ [v])) hR)
    have hR4 : (upd (upd (upd H2 o1 (.lst [.int 0, .int 5, .int 0])) o2 (.lst [v])) R (.lst ([.int 0, .int 5, .int 0] ++ [v]))) R = some (.lst [.int 0, .int 5, .int 0, v]) := upd_same
    have hR0 := fs.free st (s3.free hR)
    have f4 := fs.same s4
    have hO4 := s4 _ _ hO2
    generalize upd (upd (upd H2 o1 (.lst [.int 0, .int 5, .int 0])) o2 (.lst [v])) R (.lst ([.int 0, .int 5, .int 0] ++ [v])) = H4 at hR4 f4 hO4 ⊢
    refine ⟨.ref a, rfl, a, b, 4, rfl, f4.st, by decide, by decide, fun y H5 y0 y1 f5 => ⟨rfl, _, rfl, ?_⟩⟩
    have f45 := f4.trans f5
    refine ite2 (fun g => ?_) (fun g => ?_)
    · refine ⟨by show 4 ≤ sizeLine; decide, fun M hM => ?_⟩
      have sM := same_upd (o := .lst [.non, .str "", .int 0, .str "0"]) hM
      have hM0 := f45.free st hM
      have hMM : (upd H5 M (.lst [.non, .str "", .int 0, .str "0"])) M = some (.lst [.non, .str "", .int 0, .str "0"]) := upd_same
      generalize upd H5 M (.lst [.non, .str "", .int 0, .str "0"]) = H6 at sM hMM ⊢
      refine ⟨.ref a, rfl, a, b, 4, rfl, f45.st.same sM, by decide, by decide, fun u H7 u0 u1 f7 => ?_⟩
      have f67 := (f45.same sM).trans f7
      have hM7 := f7.keep _ _ (st.na hM0).1 (st.na hM0).2 hMM
      obtain rfl | rfl | rfl | rfl : u = 0 ∨ u = 1 ∨ u = 2 ∨ u = 3 := by omega
      · exact ⟨M, _, 0, .non, rfl, rfl, SqL.of hM7, rfl, q _ _ f67 .non⟩
      · exact ⟨M, _, 1, .str "", rfl, rfl, SqL.of hM7, rfl, q _ _ f67 (.str "")⟩
      · exact ⟨M, _, 2, .int 0, rfl, rfl, SqL.of hM7, rfl, q _ _ f67 (.int 0)⟩
      · exact ⟨M, _, 3, .str "0", rfl, rfl, SqL.of hM7, rfl, q _ _ f67 (.str "0")⟩
    · refine ⟨.ref a, rfl, a, b, 4, rfl, f45.st, by decide, by decide, fun at_ H6 a0 a1 f6 => ?_⟩
      have f56 := f5.trans f6
      have f46 := f4.trans f56
      have hR6 := f56.keep _ _ (st.na hR0).1 (st.na hR0).2 hR4
      obtain ⟨A, rfl⟩ : ∃ A : Nat, at_ = (A : Int) := ⟨at_.toNat, by omega⟩
      have hO6 := f56.keep _ _ (st.na ho).1 (st.na ho).2 hO4
      refine ⟨_, rfl, _, rfl, _, rfl, R, _, rfl, SqL.of hR6, fun p1 hp1 => ?_⟩
      rw [cut_from]
      have s7 := same_upd (o := .lst (([.int 0, .int 5, .int 0, v] : List V).drop (min A 4))) hp1
      have h7 : (upd H6 p1 (.lst (([.int 0, .int 5, .int 0, v] : List V).drop (min A 4)))) p1 = some (.lst (([.int 0, .int 5, .int 0, v] : List V).drop (min A 4))) := upd_same
      refine ⟨_, rfl, _, rfl, _, rfl, R, _, rfl, SqL.of (s7 _ _ hR6), fun p2 hp2 => ?_⟩
      rw [cut_to]
      have s8 := same_upd (o := .lst (([.int 0, .int 5, .int 0, v] : List V).take (min A 4))) hp2
      refine ⟨p1, p2, _, _, rfl, rfl, s8 _ _ h7, upd_same, Nat.le_trans (show _ ≤ 8 by rw [List.length_drop, List.length_take]; show 4 - min A 4 + min (min A 4) 4 ≤ 8; omega) (by decide), fun r hr => ?_⟩
      have s9 := same_upd (o := .lst (([.int 0, .int 5, .int 0, v] : List V).drop (min A 4) ++ ([.int 0, .int 5, .int 0, v] : List V).take (min A 4))) hr
      have hA : ([true, true, true, false].drop (min A 4) ++ [true, true, true, false].take (min A 4)).all id = false := by
        obtain rfl | rfl | rfl | rfl : A = 0 ∨ A = 1 ∨ A = 2 ∨ A = 3 := by omega
        all_goals rfl
      refine q _ _ (((f46.same s7).same s8).same s9) ?_
      rw [← hA]
      have pp : ∀ H' : Hp, H' o = some (.lst [.int 0]) → Paired (ElT H') [.int 0, .int 5, .int 0, v] [true, true, true, false] := fun H' h => .cons (ElT.int 0) (.cons (ElT.int 5) (.cons (ElT.int 0) (.cons (hel H' h) .nil)))
      have pq := pp _ (s9 _ _ (s8 _ _ (s7 _ _ hO6)))
      exact .row (.inl upd_same) (pd_append (pd_drop _ pq) (pd_take _ pq)) (Nat.le_trans (show _ ≤ 8 by rw [List.length_append, List.length_drop, List.length_take]; show 4 - min A 4 + min (min A 4) 4 ≤ 8; omega) (by decide))
end
end K54
namespace K54
open PySem PySem.Spec PyProof.Rows L2 Tw Sb
/-- how long a part may be -/
def TlSz (n : Nat) : Tell → Prop
  | .part _ bs => bs.length ≤ n
  | .torn _ _ => True
theorem TlSz.mono {m n : Nat} (h : m ≤ n) : ∀ {t : Tell}, TlSz m t → TlSz n t
  | .part _ _, k => Nat.le_trans k h
  | .torn _ _, _ => trivial
theorem tell_sz {pl : Nat} {p : List Int} (h1 : By p) (h2 : NZ p) : TlSz p.length (tell pl p) := by
  unfold tell
  split
  · rename_i w hw
    have hl := unrun_length (fun b hb => by have := h1 b hb; have := h2 b hb; omega) hw
    split
    · show (w.take (w.length - 4)).length ≤ p.length
      rw [List.length_take]
      omega
    · trivial
  · trivial
theorem goes_sz {pc xs : List Int} {pl : Nat} (h1 : By pc) (h2 : NZ pc) (hx : By xs) : ∀ t ∈ (goes pc pl xs).1, TlSz (pc.length + xs.length) t := by
  induction xs generalizing pc pl with
  | nil => intro t ht; cases ht
  | cons b r ih =>
    have hb := hx b (List.mem_cons_self ..)
    have hr : By r := fun c hc => hx c (List.mem_cons_of_mem _ hc)
    by_cases h0 : b = 0
    · simp only [goes, if_pos h0]
      intro t ht
      rcases List.mem_append.mp ht with z | z
      · by_cases hp : pc = []
        · rw [if_pos hp] at z
          cases z
        · rw [if_neg hp] at z
          have e : t = tell pl pc := by simpa using z
          rw [e]
          exact (tell_sz h1 h2).mono (Nat.le_add_right _ _)
      · refine (ih By.nil NZ.nil hr t z).mono ?_
        simp only [List.length_cons, List.length_nil]
        omega
    · simp only [goes, if_neg h0]
      intro t ht
      refine (ih (pc := pc ++ [b]) (h1.append (.one hb.1 hb.2)) (h2.append fun c hc => by
        have e : c = b := by simpa using hc
        rw [e]; exact h0) hr t ht).mono ?_
      simp only [List.length_append, List.length_cons, List.length_nil]
      omega
/-- what a feeder holds behind k bytes, and from where on -/
abbrev gr (xs : List Int) (k : Nat) : List Int := (goes [] 0 (xs.take k)).2.1
abbrev gp (xs : List Int) (k : Nat) : Nat := (goes [] 0 (xs.take k)).2.2
theorem cut_min (xs : List Int) (k n : Nat) : (xs.drop k).take n = (xs.drop k).take (k + ((xs.drop k).take n).length - k) := by
  rw [Nat.add_sub_cancel_left, List.length_take, List.length_drop, ← List.length_drop (i := k) (l := xs)]
  exact List.take_eq_take_min
theorem go_on (xs : List Int) {k n : Nat} {ys : List Int} (e : ys = (xs.drop k).take n) : (goes (gr xs k) (gp xs k) ys).2 = (goes [] 0 (xs.take (k + ys.length))).2 ∧ (goes (gr xs k) (gp xs k) ys).1 = ((unstr xs).drop (en xs k)).take (en xs (k + ys.length) - en xs k) := by
  have e2 : ys = (xs.drop k).take (k + ys.length - k) := by
    rw [e]
    exact cut_min xs k n
  constructor
  · rw [goes_take xs (Nat.le_add_right k ys.length), ← e2]
  · rw [unstr_cut xs (Nat.le_add_right k ys.length), ← e2]
/-- all but four places stay -/
def Chg (a b p l : Addr) (H H' : Hp) : Prop := ∀ c o, c ≠ a → c ≠ b → c ≠ p → c ≠ l → H c = some o → H' c = some o
theorem tls_to {H0 H1 H : Hp} {ts : List Tell} {ws : List V} (h : Tls H0 H ts ws) (k : ∀ c o, H0 c = none → H c = some o → H1 c = none) : Tls H1 H ts ws := by
  refine pd_mono (fun t v h => ?_) h
  cases t with
  | part pl bs =>
    obtain ⟨a, l, e, h1, h2, h3, h4⟩ := h
    exact ⟨a, l, e, h1, h2, k _ _ h3 h1, k _ _ h4 h2⟩
  | torn pl n =>
    obtain ⟨a, e, h1, h2⟩ := h
    exact ⟨a, e, h1, k _ _ h2 h1⟩
structure FedAt (C a b p l d wl el : Addr) (xs : List Int) (ww : List V) (H0 H : Hp) (k : Nat) (T : List Addr) : Prop where
  st : IsSt H a b
  fd : FdAt C H p l (gr xs k) (gp xs k)
  hk : k ≤ xs.length
  hB : By xs
  hl : xs.length ≤ 10000
  hD : H d = some (.lst (iV xs))
  hW : H wl = some (.lst ww)
  hT : Tls H0 H (unstr xs) ww
  hE : H el = some (.lst (iV (ens xs)))
  ia : a ∈ T
  ib : b ∈ T
  ip : p ∈ T
  il : l ∈ T
  oD : d ∉ T
  oW : wl ∉ T
  oE : el ∉ T
  na : l ≠ a
  nb : l ≠ b
  o0 : ∀ c, H0 c = none → c ∉ T
theorem Chg.out {a b p l : Addr} {H H' : Hp} {T : List Addr} (r : Chg a b p l H H') (ia : a ∈ T) (ib : b ∈ T) (ip : p ∈ T) (il : l ∈ T) {c : Addr} {o : HO} (n : c ∉ T) (e : H c = some o) : H' c = some o :=
  r c o (fun w => n (w ▸ ia)) (fun w => n (w ▸ ib)) (fun w => n (w ▸ ip)) (fun w => n (w ▸ il)) e
theorem no_new {H : Hp} {l l' c : Addr} {T : List Addr} {o : HO} (il : l ∈ T) (hl : l' = l ∨ H l' = none) (n : c ∉ T) (e : H c = some o) : c ∉ l' :: T := fun h => by
  rcases List.mem_cons.mp h with h | h
  · rcases hl with hl | hl
    · exact n (by rw [h, hl]; exact il)
    · rw [← h, e] at hl
      cases hl
  · exact n h
theorem FdAt.ins {C : Addr} {H : Hp} {p l : Addr} {r : List Int} {n : Nat} (h : FdAt C H p l r n) {c : Addr} {o : HO} (e : H c = some o) (no : ∀ d fs, o ≠ .ins C d fs) : c ≠ p := by
  obtain ⟨dx, h1, _⟩ := h
  intro w
  rw [w, h1] at e
  exact no _ _ (Option.some.inj e).symm
section
variable {C a b p l d wl el p2 l2 l' : Addr} {xs ys : List Int} {ww : List V} {H0 H H' : Hp} {k k' j : Nat} {T : List Addr}
theorem FedAt.fds (h : FedAt C a b p l d wl el xs ww H0 H k T) (f : Fs a b H H') : FdAt C H' p l (gr xs k) (gp xs k) := by
  obtain ⟨dx, h1, h2⟩ := h.fd
  obtain ⟨_, _, _, _, _, ha, hb⟩ := h.st
  exact ⟨dx, f.keep _ _ (ne_of h1 ha (by intro z; cases z)) (ne_of h1 hb (by intro z; cases z)) h1, f.keep _ _ h.na h.nb h2⟩
theorem FedAt.nd (h : FedAt C a b p l d wl el xs ww H0 H k T) : d ≠ a ∧ d ≠ b := ⟨fun w => h.oD (w ▸ h.ia), fun w => h.oD (w ▸ h.ib)⟩
theorem FedAt.nw (h : FedAt C a b p l d wl el xs ww H0 H k T) : wl ≠ a ∧ wl ≠ b := ⟨fun w => h.oW (w ▸ h.ia), fun w => h.oW (w ▸ h.ib)⟩
theorem FedAt.ne (h : FedAt C a b p l d wl el xs ww H0 H k T) : el ≠ a ∧ el ≠ b := ⟨fun w => h.oE (w ▸ h.ia), fun w => h.oE (w ▸ h.ib)⟩
theorem FedAt.step (h : FedAt C a b p l d wl el xs ww H0 H k T) (r : Chg a b p l H H') (st : IsSt H' a b) (fd : FdAt C H' p l' (gr xs k') (gp xs k')) (hl' : l' = l ∨ H l' = none) (hk : k' ≤ xs.length) : FedAt C a b p l' d wl el xs ww (upd H0 l' (.lst [])) H' k' (l' :: T) := by
  have n2 : l' ≠ a ∧ l' ≠ b := by
    rcases hl' with e | e
    · rw [e]
      exact ⟨h.na, h.nb⟩
    · exact h.st.na e
  refine ⟨st, fd, hk, h.hB, h.hl, r.out h.ia h.ib h.ip h.il h.oD h.hD, r.out h.ia h.ib h.ip h.il h.oW h.hW, ?_, r.out h.ia h.ib h.ip h.il h.oE h.hE, List.mem_cons_of_mem _ h.ia, List.mem_cons_of_mem _ h.ib, List.mem_cons_of_mem _ h.ip, List.mem_cons_self .., no_new h.il hl' h.oD h.hD, no_new h.il hl' h.oW h.hW, no_new h.il hl' h.oE h.hE, n2.1, n2.2, ?_⟩
  · refine (tls_to h.hT fun c o h0 e => ?_).keep fun c o h0 e => ?_
    · refine none_upd (fun w => ?_) h0
      exact no_new h.il hl' (h.o0 c h0) e (by rw [w]; exact List.mem_cons_self ..)
    · exact r.out h.ia h.ib h.ip h.il (h.o0 c (upd_none h0).2) e
  · intro c h0 hc
    obtain ⟨n, h0⟩ := upd_none h0
    rcases List.mem_cons.mp hc with w | w
    · exact n w
    · exact h.o0 c h0 w
theorem FedAt.other (h : FedAt C a b p2 l2 d wl el xs ww H0 H k T) (r : Chg a b p l H H') (st : IsSt H' a b) (ip : p ∈ T) (il : l ∈ T) (f : FdAt C H p l ys j) (hl' : l' = l ∨ H l' = none) (np : p2 ≠ p) (nl : l2 ≠ l) : FedAt C a b p2 l2 d wl el xs ww (upd H0 l' (.lst [])) H' k (l' :: T) := by
  obtain ⟨dx, h1, h2⟩ := id h.fd
  obtain ⟨dy, g1, g2⟩ := id f
  obtain ⟨_, _, _, _, _, ha, hb⟩ := id h.st
  have fd : FdAt C H' p2 l2 (gr xs k) (gp xs k) := by
    refine ⟨dx, r _ _ ?_ ?_ np ?_ h1, r _ _ h.na h.nb ?_ nl h2⟩
    · exact ne_of h1 ha (by intro z; cases z)
    · exact ne_of h1 hb (by intro z; cases z)
    · exact ne_of h1 g2 (by intro z; cases z)
    · exact ne_of h2 g1 (by intro z; cases z)
  refine ⟨st, fd, h.hk, h.hB, h.hl, r.out h.ia h.ib ip il h.oD h.hD, r.out h.ia h.ib ip il h.oW h.hW, ?_, r.out h.ia h.ib ip il h.oE h.hE, List.mem_cons_of_mem _ h.ia, List.mem_cons_of_mem _ h.ib, List.mem_cons_of_mem _ h.ip, List.mem_cons_of_mem _ h.il, no_new il hl' h.oD h.hD, no_new il hl' h.oW h.hW, no_new il hl' h.oE h.hE, h.na, h.nb, ?_⟩
  · refine (tls_to h.hT fun c o h0 e => ?_).keep fun c o h0 e => ?_
    · refine none_upd (fun w => ?_) h0
      exact no_new il hl' (h.o0 c h0) e (by rw [w]; exact List.mem_cons_self ..)
    · exact r.out h.ia h.ib ip il (h.o0 c (upd_none h0).2) e
  · intro c h0 hc
    obtain ⟨n, h0⟩ := upd_none h0
    rcases List.mem_cons.mp hc with w | w
    · exact n w
    · exact h.o0 c h0 w
end
section
variable {P : Program} {w : World} {K : PySem.W.Frag} {mg : Str → Option Value} {base : Heap} {C : Addr}
def spFed (C : Addr) : Sp := fun vs H Q _ => ∃ (a b p l d wl el : Addr) (xs : List Int) (ww : List V) (H0 : Hp) (k : Nat) (T : List Addr), vs = [.ref a, .ref p, .ref d, .int (k : Nat), .ref wl, .ref el] ∧ FedAt C a b p l d wl el xs ww H0 H k T ∧
  ∀ (H' : Hp) (l' : Addr) (k' : Nat), Chg a b p l H H' → IsSt H' a b → FdAt C H' p l' (gr xs k') (gp xs k') → (l' = l ∨ H l' = none) → k' ≤ xs.length → Q (.int (k' : Nat)) H'
theorem ok_fed {f : Addr} {fd : FuncData} (F : Fun K "_law_fed" "_law_fed" s__law_fed f fd) (T : Bt mg) (cl : ClF K C) (c__law_take : Cal P w K mg base 1 "_law_take" ["_law_state", "_law_many"] spTake) (c__law_refused : Cal P w K mg base 5 "_law_refused" ["_law_feeder", "_law_piece"] (spRefused C)) (c__law_wrong : Cal P w K mg base 2 "_law_wrong" ["_law_state"] spWrong) (m_feed : MCal P w K mg base C 4 "feed" ["self", "data"] (spFFeedR C)) :
    FnOk P w K mg base CX0 6 f fd ["_law_state", "_law_feeder", "_law_data", "_law_at", "_law_whole", "_law_ended_here"] (spFed C) := by
  refine F.ok sc__law_fed (fun vs H Q E h => ?_) (fun cdv A outer s H vs Q E hr h => ?_)
  · obtain ⟨a, b, p, l, d, wl, el, xs, ww, H0, k, TT, rfl, _⟩ := h
    rfl
  · obtain ⟨a, b, p, l, d, wl, el, xs, ww, H0, k, TT, rfl, FA, q⟩ := h
    refine ⟨_, (pss_cons (ps_set (i := 6) sc__law_fed.nd rfl (.inl rfl) (pe_ix (r := rIxL K) ix_list (pe_lst (pa_cons pe_int (pa_cons pe_int (pa_cons pe_int (pa_cons pe_int (pa_cons pe_int (pa_cons pe_int (pa_cons pe_int (pa_cons pe_int pa_nil))))))))) (pe_cal c__law_take hr (by decide) (by rfl) (pa_cons (pv 0) (pa_cons pe_int pa_nil))) (fun _ _ => rfl)))
      (pss_mid (ps_if (PW.pt (pw_and (pt_cmpR op_eq (pe_cal c__law_take hr (by decide) (by rfl) (pa_cons (pv 0) (pa_cons pe_int pa_nil))) pe_int (nomark _)) (pw_and1 (pt_not (pt_val (pe_cal c__law_refused hr (by decide) (by rfl) (pa_cons (pv 1) (pa_cons (pe_cal c__law_wrong hr (by decide) (by rfl) (pa_cons (pv 0) pa_nil)) pa_nil))))))))
        (pss_one (ps_ret (pe_un un_neg pe_int)))
        pss_nil)
      (pss_cons (ps_set (i := 7) sc__law_fed.nd rfl (.inl rfl) (pe_slice (r := rSlL K) sl_list (pv 2) (po_some (pv 3)) (po_some (pe_op op_add (pv 3) (pv 6)))))
      (pss_cons (ps_set (i := 8) sc__law_fed.nd rfl (.inl rfl) (pe_op op_add (pv 3) (pe_callB call_len_seq (by rfl) T.n_len (by decide +kernel) (pa_cons (pv 7) pa_nil))))
      (pss_mid (ps_if (pt_cmpR op_eq (pe_cal c__law_take hr (by decide) (by rfl) (pa_cons (pv 0) (pa_cons pe_int pa_nil))) pe_int (nomark _))
        (pss_one (ps_set (i := 9) sc__law_fed.nd rfl (.inl rfl) (pe_mcal m_feed cl.cl hr (by decide) (pv 1) (pa_cons (pe_callTy (T := "tuple") (r := rTupOf K) cr_tupK (by rfl) T.n_tuple (by decide +kernel) (pa_cons (pv 7) pa_nil)) pa_nil))))
        (pss_cons (ps_set (i := 9) sc__law_fed.nd rfl (.inl rfl) (pe_mcal m_feed cl.cl hr (by decide) (pv 1) (pa_cons (pv 7) pa_nil)))
        (pss_cons (ps_if (pt_cmpR (op_neD hr.units) (pv 7) (pe_slice (r := rSlL K) sl_list (pv 2) (po_some (pv 3)) (po_some (pv 8))) (nomark _))
          (pss_one (ps_ret (pe_un un_neg pe_int)))
          pss_nil)
        (pss_one (ps_expr (pe_bm PySem.F.plainAttrs_list PySem.F.slot_list_append PySem.F.type_list_append mt_append (pv 7) (pa_cons pe_int pa_nil)))))))
      (pss_cons (ps_if (PW.pt (pw_or (pt_not (pt_val (pe_callB (id := "isinstance") (r := rIsi K) call_isi (by rfl) T.n_isinstance (by decide +kernel) (pa_cons (pv 9) (pa_cons (pe_bltn (v := .ty "list") rfl T.n_list (by decide +kernel) rfl) pa_nil))))) (pw_or1 (pt_cmpR (op_neD hr.units) (pv 9) (pe_slice (r := rSlL K) sl_list (pv 4) (po_some (pe_ix (r := rIxL K) ix_list (pv 5) (pv 3) (fun _ _ => rfl))) (po_some (pe_ix (r := rIxL K) ix_list (pv 5) (pv 8) (fun _ _ => rfl)))) (nomark _)))))
        (pss_one (ps_ret (pe_un un_neg pe_int)))
        pss_nil)
      (pss_cons (ps_for PassesOwn.never rfl (pi_list (pv 9)) (pg_name (i := 10) sc__law_fed.nd rfl (.inl rfl))
        (pss_one (ps_if (pt_cmpR op_eq (pe_ix (r := rIxT K) ix_tup (pv 10) pe_int (fun _ _ => rfl)) pe_str (nomark _))
          (pss_one (ps_expr (pe_bm PySem.F.plainAttrs_list PySem.F.slot_list_append PySem.F.type_list_append mt_append (pe_ix (r := rIxT K) ix_tup (pv 10) pe_int (fun _ _ => rfl)) (pa_cons pe_int pa_nil))))
          pss_nil)))
      (pss_cons (ps_expr (pe_bm PySem.F.plainAttrs_list PySem.F.slot_list_append PySem.F.type_list_append mt_append (pv 9) (pa_cons pe_non pa_nil)))
      (pss_one (ps_ret (pv 8))))))))))), ?_⟩
    refine ⟨by show 8 ≤ sizeLine; decide, fun L hL => ?_⟩
    have sL := same_upd (o := .lst (iV [0, 1, 2, 3, 5, 17, 90, 700])) hL
    have hLL : (upd H L (.lst (iV [0, 1, 2, 3, 5, 17, 90, 700]))) L = some (.lst (iV [0, 1, 2, 3, 5, 17, 90, 700])) := upd_same
    refine ⟨.ref a, rfl, a, b, 8, rfl, FA.st.same sL, by decide, by decide, fun z H2 z0 z1 f2 => ?_⟩
    have fs2 := (Fs.of_same FA.st sL).trans f2
    have hL2 := f2.keep _ _ ((FA.st.na hL)).1 (FA.st.na hL).2 hLL
    obtain ⟨sz, hz, hsz⟩ : ∃ sz : Nat, atI (iV [0, 1, 2, 3, 5, 17, 90, 700]) z = some (.int (sz : Nat)) ∧ sz ≤ 700 := by
      obtain rfl | rfl | rfl | rfl | rfl | rfl | rfl | rfl : z = 0 ∨ z = 1 ∨ z = 2 ∨ z = 3 ∨ z = 4 ∨ z = 5 ∨ z = 6 ∨ z = 7 := by omega
      · exact ⟨0, rfl, by decide⟩
      · exact ⟨1, rfl, by decide⟩
      · exact ⟨2, rfl, by decide⟩
      · exact ⟨3, rfl, by decide⟩
      · exact ⟨5, rfl, by decide⟩
      · exact ⟨17, rfl, by decide⟩
      · exact ⟨90, rfl, by decide⟩
      · exact ⟨700, rfl, by decide⟩
    refine ⟨L, _, z, .int (sz : Nat), rfl, rfl, SqL.of hL2, hz, ?_⟩
    refine ⟨fun σ H' => σ = [some (.ref a), some (.ref p), some (.ref d), some (.int (k : Nat)), some (.ref wl), some (.ref el), some (.int (sz : Nat)), none, none, none, none] ∧ Fs a b H H', ?_, ?_⟩
    · refine ⟨.ref a, rfl, a, b, 4, rfl, fs2.st, by decide, by decide, fun y H3 y0 y1 f3 => ⟨rfl, _, rfl, ?_⟩⟩
      have fs3 := fs2.trans f3
      refine ite2 (fun g => ?_) (fun g => ?_)
      · refine ⟨.ref p, rfl, .ref a, rfl, a, b, rfl, fs3.st, fun H4 v f4 hv => ?_⟩
        have fs4 := fs3.trans f4
        refine ⟨p, l, gr xs k, gp xs k, v, rfl, FA.fds fs4, hv, fun H5 s5 => ⟨true, rfl, ?_⟩⟩
        exact iteF ⟨rfl, fs4.same s5⟩
      · exact iteF ⟨rfl, fs3⟩
    rintro σ H3 ⟨rfl, fs3⟩
    have hD3 := fs3.keep _ _ FA.nd.1 FA.nd.2 FA.hD
    refine ⟨_, rfl, _, rfl, _, rfl, _, rfl, _, rfl, _, _, rfl, rfl, _, rfl, d, _, rfl, SqL.of hD3, fun pc hpc => ?_⟩
    have ecut : cutV (iV xs) (some (k : Int)) (some ((k : Int) + (sz : Int))) = iV ((xs.drop k).take sz) := by
      rw [show (k : Int) + (sz : Int) = ((k + sz : Nat) : Int) by omega, cut_nn, iV_take, iV_drop, Nat.add_sub_cancel_left]
    rw [ecut]
    generalize eys : (xs.drop k).take sz = ys
    have hgo := go_on xs eys.symm
    have hly : ys.length ≤ sz ∧ k + ys.length ≤ xs.length := by
      rw [← eys, List.length_take, List.length_drop]
      have := FA.hk
      omega
    have hBy : By ys := by
      rw [← eys]
      exact (FA.hB.drop k).take sz
    have s4 := same_upd (o := .lst (iV ys)) hpc
    have fs4 := fs3.same s4
    have hpc0 : H pc = none := fs3.free FA.st hpc
    have hPC : (upd H3 pc (.lst (iV ys))) pc = some (.lst (iV ys)) := upd_same
    generalize upd H3 pc (.lst (iV ys)) = H4 at s4 fs4 hPC ⊢
    refine ⟨_, rfl, _, rfl, pc, _, rfl, .inl (SqL.of hPC), _, _, rfl, rfl, ?_⟩
    have ebh : (k : Int) + (((iV ys).length : Nat) : Int) = ((k + ys.length : Nat) : Int) := by
      rw [iV_len]
      omega
    have fed : ∀ (Hf H' : Hp) (l' r : Addr) (ws : List V), Fs a b H Hf → But p l Hf H' → FdAt C H' p l' (goes (gr xs k) (gp xs k) ys).2.1 (goes (gr xs k) (gp xs k) ys).2.2 → (l' = l ∨ Hf l' = none) → Hf r = none →
        Chg a b p l H H' ∧ IsSt H' a b ∧ FdAt C H' p l' (gr xs (k + ys.length)) (gp xs (k + ys.length)) ∧ (l' = l ∨ H l' = none) ∧ H r = none := by
      intro Hf H' l' r ws fs bt fd hl hr0
      obtain ⟨dx, hp, hL⟩ := FA.fds fs
      obtain ⟨ne, ns, x, y, z, ha, hb⟩ := fs.st
      refine ⟨fun c o n1 n2 n3 n4 e => bt c o n3 n4 (fs.keep c o n1 n2 e), ⟨ne, ns, x, y, z, bt a _ (ne_of ha hp (by intro z; cases z)) FA.na.symm ha, bt b _ (ne_of hb hp (by intro z; cases z)) FA.nb.symm hb⟩, ?_, hl.imp id (fs.free FA.st), fs.free FA.st hr0⟩
      rw [hgo.1] at fd
      exact fd
    have hgl : (gr xs k).length + ys.length ≤ big ∧ By (gr xs k) ∧ NZ (gr xs k) := by
      have h := goes_keeps (pl := 0) By.nil NZ.nil (FA.hB.take k)
      refine ⟨?_, h.1, h.2.1⟩
      have h2 : (gr xs k).length ≤ ([] : List Int).length + (xs.take k).length := h.2.2
      rw [List.length_take] at h2
      have := FA.hl
      show _ ≤ 4000000
      simp only [List.length_nil] at h2
      omega
    refine ⟨fun σ H' => ∃ (r l' : Addr) (ws : List V) (H5 : Hp), σ = [some (.ref a), some (.ref p), some (.ref d), some (.int (k : Nat)), some (.ref wl), some (.ref el), some (.int (sz : Nat)), some (.ref pc), some (.int ((k : Int) + (((iV ys).length : Nat) : Int))), some (.ref r), none] ∧
      Chg a b p l H H' ∧ IsSt H' a b ∧ FdAt C H' p l' (gr xs (k + ys.length)) (gp xs (k + ys.length)) ∧ (l' = l ∨ H l' = none) ∧ H r = none ∧ r ≠ l' ∧ H' r = some (.lst ws) ∧ Tls H5 H' (goes (gr xs k) (gp xs k) ys).1 ws ∧ (∀ c, H5 c = none → H c = none ∧ c ≠ r ∧ c ≠ l'), ?_, ?_⟩
    · refine ⟨.ref a, rfl, a, b, 2, rfl, fs4.st, by decide, by decide, fun y H5 y0 y1 f5 => ⟨rfl, _, rfl, ?_⟩⟩
      have fs5 := fs4.trans f5
      have hP5 := f5.keep _ _ (FA.st.na hpc0).1 (FA.st.na hpc0).2 hPC
      refine ite2 (fun g => ?_) (fun g => ?_)
      · obtain ⟨dx, hp5, hl5⟩ := FA.fds fs5
        refine ⟨.ref p, rfl, p, dx, _, rfl, hp5, fd_no _ _ (by decide +kernel) (by decide +kernel), _, rfl, pc, _, rfl, .inl ⟨SqL.of hP5, fun tt htt => ?_⟩⟩
        have s6 := same_upd (o := .tup (iV ys)) htt
        have fs6 := fs5.same s6
        refine ⟨p, tt, l, gr xs k, ys, gp xs k, rfl, FA.fds fs6, .inr upd_same, (fun w => by rw [w, hl5] at htt; cases htt), hgl.2.1, hgl.2.2, hBy, hgl.1, fun H7 l' r ws bt fd hl hr0 nrl hR hT => ?_⟩
        obtain ⟨g1, g2, g3, g4, g5⟩ := fed _ H7 l' r ws fs6 bt fd hl hr0
        exact ⟨r, l', ws, _, rfl, g1, g2, g3, g4, g5, nrl, hR, hT, fun c h0 => ⟨fs6.free FA.st (upd_none (upd_none h0).2).2, (upd_none (upd_none h0).2).1, (upd_none h0).1⟩⟩
      · obtain ⟨dx, hp5, hl5⟩ := FA.fds fs5
        refine ⟨.ref p, rfl, p, dx, _, rfl, hp5, fd_no _ _ (by decide +kernel) (by decide +kernel), _, rfl, ?_⟩
        obtain ⟨dx0, hp0, hl0⟩ := id FA.fd
        have npl : pc ≠ l := fun w => by rw [w, hl0] at hpc0; cases hpc0
        have npp : pc ≠ p := fun w => by rw [w, hp0] at hpc0; cases hpc0
        refine ⟨p, pc, l, gr xs k, ys, gp xs k, rfl, FA.fds fs5, .inl hP5, npl, hgl.2.1, hgl.2.2, hBy, hgl.1, fun H7 l' r ws bt fd hl hr0 nrl hR hT => ?_⟩
        obtain ⟨g1, g2, g3, g4, g5⟩ := fed _ H7 l' r ws fs5 bt fd hl hr0
        have hP7 := bt pc _ npp npl hP5
        have hD7 := g1.out FA.ia FA.ib FA.ip FA.il FA.oD FA.hD
        refine ⟨_, rfl, _, rfl, _, rfl, _, rfl, _, rfl, _, rfl, d, _, rfl, SqL.of hD7, fun sl hsl => ?_⟩
        have ecut2 : cutV (iV xs) (some (k : Int)) (some ((k : Int) + (((iV ys).length : Nat) : Int))) = iV ys := by
          rw [ebh, cut_nn, ← iV_drop, ← iV_take, Nat.add_sub_cancel_left]
          congr 1
          rw [← eys, List.length_take]
          exact List.take_eq_take_min.symm
        have s8 := same_upd (o := .lst (cutV (iV xs) (some (k : Int)) (some ((k : Int) + (((iV ys).length : Nat) : Int))))) hsl
        have hS8 : (upd H7 sl (.lst (cutV (iV xs) (some (k : Int)) (some ((k : Int) + (((iV ys).length : Nat) : Int)))))) sl = some (.lst (iV ys)) := by rw [upd_same, ecut2]
        have hP8 := s8 _ _ hP7
        have hR8 := s8 _ _ hR
        have hT8 := hT.same s8
        have g18 : Chg a b p l H (upd H7 sl (.lst (cutV (iV xs) (some (k : Int)) (some ((k : Int) + (((iV ys).length : Nat) : Int)))))) := fun c o n1 n2 n3 n4 e => s8 _ _ (g1 c o n1 n2 n3 n4 e)
        have g28 := g2.same s8
        have g38 := g3.keep s8
        refine ⟨_, _, dpL hP8, dpL hS8, sh_ints _, sh_ints _, _, rfl, ?_⟩
        rw [eqv_int_refl]
        refine iteF ⟨_, rfl, .inl ⟨rfl, _, SqL.of hP8⟩, pc, _, _, rfl, rfl, hP8, Nat.lt_of_le_of_lt (show (iV ys).length ≤ 700 by rw [iV_len]; omega) (by decide), ?_⟩
        have npa := FA.st.na hpc0
        have nrp : r ≠ pc := fun w => by rw [w, hP5] at hr0; cases hr0
        refine ⟨r, l', ws, _, rfl, fun c o n1 n2 n3 n4 e => ?_, ?_, ?_, g4, g5, nrl, by rw [upd_ne nrp]; exact hR8, hT8.keep fun c o h0 e => ?_, fun c h0 => ⟨fs5.free FA.st (upd_none (upd_none h0).2).2, (upd_none (upd_none h0).2).1, (upd_none h0).1⟩⟩
        · rw [upd_ne (ne_of_none e hpc0)]
          exact g18 c o n1 n2 n3 n4 e
        · obtain ⟨ne, ns, x, y, z, e1, e2⟩ := g28
          exact ⟨ne, ns, x, y, z, by rw [upd_ne npa.1.symm]; exact e1, by rw [upd_ne npa.2.symm]; exact e2⟩
        · obtain ⟨dx1, e1, e2⟩ := g38
          have nl' : l' ≠ pc := by
            rcases hl with w | w
            · rw [w]
              exact npl.symm
            · intro w2
              rw [w2, hP5] at w
              cases w
          exact ⟨dx1, by rw [upd_ne npp.symm]; exact e1, by rw [upd_ne nl']; exact e2⟩
        · have n : c ≠ pc := fun w => by
            have := (upd_none (upd_none h0).2).2
            rw [w, hP5] at this
            cases this
          rw [upd_ne n]
          exact e
    rintro σ H5 ⟨r, l', ws, H50, rfl, ch, st5, fd5, hl5, hr0, nrl, hR, hT, h50⟩
    have hW5 := ch.out FA.ia FA.ib FA.ip FA.il FA.oW FA.hW
    have hE5 := ch.out FA.ia FA.ib FA.ip FA.il FA.oE FA.hE
    have hTW : Tls H0 H5 (unstr xs) ww := FA.hT.keep fun c o h0 e => ch.out FA.ia FA.ib FA.ip FA.il (FA.o0 c h0) e
    refine ⟨_, rfl, .ref r, .ty "list", .type "list", .type "list", true, rfl, .ty "list", .base (.lst hR), kit_ty (by decide +kernel), true, rfl, ?_⟩
    have hmany : (goes (gr xs k) (gp xs k) ys).1.length ≤ ys.length := goes_many _ _ _
    have hsz : ∀ t ∈ (goes (gr xs k) (gp xs k) ys).1, TlSz 100000 t := fun t ht => (goes_sz hgl.2.1 hgl.2.2 hBy t ht).mono (by
      have h := goes_keeps (pl := 0) By.nil NZ.nil (FA.hB.take k)
      have h2 : (gr xs k).length ≤ ([] : List Int).length + (xs.take k).length := h.2.2
      rw [List.length_take] at h2
      have := FA.hl
      simp only [List.length_nil] at h2
      omega)
    rw [hgo.2] at hT hmany hsz
    refine iteF ⟨_, rfl, _, rfl, _, rfl, _, rfl, el, _, _, _, rfl, rfl, SqL.of hE5, ens_at xs FA.hk, _, rfl, _, rfl, _, rfl, el, _, _, _, rfl, rfl, SqL.of hE5, (by rw [ebh]; exact ens_at xs hly.2), _, rfl, wl, ww, rfl, SqL.of hW5, fun sl hsl => ?_⟩
    rw [cut_nn]
    have hTS : Tls H0 H5 (((unstr xs).drop (en xs k)).take (en xs (k + ys.length) - en xs k)) ((ww.drop (en xs k)).take (en xs (k + ys.length) - en xs k)) := pd_take _ (pd_drop _ hTW)
    generalize ((unstr xs).drop (en xs k)).take (en xs (k + ys.length) - en xs k) = ts at hT hmany hsz hTS
    generalize (ww.drop (en xs k)).take (en xs (k + ys.length) - en xs k) = ws2 at hTS ⊢
    have s6 := same_upd (o := .lst ws2) hsl
    have hS6 : (upd H5 sl (.lst ws2)) sl = some (.lst ws2) := upd_same
    generalize upd H5 sl (.lst ws2) = H6 at s6 hS6 ⊢
    have hR6 := s6 _ _ hR
    refine ⟨_, _, .lst (SqL.of hR6) (hT.same s6).dp, .lst (SqL.of hS6) (hTS.same s6).dp, sh_tells _, sh_tells _, _, rfl, ?_⟩
    rw [tells_refl]
    refine iteF ?_
    have lws : ws.length ≤ 700 := by rw [← pd_len hT]; omega
    refine ⟨_, rfl, r, rfl, ⟨_, SqL.of hR6⟩, ?_⟩
    have h0r : H50 r ≠ none := fun h => (h50 r h).2.1 rfl
    refine for_it (walk_list (K := K) (a := r) (xs := ws)) (fun i σ H' => ∃ y, σ = [some (.ref a), some (.ref p), some (.ref d), some (.int (k : Nat)), some (.ref wl), some (.ref el), some (.int (sz : Nat)), some (.ref pc), some (.int ((k : Int) + (((iV ys).length : Nat) : Int))), some (.ref r), y] ∧
        (∀ c o, H50 c ≠ none → H6 c = some o → H' c = some o) ∧ ∀ v ∈ ws, (∃ (c l : Addr) (pl : Nat) (vs : List V), v = V.ref c ∧ H' c = some (.tup [.str "part", .int (pl : Nat), .ref l]) ∧ H50 l = none ∧ H' l = some (.lst vs) ∧ vs.length ≤ 100000 + i) ∨ (∃ (c : Addr) (pl n : Nat), v = V.ref c ∧ H' c = some (.tup [.str "torn", .int (pl : Nat), .int (n : Nat)])))
      ⟨_, rfl, fun c o _ e => e, fun v hv => ?_⟩ (fun i σ H' _ h => ?_) ?_ ?_
    · obtain ⟨j, hj⟩ := List.getElem?_of_mem hv
      obtain ⟨t, ht, hvv⟩ := pd_at hT hj
      have hts := hsz t (List.mem_of_getElem? ht)
      cases t with
      | part pl bs =>
        obtain ⟨c, l, rfl, h1, h2, h3, h4⟩ := hvv
        exact .inl ⟨c, l, pl, _, rfl, s6 _ _ h1, h4, s6 _ _ h2, by rw [iV_len]; exact hts⟩
      | torn pl n =>
        obtain ⟨c, rfl, h1, h2⟩ := hvv
        exact .inr ⟨c, pl, n, rfl, s6 _ _ h1⟩
    · obtain ⟨_, _, h, _⟩ := h
      exact SqL.of (h r _ h0r hR6)
    · rintro i x σ H7 H8 hi ⟨y, rfl, hk7, hall⟩ ⟨rfl, hx⟩
      have hxm := List.mem_of_getElem? hx
      rcases hall x hxm with ⟨c, l1, pl, vs, rfl, hc, hl0, hl1, hlen⟩ | ⟨c, pl, n, rfl, hc⟩
      · refine ⟨_, rfl, c, _, 0, _, rfl, rfl, SqT.of hc, rfl, rfl, _, rfl, ?_⟩
        rw [decide_eq_true (show V.str "part" = V.str "part" from rfl)]
        refine iteT ⟨_, rfl, c, _, 2, _, rfl, rfl, SqT.of hc, rfl, .inl ⟨rfl, _, SqL.of hl1⟩, l1, vs, _, rfl, rfl, hl1, Nat.lt_of_le_of_lt (show vs.length ≤ 200000 by omega) (by decide), ?_⟩
        refine ⟨_, rfl, fun c o h e => ?_, fun v hv => ?_⟩
        · rw [upd_ne (fun w => h (by rw [w]; exact hl0))]
          exact hk7 c o h e
        · rcases hall v hv with ⟨c', l', pl', vs', rfl, h1, h2, h3, h4⟩ | ⟨c', pl', n', rfl, h1⟩
          · have nc : c' ≠ l1 := fun e => by
              rw [e, hl1] at h1
              cases h1
            by_cases el : l' = l1
            · subst el
              refine .inl ⟨c', l', pl', _, rfl, by rw [upd_ne nc]; exact h1, h2, upd_same, ?_⟩
              rw [List.length_append]
              show vs.length + 1 ≤ _
              omega
            · exact .inl ⟨c', l', pl', vs', rfl, by rw [upd_ne nc]; exact h1, h2, by rw [upd_ne el]; exact h3, by omega⟩
          · have nc : c' ≠ l1 := fun e => by
              rw [e, hl1] at h1
              cases h1
            exact .inr ⟨c', pl', n', rfl, by rw [upd_ne nc]; exact h1⟩
      · refine ⟨_, rfl, c, _, 0, _, rfl, rfl, SqT.of hc, rfl, rfl, _, rfl, ?_⟩
        rw [decide_eq_false (show ¬ (V.str "torn" = V.str "part") from fun z => absurd (show ("torn" : Str) = "part" by injection z) (by decide +kernel))]
        refine iteF ⟨_, rfl, hk7, fun v hv => ?_⟩
        rcases hall v hv with ⟨c', l', pl', vs', rfl, h1, h2, h3, h4⟩ | h
        · exact .inl ⟨c', l', pl', vs', rfl, h1, h2, h3, by omega⟩
        · exact .inr h
    · rintro σ H7 ⟨y, rfl, hk7, _⟩
      have hR7 := hk7 r _ h0r hR6
      refine ⟨_, rfl, .inl ⟨rfl, _, SqL.of hR7⟩, r, ws, _, rfl, rfl, hR7, Nat.lt_of_le_of_lt lws (by decide), ?_⟩
      have nra := FA.st.na hr0
      obtain ⟨dx0, hp0, hl0⟩ := id FA.fd
      have kk : ∀ c o, c ≠ r → H50 c ≠ none → H5 c = some o → (upd H7 r (.lst (ws ++ [.non]))) c = some o := fun c o n h e => by
        rw [upd_ne n]
        exact hk7 c o h (s6 _ _ e)
      have h0 : ∀ c o, H c = some o → c ≠ r ∧ H50 c ≠ none := fun c o e => ⟨(fun w => by rw [w, hr0] at e; cases e), (fun w => by rw [(h50 c w).1] at e; cases e)⟩
      refine ⟨_, rfl, ?_⟩
      rw [ebh]
      refine q _ l' _ (fun c o n1 n2 n3 n4 e => kk c o (h0 c o e).1 (h0 c o e).2 (ch c o n1 n2 n3 n4 e)) ?_ ?_ hl5 hly.2
      · obtain ⟨ne, ns, x, y, z, e1, e2⟩ := st5
        obtain ⟨_, _, _, _, _, f1, f2⟩ := FA.st
        exact ⟨ne, ns, x, y, z, kk _ _ (h0 _ _ f1).1 (h0 _ _ f1).2 e1, kk _ _ (h0 _ _ f2).1 (h0 _ _ f2).2 e2⟩
      · obtain ⟨dx1, e1, e2⟩ := fd5
        exact ⟨dx1, kk _ _ (h0 _ _ hp0).1 (h0 _ _ hp0).2 e1, kk _ _ nrl.symm (fun w => (h50 l' w).2.2 rfl) e2⟩
end
end K54
namespace K54
open PySem PySem.Spec PyProof.Rows L2 Tw Sb
section
variable {P : Program} {w : World} {K : PySem.W.Frag} {mg : Str → Option Value} {base : Heap} {C : Addr}
/-- the rest fed: the feeder begins anew -/
def spRest (C : Addr) : Sp := fun vs H Q _ => ∃ (a b p l d wl el : Addr) (xs : List Int) (ww : List V) (H0 : Hp) (k : Nat) (T : List Addr), vs = [.ref p, .ref d, .int (k : Nat), .ref wl, .ref el] ∧ FedAt C a b p l d wl el xs ww H0 H k T ∧
  ∀ (H' : Hp) (l' : Addr), Chg a b p l H H' → IsSt H' a b → FdAt C H' p l' [] 0 → (l' = l ∨ H l' = none) → Q (.bl true) H'
theorem ok_rest {f : Addr} {fd : FuncData} (F : Fun K "_law_rest" "_law_rest" s__law_rest f fd) (T : Bt mg) (cl : ClF K C) (m_feed : MCal P w K mg base C 4 "feed" ["self", "data"] (spFFeedR C)) (m_done : MCal P w K mg base C 1 "done" ["self"] (spFDone C)) :
    FnOk P w K mg base CX0 5 f fd ["_law_feeder", "_law_data", "_law_at", "_law_whole", "_law_ended_here"] (spRest C) := by
  refine F.ok sc__law_rest (fun vs H Q E h => ?_) (fun cdv A outer s H vs Q E hr h => ?_)
  · obtain ⟨a, b, p, l, d, wl, el, xs, ww, H0, k, TT, rfl, _⟩ := h
    rfl
  · obtain ⟨a, b, p, l, d, wl, el, xs, ww, H0, k, TT, rfl, FA, q⟩ := h
    refine ⟨_, (pss_cons (ps_if (pt_cmpR (op_neD hr.units) (pe_mcal m_feed cl.cl hr (by decide) (pv 0) (pa_cons (pe_slice (r := rSlL K) sl_list (pv 1) (po_some (pv 2)) po_none) pa_nil)) (pe_slice (r := rSlL K) sl_list (pv 3) (po_some (pe_ix (r := rIxL K) ix_list (pv 4) (pv 2) (fun _ _ => rfl))) (po_some (pe_ix (r := rIxL K) ix_list (pv 4) (pe_callB call_len_seq (by rfl) T.n_len (by decide +kernel) (pa_cons (pv 1) pa_nil)) (fun _ _ => rfl)))) (nomark _))
        (pss_one (ps_ret pe_bl))
        pss_nil)
      (pss_one (ps_ret (pe_and (pe_cmpR (op_eqD hr.units) (pe_mcal0 m_done cl.cl hr (by decide) (pv 0)) (pe_slice (r := rSlL K) sl_list (pv 3) (po_some (pe_ix (r := rIxL K) ix_list (pv 4) (pe_callB call_len_seq (by rfl) T.n_len (by decide +kernel) (pa_cons (pv 1) pa_nil)) (fun _ _ => rfl))) po_none) (nomark _)) (pe_one (pe_cmpR (op_eqD hr.units) (pe_mcal0 m_done cl.cl hr (by decide) (pv 0)) (pe_lst pa_nil) (nomark _))))))), ?_⟩
    obtain ⟨dx, hp, hl⟩ := id FA.fd
    obtain ⟨ne, ns, sx, sy, sz, ha, hb⟩ := id FA.st
    refine ⟨_, rfl, p, dx, _, rfl, hp, fd_no _ _ (by decide +kernel) (by decide +kernel), _, rfl, _, rfl, _, rfl, d, _, rfl, SqL.of FA.hD, fun pc hpc => ?_⟩
    rw [cut_n0]
    have s1 := same_upd (o := .lst ((iV xs).drop k)) hpc
    have hPC : (upd H pc (.lst ((iV xs).drop k))) pc = some (.lst (iV (xs.drop k))) := by rw [upd_same, iV_drop]
    generalize upd H pc (.lst ((iV xs).drop k)) = H1 at s1 hPC ⊢
    have npl : pc ≠ l := fun w => by rw [w, hl] at hpc; cases hpc
    have hgk := goes_keeps (pl := 0) By.nil NZ.nil (FA.hB.take k)
    have hgl : (gr xs k).length ≤ k := by
      have h2 : (gr xs k).length ≤ ([] : List Int).length + (xs.take k).length := hgk.2.2
      rw [List.length_take] at h2
      simp only [List.length_nil] at h2
      omega
    have hk := FA.hk
    have hxl := FA.hl
    have hly : (xs.drop k).length ≤ xs.length := by rw [List.length_drop]; omega
    have hgo := go_on xs (k := k) (n := xs.length) (ys := xs.drop k) (List.take_of_length_le hly).symm
    rw [show k + (xs.drop k).length = xs.length by rw [List.length_drop]; omega, List.take_length] at hgo
    refine ⟨p, pc, l, gr xs k, xs.drop k, gp xs k, rfl, FA.fd.keep s1, .inl hPC, npl, hgk.1, hgk.2.1, FA.hB.drop k, Nat.le_trans (show _ ≤ 20000 by omega) (by decide), fun H2 l2 r ws bt fd2 hl2 hr0 nrl hR hT => ?_⟩
    rw [hgo.1] at fd2
    rw [hgo.2] at hT
    have keep : ∀ c o, c ≠ p → c ≠ l → H c = some o → H2 c = some o := fun c o n1 n2 e => bt c o n1 n2 (s1 _ _ e)
    have out : ∀ {c o}, c ∉ TT → H c = some o → H2 c = some o := fun n e => keep _ _ (fun w => n (w ▸ FA.ip)) (fun w => n (w ▸ FA.il)) e
    have hW2 := out FA.oW FA.hW
    have hE2 := out FA.oE FA.hE
    have hD2 := out FA.oD FA.hD
    have hTW : Tls H0 H2 (unstr xs) ww := FA.hT.keep fun c o h0 e => out (FA.o0 c h0) e
    refine ⟨_, rfl, _, rfl, _, rfl, el, _, _, _, rfl, rfl, SqL.of hE2, ens_at xs FA.hk, _, rfl, _, rfl, _, rfl, d, _, rfl, .inl (SqL.of hD2), el, _, _, _, rfl, rfl, SqL.of hE2, (by rw [iV_len]; exact ens_at xs (Nat.le_refl _)), _, rfl, wl, ww, rfl, SqL.of hW2, fun sl hsl => ?_⟩
    rw [cut_nn]
    have hTS : Tls H0 H2 (((unstr xs).drop (en xs k)).take (en xs xs.length - en xs k)) ((ww.drop (en xs k)).take (en xs xs.length - en xs k)) := pd_take _ (pd_drop _ hTW)
    generalize ((unstr xs).drop (en xs k)).take (en xs xs.length - en xs k) = ts at hT hTS
    generalize (ww.drop (en xs k)).take (en xs xs.length - en xs k) = ws2 at hTS ⊢
    have s3 := same_upd (o := .lst ws2) hsl
    have hS3 : (upd H2 sl (.lst ws2)) sl = some (.lst ws2) := upd_same
    generalize upd H2 sl (.lst ws2) = H3 at s3 hS3 ⊢
    refine ⟨_, _, .lst (SqL.of (s3 _ _ hR)) (hT.same s3).dp, .lst (SqL.of hS3) (hTS.same s3).dp, sh_tells _, sh_tells _, _, rfl, ?_⟩
    rw [tells_refl]
    refine iteF ?_
    have fd3 := fd2.keep s3
    obtain ⟨dx3, hp3, hl3⟩ := id fd3
    have hbig : (goes [] 0 xs).2.1.length ≤ big := by
      have h2 := (goes_keeps (pl := 0) By.nil NZ.nil FA.hB).2.2
      simp only [List.length_nil] at h2
      exact Nat.le_trans (show _ ≤ 10000 by omega) (by decide)
    refine ⟨_, rfl, p, dx3, _, rfl, hp3, fd_no _ _ (by decide +kernel) (by decide +kernel), p, l2, _, _, rfl, fd3, hbig, fun H4 l4 r4 ws4 k4 hl40 fd4 hr4 nr4 hR4 hT4 => ?_⟩
    have keep3 : ∀ c o, c ≠ p → c ≠ l → H c = some o → H4 c = some o := fun c o n1 n2 e => k4 c o n1 (s3 _ _ (keep c o n1 n2 e))
    have out4 : ∀ {c o}, c ∉ TT → H c = some o → H4 c = some o := fun n e => keep3 _ _ (fun w => n (w ▸ FA.ip)) (fun w => n (w ▸ FA.il)) e
    have hW4 := out4 FA.oW FA.hW
    have hE4 := out4 FA.oE FA.hE
    have hD4 := out4 FA.oD FA.hD
    have hTW4 : Tls H0 H4 (unstr xs) ww := FA.hT.keep fun c o h0 e => out4 (FA.o0 c h0) e
    refine ⟨_, rfl, _, rfl, _, rfl, d, _, rfl, .inl (SqL.of hD4), el, _, _, _, rfl, rfl, SqL.of hE4, (by rw [iV_len]; exact ens_at xs (Nat.le_refl _)), _, rfl, wl, ww, rfl, SqL.of hW4, fun sl4 hsl4 => ?_⟩
    rw [cut_n0]
    have hTS4 : Tls H0 H4 ((unstr xs).drop (en xs xs.length)) (ww.drop (en xs xs.length)) := pd_drop _ hTW4
    rw [unstr_end] at hTS4
    generalize ww.drop (en xs xs.length) = ws5 at hTS4 ⊢
    have s5 := same_upd (o := .lst ws5) hsl4
    have hS5 : (upd H4 sl4 (.lst ws5)) sl4 = some (.lst ws5) := upd_same
    generalize upd H4 sl4 (.lst ws5) = H5 at s5 hS5 ⊢
    refine ⟨_, _, .lst (SqL.of (s5 _ _ hR4)) (hT4.same s5).dp, .lst (SqL.of hS5) (hTS4.same s5).dp, sh_tells _, sh_tells _, ?_⟩
    rw [tells_refl]
    refine ⟨true, rfl, iteT ?_⟩
    have fd5 := fd4.keep s5
    obtain ⟨dx5, hp5, hl5⟩ := id fd5
    refine ⟨_, rfl, p, dx5, _, rfl, hp5, fd_no _ _ (by decide +kernel) (by decide +kernel), p, l4, _, _, rfl, fd5, Nat.zero_le _, fun H6 l6 r6 ws6 k6 hl60 fd6 hr6 nr6 hR6 hT6 => ?_⟩
    have e0 : rests [] 0 = [] := rfl
    rw [e0] at hT6
    refine ⟨Nat.zero_le _, fun el0 hel0 => ?_⟩
    have s7 := same_upd (o := .lst []) hel0
    refine ⟨_, _, .lst (SqL.of (s7 _ _ hR6)) (hT6.same s7).dp, .lst (SqL.of upd_same) .nil, sh_tells _, sh_tells [], ?_⟩
    have e1 : PyData.eqv (.list (([] : List Tell).map Tell.pd)) (.list []) = true := tells_refl []
    rw [e1]
    have keep6 : ∀ c o, c ≠ p → c ≠ l → H c = some o → (upd H6 el0 (.lst [])) c = some o := fun c o n1 n2 e => s7 _ _ (k6 c o n1 (s5 _ _ (keep3 c o n1 n2 e)))
    refine q _ l6 (fun c o n1 n2 n3 n4 e => keep6 c o n3 n4 e) ?_ (fd6.keep s7) ?_
    · exact ⟨ne, ns, sx, sy, sz, keep6 _ _ (ne_of ha hp (by intro z; cases z)) FA.na.symm ha, keep6 _ _ (ne_of hb hp (by intro z; cases z)) FA.nb.symm hb⟩
    · by_cases n : l6 = l
      · exact .inl n
      · refine .inr ?_
        cases e : H l6 with
        | none => rfl
        | some o =>
          have np : l6 ≠ p := fun w => by rw [w, hp5] at hl60; cases hl60
          rw [s5 _ _ (keep3 l6 o np n e)] at hl60
          cases hl60
end
end K54
namespace K54
open PySem PySem.Spec PyProof.Rows L2 Tw Sb
section
variable {P : Program} {w : World} {K : PySem.W.Frag} {mg : Str → Option Value} {base : Heap} {C : Addr}
/-- what stood, and something at these -/
def HoT (Hs : Hp) (T : List Addr) : Hp := fun c => if c ∈ T then some (.lst []) else Hs c
theorem hot_none {Hs : Hp} {T : List Addr} {c : Addr} (h : HoT Hs T c = none) : c ∉ T := fun m => by
  unfold HoT at h
  rw [if_pos m] at h
  cases h
theorem fed0 {a b p l d wl el : Addr} {xs : List Int} {ww : List V} {Hs Hk H : Hp} {T : List Addr} (st : IsSt H a b) (fd : FdAt C H p l [] 0) (hB : By xs) (hl : xs.length ≤ 10000) (hD : Hk d = some (.lst (iV xs))) (hW : Hk wl = some (.lst ww)) (hT : Tls Hs Hk (unstr xs) ww) (hE : Hk el = some (.lst (iV (ens xs)))) (s : Same Hk H)
    (ia : a ∈ T) (ib : b ∈ T) (ip : p ∈ T) (il : l ∈ T) (hTT : ∀ c ∈ T, c = a ∨ c = b ∨ Hk c = none) (sa : ∃ o, Hs a = some o) (sb : ∃ o, Hs b = some o) (nd : d ≠ a ∧ d ≠ b) (nw : wl ≠ a ∧ wl ≠ b) (ne : el ≠ a ∧ el ≠ b) (nl : l ≠ a ∧ l ≠ b) : FedAt C a b p l d wl el xs ww (HoT Hs T) H 0 T := by
  have out : ∀ {c o}, Hk c = some o → c ≠ a ∧ c ≠ b → c ∉ T := fun e n m => by
    rcases hTT _ m with w | w | w
    · exact n.1 w
    · exact n.2 w
    · rw [w] at e
      cases e
  refine ⟨st, fd, Nat.zero_le _, hB, hl, s _ _ hD, s _ _ hW, ?_, s _ _ hE, ia, ib, ip, il, out hD nd, out hW nw, out hE ne, nl.1, nl.2, fun c h => hot_none h⟩
  refine (tls_to hT fun c o h0 e => ?_).same s
  unfold HoT
  rw [if_neg ?_]
  · exact h0
  · refine out e ⟨fun w => ?_, fun w => ?_⟩
    · obtain ⟨o, h⟩ := sa
      rw [w, h] at h0
      cases h0
    · obtain ⟨o, h⟩ := sb
      rw [w, h] at h0
      cases h0
theorem FedAt.same {a b p l d wl el : Addr} {xs : List Int} {ww : List V} {H0 H H' : Hp} {k : Nat} {T : List Addr} (h : FedAt C a b p l d wl el xs ww H0 H k T) (s : Same H H') : FedAt C a b p l d wl el xs ww H0 H' k T :=
  ⟨h.st.same s, h.fd.keep s, h.hk, h.hB, h.hl, s _ _ h.hD, s _ _ h.hW, h.hT.same s, s _ _ h.hE, h.ia, h.ib, h.ip, h.il, h.oD, h.oW, h.oE, h.na, h.nb, h.o0⟩
theorem FedAt.chg {a b p l d wl el : Addr} {xs : List Int} {ww : List V} {H0 H H' : Hp} {k : Nat} {T : List Addr} (h : FedAt C a b p l d wl el xs ww H0 H k T) (kk : ∀ c o, c ≠ p → c ≠ l → H c = some o → H' c = some o) : Chg a b p l H H' ∧ IsSt H' a b := by
  obtain ⟨dx, hp, hl⟩ := h.fd
  obtain ⟨ne, ns, sx, sy, sz, ha, hb⟩ := h.st
  exact ⟨fun c o _ _ n3 n4 e => kk c o n3 n4 e, ne, ns, sx, sy, sz, kk _ _ (ne_of ha hp (by intro z; cases z)) h.na.symm ha, kk _ _ (ne_of hb hp (by intro z; cases z)) h.nb.symm hb⟩
def Non : Hp := fun _ => none
theorem feed_done {E' : XK} {p l d : Addr} {xs : List Int} {H : Hp} {σ : L2.St} {i : Nat} {Q : VK} (hv : ∀ (H1 : Hp) (Q1 : VK), Q1 (.ref p) H1 → tVar i σ H1 Q1) (fd : FdAt C H p l [] 0) (hD : Rw H d (iV xs)) (ndl : d ≠ l) (hB : By xs) (hlen : xs.length ≤ 10000)
    (q : ∀ (H' : Hp) (l' r : Addr) (ws : List V), (∀ c o, c ≠ p → c ≠ l → H c = some o → H' c = some o) → FdAt C H' p l' [] 0 → (l' = l ∨ H l' = none) → H' r = some (.lst ws) → Tls Non H' (unstr xs) ws → Q (.ref r) H') :
    spFFeedR C [.ref p, .ref d] H (fun x H1 => tMeth C "done" (spFDone C) [] E0 (tVar i) tNil σ H1 fun y H2 => rCat x y H2 Q) E' := by
  refine ⟨p, d, l, [], xs, 0, rfl, fd, hD, ndl, .nil, .nil, hB, Nat.le_trans (show _ ≤ 10000 by simpa using hlen) (by decide), fun H3 l3 r ws b3 hF3 hl3 hr0 nrl hR3 ht3 => hv _ _ ?_⟩
  obtain ⟨dx, hp, hl⟩ := fd
  obtain ⟨dx3, hp3, hL3⟩ := id hF3
  have hgk := goes_keeps (pl := 0) By.nil NZ.nil hB
  have npr : p ≠ r := fun w => by rw [w, hr0] at hp; cases hp
  have nlr : l ≠ r := fun w => by rw [w, hr0] at hl; cases hl
  have hmany := goes_many [] 0 xs
  refine ⟨p, dx3, _, rfl, hp3, fd_no _ _ (by decide +kernel) (by decide +kernel), p, l3, _, _, rfl, hF3, ?_, fun H4 l4 r4 ws4 k4 hl4 hF4 hr4 nr4 hR4 ht4 => ?_⟩
  · have := hgk.2.2
    simp only [List.length_nil] at this
    exact Nat.le_trans (show _ ≤ 10000 by omega) (by decide)
  have hR3' := k4 r _ npr.symm hR3
  have hlen4 : ws4.length ≤ 1 := by
    rw [← pd_len ht4]
    unfold rests
    split <;> simp
  refine ⟨r, r4, ws, ws4, rfl, rfl, hR3', hR4, ?_, fun t ht => ?_⟩
  · rw [← pd_len ht3]
    exact Nat.le_trans (show (goes [] 0 xs).1.length + ws4.length ≤ 20000 by omega) (by decide)
  have s5 := same_upd (o := .lst (ws ++ ws4)) ht
  refine q _ l4 t (ws ++ ws4) (fun c o n1 n2 e => s5 _ _ (k4 c o n1 (b3 c o n1 n2 e))) (hF4.keep s5) ?_ upd_same ?_
  · by_cases n : l4 = l
    · exact .inl n
    · refine .inr ?_
      cases e : H l4 with
      | none => rfl
      | some o =>
        have np : l4 ≠ p := fun w => by rw [w, hp3] at hl4; cases hl4
        rw [b3 l4 o np n e] at hl4
        cases hl4
  · have h1 : Tls Non H4 (goes [] 0 xs).1 ws := (ht3.keep fun c o h0 e => k4 c o (fun w => by
      have := (upd_none (upd_none h0).2).2
      rw [w, hp] at this
      cases this) e).old fun _ _ => rfl
    have h2 : Tls Non H4 (unstr xs) (ws ++ ws4) := pd_append h1 (ht4.old fun _ _ => rfl)
    exact h2.same s5
theorem ok_law {f : Addr} {fd : FuncData} (F : Fun K "law" "law" s_law f fd) (T : Bt mg) (cl : ClF K C) (c__law_take : Cal P w K mg base 1 "_law_take" ["_law_state", "_law_many"] spTake) (c__law_block : Cal P w K mg base 5 "_law_block" ["_law_state"] (spGen 1100)) (c_unstreamed : Cal P w K mg base 5 "unstreamed" ["data"] spUnstR)
    (c__law_ended : Cal P w K mg base 1 "_law_ended" ["_law_data"] spEnded) (m_mk : MkC P w K mg base C 1 "Feeder" (spFInit C)) (m_feed : MCal P w K mg base C 4 "feed" ["self", "data"] (spFFeedR C)) (m_done : MCal P w K mg base C 1 "done" ["self"] (spFDone C))
    (c__law_fed : Cal P w K mg base 6 "_law_fed" ["_law_state", "_law_feeder", "_law_data", "_law_at", "_law_whole", "_law_ended_here"] (spFed C)) (c__law_rest : Cal P w K mg base 5 "_law_rest" ["_law_feeder", "_law_data", "_law_at", "_law_whole", "_law_ended_here"] (spRest C)) : FnOk P w K mg base CX0 7 f fd ["_law_script"] (spLaw K) := by
  refine F.ok sc_law (fun vs H Q E h => ?_) (fun cdv A outer s H vs Q E hr h => ?_)
  · obtain ⟨a, ns, rfl, _⟩ := h
    rfl
  · obtain ⟨a, ns, rfl, hS, hlen, q⟩ := h
    refine ⟨_, (pss_cons (ps_set (i := 1) sc_law.nd rfl (.inl rfl) (pe_lst (pa_cons (pe_callTy (T := "list") (r := rListOf K) cr_listK (by rfl) T.n_list (by decide +kernel) (pa_cons (pe_slice (r := rSlL K) sl_list (pv 0) po_none (po_some pe_int)) pa_nil)) (pa_cons pe_int (pa_cons pe_int (pa_cons pe_int pa_nil))))))
      (pss_cons (ps_set (i := 2) sc_law.nd rfl (.inl rfl) (pe_lst pa_nil))
      (pss_cons (ps_for PassesOwn.never rfl (pi_range1 rfl T.n_range (pa_cons (pe_cal c__law_take hr (by decide) (by rfl) (pa_cons (pv 1) (pa_cons pe_int pa_nil))) pa_nil)) (pg_name (i := 3) sc_law.nd rfl (.inl rfl))
        (pss_one (ps_set (i := 2) sc_law.nd rfl (.inl rfl) (pe_op op_cat (pv 2) (pe_cal c__law_block hr (by decide) (by rfl) (pa_cons (pv 1) pa_nil))))))
      (pss_cons (ps_set (i := 4) sc_law.nd rfl (.inl rfl) (pe_cal c__law_take hr (by decide) (by rfl) (pa_cons (pv 1) (pa_cons (pe_op op_add (pe_callB call_len_seq (by rfl) T.n_len (by decide +kernel) (pa_cons (pv 2) pa_nil)) pe_int) pa_nil))))
      (pss_cons (ps_set (i := 5) sc_law.nd rfl (.inl rfl) (pe_slice (r := rSlL K) sl_list (pv 2) (po_some (pv 4)) po_none))
      (pss_cons (ps_set (i := 6) sc_law.nd rfl (.inl rfl) (pe_cal c_unstreamed hr (by decide) (by rfl) (pa_cons (pe_callTy (T := "list") (r := rListOf K) cr_listK (by rfl) T.n_list (by decide +kernel) (pa_cons (pv 2) pa_nil)) pa_nil)))
      (pss_cons (ps_set (i := 7) sc_law.nd rfl (.inl rfl) (pe_cal c_unstreamed hr (by decide) (by rfl) (pa_cons (pe_callTy (T := "list") (r := rListOf K) cr_listK (by rfl) T.n_list (by decide +kernel) (pa_cons (pv 5) pa_nil)) pa_nil)))
      (pss_cons (ps_set (i := 8) sc_law.nd rfl (.inl rfl) (pe_cal c__law_ended hr (by decide) (by rfl) (pa_cons (pv 2) pa_nil)))
      (pss_cons (ps_set (i := 9) sc_law.nd rfl (.inl rfl) (pe_cal c__law_ended hr (by decide) (by rfl) (pa_cons (pv 5) pa_nil)))
      (pss_cons (ps_set (i := 10) sc_law.nd rfl (.inl rfl) (pe_mk0 m_mk hr (by decide) (by rfl)))
      (pss_cons (ps_set (i := 11) sc_law.nd rfl (.inl rfl) (pe_mk0 m_mk hr (by decide) (by rfl)))
      (pss_cons (ps_set (i := 12) sc_law.nd rfl (.inl rfl) pe_int)
      (pss_cons (ps_set (i := 13) sc_law.nd rfl (.inl rfl) pe_int)
      (pss_cons (ps_for PassesOwn.never rfl (pi_range1 rfl T.n_range (pa_cons pe_int pa_nil)) (pg_name (i := 3) sc_law.nd rfl (.inl rfl))
        (pss_cons (ps_set (i := 12) sc_law.nd rfl (.inl rfl) (pe_cal c__law_fed hr (by decide) (by rfl) (pa_cons (pv 1) (pa_cons (pv 10) (pa_cons (pv 2) (pa_cons (pv 12) (pa_cons (pv 6) (pa_cons (pv 8) pa_nil))))))))
        (pss_cons (ps_set (i := 13) sc_law.nd rfl (.inl rfl) (pe_cal c__law_fed hr (by decide) (by rfl) (pa_cons (pv 1) (pa_cons (pv 11) (pa_cons (pv 5) (pa_cons (pv 13) (pa_cons (pv 7) (pa_cons (pv 9) pa_nil))))))))
        (pss_one (ps_if (PW.pt (pw_or (pt_cmpR op_lt (pv 12) pe_int (nomark _)) (pw_or1 (pt_cmpR op_lt (pv 13) pe_int (nomark _)))))
          (pss_one (ps_ret pe_bl))
          pss_nil)))))
      (pss_cons (ps_if (pt_not (pt_val (pe_cal c__law_rest hr (by decide) (by rfl) (pa_cons (pv 10) (pa_cons (pv 2) (pa_cons (pv 12) (pa_cons (pv 6) (pa_cons (pv 8) pa_nil))))))))
        (pss_one (ps_ret pe_bl))
        pss_nil)
      (pss_cons (ps_if (pt_not (pt_val (pe_cal c__law_rest hr (by decide) (by rfl) (pa_cons (pv 11) (pa_cons (pv 5) (pa_cons (pv 13) (pa_cons (pv 7) (pa_cons (pv 9) pa_nil))))))))
        (pss_one (ps_ret pe_bl))
        pss_nil)
      (pss_cons (ps_set (i := 14) sc_law.nd rfl (.inl rfl) (pe_op op_cat (pe_mcal m_feed cl.cl hr (by decide) (pv 10) (pa_cons (pe_slice (r := rSlL K) sl_list (pv 2) po_none (po_some (pv 4))) pa_nil)) (pe_mcal0 m_done cl.cl hr (by decide) (pv 10))))
      (pss_cons (ps_if (pt_cmpR (op_neD hr.units) (pv 14) (pe_cal c_unstreamed hr (by decide) (by rfl) (pa_cons (pe_slice (r := rSlL K) sl_list (pv 2) po_none (po_some (pv 4))) pa_nil)) (nomark _))
        (pss_one (ps_ret pe_bl))
        pss_nil)
      (pss_one (ps_ret (pe_and (pe_cmpR (op_eqD hr.units) (pe_op op_cat (pe_mcal m_feed cl.cl hr (by decide) (pv 10) (pa_cons (pv 5) pa_nil)) (pe_mcal0 m_done cl.cl hr (by decide) (pv 10))) (pv 7) (nomark _)) (pe_one (pe_cmpR (op_eqD hr.units) (pe_op op_cat (pe_mcal m_feed cl.cl hr (by decide) (pv 11) (pa_cons (pv 2) pa_nil)) (pe_mcal0 m_done cl.cl hr (by decide) (pv 11))) (pv 6) (nomark _)))))))))))))))))))))))), ?_⟩
    refine ⟨_, rfl, 63, rfl, a, _, rfl, hS, fun p hp => ?_⟩
    obtain ⟨ms, em, _⟩ := cutI ns none (some 63)
    rw [show cutV (ns.map V.int) none (some 63) = iV ms from em]
    refine ⟨p, _, rfl, .inl (SqL.of upd_same), fun b hb => ⟨by show 4 ≤ sizeLine; decide, fun st hst => ?_⟩⟩
    have nbs : st ≠ b := fun e => by
      rw [e, upd_same] at hst
      cases hst
    have hst0 : IsSt (upd (upd (upd H p (.lst (iV ms))) b (.lst (iV ms))) st (.lst [.ref b, .int 0, .int 0, .int 0])) st b := ⟨nbs, ms, 0, 0, 0, upd_same, by rw [upd_ne nbs.symm, upd_same]⟩
    generalize upd (upd (upd H p (.lst (iV ms))) b (.lst (iV ms))) st (.lst [.ref b, .int 0, .int 0, .int 0]) = H1 at hst0 ⊢
    refine ⟨Nat.zero_le _, fun d0 hd0 => ?_⟩
    have f2 := Fs.of_same hst0 (same_upd (o := .lst []) hd0)
    have n2 : Nw H1 (upd H1 d0 (.lst [])) d0 [] := ⟨hd0, upd_same⟩
    generalize upd H1 d0 (.lst []) = H2 at f2 n2 ⊢
    refine ⟨_, rfl, st, b, 7, rfl, f2.st, by decide, by decide, fun z H3 z0 z1 f3 => ?_⟩
    refine ⟨z, rfl, by omega, by omega, ?_⟩
    refine for_it (walk_range (lo := 0) (n := z.toNat)) (fun i σ H' => ∃ (d : Addr) (xs : List Int) (y : Option V), σ = [some (.ref a), some (.ref st), some (.ref d), y, none, none, none, none, none, none, none, none, none, none, none] ∧ Fs st b H1 H' ∧ Nw H1 H' d xs ∧ By xs ∧ xs.length ≤ 1100 * i)
      ⟨d0, [], none, rfl, f2.trans f3, n2.st hst0 f3, .nil, Nat.zero_le _⟩ (fun _ _ _ _ _ => trivial) ?_ ?_
    · rintro i x σ H4 H5 hi ⟨d, xs, y, rfl, f4, nd, bx, lx⟩ ⟨rfl, rfl⟩
      refine ⟨_, rfl, _, rfl, st, b, rfl, f4.st, fun H6 r ys f6 nr by6 ly => ?_⟩
      have nd6 := nd.st hst0 f6
      have f6' := f4.trans f6
      refine ⟨d, r, _, _, rfl, rfl, nd6.at_, nr.at_, ?_, fun t ht => ?_⟩
      · rw [iV_len, iV_len]
        exact Nat.le_trans (show xs.length + ys.length ≤ 100000 by omega) (by decide)
      rw [← iV_append]
      exact ⟨t, _, _, rfl, f6'.same (same_upd ht), ⟨f6'.free hst0 ht, upd_same⟩, bx.append by6, by rw [List.length_append]; omega⟩
    rintro σ H4 ⟨d, xs, y, rfl, f4, nd, bx, lx⟩
    have lx' : xs.length ≤ 10000 := by omega
    have st4 := f4.st
    have nds := hst0.na nd.new
    -- cut
    refine ⟨_, rfl, _, rfl, d, _, rfl, .inl (SqL.of nd.at_), _, _, rfl, rfl, st, b, _, rfl, st4, by omega, by rw [iV_len]; omega, fun cu H5 cu0 cu1 f5 => ?_⟩
    rw [iV_len] at cu1
    obtain ⟨ct, rfl⟩ : ∃ ct : Nat, cu = (ct : Int) := ⟨cu.toNat, by omega⟩
    have f15 := f4.trans f5
    have nd5 := nd.st hst0 f5
    have st5 := f15.st
    -- late
    refine ⟨_, rfl, _, rfl, _, rfl, d, _, rfl, SqL.of nd5.at_, fun d2 hd2 => ?_⟩
    rw [cut_n0, ← iV_drop]
    have s6 := same_upd (o := .lst (iV (xs.drop ct))) hd2
    have hD6 := s6 _ _ nd5.at_
    have hL6 : (upd H5 d2 (.lst (iV (xs.drop ct)))) d2 = some (.lst (iV (xs.drop ct))) := upd_same
    have by2 : By (xs.drop ct) := bx.drop ct
    have ly2 : (xs.drop ct).length ≤ 10000 := by rw [List.length_drop]; omega
    generalize eys : xs.drop ct = ys at hL6 by2 ly2 s6 hD6 ⊢
    have nd2s := st5.na hd2
    have st6 := st5.same s6
    generalize upd H5 d2 (.lst (iV ys)) = H6 at s6 hD6 hL6 st6 ⊢
    -- whole
    refine ⟨_, rfl, d, _, rfl, .inl (SqL.of hD6), fun g1 hg1 => ?_⟩
    have s7 := same_upd (o := .lst (iV xs)) hg1
    have hG7 : (upd H6 g1 (.lst (iV xs))) g1 = some (.lst (iV xs)) := upd_same
    generalize upd H6 g1 (.lst (iV xs)) = H7 at s7 hG7 ⊢
    refine ⟨g1, xs, rfl, .inl hG7, bx, Nat.le_trans lx' (by decide), fun H8 w1 ww1 s8 hw1 hW1 hT1 => ?_⟩
    have s68 := s7.trans s8
    have hT1' : Tls H6 H8 (unstr xs) ww1 := (hT1.old fun c h => (upd_none h).2).old fun c h => s7.free h
    have nw1 := st6.na (s7.free hw1)
    refine ⟨_, rfl, d2, _, rfl, .inl (SqL.of (s68 _ _ hL6)), fun g2 hg2 => ?_⟩
    have s9 := same_upd (o := .lst (iV ys)) hg2
    have hG9 : (upd H8 g2 (.lst (iV ys))) g2 = some (.lst (iV ys)) := upd_same
    generalize upd H8 g2 (.lst (iV ys)) = H9 at s9 hG9 ⊢
    refine ⟨g2, ys, rfl, .inl hG9, by2, Nat.le_trans ly2 (by decide), fun H10 w2 ww2 s10 hw2 hW2 hT2 => ?_⟩
    have s610 := s68.trans (s9.trans s10)
    have hT2' : Tls H6 H10 (unstr ys) ww2 := (hT2.old fun c h => (upd_none h).2).old fun c h => (s68.trans s9).free h
    have nw2 := st6.na ((s68.trans s9).free hw2)
    have hW1' := (s9.trans s10) _ _ hW1
    have hT1'' := hT1'.same (s9.trans s10)
    refine ⟨_, rfl, d, xs, rfl, s610 _ _ hD6, bx, Nat.le_trans lx' (by decide), fun H11 e1 s11 nE1 => ?_⟩
    have ne1 := st6.na (s610.free nE1.new)
    refine ⟨_, rfl, d2, ys, rfl, (s610.trans s11) _ _ hL6, by2, Nat.le_trans ly2 (by decide), fun H12 e2 s12 nE2 => ?_⟩
    have s612 := s610.trans (s11.trans s12)
    have ne2 := st6.na ((s610.trans s11).free nE2.new)
    have hE1 := s12 _ _ nE1.at_
    have hE2 := nE2.at_
    have hW1q := (s11.trans s12) _ _ hW1'
    have hW2q := (s11.trans s12) _ _ hW2
    have hT1q := hT1''.same (s11.trans s12)
    have hT2q := hT2'.same (s11.trans s12)
    have hDq := s612 _ _ hD6
    have hLq := s612 _ _ hL6
    have st12 := st6.same s612
    -- the feeders
    intro p1 dx1 np1 ndx1 nex1
    have t1 : Same H12 (upd (upd H12 dx1 (.own p1)) p1 (.ins C dx1 [])) := fun b o e => by
      rw [upd_ne (ne_of_none e np1), upd_ne (ne_of_none e ndx1)]
      exact e
    refine ⟨p1, dx1, rfl, upd_same, fun H13 l1 k13 hl1 hF1 => ⟨rfl, ?_⟩⟩
    have t13 : Same H12 H13 := fun b o e => k13 b o (ne_of_none e np1) (t1 _ _ e)
    have hl10 : H12 l1 = none := t1.free hl1
    intro p2 dx2 np2 ndx2 nex2
    have t2 : Same H13 (upd (upd H13 dx2 (.own p2)) p2 (.ins C dx2 [])) := fun b o e => by
      rw [upd_ne (ne_of_none e np2), upd_ne (ne_of_none e ndx2)]
      exact e
    refine ⟨p2, dx2, rfl, upd_same, fun H14 l2 k14 hl2 hF2 => ⟨rfl, ?_⟩⟩
    have t14 : Same H13 H14 := fun b o e => k14 b o (ne_of_none e np2) (t2 _ _ e)
    have t1214 := t13.trans t14
    have hl20 : H13 l2 = none := t2.free hl2
    have hF1q := hF1.keep t14
    have st14 := st12.same t1214
    obtain ⟨dxa, ha1, ha2⟩ := id hF1
    have n12 : l1 ≠ l2 := fun w => by rw [w, hl20] at ha2; cases ha2
    have np12 : p1 ≠ p2 := fun w => by rw [w, np2] at ha1; cases ha1
    have hp20 : H12 p2 = none := t13.free np2
    have hl20' : H12 l2 = none := t13.free hl20
    have hTT : ∀ c ∈ [st, b, p1, l1, p2, l2], c = st ∨ c = b ∨ H12 c = none := by
      intro c hc
      simp only [List.mem_cons, List.not_mem_nil, or_false] at hc
      rcases hc with rfl | rfl | rfl | rfl | rfl | rfl
      · exact .inl rfl
      · exact .inr (.inl rfl)
      · exact .inr (.inr np1)
      · exact .inr (.inr hl10)
      · exact .inr (.inr hp20)
      · exact .inr (.inr hl20')
    have sa : ∃ o, H6 st = some o := by
      obtain ⟨_, _, _, _, _, h, _⟩ := st6
      exact ⟨_, h⟩
    have sb : ∃ o, H6 b = some o := by
      obtain ⟨_, _, _, _, _, _, h⟩ := st6
      exact ⟨_, h⟩
    have FA1 : FedAt C st b p1 l1 d w1 e1 xs ww1 (HoT H6 [st, b, p1, l1, p2, l2]) H14 0 [st, b, p1, l1, p2, l2] := fed0 st14 hF1q bx lx' hDq hW1q hT1q hE1 t1214 (by simp) (by simp) (by simp) (by simp) hTT sa sb nds nw1 ne1 (st12.na hl10)
    have FA2 : FedAt C st b p2 l2 d2 w2 e2 ys ww2 (HoT H6 [st, b, p1, l1, p2, l2]) H14 0 [st, b, p1, l1, p2, l2] := fed0 st14 hF2 by2 ly2 hLq hW2q hT2q hE2 t1214 (by simp) (by simp) (by simp) (by simp) hTT sa sb nd2s nw2 ne2 (st12.na hl20')
    have base : ∃ (TT : List Addr) (H0 : Hp) (k1 k2 : Nat) (l1 l2 : Addr), FedAt C st b p1 l1 d w1 e1 xs ww1 H0 H14 k1 TT ∧ FedAt C st b p2 l2 d2 w2 e2 ys ww2 H0 H14 k2 TT ∧ l1 ≠ l2 ∧ k1 = 0 ∧ k2 = 0 := ⟨_, _, _, _, _, _, FA1, FA2, n12, rfl, rfl⟩
    clear FA1 FA2 hTT n12 sa sb hF1q hl10 hF1 hl1 k13 hF2 hl2 k14 ha2 ha1 hl20 hl20'
    obtain ⟨TT0, H00, k10, k20, l10, l20, FA1, FA2, n12, rfl, rfl⟩ := base
    refine ⟨12, rfl, by decide, by decide, ?_⟩
    refine for_it (walk_range (lo := 0) (n := 12)) (fun i σ H' => ∃ (y : Option V) (TT : List Addr) (H0 : Hp) (k1 k2 : Nat) (l1 l2 : Addr), σ = [some (.ref a), some (.ref st), some (.ref d), y, some (.int (ct : Nat)), some (.ref d2), some (.ref w1), some (.ref w2), some (.ref e1), some (.ref e2), some (.ref p1), some (.ref p2), some (.int (k1 : Nat)), some (.int (k2 : Nat)), none] ∧
        FedAt C st b p1 l1 d w1 e1 xs ww1 H0 H' k1 TT ∧ FedAt C st b p2 l2 d2 w2 e2 ys ww2 H0 H' k2 TT ∧ l1 ≠ l2)
      ⟨y, TT0, H00, 0, 0, l10, l20, rfl, FA1, FA2, n12⟩ (fun _ _ _ _ _ => trivial) ?_ ?_
    · rintro i x σ H15 H16 hi ⟨y, TT, H0, k1, k2, l1, l2, rfl, FA1, FA2, n12⟩ ⟨rfl, rfl⟩
      refine ⟨_, rfl, _, rfl, _, rfl, _, rfl, _, rfl, _, rfl, st, b, p1, l1, d, w1, e1, xs, ww1, H0, k1, TT, rfl, FA1, fun H17 m1 j1 c1 i1 g1 hm1 hj1 => ?_⟩
      have nm1 : m1 ≠ l2 := by
        rcases hm1 with w | w
        · rw [w]
          exact n12
        · intro w2
          obtain ⟨_, _, h⟩ := FA2.fd
          rw [← w2, w] at h
          cases h
      have FB1 := FA1.step c1 i1 g1 hm1 hj1
      have FB2 := FA2.other c1 i1 FA1.ip FA1.il FA1.fd hm1 np12.symm n12.symm
      refine ⟨_, rfl, _, rfl, _, rfl, _, rfl, _, rfl, _, rfl, st, b, p2, l2, d2, w2, e2, ys, ww2, _, k2, _, rfl, FB2, fun H18 m2 j2 c2 i2 g2 hm2 hj2 => ?_⟩
      have nm2 : m1 ≠ m2 := by
        rcases hm2 with w | w
        · rw [w]
          exact nm1
        · intro w2
          obtain ⟨_, _, h⟩ := FB1.fd
          rw [w2, w] at h
          cases h
      have FC2 := FB2.step c2 i2 g2 hm2 hj2
      have FC1 := FB1.other c2 i2 FB2.ip FB2.il FB2.fd hm2 np12 nm1
      refine ⟨_, rfl, _, _, rfl, rfl, _, rfl, ?_⟩
      rw [decide_eq_false (show ¬ ((j1 : Int) < 0) by omega)]
      refine iteF ⟨_, rfl, _, _, rfl, rfl, _, rfl, ?_⟩
      rw [decide_eq_false (show ¬ ((j2 : Int) < 0) by omega)]
      exact iteF ⟨_, _, _, _, _, _, _, rfl, FC1, FC2, nm2⟩
    · rintro σ H15 ⟨y, TT, H0, k1, k2, l1, l2, rfl, FA1, FA2, n12⟩
      refine ⟨_, rfl, _, rfl, _, rfl, _, rfl, _, rfl, st, b, p1, l1, d, w1, e1, xs, ww1, H0, k1, TT, rfl, FA1, fun H17 m1 c1 i1 g1 hm1 => ⟨true, rfl, ?_⟩⟩
      have nm1 : m1 ≠ l2 := by
        rcases hm1 with w | w
        · rw [w]
          exact n12
        · intro w2
          obtain ⟨_, _, h⟩ := FA2.fd
          rw [← w2, w] at h
          cases h
      have FB1 := FA1.step (k' := 0) c1 i1 g1 hm1 (Nat.zero_le _)
      have FB2 := FA2.other c1 i1 FA1.ip FA1.il FA1.fd hm1 np12.symm n12.symm
      refine iteF ⟨_, rfl, _, rfl, _, rfl, _, rfl, _, rfl, st, b, p2, l2, d2, w2, e2, ys, ww2, _, k2, _, rfl, FB2, fun H18 m2 c2 i2 g2 hm2 => ⟨true, rfl, ?_⟩⟩
      have nm2 : m1 ≠ m2 := by
        rcases hm2 with w | w
        · rw [w]
          exact nm1
        · intro w2
          obtain ⟨_, _, h⟩ := FB1.fd
          rw [w2, w] at h
          cases h
      have FC2 := FB2.step (k' := 0) c2 i2 g2 hm2 (Nat.zero_le _)
      have FC1 := FB1.other c2 i2 FB2.ip FB2.il FB2.fd hm2 np12 nm1
      refine iteF ?_
      obtain ⟨dx3, hp3, hl3⟩ := id FC1.fd
      refine ⟨_, rfl, p1, dx3, _, rfl, hp3, fd_no _ _ (by decide +kernel) (by decide +kernel), _, rfl, _, rfl, _, rfl, d, _, rfl, SqL.of FC1.hD, fun pc hpc => ?_⟩
      rw [cut_0n, ← iV_take]
      have s19 := same_upd (o := .lst (iV (xs.take ct))) hpc
      have FD1 := FC1.same s19
      have FD2 := FC2.same s19
      have hPC : (upd H18 pc (.lst (iV (xs.take ct)))) pc = some (.lst (iV (xs.take ct))) := upd_same
      generalize upd H18 pc (.lst (iV (xs.take ct))) = H19 at s19 FD1 FD2 hPC ⊢
      have npm : pc ≠ m1 := fun w => by rw [w, hl3] at hpc; cases hpc
      have lcu : (xs.take ct).length ≤ 10000 := by rw [List.length_take]; omega
      refine feed_done (E' := E) (fun _ _ h => ⟨_, rfl, h⟩) FD1.fd (.inl hPC) npm (bx.take ct) lcu fun H20 m3 r ws k20 fd20 hm3 hR20 hT20 => ?_
      obtain ⟨ch20, is20⟩ := FD1.chg k20
      have nm3 : m3 ≠ m2 := by
        rcases hm3 with w | w
        · rw [w]
          exact nm2
        · intro w2
          obtain ⟨_, _, h⟩ := FD2.fd
          rw [← w2, w] at h
          cases h
      have FE1 := FD1.step (k' := 0) ch20 is20 fd20 hm3 (Nat.zero_le _)
      have FE2 := FD2.other ch20 is20 FD1.ip FD1.il FD1.fd hm3 np12.symm nm2.symm
      -- early
      refine ⟨_, rfl, _, rfl, _, rfl, _, rfl, d, _, rfl, SqL.of FE1.hD, fun pe hpe => ?_⟩
      rw [cut_0n, ← iV_take]
      have s21 := same_upd (o := .lst (iV (xs.take ct))) hpe
      have hPE : (upd H20 pe (.lst (iV (xs.take ct)))) pe = some (.lst (iV (xs.take ct))) := upd_same
      generalize upd H20 pe (.lst (iV (xs.take ct))) = H21 at s21 hPE ⊢
      refine ⟨pe, xs.take ct, rfl, .inl hPE, bx.take ct, Nat.le_trans lcu (by decide), fun H22 r2 ws2 s22 hr2 hR22 hT22 => ?_⟩
      have s2022 := s21.trans s22
      refine ⟨_, _, .lst (SqL.of (s2022 _ _ hR20)) (hT20.same s2022).dp, .lst (SqL.of hR22) hT22.dp, sh_tells _, sh_tells _, _, rfl, ?_⟩
      rw [tells_refl]
      refine iteF ?_
      have FF1 := FE1.same s2022
      have FF2 := FE2.same s2022
      -- the late one by the first feeder
      obtain ⟨dx4, hp4, hl4⟩ := id FF1.fd
      have nd2m : d2 ≠ m3 := fun w => FF2.oD (w ▸ FF1.il)
      refine ⟨_, rfl, p1, dx4, _, rfl, hp4, fd_no _ _ (by decide +kernel) (by decide +kernel), _, rfl, ?_⟩
      refine feed_done (E' := E) (fun _ _ h => ⟨_, rfl, h⟩) FF1.fd (.inl FF2.hD) nd2m by2 ly2 fun H23 m4 r3 ws3 k23 fd23 hm4 hR23 hT23 => ?_
      obtain ⟨ch23, is23⟩ := FF1.chg k23
      have nm4 : m4 ≠ m2 := by
        rcases hm4 with w | w
        · rw [w]
          exact nm3
        · intro w2
          obtain ⟨_, _, h⟩ := FF2.fd
          rw [← w2, w] at h
          cases h
      have FG1 := FF1.step (k' := 0) ch23 is23 fd23 hm4 (Nat.zero_le _)
      have FG2 := FF2.other ch23 is23 FF1.ip FF1.il FF1.fd hm4 np12.symm nm3.symm
      refine ⟨_, rfl, _, _, .lst (SqL.of hR23) hT23.dp, .lst (SqL.of FG2.hW) FG2.hT.dp, sh_tells _, sh_tells _, ?_⟩
      rw [tells_refl]
      refine ⟨true, rfl, iteT ?_⟩
      obtain ⟨dx5, hp5, hl5⟩ := id FG2.fd
      have ndm : d ≠ m2 := fun w => FG1.oD (w ▸ FG2.il)
      refine ⟨_, rfl, p2, dx5, _, rfl, hp5, fd_no _ _ (by decide +kernel) (by decide +kernel), _, rfl, ?_⟩
      refine feed_done (E' := E) (fun _ _ h => ⟨_, rfl, h⟩) FG2.fd (.inl FG1.hD) ndm bx lx' fun H24 m5 r4 ws4 k24 fd24 hm5 hR24 hT24 => ?_
      obtain ⟨ch24, is24⟩ := FG2.chg k24
      have FH1 := FG1.other ch24 is24 FG2.ip FG2.il FG2.fd hm5 np12 nm4
      refine ⟨_, rfl, _, _, .lst (SqL.of hR24) hT24.dp, .lst (SqL.of FH1.hW) FH1.hT.dp, sh_tells _, sh_tells _, ?_⟩
      rw [tells_refl]
      exact q _
end
end K54
namespace K54
open PySem PySem.Spec PyProof.Rows L2 Tw Sb
theorem all_mk {l : PySem.W.OpenLaw} {w : World} {K : PySem.W.Frag} {h : Heap} {mg : Str → Option Value} {fa C_Feeder C_NoBytes C_WireError fI : Addr} {t_LAST_BYTE t_LONGEST_RUN t_CHECK_BYTES t_CHECK_RANGE : Tok} (X : K.In h) (G : h.Ns mainGlobals mg) (hfa : mg "law" = some (.ref fa))
    (d_is_whole : DefIn K "is_whole" s_is_whole)
    (d_is_row : DefIn K "is_row" s_is_row)
    (d_is_bytes : DefIn K "is_bytes" s_is_bytes)
    (d_streamed : DefIn K "streamed" s_streamed)
    (d_unstreamed : DefIn K "unstreamed" s_unstreamed)
    (d__refuse_others : DefIn K "_refuse_others" s__refuse_others)
    (d__zeros : DefIn K "_zeros" s__zeros)
    (d__check : DefIn K "_check" s__check)
    (d__without_zeros : DefIn K "_without_zeros" s__without_zeros)
    (d__with_zeros : DefIn K "_with_zeros" s__with_zeros)
    (d__read_piece : DefIn K "_read_piece" s__read_piece)
    (d__law_take : DefIn K "_law_take" s__law_take)
    (d__law_block : DefIn K "_law_block" s__law_block)
    (d__law_ended : DefIn K "_law_ended" s__law_ended)
    (d__law_wrong : DefIn K "_law_wrong" s__law_wrong)
    (d__law_refused : DefIn K "_law_refused" s__law_refused)
    (d__law_fed : DefIn K "_law_fed" s__law_fed)
    (d__law_rest : DefIn K "_law_rest" s__law_rest)
    (d_law : DefIn K "law" s_law)
    (cl_Feeder : ClIn K C_Feeder "Feeder")
    (m_Feeder___init__ : MethIn K C_Feeder "__init__" "Feeder.__init__" s_Feeder___init__)
    (m_Feeder_feed : MethIn K C_Feeder "feed" "Feeder.feed" s_Feeder_feed)
    (m_Feeder_done : MethIn K C_Feeder "done" "Feeder.done" s_Feeder_done)
    (m_NoBytes___init__ : MethIn K C_NoBytes "__init__" "NoBytes.__init__" s_NoBytes___init__)
    (na_Feeder_rest : PySem.W.findIn K (.ref C_Feeder) "rest" = some none)
    (na_Feeder_place : PySem.W.findIn K (.ref C_Feeder) "place" = some none)
    (na_NoBytes_why : PySem.W.findIn K (.ref C_NoBytes) "why" = some none)
    (g_LAST_BYTE : PySem.W.nsIn K mainGlobals "LAST_BYTE" = some (some (.int 255 t_LAST_BYTE)))
    (g_LONGEST_RUN : PySem.W.nsIn K mainGlobals "LONGEST_RUN" = some (some (.int 254 t_LONGEST_RUN)))
    (g_CHECK_BYTES : PySem.W.nsIn K mainGlobals "CHECK_BYTES" = some (some (.int 4 t_CHECK_BYTES)))
    (g_CHECK_RANGE : PySem.W.nsIn K mainGlobals "CHECK_RANGE" = some (some (.int 65521 t_CHECK_RANGE)))
    (z_isinstance : PySem.W.nsIn K mainGlobals "isinstance" = some none)
    (z_int : PySem.W.nsIn K mainGlobals "int" = some none)
    (z_bool : PySem.W.nsIn K mainGlobals "bool" = some none)
    (z_str : PySem.W.nsIn K mainGlobals "str" = some none)
    (z_list : PySem.W.nsIn K mainGlobals "list" = some none)
    (z_tuple : PySem.W.nsIn K mainGlobals "tuple" = some none)
    (z_len : PySem.W.nsIn K mainGlobals "len" = some none)
    (z_all : PySem.W.nsIn K mainGlobals "all" = some none)
    (z_sum : PySem.W.nsIn K mainGlobals "sum" = some none)
    (z_range : PySem.W.nsIn K mainGlobals "range" = some none)
    (z_zip : PySem.W.nsIn K mainGlobals "zip" = some none)
    (z_enumerate : PySem.W.nsIn K mainGlobals "enumerate" = some none)
    (e_iC : PySem.W.findIn K (.ref C_NoBytes) "__init__" = some (some (.ref fI)))
    (e_tI : PySem.W.typeIn K (.ref fI) = some (.type "function"))
    (e_g : PySem.W.nsIn K mainGlobals "NoBytes" = some (some (.ref C_NoBytes)))
    (e_gW : PySem.W.nsIn K mainGlobals "WireError" = some (some (.ref C_WireError)))
    (e_nV : PySem.W.nsIn K mainGlobals "ValueError" = some none)
    (e_cB : PySem.W.isClsIn K C_NoBytes = true)
    (e_tB : PySem.W.typeIn K (.ref C_NoBytes) = some (.type "type"))
    (e_sB : PySem.W.subIn K (.ref C_NoBytes) (.ref C_NoBytes) = some true)
    (e_xB : PySem.W.subIn K (.ref C_NoBytes) (.type "BaseException") = some true)
    (e_cW : PySem.W.isClsIn K C_WireError = true)
    (e_tW : PySem.W.typeIn K (.ref C_WireError) = some (.type "type"))
    (e_sW : PySem.W.subIn K (.ref C_NoBytes) (.ref C_WireError) = some true)
    (e_sV : PySem.W.subIn K (.ref C_NoBytes) (.type "ValueError") = some true)
    (oex : OexC K C_NoBytes)
    (xfc : XfC K C_NoBytes)
    (exc : ExcC K C_NoBytes) :
    ∃ fd : FuncData, (∀ (s : Shared) (v : Value), BindsTo s fd ⟨[v], []⟩ [("_law_script", v)]) ∧ ∀ base : Heap, K.In base → base.Ns mainGlobals mg → FnOk l.prog w K mg base CX0 7 fa fd ["_law_script"] (spLaw K) := by
  have T : Bt mg := bt_mk X G (by
    intro x hx
    simp only [List.mem_cons, List.not_mem_nil, or_false] at hx
    rcases hx with rfl | rfl | rfl | rfl | rfl | rfl | rfl | rfl | rfl | rfl | rfl | rfl
    · exact z_isinstance
    · exact z_int
    · exact z_bool
    · exact z_str
    · exact z_list
    · exact z_tuple
    · exact z_len
    · exact z_all
    · exact z_sum
    · exact z_range
    · exact z_zip
    · exact z_enumerate)
  obtain ⟨f, oc, od, an, osl, kV, dc, pm, cd, ct, a, lk, c, kp⟩ := d_law
  have e := hfa.symm.trans (PySem.W.mg_of X G a)
  cases e
  refine ⟨PySem.W.fnOf "law" "law" (defArgs s_law) (defBody s_law) (defScope s_law) .none kV dc pm an cd ct, fun s v => .of_eq rfl, fun base _ _ => ?_⟩
  have gB := gi_mk X G g_LAST_BYTE
  have gR := gi_mk X G g_CHECK_RANGE
  have c1 : Cal l.prog w K mg base 1 "is_whole" ["thing"] (spWhole K) := cal_mk d_is_whole X G (fun _ _ _ _ _ _ us hl => match us, hl with | [_], _ => rfl) fun f fd F => ok_is_whole F T
  have c2 : Cal l.prog w K mg base 1 "is_row" ["thing"] (spRow K) := cal_mk d_is_row X G (fun _ _ _ _ _ _ us hl => match us, hl with | [_], _ => rfl) fun f fd F => ok_is_row F T
  have c3 : Cal l.prog w K mg base 2 "is_bytes" ["thing"] spBytes := cal_mk d_is_bytes X G (fun _ _ _ _ _ _ us hl => match us, hl with | [_], _ => rfl) fun f fd F => ok_is_bytes F T gB c2 c1
  have c4 : Cal l.prog w K mg base 3 "_refuse_others" ["data"] spRefuse := cal_mk d__refuse_others X G (fun _ _ _ _ _ _ us hl => match us, hl with | [_], _ => rfl) fun f fd F => ok_refuse F T c3
  have c5 : Cal l.prog w K mg base 1 "_zeros" ["data"] spZeros := cal_mk d__zeros X G (fun _ _ _ _ _ _ us hl => match us, hl with | [_], _ => rfl) fun f fd F => ok_zeros F T
  have c6 : Cal l.prog w K mg base 1 "_check" ["part"] spCheck := cal_mk d__check X G (fun _ _ _ _ _ _ us hl => match us, hl with | [_], _ => rfl) fun f fd F => ok_check F T gR
  have cl : ClF K C_Feeder := ⟨cl_Feeder.cls, na_Feeder_rest, na_Feeder_place⟩
  have gL := gi_mk X G g_LONGEST_RUN
  have gC := gi_mk X G g_CHECK_BYTES
  have c7 : Cal l.prog w K mg base 1 "_with_zeros" ["piece"] spWithZ := cal_mk d__with_zeros X G (fun _ _ _ _ _ _ us hl => match us, hl with | [_], _ => rfl) fun f fd F => ok_with_zeros F T gL
  have c8 : Cal l.prog w K mg base 2 "_read_piece" ["place", "piece"] spRead := cal_mk d__read_piece X G (fun _ _ _ _ _ _ us hl => match us, hl with | [_, _], _ => rfl) fun f fd F => ok_read_piece F T gC c7 c6
  have m1 : MkC l.prog w K mg base C_Feeder 1 "Feeder" (spFInit C_Feeder) := mkC_mk X G cl_Feeder.g m_Feeder___init__ cl_Feeder.mks cl_Feeder.kc (fun _ _ _ _ _ _ us hl => match us, hl with | [_], _ => rfl) fun f fd F => ok_finit F cl
  have m2 : MCal l.prog w K mg base C_Feeder 4 "feed" ["self", "data"] (spFFeedR C_Feeder) := mcal_mk m_Feeder_feed (fun _ _ _ _ _ _ us hl => match us, hl with | [_, _], _ => rfl) fun f fd F => ok_feed F T cl c4 c5 c8
  have m3 : MCal l.prog w K mg base C_Feeder 1 "done" ["self"] (spFDone C_Feeder) := mcal_mk m_Feeder_done (fun _ _ _ _ _ _ us hl => match us, hl with | [_], _ => rfl) fun f fd F => ok_fdone F T cl
  have c9 : Cal l.prog w K mg base 5 "unstreamed" ["data"] spUnstR := cal_mk d_unstreamed X G (fun _ _ _ _ _ _ us hl => match us, hl with | [_], _ => rfl) fun f fd F => ok_unstreamed F cl m1 m2 m3
  have w1 : Cal l.prog w K mg base 2 "_without_zeros" ["whole"] spWz := cal_mk d__without_zeros X G (fun _ _ _ _ _ _ us hl => match us, hl with | [_], _ => rfl) fun f fd F => ok_without_zeros F T gL c5
  have w2 : Cal l.prog w K mg base 4 "streamed" ["parts"] spStrm := cal_mk d_streamed X G (fun _ _ _ _ _ _ us hl => match us, hl with | [_], _ => rfl) fun f fd F => ok_streamed F c4 w1 c6
  have e1 : Cal l.prog w K mg base 1 "_law_take" ["_law_state", "_law_many"] spTake := cal_mk d__law_take X G (fun _ _ _ _ _ _ us hl => match us, hl with | [_, _], _ => rfl) fun f fd F => ok_take F
  have N : NbC K mg "NoBytes" C_NoBytes fI := ⟨oex, PySem.W.mg_of X G e_g, e_iC, e_tI, na_NoBytes_why⟩
  have R : NbR K mg C_NoBytes C_WireError := ⟨xfc, exc, ⟨_, PySem.W.mg_of X G e_gW, rfl⟩, PySem.W.mg_none_of X G e_nV, Tw.exm_of e_xB e_cB e_tB e_sB, Tw.kit_ref e_cW e_tW e_sW, Tw.kit_bltn (by decide +kernel) e_sV⟩
  obtain ⟨fI1, oc1, od1, an1, osl1, kV1, dc1, pm1, cd1, ct1, a1, i1, l1, k1, kp1⟩ := m_NoBytes___init__
  have eI := N.iC.symm.trans a1
  cases eI
  have F1 := fun_mk (st := s_NoBytes___init__) l1 k1 kp1
  have b1 := F1.binds (ps := ["self", "why"]) (fun _ _ _ _ _ _ us hl => match us, hl with | [_, _], _ => rfl)
  have x1 : Cal l.prog w K mg base 2 "is_bytes" ["thing"] spBytesG := cal_mk d_is_bytes X G (fun _ _ _ _ _ _ us hl => match us, hl with | [_], _ => rfl) fun f fd F => ok_is_bytesG F T gB c2 c1
  have x2 : CalX l.prog w K mg base 3 "_refuse_others" ["data"] (spRefuseX C_NoBytes) := calX_mk d__refuse_others X G (fun _ _ _ _ _ _ us hl => match us, hl with | [_], _ => rfl) fun f fd F => ok_refuseX F T N (ok_nbinit F1 N) b1 x1
  have x3 : MCalX l.prog w K mg base C_Feeder 4 "feed" ["self", "data"] (spFeedX C_NoBytes) := mcalX_mk m_Feeder_feed (fun _ _ _ _ _ _ us hl => match us, hl with | [_, _], _ => rfl) fun f fd F => ok_feedX F T cl x2 c5 c8
  have e2 : Cal l.prog w K mg base 5 "_law_block" ["_law_state"] (spGen 1100) := cal_mk d__law_block X G (fun _ _ _ _ _ _ us hl => match us, hl with | [_], _ => rfl) fun f fd F => ok_block F T e1 w2
  have e3 : Cal l.prog w K mg base 1 "_law_ended" ["_law_data"] spEnded := cal_mk d__law_ended X G (fun _ _ _ _ _ _ us hl => match us, hl with | [_], _ => rfl) fun f fd F => ok_ended F T
  have e4 : Cal l.prog w K mg base 2 "_law_wrong" ["_law_state"] spWrong := cal_mk d__law_wrong X G (fun _ _ _ _ _ _ us hl => match us, hl with | [_], _ => rfl) fun f fd F => ok_wrong F T e1
  have e5 : Cal l.prog w K mg base 5 "_law_refused" ["_law_feeder", "_law_piece"] (spRefused C_Feeder) := cal_mk d__law_refused X G (fun _ _ _ _ _ _ us hl => match us, hl with | [_, _], _ => rfl) fun f fd F => ok_refused F T cl N R x3
  have e6 : Cal l.prog w K mg base 6 "_law_fed" ["_law_state", "_law_feeder", "_law_data", "_law_at", "_law_whole", "_law_ended_here"] (spFed C_Feeder) := cal_mk d__law_fed X G (fun _ _ _ _ _ _ us hl => match us, hl with | [_, _, _, _, _, _], _ => rfl) fun f fd F => ok_fed F T cl e1 e5 e4 m2
  have e7 : Cal l.prog w K mg base 5 "_law_rest" ["_law_feeder", "_law_data", "_law_at", "_law_whole", "_law_ended_here"] (spRest C_Feeder) := cal_mk d__law_rest X G (fun _ _ _ _ _ _ us hl => match us, hl with | [_, _, _, _, _], _ => rfl) fun f fd F => ok_rest F T cl m2 m3
  exact ok_law (fun_mk (st := s_law) lk c kp) T cl e1 e2 c9 e3 m1 m2 m3 e6 e7
end K54
open PySem PySem.W PyProof.Rows
set_option maxHeartbeats 0 in
theorem PySem.Challenge.cw_thingwires_k54_whole_fed_in_pieces_holds : PySem.Challenge.rw_thingwires_k54_whole_fed_in_pieces.Holds := by
  w_on; o_law; k_head; (case hw => w_witness2)
  k_fill
  refine L2.walk_of (l := PySem.Challenge.rw_thingwires_k54_whole_fed_in_pieces) (n := 63) (k := 7) (x := "_law_script") (CX := fun _ => L2.CX0) (sp := fun w => Tw.spLaw _) rfl (by decide) rfl ⟨rfl, by decide, by decide⟩ (fun w h Y => PySem.W.kIn_of Y) ?F (fun _ _ a ns hl _ hS => ⟨a, ns, rfl, hS, hl, fun _ => rfl⟩) (fun _ _ _ _ _ h => h)
  case F =>
    intro w mg fa h KX G hmg
    refine' K54.all_mk KX G hmg (Tw.defIn_mk ?twa0 ?twl0 ?twc0 ?twk0) (Tw.defIn_mk ?twa1 ?twl1 ?twc1 ?twk1) (Tw.defIn_mk ?twa2 ?twl2 ?twc2 ?twk2) (Tw.defIn_mk ?twa3 ?twl3 ?twc3 ?twk3) (Tw.defIn_mk ?twa4 ?twl4 ?twc4 ?twk4) (Tw.defIn_mk ?twa5 ?twl5 ?twc5 ?twk5) (Tw.defIn_mk ?twa6 ?twl6 ?twc6 ?twk6) (Tw.defIn_mk ?twa7 ?twl7 ?twc7 ?twk7) (Tw.defIn_mk ?twa8 ?twl8 ?twc8 ?twk8) (Tw.defIn_mk ?twa9 ?twl9 ?twc9 ?twk9) (Tw.defIn_mk ?twa10 ?twl10 ?twc10 ?twk10) (Tw.defIn_mk ?twa11 ?twl11 ?twc11 ?twk11) (Tw.defIn_mk ?twa12 ?twl12 ?twc12 ?twk12) (Tw.defIn_mk ?twa13 ?twl13 ?twc13 ?twk13) (Tw.defIn_mk ?twa14 ?twl14 ?twc14 ?twk14) (Tw.defIn_mk ?twa15 ?twl15 ?twc15 ?twk15) (Tw.defIn_mk ?twa16 ?twl16 ?twc16 ?twk16) (Tw.defIn_mk ?twa17 ?twl17 ?twc17 ?twk17) (Tw.defIn_mk ?twa18 ?twl18 ?twc18 ?twk18) (Tw.ClIn.mk ?twxg0 ?twxp0 ?twxh0 ?twxo0 ?twxs0 ?twxm0 ?twxk0) (Tw.methIn_mk ?twya0 ?twyi0 ?twyl0 ?twyc0 ?twyk0) (Tw.methIn_mk ?twya1 ?twyi1 ?twyl1 ?twyc1 ?twyk1) (Tw.methIn_mk ?twya2 ?twyi2 ?twyl2 ?twyc2 ?twyk2) (Tw.methIn_mk ?twya3 ?twyi3 ?twyl3 ?twyc3 ?twyk3) ?twn0 ?twn1 ?twn2 ?twg0 ?twg1 ?twg2 ?twg3 ?twz0 ?twz1 ?twz2 ?twz3 ?twz4 ?twz5 ?twz6 ?twz7 ?twz8 ?twz9 ?twz10 ?twz11 ?twe0 ?twe1 ?twe2 ?twe3 ?twe4 ?twe5 ?twe6 ?twe7 ?twe8 ?twe9 ?twe10 ?twe11 ?twe12 (Tw.oexC_mk ?tws0x0 ?tws0x1 ?tws0x2 ?tws0x3 ?tws0x4 ?tws0x5) (L2.XfC.mk ?tws1x0 ?tws1x1 ?tws1x2 ?tws1x3) (L2.ExcC.mk ?tws2x0 ?tws2x1 ?tws2x2 ?tws2x3 ?tws2x4 ?tws2x5 ?tws2x6 ?tws2x7)
    (case twe2 => k_is)
    (case twe3 => k_is)
    (case twe0 => k_is)
    (case twa0 => k_is)
    (case twl0 => k_is)
    (case twc0 => k_is)
    (case twk0 => k_is)
    (case twa1 => k_is)
    (case twl1 => k_is)
    (case twc1 => k_is)
    (case twk1 => k_is)
    (case twa2 => k_is)
    (case twl2 => k_is)
    (case twc2 => k_is)
    (case twk2 => k_is)
    (case twa3 => k_is)
    (case twl3 => k_is)
    (case twc3 => k_is)
    (case twk3 => k_is)
    (case twa4 => k_is)
    (case twl4 => k_is)
    (case twc4 => k_is)
    (case twk4 => k_is)
    (case twa5 => k_is)
    (case twl5 => k_is)
    (case twc5 => k_is)
    (case twk5 => k_is)
    (case twa6 => k_is)
    (case twl6 => k_is)
    (case twc6 => k_is)
    (case twk6 => k_is)
    (case twa7 => k_is)
    (case twl7 => k_is)
    (case twc7 => k_is)
    (case twk7 => k_is)
    (case twa8 => k_is)
    (case twl8 => k_is)
    (case twc8 => k_is)
    (case twk8 => k_is)
    (case twa9 => k_is)
    (case twl9 => k_is)
    (case twc9 => k_is)
    (case twk9 => k_is)
    (case twa10 => k_is)
    (case twl10 => k_is)
    (case twc10 => k_is)
    (case twk10 => k_is)
    (case twa11 => k_is)
    (case twl11 => k_is)
    (case twc11 => k_is)
    (case twk11 => k_is)
    (case twa12 => k_is)
    (case twl12 => k_is)
    (case twc12 => k_is)
    (case twk12 => k_is)
    (case twa13 => k_is)
    (case twl13 => k_is)
    (case twc13 => k_is)
    (case twk13 => k_is)
    (case twa14 => k_is)
    (case twl14 => k_is)
    (case twc14 => k_is)
    (case twk14 => k_is)
    (case twa15 => k_is)
    (case twl15 => k_is)
    (case twc15 => k_is)
    (case twk15 => k_is)
    (case twa16 => k_is)
    (case twl16 => k_is)
    (case twc16 => k_is)
    (case twk16 => k_is)
    (case twa17 => k_is)
    (case twl17 => k_is)
    (case twc17 => k_is)
    (case twk17 => k_is)
    (case twa18 => k_is)
    (case twl18 => k_is)
    (case twc18 => k_is)
    (case twk18 => k_is)
    (case twxg0 => k_is)
    (case twxp0 => k_is)
    (case twxh0 => k_is)
    (case twxo0 => k_is)
    (case twxs0 => k_is)
    (case twxm0 => k_is)
    (case twxk0 => k_is)
    (case twya0 => k_is)
    (case twyi0 => k_is)
    (case twyl0 => k_is)
    (case twyc0 => k_is)
    (case twyk0 => k_is)
    (case twya1 => k_is)
    (case twyi1 => k_is)
    (case twyl1 => k_is)
    (case twyc1 => k_is)
    (case twyk1 => k_is)
    (case twya2 => k_is)
    (case twyi2 => k_is)
    (case twyl2 => k_is)
    (case twyc2 => k_is)
    (case twyk2 => k_is)
    (case twya3 => k_is)
    (case twyi3 => k_is)
    (case twyl3 => k_is)
    (case twyc3 => k_is)
    (case twyk3 => k_is)
    (case twn0 => k_is)
    (case twn1 => k_is)
    (case twn2 => k_is)
    (case twg0 => k_is)
    (case twg1 => k_is)
    (case twg2 => k_is)
    (case twg3 => k_is)
    (case twz0 => k_is)
    (case twz1 => k_is)
    (case twz2 => k_is)
    (case twz3 => k_is)
    (case twz4 => k_is)
    (case twz5 => k_is)
    (case twz6 => k_is)
    (case twz7 => k_is)
    (case twz8 => k_is)
    (case twz9 => k_is)
    (case twz10 => k_is)
    (case twz11 => k_is)
    (case twe1 => k_is)
    (case twe4 => k_is)
    (case twe5 => k_is)
    (case twe6 => k_is)
    (case twe7 => k_is)
    (case twe8 => k_is)
    (case twe9 => k_is)
    (case twe10 => k_is)
    (case twe11 => k_is)
    (case twe12 => k_is)
    (case tws0x0 => k_is)
    (case tws0x1 => decide +kernel)
    (case tws0x2 => k_is)
    (case tws0x3 => k_is)
    (case tws0x4 => k_is)
    (case tws0x5 => k_is)
    (case tws1x0 => k_is)
    (case tws1x1 => k_is)
    (case tws1x2 => k_is)
    (case tws1x3 => k_is)
    (case tws2x0 => k_is)
    (case tws2x1 => k_is)
    (case tws2x2 => k_is)
    (case tws2x3 => k_is)
    (case tws2x4 => k_is)
    (case tws2x5 => k_is)
    (case tws2x6 => k_is)
    (case tws2x7 => k_is)
