import PyProof.Rows.All
import Wide.All
import OpenK.AllK
import Wide.FinOn
import HandS.ForMost
import HandS.IsInst
import HandS.Walk
import HandS.Defaults
import HandS.Codes
import PySem.Challenge.RW_thingwires_k01_names_apart
set_option Elab.async false
set_option linter.all false
set_option maxRecDepth 100000
/-! TwKit: what all our proofs share: defs that may be called, the well of numbers, frames. -/
namespace Tw
open PySem PySem.Spec PyProof.Rows L2

/-! ### a def of the text, as the top has left it -/
def DefIn (K : PySem.W.Frag) (x : Str) (st : Stmt) : Prop := ∃ (f : Addr) (oc : Value) (od an : Option Addr) (osl : Array (Option Value)) (kV dc pm cd ct : Value),
  PySem.W.nsIn K mainGlobals x = some (some (.ref f)) ∧ K.lookup f = some ⟨oc, od, .func (PySem.W.fnOf x x (defArgs st) (defBody st) (defScope st) .none kV dc pm an cd ct), osl⟩ ∧ PySem.W.codeIn K cd x = true ∧ PySem.W.keepIn K (.ref f) = true

section
variable {P : Program} {w : World} {K : PySem.W.Frag} {mg : Str → Option Value} {base : Heap}
theorem defIn_mk {x : Str} {st : Stmt} {f : Addr} {oc : Value} {od an : Option Addr} {osl : Array (Option Value)} {kV dc pm cd ct : Value} (a : PySem.W.nsIn K mainGlobals x = some (some (.ref f)))
    (l : K.lookup f = some ⟨oc, od, .func (PySem.W.fnOf x x (defArgs st) (defBody st) (defScope st) .none kV dc pm an cd ct), osl⟩) (c : PySem.W.codeIn K cd x = true) (k : PySem.W.keepIn K (.ref f) = true) : DefIn K x st :=
  ⟨f, oc, od, an, osl, kV, dc, pm, cd, ct, a, l, c, k⟩
/-- a def by its name: a promise that is kept, called by place -/
structure Cal (P : Program) (w : World) (K : PySem.W.Frag) (mg : Str → Option Value) (base : Heap) (k : Nat) (x : Str) (ps : List Str) (sp : Sp) : Prop where
  ex : ∃ (f : Addr) (fd : FuncData), FnOk P w K mg base CX0 k f fd ps sp ∧ mg x = some (.ref f) ∧ PySem.W.keepIn K (.ref f) = true ∧ Binds K fd ps []
/-- .. by keywords alone, in the order ks; gV puts their values into the parameters' order -/
structure CalK (P : Program) (w : World) (K : PySem.W.Frag) (mg : Str → Option Value) (base : Heap) (k : Nat) (x : Str) (n : Nat) (ks : List Str) (gV : List V → List V → List V) (sp : Sp) : Prop where
  ex : ∃ (f : Addr) (fd : FuncData) (ps : List Str) (g : List Value → List Value → List Value), FnOk P w K mg base CX0 k f fd ps sp ∧ mg x = some (.ref f) ∧ PySem.W.keepIn K (.ref f) = true ∧ KBn K fd ps n ks g gV

theorem cal_mk {x : Str} {st : Stmt} {ps : List Str} {k : Nat} {sp : Sp} {h : Heap} (D : DefIn K x st) (X : K.In h) (G : h.Ns mainGlobals mg)
    (b : ∀ (kV doc pm : Value) (an : Option Addr) (cdv ct : Value) (us : List Value), us.length = ps.length → bindArgs (PySem.W.fnOf x x (defArgs st) (defBody st) (defScope st) .none kV doc pm an cdv ct) ⟨us, []⟩ = pure (ps.zip us))
    (ok : ∀ (f : Addr) (fd : FuncData), Fun K x x st f fd → FnOk P w K mg base CX0 k f fd ps sp) : Cal P w K mg base k x ps sp := by
  obtain ⟨f, oc, od, an, osl, kV, dc, pm, cd, ct, a, l, c, kp⟩ := D
  have F := fun_mk (st := st) l c kp
  exact ⟨f, _, ok f _ F, PySem.W.mg_of X G a, kp, F.binds b⟩
theorem calK_mk {x : Str} {st : Stmt} {ps : List Str} {k n : Nat} {ks : List Str} {sp : Sp} {h : Heap} (g : {α : Type} → List α → List α → List α) (D : DefIn K x st) (X : K.In h) (G : h.Ns mainGlobals mg)
    (b : ∀ (kV doc pm : Value) (an : Option Addr) (cdv ct : Value) (us ws : List Value), us.length = n → ws.length = ks.length → bindArgs (PySem.W.fnOf x x (defArgs st) (defBody st) (defScope st) .none kV doc pm an cdv ct) ⟨us, ks.zip ws⟩ = pure (ps.zip (g us ws)))
    (hrel : ∀ {vs : List V} {us : List Value} {zs : List V} {ws : List Value}, Vals vs us → Vals zs ws → Vals (g vs zs) (g us ws))
    (ok : ∀ (f : Addr) (fd : FuncData), Fun K x x st f fd → FnOk P w K mg base CX0 k f fd ps sp) : CalK P w K mg base k x n ks g sp := by
  obtain ⟨f, oc, od, an, osl, kV, dc, pm, cd, ct, a, l, c, kp⟩ := D
  have F := fun_mk (st := st) l c kp
  exact ⟨f, _, ps, g, ok f _ F, PySem.W.mg_of X G a, kp, fun s us ws _ h1 h2 => .of_eq (b _ _ _ _ _ _ us ws h1 h2), hrel⟩
end

section
variable {X : Cx} {k j n : Nat} {x : Str} {ps ks : List Str} {sp : Sp} {gV : List V → List V → List V} {p pos : Pos} {e : Expr} {es : List Expr} {kws : List Keyword} {t tk : TA}
theorem pe_cal (c : Cal X.prog X.w X.K X.mg X.base k x ps sp) (hr : Room j X.A) (hk : k ≤ j) (hg : Gl X x) (ha : PA X (e :: es) t)
    (hdb : (x == ("__debug__" : Str)) = false := by decide) (he : starEach (e :: es) X.env = (false, eval e X.env) :: starEach es X.env := by rfl) (hpl : (backTo pos (starEach es X.env)).any (·.1) = false := by rfl) :
    PE X (.Call (.Name x p) (e :: es) [] pos) (tCall sp [] E0 t) := by
  obtain ⟨f, fd, F, hm, kp, b⟩ := c.ex
  exact pe_call F (hr.mono hk) hg hm kp b .nil pass0 ha hdb he hpl
theorem pe_cal0 (c : Cal X.prog X.w X.K X.mg X.base k x ps sp) (hr : Room j X.A) (hk : k ≤ j) (hg : Gl X x) (hdb : (x == ("__debug__" : Str)) = false := by decide) :
    PE X (.Call (.Name x p) [] [] pos) (tCall sp [] E0 tNil) := by
  obtain ⟨f, fd, F, hm, kp, b⟩ := c.ex
  exact pe_call0 F (hr.mono hk) hg hm kp b .nil pass0 hdb
/-- f(a, .., k = v, ..) -/
theorem pe_calN (c : CalK X.prog X.w X.K X.mg X.base k x n ks gV sp) (hr : Room j X.A) (hk : k ≤ j) (hg : Gl X x) (ha : PA X (e :: es) t) (hkw : PK X kws tk) (hall : (backToKw pos (keywordEach kws X.env)).all (·.1.isSome) = true := by rfl) (hks : (backToKw pos (keywordEach kws X.env)).filterMap (·.1) = ks := by rfl)
    (hdb : (x == ("__debug__" : Str)) = false := by decide) (he : starEach (e :: es) X.env = (false, eval e X.env) :: starEach es X.env := by rfl)
    (hpl : ((backTo pos (starEach (e :: es) X.env)).any (·.1) || (backToKw pos (keywordEach kws X.env)).any (·.1.isNone)) = false := by rfl) :
    PE X (.Call (.Name x p) (e :: es) kws pos) (tCallN n ks.length sp gV E0 t tk) := by
  obtain ⟨f, fd, ps, g, F, hm, kp, b⟩ := c.ex
  exact pe_callN F (hr.mono hk) hg hm kp b pass0 ha hkw hall hks hdb he hpl
/-- f(k = v, ..) -/
theorem pe_calN0 (c : CalK X.prog X.w X.K X.mg X.base k x 0 ks gV sp) (hr : Room j X.A) (hk : k ≤ j) (hg : Gl X x) (hkw : PK X kws tk) (hall : (backToKw pos (keywordEach kws X.env)).all (·.1.isSome) = true := by rfl) (hks : (backToKw pos (keywordEach kws X.env)).filterMap (·.1) = ks := by rfl)
    (hdb : (x == ("__debug__" : Str)) = false := by decide) (hpl : ((backTo pos (starEach [] X.env)).any (·.1) || (backToKw pos (keywordEach kws X.env)).any (·.1.isNone)) = false := by rfl) :
    PE X (.Call (.Name x p) [] kws pos) (tCallN 0 ks.length sp gV E0 tNil tk) := by
  obtain ⟨f, fd, ps, g, F, hm, kp, b⟩ := c.ex
  refine ⟨fun pins s σ H Q I h => ?_⟩
  refine wpAny_Call_Name_kw (ld_glob I hg hm ?_ hdb)
  refine PySem.W.callWith_KW0 (h₀ := X.base) I.ok.mod.kin kp hall ?_ hpl
  refine thn (hkw.run pos pins s σ H _ I h) fun ws s2 ⟨zs, H2, I2, rz, l1, l2, q2⟩ => ⟨I2.kIn, ?_⟩
  rw [hks]
  exact run_fnN (us := []) (vs := []) F (hr.mono hk) b pass0 I2 .nil rz rfl l2 q2
end

/-! ### heaps -/
theorem same_upd {H : Hp} {p : Addr} {o : HO} (h : H p = none) : Same H (upd H p o) := fun b x e => by
  rw [upd_ne (ne_of_none e h)]
  exact e
theorem Same.tupq {K : PySem.W.Frag} {H H' : Hp} {a : Addr} {xs : List V} (e : Same H H') (h : SqT K H a xs) : SqT K H' a xs := by
  rcases h with (h | ⟨o, h⟩) | h
  · exact .inl (.inl (e _ _ h))
  · exact .inl (.inr ⟨o, e _ _ h⟩)
  · exact .inr h

/-- the well at a: a list of three numbers -/
def IsWl (H : Hp) (a : Addr) : Prop := ∃ x y z : Int, H a = some (.lst [.int x, .int y, .int z])
/-- all but the well at a stays; that is a well again -/
def Fw (a : Addr) (H H' : Hp) : Prop := (∀ b o, b ≠ a → H b = some o → H' b = some o) ∧ IsWl H' a
theorem IsWl.same {H H' : Hp} {a : Addr} (h : IsWl H a) (s : Same H H') : IsWl H' a := by
  obtain ⟨x, y, z, e⟩ := h
  exact ⟨x, y, z, s _ _ e⟩
theorem Fw.refl {H : Hp} {a : Addr} (h : IsWl H a) : Fw a H H := ⟨fun _ _ _ e => e, h⟩
theorem Fw.trans {a : Addr} {H H1 H2 : Hp} (f : Fw a H H1) (g : Fw a H1 H2) : Fw a H H2 := ⟨fun b o n e => g.1 b o n (f.1 b o n e), g.2⟩
theorem Fw.same {a : Addr} {H H1 H2 : Hp} (f : Fw a H H1) (g : Same H1 H2) : Fw a H H2 := ⟨fun b o n e => g b o (f.1 b o n e), f.2.same g⟩
theorem Fw.of_same {a : Addr} {H H1 : Hp} (h : IsWl H a) (g : Same H H1) : Fw a H H1 := (Fw.refl h).same g
theorem Fw.free {a : Addr} {H H' : Hp} (f : Fw a H H') (h : IsWl H a) {p : Addr} (e : H' p = none) : H p = none := by
  cases q : H p with
  | none => rfl
  | some o =>
    by_cases hp : p = a
    · subst hp
      obtain ⟨_, _, _, z⟩ := f.2
      rw [z] at e
      cases e
    · rw [f.1 p o hp q] at e
      cases e
theorem IsWl.ne {H : Hp} {a p : Addr} (h : IsWl H a) (e : H p = none) : p ≠ a := fun q => by
  obtain ⟨_, _, _, z⟩ := h
  rw [q, z] at e
  cases e
/-- the draw's promise: any number below many -/
def spDraw : Sp := fun vs H Q _ => ∃ (a : Addr) (m : Int), vs = [.ref a, .int m] ∧ IsWl H a ∧ 0 < m ∧ m < 1073741824 ∧ ∀ (r : Int) (H' : Hp), 0 ≤ r → r < m → Fw a H H' → Q (.int r) H'

theorem iteB {c : Bool} {A B : Prop} (h1 : c = true → A) (h2 : c = false → B) : if c = true then A else B := by
  cases c
  · exact iteF (h2 rfl)
  · exact iteT (h1 rfl)

/-! ### plain texts -/
/-- a text of at most n signs below 128 -/
structure Asc (n : Nat) (z : Str) : Prop where
  le : z.length ≤ n
  lt : ∀ c ∈ z.cps.toList, c < 128
theorem len_toList (z : Str) : z.length = z.cps.toList.length := by
  show z.cps.size = _
  simp
theorem Asc.mono {m n : Nat} {z : Str} (h : Asc m z) (e : m ≤ n) : Asc n z := ⟨Nat.le_trans h.le e, h.lt⟩
theorem Asc.nil {n : Nat} : Asc n ⟨#[]⟩ := ⟨Nat.zero_le _, fun c h => by simp at h⟩
theorem Asc.one {c : Nat} (h : c < 128) : Asc 1 ⟨#[c]⟩ := ⟨Nat.le_refl _, fun d hd => by
  have e : d = c := by simpa using hd
  omega⟩
theorem toList_append (a b : Str) : (a ++ b).cps.toList = a.cps.toList ++ b.cps.toList := TL.tl_append a b
theorem Asc.append {m n : Nat} {a b : Str} (ha : Asc m a) (hb : Asc n b) : Asc (m + n) (a ++ b) := by
  refine ⟨?_, fun c hc => ?_⟩
  · have h1 := ha.le
    have h2 := hb.le
    rw [len_toList] at h1 h2 ⊢
    rw [toList_append, List.length_append]
    omega
  · rw [toList_append] at hc
    rcases List.mem_append.mp hc with h | h
    · exact ha.lt c h
    · exact hb.lt c h
theorem Asc.cut {n : Nat} {a : Str} (ha : Asc n a) (lo hi : Option Int) : Asc n (cutS a lo hi) := by
  refine ⟨Nat.le_trans (cutS_length a lo hi) ha.le, fun c hc => ha.lt c ?_⟩
  have e : c ∈ (a.cps.toList.drop (HT.sIx a.length 0 lo)).take (HT.sIx a.length a.length hi - HT.sIx a.length 0 lo) := hc
  exact List.mem_of_mem_drop (List.mem_of_mem_take e)
theorem Asc.ok {n : Nat} {z : Str} (h : Asc n z) : PyData.strOk z = true := by
  unfold PyData.strOk
  rw [← Array.all_toList, List.all_eq_true]
  intro c hc
  exact decide_eq_true (Nat.lt_trans (h.lt c hc) (by decide))
theorem asc_toList {l : List Nat} {n : Nat} (h : l.length ≤ n) (k : ∀ c ∈ l, c < 128) : Asc n ⟨l.toArray⟩ := ⟨by rw [len_toList]; simpa using h, fun c hc => k c (by simpa using hc)⟩
/-- written texts -/
def ascB (n : Nat) (z : Str) : Bool := decide (z.length ≤ n) && z.cps.toList.all fun c => decide (c < 128)
theorem Asc.of {n : Nat} {z : Str} (h : ascB n z = true) : Asc n z := by
  unfold ascB at h
  simp only [Bool.and_eq_true, decide_eq_true_eq, List.all_eq_true] at h
  exact ⟨h.1, h.2⟩
theorem Asc.at {n : Nat} {z : Str} (h : Asc n z) {i : Nat} (hi : i < z.length) : ∃ c, atI z.cps.toList (i : Int) = some c ∧ c < 128 := by
  have e : i < z.cps.toList.length := by rw [← len_toList]; exact hi
  exact ⟨z.cps.toList[i], atI_nat (List.getElem?_eq_getElem e), h.lt _ (List.getElem_mem e)⟩
theorem Asc.atZ {n : Nat} {z : Str} (h : Asc n z) {i : Int} (h0 : 0 ≤ i) (hi : i < z.length) : ∃ c, atI z.cps.toList i = some c ∧ c < 128 := by
  obtain ⟨c, e, l⟩ := h.at (i := i.toNat) (by omega)
  rw [Int.toNat_of_nonneg h0] at e
  exact ⟨c, e, l⟩
end Tw
namespace K01
open PySem PySem.Spec PyProof.Rows L2 Tw
def topS (i : Nat) : Stmt := PySem.Challenge.pw_thingwires_k01_names_apart.main.body.getD i (.Pass ⟨0, 0, 0, 0⟩)
abbrev s_is_name : Stmt := topS 3
abbrev N_is_name : List Str := ["thing", "letter"]
theorem sc_is_name : FnScope N_is_name ["thing"] (defScope s_is_name) := ⟨rfl, rfl, rfl, by decide +kernel, rfl, by decide +kernel, by decide +kernel⟩
abbrev s__law_due : Stmt := topS 8
abbrev N__law_due : List Str := ["_law_word", "_law_sign"]
theorem sc__law_due : FnScope N__law_due ["_law_word"] (defScope s__law_due) := ⟨rfl, rfl, rfl, by decide +kernel, rfl, by decide +kernel, by decide +kernel⟩

def alpha : Str := "abcdefghijklmnopqrstuvwxyz"
structure Txt (mg : Str → Option Value) : Prop where
  n_isinstance : mg "isinstance" = none
  n_str : mg "str" = none
  n_bool : mg "bool" = none
  n_len : mg "len" = none
  n_all : mg "all" = none
  n_int : mg "int" = none
  n_range : mg "range" = none
  g_LETTERS : ∃ u, mg "LETTERS" = some u ∧ RelV (.str alpha) u
  g_MOST : ∃ u, mg "MOST_LETTERS" = some u ∧ RelV (.int 8) u

def isLow (c : Nat) : Bool := decide (97 ≤ c ∧ c ≤ 122)
def isNm (z : Str) : Bool := decide (1 ≤ z.length) && decide (z.length ≤ 8) && z.cps.toList.all isLow
def nmV : V → Bool
  | .str z => isNm z
  | _ => false
theorem mem_alpha (c : Nat) : decide (c ∈ alpha.cps.toList) = isLow c := by
  have e : alpha.cps.toList = (List.range 26).map (· + 97) := by decide +kernel
  rw [e]
  unfold isLow
  simp only [List.mem_map, List.mem_range]
  by_cases h : 97 ≤ c ∧ c ≤ 122
  · rw [decide_eq_true h]
    exact decide_eq_true ⟨c - 97, by omega, by omega⟩
  · rw [decide_eq_false h]
    refine decide_eq_false ?_
    rintro ⟨a, h1, h2⟩
    omega

/-- what both are asked of: any value whose kind is known; a text of at most a thousand signs -/
def spName (K : PySem.W.Frag) : Sp := fun vs H Q _ => ∃ (v : V) (t : Value) (b : Bool), vs = [v] ∧ TyX K H v t ∧ PySem.W.kitOne K t (.type "str") = some b ∧ (b = true → ∃ z, v = .str z ∧ Asc 1000 z) ∧ (b = false → nmV v = false) ∧ ∀ H', Same H H' → Q (.bl (nmV v)) H'

section
variable {P : Program} {w : World} {K : PySem.W.Frag} {mg : Str → Option Value} {base : Heap}
theorem ok_is_name {f : Addr} {fd : FuncData} (F : Fun K "is_name" "is_name" s_is_name f fd) (T : Txt mg) : FnOk P w K mg base CX0 1 f fd ["thing"] (spName K) := by
  refine F.ok sc_is_name (fun vs H Q E h => ?_) (fun cdv A outer s H vs Q E hr h => ?_)
  · obtain ⟨v, t, b, rfl, _⟩ := h
    rfl
  · obtain ⟨v, t, b, rfl, hT, hk, h1, h0, q⟩ := h
    refine ⟨_, (pss_cons (ps_if (PW.pt (pw_or (pt_not (pt_val (pe_callB call_isi (by rfl) T.n_isinstance (by decide +kernel) (pa_cons (pv 0) (pa_cons (pe_bltn (v := .ty "str") rfl T.n_str (by decide +kernel) rfl) pa_nil))))) (pw_or1 (pt_not (pt_chain op_le op_le pe_int (pe_callB call_len_str (by rfl) T.n_len (by decide +kernel) (pa_cons (pv 0) pa_nil)) (C8.pe_gc rfl T.g_MOST))))))
        (pss_one (ps_ret pe_bl))
        pss_nil)
      (pss_one (ps_ret (pe_callB (cr_all rfl) (by rfl) T.n_all (by decide +kernel) (pa_cons (pe_lc (own := [("letter", 1)]) rfl sc_is_name.nd (pi_str (pv 0)) (blkOk_by (N := N_is_name) (sc := defScope s_is_name) (by decide +kernel)) (fun _ _ _ _ _ => (pg_name (i := 1) sc_is_name.nd rfl (.inl rfl))) (fun _ _ _ _ _ => pts_nil) (fun _ _ _ _ _ => (pe_cmpR op_in_sign (pv 1) (C8.pe_gc rfl T.g_LETTERS) (by rfl)))) pa_nil))))), ?_⟩
    refine ⟨v, rfl, v, .ty "str", t, .type "str", b, rfl, .ty "str", hT, hk, b, rfl, ?_⟩
    cases b with
    | false =>
      refine iteT ?_
      have e := h0 rfl
      rw [e] at q
      exact q _ (Same.refl _)
    | true =>
      obtain ⟨z, rfl, hz⟩ := h1 rfl
      have hzl : z.length ≤ sizeLine := Nat.le_trans hz.le (by decide)
      refine iteF ?_
      refine ⟨.str z, rfl, z, rfl, hzl, 1, (z.length : Int), rfl, rfl, _, rfl, ?_⟩
      refine ite2 (fun g1 => ?_) (fun g1 => ?_)
      · refine ⟨_, _, rfl, rfl, _, rfl, ?_⟩
        refine ite2 (fun g2 => ?_) (fun g2 => ?_)
        · have e8 : ¬ (z.length : Int) ≤ 8 := by simpa using g2
          have e : nmV (.str z) = false := by
            show isNm z = false
            unfold isNm
            rw [decide_eq_false (show ¬ z.length ≤ 8 by omega)]
            simp
          rw [e] at q
          exact q _ (Same.refl _)
        · have e8 : (z.length : Int) ≤ 8 := by simpa using g2
          have e1 : 1 ≤ (z.length : Int) := by simpa using g1
          have hsz : z.cps.size = z.cps.toList.length := by simp
          refine ⟨.str z, rfl, z, rfl, fun D hD => lc_it walk_str (fun i H' => Same H H' ∧ H' D = some (.lst ((z.cps.toList.take i).map fun c => V.bl (isLow c)))) ⟨same_upd hD, upd_same⟩ (fun _ _ _ _ => trivial) ?_ ?_⟩
          · rintro i x H1 H2 hi ⟨hs, hl⟩ ⟨rfl, c, hc, rfl⟩
            refine ⟨rfl, _, rfl, c, alpha, rfl, rfl, _, hl, ?_, ?_, ?_⟩
            · rw [List.length_map, List.length_take]
              exact Nat.lt_of_le_of_lt (Nat.min_le_left _ _) (small1000 (by have e : z.cps.size = z.length := rfl; omega))
            · intro b o e
              have n : b ≠ D := ne_of_none e hD
              rw [upd_ne n]
              exact hs b o e
            · rw [upd_same, mem_alpha]
              have hc' : z.cps.toList[i]? = some c := by simpa using hc
              rw [List.take_add_one, hc', List.map_append]
              rfl
          · rintro H1 ⟨hs, hl⟩
            rw [hsz, List.take_length] at hl
            refine ⟨D, z.cps.toList.map isLow, rfl, .inl (.inl (by rw [hl, List.map_map]; rfl)), ?_⟩
            have e : nmV (.str z) = (z.cps.toList.map isLow).all id := by
              show isNm z = _
              unfold isNm
              rw [decide_eq_true (show 1 ≤ z.length by omega), decide_eq_true (show z.length ≤ 8 by omega), List.all_map]
              rfl
            rw [← e]
            exact q _ hs
      · refine ⟨_, rfl, ?_⟩
        have e1 : ¬ 1 ≤ (z.length : Int) := by simpa using g1
        have e : nmV (.str z) = false := by
          show isNm z = false
          unfold isNm
          rw [decide_eq_false (show ¬ 1 ≤ z.length by omega)]
          simp
        rw [e] at q
        exact q _ (Same.refl _)
end
end K01
namespace K01
open PySem PySem.Spec PyProof.Rows L2 Tw
abbrev s__law_well : Stmt := topS 5
abbrev N__law_well : List Str := ["_law_cell"]
theorem sc__law_well : FnScope N__law_well ["_law_cell"] (defScope s__law_well) := ⟨rfl, rfl, rfl, by decide +kernel, rfl, by decide +kernel, by decide +kernel⟩
abbrev s__law_draw : Stmt := topS 6
abbrev N__law_draw : List Str := ["_law_well_here", "_law_many", "_law_found", "_law_number"]
theorem sc__law_draw : FnScope N__law_draw ["_law_well_here", "_law_many"] (defScope s__law_draw) := ⟨rfl, rfl, rfl, by decide +kernel, rfl, by decide +kernel, by decide +kernel⟩

def spWell : Sp := fun vs H Q _ => ∃ (n : Int), vs = [.int n] ∧ ∀ (a : Addr) (H' : Hp), H a = none → Same H H' → IsWl H' a → Q (.ref a) H'
section
variable {P : Program} {w : World} {K : PySem.W.Frag} {mg : Str → Option Value} {base : Heap}
theorem ok_well {f : Addr} {fd : FuncData} (F : Fun K "_law_well" "_law_well" s__law_well f fd) (T : Txt mg) : FnOk P w K mg base CX0 1 f fd ["_law_cell"] spWell := by
  refine F.ok sc__law_well (fun vs H Q E h => ?_) (fun cdv A outer s H vs Q E hr h => ?_)
  · obtain ⟨n, rfl, _⟩ := h
    rfl
  · obtain ⟨n, rfl, q⟩ := h
    refine ⟨_, (pss_one (ps_ret (pe_lst (pa_cons (pe_op op_mul (pv 0) (pe_callTy call_int1 (by rfl) T.n_int (by decide +kernel) (pa_cons (pe_cmpR op_ge (pv 0) (pe_op op_pow pe_int pe_int) (nomark _)) pa_nil))) (pa_cons (pe_op op_mod (pv 0) pe_int) (pa_cons pe_int pa_nil)))))), ?_⟩
    refine ⟨_, rfl, _, rfl, 10, 18, rfl, rfl, ⟨by decide, by decide, by decide⟩, _, _, rfl, rfl, .inr ⟨_, rfl, ?_⟩⟩
    refine ⟨_, _, rfl, rfl, .inr ?_, ?_⟩
    · split <;> decide
    · refine ⟨_, rfl, _, _, rfl, rfl, (by show (0 : Int) < 2147483647; decide), by show 3 ≤ sizeLine; decide, fun p hp => ?_⟩
      exact q p _ hp (same_upd hp) ⟨_, _, _, upd_same⟩
theorem ok_draw {f : Addr} {fd : FuncData} (F : Fun K "_law_draw" "_law_draw" s__law_draw f fd) (T : Txt mg) : FnOk P w K mg base CX0 1 f fd ["_law_well_here", "_law_many"] spDraw := by
  refine F.ok sc__law_draw (fun vs H Q E h => ?_) (fun cdv A outer s H vs Q E hr h => ?_)
  · obtain ⟨a, m, rfl, _⟩ := h
    rfl
  · obtain ⟨a, m, rfl, ⟨x, y, z, hw⟩, m0, mM, q⟩ := h
    refine ⟨_, (pss_cons (ps_if (pt_cmpR op_gt (pe_ix ix_list (pv 0) pe_int (fun _ _ => rfl)) pe_int (nomark _))
        (pss_cons (ps_set (i := 2) sc__law_draw.nd rfl (.inl rfl) (pe_op op_modN (pe_ix ix_list (pv 0) pe_int (fun _ _ => rfl)) (pv 1)))
        (pss_cons (ps_asg (pe_op op_fdivN (pe_ix ix_list (pv 0) pe_int (fun _ _ => rfl)) (pv 1)) (pg_sub (pv 0) pe_int set_list))
        (pss_one (ps_ret (pv 2)))))
        pss_nil)
      (pss_cons (ps_asg (pe_op op_add (pe_ix ix_list (pv 0) pe_int (fun _ _ => rfl)) pe_int) (pg_sub (pv 0) pe_int set_list))
      (pss_cons (ps_set (i := 3) sc__law_draw.nd rfl (.inl rfl) (pe_op op_mod (pe_op op_mul (pe_op op_add (pe_op op_add (pe_ix ix_list (pv 0) pe_int (fun _ _ => rfl)) (pe_op op_mul pe_int (pe_ix ix_list (pv 0) pe_int (fun _ _ => rfl)))) pe_int) pe_int) pe_int))
      (pss_cons (ps_set (i := 3) sc__law_draw.nd rfl (.inl rfl) (pe_op op_mod (pe_op op_mul (pv 3) (pe_op op_add (pe_op op_fdiv (pv 3) pe_int) pe_int)) pe_int))
      (pss_one (ps_ret (pe_op op_modN (pe_op op_mod (pe_op op_mul (pv 3) (pe_op op_add (pe_op op_fdiv (pv 3) pe_int) pe_int)) pe_int) (pv 1)))))))), ?_⟩
    have fm : ∀ v : Int, 0 ≤ v.fmod m ∧ v.fmod m < m := fun v => ⟨Int.fmod_nonneg_of_pos v m0, Int.fmod_lt_of_pos v m0⟩
    have S0 : ∀ {H' : Hp} {x y z : Int}, H' a = some (.lst [.int x, .int y, .int z]) → SqL K H' a [.int x, .int y, .int z] := fun h => SqL.of h
    refine ⟨.ref a, rfl, a, _, 0, .int x, rfl, rfl, S0 hw, rfl, x, 0, rfl, rfl, _, rfl, ?_⟩
    refine ite2 (fun g => ?_) (fun g => ?_)
    · refine ⟨.ref a, rfl, a, _, 0, .int x, rfl, rfl, S0 hw, rfl, _, rfl, x, m, rfl, rfl, by omega, ?_⟩
      refine ⟨.ref a, rfl, a, _, 0, .int x, rfl, rfl, S0 hw, rfl, _, rfl, x, m, rfl, rfl, ⟨by omega, by omega⟩, ?_⟩
      refine ⟨_, rfl, a, _, 0, 0, rfl, rfl, hw, rfl, _, rfl, ?_⟩
      exact q _ _ (fm x).1 (fm x).2 ⟨fun b o n e => by rw [upd_ne n]; exact e, _, _, _, upd_same⟩
    · refine ⟨.ref a, rfl, a, _, 2, .int z, rfl, rfl, S0 hw, rfl, z, 1, rfl, rfl, ?_⟩
      refine ⟨_, rfl, a, _, 2, 2, rfl, rfl, hw, rfl, ?_⟩
      have hw2 : (upd H a (.lst [.int x, .int y, .int (z + 1)])) a = some (.lst [.int x, .int y, .int (z + 1)]) := upd_same
      refine ⟨_, rfl, a, _, 1, .int y, rfl, rfl, S0 hw2, rfl, _, rfl, a, _, 2, .int (z + 1), rfl, rfl, S0 hw2, rfl, 7919, z + 1, rfl, rfl, .inl ⟨by decide, by decide⟩, y, _, rfl, rfl, _, 1, rfl, rfl, _, 48271, rfl, rfl, .inr ⟨by decide, by decide⟩, _, 2147483647, rfl, rfl, by show (0 : Int) < 2147483647; decide, ?_⟩
      dsimp only
      generalize hn : ((y + 7919 * (z + 1) + 1) * 48271 % 2147483647 : Int) = n1
      have b1 : 0 ≤ n1 ∧ n1 < 2147483647 := by omega
      refine ⟨_, rfl, _, rfl, n1, 1009, rfl, rfl, ⟨by decide, by decide⟩, _, 69621, rfl, rfl, n1, _, rfl, rfl, .inl ⟨by omega, by omega⟩, _, 2147483647, rfl, rfl, by show (0 : Int) < 2147483647; decide, ?_⟩
      dsimp only
      generalize hn2 : (n1 * (n1 / 1009 + 69621) % 2147483647 : Int) = n2
      have b2 : 0 ≤ n2 ∧ n2 < 2147483647 := by
        rw [← hn2]
        exact ⟨Int.emod_nonneg _ (by decide), Int.emod_lt_of_pos _ (by decide)⟩
      refine ⟨_, rfl, _, rfl, n2, 2003, rfl, rfl, ⟨by decide, by decide⟩, _, 40692, rfl, rfl, n2, _, rfl, rfl, .inl ⟨by omega, by omega⟩, _, 2147483399, rfl, rfl, by show (0 : Int) < 2147483399; decide, _, rfl, _, m, rfl, rfl, by omega, ?_⟩
      exact q _ _ (fm _).1 (fm _).2 ⟨fun b o n e => by rw [upd_ne n]; exact e, _, _, _, upd_same⟩
end
end K01
namespace K01
open PySem PySem.Spec PyProof.Rows L2 Tw
abbrev s__law_signs : Stmt := topS 7
abbrev N__law_signs : List Str := ["_law_well_here", "_law_letters", "_law_some", "_law_found", "_law_at", "_law_sign", "_law_k"]
theorem sc__law_signs : FnScope N__law_signs ["_law_well_here"] (defScope s__law_signs) := ⟨rfl, rfl, rfl, by decide +kernel, rfl, by decide +kernel, by decide +kernel⟩
def spSigns : Sp := fun vs H Q _ => ∃ (a : Addr), vs = [.ref a] ∧ IsWl H a ∧ ∀ (z : Str) (H' : Hp), Asc 21 z → Fw a H H' → Q (.str z) H'
def somes : Str := " !\"#$&'()*+,-./0123456789:;<=>?@ABCDEFGHIJKLMNOPQRSTUVWXYZ[\\]^_`{|}~"
theorem asc_alpha : Asc 26 alpha := .of (by decide +kernel)
theorem asc_somes : Asc 68 somes := .of (by decide +kernel)
theorem len_alpha : alpha.length = 26 := by decide +kernel
theorem len_somes : somes.length = 68 := by decide +kernel
theorem len_all : (somes ++ alpha).length = 94 := by decide +kernel
/-- texts of one plain sign each, joined -/
theorem asc_joined {ys : List Str} {n : Nat} (h : ys.length ≤ n) (k : ∀ y ∈ ys, Asc 1 y) : Asc n (Txt.join ⟨#[]⟩ ys) := by
  have e : ∀ l : List Str, (Txt.join ⟨#[]⟩ l).cps.toList = (l.map fun y => y.cps.toList).flatten := by
    intro l
    have e1 := congrArg TL.tl (TL.join_eq ⟨#[]⟩ l)
    have e2 := TL.tl_join ⟨#[]⟩ l
    have e3 : ∀ l : List (List Nat), TL.joinL [] l = l.flatten := by
      intro l
      induction l with
      | nil => rfl
      | cons x r ih =>
        cases r with
        | nil => simp [TL.joinL]
        | cons y r => 
          show x ++ ([] ++ TL.joinL [] (y :: r)) = _
          rw [ih]
          simp
    exact e1.trans (e2.trans (e3 _))
  have e2 := e ys
  refine ⟨?_, ?_⟩
  · rw [len_toList, e2]
    have : ∀ l : List Str, (∀ y ∈ l, Asc 1 y) → ((l.map fun y => y.cps.toList).flatten).length ≤ l.length := by
      intro l
      induction l with
      | nil => intro _; exact Nat.le_refl _
      | cons y r ih =>
        intro hk
        have h1 := (hk y (List.mem_cons_self ..)).le
        have h2 := ih fun z hz => hk z (List.mem_cons_of_mem _ hz)
        rw [len_toList] at h1
        rw [List.map_cons, List.flatten_cons, List.length_append, List.length_cons]
        omega
    exact Nat.le_trans (this ys k) h
  · rw [e2]
    intro c hc
    obtain ⟨l, h1, h2⟩ := List.mem_flatten.mp hc
    obtain ⟨y, hy, rfl⟩ := List.mem_map.mp h1
    exact (k y hy).lt c h2
section
variable {P : Program} {w : World} {K : PySem.W.Frag} {mg : Str → Option Value} {base : Heap}
theorem ok_signs {f : Addr} {fd : FuncData} (F : Fun K "_law_signs" "_law_signs" s__law_signs f fd) (T : Txt mg) (C : Cal P w K mg base 1 "_law_draw" ["_law_well_here", "_law_many"] spDraw) : FnOk P w K mg base CX0 2 f fd ["_law_well_here"] spSigns := by
  refine F.ok sc__law_signs (fun vs H Q E h => ?_) (fun cdv A outer s H vs Q E hr h => ?_)
  · obtain ⟨a, rfl, _⟩ := h
    rfl
  · obtain ⟨a, rfl, hw, q⟩ := h
    refine ⟨_, (pss_cons (ps_set (i := 1) sc__law_signs.nd rfl (.inr rfl) pe_str)
      (pss_cons (ps_set (i := 2) sc__law_signs.nd rfl (.inl rfl) pe_str)
      (pss_cons (ps_set (i := 3) sc__law_signs.nd rfl (.inl rfl) (pe_join pe_str (pe_lc (own := [("_law_k", 6)]) rfl sc__law_signs.nd (pi_range1 rfl T.n_range (pa_cons (pe_cal C hr (by decide) (by rfl) (pa_cons (pv 0) (pa_cons pe_int pa_nil))) pa_nil)) (blkOk_by (N := N__law_signs) (sc := defScope s__law_signs) (by decide +kernel)) (fun _ _ _ _ _ => (pg_name (i := 6) sc__law_signs.nd rfl (.inl rfl))) (fun _ _ _ _ _ => pts_nil) (fun _ _ _ _ _ => (pe_ix ix_str (pv 1) (pe_cal C hr (by decide) (by rfl) (pa_cons (pv 0) (pa_cons pe_int pa_nil))) (fun _ _ => rfl))))))
      (pss_cons (ps_set (i := 4) sc__law_signs.nd rfl (.inl rfl) (pe_cal C hr (by decide) (by rfl) (pa_cons (pv 0) (pa_cons (pe_op op_add (pe_callB call_len_str (by rfl) T.n_len (by decide +kernel) (pa_cons (pv 3) pa_nil)) pe_int) pa_nil))))
      (pss_cons (ps_set (i := 5) sc__law_signs.nd rfl (.inl rfl) (pe_ix ix_str (pe_op op_add_str (pv 2) (pv 1)) (pe_cal C hr (by decide) (by rfl) (pa_cons (pv 0) (pa_cons (pe_op op_add (pe_callB call_len_str (by rfl) T.n_len (by decide +kernel) (pa_cons (pv 2) pa_nil)) pe_int) pa_nil))) (fun _ _ => rfl)))
      (pss_one (ps_ret (pe_ix ix_list (pe_lst (pa_cons (pv 3) (pa_cons (pv 3) (pa_cons (pe_op op_add_str (pe_op op_add_str (pe_slice sl_str (pv 3) po_none (po_some (pv 4))) (pv 5)) (pe_slice sl_str (pv 3) (po_some (pv 4)) po_none)) (pa_cons (pe_op op_add_str (pe_op op_add_str (pe_slice sl_str (pv 3) po_none (po_some (pv 4))) (pv 5)) (pe_slice sl_str (pv 3) (po_some (pe_op op_add (pv 4) pe_int)) po_none)) pa_nil))))) (pe_cal C hr (by decide) (by rfl) (pa_cons (pv 0) (pa_cons pe_int pa_nil))) (fun _ _ => rfl))))))))), ?_⟩
    -- ''.join([.. for _law_k in range(draw(11))])
    refine ⟨⟨_, rfl⟩, .ref a, rfl, a, 11, rfl, hw, by decide, by decide, fun r1 H1 r1a r1b f1 => ?_⟩
    have wl1 : IsWl H1 a := f1.2
    refine ⟨r1, rfl, by omega, by omega, fun D hD => ?_⟩
    have nD : D ≠ a := wl1.ne hD
    have hD0 : H D = none := f1.free hw hD
    refine lc_it walk_range (fun i H' => Fw a H H' ∧ ∃ ys : List Str, H' D = some (.lst (ys.map V.str)) ∧ ys.length = i ∧ ∀ y ∈ ys, Asc 1 y) ⟨(f1.same (same_upd hD)), [], upd_same, rfl, fun _ h => by cases h⟩ (fun _ _ _ _ => trivial) ?_ ?_
    · rintro i x H2 H3 hi ⟨fw, ys, hy, hl, ha⟩ ⟨rfl, rfl⟩
      refine ⟨rfl, _, rfl, .ref a, rfl, a, 26, rfl, fw.2, by decide, by decide, fun r H4 r0 rb f4 => ?_⟩
      obtain ⟨c, hc, lc⟩ := asc_alpha.atZ (i := r) r0 (by rw [len_alpha]; exact rb)
      refine ⟨alpha, r, c, rfl, rfl, Nat.le_trans asc_alpha.le (by decide), hc, ys.map V.str, f4.1 D _ nD hy, ?_, ?_, ys ++ [⟨#[c]⟩], ?_, ?_, ?_⟩
      · rw [List.length_map]
        exact small1000 (by omega)
      · have f5 := fw.trans f4
        refine ⟨fun b o n e => ?_, ?_⟩
        · rw [upd_ne (ne_of_none e hD0)]
          exact f5.1 b o n e
        · obtain ⟨x, y, z, e⟩ := f5.2
          exact ⟨x, y, z, by rw [upd_ne nD.symm]; exact e⟩
      · rw [upd_same, List.map_append]
        rfl
      · rw [List.length_append, hl]
        rfl
      · intro y hy
        rcases List.mem_append.mp hy with h | h
        · exact ha y h
        · have e : y = ⟨#[c]⟩ := by simpa using h
          rw [e]
          exact .one lc
    · rintro H2 ⟨fw, ys, hy, hl, ha⟩
      have hlen : ys.length ≤ 10 := by omega
      have hsum : (ys.map (·.length)).sum ≤ ys.length := by
        clear hy hl hlen
        induction ys with
        | nil => exact Nat.le_refl _
        | cons y r ih =>
          have h1 := (ha y (List.mem_cons_self ..)).le
          have h2 := ih fun z hz => ha z (List.mem_cons_of_mem _ hz)
          rw [List.map_cons, List.sum_cons, List.length_cons]
          omega
      refine ⟨_, D, ys, rfl, rfl, .inl (SqL.of hy), ?_, ?_⟩
      · have e : ys.length * (Str.length ⟨#[]⟩) = 0 := Nat.mul_zero _
        have e2 : (⟨#[]⟩ : Str).length = 0 := rfl
        show (ys.map (·.length)).sum + ys.length * 0 ≤ _
        omega
      have hz : Asc 10 (Txt.join ⟨#[]⟩ ys) := asc_joined hlen ha
      show _
      generalize hzz : Txt.join _ ys = z
      have hz : Asc 10 z := by rw [← hzz]; exact hz
      have hzL : z.length ≤ sizeLine := Nat.le_trans hz.le (by decide)
      -- _law_at
      have ld : ∀ {v : Str} {k : Nat}, Asc k v → k ≤ 1000 → v.length ≤ sizeLine := fun h e => Nat.le_trans (Nat.le_trans h.le e) (by decide)
      refine ⟨.ref a, rfl, .str z, rfl, z, rfl, hzL, _, 1, rfl, rfl, a, _, rfl, fw.2, by omega, by have := hz.le; omega, fun r H3 r0 rb f3 => ?_⟩
      have fw3 := fw.trans f3
      -- _law_sign
      refine ⟨.str somes, rfl, .str alpha, rfl, somes, alpha, rfl, rfl, ?_, .ref a, rfl, .str somes, rfl, somes, rfl, ld asc_somes (by decide), _, 26, rfl, rfl, a, _, rfl, f3.2, by omega, by rw [len_somes]; omega, fun r2 H4 r20 r2b f4 => ?_⟩
      · rw [len_somes, len_alpha]
        decide
      have fw4 := fw3.trans f4
      have asc_sa : Asc 94 (somes ++ alpha) := asc_somes.append asc_alpha
      obtain ⟨c, hc, lc⟩ := asc_sa.atZ (i := r2) r20 (by rw [len_all, len_somes] at *; omega)
      refine ⟨somes ++ alpha, r2, c, rfl, rfl, ld asc_sa (by decide), hc, ?_⟩
      have hs : Asc 1 ⟨#[c]⟩ := .one lc
      have h4 : ∀ lo hi lo2 hi2, Asc 21 (cutS z lo hi ++ ⟨#[c]⟩ ++ cutS z lo2 hi2) := fun lo hi lo2 hi2 => ((hz.cut lo hi).append hs).append (hz.cut lo2 hi2)
      have cl : ∀ lo hi, (cutS z lo hi).length ≤ 10 := fun lo hi => (hz.cut lo hi).le
      have cc : ∀ lo hi, (cutS z lo hi ++ ⟨#[c]⟩).length ≤ 11 := fun lo hi => ((hz.cut lo hi).append hs).le
      have ln : ∀ {a b : Nat}, a ≤ 11 → b ≤ 10 → a + b ≤ sizeLine := fun h1 h2 => Nat.le_trans (Nat.add_le_add h1 h2) (by decide)
      refine ⟨.str z, rfl, .str z, rfl, .str z, rfl, .int r, rfl, r, rfl, z, rfl, hzL, .str ⟨#[c]⟩, rfl, _, ⟨#[c]⟩, rfl, rfl, ln (Nat.le_trans (cl _ _) (by decide)) (show (1 : Nat) ≤ 10 by decide), .str z, rfl, .int r, rfl, r, rfl, z, rfl, hzL, _, _, rfl, rfl, ln (cc _ _) (cl _ _), ?_⟩
      refine ⟨.str z, rfl, .int r, rfl, r, rfl, z, rfl, hzL, .str ⟨#[c]⟩, rfl, _, ⟨#[c]⟩, rfl, rfl, ln (Nat.le_trans (cl _ _) (by decide)) (show (1 : Nat) ≤ 10 by decide), .str z, rfl, .int r, rfl, r, 1, rfl, rfl, r + 1, rfl, z, rfl, hzL, _, _, rfl, rfl, ln (cc _ _) (cl _ _), by show 4 ≤ sizeLine; decide, fun p hp => ?_⟩
      have np : p ≠ a := fw4.2.ne hp
      refine ⟨.ref a, rfl, a, 4, rfl, fw4.2.same (same_upd hp), by decide, by decide, fun r3 H5 r30 r3b f5 => ?_⟩
      have hp5 := f5.1 p _ np upd_same
      have fw5 := (fw4.same (same_upd hp)).trans f5
      have hh : ∃ v, Asc 21 v ∧ atI [V.str z, V.str z, V.str (cutS z none (some r) ++ ⟨#[c]⟩ ++ cutS z (some r) none), V.str (cutS z none (some r) ++ ⟨#[c]⟩ ++ cutS z (some (r + 1)) none)] r3 = some (V.str v) := by
        obtain rfl | rfl | rfl | rfl : r3 = 0 ∨ r3 = 1 ∨ r3 = 2 ∨ r3 = 3 := by omega
        · exact ⟨z, hz.mono (by decide), rfl⟩
        · exact ⟨z, hz.mono (by decide), rfl⟩
        · exact ⟨_, h4 _ _ _ _, rfl⟩
        · exact ⟨_, h4 _ _ _ _, rfl⟩
      obtain ⟨v, hv, ev⟩ := hh
      exact ⟨p, _, r3, .str v, rfl, rfl, SqL.of hp5, ev, q v H5 hv fw5⟩
end
end K01
namespace K01
open PySem PySem.Spec PyProof.Rows L2 Tw
theorem lt_one (c d : Nat) : decide ((⟨#[c]⟩ : Str).cps.toList < (⟨#[d]⟩ : Str).cps.toList) = decide (c < d) := by
  show decide ([c] < [d]) = decide (c < d)
  by_cases h : c < d
  · rw [decide_eq_true h]
    exact decide_eq_true (List.Lex.rel h)
  · rw [decide_eq_false h]
    refine decide_eq_false fun q => ?_
    cases q with
    | rel r => exact h r
    | cons r => cases r
theorem dp_strs {K : PySem.W.Frag} {H : Hp} : ∀ ys : List Str, DpAll K H (ys.map V.str) (ys.map PyData.str)
  | [] => .nil
  | y :: r => .cons (.str y) (dp_strs r)
theorem canLay_strs : ∀ {ys : List Str}, (∀ y ∈ ys, PyData.strOk y = true) → PyData.canLayAll0 (ys.map PyData.str) = true
  | [], _ => rfl
  | y :: r, h => by
    show (PyData.strOk y && PyData.canLayAll0 (r.map PyData.str)) = true
    rw [h y (List.mem_cons_self ..), canLay_strs fun z hz => h z (List.mem_cons_of_mem _ hz)]
    rfl
theorem depth_strs : ∀ ys : List Str, PyData.depthAll (ys.map PyData.str) = 0
  | [] => rfl
  | y :: r => by
    show max 0 (PyData.depthAll (r.map PyData.str)) = 0
    rw [depth_strs r]
    rfl
theorem shaped_strs {ys : List Str} (h : ∀ y ∈ ys, PyData.strOk y = true) : SeqAt.shaped (.list (ys.map PyData.str)) = true := by
  unfold SeqAt.shaped
  rw [Bool.and_eq_true]
  refine ⟨?_, ?_⟩
  · exact canLay_strs h
  · have e : PyData.depth (.list (ys.map PyData.str)) = 1 := by
      show PyData.depthAll _ + 1 = 1
      rw [depth_strs]
    rw [e]
    decide
theorem eqv_nil : ∀ ys : List PyData, PyData.eqv (.list ys) (.list []) = ys.isEmpty
  | [] => by simp [PyData.eqv, PyData.eqvAll]
  | y :: r => by simp [PyData.eqv, PyData.eqvAll]

section
variable {P : Program} {w : World} {K : PySem.W.Frag} {mg : Str → Option Value} {base : Heap}
theorem ok_due {f : Addr} {fd : FuncData} (F : Fun K "_law_due" "_law_due" s__law_due f fd) (T : Txt mg) : FnOk P w K mg base CX0 1 f fd ["_law_word"] (spName K) := by
  refine F.ok sc__law_due (fun vs H Q E h => ?_) (fun cdv A outer s H vs Q E hr h => ?_)
  · obtain ⟨v, t, b, rfl, _⟩ := h
    rfl
  · obtain ⟨v, t, b, rfl, hT, hk, h1, h0, q⟩ := h
    refine ⟨_, (pss_cons (ps_if (PW.pt (pw_or (pt_not (pt_val (pe_callB call_isi (by rfl) T.n_isinstance (by decide +kernel) (pa_cons (pv 0) (pa_cons (pe_bltn (v := .ty "str") rfl T.n_str (by decide +kernel) rfl) pa_nil))))) (pw_or (pt_cmpR op_lt (pe_callB call_len_str (by rfl) T.n_len (by decide +kernel) (pa_cons (pv 0) pa_nil)) pe_int (nomark _)) (pw_or1 (pt_cmpR op_gt (pe_callB call_len_str (by rfl) T.n_len (by decide +kernel) (pa_cons (pv 0) pa_nil)) pe_int (nomark _))))))
        (pss_one (ps_ret pe_bl))
        pss_nil)
      (pss_one (ps_ret (pe_cmpR (op_eqD hr.units) (pe_lc (own := [("_law_sign", 1)]) rfl sc__law_due.nd (pi_str (pv 0)) (blkOk_by (N := N__law_due) (sc := defScope s__law_due) (by decide +kernel)) (fun _ _ _ _ _ => (pg_name (i := 1) sc__law_due.nd rfl (.inl rfl))) (fun _ _ _ _ _ => (pts_one (PW.pt (pw_or (pt_cmpR op_lt_str (pv 1) pe_str (nomark _)) (pw_or1 (pt_cmpR op_gt_str (pv 1) pe_str (nomark _))))))) (fun _ _ _ _ _ => (pv 1))) (pe_lst pa_nil) (nomark _))))), ?_⟩
    refine ⟨v, rfl, v, .ty "str", t, .type "str", b, rfl, .ty "str", hT, hk, b, rfl, ?_⟩
    cases b with
    | false =>
      refine iteT ?_
      have e := h0 rfl
      rw [e] at q
      exact q _ (Same.refl _)
    | true =>
      obtain ⟨z, rfl, hz⟩ := h1 rfl
      have hzl : z.length ≤ sizeLine := Nat.le_trans hz.le (by decide)
      refine iteF ?_
      refine ⟨.str z, rfl, z, rfl, hzl, (z.length : Int), 1, rfl, rfl, _, rfl, ?_⟩
      have bad : ¬ (1 ≤ z.length ∧ z.length ≤ 8) → nmV (.str z) = false := fun h => by
        show isNm z = false
        unfold isNm
        rw [← Bool.decide_and, decide_eq_false h]
        rfl
      refine ite2 (fun g1 => ?_) (fun g1 => ?_)
      · have e1 : (z.length : Int) < 1 := by simpa using g1
        rw [bad (by omega)] at q
        exact q _ (Same.refl _)
      · have e1 : ¬ (z.length : Int) < 1 := by simpa using g1
        refine ⟨.str z, rfl, z, rfl, hzl, (z.length : Int), 8, rfl, rfl, _, rfl, ?_⟩
        refine ite2 (fun g2 => ?_) (fun g2 => ?_)
        · have e2 : 8 < (z.length : Int) := by simpa using g2
          rw [bad (by omega)] at q
          exact q _ (Same.refl _)
        · have e2 : ¬ 8 < (z.length : Int) := by simpa using g2
          have hsz : z.cps.size = z.cps.toList.length := by simp
          refine ⟨.str z, rfl, z, rfl, fun D hD => lc_it walk_str (fun i H' => Same H H' ∧ H' D = some (.lst (((z.cps.toList.take i).filter fun c => !isLow c).map fun c => V.str ⟨#[c]⟩))) ⟨same_upd hD, upd_same⟩ (fun _ _ _ _ => trivial) ?_ ?_⟩
          · rintro i x H1 H2 hi ⟨hs, hl⟩ ⟨rfl, c, hc, rfl⟩
            have hc' : z.cps.toList[i]? = some c := by simpa using hc
            refine ⟨rfl, _, rfl, ⟨#[c]⟩, ⟨#[97]⟩, rfl, rfl, _, rfl, ?_⟩
            have go : isLow c = false → ∃ acc, H2 D = some (HO.lst acc) ∧ acc.length < sizeLine ∧ (Same H (upd H2 D (.lst (acc ++ [V.str ⟨#[c]⟩]))) ∧ (upd H2 D (.lst (acc ++ [V.str ⟨#[c]⟩]))) D = some (.lst (((z.cps.toList.take (i + 1)).filter fun c => !isLow c).map fun c => V.str ⟨#[c]⟩))) := fun hb => by
              refine ⟨_, hl, ?_, fun b o e => ?_, ?_⟩
              · rw [List.length_map]
                have h1 := List.length_filter_le (fun c => !isLow c) (z.cps.toList.take i)
                rw [List.length_take] at h1
                have h2 := hz.le
                rw [len_toList] at h2
                exact small1000 (by omega)
              · rw [upd_ne (ne_of_none e hD)]
                exact hs b o e
              · rw [upd_same, List.take_add_one, hc', List.filter_append, List.map_append]
                have e : List.filter (fun c => !isLow c) (some c).toList = [c] := by simp [hb]
                rw [e]
                rfl
            refine ite2 (fun g => ?_) (fun g => ?_)
            · rw [lt_one] at g
              have g' : c < 97 := of_decide_eq_true g
              exact ⟨_, rfl, go (by unfold isLow; exact decide_eq_false (by omega))⟩
            · rw [lt_one] at g
              have g' : ¬ c < 97 := fun h => g (decide_eq_true h)
              refine ⟨_, rfl, ⟨#[c]⟩, ⟨#[122]⟩, rfl, rfl, _, rfl, ?_⟩
              refine ite2 (fun k => ?_) (fun k => ?_)
              · rw [lt_one] at k
                have k' : 122 < c := of_decide_eq_true k
                exact ⟨_, rfl, go (by unfold isLow; exact decide_eq_false (by omega))⟩
              · rw [lt_one] at k
                have k' : ¬ 122 < c := fun h => k (decide_eq_true h)
                have hb : isLow c = true := by unfold isLow; exact decide_eq_true (by omega)
                refine ⟨hs, ?_⟩
                rw [List.take_add_one, hc', List.filter_append, List.map_append, hl]
                have e : List.filter (fun c => !isLow c) (some c).toList = [] := by simp [hb]
                rw [e]
                simp
          · rintro H1 ⟨hs, hl⟩
            rw [hsz, List.take_length] at hl
            refine ⟨Nat.zero_le _, fun p hp => ?_⟩
            have np : D ≠ p := ne_of_none hl hp
            have hl2 : upd H1 p (.lst []) D = some (.lst (((z.cps.toList.filter fun c => !isLow c).map fun c => (⟨#[c]⟩ : Str)).map V.str)) := by
              rw [upd_ne np, hl, List.map_map]
              rfl
            have hstr : ∀ y ∈ (z.cps.toList.filter fun c => !isLow c).map fun c => (⟨#[c]⟩ : Str), PyData.strOk y = true := by
              intro y hy
              obtain ⟨c, hc, rfl⟩ := List.mem_map.mp hy
              exact (Asc.one (hz.lt c (List.mem_filter.mp hc |>.1))).ok
            refine ⟨_, .list [], .lst (SqL.of hl2) (dp_strs _), .lst (SqL.of upd_same) .nil, shaped_strs hstr, by decide +kernel, ?_⟩
            have e : nmV (.str z) = PyData.eqv (.list (((z.cps.toList.filter fun c => !isLow c).map fun c => (⟨#[c]⟩ : Str)).map PyData.str)) (.list []) := by
              rw [eqv_nil]
              show isNm z = _
              unfold isNm
              rw [decide_eq_true (show 1 ≤ z.length by omega), decide_eq_true (show z.length ≤ 8 by omega)]
              induction z.cps.toList with
              | nil => rfl
              | cons c r ih =>
                by_cases hc : isLow c = true
                · simpa [hc] using ih
                · simp [hc]
            rw [← e]
            exact q _ (hs.trans (same_upd hp))
end
end K01
namespace K01
open PySem PySem.Spec PyProof.Rows L2 Tw
abbrev s_law : Stmt := topS 9
abbrev N_law : List Str := ["_law_script", "_law_cell", "_law_well_here", "_law_word", "_law_some", "_law_found"]
theorem sc_law : FnScope N_law ["_law_script"] (defScope s_law) := ⟨rfl, rfl, rfl, by decide +kernel, rfl, by decide +kernel, by decide +kernel⟩
def spLaw (K : PySem.W.Frag) : Sp := fun vs H Q _ => ∃ (a : Addr) (ns : List Int), vs = [.ref a] ∧ SqL K H a (ns.map V.int) ∧ ns.length ≤ 63 ∧ ∀ H', Q (.bl true) H'
/-- one of the things that the law asks of -/
def NameArg (K : PySem.W.Frag) (H : Hp) (v : V) : Prop := ∃ (t : Value) (b : Bool), TyX K H v t ∧ PySem.W.kitOne K t (.type "str") = some b ∧ (b = true → ∃ z, v = .str z ∧ Asc 1000 z) ∧ (b = false → nmV v = false)
theorem na_str {K : PySem.W.Frag} {H : Hp} {z : Str} (h : Asc 1000 z) : NameArg K H (.str z) := ⟨_, true, .base (.str z), kit_ty (by decide +kernel), fun _ => ⟨z, rfl, h⟩, fun q => Bool.noConfusion q⟩
theorem na_lst {K : PySem.W.Frag} {H : Hp} {p : Addr} {xs : List V} (h : H p = some (.lst xs)) : NameArg K H (.ref p) := ⟨_, false, .base (.lst h), kit_ty (by decide +kernel), fun q => Bool.noConfusion q, fun _ => rfl⟩
theorem na_tup {K : PySem.W.Frag} {H : Hp} {p : Addr} {xs : List V} (h : H p = some (.tup xs)) : NameArg K H (.ref p) := ⟨_, false, .base (.tup h), kit_ty (by decide +kernel), fun q => Bool.noConfusion q, fun _ => rfl⟩
theorem na_dK {K : PySem.W.Frag} {H : Hp} {p : Addr} {xs : List (Key × V)} (h : H p = some (.dK xs)) : NameArg K H (.ref p) := ⟨_, false, .base (.dK h), kit_ty (by decide +kernel), fun q => Bool.noConfusion q, fun _ => rfl⟩
theorem na_non {K : PySem.W.Frag} {H : Hp} : NameArg K H .non := ⟨_, false, .base .non, kit_ty (by decide +kernel), fun q => Bool.noConfusion q, fun _ => rfl⟩
theorem na_bl {K : PySem.W.Frag} {H : Hp} {b : Bool} : NameArg K H (.bl b) := ⟨_, false, .base (.bl b), kit_ty (by decide +kernel), fun q => Bool.noConfusion q, fun _ => rfl⟩
theorem na_int {K : PySem.W.Frag} {H : Hp} {i : Int} : NameArg K H (.int i) := ⟨_, false, .base (.int i), kit_ty (by decide +kernel), fun q => Bool.noConfusion q, fun _ => rfl⟩
theorem asc_upper {n : Nat} {z : Str} (h : Asc n z) : Asc n (Txt.upper z) := by
  have e := PyProof.Rows.upper_ascii h.lt
  rw [e]
  have e2 : (⟨z.cps.map PyProof.Rows.up1⟩ : Str).cps.toList = z.cps.toList.map PyProof.Rows.up1 := by simp
  refine ⟨?_, fun c hc => ?_⟩
  · rw [len_toList, e2, List.length_map, ← len_toList]
    exact h.le
  · rw [e2] at hc
    obtain ⟨d, hd, rfl⟩ := List.mem_map.mp hc
    have := h.lt d hd
    unfold PyProof.Rows.up1
    split <;> omega
section
variable {P : Program} {w : World} {K : PySem.W.Frag} {mg : Str → Option Value} {base : Heap}
theorem ok_law {f : Addr} {fd : FuncData} (F : Fun K "law" "law" s_law f fd) (T : Txt mg) (CW : Cal P w K mg base 1 "_law_well" ["_law_cell"] spWell) (CS : Cal P w K mg base 2 "_law_signs" ["_law_well_here"] spSigns)
    (CN : Cal P w K mg base 1 "is_name" ["thing"] (spName K)) (CD : Cal P w K mg base 1 "_law_due" ["_law_word"] (spName K)) (CK : CalK P w K mg base 1 "is_name" 0 ["thing"] (fun _ zs => zs) (spName K)) : FnOk P w K mg base CX0 3 f fd ["_law_script"] (spLaw K) := by
  refine F.ok sc_law (fun vs H Q E h => ?_) (fun cdv A outer s H vs Q E hr h => ?_)
  · obtain ⟨a, ns, rfl, _⟩ := h
    rfl
  · obtain ⟨a, ns, rfl, hS, hlen, q⟩ := h
    refine ⟨_, (pss_cons (ps_for PassesOwn.never rfl (pi_list (pe_op op_cat (pe_slice sl_list (pv 0) po_none (po_some pe_int)) (pe_lst (pa_cons pe_int (pa_cons pe_int (pa_cons pe_int pa_nil)))))) (pg_name (i := 1) sc_law.nd rfl (.inl rfl))
        (pss_cons (ps_set (i := 2) sc_law.nd rfl (.inl rfl) (pe_cal CW hr (by decide) (by rfl) (pa_cons (pv 1) pa_nil)))
        (pss_cons (ps_set (i := 3) sc_law.nd rfl (.inl rfl) (pe_cal CS hr (by decide) (by rfl) (pa_cons (pv 2) pa_nil)))
        (pss_one (ps_for PassesOwn.never rfl (pi_list (pe_lst (pa_cons (pv 3) (pa_cons (pe_lst (pa_cons (pv 3) pa_nil)) (pa_cons (pe_tup (pa_cons (pv 3) pa_nil)) (pa_cons pe_non (pa_cons pe_bl (pa_cons pe_int (pa_cons (pe_disp (pps_cons (pv 3) pe_int pps_nil) rfl rfl (by simp) (by decide)) (pa_cons (pe_lst pa_nil) (pa_cons pe_str (pa_cons (pe_op op_add_str (pv 3) pe_str) (pa_cons (pe_upper (pv 3)) pa_nil))))))))))))) (pg_name (i := 4) sc_law.nd rfl (.inl rfl))
          (pss_cons (ps_set (i := 5) sc_law.nd rfl (.inl rfl) (pe_cal CN hr (by decide) (by rfl) (pa_cons (pv 4) pa_nil)))
          (pss_one (ps_if (PW.pt (pw_or (pt_not (pt_val (pe_callB call_isi (by rfl) T.n_isinstance (by decide +kernel) (pa_cons (pv 5) (pa_cons (pe_bltn (v := .ty "bool") rfl T.n_bool (by decide +kernel) rfl) pa_nil))))) (pw_or (pt_cmpR op_ne (pv 5) (pe_cal CD hr (by decide) (by rfl) (pa_cons (pv 4) pa_nil)) (nomark _)) (pw_or1 (pt_cmpR op_ne (pe_calN0 CK hr (by decide) (by rfl) (pk_cons (pv 4) pk_nil)) (pv 5) (nomark _))))))
            (pss_one (ps_ret pe_bl))
            pss_nil))))))))
      (pss_one (ps_ret pe_bl))), ?_⟩
    -- for _law_cell in _law_script[:16] + [0, 3, 8]
    refine ⟨.ref a, rfl, 16, rfl, a, _, rfl, hS, fun p hp => ⟨by show 3 ≤ sizeLine; decide, fun p2 hp2 => ?_⟩⟩
    have npp : p ≠ p2 := fun e => by
      rw [← e, upd_same] at hp2
      cases hp2
    generalize hL : cutV (ns.map V.int) none (some 16) = L
    have hLl : L.length ≤ 63 := by
      rw [← hL]
      unfold cutV
      rw [List.length_take, List.length_drop, List.length_map]
      omega
    have hLi : ∀ v ∈ L ++ [V.int 0, V.int 3, V.int 8], ∃ n, v = V.int n := by
      intro v hv
      rcases List.mem_append.mp hv with h | h
      · rw [← hL] at h
        obtain ⟨n, _, e⟩ := List.mem_map.mp (List.mem_of_mem_drop (List.mem_of_mem_take h))
        exact ⟨n, e.symm⟩
      · simp only [List.mem_cons, List.not_mem_nil, or_false] at h
        rcases h with h | h | h
        · exact ⟨_, h⟩
        · exact ⟨_, h⟩
        · exact ⟨_, h⟩
    have hLz : (L ++ [V.int 0, V.int 3, V.int 8]).length ≤ 66 := by
      rw [List.length_append]
      show L.length + 3 ≤ 66
      omega
    refine ⟨p, p2, L, _, rfl, rfl, ?_, upd_same, ?_, fun p3 hp3 => ?_⟩
    · rw [upd_ne npp, upd_same]
    · exact Nat.le_trans (show L.length + 3 ≤ 66 by omega) (by decide)
    · generalize hW : L ++ [V.int 0, V.int 3, V.int 8] = W at *
      refine ⟨p3, rfl, ⟨_, SqL.of upd_same⟩, ?_⟩
      refine for_it (walk_list (K := K) (a := p3) (xs := W)) (fun i σ H' => H' p3 = some (.lst W) ∧ ∃ y1 y2 y3 y4 y5, σ = [some (.ref a), y1, y2, y3, y4, y5]) ⟨upd_same, _, _, _, _, _, rfl⟩ (fun _ _ _ _ h => SqL.of h.1) ?_ ?_
      · rintro i x σ H1 H2 hi ⟨hp3', y1, y2, y3, y4, y5, rfl⟩ ⟨rfl, hx⟩
        obtain ⟨n, rfl⟩ := hLi x (List.mem_of_getElem? hx)
        refine ⟨_, rfl, n, rfl, fun wa H3 hwa s3 wl3 => ?_⟩
        refine ⟨_, rfl, wa, rfl, wl3, fun z H4 hz f4 => ?_⟩
        have nw : p3 ≠ wa := ne_of_none hp3' hwa
        have h4 : H4 p3 = some (.lst W) := f4.1 _ _ nw (s3 _ _ hp3')
        have hz1 : Asc 1000 z := hz.mono (by decide)
        have hzu : Asc 1000 (Txt.upper z) := asc_upper hz1
        have a8 : Asc 8 ("aaaaaaaa" : Str) := .of (by decide +kernel)
        have hz8 : Asc 1000 (z ++ ("aaaaaaaa" : Str)) := (hz.append a8).mono (by decide)
        have z1 : (1 : Nat) ≤ sizeLine := by decide
        refine ⟨_, rfl, _, rfl, z1, fun l1 n1 => ⟨_, rfl, z1, fun l2 n2 => fun l3 n3 => ⟨.str z, rfl, upd_same, [(Sum.inr z, .int 1)], rfl, (show (1 : Nat) ≤ 15 by decide), Nat.zero_le _, fun l4 n4 => ?_⟩⟩⟩
        refine ⟨.str z, rfl, z, _, rfl, rfl, Nat.le_trans (Nat.add_le_add hz.le a8.le) (by decide), .str z, rfl, ⟨z, rfl⟩, z, rfl, rfl, Nat.le_trans hz.le (by decide), by show 11 ≤ sizeLine; decide, fun l5 n5 => ?_⟩
        rw [upd_upd] at n4 n5
        rw [upd_upd]
        have s1 := same_upd (o := .lst [.str z]) n1
        have s2 := same_upd (o := .tup [.str z]) n2
        have s3' := same_upd (o := .dK (mergeK [] [(Sum.inr z, .int 1)])) n3
        have s4 := same_upd (o := .lst []) n4
        generalize hits : ([V.str z, .ref l1, .ref l2, .non, .bl true, .int 5, .ref l3, .ref l4, .str ("" : Str), .str (z ++ ("aaaaaaaa" : Str)), .str (Txt.upper z)] : List V) = its
        have s5 := same_upd (o := .lst its) n5
        have e1 := (s2.trans (s3'.trans (s4.trans s5))) l1 _ upd_same
        have e2 := (s3'.trans (s4.trans s5)) l2 _ upd_same
        have e3 := (s4.trans s5) l3 _ upd_same
        have e4 := s5 l4 _ upd_same
        have hall := s1.trans (s2.trans (s3'.trans (s4.trans s5)))
        refine ⟨l5, rfl, ⟨its, SqL.of upd_same⟩, ?_⟩
        have e5 := @upd_same (upd (upd (upd (upd H4 l1 (.lst [.str z])) l2 (.tup [.str z])) l3 (.dK (mergeK [] [(Sum.inr z, .int 1)]))) l4 (.lst [])) l5 (.lst its)
        generalize upd (upd (upd (upd (upd H4 l1 (.lst [.str z])) l2 (.tup [.str z])) l3 (.dK (mergeK [] [(Sum.inr z, .int 1)]))) l4 (.lst [])) l5 (.lst its) = Hf at *
        have hna : ∀ H', Same Hf H' → ∀ v ∈ its, NameArg K H' v := by
          intro H' sm v hv
          rw [← hits] at hv
          simp only [List.mem_cons, List.not_mem_nil, or_false] at hv
          rcases hv with rfl | rfl | rfl | rfl | rfl | rfl | rfl | rfl | rfl | rfl | rfl
          · exact na_str hz1
          · exact na_lst (sm _ _ e1)
          · exact na_tup (sm _ _ e2)
          · exact na_non
          · exact na_bl
          · exact na_int
          · exact na_dK (sm _ _ e3)
          · exact na_lst (sm _ _ e4)
          · exact na_str (.of (by decide +kernel))
          · exact na_str hz8
          · exact na_str hzu
        refine for_it (walk_list (K := K) (a := l5) (xs := its)) (fun i σ H' => Same Hf H' ∧ ∃ y4 y5, σ = [some (.ref a), some (.int n), some (.ref wa), some (.str z), y4, y5]) ⟨Same.refl _, _, _, rfl⟩ (fun _ _ _ _ h => SqL.of (h.1 _ _ e5)) ?_ ?_
        · rintro j x σ H5 H6 hj ⟨sm, y4, y5, rfl⟩ ⟨rfl, hx⟩
          obtain ⟨t, b, hT, hk, h1, h0⟩ := hna _ sm x (List.mem_of_getElem? hx)
          refine ⟨_, rfl, x, t, b, rfl, hT, hk, h1, h0, fun H7 s7 => ?_⟩
          refine ⟨_, rfl, .bl (nmV x), .ty "bool", .type "bool", .type "bool", true, rfl, .ty "bool", .base (.bl _), kit_ty (by decide +kernel), true, rfl, ?_⟩
          obtain ⟨t7, b7, hT7, hk7, h17, h07⟩ := hna _ (sm.trans s7) x (List.mem_of_getElem? hx)
          refine ⟨_, rfl, _, rfl, x, t7, b7, rfl, hT7, hk7, h17, h07, fun H8 s8 => ⟨rfl, _, rfl, ?_⟩⟩
          refine iteNS rfl ?_
          obtain ⟨t8, b8, hT8, hk8, h18, h08⟩ := hna _ (sm.trans (s7.trans s8)) x (List.mem_of_getElem? hx)
          refine ⟨_, rfl, rfl, rfl, x, t8, b8, rfl, hT8, hk8, h18, h08, fun H9 s9 => ⟨_, rfl, rfl, _, rfl, ?_⟩⟩
          refine iteNS rfl ?_
          exact ⟨sm.trans (s7.trans (s8.trans s9)), _, _, rfl⟩
        · rintro σ H5 ⟨sm, y4, y5, rfl⟩
          exact ⟨sm _ _ (hall _ _ h4), _, _, _, _, _, rfl⟩
      · rintro σ H1 ⟨_, _, _, _, _, _, rfl⟩
        exact q _
end
end K01
namespace K01
open PySem PySem.Spec PyProof.Rows L2 Tw
theorem all_mk {l : PySem.W.OpenLaw} {w : World} {K : PySem.W.Frag} {h : Heap} {mg : Str → Option Value} {fa : Addr} (X : K.In h) (G : h.Ns mainGlobals mg) (hfa : mg "law" = some (.ref fa))
    (d1 : DefIn K "is_name" s_is_name) (d2 : DefIn K "_law_well" s__law_well) (d3 : DefIn K "_law_draw" s__law_draw) (d4 : DefIn K "_law_signs" s__law_signs) (d5 : DefIn K "_law_due" s__law_due) (d6 : DefIn K "law" s_law)
    {t1 t2 : Tok} (g1 : PySem.W.nsIn K mainGlobals "LETTERS" = some (some (.str alpha t1))) (g2 : PySem.W.nsIn K mainGlobals "MOST_LETTERS" = some (some (.int 8 t2)))
    (z1 : PySem.W.nsIn K mainGlobals "isinstance" = some none) (z2 : PySem.W.nsIn K mainGlobals "str" = some none) (z3 : PySem.W.nsIn K mainGlobals "bool" = some none) (z4 : PySem.W.nsIn K mainGlobals "len" = some none) (z5 : PySem.W.nsIn K mainGlobals "all" = some none) (z6 : PySem.W.nsIn K mainGlobals "int" = some none) (z7 : PySem.W.nsIn K mainGlobals "range" = some none) :
    ∃ fd : FuncData, (∀ (s : Shared) (v : Value), BindsTo s fd ⟨[v], []⟩ [("_law_script", v)]) ∧ ∀ base : Heap, K.In base → base.Ns mainGlobals mg → FnOk l.prog w K mg base CX0 3 fa fd ["_law_script"] (spLaw K) := by
  have T : Txt mg := ⟨PySem.W.mg_none_of X G z1, PySem.W.mg_none_of X G z2, PySem.W.mg_none_of X G z3, PySem.W.mg_none_of X G z4, PySem.W.mg_none_of X G z5, PySem.W.mg_none_of X G z6, PySem.W.mg_none_of X G z7, ⟨_, PySem.W.mg_of X G g1, _, rfl⟩, ⟨_, PySem.W.mg_of X G g2, _, rfl⟩⟩
  obtain ⟨f, oc, od, an, osl, kV, dc, pm, cd, ct, a, lk, c, kp⟩ := d6
  have e := hfa.symm.trans (PySem.W.mg_of X G a)
  cases e
  refine ⟨PySem.W.fnOf "law" "law" (defArgs s_law) (defBody s_law) (defScope s_law) .none kV dc pm an cd ct, fun s v => .of_eq rfl, fun base _ _ => ?_⟩
  exact ok_law (fun_mk (st := s_law) lk c kp) T
    (cal_mk d2 X G (fun _ _ _ _ _ _ us hl => match us, hl with | [_], _ => rfl) fun f fd F => ok_well F T)
    (cal_mk d4 X G (fun _ _ _ _ _ _ us hl => match us, hl with | [_], _ => rfl) fun f fd F => ok_signs F T (cal_mk d3 X G (fun _ _ _ _ _ _ us hl => match us, hl with | [_, _], _ => rfl) fun f fd F => ok_draw F T))
    (cal_mk d1 X G (fun _ _ _ _ _ _ us hl => match us, hl with | [_], _ => rfl) fun f fd F => ok_is_name F T)
    (cal_mk d5 X G (fun _ _ _ _ _ _ us hl => match us, hl with | [_], _ => rfl) fun f fd F => ok_due F T)
    (calK_mk (ps := ["thing"]) (fun _ zs => zs) d1 X G (fun _ _ _ _ _ _ us ws h1 h2 => match us, h1, ws, h2 with | [], _, [_], _ => rfl) (fun _ r => r) fun f fd F => ok_is_name F T)
end K01
open PySem PySem.W PyProof.Rows
set_option maxHeartbeats 0 in
theorem PySem.Challenge.cw_thingwires_k01_names_apart_holds : PySem.Challenge.rw_thingwires_k01_names_apart.Holds := by
  w_on; o_law; k_head; (case hw => w_witness2)
  k_fill
  refine L2.walk_of (l := PySem.Challenge.rw_thingwires_k01_names_apart) (n := 63) (k := 3) (x := "_law_script") (CX := fun _ => L2.CX0) (sp := fun w => K01.spLaw _) rfl (by decide) rfl ⟨rfl, by decide, by decide⟩ (fun w h Y => PySem.W.kIn_of Y) ?F (fun _ _ a ns hl _ hS => ⟨a, ns, rfl, hS, hl, fun _ => rfl⟩) (fun _ _ _ _ _ h => h)
  case F =>
    intro w mg fa h KX G hmg
    refine' K01.all_mk KX G hmg (Tw.defIn_mk ?a1 ?l1 ?c1 ?k1) (Tw.defIn_mk ?a2 ?l2 ?c2 ?k2) (Tw.defIn_mk ?a3 ?l3 ?c3 ?k3) (Tw.defIn_mk ?a4 ?l4 ?c4 ?k4) (Tw.defIn_mk ?a5 ?l5 ?c5 ?k5) (Tw.defIn_mk ?a6 ?l6 ?c6 ?k6) ?g1 ?g2 ?z1 ?z2 ?z3 ?z4 ?z5 ?z6 ?z7
    (case a1 => k_is); (case l1 => k_is); (case c1 => k_is); (case k1 => k_is)
    (case a2 => k_is); (case l2 => k_is); (case c2 => k_is); (case k2 => k_is)
    (case a3 => k_is); (case l3 => k_is); (case c3 => k_is); (case k3 => k_is)
    (case a4 => k_is); (case l4 => k_is); (case c4 => k_is); (case k4 => k_is)
    (case a5 => k_is); (case l5 => k_is); (case c5 => k_is); (case k5 => k_is)
    (case a6 => k_is); (case l6 => k_is); (case c6 => k_is); (case k6 => k_is)
    (case g1 => k_is); (case g2 => k_is)
    (case z1 => k_is); (case z2 => k_is); (case z3 => k_is); (case z4 => k_is); (case z5 => k_is); (case z6 => k_is); (case z7 => k_is)
