import PyProof.Rows.All
import Wide.All
import OpenK.AllK
import Wide.FinOn
import KE.KStateDown
import HandS.ForMost
import HandS.ForExc
import HandS.Wide
import HandS.Defaults
import HandS.HeadHook1
import HandS.Evl
import HandS.Steps
import HandS.HeadHook2
import HandS.TryMany
import HandS.ExcField
import HandS.ExcIs
import HandS.ExcInit
import HandS.HotCalls
import HandS.IsInst
import HandS.Deep
import HandS.ListItems
import HandS.ClsMeth
import HandS.MakeKwOnly
import HandS.More
import HandS.WordsExc
import HandS.Head0
import HandS.Head1
import HandS.Head2
import HandS.HeadEnd
import HandS.HeadHook3
import HandS.HeadHook4
import PySem.Challenge.RW_tiredpots_k06_names_of_a_book
set_option Elab.async false
set_option linter.all false
set_option maxRecDepth 100000
set_option maxHeartbeats 0
namespace Tp
open PySem PySem.Spec PyProof.Rows L2 He
/-! ### a def of the module without defaults: its promise, ready to be called -/
structure Df (P : Program) (w : World) (K : PySem.W.Frag) (mg : Str → Option Value) (base : Heap) (CX : CXT) (k : Nat) (x : Str) (ps : List Str) (sp : Sp) : Prop where
  mg_ : mg x = some (.ref (ga K x))
  kp : PySem.W.keepIn K (.ref (ga K x)) = true
  ex : ∃ fd, FnOk P w K mg base CX k (ga K x) fd ps sp ∧ Binds K fd ps []
abbrev FnP (K : PySem.W.Frag) (x : Str) (st : Stmt) (fd : FuncData) : Prop := FunD K x x (defArgs st) (defBody st) (defScope st) [] [] (ga K x) fd
section
variable {P : Program} {w : World} {K : PySem.W.Frag} {mg : Str → Option Value} {base : Heap}
theorem Df.mk' {CX : CXT} {k : Nat} {x : Str} {ps : List Str} {sp : Sp} {st : Stmt} (hm : mg x = some (.ref (ga K x))) (hF : ∃ fd, FnP K x st fd)
    (hb : ∀ (kV doc pm : Value) (an : Option Addr) (cdv ct : Value) (us : List Value), us.length = ps.length → bindArgs (PySem.W.fnOf x x (defArgs st) (defBody st) (defScope st) .none kV doc pm an cdv ct) ⟨us, []⟩ = pure (ps.zip us))
    (h : ∀ fd, FnP K x st fd → FnOk P w K mg base CX k (ga K x) fd ps sp) : Df P w K mg base CX k x ps sp := by
  obtain ⟨fd, F⟩ := hF
  exact ⟨hm, F.kp, fd, h fd F, F.bindsN hb⟩
end
section
variable {X : Cx} {CX : CXT} {k : Nat} {x : Str} {ps : List Str} {sp : Sp} {E : XK} {e : Expr} {es : List Expr} {t : TA} {p pos : Pos}
theorem pe_cd (D : Df X.prog X.w X.K X.mg X.base CX k x ps sp) (hr : Room k X.A) (hg : Gl X x) (hx : Passes CX X E) (ha : PA X (e :: es) t) (hdb : (x == ("__debug__" : Str)) = false := by decide)
    (he : starEach (e :: es) X.env = (false, eval e X.env) :: starEach es X.env := by rfl) (hpl : (backTo pos (starEach es X.env)).any (·.1) = false := by rfl) : PE X (.Call (.Name x p) (e :: es) [] pos) (tCall sp [] E t) := by
  obtain ⟨fd, F, b⟩ := D.ex
  exact pe_call F hr hg D.mg_ D.kp b .nil hx ha hdb he hpl
theorem pe_cd0 (D : Df X.prog X.w X.K X.mg X.base CX k x ps sp) (hr : Room k X.A) (hg : Gl X x) (hx : Passes CX X E) (hdb : (x == ("__debug__" : Str)) = false := by decide) : PE X (.Call (.Name x p) [] [] pos) (tCall sp [] E tNil) := by
  obtain ⟨fd, F, b⟩ := D.ex
  exact pe_call0 F hr hg D.mg_ D.kp b .nil hx hdb
end
theorem hu65_of {A : Around} {k : Nat} (hr : Room k A) : A.units + 65 < cLine := by have := hr.un; omega
/-! ### heaps -/
theorem upd_self {H : Hp} {a : Addr} {o : HO} (h : H a = some o) : upd H a o = H := by
  funext b; unfold upd; split
  · rename_i e; rw [e, h]
  · rfl
theorem upd_none_iff {H : Hp} {a b : Addr} {o : HO} : upd H a o b = none ↔ b ≠ a ∧ H b = none := by
  constructor
  · intro h
    by_cases e : b = a
    · rw [e, upd_same] at h; cases h
    · rw [upd_ne e] at h; exact ⟨e, h⟩
  · rintro ⟨e, h⟩
    rw [upd_ne e]; exact h
/-- what stands in both is the same -/
theorem Same.upd {H H' : Hp} {a : Addr} {o : HO} (s : Same H H') (h : H a = none) : Same H (L2.upd H' a o) := fun b u e => by
  rw [upd_ne (ne_of_none e h)]
  exact s b u e
/-! ### tests and joins -/
theorem ifd {p : Prop} [Decidable p] {A B : Prop} (h1 : p → A) (h2 : ¬ p → B) : if decide p = true then A else B := by
  by_cases h : p
  · rw [decide_eq_true h, if_pos rfl]; exact h1 h
  · rw [decide_eq_false h, if_neg Bool.false_ne_true]; exact h2 h
theorem ifb {b : Bool} {A B : Prop} (h1 : b = true → A) (h2 : b = false → B) : if b = true then A else B := by
  cases b with
  | true => exact h1 rfl
  | false => rw [if_neg Bool.false_ne_true]; exact h2 rfl
section
variable {σ : L2.St} {H : Hp} {ta tb : TE} {D : Ends} {t1 t2 : TS} {c t u : TT} {a b : Bool} {Q : VK}
theorem val_orV (h1 : Val ta σ H (.bl a)) (h2 : Val tb σ H (.bl b)) : Val (tOrV ta tb) σ H (.bl (a || b)) := by
  intro Q q
  refine h1 _ ⟨a, rfl, ?_⟩
  cases a with
  | true => exact q
  | false => rw [if_neg Bool.false_ne_true]; exact h2 _ q
theorem val_andV (h1 : Val ta σ H (.bl a)) (h2 : Val tb σ H (.bl b)) : Val (tAndV ta tb) σ H (.bl (a && b)) := by
  intro Q q
  refine h1 _ ⟨a, rfl, ?_⟩
  cases a with
  | true => exact h2 _ q
  | false => rw [if_neg Bool.false_ne_true]; exact q
theorem val_notV (h1 : Val ta σ H (.bl a)) : Val (tNotV ta) σ H (.bl (!a)) := fun Q q => h1 _ ⟨a, rfl, q⟩
theorem ans_or2 {b1 b2 : Bool} (h1 : Ans t σ H b1) (h2 : Ans u σ H b2) : Ans (tOr t u) σ H (b1 || b2) := by
  cases b1 with
  | true => exact ans_or1 h1
  | false => exact ans_or h1 h2
theorem st_if {b : Bool} (h : Ans c σ H b) (h1 : b = true → t1 D σ H) (h2 : b = false → t2 D σ H) : tIfS c t1 t2 D σ H := by
  refine h _ ?_
  show (if b = true then t1 D σ H else t2 D σ H)
  exact ifb h1 h2
theorem val_int {f : Int → Int → V} {x y : Int} (ha : Val ta σ H (.int x)) (hb : Val tb σ H (.int y)) : Val (tOp (rI0 f) ta tb) σ H (f x y) := val_op ha hb fun _ q => ⟨_, _, rfl, rfl, q⟩
theorem val_intC {C : Int → Int → Prop} {f : Int → Int → V} {x y : Int} (ha : Val ta σ H (.int x)) (hb : Val tb σ H (.int y)) (h : C x y) : Val (tOp (rI C f) ta tb) σ H (f x y) := val_op ha hb fun _ q => ⟨_, _, rfl, rfl, h, q⟩
theorem val_ixL {K : PySem.W.Frag} {p : Addr} {xs : List V} {i : Int} {v : V} (ha : Val ta σ H (.ref p)) (hb : Val tb σ H (.int i)) (h : SqL K H p xs) (e : atI xs i = some v) : Val (tOp (rIxL K) ta tb) σ H v := val_op ha hb fun _ q => ⟨_, _, _, _, rfl, rfl, h, e, q⟩
theorem val_toInt {x : Int} (ha : Val ta σ H (.int x)) : Val (tCB (fun xs H Q => (∃ i, xs = [V.int i] ∧ Q (V.int i) H) ∨ ∃ k, xs = [V.bl k] ∧ Q (V.int (if k then 1 else 0)) H) (tCons ta tNil)) σ H (.int x) := fun Q q => ha _ (Or.inl ⟨x, rfl, q⟩)
end
section
variable {σ : L2.St} {H : Hp} {ta tb te : TE} {D : Ends} {t1 t2 tz : TS} {c : TT} {b : Bool} {v : V} {i : Nat}
theorem sq_set (h : Val te σ H v) (k : tz D (σ.set i (some v)) H) : tSeq (tAsg te (gName i)) tz D σ H := h _ k
theorem sq_if (h : Ans c σ H b) (h1 : b = true → t1 { D with nx := tz D } σ H) (h2 : b = false → t2 { D with nx := tz D } σ H) : tSeq (tIfS c t1 t2) tz D σ H := st_if (D := { D with nx := tz D }) h h1 h2
theorem sq_when (h : Ans c σ H b) (h1 : b = true → t1 { D with nx := tz D } σ H) (h2 : b = false → tz D σ H) : tSeq (tIfS c t1 tNext) tz D σ H := st_if (D := { D with nx := tz D }) h h1 h2
theorem sq_setL {l : Addr} {xs : List V} {k : Int} {j : Nat} (hl : H l = some (.lst xs)) (h : Val te σ H v) (ho : Val ta σ H (.ref l)) (hi : Val tb σ H (.int k)) (hj : ixN xs.length k = some j) (q : tz D σ (upd H l (.lst (xs.set j v)))) : tSeq (tAsg te (gSub ta tb rSetL)) tz D σ H :=
  h _ (ho _ (hi _ ⟨l, xs, k, j, rfl, rfl, hl, hj, q⟩))
theorem st_setL {l : Addr} {xs : List V} {k : Int} {j : Nat} (hl : H l = some (.lst xs)) (h : Val te σ H v) (ho : Val ta σ H (.ref l)) (hi : Val tb σ H (.int k)) (hj : ixN xs.length k = some j) (q : D.nx σ (upd H l (.lst (xs.set j v)))) : tAsg te (gSub ta tb rSetL) D σ H :=
  h _ (ho _ (hi _ ⟨l, xs, k, j, rfl, rfl, hl, hj, q⟩))
theorem tyes {A B : Hp → Prop} (h : A H) : tYes σ H fun b H3 => if b = true then A H3 else B H3 := by
  show (if true = true then A H else B H)
  rw [if_pos rfl]; exact h
theorem val_len {K : PySem.W.Frag} {p : Addr} {xs : List V} (ha : Val ta σ H (.ref p)) (h : SqL K H p xs) : Val (tCB (fun xs H Q => ∃ p ys, xs = [.ref p] ∧ (SqL K H p ys ∨ SqT K H p ys) ∧ Q (.int ys.length) H) (tCons ta tNil)) σ H (.int (xs.length : Int)) := fun _ q => ha _ ⟨p, xs, rfl, .inl h, q⟩
theorem val_chain {r r' : R2} {tc : TE} {x y w : V} {a b : Bool} (ha : Val ta σ H x) (hb : Val tb σ H y) (hc : Val tc σ H w) (h1 : ∀ Q : VK, Q (.bl a) H → r x y H Q) (h2 : ∀ Q : VK, Q (.bl b) H → r' y w H Q) : Val (tChain r r' ta tb tc) σ H (.bl (a && b)) := by
  intro Q q
  refine ha _ (hb _ (h1 _ ⟨a, rfl, ?_⟩))
  cases a with
  | true => exact hc _ (h2 _ q)
  | false => exact q
theorem val_abs {x : Int} (ha : Val ta σ H (.int x)) : Val (tCB (fun xs H Q => ∃ i, xs = [.int i] ∧ Q (.int (if i < 0 then -i else i)) H) (tCons ta tNil)) σ H (.int (if x < 0 then -x else x)) := fun _ q => ha _ ⟨x, rfl, q⟩
theorem ans_int {f : Int → Int → Bool} {x y : Int} (ha : Val ta σ H (.int x)) (hb : Val tb σ H (.int y)) : Ans (tTest (tOp (rI0 fun i j => .bl (f i j)) ta tb)) σ H (f x y) := ans_cmp ha hb fun _ q => ⟨_, _, rfl, rfl, q⟩
end
/-! ### the source of draws: a list of cells at L, three numbers -/
structure SrcOk (cells : List Int) (i k g : Int) : Prop where
  i0 : 0 ≤ i
  k0 : 0 ≤ k
  g0 : 0 ≤ g
  len : cells.length ≤ 63
/-- the source object -/
abbrev srcO (L : Addr) (i k g : Int) : HO := .lst [.ref L, .int i, .int k, .int g]
/-- _law_draw(source, many): a number below many -/
def spDraw : Sp := fun vs H Q _ => ∃ (S L : Addr) (cells : List Int) (i k g many : Int), vs = [.ref S, .int many] ∧ H S = some (srcO L i k g) ∧ H L = some (.lst (cells.map V.int)) ∧ SrcOk cells i k g ∧ 0 < many ∧ many < 2 ^ 200 ∧
  ∀ n i' k' g', 0 ≤ n → n < many → SrcOk cells i' k' g' → Q (.int n) (upd H S (srcO L i' k' g'))
theorem cell_at {cells : List Int} {i : Int} (h0 : 0 ≤ i) (h : i < (cells.length : Int)) : ∃ c, atI (cells.map V.int) i = some (.int c) := by
  obtain ⟨j, rfl⟩ := Int.eq_ofNat_of_zero_le h0
  have hi : j < cells.length := by omega
  exact ⟨cells[j], atI_nat (by rw [List.getElem?_map, List.getElem?_eq_getElem hi]; rfl)⟩
theorem pow18 : (10 : Int) ^ (18 : Int).toNat = 1000000000000000000 := by decide +kernel
end Tp
namespace Tp
open PySem PySem.Spec PyProof.Rows L2
/-- what the clauses wish of an exception of the body, one after the other; a slot where the clause has a name -/
def wCls (K : PySem.W.Frag) (Wout : WX) (D : Ends) : List (Value × Option Nat × (Addr → Value → Option Addr → TS)) → WX
  | [] => Wout
  | (c, none, ts) :: r => fun cls d σ H => ∃ b, PySem.W.exmOne K cls c = some b ∧ (b = true → ∀ a, H a = none → ts a cls d D σ H) ∧ (b = false → wCls K Wout D r cls d σ H)
  | (c, some i, ts) :: r => fun cls d σ H => ∃ b, PySem.W.exmOne K cls c = some b ∧
      (b = true → ∀ a, H a = none → ts a cls d { nx := fun σ' H' => D.nx (σ'.set i none) H', rt := D.rt, bk := fun σ' H' => D.bk (σ'.set i none) H', ct := fun σ' H' => D.ct (σ'.set i none) H' } (σ.set i (some (.ref a))) H) ∧
      (b = false → wCls K Wout D r cls d σ H)
inductive ClsOk (X : Cx) : List ExceptHandler → List (Value × Option Nat × (Addr → Value → Option Addr → TS)) → Prop
  | nil : ClsOk X [] []
  | cons {x : Str} {c : Value} {ts : Addr → Value → Option Addr → TS} {b₀ : Stmt} {suite : List Stmt} {np pos' : Pos} {hds : List ExceptHandler} {l : List (Value × Option Nat × (Addr → Value → Option Addr → TS))} (hc : Names X x c)
      (hsu : ∀ (a : Addr) (oe : Obj) (cls : Value) (d : Option Addr) (pn : List (Addr × Obj)), Zc cls d oe → (∃ vs, oe.data = .fields vs) → PSs (X.suite a ((a, oe) :: pn)) (b₀ :: suite) (ts a cls d)) (r : ClsOk X hds l) :
      ClsOk X (.ExceptHandler (some (.Name x np)) none (b₀ :: suite) pos' :: hds) ((c, none, ts) :: l)
  | as {x n : Str} {i : Nat} {c : Value} {ts : Addr → Value → Option Addr → TS} {b₀ : Stmt} {suite : List Stmt} {np pos' : Pos} {hds : List ExceptHandler} {l : List (Value × Option Nat × (Addr → Value → Option Addr → TS))} (hN : X.N.Nodup) (hi : X.N[i]? = some n) (hln : X.env.kindOf n = some .local) (hc : Names X x c)
      (hsu : ∀ (a : Addr) (oe : Obj) (cls : Value) (d : Option Addr) (pn : List (Addr × Obj)), Zc cls d oe → (∃ vs, oe.data = .fields vs) → PSs (X.suite a ((a, oe) :: pn)) (b₀ :: suite) (ts a cls d)) (r : ClsOk X hds l) :
      ClsOk X (.ExceptHandler (some (.Name x np)) (some n) (b₀ :: suite) pos' :: hds) ((c, some i, ts) :: l)
section
variable {X : Cx} {body : List Stmt} {h₀ : ExceptHandler} {hds : List ExceptHandler} {l : List (Value × Option Nat × (Addr → Value → Option Addr → TS))} {pos : Pos} {tb : WX → TS} {Wout : WX}
theorem ps_try_cls (hs : X.stack = X.env :: X.outer) (hf : X.env.frame = some X.env.locals) (tk : Takes X Wout)
    (hb : ∀ (W : WX) (pn : List (Addr × Obj)) (xe : Value → Shared → Prop), Takes (X.tr pn xe) W → PassesOwn (model X.prog X.w) X.A X.env xe → PSs (X.tr pn xe) body (tb W))
    (hh : ClsOk X (h₀ :: hds) l) : PS X (.Try body (h₀ :: hds) [] [] pos) (fun D σ H => tb (wCls X.K Wout D l) D σ H) := by
  refine ⟨fun pins s σ H D I h => ?_⟩
  have ok := I.ok
  have hfr : X.A.frames = some (X.env :: X.outer) := by rw [ok.frames, hs]
  refine wpAny_Try_except ?_
  refine wpAny_mono ((hb (wCls X.K Wout D l) (X.pn ++ pins) (fun e s₁ => wpAny (model X.prog X.w) X.A (noteFrame e X.env) (fun _ s₂ => wpAny (model X.prog X.w) X.A (setFlight e none) (fun _ s₃ =>
    wpAny (model X.prog X.w) X.A (handleBy e X.env (h₀ :: hds)) (SP X pins D) X.xe s₃) X.xe s₂) X.xe s₁) (fun u s' xx => ?_) PassesOwn.looking).run [] s σ H D (I.toTry _) h) (fun f s1 hsp => ?_) (fun e s1 he => he)
  · obtain ⟨a, B, sI, pins', σ', H', cls, d, rfl, J', nb, up, sky, na, os, ag, w⟩ := xx
    have J : Inv X pins σ' H' sI := J'.ofTry ok
    have sky' : Sky B (X.env :: X.outer) a (Zc cls d) X.env.locals s'.heap := by rw [← hs]; exact sky
    show wpAny (model X.prog X.w) X.A (noteFrame (.ref a) X.env) _ _ _
    refine Sky.land Zc.steady hfr hf sky' fun h3 fl3 up3 => ?_
    have J3 : Inv X pins σ' H' { s' with heap := h3 } := J.landed nb fl3.1 (up.trans up3) os ag
    obtain ⟨oe3, vs3, he3, hz3, hd3⟩ := fl3.there
    have notFr : ∀ {h : Heap} {o : Obj} {vs : Array Value}, h.FunFrames B (X.env :: X.outer) → h.get? a = some o → o.data = .fields vs → a ∉ frs (X.env :: X.outer) := fun {h o vs} ff e dd hm => by
      obtain ⟨_, o', e', hnf⟩ := ff.mem hm
      rw [e] at e'; cases e'
      exact hnf _ dd
    have nfr := notFr fl3.2.2.1 he3 hd3
    have nL : a ≠ X.env.locals := fun z => nfr (List.mem_filterMap.mpr ⟨X.env, List.mem_cons_self, by rw [hf, z]⟩)
    have nF : a ∉ X.fs := fun hm => by
      obtain ⟨e, he, q⟩ := List.mem_filterMap.mp hm
      exact nfr (List.mem_filterMap.mpr ⟨e, List.mem_cons_of_mem _ he, q⟩)
    have S3 := J3.suite he3 hd3 na nL nF
    have LT : PySem.W.Looks (model X.prog X.w) h3 (typeOf (.ref a)) cls := fun A Q E s k q => wpAny_typeOf_ref (k _ _ he3) (by rw [hz3.1]; exact q)
    have test : ∀ {x : Str} {np : Pos} {c : Value} (hc : Names X x c) {Q : Value → Shared → Prop} {E : Value → Shared → Prop}, Q c { s' with heap := h3 } → wpAny (model X.prog X.w) (X.A.mark (some (.ref a))) (eval (.Name x np) X.env) Q E { s' with heap := h3 } := fun {x np c} hc {Q E} q => by
      obtain ⟨hg, hdbg, hm | ⟨hm, hv, hnn⟩⟩ := hc
      · exact ld_glob (X := X.suite a ((a, oe3) :: (X.pn ++ pins))) S3 hg hm q hdbg
      · exact ld_blt (X := X.suite a ((a, oe3) :: (X.pn ++ pins))) S3 hg hm hv q hnn hdbg
    have go : ∀ {hds' : List ExceptHandler} {l' : List (Value × Option Nat × (Addr → Value → Option Addr → TS))}, ClsOk X hds' l' → wCls X.K Wout D l' cls d σ' H' →
        wpAny (model X.prog X.w) X.A (handleBy (.ref a) X.env hds') (SP X pins D) X.xe { s' with heap := h3 } := by
      intro hds' l' hk
      induction hk with
      | nil =>
        intro w
        refine wpAny_handleBy_nil ?_
        obtain ⟨k1, k2, k3, oe, vs, T, oT, ts', he, hz, hd, h1, hr⟩ := id fl3
        unfold PySem.passOn
        refine wpAny_bind (wpAny_field he hd h1 ?_)
        rw [if_neg (show ¬ ((Value.ref T == Value.none) = true) from by simp)]
        have fin : wpAny (model X.prog X.w) X.A (setFlight (.ref a) X.env.frame) (fun _ s4 => wpAny (model X.prog X.w) X.A (throw (.ref a) : Sem Flow) (SP X pins D) X.xe s4) X.xe { s' with heap := h3 } := by
          rw [hf]
          refine HandSPX.setFlight_upZ fl3 fun h4 hh4 up4 => wpAny_throw (tk _ _ ?_)
          exact ⟨a, B, sI, pins, σ', H', cls, d, rfl, J, nb, (up.trans up3).trans up4, .inr (.inr (by rw [hs]; exact hh4)), na, os, ag, w⟩
        first
          | exact wpAny_bind (wpAny_pure (wpAny_bind fin))
          | exact wpAny_bind fin
      | @cons x c ts b₀ suite np pos' hds2 l2 hc hsu r ih =>
        intro w
        obtain ⟨b, hb1, hyes, hno⟩ := w
        refine wpAny_handleBy_cons (codeAny_handlers_test ?_) (by intro q; cases q)
        have LM := PySem.W.exm_one (M := model X.prog X.w) (J3.kIn) LT hb1
        refine test hc (LM.here ?_)
        cases b with
        | true =>
          refine codeAny_handlers_suite ?_
          refine HandSPX.lands_againZ fl3 fun h4 fl4 up4 => ?_
          have J4 : Inv X pins σ' H' { s' with heap := h4 } := J.landed nb fl4.1 ((up.trans up3).trans up4) os ag
          obtain ⟨oe4, vs4, he4, hz4, hd4⟩ := fl4.there
          have S4 := J4.suite he4 hd4 na nL nF
          refine wpAny_mono ((hsu a oe4 cls d (X.pn ++ pins) hz4 ⟨_, hd4⟩).run [] _ _ H' _ S4 (hyes rfl a na)) (fun f s6 hsp => ?_) (fun _ _ z => False.elim z)
          cases f with
          | next =>
            obtain ⟨σ6, H6, S6, q6⟩ := hsp
            exact ⟨_, _, S6.unsuite ok, q6⟩
          | brk =>
            obtain ⟨σ6, H6, S6, q6⟩ := hsp
            exact ⟨_, _, S6.unsuite ok, q6⟩
          | cont =>
            obtain ⟨σ6, H6, S6, q6⟩ := hsp
            exact ⟨_, _, S6.unsuite ok, q6⟩
          | ret u =>
            obtain ⟨v6, σ6, H6, S6, r6, q6⟩ := hsp
            exact ⟨_, _, _, S6.unsuite ok, r6, q6⟩
        | false =>
          show wpAny _ X.A (handleBy (.ref a) X.env hds2) _ _ _
          exact ih (hno rfl)
      | @as x n i c ts b₀ suite np pos' hds2 l2 hN hi hln hc hsu r ih =>
        intro w
        obtain ⟨b, hb1, hyes, hno⟩ := w
        have hloc : Loc X.env.scope n := .inl hln
        refine wpAny_handleBy_cons (codeAny_handlers_test ?_) (by intro q; cases q)
        have LM := PySem.W.exm_one (M := model X.prog X.w) (J3.kIn) LT hb1
        refine test hc (LM.here ?_)
        cases b with
        | true =>
          refine codeAny_handlers_suite_as ?_
          refine HandSPX.lands_againZ fl3 fun h4 fl4 up4 => ?_
          have J4 : Inv X pins σ' H' { s' with heap := h4 } := J.landed nb fl4.1 ((up.trans up3).trans up4) os ag
          obtain ⟨oe4, vs4, he4, hz4, hd4⟩ := fl4.there
          have S4 := J4.suite he4 hd4 na nL nF
          refine store_ok (X := X.suite a ((a, oe4) :: (X.pn ++ pins))) (v := .ref a) S4 hN hi hloc rfl (fun s5 S5 => ?_) (.inr hln)
          refine wpAny_mono ((hsu a oe4 cls d (X.pn ++ pins) hz4 ⟨_, hd4⟩).run [] s5 _ H' _ S5 (hyes rfl a na)) (fun f s6 hsp => ?_) (fun _ _ z => False.elim z)
          have end_ : ∀ {σ6 : L2.St} {H6 : Hp} {Q : Shared → Prop}, Inv (X.suite a ((a, oe4) :: (X.pn ++ pins))) [] σ6 H6 s6 → (∀ s7, Inv X pins (σ6.set i none) H6 s7 → Q s7) →
              wpAny (model X.prog X.w) X.A (do bindName X.env n .none; unbindBehindTheSuite X.env n pos') (fun _ s7 => Q s7) X.xe s6 := fun {σ6 H6 Q} S6 hq => gone_ok (S6.unsuite ok) hN hi hln hq
          cases f with
          | next =>
            obtain ⟨σ6, H6, S6, q6⟩ := hsp
            exact end_ S6 fun s7 J7 => ⟨_, _, J7, q6⟩
          | brk =>
            obtain ⟨σ6, H6, S6, q6⟩ := hsp
            exact end_ S6 fun s7 J7 => ⟨_, _, J7, q6⟩
          | cont =>
            obtain ⟨σ6, H6, S6, q6⟩ := hsp
            exact end_ S6 fun s7 J7 => ⟨_, _, J7, q6⟩
          | ret u =>
            obtain ⟨v6, σ6, H6, S6, r6, q6⟩ := hsp
            exact end_ S6 fun s7 J7 => ⟨_, _, _, J7, r6, q6⟩
        | false =>
          show wpAny _ X.A (handleBy (.ref a) X.env hds2) _ _ _
          exact ih (hno rfl)
    exact go hh w
  · cases f with
    | next =>
      obtain ⟨σ', H', J', q⟩ := hsp
      exact wpAny_execs_nil ⟨σ', H', J'.ofTry ok, q⟩
    | brk =>
      obtain ⟨σ', H', J', q⟩ := hsp
      exact ⟨σ', H', J'.ofTry ok, q⟩
    | cont =>
      obtain ⟨σ', H', J', q⟩ := hsp
      exact ⟨σ', H', J'.ofTry ok, q⟩
    | ret u =>
      obtain ⟨v, σ', H', J', r, q⟩ := hsp
      exact ⟨v, σ', H', J'.ofTry ok, r, q⟩
end
end Tp
namespace Tp
open PySem PySem.Spec PySem.Calls PyProof.Rows PySem.W
section
variable {prog : Program} {w : World} {A : Around} {E : Value → Shared → Prop} {s : Shared} {K : Frag} {x D : Addr} {ox : Obj} {od : Option Obj}
theorem find_data {C : Addr} {name : Str} {a g : Value} (hc : (clsIn K C).isSome = true) (ha : findIn K (.ref C) name = some (some a)) (hg : specialIn K a "__get__" = some (some g)) (ht : takesIn K a = some true) : findObj K C od name = some (.bind g a) := by
  obtain ⟨cd, hc⟩ := Option.isSome_iff_exists.mp hc
  unfold findObj
  rw [hc, Option.bind_some, ha, Option.bind_some]
  simp [hg, ht]
theorem cls_of_exc {Q : Option Value → Shared → Prop} (hga : findIn K (.ref D) "__getattribute__" = some (some (.builtin "BaseException.__getattribute__"))) (hgt : findIn K (.ref D) "__getattr__" = some none) (hsub : subIn K (.ref D) (.type "BaseException") = some true)
    (hdct : hasDictIn K D = true) (ha : findIn K (.ref D) "__class__" = some (some (.builtin "object.__class__")))
    (hn : specialIn K (.builtin "object.__class__") "__get__" = some (some (.builtin "getset_descriptor.__get__"))) (htk : takesIn K (.builtin "object.__class__") = some true) (hm : mroIn K D (.type "object") = some true)
    (X : K.In s.heap) (I : InstAt s.heap x ox D od) (h : Q (some (.ref D)) { s with toks := s.toks + 1 }) : wpAny (model prog w) A (getAttr? (.ref x) "__class__") Q E s := by
  have hf : findObj K D od "__class__" = some (.bind (.builtin "getset_descriptor.__get__") (.builtin "object.__class__")) := find_data (by obtain ⟨cd, hc, _⟩ := any_some hdct; rw [hc]; rfl) ha hn htk
  obtain ⟨hp, g, d, t, os⟩ := s
  have L0 := I.type (M := model prog w)
  have L1 := looks_findIn (M := model prog w) X hga
  have L2 := looks_findIn (M := model prog w) X hgt
  have L3 := looks_find (M := model prog w) X I hf
  have sub : Looks (model prog w) hp (isInstance (.ref x) (.type "BaseException")) true := L0.andThen (looks_subIn X hsub)
  have hx0 : (false && onTheHeap (Value.builtin "BaseException.__getattribute__")) = false := rfl
  have hx2 : (Value.builtin "BaseException.__getattribute__" == Value.builtin "object.__getattribute__") = false := by decide +kernel
  have hx1 : (onTheHeap (Value.ref D) && Value.builtin "BaseException.__getattribute__" == Value.builtin "object.__getattribute__") = false := by rw [hx2]; rfl
  unfold getAttr? getAttrBy? getAttrBy
  refine wpAny_bind (wpAny_mkText (wpAny_bind (wpAny_attempt (wpAny_holding (wpAny_bind (L0.at (wpAny_bind (L1.at ?_))))))))
  show wpAny _ _ (if (onTheHeap (Value.ref D) && Value.builtin "BaseException.__getattribute__" == Value.builtin "object.__getattribute__") = true then _ else _) _ _ _
  rw [hx1, if_neg Bool.false_ne_true]
  unfold getAttrByItsOwn hookBefore
  refine wpAny_bind ?_
  rw [if_pos (show onTheHeap (Value.ref D) = true from rfl)]
  refine L2.at ?_
  refine wpAny_bind (wpAny_attempt (wpAny_holding ?_))
  unfold callGetattribute
  rw [hx0, if_neg Bool.false_ne_true]
  unfold boundAndCalled
  rw [PySem.F.excAttr_ValueError.ga.bind (.ref x)]
  refine wpAny_bind (wpAny_pure ?_)
  show wpAny _ _ (call (.builtin "BaseException.__getattribute__") [.ref x, .str "__class__" t]) _ _ _
  refine wpAny_call (codeAny_call_builtin PySem.F.excAttr_ValueError.ga.plain PySem.F.entry_bexc_ga ?_)
  refine @check_slot (model prog w) _ _ ⟨hp, g, d, t + 1, os⟩ "BaseException.__getattribute__" "BaseException" "__getattribute__" (.ref x) [.str "__class__" t] [] _ (by decide +kernel) (by decide +kernel) sub (PySem.F.args_bexc_ga (.ref x) (.str "__class__" t)) ?_
  unfold Builtin.«object.__getattribute__»
  refine wpAny_bind (wpAny_of_eq (a := ((Value.ref x : Value), [Value.str "__class__" t])) (by first | rfl | (simp only [slotArgs]; rfl)) ?_)
  refine wpAny_bind (wpAny_pure (wpAny_bind (L0.at (wpAny_bind (L3.at ?_)))))
  show wpAny _ _ (holding [Value.builtin "object.__class__"] (call (.builtin "getset_descriptor.__get__") [.builtin "object.__class__", .ref x, .ref D]) >>= ret) _ _ _
  refine wpAny_bind (wpAny_holding (wpAny_call (class_get (s := ⟨hp, g, d, t + 1, os⟩) (ox := ox) (od := od) X I hm ?_)))
  refine wpAny_pure ?_
  show wpAny _ _ (handedOut (.ref D)) _ _ _
  rw [handedOut_of (v := .ref D) rfl]
  first
    | exact wpAny_pure (wpAny_pure h)
    | exact wpAny_pure h
    | exact wpAny_pure (wpAny_bind (wpAny_pure (wpAny_pure h)))
theorem kitx_excO (hga : findIn K (.ref D) "__getattribute__" = some (some (.builtin "BaseException.__getattribute__"))) (hgt : findIn K (.ref D) "__getattr__" = some none) (hsub : subIn K (.ref D) (.type "BaseException") = some true) (hdct : hasDictIn K D = true) (ha : findIn K (.ref D) "__class__" = some (some (.builtin "object.__class__")))
    (hn : specialIn K (.builtin "object.__class__") "__get__" = some (some (.builtin "getset_descriptor.__get__"))) (htk : takesIn K (.builtin "object.__class__") = some true) (hm : mroIn K D (.type "object") = some true) :
    KitX K (.ref x) (.ref D) (fun h => InstAt h x ox D od) where
  ty := fun _ _ _ I => I.type
  it := fun _ _ X _ => by
    obtain ⟨cdD, hcD, _⟩ := any_some hdct
    unfold clsIn at hcD
    split at hcD
    · rename_i c' d' cd' sl' ho
      intro A' Q' E' s' k q
      unfold isType loadHead
      exact wpAny_bind (wpAny_loadPart (k _ _ (X _ _ ho)) (wpAny_pure q))
    · cases hcD
  ne := fun h tp dd its n sl X htp => by
    obtain ⟨cdD, hcD, _⟩ := any_some hdct
    refine Bool.eq_false_iff.mpr fun q => ?_
    have e : D = tp := Value.ref.inj (beq_iff_eq.mp q)
    subst e
    unfold clsIn at hcD
    split at hcD
    · rename_i c' d' cd' sl' ho
      have z := (X _ _ ho).symm.trans htp
      cases z
    · cases hcD
  ca := fun X I k => cls_of_exc hga hgt hsub hdct ha hn htk hm X I k
end
end Tp
namespace Tp
open PySem PySem.Spec PyProof.Rows L2
/-- isinstance(e, c) in the suite that holds e, an error of the class at D with a dict at dd -/
def rIsX (K : PySem.W.Frag) (D a : Addr) : List V → Hp → VK → Prop := fun xs H Q => ∃ (c : V) (cv : Value) (b : Bool), xs = [.ref a, c] ∧ (∀ u, RelV c u → u = cv) ∧ PySem.W.kitOne K (.ref D) cv = some b ∧ Q (.bl b) H
/-- a pinned error: at a an object of class D with its dict at dd, which the abstract heap knows -/
theorem isX_core {X : Cx} {a D dd : Addr} {oe : Obj} {pins : List (Addr × Obj)} {s : Shared} {σ : L2.St} {H : Hp} {c : V} {cu cv : Value} {b : Bool} {Q : VK} {fs : List (Str × V)} (C : ExcC X.K D) (I : Inv X pins σ H s) (hp : s.heap.get? a = some oe) (hz : Zc (.ref D) (some dd) oe) (hf : ∃ vs, oe.data = .fields vs)
    (hd : H dd = some (.xd fs)) (rt : RelV c cu) (hcv : ∀ u, RelV c u → u = cv) (e : PySem.W.kitOne X.K (.ref D) cv = some b) (q : Q (.bl b) H) :
    wpAny (model X.prog X.w) X.A (call (.builtin "isinstance") [.ref a, cu]) (EP X pins σ Q) X.xe s := by
  have ec := hcv _ rt
  subst ec
  obtain ⟨vs, hv⟩ := hf
  have hx : ObjOk X.prog X.w H s.heap dd (.xd fs) := I.hok dd _ hd
  obtain ⟨mA, ⟨od, es, ep, ho, _⟩, _⟩ := hx
  have J : PySem.W.InstAt s.heap a oe D (some od) := by
    obtain ⟨oc, od', oda, osl⟩ := oe
    obtain ⟨h1, h2⟩ := hz
    dsimp only at h1 h2 hv
    subst h1 h2 hv
    exact ⟨hp, rfl, rfl, ho⟩
  exact PySem.W.kia_one (kitx_excO C.hg C.hk C.hs C.hd C.ha C.hn C.ht C.hm) I.kIn J e (fun z => nomatch z) fun tk => ⟨.bl b, H, I.kept (t' := tk) fun _ _ z => z, rfl, q⟩
def rIsXd (K : PySem.W.Frag) (D a dd : Addr) : List V → Hp → VK → Prop := fun xs H Q => ∃ (c : V) (cv : Value) (b : Bool) (fs : List (Str × V)), xs = [.ref a, c] ∧ H dd = some (.xd fs) ∧ (∀ u, RelV c u → u = cv) ∧ PySem.W.kitOne K (.ref D) cv = some b ∧ Q (.bl b) H
theorem call_isX {X : Cx} {a D dd : Addr} {oe : Obj} {pn : List (Addr × Obj)} (C : ExcC X.K D) (hz : Zc (.ref D) (some dd) oe) (hf : ∃ vs, oe.data = .fields vs) : CallR (X.suite a ((a, oe) :: pn)) (.builtin "isinstance") (rIsXd X.K D a dd) := by
  intro pins s σ H xs us Q I r h
  obtain ⟨c, cv, b, fs, rfl, hd, hcv, e, q⟩ := h
  cases r with
  | cons rx rr =>
    cases rr with
    | cons rt rr =>
      cases rr
      cases rx
      obtain ⟨hget, _⟩ := I.pin (a, oe) (List.mem_append.mpr (.inl List.mem_cons_self))
      exact isX_core C I hget hz hf hd rt hcv e q
end Tp
namespace Tp
open PySem PySem.Spec PyProof.Rows L2
/-! ### how heaps go on: all that was tracked stays but what stands at ms; tuples stay -/
structure Ext (ms : List Addr) (H H' : Hp) : Prop where
  keep : ∀ b o, H b = some o → b ∉ ms → H' b = some o
  tups : ∀ b xs, H b = some (.tup xs) → H' b = some (.tup xs)
section
variable {ms ns : List Addr} {H H1 H2 H' : Hp} {a p : Addr} {o u : HO}
theorem Ext.refl : Ext ms H H := ⟨fun _ _ h _ => h, fun _ _ h => h⟩
theorem Ext.trans (e : Ext ms H H1) (f : Ext ms H1 H2) : Ext ms H H2 := ⟨fun b o h n => f.keep b o (e.keep b o h n) n, fun b xs h => f.tups b xs (e.tups b xs h)⟩
theorem Ext.mono (e : Ext ms H H1) (h : ∀ b, b ∈ ms → b ∈ ns) : Ext ns H H1 := ⟨fun b o q n => e.keep b o q fun z => n (h b z), e.tups⟩
theorem Ext.nil (e : Ext [] H H1) : Ext ms H H1 := e.mono fun _ z => nomatch z
theorem Ext.new (h : H p = none) : Ext ms H (upd H p o) := ⟨fun b o q _ => by rw [upd_ne (ne_of_none q h)]; exact q, fun b xs q => by rw [upd_ne (ne_of_none q h)]; exact q⟩
theorem Ext.mut (e : Ext ms H H1) (hm : a ∈ ms) (h : ∀ xs, H a ≠ some (.tup xs)) : Ext ms H (upd H1 a o) := ⟨fun b o q n => by rw [upd_ne (fun z => n (by rw [z]; exact hm))]; exact e.keep b o q n, fun b xs q => by rw [upd_ne (fun z => h xs (by rw [← z]; exact q))]; exact e.tups b xs q⟩
/-- an object that H does not know may change -/
theorem Ext.fresh (e : Ext ms H H1) (h : H a = none) : Ext ms H (upd H1 a o) := ⟨fun b o q n => by rw [upd_ne (ne_of_none q h)]; exact e.keep b o q n, fun b xs q => by rw [upd_ne (ne_of_none q h)]; exact e.tups b xs q⟩
theorem Ext.same (e : Ext [] H H1) : Same H H1 := fun b o h => e.keep b o h (by simp)
theorem Ext.of (s : Same H H1) : Ext ms H H1 := ⟨fun b o h _ => s b o h, fun b xs h => s b _ h⟩
theorem Ext.none (e : Ext ms H H1) (h : H1 a = none) (hm : a ∉ ms) : H a = none := by
  cases q : H a with
  | none => rfl
  | some o => rw [e.keep a o q hm] at h; cases h
end
/-! ### data that never changes: None, bools, ints, texts, tuples of these -/
mutual
inductive Im (H : Hp) : V → PyData → Prop
  | non : Im H .non .none
  | bl (b : Bool) : Im H (.bl b) (.bool b)
  | int (i : Int) : Im H (.int i) (.int i)
  | str (x : Str) : Im H (.str x) (.str x)
  | tup {a : Addr} {xs : List V} {ds : List PyData} : H a = some (.tup xs) → ImAll H xs ds → Im H (.ref a) (.tuple ds)
inductive ImAll (H : Hp) : List V → List PyData → Prop
  | nil : ImAll H [] []
  | cons {v : V} {vs : List V} {d : PyData} {ds : List PyData} : Im H v d → ImAll H vs ds → ImAll H (v :: vs) (d :: ds)
end
mutual
theorem Im.ext {ms : List Addr} {H H' : Hp} (e : Ext ms H H') : ∀ {d : PyData} {v : V}, Im H v d → Im H' v d
  | _, _, .non => .non
  | _, _, .bl b => .bl b
  | _, _, .int i => .int i
  | _, _, .str x => .str x
  | _, _, .tup h a => .tup (e.tups _ _ h) (ImAll.ext e a)
theorem ImAll.ext {ms : List Addr} {H H' : Hp} (e : Ext ms H H') : ∀ {ds : List PyData} {vs : List V}, ImAll H vs ds → ImAll H' vs ds
  | _, _, .nil => .nil
  | _, _, .cons h t => .cons (Im.ext e h) (ImAll.ext e t)
end
mutual
theorem Im.dp {K : PySem.W.Frag} {H : Hp} : ∀ {d : PyData} {v : V}, Im H v d → Dp K H v d
  | _, _, .non => .non
  | _, _, .bl b => .bl b
  | _, _, .int i => .int i
  | _, _, .str x => .str x
  | _, _, .tup h a => .tup (SqT.of h) (ImAll.dp a)
theorem ImAll.dp {K : PySem.W.Frag} {H : Hp} : ∀ {ds : List PyData} {vs : List V}, ImAll H vs ds → DpAll K H vs ds
  | _, _, .nil => .nil
  | _, _, .cons h t => .cons (Im.dp h) (ImAll.dp t)
end
theorem ImAll.length {H : Hp} : ∀ {vs : List V} {ds : List PyData}, ImAll H vs ds → vs.length = ds.length
  | _, _, .nil => rfl
  | _, _, .cons _ t => congrArg Nat.succ t.length
theorem ImAll.append {H : Hp} : ∀ {vs ws : List V} {ds es : List PyData}, ImAll H vs ds → ImAll H ws es → ImAll H (vs ++ ws) (ds ++ es)
  | _, _, _, _, .nil, s => s
  | _, _, _, _, .cons r t, s => .cons r (t.append s)
theorem ImAll.get {H : Hp} : ∀ {vs : List V} {ds : List PyData} {i : Nat} {v : V}, ImAll H vs ds → vs[i]? = some v → ∃ d, ds[i]? = some d ∧ Im H v d
  | _, _, _, _, .nil, e => by simp at e
  | _, _, 0, _, .cons r _, e => by simp at e; subst e; exact ⟨_, rfl, r⟩
  | _, _, i + 1, v, .cons _ t, e => by
    obtain ⟨d, h1, h2⟩ := ImAll.get (i := i) (v := v) t (by simpa using e)
    exact ⟨d, by simpa using h1, h2⟩
theorem ImAll.getD {H : Hp} : ∀ {vs : List V} {ds : List PyData} {i : Nat} {d : PyData}, ImAll H vs ds → ds[i]? = some d → ∃ v, vs[i]? = some v ∧ Im H v d
  | _, _, _, _, .nil, e => by simp at e
  | _, _, 0, _, .cons r _, e => by simp at e; subst e; exact ⟨_, rfl, r⟩
  | _, _, i + 1, v, .cons _ t, e => by
    obtain ⟨d, h1, h2⟩ := ImAll.getD (i := i) t (by simpa using e)
    exact ⟨d, by simpa using h1, h2⟩
theorem ImAll.strs {H : Hp} : ∀ zs : List Str, ImAll H (zs.map V.str) (zs.map PyData.str)
  | [] => .nil
  | z :: zs => .cons (.str z) (ImAll.strs zs)
/-- data with texts that may stand in a program's data -/
abbrev okS (z : Str) : Prop := PyData.strOk z = true
abbrev okD (d : PyData) : Prop := d.canLay0 = true ∧ d.depth ≤ 8
theorem okD.shaped {d : PyData} (h : okD d) : SeqAt.shaped d = true := by
  show (d.canLay0 && decide (d.depth ≤ 64)) = true
  rw [h.1, decide_eq_true (by have := h.2; omega)] <;> rfl
theorem okD.eqv {d : PyData} (h : okD d) : PyData.eqv d d = true := SeqAt.eqv_refl d h.1
theorem okD.str {z : Str} (h : okS z) : okD (.str z) := ⟨by rw [PyData.canLay0]; exact h, by simp [PyData.depth]⟩
theorem okD.none : okD .none := ⟨by simp [PyData.canLay0], by simp [PyData.depth]⟩
theorem okD.int {i : Int} : okD (.int i) := ⟨by simp [PyData.canLay0], by simp [PyData.depth]⟩
theorem okD.bool {b : Bool} : okD (.bool b) := ⟨by simp [PyData.canLay0], by simp [PyData.depth]⟩
theorem canLayAll_iff : ∀ {ds : List PyData}, PyData.canLayAll0 ds = true ↔ ∀ d ∈ ds, d.canLay0 = true
  | [] => by simp [PyData.canLayAll0]
  | d :: ds => by rw [PyData.canLayAll0, Bool.and_eq_true, canLayAll_iff (ds := ds)]; simp
theorem depthAll_le {n : Nat} : ∀ {ds : List PyData}, (∀ d ∈ ds, d.depth ≤ n) → PyData.depthAll ds ≤ n
  | [], _ => by simp [PyData.depthAll]
  | d :: ds, h => by
    rw [PyData.depthAll]
    have h1 := h d (List.mem_cons_self ..)
    have h2 := depthAll_le (ds := ds) fun e he => h e (List.mem_cons_of_mem _ he)
    omega
theorem shapedL {n : Nat} {ds : List PyData} (h : ∀ d ∈ ds, d.canLay0 = true ∧ d.depth ≤ n) (hn : n ≤ 60) : SeqAt.shaped (.list ds) = true := by
  show ((PyData.list ds).canLay0 && decide ((PyData.list ds).depth ≤ 64)) = true
  rw [Bool.and_eq_true]
  refine ⟨by rw [PyData.canLay0]; exact canLayAll_iff.mpr fun d hd => (h d hd).1, decide_eq_true ?_⟩
  rw [PyData.depth]
  have := depthAll_le fun d hd => (h d hd).2
  omega
theorem okD.tup {n : Nat} {ds : List PyData} (h : ∀ d ∈ ds, d.canLay0 = true ∧ d.depth ≤ n) (hn : n ≤ 7) : okD (.tuple ds) := by
  refine ⟨by rw [PyData.canLay0]; exact canLayAll_iff.mpr fun d hd => (h d hd).1, ?_⟩
  rw [PyData.depth]
  have := depthAll_le fun d hd => (h d hd).2
  omega
theorem okS_append {a b : Str} (ha : okS a) (hb : okS b) : okS (a ++ b) := by
  show (a.cps ++ b.cps).all _ = true
  rw [Array.all_append, Bool.and_eq_true]
  exact ⟨ha, hb⟩
theorem okS_list {z : Str} : okS z ↔ ∀ c ∈ z.cps.toList, c < 0x110000 := by
  show z.cps.all _ = true ↔ _
  rw [← Array.all_toList, List.all_eq_true]
  simp
theorem okS_cut {z : Str} {lo hi : Option Int} (h : okS z) : okS (cutS z lo hi) := by
  rw [okS_list] at h ⊢
  intro c hc
  unfold cutS at hc
  simp only at hc
  exact h c (List.mem_of_mem_drop (List.mem_of_mem_take hc))
theorem okS_sign {z : Str} {i : Int} {c : Nat} (h : okS z) (e : atI z.cps.toList i = some c) : okS ⟨#[c]⟩ := by
  rw [okS_list] at h ⊢
  obtain ⟨j, _, e2, _⟩ := atI_get e
  intro d hd
  have : d = c := by simpa using hd
  rw [this]
  exact h c (List.mem_of_getElem? e2)
theorem len_append {a b : Str} : (a ++ b).length = a.length + b.length := by
  show (a.cps ++ b.cps).size = a.cps.size + b.cps.size
  exact Array.size_append
theorem len_cut_le {z : Str} {lo hi : Option Int} : (cutS z lo hi).length ≤ z.length := by
  show (cutS z lo hi).cps.size ≤ z.cps.size
  unfold cutS
  simp only [List.size_toArray, List.length_take, List.length_drop]
  have : z.cps.toList.length = z.cps.size := by simp
  omega
theorem atI_some {α : Type} {xs : List α} {i : Int} (h0 : 0 ≤ i) (h1 : i < (xs.length : Int)) : ∃ v, atI xs i = some v ∧ v ∈ xs := by
  obtain ⟨j, rfl⟩ := Int.eq_ofNat_of_zero_le h0
  have hj : j < xs.length := by omega
  exact ⟨xs[j], atI_nat (List.getElem?_eq_getElem hj), List.getElem_mem hj⟩
theorem len_list {z : Str} : z.cps.toList.length = z.length := by
  show _ = z.cps.size
  simp
/-! ### in, not in over tuples of data -/
section
variable {X : Cx}
def rInT (K : PySem.W.Frag) : R2 := fun x y H Q => ∃ d ds, Dp K H x d ∧ Dp K H y (.tuple ds) ∧ SeqAt.shaped d = true ∧ SeqAt.shaped (.tuple ds) = true ∧ Q (.bl (ds.any fun z => PyData.eqv z d)) H
def rNotInT (K : PySem.W.Frag) : R2 := fun x y H Q => ∃ d ds, Dp K H x d ∧ Dp K H y (.tuple ds) ∧ SeqAt.shaped d = true ∧ SeqAt.shaped (.tuple ds) = true ∧ Q (.bl (!ds.any fun z => PyData.eqv z d)) H
theorem op_inT (hu : X.A.units + 65 < cLine) : OpR X (compareOp .In) (rInT X.K) := by
  intro pins s σ H x y v u Q I rx ry h
  obtain ⟨d, ds, hd, he, sd, se, q⟩ := h
  obtain ⟨as, r1⟩ := Dp.reads I d x v hd rx
  obtain ⟨bs, r2⟩ := Dp.reads I (.tuple ds) y u he ry
  exact SeqAt.in_tuple_reads r2 r1 (SeqAt.canLay_of_shaped se) (SeqAt.canLay_of_shaped sd) (room_in_shaped sd hu) ⟨.bl _, H, I, rfl, q⟩
theorem op_notInT (hu : X.A.units + 65 < cLine) : OpR X (compareOp .NotIn) (rNotInT X.K) := by
  intro pins s σ H x y v u Q I rx ry h
  obtain ⟨d, ds, hd, he, sd, se, q⟩ := h
  obtain ⟨as, r1⟩ := Dp.reads I d x v hd rx
  obtain ⟨bs, r2⟩ := Dp.reads I (.tuple ds) y u he ry
  exact SeqAt.notIn_tuple_reads r2 r1 (SeqAt.canLay_of_shaped se) (SeqAt.canLay_of_shaped sd) (room_in_shaped sd hu) ⟨.bl _, H, I, rfl, q⟩
end
/-! ### more values -/
section
variable {σ : L2.St} {H : Hp} {ta tb te : TE} {D : Ends} {t1 t2 tz : TS} {c : TT} {b : Bool} {v : V} {i : Nat} {K : PySem.W.Frag}
theorem val_isi {x : V} {t : Value} {T : String} {b : Bool} (ha : Val ta σ H x) (ht : TyX K H x t) (hk : PySem.W.kitOne K t (.type T) = some b) : Val (tCB (rIsi K) (tCons ta (tCons (tC (.ty T)) tNil))) σ H (.bl b) :=
  fun _ q => ha _ ⟨x, .ty T, t, .type T, b, rfl, .ty T, ht, hk, q⟩
theorem val_addS {x y : Str} (ha : Val ta σ H (.str x)) (hb : Val tb σ H (.str y)) (h : x.length + y.length ≤ 100000) : Val (tOp (fun x y H Q => ∃ i j, x = .str i ∧ y = .str j ∧ i.length + j.length ≤ sizeLine ∧ Q (.str (i ++ j)) H) ta tb) σ H (.str (x ++ y)) :=
  val_op ha hb fun _ q => ⟨_, _, rfl, rfl, Evl.sz_of h, q⟩
theorem val_ixS {z : Str} {i : Int} {c : Nat} (ha : Val ta σ H (.str z)) (hb : Val tb σ H (.int i)) (h : z.length ≤ 100000) (e : atI z.cps.toList i = some c) : Val (tOp rIxS ta tb) σ H (.str ⟨#[c]⟩) := val_op ha hb fun _ q => ⟨_, _, _, rfl, rfl, Evl.sz_of h, e, q⟩
theorem val_lenS {z : Str} (ha : Val ta σ H (.str z)) (h : z.length ≤ 100000) : Val (tCB (fun xs H Q => ∃ z, xs = [.str z] ∧ z.length ≤ sizeLine ∧ Q (.int z.length) H) (tCons ta tNil)) σ H (.int (z.length : Int)) := fun _ q => ha _ ⟨z, rfl, Evl.sz_of h, q⟩
end
/-! ### o.m(e, .., k = v, ..) -/
def tMethKw (C : Addr) (m : Str) (n j : Nat) (sp : Sp) (gV : List V → List V → List V) (E : XK) (ta : TE) (t tk : TA) : TE := fun σ H Q => ta σ H fun x H1 => ∃ a dx fs, x = .ref a ∧ H1 a = some (.ins C dx fs) ∧ fs.lookup m = none ∧
  t σ H1 fun vs H2 => tk σ H2 fun zs H3 => vs.length = n ∧ zs.length = j ∧ sp (gV (.ref a :: vs) zs) H3 Q E
section
variable {X : Cx} {CX : CXT} {k n : Nat} {f C : Addr} {fd : FuncData} {ps ks : List Str} {sp : Sp} {E : XK} {x m : Str} {p pos apos : Pos} {o e : Expr} {es : List Expr} {kws : List Keyword} {ta : TE} {t tk : TA} {g : List Value → List Value → List Value} {gV : List V → List V → List V}
theorem run_kbn {pins : List (Addr × Obj)} {σ : L2.St} {H : Hp} {s : Shared} {Q : VK} {us ws : List Value} {vs zs : List V} (F : FnOk X.prog X.w X.K X.mg X.base CX k f fd ps sp) (hr : Room k X.A) (hb : KBn X.K fd ps n ks g gV) (hx : Passes CX X E)
    (I : Inv X pins σ H s) (r : Vals vs us) (rz : Vals zs ws) (l1 : vs.length = n) (l2 : zs.length = ks.length) (h : sp (gV vs zs) H Q E) : wpAny (model X.prog X.w) X.A (call (.ref f) us (ks.zip ws)) (EP X pins σ Q) X.xe s := by
  have r2 := hb.rel r rz
  refine wpAny_call (codeAny_mono (F.run X.A X.stack s H ⟨us, ks.zip ws⟩ (g us ws) (gV vs zs) Q E hr I.env0 (hb.to s us ws I.kIn (by rw [← r.length, l1]) (by rw [← rz.length, l2])) r2 h) fun r s' hq => ?_)
  cases r with
  | error e => exact hx pins σ H s e s' I hq
  | ok fl =>
    cases fl with
    | ret u => exact I.after hq
    | next => exact False.elim hq
    | brk => exact False.elim hq
    | cont => exact False.elim hq
theorem pe_methKw {pl : Sem Bool} (he : PE X o ta) (c : Cls X.K C) (hm : Meth X.K C m f) (F : FnOk X.prog X.w X.K X.mg X.base CX k f fd ps sp) (hr : Room k X.A) (hb : KBn X.K fd ps (n + 1) ks g gV) (hx : Passes CX X E) (ha : PA X (e :: es) t) (hkw : PK X kws tk)
    (hall : (backToKw pos (keywordEach kws X.env)).all (·.1.isSome) = true := by rfl) (hks : (backToKw pos (keywordEach kws X.env)).filterMap (·.1) = ks := by rfl)
    (hst : starEach (e :: es) X.env = (false, eval e X.env) :: starEach es X.env := by rfl) (hpl : ((backTo pos (starEach (e :: es) X.env)).any (·.1) || (backToKw pos (keywordEach kws X.env)).any (·.1.isNone)) = false := by rfl)
    (ht : eval (.Call (.Attribute o m apos) (e :: es) kws pos) X.env = (do
      let ov ← eval o X.env
      standAt apos.atName
      let (f, first) ← holding [ov] (getMethod ov m pl)
      callWith pos f first (backTo pos (starEach (e :: es) X.env)) (backToKw pos (keywordEach kws X.env))) := by rfl) :
    PE X (.Call (.Attribute o m apos) (e :: es) kws pos) (tMethKw C m n ks.length sp gV E ta t tk) := by
  refine ⟨fun pins s σ H Q I h => ?_⟩
  refine PySem.W.methodCall_KW (pl := pl) (thn (he.run pins s σ H _ I h) fun u s1 ⟨x, H1, I1, rx, a, dx, fs, ex, ea, l, q⟩ => ?_) ht
  subst ex
  obtain rfl : u = Value.ref a := rx
  refine getmeth_ok I1 ea c hm l ?_
  refine PySem.W.callWith_KW (first := [.ref a]) (h₀ := X.base) I.ok.mod.kin hm.kp hall (thn (ha.run pos pins s1 σ H1 _ I1 q) fun us s2 ⟨vs, H2, I2, r, q2⟩ => ?_) hpl hst
  refine thn (hkw.run pos pins s2 σ H2 _ I2 q2) fun ws s3 ⟨zs, H3, I3, rz, l1, l2, q3⟩ => ⟨I3.kIn, ?_⟩
  rw [hks]
  exact run_kbn (us := .ref a :: us) (vs := .ref a :: vs) F hr hb hx I3 (.cons rfl r) rz (by rw [List.length_cons, l1]) l2 q3
end
end Tp
namespace Tp
open PySem PySem.Spec PyProof.Rows L2
/-- what the written part says of an own error class over DyeError (or of DyeError): its __init__ at fI -/
structure ExB (K : PySem.W.Frag) (C fI : Addr) : Prop where
  oex : OexC K C
  iC : PySem.W.findIn K (.ref C) "__init__" = some (some (.ref fI))
  tI : PySem.W.typeIn K (.ref fI) = some (.type "function")
  noT : PySem.W.findIn K (.ref C) "thing" = some none
  xf : XfC K C
  ex : ExcC K C
/-- DyeError.__init__(self, thing) -/
def spDye (K : PySem.W.Frag) : Sp := fun vs H Q _ => ∃ (a C : Addr) (v : V), vs = [.ref a, v] ∧ OexC K C ∧ PySem.W.findIn K (.ref C) "thing" = some none ∧ H a = some (exo a C none) ∧
  ∀ dx, H dx = none → dx ≠ a → Q .non (upd (upd H dx (exd dx [("thing", v)])) a (exo a C (some dx)))
/-- raise C(e) -/
def tRaiseX (K : PySem.W.Frag) (C : Addr) (W : WX) (te : TE) : TS := fun _ σ H => tMkO C (spDye K) [] (tCons te tNil) σ H fun cls d H' => W cls d σ H'
/-- DyeError's __init__ as a def of the text -/
structure Dye (P : Program) (w : World) (K : PySem.W.Frag) (mg : Str → Option Value) (base : Heap) (fI : Addr) : Prop where
  ex : ∃ fd, FnOk P w K mg base CX0 1 fI fd ["self", "thing"] (spDye K) ∧ Binds K fd ["self", "thing"] []
section
variable {X : Cx} {C fI : Addr} {W : WX} {te : TE} {e : Expr} {x : Str} {p pos pos2 : Pos}
theorem ps_raiseX (hc : X.calm = true) (T : ExB X.K C fI) (D : Dye X.prog X.w X.K X.mg X.base fI) (hr : Room 2 X.A) (tk : Takes X W) (hg : Gl X x) (hm : X.mg x = some (.ref C)) (he : PE X e te)
    (hdb : (x == ("__debug__" : Str)) = false := by decide) (hs : starEach (e :: []) X.env = (false, eval e X.env) :: starEach [] X.env := by rfl) (hpl : (backTo pos (starEach [] X.env)).any (·.1) = false := by rfl) :
    PS X (.Raise (some (.Call (.Name x p) [e] [] pos)) none pos2) (tRaiseX X.K C W te) := by
  obtain ⟨fd, F, b⟩ := D.ex
  exact ps_raise hc tk (pmk_oex (dvs := []) (ds := []) T.oex T.iC T.tI F hr b .nil pass0 hg hm (pa_cons he pa_nil hs) hdb hs hpl)
end
theorem raise_post {K : PySem.W.Frag} {C fI : Addr} {H : Hp} {v : V} {Q : XK} (T : ExB K C fI) (h : ∀ d, H d = none → Q (.ref C) (some d) (upd H d (.xd [("thing", v)]))) :
    [v].length ≤ 1000 ∧ ∀ a, H a = none → spDye K (.ref a :: ([v] ++ [])) (upd H a (exo a C none)) (fun u H2 => u = .non ∧ ∃ (d : Addr) (fs : List (Str × V)), H2 a = some (exo a C (some d)) ∧ H2 d = some (exd d fs) ∧ H d = none ∧ Q (.ref C) (some d) (upd (del H2 a) d (.xd fs))) (fun _ _ _ => False) := by
  refine ⟨(by show 1 ≤ 1000; decide), fun a ha => ⟨a, C, v, rfl, T.oex, T.noT, upd_same, fun dx hdx ne => ⟨rfl, dx, [("thing", v)], upd_same, ?_, ?_, ?_⟩⟩⟩
  · rw [upd_ne ne, upd_same]
  · rw [upd_ne ne] at hdx; exact hdx
  · have hd : H dx = none := by rw [upd_ne ne] at hdx; exact hdx
    have e : upd (del (upd (upd (upd H a (exo a C none)) dx (exd dx [("thing", v)])) a (exo a C (some dx))) a) dx (.xd [("thing", v)]) = upd H dx (.xd [("thing", v)]) := by
      funext b
      by_cases hb : b = dx
      · rw [hb, upd_same, upd_same]
      · rw [upd_ne hb, upd_ne hb]
        by_cases hba : b = a
        · rw [hba, del_same, ha]
        · rw [del_ne hba, upd_ne hba, upd_ne hb, upd_ne hba]
    rw [e]
    exact h dx hd
/-- an error of the class at C with the thing v leaves, a new dict beside -/
def Leaves (K : PySem.W.Frag) (E : XK) (C : Addr) (v : V) (H : Hp) : Prop := ∀ d H', H d = none → Ext [] H H' → H' d = some (.xd [("thing", v)]) → E (.ref C) (some d) H'
/-- isinstance(e, c), e the error that the suite holds -/
def rIsXe (K : PySem.W.Frag) (cls : Value) (d : Option Addr) (a : Addr) : List V → Hp → VK → Prop := fun xs H Q => ∃ (c : V) (cv : Value) (b : Bool) (D dd : Addr) (fs : List (Str × V)), xs = [.ref a, c] ∧ cls = .ref D ∧ d = some dd ∧ ExcC K D ∧ H dd = some (.xd fs) ∧ ClsV c cv ∧ PySem.W.kitOne K (.ref D) cv = some b ∧ Q (.bl b) H
theorem call_isXe {X : Cx} {a : Addr} {cls : Value} {d : Option Addr} {oe : Obj} {pn : List (Addr × Obj)} (hz : Zc cls d oe) (hf : ∃ vs, oe.data = .fields vs) : CallR (X.suite a ((a, oe) :: pn)) (.builtin "isinstance") (rIsXe X.K cls d a) := by
  intro pins s σ H xs us Q I r h
  obtain ⟨c, cv, b, D, dd, fs, rfl, rfl, rfl, C, hd, hcv, e, q⟩ := h
  cases r with
  | cons rx rr =>
    cases rr with
    | cons rt rr =>
      cases rr
      cases rx
      obtain ⟨hget, _⟩ := I.pin (a, oe) (List.mem_append.mpr (.inl List.mem_cons_self))
      exact isX_core C I hget hz hf hd rt (fun u r => hcv.eq r) e q
end Tp
namespace Tp
open PySem PySem.Spec PyProof.Rows L2
/-! ### a comprehension over a text -/
theorem lc_str {x : Str} {g : TG} {tt : TT} {te : TE} {vs : List Nat} {σ : L2.St} {H1 : Hp} {D : Addr} {Qd : Hp → Prop} (Pv : Nat → Hp → Prop) (h0 : Pv 0 (upd H1 D (.lst [])))
    (hs : ∀ i c H, x.cps[i]? = some c → Pv i H → g (.str ⟨#[c]⟩) (wipe σ vs) H fun σ2 H2 => wipe σ2 vs = wipe σ vs ∧ tt σ2 H2 fun b H3 =>
      if b = true then te σ2 H3 fun y H4 => ∃ acc, H4 D = some (.lst acc) ∧ acc.length < sizeLine ∧ Pv (i + 1) (upd H4 D (.lst (acc ++ [y]))) else Pv (i + 1) H3) (hd : ∀ H, Pv x.cps.size H → Qd H) :
    ∃ W : Nat → Nat → Hp → Prop, (∃ m, W 0 m (upd H1 D (.lst []))) ∧ ∀ i m H, W i m H →
      ((Its x).stop i H ∧ Qd H) ∨ ((Its x).go i H ∧ ∃ Nx : Hp → Prop, (∀ H', Nx H' → ∃ m', m' < m ∧ W (i + 1) m' H') ∧ ∀ v H', (Its x).yld i H v H' → g v (wipe σ vs) H' fun σ2 H2 => wipe σ2 vs = wipe σ vs ∧ tt σ2 H2 fun b H3 =>
        if b = true then te σ2 H3 fun y H4 => ∃ acc, H4 D = some (.lst acc) ∧ acc.length < sizeLine ∧ Nx (upd H4 D (.lst (acc ++ [y]))) else Nx H3) := by
  refine ⟨fun i m H => m = x.cps.size - i ∧ i ≤ x.cps.size ∧ Pv i H, ⟨x.cps.size, by simp, Nat.zero_le _, h0⟩, ?_⟩
  rintro i m H ⟨rfl, hi, p⟩
  by_cases hlt : i < x.cps.size
  · refine .inr ⟨hlt, Pv (i + 1), fun H' p' => ⟨x.cps.size - (i + 1), by omega, rfl, hlt, p'⟩, fun v H' y => ?_⟩
    obtain ⟨e, c, y, ev⟩ := y
    subst e ev
    exact hs i c _ y p
  · have e : i = x.cps.size := by omega
    subst e
    exact .inl ⟨Nat.le_refl _, hd H p⟩
theorem wipe1 {σ : L2.St} {j : Nat} {x : V} : wipe ((wipe σ [j]).set j (some x)) [j] = wipe σ [j] := by
  show ((σ.set j none).set j (some x)).set j none = σ.set j none
  rw [List.set_set, List.set_set]
/-- the letters of z that stand in L -/
def insL (L z : Str) (n : Nat) : List Bool := (z.cps.toList.take n).map fun c => decide (c ∈ L.cps.toList)
theorem insL_succ {L z : Str} {n : Nat} {c : Nat} (h : z.cps[n]? = some c) : insL L z (n + 1) = insL L z n ++ [decide (c ∈ L.cps.toList)] := by
  unfold insL
  have h' : z.cps.toList[n]? = some c := by rw [Array.getElem?_toList]; exact h
  rw [List.take_add_one, h', List.map_append] <;> rfl
theorem insL_len {L z : Str} {n : Nat} : (insL L z n).length ≤ n := by
  unfold insL
  rw [List.length_map, List.length_take]
  omega
/-- every letter of z stands in L -/
def allL (L z : Str) : Bool := z.cps.toList.all fun c => decide (c ∈ L.cps.toList)
theorem insL_all {L z : Str} : (insL L z z.cps.size).all id = allL L z := by
  unfold insL allL
  rw [List.take_of_length_le (by simp), List.all_map]
  rfl
/-- all([c in L for c in z]) -/
theorem rd_all {K : PySem.W.Frag} {σ : L2.St} {H : Hp} {Q : VK} {j : Nat} {z L : Str} {tv tl : TE} (hj : j < σ.length) (hv : Val tv σ H (.str z)) (hz : z.length ≤ 100000) (hl : ∀ x H', Val tl ((wipe σ [j]).set j (some x)) H' (.str L))
    (q : ∀ D bs, H D = none → Q (.bl (allL L z)) (upd H D (.lst bs))) : tCB (rAll K) (tCons (tLc (iStr tv) (gName j) tYes (tOp rInS (tVar j) tl) [j]) tNil) σ H Q := by
  refine hv _ ⟨z, rfl, fun D hD => ?_⟩
  have hz' : z.cps.size ≤ 100000 := hz
  refine lc_str (fun i H' => i ≤ z.cps.size ∧ H' = upd H D (.lst ((insL L z i).map V.bl))) ⟨Nat.zero_le _, rfl⟩ ?_ ?_
  · rintro i c H' hc ⟨_, rfl⟩
    have hi : i < z.cps.size := (Array.getElem?_eq_some_iff.mp hc).1
    refine ⟨wipe1, ?_⟩
    have hx : ((wipe σ [j]).set j (some (V.str ⟨#[c]⟩)))[j]? = some (some (.str ⟨#[c]⟩)) := by
      rw [List.getElem?_set_self]
      rw [wipe_length]
      exact hj
    show tOp rInS (tVar j) tl ((wipe σ [j]).set j (some (V.str ⟨#[c]⟩))) (upd H D (.lst ((insL L z i).map V.bl))) _
    refine val_var hx _ (hl _ _ _ ⟨c, L, rfl, rfl, _, upd_same, ?_, hi, ?_⟩)
    · rw [List.length_map]
      exact Evl.sz_lt (by have := insL_len (L := L) (z := z) (n := i); omega)
    · rw [upd_upd, insL_succ hc, List.map_append]
      rfl
  · rintro H' ⟨_, rfl⟩
    refine ⟨D, insL L z z.cps.size, rfl, SqL.of upd_same, ?_⟩
    rw [insL_all]
    exact q D _ hD
/-! ### the kinds of values that are passed -/
/-- None, a bool, an int, a text of bounded length, a tuple -/
inductive Ptv (K : PySem.W.Frag) (H : Hp) : V → Prop
  | non : Ptv K H .non
  | bl (b : Bool) : Ptv K H (.bl b)
  | int (i : Int) : Ptv K H (.int i)
  | str {z : Str} (h : z.length ≤ 1000) : Ptv K H (.str z)
  | tup {a : Addr} {xs : List V} (h : SqT K H a xs) : Ptv K H (.ref a)
theorem Ptv.ext {K : PySem.W.Frag} {H H' : Hp} {ms : List Addr} {v : V} (e : Ext ms H H') (h : ∀ a xs, v = .ref a → SqT K H a xs → SqT K H' a xs) (p : Ptv K H v) : Ptv K H' v := by
  cases p with
  | non => exact .non
  | bl b => exact .bl b
  | int i => exact .int i
  | str z => exact .str z
  | tup z => exact .tup (h _ _ rfl z)
def tyNm : V → String
  | .non => "NoneType"
  | .bl _ => "bool"
  | .int _ => "int"
  | .str _ => "str"
  | _ => "tuple"
theorem Ptv.ty {K : PySem.W.Frag} {H : Hp} {v : V} (p : Ptv K H v) : TyX K H v (.type (tyNm v)) := by
  cases p with
  | non => exact .base .non
  | bl b => exact .base (.bl b)
  | int i => exact .base (.int i)
  | str z => exact .base (.str _)
  | tup h =>
    rcases h with (h | ⟨o, h⟩) | ⟨o, its, n, h, c, _⟩
    · exact .base (.tup h)
    · exact .fTuple h
    · exact .kTuple h c
/-- isinstance(v, T) of such a value -/
def isTn (T n : String) : Bool := n == T || (T == "int" && n == "bool")
abbrev isT (T : String) (v : V) : Bool := isTn T (tyNm v)
theorem kit_n {T n : String} (hn : n = "NoneType" ∨ n = "bool" ∨ n = "int" ∨ n = "str" ∨ n = "tuple") (hT : T = "int" ∨ T = "bool" ∨ T = "str" ∨ T = "tuple") : kitB n T = some (isTn T n) := by
  rcases hT with rfl | rfl | rfl | rfl <;> rcases hn with rfl | rfl | rfl | rfl | rfl <;> decide +kernel
theorem Ptv.nm {K : PySem.W.Frag} {H : Hp} {v : V} (p : Ptv K H v) : tyNm v = "NoneType" ∨ tyNm v = "bool" ∨ tyNm v = "int" ∨ tyNm v = "str" ∨ tyNm v = "tuple" := by
  cases p with
  | non => exact .inl rfl
  | bl b => exact .inr (.inl rfl)
  | int i => exact .inr (.inr (.inl rfl))
  | str z => exact .inr (.inr (.inr (.inl rfl)))
  | tup h => exact .inr (.inr (.inr (.inr rfl)))
theorem Ptv.kit {K : PySem.W.Frag} {H : Hp} {v : V} (p : Ptv K H v) {T : String} (hT : T = "int" ∨ T = "bool" ∨ T = "str" ∨ T = "tuple") : PySem.W.kitOne K (.type (tyNm v)) (.type T) = some (isT T v) := kit_ty (kit_n p.nm hT)
/-- a whole number -/
def isWhole : V → Bool
  | .int _ => true
  | _ => false
theorem whole_n {n : String} (hn : n = "NoneType" ∨ n = "bool" ∨ n = "int" ∨ n = "str" ∨ n = "tuple") : (isTn "int" n && !isTn "bool" n) = (n == "int") := by
  rcases hn with rfl | rfl | rfl | rfl | rfl <;> decide +kernel
theorem whole_eq {K : PySem.W.Frag} {H : Hp} {v : V} (p : Ptv K H v) : (isT "int" v && !isT "bool" v) = isWhole v := by
  rw [whole_n p.nm]
  cases p <;> rfl
theorem str_eq {K : PySem.W.Frag} {H : Hp} {v : V} (p : Ptv K H v) : isT "str" v = (match v with | .str _ => true | _ => false) := by
  cases p <;> rfl
def spWhole (K : PySem.W.Frag) : Sp := fun vs H Q _ => ∃ v, vs = [v] ∧ Ptv K H v ∧ Q (.bl (isWhole v)) H
end Tp
namespace Tp
open PySem PySem.Spec PyProof.Rows L2
/-! ### names -/
def Lz : Str := "abcdefghijklmnopqrstuvwxyz"
/-- 1 to 12 small letters -/
def nmS (z : Str) : Bool := decide ((1 : Int) ≤ (z.length : Int)) && (decide ((z.length : Int) ≤ 12) && allL Lz z)
def isNm : V → Bool
  | .str z => nmS z
  | _ => false
def spIsName (K : PySem.W.Frag) : Sp := fun vs H Q _ => ∃ v, vs = [v] ∧ Ptv K H v ∧ ∀ H', Ext [] H H' → Q (.bl (isNm v)) H'
/-- _check_new(name, known): B, N the classes that refuse; hit: the name is known -/
def spCheckNew (K : PySem.W.Frag) (B N : Addr) (kn : Hp → V → (Str → Bool) → Prop) : Sp := fun vs H Q E => ∃ v k hit, vs = [v, k] ∧ Ptv K H v ∧ kn H k hit ∧
  (isNm v = false → Leaves K E B v H) ∧ (∀ z, v = .str z → nmS z = true → hit z = true → Leaves K E N v H) ∧ (∀ z, v = .str z → nmS z = true → hit z = false → ∀ H', Ext [] H H' → Q .non H')
/-- what is known: the keys of a dict -/
def knD : Hp → V → (Str → Bool) → Prop := fun H k hit => ∃ d kvs, k = .ref d ∧ H d = some (.dK kvs) ∧ ∀ z, hit z = (valV kvs (Sum.inr z : Key)).isSome
/-- what is known: a list of texts -/
def knL (K : PySem.W.Frag) : Hp → V → (Str → Bool) → Prop := fun H k hit => ∃ (a : Addr) (zs : List Str), k = .ref a ∧ H a = some (.lst (zs.map V.str)) ∧ ∀ z, hit z = inV (.str z) (zs.map V.str)
/-- _check_known(name, known) -/
def spCheckKnown (K : PySem.W.Frag) (U : Addr) (kn : Hp → V → (Str → Bool) → Prop) : Sp := fun vs H Q E => ∃ v k hit, vs = [v, k] ∧ Ptv K H v ∧ kn H k hit ∧
  ((∀ z, v = .str z → hit z = false) → Leaves K E U v H) ∧ (∀ z, v = .str z → hit z = true → Q .non H)
/-- _check_room(things, most) -/
def szD : Hp → V → Nat → Prop := fun H k n => ∃ d kvs, k = .ref d ∧ H d = some (.dK kvs) ∧ n = kvs.length
def szL : Hp → V → Nat → Prop := fun H k n => ∃ a xs, k = .ref a ∧ H a = some (.lst xs) ∧ n = xs.length
def spCheckRoom (K : PySem.W.Frag) (F : Addr) (sz : Hp → V → Nat → Prop) : Sp := fun vs H Q E => ∃ k n most, vs = [k, .int most] ∧ sz H k n ∧ (most ≤ (n : Int) → Leaves K E F (.int most) H) ∧ ((n : Int) < most → Q .non H)
theorem leaves_now {K : PySem.W.Frag} {E : XK} {C fI : Addr} {v : V} {H H1 : Hp} (T : ExB K C fI) (L : Leaves K E C v H) (e : Ext [] H H1) :
    [v].length ≤ 1000 ∧ ∀ a, H1 a = none → spDye K (.ref a :: ([v] ++ [])) (upd H1 a (exo a C none)) (fun u H2 => u = .non ∧ ∃ (d : Addr) (fs : List (Str × V)), H2 a = some (exo a C (some d)) ∧ H2 d = some (exd d fs) ∧ H1 d = none ∧ E (.ref C) (some d) (upd (del H2 a) d (.xd fs))) (fun _ _ _ => False) :=
  raise_post T fun d hd => L d _ (e.none hd (by simp)) (e.trans (Ext.new hd)) upd_same
end Tp
namespace Tp
open PySem PySem.Spec PyProof.Rows L2
/-! ### the book as an object -/
structure Bk where
  dx : Addr
  dk : Addr
  lt : Addr
  lp : Addr
  dc : Addr
  ld : Addr
  lf : Addr
def fsB (b : Int) (A : Bk) : List (Str × V) := [("_bound", .int b), ("_kinds", .ref A.dk), ("_thirsts", .ref A.lt), ("_pots", .ref A.lp), ("_cloths", .ref A.dc), ("_dips", .ref A.ld), ("_facts", .ref A.lf)]
theorem fsB_bound {b : Int} {A : Bk} : (fsB b A).lookup ("_bound" : Str) = some (V.int b) := by rfl
theorem fsB_kinds {b : Int} {A : Bk} : (fsB b A).lookup ("_kinds" : Str) = some (V.ref A.dk) := by rfl
theorem fsB_thirsts {b : Int} {A : Bk} : (fsB b A).lookup ("_thirsts" : Str) = some (V.ref A.lt) := by rfl
theorem fsB_pots {b : Int} {A : Bk} : (fsB b A).lookup ("_pots" : Str) = some (V.ref A.lp) := by rfl
theorem fsB_cloths {b : Int} {A : Bk} : (fsB b A).lookup ("_cloths" : Str) = some (V.ref A.dc) := by rfl
theorem fsB_dips {b : Int} {A : Bk} : (fsB b A).lookup ("_dips" : Str) = some (V.ref A.ld) := by rfl
theorem fsB_facts {b : Int} {A : Bk} : (fsB b A).lookup ("_facts" : Str) = some (V.ref A.lf) := by rfl
/-- no attribute of that name -/
theorem fsB_no {b : Int} {A : Bk} {m : Str} (h : m = "add_kind" ∨ m = "add_pot" ∨ m = "add_cloth" ∨ m = "kinds" ∨ m = "pots" ∨ m = "cloths" ∨ m = "dip" ∨ m = "thirsts" ∨ m = "add_thirst") : (fsB b A).lookup m = none := by
  rcases h with rfl | rfl | rfl | rfl | rfl | rfl | rfl | rfl | rfl <;> rfl
theorem fsB_make {b : Int} {A : Bk} : putF "_facts" (.ref A.lf) (putF "_dips" (.ref A.ld) (putF "_cloths" (.ref A.dc) (putF "_pots" (.ref A.lp) (putF "_thirsts" (.ref A.lt) (putF "_kinds" (.ref A.dk) (putF "_bound" (.int b) [])))))) = fsB b A := by rfl
abbrev kvB (ks : List (Str × V)) : List (Key × V) := ks.map fun q => (Sum.inr q.1, q.2)
structure BookAt (C : Addr) (H : Hp) (p : Addr) (b : Int) (A : Bk) (ks : List (Str × V)) (ts : List V) (ps : List Str) (cs : List (Str × V)) (ds fs : List V) : Prop where
  ob : H p = some (.ins C A.dx (fsB b A))
  dk : H A.dk = some (.dK (kvB ks))
  lt : H A.lt = some (.lst ts)
  lp : H A.lp = some (.lst (ps.map V.str))
  dc : H A.dc = some (.dK (kvB cs))
  ld : H A.ld = some (.lst ds)
  lf : H A.lf = some (.lst fs)
  nk : A.dk ≠ A.dc
  n1 : A.lt ≠ A.lp
  n2 : A.lt ≠ A.ld
  n3 : A.lt ≠ A.lf
  n4 : A.lp ≠ A.ld
  n5 : A.lp ≠ A.lf
  n6 : A.ld ≠ A.lf
/-- where the book's parts stand -/
abbrev Bk.all (A : Bk) (p : Addr) : List Addr := [p, A.dk, A.lt, A.lp, A.dc, A.ld, A.lf]
section
variable {C p : Addr} {H H' : Hp} {b : Int} {A : Bk} {ks cs : List (Str × V)} {ts ds fs : List V} {ps : List Str} {ms : List Addr}
theorem BookAt.ext (B : BookAt C H p b A ks ts ps cs ds fs) (e : Ext ms H H') (h : ∀ a ∈ A.all p, a ∉ ms) : BookAt C H' p b A ks ts ps cs ds fs :=
  ⟨e.keep _ _ B.ob (h _ (by simp)), e.keep _ _ B.dk (h _ (by simp)), e.keep _ _ B.lt (h _ (by simp)), e.keep _ _ B.lp (h _ (by simp)), e.keep _ _ B.dc (h _ (by simp)), e.keep _ _ B.ld (h _ (by simp)), e.keep _ _ B.lf (h _ (by simp)),
    B.nk, B.n1, B.n2, B.n3, B.n4, B.n5, B.n6⟩
theorem BookAt.p_ne (B : BookAt C H p b A ks ts ps cs ds fs) : p ≠ A.dk ∧ p ≠ A.lt ∧ p ≠ A.lp ∧ p ≠ A.dc ∧ p ≠ A.ld ∧ p ≠ A.lf :=
  ⟨ne_of B.ob B.dk (by intro z; cases z), ne_of B.ob B.lt (by intro z; cases z), ne_of B.ob B.lp (by intro z; cases z), ne_of B.ob B.dc (by intro z; cases z), ne_of B.ob B.ld (by intro z; cases z), ne_of B.ob B.lf (by intro z; cases z)⟩
theorem BookAt.setK (B : BookAt C H p b A ks ts ps cs ds fs) (ks' : List (Str × V)) : BookAt C (upd H A.dk (.dK (kvB ks'))) p b A ks' ts ps cs ds fs :=
  ⟨by rw [upd_ne B.p_ne.1]; exact B.ob, upd_same, by rw [upd_ne (ne_of B.lt B.dk (by intro z; cases z))]; exact B.lt, by rw [upd_ne (ne_of B.lp B.dk (by intro z; cases z))]; exact B.lp, by rw [upd_ne B.nk.symm]; exact B.dc,
    by rw [upd_ne (ne_of B.ld B.dk (by intro z; cases z))]; exact B.ld, by rw [upd_ne (ne_of B.lf B.dk (by intro z; cases z))]; exact B.lf, B.nk, B.n1, B.n2, B.n3, B.n4, B.n5, B.n6⟩
theorem BookAt.setC (B : BookAt C H p b A ks ts ps cs ds fs) (cs' : List (Str × V)) : BookAt C (upd H A.dc (.dK (kvB cs'))) p b A ks ts ps cs' ds fs :=
  ⟨by rw [upd_ne B.p_ne.2.2.2.1]; exact B.ob, by rw [upd_ne B.nk]; exact B.dk, by rw [upd_ne (ne_of B.lt B.dc (by intro z; cases z))]; exact B.lt, by rw [upd_ne (ne_of B.lp B.dc (by intro z; cases z))]; exact B.lp, upd_same,
    by rw [upd_ne (ne_of B.ld B.dc (by intro z; cases z))]; exact B.ld, by rw [upd_ne (ne_of B.lf B.dc (by intro z; cases z))]; exact B.lf, B.nk, B.n1, B.n2, B.n3, B.n4, B.n5, B.n6⟩
theorem BookAt.setP (B : BookAt C H p b A ks ts ps cs ds fs) (ps' : List Str) : BookAt C (upd H A.lp (.lst (ps'.map V.str))) p b A ks ts ps' cs ds fs :=
  ⟨by rw [upd_ne B.p_ne.2.2.1]; exact B.ob, by rw [upd_ne (ne_of B.dk B.lp (by intro z; cases z))]; exact B.dk, by rw [upd_ne B.n1]; exact B.lt, upd_same, by rw [upd_ne (ne_of B.dc B.lp (by intro z; cases z))]; exact B.dc,
    by rw [upd_ne B.n4.symm]; exact B.ld, by rw [upd_ne B.n5.symm]; exact B.lf, B.nk, B.n1, B.n2, B.n3, B.n4, B.n5, B.n6⟩
end
/-- a whole number from lo to hi -/
def btw (lo hi : Int) : V → Prop
  | .int i => lo ≤ i ∧ i ≤ hi
  | _ => False
def spBetween (K : PySem.W.Frag) (N : Addr) : Sp := fun vs H Q E => ∃ v lo hi, vs = [v, .int lo, .int hi] ∧ Ptv K H v ∧ (btw lo hi v → Q .non H) ∧ (¬ btw lo hi v → Leaves K E N v H)
/-- Book.__init__(self, bound) -/
def spBookInit (K : PySem.W.Frag) (C N : Addr) : Sp := fun vs H Q E => ∃ (p dx : Addr) (v : V), vs = [.ref p, v] ∧ Ptv K H v ∧ H p = some (.ins C dx []) ∧ (¬ btw 0 24 v → Leaves K E N v H) ∧
  (∀ i A H', v = .int i → 0 ≤ i → i ≤ 24 → BookAt C H' p i A [] [] [] [] [] [] → (∀ a ∈ [A.dk, A.lt, A.lp, A.dc, A.ld, A.lf], H a = none) → A.dx = dx → Ext [p] H H' → Q .non H')
/-- what add_kind refuses: the class's name, the thing -/
def refK (ks : List (Str × V)) (v h : V) (okh : Bool) : Option (Str × V) :=
  match v with
  | .str z => if nmS z = false then some ("BadName", v) else if z ∈ ks.map (·.1) then some ("Known", v) else if okh = false then some (("BadHold" : Str), h) else if 8 ≤ ks.length then some (("Full" : Str), V.int 8) else none
  | _ => some ("BadName", v)
def refP (ps : List Str) (v : V) : Option (Str × V) :=
  match v with
  | .str z => if nmS z = false then some ("BadName", v) else if z ∈ ps then some ("Known", v) else if 8 ≤ ps.length then some (("Full" : Str), V.int 8) else none
  | _ => some ("BadName", v)
def refC2 (cs ks : List (Str × V)) : V → Option (Str × V)
  | .str y => if y ∈ ks.map (·.1) then (if 8 ≤ cs.length then some (("Full" : Str), V.int 8) else none) else some (("Unknown" : Str), .str y)
  | k => some (("Unknown" : Str), k)
def refC (cs ks : List (Str × V)) (v k : V) : Option (Str × V) :=
  match v with
  | .str z => if nmS z = false then some ("BadName", v) else if z ∈ cs.map (·.1) then some ("Known", v) else refC2 cs ks k
  | _ => some ("BadName", v)
theorem Leaves.ext {K : PySem.W.Frag} {E : XK} {C : Addr} {v : V} {H H1 : Hp} (L : Leaves K E C v H) (e : Ext [] H H1) : Leaves K E C v H1 := fun d H' h1 h2 h3 => L d H' (e.none h1 (by simp)) (e.trans h2) h3
def holdD (d : PyData) : Bool := [PyData.str "fast", .str "loose", .str "unsure"].any fun z => PyData.eqv z d
/-- Book.add_kind(self, name, hold) -/
def spAddKind (K : PySem.W.Frag) (C : Addr) : Sp := fun vs H Q E => ∃ p v h d i A ks ts ps cs ds fs, vs = [.ref p, v, h] ∧ Ptv K H v ∧ Im H h d ∧ okD d ∧ BookAt C H p i A ks ts ps cs ds fs ∧ ks.length ≤ 1000 ∧
  (∀ c t, refK ks v h (holdD d) = some (c, t) → Leaves K E (He.ga K c) t H) ∧
  (refK ks v h (holdD d) = none → ∀ H', Ext [A.dk] H H' → BookAt C H' p i A (ks ++ [(match v with | .str z => z | _ => ⟨#[]⟩, h)]) ts ps cs ds fs → Q .non H')
/-- Book.add_pot(self, name) -/
def spAddPot (K : PySem.W.Frag) (C : Addr) : Sp := fun vs H Q E => ∃ p v i A ks ts ps cs ds fs, vs = [.ref p, v] ∧ Ptv K H v ∧ BookAt C H p i A ks ts ps cs ds fs ∧ ps.length ≤ 1000 ∧
  (∀ c t, refP ps v = some (c, t) → Leaves K E (He.ga K c) t H) ∧
  (refP ps v = none → ∀ H', Ext [A.lp] H H' → BookAt C H' p i A ks ts (ps ++ [match v with | .str z => z | _ => ⟨#[]⟩]) cs ds fs → Q .non H')
/-- Book.add_cloth(self, name, kind) -/
def spAddCloth (K : PySem.W.Frag) (C : Addr) : Sp := fun vs H Q E => ∃ p v k i A ks ts ps cs ds fs, vs = [.ref p, v, k] ∧ Ptv K H v ∧ Ptv K H k ∧ (∀ H', Ext [] H H' → Ptv K H' k) ∧ BookAt C H p i A ks ts ps cs ds fs ∧ cs.length ≤ 1000 ∧
  (∀ c t, refC cs ks v k = some (c, t) → Leaves K E (He.ga K c) t H) ∧
  (refC cs ks v k = none → ∀ H', Ext [A.dc] H H' → BookAt C H' p i A ks ts ps (cs ++ [(match v with | .str z => z | _ => ⟨#[]⟩, k)]) ds fs → Q .non H')
theorem refK_name {ks : List (Str × V)} {v h : V} {o : Bool} (e : isNm v = false) : refK ks v h o = some (("BadName" : Str), v) := by
  cases v with
  | str z => exact if_pos (show nmS z = false from e)
  | _ => rfl
theorem refP_name {ps : List Str} {v : V} (e : isNm v = false) : refP ps v = some (("BadName" : Str), v) := by
  cases v with
  | str z => exact if_pos (show nmS z = false from e)
  | _ => rfl
theorem refC_name {cs ks : List (Str × V)} {v k : V} (e : isNm v = false) : refC cs ks v k = some (("BadName" : Str), v) := by
  cases v with
  | str z => exact if_pos (show nmS z = false from e)
  | _ => rfl
/-- a list of pairs (text, value), each a new tuple -/
def prsAt (H : Hp) (ts : List Addr) (ks : List (Str × V)) : Prop := Paired (fun (t : Addr) (q : Str × V) => H t = some (.tup [.str q.1, q.2])) ts ks
/-- kinds(), cloths(): a new list of new pairs -/
def spPairs (C : Addr) (which : Bool) : Sp := fun vs H Q _ => ∃ p i A ks ts ps cs ds fs, vs = [.ref p] ∧ BookAt C H p i A ks ts ps cs ds fs ∧
  ∀ a as H', H a = none → Ext [] H H' → H' a = some (.lst (as.map V.ref)) → prsAt H' as (if which then ks else cs) → Q (.ref a) H'
/-- pots(): a new list -/
def spPots (C : Addr) : Sp := fun vs H Q _ => ∃ p i A ks ts ps cs ds fs, vs = [.ref p] ∧ BookAt C H p i A ks ts ps cs ds fs ∧ ∀ a, H a = none → Q (.ref a) (upd H a (.lst (ps.map V.str)))
theorem paired_kvB {F : Addr → Key × V → Prop} {G : Addr → Str × V → Prop} (h : ∀ t z v, F t (Sum.inr z, v) → G t (z, v)) : ∀ {as : List Addr} {ks : List (Str × V)}, Paired F as (kvB ks) → Paired G as ks
  | [], [], _ => .nil
  | [], _ :: _, z => nomatch z
  | _ :: _, [], z => nomatch z
  | a :: as, q :: ks, .cons x r => .cons (h a q.1 q.2 x) (paired_kvB h r)
/-- the key of the dict -/
abbrev keyS : V → Str
  | .str z => z
  | _ => ⟨#[]⟩
/-- the keys of such a dict -/
theorem valV_kvB {z : Str} : ∀ {ks : List (Str × V)}, (valV (kvB ks) (Sum.inr z : Key)).isSome = decide (z ∈ ks.map (·.1))
  | [] => rfl
  | q :: ks => by
    by_cases h : q.1 = z
    · have e : valV (kvB (q :: ks)) (Sum.inr z : Key) = some q.2 := valV_pos (p := (Sum.inr q.1, q.2)) (by rw [h])
      rw [e]
      subst h
      simp
    · have e : valV (kvB (q :: ks)) (Sum.inr z : Key) = valV (kvB ks) (Sum.inr z : Key) := valV_neg (p := (Sum.inr q.1, q.2)) (fun x => h (Sum.inr.inj x))
      rw [e, valV_kvB (ks := ks)]
      have h' : ¬ z = q.1 := fun x => h x.symm
      simp [h']
theorem putK_kvB {z : Str} {v : V} {ks : List (Str × V)} (h : z ∉ ks.map (·.1)) : putK (kvB ks) (Sum.inr z : Key) v = kvB (ks ++ [(z, v)]) := by
  have e : valV (kvB ks) (Sum.inr z : Key) = none := by
    have := valV_kvB (z := z) (ks := ks)
    rw [decide_eq_false h] at this
    simpa using this
  rw [putK_new _ e]
  show _ = List.map _ (ks ++ [(z, v)])
  rw [List.map_append]
  rfl
theorem inV_strs {z : Str} : ∀ {zs : List Str}, inV (.str z) (zs.map V.str) = decide (z ∈ zs)
  | [] => rfl
  | y :: zs => by
    show ((y == z) || inV (.str z) (zs.map V.str)) = _
    rw [inV_strs (zs := zs)]
    by_cases h : y = z
    · subst h; simp
    · have h' : ¬ z = y := fun x => h x.symm
      simp [h, h']
end Tp
namespace Tp
open PySem PySem.Spec PyProof.Rows L2
/-! ### the source of draws as it stands in a heap -/
def SrcAt (H : Hp) (S L : Addr) : Prop := ∃ (cells : List Int) (i k g : Int), H S = some (srcO L i k g) ∧ H L = some (.lst (cells.map V.int)) ∧ SrcOk cells i k g
/-- _law_draw(source, many), the heap told by what stays -/
def spDrawE : Sp := fun vs H Q _ => ∃ (S L : Addr) (many : Int), vs = [.ref S, .int many] ∧ SrcAt H S L ∧ 0 < many ∧ many < 2 ^ 200 ∧ ∀ n H', 0 ≤ n → n < many → Ext [S] H H' → SrcAt H' S L → Q (.int n) H'
theorem src_ne {H : Hp} {S L : Addr} {cells : List Int} {i k g : Int} (hS : H S = some (srcO L i k g)) (hL : H L = some (.lst (cells.map V.int))) : L ≠ S := by
  intro e; rw [e, hS] at hL
  have z := Option.some.inj hL
  injection z with z
  cases cells <;> simp at z
theorem draw_imp : ∀ vs H Q E, spDrawE vs H Q E → spDraw vs H Q E := by
  rintro vs H Q E ⟨S, L, many, rfl, ⟨cells, i, k, g, hS, hL, ok⟩, h1, h2, q⟩
  refine ⟨S, L, cells, i, k, g, many, rfl, hS, hL, ok, h1, h2, fun n i' k' g' n0 n1 ok' => q n _ n0 n1 (Ext.refl.mut (by simp) fun xs z => by rw [hS] at z; cases z) ⟨cells, i', k', g', upd_same, ?_, ok'⟩⟩
  rw [upd_ne (src_ne hS hL)]
  exact hL
theorem SrcAt.ext {H H' : Hp} {S L : Addr} (s : SrcAt H S L) (e : Ext [] H H') : SrcAt H' S L := by
  obtain ⟨cells, i, k, g, hS, hL, ok⟩ := s
  exact ⟨cells, i, k, g, e.same _ _ hS, e.same _ _ hL, ok⟩
/-- _law_source(script): a new source -/
def spSource (K : PySem.W.Frag) : Sp := fun vs H Q _ => ∃ (a : Addr) (ns : List Int), vs = [.ref a] ∧ SqL K H a (ns.map V.int) ∧ ns.length ≤ 63 ∧ ∀ S L H', H S = none → H L = none → Ext [] H H' → SrcAt H' S L → Q (.ref S) H'
/-- _law_word(number): a text -/
def spWord : Sp := fun vs H Q _ => ∃ n : Int, vs = [.int n] ∧ 0 ≤ n ∧ ∀ z : Str, okS z → z.length ≤ 12 → Q (.str z) H
/-- _law_name(source, k) -/
def spName : Sp := fun vs H Q _ => ∃ (S L : Addr) (k : Int), vs = [.ref S, .int k] ∧ 0 ≤ k ∧ SrcAt H S L ∧ ∀ (z : Str) H', okS z → z.length ≤ 12 → Ext [S] H H' → SrcAt H' S L → Q (.str z) H'
end Tp
namespace Tp
open PySem PySem.Spec PyProof.Rows L2
section
variable {σ : L2.St} {H : Hp} {Q : VK} {E : XK} {te : TE} {S L : Addr} {many : Int} {i : Nat}
/-- a draw, as an expression -/
theorem draw_ex (h0 : σ[i]? = some (some (.ref S))) (hS : SrcAt H S L) (hm : 0 < many) (hm2 : many < 2 ^ 200) (he : Val te σ H (.int many)) (q : ∀ n H', 0 ≤ n → n < many → Ext [S] H H' → SrcAt H' S L → Q (.int n) H') :
    tCall spDrawE [] E (tCons (tVar i) (tCons te tNil)) σ H Q := ⟨_, h0, he _ ⟨S, L, many, rfl, hS, hm, hm2, q⟩⟩
theorem SrcAt.new {o : HO} {a : Addr} (s : SrcAt H S L) (h : H a = none) : SrcAt (upd H a o) S L := s.ext (Ext.new h)
theorem okS_join {y : Str} (hy : okS y) : ∀ {zs : List Str}, (∀ z ∈ zs, okS z) → okS (Str.join y zs)
  | [], _ => by show PyData.strOk (⟨#[]⟩ : Str) = true; decide +kernel
  | [z], h => h z (by simp)
  | x :: z :: r, h => by
    show okS (x ++ y ++ Str.join y (z :: r))
    exact okS_append (okS_append (h x (by simp)) hy) (okS_join hy (zs := z :: r) fun u hu => h u (by simp [hu]))
theorem len_cut_hi {z : Str} {n : Nat} : (cutS z none (some (n : Int))).length ≤ n := by
  show (Array.size (List.toArray _)) ≤ n
  rw [List.size_toArray, List.length_take]
  have : HT.sIx z.length z.length (some (n : Int)) ≤ n := by
    unfold HT.sIx
    simp only [Option.getD]
    split <;> omega
  omega
end
end Tp
/-! F: a def called within an except suite, the error held as an argument; list.count of a bool -/
namespace Tp
open PySem PySem.Spec PyProof.Rows L2 He
abbrev SpE := Addr → Value → Option Addr → Sp
structure FnE (P : Program) (w : World) (K : PySem.W.Frag) (mg : Str → Option Value) (base : Heap) (CX : CXT) (k : Nat) (f : Addr) (fd : FuncData) (ps : List Str) (sp : SpE) : Prop where
  len : ∀ a cls d vs H Q E, sp a cls d vs H Q E → vs.length = ps.length
  run : ∀ (A : Around) (outer : List Env) (s : Shared) (H : Hp) (args : Args) (us : List Value) (vs : List V) (Q : VK) (E : XK) (p : Addr × Obj) (cls : Value) (d : Option Addr), L2H.RoomH k A → Zc cls d p.2 → (∃ v, p.2.data = .fields v) → L2H.PinOk outer H s p → Env0 P w K mg base A outer s H →
    BindsTo s fd args (ps.zip us) → Vals vs us → sp p.1 cls d vs H Q E → codeAny (model P w) A (.call (.ref f) args) (CR CX outer P w H s Q E) s
theorem fn_ofE {CX : CXT} {P : Program} {w : World} {K : PySem.W.Frag} {mg : Str → Option Value} {base : Heap} {k : Nat} {f : Addr} {name qual : Str} {params : Arguments} {body : List Stmt} {scope : Scope} {dV kV doc pm cdv ct oc : Value} {an od : Option Addr}
    {osl : Array (Option Value)} {N ps : List Str} {sp : SpE} (lk : K.lookup f = some ⟨oc, od, .func (PySem.W.fnOf name qual params body scope dV kV doc pm an cdv ct), osl⟩) (hcd : PySem.W.codeIn K cdv qual = true) (S : FnScope N ps scope)
    (len : ∀ a cls d vs H Q E, sp a cls d vs H Q E → vs.length = ps.length)
    (hbody : ∀ (A : Around) (outer : List Env) (s : Shared) (H : Hp) (vs : List V) (Q : VK) (E : XK) (p : Addr × Obj) (cls : Value) (d : Option Addr), Zc cls d p.2 → (∃ v, p.2.data = .fields v) → L2H.RoomH k (A.deeper (envOfC qual scope s.heap.objs.size f cdv)) → sp p.1 cls d vs H Q E →
      ∃ t, PSs (L2H.cxH CX P w K mg base N qual scope f cdv A outer s H E p) body t ∧ t { nx := fun _ H' => Q .non H', rt := Q } (L2.start N vs) H) :
    FnE P w K mg base CX (k + 1) f (PySem.W.fnOf name qual params body scope dV kV doc pm an cdv ct) ps sp := by
  refine ⟨len, fun A outer s H args us vs Q E p cls d hr hz hf hpin e0 hb r hsp => ?_⟩
  have hl := len _ _ _ _ _ _ _ hsp
  have KX : K.In s.heap := e0.mod.kin.keeps fun b o e => (e0.bs b o e).1
  have lim : s.heap.NoLimit := e0.mod.nolimit.keeps fun b o e => (e0.bs b o e).1
  have hkind : ∀ y ∈ ps.zip us, scope.names.lookup y.1 = some .local ∨ (scope.names.lookup y.1 = some .cell ∧ ((cellsFrom (s.heap.objs.size + 1) scope.names []).lookup y.1).isSome = true) := fun ⟨n, v⟩ hy => by
    rcases S.par n (List.of_mem_zip hy).1 with q | q
    · exact .inl q
    · exact .inr ⟨q, PySem.W.cellsFrom_some _ _ _ (.inl q)⟩
  refine codeAny_call_function hr.depth (KX _ _ lk) rfl S.co S.gen rfl (PySem.W.codeRec_of KX hcd) (hb _ _ _ _ ?_)
  refine wpAny_newFunctionEnv_cells S.kind hkind fun env he s1 x => ?_
  subst he
  refine ⟨lim.keeps x.toInCall.keep, codeAny_func ?_⟩
  obtain ⟨t, ht, hq⟩ := hbody A outer s H vs Q E p cls d hz hf (hr.deeper _) hsp
  have I : Inv (L2H.cxH CX P w K mg base N qual scope f cdv A outer s H E p) [] (L2.start N vs) H s1 := L2H.inv_startH S hpin e0 hl r x
  refine wpAny_mono (ht.run [] s1 (L2.start N vs) H _ I hq) (fun fl s' hs => ?_) fun e s' hs => hs
  have fin : ∀ {σ' : L2.St} {H' : Hp} {v : V} {u : Value}, Inv (L2H.cxH CX P w K mg base N qual scope f cdv A outer s H E p) [] σ' H' s' → RelV v u → Q v H' → CE outer P w H s Q u s' :=
    fun {σ' H' v u} J rv q => ⟨v, H', J.os, J.bare, J.base, J.hok, rv, q⟩
  cases fl with
  | ret u =>
    obtain ⟨v, σ', H', J, rv, q⟩ := hs
    exact fin J rv q
  | next =>
    obtain ⟨σ', H', J, q⟩ := hs
    exact fin (v := V.non) (u := Value.none) J rfl q
  | brk =>
    obtain ⟨_, _, _, q⟩ := hs
    exact False.elim q
  | cont =>
    obtain ⟨_, _, _, q⟩ := hs
    exact False.elim q
theorem FunD.okE {P : Program} {w : World} {K : PySem.W.Frag} {mg : Str → Option Value} {base : Heap} {x qual : Str} {params : Arguments} {body : List Stmt} {scope : Scope} {dvs : List V} {kws : List (Str × V)} {f : Addr} {fd : FuncData}
    {CX : CXT} {N ps : List Str} {k : Nat} {sp : SpE} (F : FunD K x qual params body scope dvs kws f fd) (S : FnScope N ps scope) (len : ∀ a cls d vs H Q E, sp a cls d vs H Q E → vs.length = ps.length)
    (hbody : ∀ (cdv : Value) (A : Around) (outer : List Env) (s : Shared) (H : Hp) (vs : List V) (Q : VK) (E : XK) (p : Addr × Obj) (cls : Value) (d : Option Addr), Zc cls d p.2 → (∃ v, p.2.data = .fields v) → L2H.RoomH k (A.deeper (envOfC qual scope s.heap.objs.size f cdv)) → sp p.1 cls d vs H Q E →
      ∃ t, PSs (L2H.cxH CX P w K mg base N qual scope f cdv A outer s H E p) body t ∧ t { nx := fun _ H' => Q .non H', rt := Q } (start N vs) H) : FnE P w K mg base CX (k + 1) f fd ps sp := by
  obtain ⟨oc, od, dV, kV, doc, pm, an, cdv, ct, osl, rfl, lk, hcd, _, _⟩ := F.ex
  exact fn_ofE lk hcd S len fun A outer s H vs Q E p cls d hz hf hr hsp => hbody cdv A outer s H vs Q E p cls d hz hf hr hsp
structure DfE (P : Program) (w : World) (K : PySem.W.Frag) (mg : Str → Option Value) (base : Heap) (CX : CXT) (k : Nat) (x : Str) (ps : List Str) (sp : SpE) : Prop where
  mg_ : mg x = some (.ref (ga K x))
  kp : PySem.W.keepIn K (.ref (ga K x)) = true
  ex : ∃ fd, FnE P w K mg base CX k (ga K x) fd ps sp ∧ Binds K fd ps []
theorem DfE.mk' {P : Program} {w : World} {K : PySem.W.Frag} {mg : Str → Option Value} {base : Heap} {CX : CXT} {k : Nat} {x : Str} {ps : List Str} {sp : SpE} {st : Stmt} (hm : mg x = some (.ref (ga K x))) (hF : ∃ fd, FnP K x st fd)
    (hb : ∀ (kV doc pm : Value) (an : Option Addr) (cdv ct : Value) (us : List Value), us.length = ps.length → bindArgs (PySem.W.fnOf x x (defArgs st) (defBody st) (defScope st) .none kV doc pm an cdv ct) ⟨us, []⟩ = pure (ps.zip us))
    (h : ∀ fd, FnP K x st fd → FnE P w K mg base CX k (ga K x) fd ps sp) : DfE P w K mg base CX k x ps sp := by
  obtain ⟨fd, F⟩ := hF
  exact ⟨hm, F.kp, fd, h fd F, F.bindsN hb⟩
section
variable {X : Cx} {CX : CXT} {k : Nat} {f : Addr} {fd : FuncData} {ps : List Str} {sp : SpE} {E : XK} {x : Str} {e : Expr} {es : List Expr} {t : TA} {q pos : Pos} {a : Addr} {oe : Obj} {cls : Value} {d : Option Addr} {pn : List (Addr × Obj)}
/-- a call in the suite that holds the error at a -/
theorem pe_cE (D : DfE X.prog X.w X.K X.mg X.base CX k x ps sp) (hz : Zc cls d oe) (hf : ∃ v, oe.data = .fields v) (hr : L2H.RoomH k X.A) (hg : Gl X x) (hx : Passes CX (X.suite a ((a, oe) :: pn)) E) (ha : PA (X.suite a ((a, oe) :: pn)) (e :: es) t)
    (hdb : (x == ("__debug__" : Str)) = false := by decide) (he : starEach (e :: es) X.env = (false, eval e X.env) :: starEach es X.env := by rfl) (hpl : (backTo pos (starEach es X.env)).any (·.1) = false := by rfl) :
    PE (X.suite a ((a, oe) :: pn)) (.Call (.Name x q) (e :: es) [] pos) (tCall (sp a cls d) [] E t) := by
  obtain ⟨fd, F, hb⟩ := D.ex
  refine ⟨fun pins s σ H Q I h => ?_⟩
  refine wpAny_Call_Name_kw (ld_glob I hg D.mg_ ?_ hdb)
  refine PySem.W.callWith_K (h₀ := X.base) I.ok.mod.kin D.kp (thn (ha.run pos pins s σ H _ I h) fun us s1 ⟨vs, H1, I1, r, q⟩ => ⟨I1.kIn, ?_⟩) he hpl
  replace q : sp a cls d (vs ++ []) H1 Q E := q
  rw [List.append_nil] at q
  have hl : us.length = ps.length := by rw [← r.length]; exact F.len _ _ _ _ _ _ _ q
  have b := hb s1 us I1.kIn (by rw [List.append_nil]; exact hl)
  rw [List.append_nil] at b
  have P1 := I1.pin (a, oe) (List.mem_append_left _ List.mem_cons_self)
  have hpin : L2H.PinOk X.stack H1 s1 (a, oe) := ⟨P1.1, P1.2.1, fun hm => (List.mem_cons.mp (I1.stkSub a hm)).elim P1.2.2.1 P1.2.2.2.1, P1.2.2.2.2⟩
  have hr2 : L2H.RoomH k (X.A.mark (some (.ref a))) := ⟨hr.dp, hr.un⟩
  refine wpAny_call (codeAny_mono (F.run _ X.stack s1 H1 ⟨us, []⟩ us vs Q E (a, oe) cls d hr2 hz hf hpin I1.env0 b r q) fun r s' hq => ?_)
  cases r with
  | error e => exact hx pins σ H1 s1 e s' I1 hq
  | ok fl =>
    cases fl with
    | ret u => exact I1.after hq
    | next => exact False.elim hq
    | brk => exact False.elim hq
    | cont => exact False.elim hq
end
/-- isinstance of a pinned error -/
theorem call_isXp {X : Cx} {cls : Value} {d : Option Addr} {p : Addr × Obj} (hz : Zc cls d p.2) (hf : ∃ vs, p.2.data = .fields vs) (hp : p ∈ X.pn) : CallR X (.builtin "isinstance") (rIsXe X.K cls d p.1) := by
  intro pins s σ H xs us Q I r h
  obtain ⟨c, cv, b, D, dd, fs, rfl, rfl, rfl, C, hd, hcv, e, q⟩ := h
  cases r with
  | cons rx rr =>
    cases rr with
    | cons rt rr =>
      cases rr
      cases rx
      obtain ⟨hget, _⟩ := I.pin p (List.mem_append.mpr (.inl hp))
      exact isX_core C I hget hz hf hd rt (fun u r => hcv.eq r) e q
theorem val_isXe {K : PySem.W.Frag} {cls : Value} {d : Option Addr} {a D dd : Addr} {σ : L2.St} {H : Hp} {ta tc : TE} {c : V} {cv : Value} {b : Bool} {fs : List (Str × V)} (ha : Val ta σ H (.ref a)) (hc : Val tc σ H c) (h1 : cls = .ref D) (h2 : d = some dd) (C : ExcC K D) (hd : H dd = some (.xd fs))
    (hv : ClsV c cv) (e : PySem.W.kitOne K (.ref D) cv = some b) : Val (tCB (rIsXe K cls d a) (tCons ta (tCons tc tNil))) σ H (.bl b) := fun Q q => ha _ (hc _ ⟨c, cv, b, D, dd, fs, rfl, h1, h2, C, hd, hv, e, q⟩)
/-! ### list.count(True) -/
def rCntB (K : PySem.W.Frag) : V → List V → Hp → VK → Prop := fun x xs H Q => ∃ (p : Addr) (bs : List Bool) (k : Bool), x = .ref p ∧ xs = [.bl k] ∧ SqL K H p (bs.map V.bl) ∧ Q (.int ((bs.filter (· == k)).length : Nat)) H
theorem bools_of_vals : ∀ {bs : List Bool} {us : List Value}, Vals (bs.map V.bl) us → us = bs.map Value.bool
  | [], _, r => by cases r; rfl
  | b :: bs, _, r => by
    cases r with
    | cons r1 r2 =>
      cases r1
      rw [bools_of_vals r2]
      rfl
theorem mt_lcountB {X : Cx} : MtR X "list.count" (rCntB X.K) := by
  intro pins s σ H x xs v us Q I rx rxs h
  obtain ⟨p, bs, k, rfl, rfl, hs, q⟩ := h
  cases rx
  obtain ⟨u, rfl, ru⟩ := rxs.one
  cases ru
  obtain ⟨its, rv, ⟨⟨cls, dd, data, sl⟩, n, ho, hc, hdn, hd⟩, hlen⟩ := I.list hs
  simp only at hc hd
  subst hc hd
  have hi := bools_of_vals rv
  refine call_meets PySem.F.slot_list_count ⟨_, ho, rfl⟩ PySem.F.entry_list_count (PySem.F.args_list_count_2 _ _)
    (SeqAt.list_countAt p its.toArray n dd sl (.bool k) (isBoolOf k)) ⟨ho, fun y hy => ?_, ?_⟩
  · rw [hi] at hy
    obtain ⟨b, _, rfl⟩ := List.mem_map.mp (show y ∈ bs.map Value.bool by simpa using hy)
    exact SeqAt.EqAt.bool_bool b k
  · have ec : its.toArray.toList.countP (isBoolOf k) = (bs.filter (· == k)).length := by
      rw [hi, ← List.countP_eq_length_filter]
      show (bs.map Value.bool).countP (isBoolOf k) = _
      rw [List.countP_map]
      rfl
    refine ⟨.int ((bs.filter (· == k)).length : Nat), H, I.tok _, ⟨s.toks, ?_⟩, q⟩
    show Value.int ((its.toArray.toList.countP (isBoolOf k) : Nat) : Int) s.toks = _
    rw [ec]
theorem gset {i : Nat} {x : V} {σ : L2.St} {H : Hp} {k : L2.St → Hp → Prop} (h : k (σ.set i (some x)) H) : gName i x σ H k := h
end Tp
/-! G: method calls in a try, what leaves told at the slots -/
namespace Tp
open PySem PySem.Spec PyProof.Rows L2 He
section
variable {X : Cx} {CX : CXT} {k n : Nat} {f C : Addr} {fd : FuncData} {ps ks : List Str} {sp : Sp} {E : L2.St → XK} {x m : Str} {p pos apos : Pos} {o e : Expr} {es : List Expr} {kws : List Keyword} {ta : TE} {t tk : TA} {dvs : List V} {ds : List Value}
  {g : List Value → List Value → List Value} {gV : List V → List V → List V}
def tMethS (C : Addr) (m : Str) (sp : Sp) (dvs : List V) (E : L2.St → XK) (ta : TE) (t : TA) : TE := fun σ H Q => ta σ H fun x H1 => ∃ a dx fs, x = .ref a ∧ H1 a = some (.ins C dx fs) ∧ fs.lookup m = none ∧ t σ H1 fun vs H2 => sp (x :: (vs ++ dvs)) H2 Q (E σ)
theorem run_fnSd {pins : List (Addr × Obj)} {σ : L2.St} {H : Hp} {s : Shared} {Q : VK} {us : List Value} {vs : List V} (F : FnOk X.prog X.w X.K X.mg X.base CX k f fd ps sp) (hr : Room k X.A) (hb : Binds X.K fd ps ds) (hd : Vals dvs ds) (hx : PassesAt CX X σ (E σ))
    (I : Inv X pins σ H s) (r : Vals vs us) (h : sp (vs ++ dvs) H Q (E σ)) : wpAny (model X.prog X.w) X.A (call (.ref f) us) (EP X pins σ Q) X.xe s := by
  have r2 : Vals (vs ++ dvs) (us ++ ds) := r.append hd
  have hl : (us ++ ds).length = ps.length := by rw [← r2.length]; exact F.len _ _ _ _ h
  refine wpAny_call (codeAny_mono (F.run X.A X.stack s H ⟨us, []⟩ (us ++ ds) (vs ++ dvs) Q (E σ) hr I.env0 (hb s us I.kIn hl) r2 h) fun r s' hq => ?_)
  cases r with
  | error e => exact hx pins H s e s' I hq
  | ok fl =>
    cases fl with
    | ret u => exact I.after hq
    | next => exact False.elim hq
    | brk => exact False.elim hq
    | cont => exact False.elim hq
theorem pe_methS {pl : Sem Bool} (he : PE X o ta) (c : Cls X.K C) (hm : Meth X.K C m f) (F : FnOk X.prog X.w X.K X.mg X.base CX k f fd ps sp) (hr : Room k X.A) (hb : Binds X.K fd ps ds) (hd : Vals dvs ds) (hx : ∀ σ, PassesAt CX X σ (E σ)) (ha : PA X (e :: es) t)
    (hst : starEach (e :: es) X.env = (false, eval e X.env) :: starEach es X.env := by rfl) (hpl : (backTo pos (starEach es X.env)).any (·.1) = false := by rfl)
    (ht : eval (.Call (.Attribute o m apos) (e :: es) [] pos) X.env = (do
      let ov ← eval o X.env
      standAt apos.atName
      let (f, first) ← holding [ov] (getMethod ov m pl)
      callWith pos f first (backTo pos (starEach (e :: es) X.env)) (backToKw pos (keywordEach [] X.env))) := by rfl) :
    PE X (.Call (.Attribute o m apos) (e :: es) [] pos) (tMethS C m sp dvs E ta t) := by
  refine ⟨fun pins s σ H Q I h => ?_⟩
  refine PySem.W.methodCall_KW (pl := pl) (thn (he.run pins s σ H _ I h) fun u s1 ⟨x, H1, I1, rx, a, dx, fs, ex, ea, l, q⟩ => ?_) ht
  subst ex
  obtain rfl : u = Value.ref a := rx
  refine getmeth_ok I1 ea c hm l ?_
  refine PySem.W.callWith_K (first := [.ref a]) (h₀ := X.base) I.ok.mod.kin hm.kp (thn (ha.run pos pins s1 σ H1 _ I1 q) fun us s2 ⟨vs, H2, I2, r, q2⟩ => ⟨I2.kIn, ?_⟩) hst hpl
  exact run_fnSd (us := .ref a :: us) (vs := .ref a :: vs) F hr hb hd (hx σ) I2 (.cons rfl r) q2
def tMethKwS (C : Addr) (m : Str) (n j : Nat) (sp : Sp) (gV : List V → List V → List V) (E : L2.St → XK) (ta : TE) (t tk : TA) : TE := fun σ H Q => ta σ H fun x H1 => ∃ a dx fs, x = .ref a ∧ H1 a = some (.ins C dx fs) ∧ fs.lookup m = none ∧
  t σ H1 fun vs H2 => tk σ H2 fun zs H3 => vs.length = n ∧ zs.length = j ∧ sp (gV (x :: vs) zs) H3 Q (E σ)
theorem run_kbnS {pins : List (Addr × Obj)} {σ : L2.St} {H : Hp} {s : Shared} {Q : VK} {us ws : List Value} {vs zs : List V} (F : FnOk X.prog X.w X.K X.mg X.base CX k f fd ps sp) (hr : Room k X.A) (hb : KBn X.K fd ps n ks g gV) (hx : PassesAt CX X σ (E σ))
    (I : Inv X pins σ H s) (r : Vals vs us) (rz : Vals zs ws) (l1 : vs.length = n) (l2 : zs.length = ks.length) (h : sp (gV vs zs) H Q (E σ)) : wpAny (model X.prog X.w) X.A (call (.ref f) us (ks.zip ws)) (EP X pins σ Q) X.xe s := by
  have r2 := hb.rel r rz
  refine wpAny_call (codeAny_mono (F.run X.A X.stack s H ⟨us, ks.zip ws⟩ (g us ws) (gV vs zs) Q (E σ) hr I.env0 (hb.to s us ws I.kIn (by rw [← r.length, l1]) (by rw [← rz.length, l2])) r2 h) fun r s' hq => ?_)
  cases r with
  | error e => exact hx pins H s e s' I hq
  | ok fl =>
    cases fl with
    | ret u => exact I.after hq
    | next => exact False.elim hq
    | brk => exact False.elim hq
    | cont => exact False.elim hq
theorem pe_methKwS {pl : Sem Bool} (he : PE X o ta) (c : Cls X.K C) (hm : Meth X.K C m f) (F : FnOk X.prog X.w X.K X.mg X.base CX k f fd ps sp) (hr : Room k X.A) (hb : KBn X.K fd ps (n + 1) ks g gV) (hx : ∀ σ, PassesAt CX X σ (E σ)) (ha : PA X (e :: es) t) (hkw : PK X kws tk)
    (hall : (backToKw pos (keywordEach kws X.env)).all (·.1.isSome) = true := by rfl) (hks : (backToKw pos (keywordEach kws X.env)).filterMap (·.1) = ks := by rfl)
    (hst : starEach (e :: es) X.env = (false, eval e X.env) :: starEach es X.env := by rfl) (hpl : ((backTo pos (starEach (e :: es) X.env)).any (·.1) || (backToKw pos (keywordEach kws X.env)).any (·.1.isNone)) = false := by rfl)
    (ht : eval (.Call (.Attribute o m apos) (e :: es) kws pos) X.env = (do
      let ov ← eval o X.env
      standAt apos.atName
      let (f, first) ← holding [ov] (getMethod ov m pl)
      callWith pos f first (backTo pos (starEach (e :: es) X.env)) (backToKw pos (keywordEach kws X.env))) := by rfl) :
    PE X (.Call (.Attribute o m apos) (e :: es) kws pos) (tMethKwS C m n ks.length sp gV E ta t tk) := by
  refine ⟨fun pins s σ H Q I h => ?_⟩
  refine PySem.W.methodCall_KW (pl := pl) (thn (he.run pins s σ H _ I h) fun u s1 ⟨x, H1, I1, rx, a, dx, fs, ex, ea, l, q⟩ => ?_) ht
  subst ex
  obtain rfl : u = Value.ref a := rx
  refine getmeth_ok I1 ea c hm l ?_
  refine PySem.W.callWith_KW (first := [.ref a]) (h₀ := X.base) I.ok.mod.kin hm.kp hall (thn (ha.run pos pins s1 σ H1 _ I1 q) fun us s2 ⟨vs, H2, I2, r, q2⟩ => ?_) hpl hst
  refine thn (hkw.run pos pins s2 σ H2 _ I2 q2) fun ws s3 ⟨zs, H3, I3, rz, l1, l2, q3⟩ => ⟨I3.kIn, ?_⟩
  rw [hks]
  exact run_kbnS (us := .ref a :: us) (vs := .ref a :: vs) F hr hb (hx σ) I3 (.cons rfl r) rz (by rw [List.length_cons, l1]) l2 q3
end
end Tp
/-! Hb: Bool checks of a head for own error classes, class constants -/
namespace Tp
open PySem PySem.Spec PyProof.Rows L2 He ClX
def oexB (K : PySem.W.Frag) (C : Addr) : Bool := match K.lookup C with
  | some ⟨.type "type", _, .cls cd, sl⟩ => (match cd.mro, sl.toList with
    | .ref C' :: bm, [_, _, _, _, some (.builtin n), _] => C' == C && n == "ValueError.__new__" && !cd.hasDel && cd.hasDict && PySem.HandSPX.refsVE bm
    | _, _ => false)
  | _ => false
theorem oexB_ok {K : PySem.W.Frag} {C : Addr} (q : oexB K C = true) : ∃ nm q N bs bm sn sub ab col dd k0 k1 k2 k3 k5, K.lookup C = some (excClassObj nm q C N bs bm true sn sub ab col dd k0 k1 k2 k3 k5 "ValueError.__new__") ∧ PySem.HandSPX.refsVE bm = true := by
  unfold oexB at q
  split at q
  · rename_i dd cd sl ho
    split at q
    · rename_i C' bm k0 k1 k2 k3 n k5 hm hs
      simp only [Bool.and_eq_true, beq_iff_eq, Bool.not_eq_true'] at q
      obtain ⟨⟨⟨⟨rfl, rfl⟩, hdel⟩, hdict⟩, ht⟩ := q
      obtain ⟨nm, bs, mro, ns, qn, hd, sn, sub, ab, col, del⟩ := cd
      dsimp only at hm hdel hdict
      subst hm hdel hdict
      have hsl : sl = #[k0, k1, k2, k3, some (.builtin "ValueError.__new__"), k5] := by
        obtain ⟨l⟩ := sl
        simp only at hs
        rw [hs]
      subst hsl
      exact ⟨nm, qn, ns, bs, bm, sn, sub, ab, col, dd, k0, k1, k2, k3, k5, ho, ht⟩
    · cases q
  · cases q
def excCB (K : PySem.W.Frag) (D : Addr) : Bool := eqO (PySem.W.findIn K (.ref D) "__getattribute__") (some (some (.builtin "BaseException.__getattribute__"))) && (eqO (PySem.W.findIn K (.ref D) "__getattr__") (some none) && (decide (PySem.W.subIn K (.ref D) (.type "BaseException") = some true) && (PySem.W.hasDictIn K D &&
  (eqO (PySem.W.findIn K (.ref D) "__class__") (some (some (.builtin "object.__class__"))) && (eqO (PySem.W.specialIn K (.builtin "object.__class__") "__get__") (some (some (.builtin "getset_descriptor.__get__"))) && (decide (PySem.W.takesIn K (.builtin "object.__class__") = some true) && decide (PySem.W.mroIn K D (.type "object") = some true)))))))
theorem excCB_ok {K : PySem.W.Frag} {D : Addr} (h : excCB K D = true) : ExcC K D := by
  obtain ⟨h1, h⟩ := ba h
  obtain ⟨h2, h⟩ := ba h
  obtain ⟨h3, h⟩ := ba h
  obtain ⟨h4, h⟩ := ba h
  obtain ⟨h5, h⟩ := ba h
  obtain ⟨h6, h⟩ := ba h
  obtain ⟨h7, h8⟩ := ba h
  exact ⟨eqO_ok h1, eqO_ok h2, of_decide_eq_true h3, h4, eqO_ok h5, eqO_ok h6, of_decide_eq_true h7, of_decide_eq_true h8⟩
/-- an own error class over the class named y, whose __init__ sets the field -/
def exBB (K : PySem.W.Frag) (y x : Str) : Bool := oexB K (ga K x) && (eqO (PySem.W.findIn K (.ref (ga K x)) "__setattr__") (some (some (.builtin "object.__setattr__"))) && (decide (PySem.W.subIn K (.ref (ga K x)) (.type "BaseException") = some true) && (decide (PySem.W.typeIn K (.ref (ga K x)) = some (.type "type")) &&
  (PySem.W.keepIn K (.ref (ga K x)) && (eqO (PySem.W.findIn K (.ref (ga K x)) "__init__") (some (some (.ref (ma K (ga K y) "__init__")))) && (decide (PySem.W.typeIn K (.ref (ma K (ga K y) "__init__")) = some (.type "function")) && (eqO (PySem.W.findIn K (.ref (ga K x)) "thing") (some none) && (xfB K (ga K x) && excCB K (ga K x)))))))))
theorem exBB_ok {K : PySem.W.Frag} {y x : Str} (h : exBB K y x = true) : ExB K (ga K x) (ma K (ga K y) "__init__") := by
  obtain ⟨h1, h⟩ := ba h
  obtain ⟨h2, h⟩ := ba h
  obtain ⟨h3, h⟩ := ba h
  obtain ⟨h4, h⟩ := ba h
  obtain ⟨h5, h⟩ := ba h
  obtain ⟨h6, h⟩ := ba h
  obtain ⟨h7, h⟩ := ba h
  obtain ⟨h8, h⟩ := ba h
  obtain ⟨h9, h10⟩ := ba h
  exact ⟨⟨oexB_ok h1, eqO_ok h2, of_decide_eq_true h3, of_decide_eq_true h4, h5⟩, eqO_ok h6, of_decide_eq_true h7, eqO_ok h8, xfB_ok h9, excCB_ok h10⟩
/-- a class is read, its constant -/
def creadB (K : PySem.W.Frag) (C : Addr) (mc : Value) : Bool := PySem.W.readsIn K C mc && eqO (PySem.W.specialIn K (.ref C) "__getattribute__") (some (some (.builtin "type.__getattribute__")))
theorem creadB_ok {K : PySem.W.Frag} {C : Addr} {mc : Value} (h : creadB K C mc = true) : CRead K C mc := by
  obtain ⟨h1, h2⟩ := ba h
  exact ⟨h1, eqO_ok h2⟩
def cvalB (K : PySem.W.Frag) (C : Addr) (mc : Value) (f : Str) (v : V) : Bool := match PySem.W.findCls K (.ref C) mc f with
  | some (.val u) => relB v u
  | _ => false
theorem cvalB_ok {K : PySem.W.Frag} {C : Addr} {mc : Value} {f : Str} {v : V} (h : cvalB K C mc f v = true) : ∃ u, CVal K C mc f v u := by
  unfold cvalB at h
  split at h
  · rename_i u e
    exact ⟨u, e, relB_ok h⟩
  · cases h
/-! ### the hook: facts, defs, an own Bool; the statics' table beside -/
def asZ (g : Addr → Option Obj) (n : Nat) : List Addr := asD g n ++ [cStatics]
abbrev AlZ : Type := AlD × Bool
def obsZ (n : Nat) (fa : List Fa) (fn : List DefD) (ex : PySem.W.Frag → Bool) (g : Addr → Option Obj) : AlZ := (obsD fa fn (frG g (asZ g n)), ex (frG g (asZ g n)))
def hookZ (n : Nat) (fa : List Fa) (fn : List DefD) (ex : PySem.W.Frag → Bool) : PySem.W.Hook where
  α := AlZ
  obs := fun s => obsZ n fa fn ex s.heap.get?
  val := fun _ => (valD fn, true)
  says := fun _ h => ∃ K : PySem.W.Frag, K.In h ∧ SaysD fa fn K ∧ ex K = true
  of := fun _ _ e => ⟨_, frG_in, congrArg (fun z : AlZ => z.1) e, congrArg (fun z : AlZ => z.2) e⟩
  keeps := fun _ _ _ ⟨K, hK, c⟩ k => ⟨K, PySem.W.Frag.In.keeps hK k, c⟩
theorem obsZ_eq {n : Nat} {fa : List Fa} {fn : List DefD} {ex : PySem.W.Frag → Bool} {g : Addr → Option Obj} {s : Shared} (h : ∀ a, g a = s.heap.get? a) : obsZ n fa fn ex g = (hookZ n fa fn ex).obs s := by
  have e : g = s.heap.get? := funext h
  rw [e] <;> rfl
end Tp
namespace K6
open PySem PySem.Spec PyProof.Rows L2 He Tp ClX LiI

def top (i : Nat) : Stmt := PySem.Challenge.pw_tiredpots_k06_names_of_a_book.main.body.getD i (.Pass ⟨0, 0, 0, 0⟩)
abbrev s_DyeError___init__ : Stmt := inClass (top 2) 0
abbrev n_DyeError___init__ : List Str := ["self", "thing"]
theorem sc_DyeError___init__ : FnScope n_DyeError___init__ ["self", "thing"] (defScope s_DyeError___init__) := ⟨rfl, rfl, rfl, by decide +kernel, rfl, by decide +kernel, by decide +kernel⟩

abbrev s_is_whole : Stmt := top 15
abbrev n_is_whole : List Str := ["value"]
theorem sc_is_whole : FnScope n_is_whole ["value"] (defScope s_is_whole) := ⟨rfl, rfl, rfl, by decide +kernel, rfl, by decide +kernel, by decide +kernel⟩

abbrev s_check_between : Stmt := top 17
abbrev n_check_between : List Str := ["value", "least", "most"]
theorem sc_check_between : FnScope n_check_between ["value", "least", "most"] (defScope s_check_between) := ⟨rfl, rfl, rfl, by decide +kernel, rfl, by decide +kernel, by decide +kernel⟩

abbrev s__is_name : Stmt := top 22
abbrev n__is_name : List Str := ["value", "letter"]
theorem sc__is_name : FnScope n__is_name ["value"] (defScope s__is_name) := ⟨rfl, rfl, rfl, by decide +kernel, rfl, by decide +kernel, by decide +kernel⟩

abbrev s__check_new : Stmt := top 23
abbrev n__check_new : List Str := ["name", "known"]
theorem sc__check_new : FnScope n__check_new ["name", "known"] (defScope s__check_new) := ⟨rfl, rfl, rfl, by decide +kernel, rfl, by decide +kernel, by decide +kernel⟩

abbrev s__check_known : Stmt := top 24
abbrev n__check_known : List Str := ["name", "known"]
theorem sc__check_known : FnScope n__check_known ["name", "known"] (defScope s__check_known) := ⟨rfl, rfl, rfl, by decide +kernel, rfl, by decide +kernel, by decide +kernel⟩

abbrev s__check_room : Stmt := top 25
abbrev n__check_room : List Str := ["things", "most"]
theorem sc__check_room : FnScope n__check_room ["things", "most"] (defScope s__check_room) := ⟨rfl, rfl, rfl, by decide +kernel, rfl, by decide +kernel, by decide +kernel⟩

abbrev s__law_source : Stmt := top 28
abbrev n__law_source : List Str := ["_law_script", "_law_cell"]
theorem sc__law_source : FnScope n__law_source ["_law_script"] (defScope s__law_source) := ⟨rfl, rfl, rfl, by decide +kernel, rfl, by decide +kernel, by decide +kernel⟩

abbrev s__law_draw : Stmt := top 29
abbrev n__law_draw : List Str := ["_law_source_here", "_law_many", "_law_cell", "_law_great", "_law_number", "_law_shift", "_law_mixed"]
theorem sc__law_draw : FnScope n__law_draw ["_law_source_here", "_law_many"] (defScope s__law_draw) := ⟨rfl, rfl, rfl, by decide +kernel, rfl, by decide +kernel, by decide +kernel⟩

abbrev s__law_word : Stmt := top 30
abbrev n__law_word : List Str := ["_law_number", "_law_letters", "_law_word_here", "_law_k"]
theorem sc__law_word : FnScope n__law_word ["_law_number"] (defScope s__law_word) := ⟨rfl, rfl, rfl, by decide +kernel, rfl, by decide +kernel, by decide +kernel⟩

abbrev s__law_name : Stmt := top 31
abbrev n__law_name : List Str := ["_law_source_here", "_law_k", "_law_size"]
theorem sc__law_name : FnScope n__law_name ["_law_source_here", "_law_k"] (defScope s__law_name) := ⟨rfl, rfl, rfl, by decide +kernel, rfl, by decide +kernel, by decide +kernel⟩

abbrev s__law_word_drawn : Stmt := top 32
abbrev n__law_word_drawn : List Str := ["_law_source_here", "_law_k", "_law_word_here", "_law_way", "_law_at", "_law_odd", "_law_time"]
theorem sc__law_word_drawn : FnScope n__law_word_drawn ["_law_source_here", "_law_k"] (defScope s__law_word_drawn) := ⟨rfl, rfl, rfl, by decide +kernel, rfl, by decide +kernel, by decide +kernel⟩

abbrev s__law_refusal : Stmt := top 33
abbrev n__law_refusal : List Str := ["_law_known", "_law_word_here", "_law_given", "_law_others", "_law_label", "_law_letters", "_law_good", "_law_letter"]
theorem sc__law_refusal : FnScope n__law_refusal ["_law_known", "_law_word_here", "_law_given", "_law_others", "_law_label"] (defScope s__law_refusal) := ⟨rfl, rfl, rfl, by decide +kernel, rfl, by decide +kernel, by decide +kernel⟩

abbrev s__law_alone : Stmt := top 34
abbrev n__law_alone : List Str := ["_law_e", "_law_kinds"]
theorem sc__law_alone : FnScope n__law_alone ["_law_e"] (defScope s__law_alone) := ⟨rfl, rfl, rfl, by decide +kernel, rfl, by decide +kernel, by decide +kernel⟩

abbrev s__law_add : Stmt := top 35
abbrev n__law_add : List Str := ["_law_book", "_law_part", "_law_word_here", "_law_given", "_law_made", "_law_e"]
theorem sc__law_add : FnScope n__law_add ["_law_book", "_law_part", "_law_word_here", "_law_given"] (defScope s__law_add) := ⟨rfl, rfl, rfl, by decide +kernel, rfl, by decide +kernel, by decide +kernel⟩

abbrev s_law : Stmt := top 36
abbrev n_law : List Str := ["_law_script", "_law_source_here", "_law_book", "_law_rows", "_law_part", "_law_k", "_law_word_here", "_law_grips", "_law_given", "_law_sorts", "_law_near", "_law_known", "_law_others", "_law_due", "_law_answer", "_law_row", "_law_sort"]
theorem sc_law : FnScope n_law ["_law_script"] (defScope s_law) := ⟨rfl, rfl, rfl, by decide +kernel, rfl, by decide +kernel, by decide +kernel⟩

abbrev s_Book___init__ : Stmt := inClass (top 26) 4
abbrev n_Book___init__ : List Str := ["self", "bound"]
theorem sc_Book___init__ : FnScope n_Book___init__ ["self", "bound"] (defScope s_Book___init__) := ⟨rfl, rfl, rfl, by decide +kernel, rfl, by decide +kernel, by decide +kernel⟩

abbrev s_Book_add_kind : Stmt := inClass (top 26) 8
abbrev n_Book_add_kind : List Str := ["self", "name", "hold"]
theorem sc_Book_add_kind : FnScope n_Book_add_kind ["self", "name", "hold"] (defScope s_Book_add_kind) := ⟨rfl, rfl, rfl, by decide +kernel, rfl, by decide +kernel, by decide +kernel⟩

abbrev s_Book_add_pot : Stmt := inClass (top 26) 10
abbrev n_Book_add_pot : List Str := ["self", "name"]
theorem sc_Book_add_pot : FnScope n_Book_add_pot ["self", "name"] (defScope s_Book_add_pot) := ⟨rfl, rfl, rfl, by decide +kernel, rfl, by decide +kernel, by decide +kernel⟩

abbrev s_Book_add_cloth : Stmt := inClass (top 26) 11
abbrev n_Book_add_cloth : List Str := ["self", "name", "kind"]
theorem sc_Book_add_cloth : FnScope n_Book_add_cloth ["self", "name", "kind"] (defScope s_Book_add_cloth) := ⟨rfl, rfl, rfl, by decide +kernel, rfl, by decide +kernel, by decide +kernel⟩

abbrev s_Book_kinds : Stmt := inClass (top 26) 15
abbrev n_Book_kinds : List Str := ["self"]
theorem sc_Book_kinds : FnScope n_Book_kinds ["self"] (defScope s_Book_kinds) := ⟨rfl, rfl, rfl, by decide +kernel, rfl, by decide +kernel, by decide +kernel⟩

abbrev s_Book_pots : Stmt := inClass (top 26) 17
abbrev n_Book_pots : List Str := ["self"]
theorem sc_Book_pots : FnScope n_Book_pots ["self"] (defScope s_Book_pots) := ⟨rfl, rfl, rfl, by decide +kernel, rfl, by decide +kernel, by decide +kernel⟩

abbrev s_Book_cloths : Stmt := inClass (top 26) 18
abbrev n_Book_cloths : List Str := ["self"]
theorem sc_Book_cloths : FnScope n_Book_cloths ["self"] (defScope s_Book_cloths) := ⟨rfl, rfl, rfl, by decide +kernel, rfl, by decide +kernel, by decide +kernel⟩

abbrev fI (K : PySem.W.Frag) : Addr := ma K (ga K "DyeError") "__init__"
abbrev cB (K : PySem.W.Frag) : Addr := ga K "Book"
abbrev FnM (K : PySem.W.Frag) (c m qual : Str) (st : Stmt) (kws : List (Str × V)) (fd : FuncData) : Prop := FunD K m qual (defArgs st) (defBody st) (defScope st) [] kws (ma K (ga K c) m) fd
def raised : List Str := ["BadName", "Known", "BadHold", "Unknown", "Full"]
def exAll : List Str := ["BadName", "BadHold", "BadNumber", "BadAmount", "Known", "Unknown", "Full", "NotSure", "RingOfWishes", "BadLine"]
structure Txt (K : PySem.W.Frag) (mg : Str → Option Value) : Prop where
  blen : mg "len" = none
  babs : mg "abs" = none
  bint : mg "int" = none
  bisinstance : mg "isinstance" = none
  ball : mg "all" = none
  brange : mg "range" = none
  blist : mg "list" = none
  bstr : mg "str" = none
  bValueError : mg "ValueError" = none
  bbool : mg "bool" = none
  gis_whole : mg "is_whole" = some (.ref (ga K "is_whole"))
  fis_whole : ∃ fd, FnP K "is_whole" s_is_whole fd
  gcheck_between : mg "check_between" = some (.ref (ga K "check_between"))
  fcheck_between : ∃ fd, FnP K "check_between" s_check_between fd
  g_is_name : mg "_is_name" = some (.ref (ga K "_is_name"))
  f_is_name : ∃ fd, FnP K "_is_name" s__is_name fd
  g_check_new : mg "_check_new" = some (.ref (ga K "_check_new"))
  f_check_new : ∃ fd, FnP K "_check_new" s__check_new fd
  g_check_known : mg "_check_known" = some (.ref (ga K "_check_known"))
  f_check_known : ∃ fd, FnP K "_check_known" s__check_known fd
  g_check_room : mg "_check_room" = some (.ref (ga K "_check_room"))
  f_check_room : ∃ fd, FnP K "_check_room" s__check_room fd
  g_law_source : mg "_law_source" = some (.ref (ga K "_law_source"))
  f_law_source : ∃ fd, FnP K "_law_source" s__law_source fd
  g_law_draw : mg "_law_draw" = some (.ref (ga K "_law_draw"))
  f_law_draw : ∃ fd, FnP K "_law_draw" s__law_draw fd
  g_law_word : mg "_law_word" = some (.ref (ga K "_law_word"))
  f_law_word : ∃ fd, FnP K "_law_word" s__law_word fd
  g_law_name : mg "_law_name" = some (.ref (ga K "_law_name"))
  f_law_name : ∃ fd, FnP K "_law_name" s__law_name fd
  g_law_word_drawn : mg "_law_word_drawn" = some (.ref (ga K "_law_word_drawn"))
  f_law_word_drawn : ∃ fd, FnP K "_law_word_drawn" s__law_word_drawn fd
  g_law_refusal : mg "_law_refusal" = some (.ref (ga K "_law_refusal"))
  f_law_refusal : ∃ fd, FnP K "_law_refusal" s__law_refusal fd
  g_law_alone : mg "_law_alone" = some (.ref (ga K "_law_alone"))
  f_law_alone : ∃ fd, FnP K "_law_alone" s__law_alone fd
  g_law_add : mg "_law_add" = some (.ref (ga K "_law_add"))
  f_law_add : ∃ fd, FnP K "_law_add" s__law_add fd
  gBadName : mg "BadName" = some (.ref (ga K "BadName"))
  xBadName : ExB K (ga K "BadName") (fI K)
  gBadHold : mg "BadHold" = some (.ref (ga K "BadHold"))
  xBadHold : ExB K (ga K "BadHold") (fI K)
  gBadNumber : mg "BadNumber" = some (.ref (ga K "BadNumber"))
  xBadNumber : ExB K (ga K "BadNumber") (fI K)
  gBadAmount : mg "BadAmount" = some (.ref (ga K "BadAmount"))
  xBadAmount : ExB K (ga K "BadAmount") (fI K)
  gKnown : mg "Known" = some (.ref (ga K "Known"))
  xKnown : ExB K (ga K "Known") (fI K)
  gUnknown : mg "Unknown" = some (.ref (ga K "Unknown"))
  xUnknown : ExB K (ga K "Unknown") (fI K)
  gFull : mg "Full" = some (.ref (ga K "Full"))
  xFull : ExB K (ga K "Full") (fI K)
  gNotSure : mg "NotSure" = some (.ref (ga K "NotSure"))
  xNotSure : ExB K (ga K "NotSure") (fI K)
  gRingOfWishes : mg "RingOfWishes" = some (.ref (ga K "RingOfWishes"))
  xRingOfWishes : ExB K (ga K "RingOfWishes") (fI K)
  gBadLine : mg "BadLine" = some (.ref (ga K "BadLine"))
  xBadLine : ExB K (ga K "BadLine") (fI K)
  gDyeError : mg "DyeError" = some (.ref (ga K "DyeError"))
  xDyeError : ExB K (ga K "DyeError") (fI K)
  fDye : ∃ fd, FunD K "__init__" "DyeError.__init__" (defArgs s_DyeError___init__) (defBody s_DyeError___init__) (defScope s_DyeError___init__) [] [] (fI K) fd
  cLETTERS : ∃ t, mg "LETTERS" = some (.str "abcdefghijklmnopqrstuvwxyz" t)
  cLONGEST_NAME : ∃ t, mg "LONGEST_NAME" = some (.int 12 t)
  gHOLDS : mg "HOLDS" = some (.ref (ga K "HOLDS"))
  tHOLDS : ∀ H, SqT K H (ga K "HOLDS") [.str "fast", .str "loose", .str "unsure"]
  gBook : mg "Book" = some (.ref (cB K))
  cl : Cls K (cB K)
  n_bound : NoAttr K (cB K) "_bound"
  n_kinds : NoAttr K (cB K) "_kinds"
  n_thirsts : NoAttr K (cB K) "_thirsts"
  n_pots : NoAttr K (cB K) "_pots"
  n_cloths : NoAttr K (cB K) "_cloths"
  n_dips : NoAttr K (cB K) "_dips"
  n_facts : NoAttr K (cB K) "_facts"
  mk_ : Mk K (cB K) (ma K (cB K) "__init__")
  fInit : ∃ fd, FnM K "Book" "__init__" "Book.__init__" s_Book___init__ [("bound", .int 24)] fd
  madd_kind : Meth K (cB K) "add_kind" (ma K (cB K) "add_kind")
  fadd_kind : ∃ fd, FnM K "Book" "add_kind" "Book.add_kind" s_Book_add_kind [("hold", .str "unsure")] fd
  madd_pot : Meth K (cB K) "add_pot" (ma K (cB K) "add_pot")
  fadd_pot : ∃ fd, FnM K "Book" "add_pot" "Book.add_pot" s_Book_add_pot [] fd
  madd_cloth : Meth K (cB K) "add_cloth" (ma K (cB K) "add_cloth")
  fadd_cloth : ∃ fd, FnM K "Book" "add_cloth" "Book.add_cloth" s_Book_add_cloth [] fd
  mkinds : Meth K (cB K) "kinds" (ma K (cB K) "kinds")
  fkinds : ∃ fd, FnM K "Book" "kinds" "Book.kinds" s_Book_kinds [] fd
  mpots : Meth K (cB K) "pots" (ma K (cB K) "pots")
  fpots : ∃ fd, FnM K "Book" "pots" "Book.pots" s_Book_pots [] fd
  mcloths : Meth K (cB K) "cloths" (ma K (cB K) "cloths")
  fcloths : ∃ fd, FnM K "Book" "cloths" "Book.cloths" s_Book_cloths [] fd
  kit : ∀ x ∈ raised, ∀ y ∈ exAll, PySem.W.kitOne K (.ref (ga K x)) (.ref (ga K y)) = some (x == y)
  kitD : ∀ x ∈ raised, PySem.W.kitOne K (.ref (ga K x)) (.ref (ga K "DyeError")) = some true
  kitV : ∀ x ∈ raised, PySem.W.kitOne K (.ref (ga K x)) (.type "ValueError") = some true
  exm : ∀ x ∈ raised, ∀ y ∈ raised, PySem.W.exmOne K (.ref (ga K x)) (.ref (ga K y)) = some (x == y)
  rd : ∃ mc, CRead K (cB K) mc ∧ (∃ u, CVal K (cB K) mc "NAMES" (.int 8) u) ∧ ∃ u, CVal K (cB K) mc "DIPS" (.int 24) u

end K6
namespace K6
open PySem PySem.Spec PyProof.Rows L2 He Tp ClX LiI

section
variable {P : Program} {w : World} {K : PySem.W.Frag} {mg : Str → Option Value} {base : Heap}
theorem dye (T : Txt K mg) : Dye P w K mg base (fI K) := by
  obtain ⟨fd, F⟩ := T.fDye
  refine ⟨fd, F.ok sc_DyeError___init__ (fun vs H Q E h => ?_) (fun cdv A outer s H vs Q E hr h => ?_), F.bindsN fun _ _ _ _ _ _ us hl => match us, hl with | [_, _], _ => rfl⟩
  · obtain ⟨a, C, v, rfl, _⟩ := h
    rfl
  · obtain ⟨a, C, v, rfl, T, hn, ha, k⟩ := h
    refine ⟨_, PSs.nox (pss_one (ps_ost (pv 0) (pv 1))), ?_⟩
    exact ⟨_, rfl, _, rfl, a, C, rfl, T, hn, .inl ⟨ha, fun dx h1 h2 => k dx h1 h2⟩⟩
theorem ok_is_whole (T : Txt K mg) : Df P w K mg base CX0 1 "is_whole" ["value"] (spWhole K) := by
  refine Df.mk' T.gis_whole T.fis_whole (fun _ _ _ _ _ _ us hl => match us, hl with | [_], _ => rfl) fun fd F => F.ok sc_is_whole (fun vs H Q E h => ?_) (fun cdv A outer s H vs Q E hr h => ?_)
  · obtain ⟨v, rfl, _⟩ := h
    rfl
  · obtain ⟨v, rfl, p, q⟩ := h
    refine ⟨_, PSs.nox
   (pss_one (ps_ret (pe_and (pe_callB (call_isi) (by rfl) T.bisinstance (by decide +kernel) (pa_cons (pv 0) (pa_cons (pe_bltn (v := .ty "int") (u := .type "int") (by rfl) T.bint (by decide +kernel) rfl) pa_nil))) (pe_one (pe_not (pe_callB (call_isi) (by rfl) T.bisinstance (by decide +kernel) (pa_cons (pv 0) (pa_cons (pe_bltn (v := .ty "bool") (u := .type "bool") (by rfl) T.bbool (by decide +kernel) rfl) pa_nil)))))))), ?_⟩
    refine st_ret (val_andV (val_isi (val_var rfl) p.ty (p.kit (.inl rfl))) (val_notV (val_isi (val_var rfl) p.ty (p.kit (.inr (.inl rfl)))))) ?_
    rw [whole_eq p]
    exact q
end

end K6
namespace K6
open PySem PySem.Spec PyProof.Rows L2 He Tp ClX LiI

section
variable {P : Program} {w : World} {K : PySem.W.Frag} {mg : Str → Option Value} {base : Heap}
theorem ok_is_name (T : Txt K mg) : Df P w K mg base CX0 1 "_is_name" ["value"] (spIsName K) := by
  refine Df.mk' T.g_is_name T.f_is_name (fun _ _ _ _ _ _ us hl => match us, hl with | [_], _ => rfl) fun fd F => F.ok sc__is_name (fun vs H Q E h => ?_) (fun cdv A outer s H vs Q E hr h => ?_)
  · obtain ⟨v, rfl, _⟩ := h
    rfl
  · obtain ⟨v, rfl, p, q⟩ := h
    have nd := sc__is_name.nd
    obtain ⟨t1, c_LETTERS⟩ := T.cLETTERS
    obtain ⟨t2, c_LONGEST_NAME⟩ := T.cLONGEST_NAME
    refine ⟨_, PSs.nox
   (pss_one (ps_ret (pe_and (pe_callB (call_isi) (by rfl) T.bisinstance (by decide +kernel) (pa_cons (pv 0) (pa_cons (pe_bltn (v := .ty "str") (u := .type "str") (by rfl) T.bstr (by decide +kernel) rfl) pa_nil))) (pe_and (pe_chain op_le op_le pe_int (pe_callB call_len_str (by rfl) T.blen PySem.boot_len (pa_cons (pv 0) pa_nil)) (pe_glob (v := .int 12) (by rfl) c_LONGEST_NAME ⟨_, rfl⟩)) (pe_one (pe_callB (cr_all rfl) (by rfl) T.ball (by decide +kernel) (pa_cons (pe_lc (own := [("letter", 1)]) (g := gName 1) (tt := tYes) (by rfl) nd (pi_str (pv 0)) (blkOk_by (own := [("letter", 1)]) (N := n__is_name) (sc := defScope s__is_name) (by decide +kernel)) (fun _ _ _ _ _ => pg_name (i := 1) nd rfl (by first | exact Or.inl rfl | exact Or.inr rfl)) (fun _ _ _ _ _ => pts_nil) (fun _ _ _ _ _ => (pe_cmpR op_in_sign (pv 1) (pe_glob (v := .str "abcdefghijklmnopqrstuvwxyz") (by rfl) c_LETTERS ⟨_, rfl⟩) (by rfl)))) pa_nil))))))), ?_⟩
    refine val_isi (val_var rfl) p.ty (p.kit (.inr (.inr (.inl rfl)))) _ ⟨_, rfl, ?_⟩
    rw [str_eq p]
    cases p with
    | @str z hz =>
      refine iteT ?_
      refine val_chain val_c (val_lenS (val_var rfl) (by omega)) val_c (fun _ q => ⟨1, _, rfl, rfl, q⟩) (fun _ q => ⟨_, 12, rfl, rfl, q⟩) _ ⟨_, rfl, ?_⟩
      have e : isNm (.str z) = ((decide ((1 : Int) ≤ (z.length : Int)) && decide ((z.length : Int) ≤ 12)) && allL Lz z) := by
        rw [Bool.and_assoc]
        rfl
      rw [e] at q
      refine ifb (fun h1 => ?_) (fun h1 => ?_)
      · rw [h1] at q
        exact rd_all (L := Lz) (by show 1 < 2; decide) (val_var rfl) (by omega) (fun _ _ => val_c) fun D bs hD => q _ (Ext.new hD)
      · rw [h1] at q
        exact q _ Ext.refl
    | _ => exact iteF (q _ Ext.refl)
end

end K6
namespace K6
open PySem PySem.Spec PyProof.Rows L2 He Tp ClX LiI

section
variable {P : Program} {w : World} {K : PySem.W.Frag} {mg : Str → Option Value} {base : Heap}
theorem ok_check_newD (T : Txt K mg) : Df P w K mg base (L2.CX P w) 3 "_check_new" ["name", "known"] (spCheckNew K (ga K "BadName") (ga K "Known") knD) := by
  have D__is_name := ok_is_name (P := P) (w := w) (base := base) T
  have D_dye := dye (P := P) (w := w) (base := base) T
  refine Df.mk' T.g_check_new T.f_check_new (fun _ _ _ _ _ _ us hl => match us, hl with | [_, _], _ => rfl) fun fd F => F.ok sc__check_new (fun vs H Q E h => ?_) (fun cdv A outer s H vs Q E hr h => ?_)
  · obtain ⟨v, k, hit, rfl, _⟩ := h
    rfl
  · obtain ⟨v, k, hit, rfl, p, ⟨d, kvs, rfl, hd, hh⟩, kB, kK, kN⟩ := h
    have hu := hu_of hr
    have hr__is_name := hr.mono (show 1 ≤ 2 by decide)
    refine ⟨_, (pss_cons (ps_if (pt_not (pt_val (pe_cd D__is_name hr__is_name (by rfl) pass0 (pa_cons (pv 0) pa_nil)))) (pss_one (ps_raiseX rfl T.xBadName D_dye (hr.mono (by decide)) (takes_of rfl rfl rfl rfl) (by rfl) T.gBadName (pv 0))) pss_nil)
   (pss_one (ps_if (pt_cmp (pc_din hu (pv 0) (pv 1))) (pss_one (ps_raiseX rfl T.xKnown D_dye (hr.mono (by decide)) (takes_of rfl rfl rfl rfl) (by rfl) T.gKnown (pv 0))) pss_nil))), ?_⟩
    refine ⟨_, rfl, v, rfl, p, fun H1 e1 => ⟨_, rfl, ?_⟩⟩
    refine ifb (fun h1 => ?_) (fun h1 => ?_)
    · exact ⟨v, rfl, leaves_now T.xBadName (kB (by simpa using h1)) e1⟩
    · have hn : isNm v = true := by simpa using h1
      cases v with
      | str z =>
        refine ⟨_, rfl, _, rfl, d, _, rfl, DGet.k (k := Sum.inr z) (e1.same d _ hd), _, rfl, ?_⟩
        refine ifb (fun h2 => ?_) (fun h2 => ?_)
        · exact ⟨_, rfl, leaves_now T.xKnown (kK z rfl hn (by rw [hh]; exact h2)) e1⟩
        · exact kN z rfl hn (by rw [hh]; exact h2) H1 e1
      | _ => exact absurd (show false = true from hn) Bool.false_ne_true
theorem ok_check_newL (T : Txt K mg) : Df P w K mg base (L2.CX P w) 3 "_check_new" ["name", "known"] (spCheckNew K (ga K "BadName") (ga K "Known") (knL K)) := by
  have D__is_name := ok_is_name (P := P) (w := w) (base := base) T
  have D_dye := dye (P := P) (w := w) (base := base) T
  refine Df.mk' T.g_check_new T.f_check_new (fun _ _ _ _ _ _ us hl => match us, hl with | [_, _], _ => rfl) fun fd F => F.ok sc__check_new (fun vs H Q E h => ?_) (fun cdv A outer s H vs Q E hr h => ?_)
  · obtain ⟨v, k, hit, rfl, _⟩ := h
    rfl
  · obtain ⟨v, k, hit, rfl, p, ⟨d, zs, rfl, hd, hh⟩, kB, kK, kN⟩ := h
    have hu := hu_of hr
    have hr__is_name := hr.mono (show 1 ≤ 2 by decide)
    refine ⟨_, (pss_cons (ps_if (pt_not (pt_val (pe_cd D__is_name hr__is_name (by rfl) pass0 (pa_cons (pv 0) pa_nil)))) (pss_one (ps_raiseX rfl T.xBadName D_dye (hr.mono (by decide)) (takes_of rfl rfl rfl rfl) (by rfl) T.gBadName (pv 0))) pss_nil)
   (pss_one (ps_if (pt_cmpR op_in_seq (pv 0) (pv 1) (by rfl)) (pss_one (ps_raiseX rfl T.xKnown D_dye (hr.mono (by decide)) (takes_of rfl rfl rfl rfl) (by rfl) T.gKnown (pv 0))) pss_nil))), ?_⟩
    refine ⟨_, rfl, v, rfl, p, fun H1 e1 => ⟨_, rfl, ?_⟩⟩
    refine ifb (fun h1 => ?_) (fun h1 => ?_)
    · exact ⟨v, rfl, leaves_now T.xBadName (kB (by simpa using h1)) e1⟩
    · have hn : isNm v = true := by simpa using h1
      cases v with
      | str z =>
        refine ⟨_, rfl, _, rfl, d, _, rfl, .inl (SqL.of (e1.same d _ hd)), rfl, (by simp [flatV]), _, rfl, ?_⟩
        refine ifb (fun h2 => ?_) (fun h2 => ?_)
        · exact ⟨_, rfl, leaves_now T.xKnown (kK z rfl hn (by rw [hh]; exact h2)) e1⟩
        · exact kN z rfl hn (by rw [hh]; exact h2) H1 e1
      | _ => exact absurd (show false = true from hn) Bool.false_ne_true
theorem ok_check_knownD (T : Txt K mg) : Df P w K mg base (L2.CX P w) 3 "_check_known" ["name", "known"] (spCheckKnown K (ga K "Unknown") knD) := by
  have D_dye := dye (P := P) (w := w) (base := base) T
  refine Df.mk' T.g_check_known T.f_check_known (fun _ _ _ _ _ _ us hl => match us, hl with | [_, _], _ => rfl) fun fd F => F.ok sc__check_known (fun vs H Q E h => ?_) (fun cdv A outer s H vs Q E hr h => ?_)
  · obtain ⟨v, k, hit, rfl, _⟩ := h
    rfl
  · obtain ⟨v, k, hit, rfl, p, ⟨d, kvs, rfl, hd, hh⟩, kU, kN⟩ := h
    have hu := hu_of hr
    refine ⟨_, (pss_one (ps_if (PW.pt (pw_or (pt_not (pt_val (pe_callB (call_isi) (by rfl) T.bisinstance (by decide +kernel) (pa_cons (pv 0) (pa_cons (pe_bltn (v := .ty "str") (u := .type "str") (by rfl) T.bstr (by decide +kernel) rfl) pa_nil))))) (pw_or1 (pt_cmp (pc_dnotin hu (pv 0) (pv 1)))))) (pss_one (ps_raiseX rfl T.xUnknown D_dye (hr.mono (by decide)) (takes_of rfl rfl rfl rfl) (by rfl) T.gUnknown (pv 0))) pss_nil)), ?_⟩
    refine val_isi (val_var rfl) p.ty (p.kit (.inr (.inr (.inl rfl)))) _ ⟨_, rfl, ?_⟩
    rw [str_eq p]
    cases p with
    | @str z hz =>
      refine iteF ?_
      refine ⟨_, rfl, _, rfl, d, _, rfl, DGet.k (k := Sum.inr z) hd, _, rfl, ?_⟩
      refine ifb (fun h2 => ?_) (fun h2 => ?_)
      · exact ⟨_, rfl, leaves_now T.xUnknown (kU fun z' e => by cases e; rw [hh]; simpa using h2) Ext.refl⟩
      · exact kN z rfl (by rw [hh]; simpa using h2)
    | _ => exact iteT ⟨_, rfl, leaves_now T.xUnknown (kU fun z' e => nomatch e) Ext.refl⟩
theorem ok_check_roomD (T : Txt K mg) : Df P w K mg base (L2.CX P w) 3 "_check_room" ["things", "most"] (spCheckRoom K (ga K "Full") szD) := by
  have D_dye := dye (P := P) (w := w) (base := base) T
  refine Df.mk' T.g_check_room T.f_check_room (fun _ _ _ _ _ _ us hl => match us, hl with | [_, _], _ => rfl) fun fd F => F.ok sc__check_room (fun vs H Q E h => ?_) (fun cdv A outer s H vs Q E hr h => ?_)
  · obtain ⟨k, n, most, rfl, _⟩ := h
    rfl
  · obtain ⟨k, n, most, rfl, ⟨d, kvs, rfl, hd, rfl⟩, kF, kN⟩ := h
    refine ⟨_, (pss_one (ps_if (pt_cmpR op_ge (pe_callB call_lenD (by rfl) T.blen PySem.boot_len (pa_cons (pv 0) pa_nil)) (pv 1) (nomark _)) (pss_one (ps_raiseX rfl T.xFull D_dye (hr.mono (by decide)) (takes_of rfl rfl rfl rfl) (by rfl) T.gFull (pv 1))) pss_nil)), ?_⟩
    refine ⟨_, rfl, d, kvs, rfl, hd, _, rfl, _, _, rfl, rfl, _, rfl, ?_⟩
    refine ifd (fun h2 => ?_) (fun h2 => ?_)
    · exact ⟨_, rfl, leaves_now T.xFull (kF h2) Ext.refl⟩
    · exact kN (by omega)
theorem ok_check_roomL (T : Txt K mg) : Df P w K mg base (L2.CX P w) 3 "_check_room" ["things", "most"] (spCheckRoom K (ga K "Full") szL) := by
  have D_dye := dye (P := P) (w := w) (base := base) T
  refine Df.mk' T.g_check_room T.f_check_room (fun _ _ _ _ _ _ us hl => match us, hl with | [_, _], _ => rfl) fun fd F => F.ok sc__check_room (fun vs H Q E h => ?_) (fun cdv A outer s H vs Q E hr h => ?_)
  · obtain ⟨k, n, most, rfl, _⟩ := h
    rfl
  · obtain ⟨k, n, most, rfl, ⟨d, xs, rfl, hd, rfl⟩, kF, kN⟩ := h
    refine ⟨_, (pss_one (ps_if (pt_cmpR op_ge (pe_callB call_len_seq (by rfl) T.blen PySem.boot_len (pa_cons (pv 0) pa_nil)) (pv 1) (nomark _)) (pss_one (ps_raiseX rfl T.xFull D_dye (hr.mono (by decide)) (takes_of rfl rfl rfl rfl) (by rfl) T.gFull (pv 1))) pss_nil)), ?_⟩
    refine ⟨_, rfl, d, xs, rfl, .inl (SqL.of hd), _, rfl, _, _, rfl, rfl, _, rfl, ?_⟩
    refine ifd (fun h2 => ?_) (fun h2 => ?_)
    · exact ⟨_, rfl, leaves_now T.xFull (kF h2) Ext.refl⟩
    · exact kN (by omega)
end

end K6
namespace K6
open PySem PySem.Spec PyProof.Rows L2 He Tp ClX LiI

section
variable {P : Program} {w : World} {K : PySem.W.Frag} {mg : Str → Option Value} {base : Heap}
theorem ok_check_between (T : Txt K mg) : Df P w K mg base (L2.CX P w) 3 "check_between" ["value", "least", "most"] (spBetween K (ga K "BadNumber")) := by
  have D_is_whole := ok_is_whole (P := P) (w := w) (base := base) T
  have D_dye := dye (P := P) (w := w) (base := base) T
  refine Df.mk' T.gcheck_between T.fcheck_between (fun _ _ _ _ _ _ us hl => match us, hl with | [_, _, _], _ => rfl) fun fd F => F.ok sc_check_between (fun vs H Q E h => ?_) (fun cdv A outer s H vs Q E hr h => ?_)
  · obtain ⟨v, lo, hi, rfl, _⟩ := h
    rfl
  · obtain ⟨v, lo, hi, rfl, p, kY, kN⟩ := h
    have hr_is_whole := hr.mono (show 1 ≤ 2 by decide)
    refine ⟨_, (pss_one (ps_if (PW.pt (pw_or (pt_not (pt_val (pe_cd D_is_whole hr_is_whole (by rfl) pass0 (pa_cons (pv 0) pa_nil)))) (pw_or1 (pt_not (pt_chain op_le op_le (pv 1) (pv 0) (pv 2)))))) (pss_one (ps_raiseX rfl T.xBadNumber D_dye (hr.mono (by decide)) (takes_of rfl rfl rfl rfl) (by rfl) T.gBadNumber (pv 0))) pss_nil)), ?_⟩
    refine ⟨_, rfl, v, rfl, p, _, rfl, ?_⟩
    cases p with
    | int i =>
      refine iteF ?_
      refine val_chain (val_var rfl) (val_var rfl) (val_var rfl) (fun _ q => ⟨lo, i, rfl, rfl, q⟩) (fun _ q => ⟨i, hi, rfl, rfl, q⟩) _ ⟨_, rfl, ?_⟩
      refine ifb (fun h => ?_) (fun h => ?_)
      · refine ⟨_, rfl, leaves_now T.xBadNumber (kN fun z => ?_) Ext.refl⟩
        rw [decide_eq_true z.1, decide_eq_true z.2] at h
        cases h
      · have h' : (decide (lo ≤ i) && decide (i ≤ hi)) = true := by simpa using h
        rw [Bool.and_eq_true] at h'
        exact kY ⟨of_decide_eq_true h'.1, of_decide_eq_true h'.2⟩
    | _ => exact iteT ⟨_, rfl, leaves_now T.xBadNumber (kN fun z => z) Ext.refl⟩
abbrev Dm (P : Program) (w : World) (K : PySem.W.Frag) (mg : Str → Option Value) (base : Heap) (k : Nat) (m : Str) (ps : List Str) (sp : Sp) : Prop := ∃ fd, FnOk P w K mg base (L2.CX P w) k (ma K (cB K) m) fd ps sp ∧ Binds K fd ps []
theorem ok_init (T : Txt K mg) {fd : FuncData} (F : FnM K "Book" "__init__" "Book.__init__" s_Book___init__ [("bound", .int 24)] fd) : FnOk P w K mg base (L2.CX P w) 4 (ma K (cB K) "__init__") fd ["self", "bound"] (spBookInit K (cB K) (ga K "BadNumber")) := by
  have D_check_between := ok_check_between (P := P) (w := w) (base := base) T
  refine F.ok sc_Book___init__ (fun vs H Q E h => ?_) (fun cdv A outer s H vs Q E hr h => ?_)
  · obtain ⟨p, dx, v, rfl, _⟩ := h
    rfl
  · obtain ⟨p, dx, v, rfl, pv_, hp, kN, kY⟩ := h
    have hr_check_between := hr.mono (show 3 ≤ 3 by decide)
    obtain ⟨mc, rd, ⟨u1, c1⟩, u2, c2⟩ := T.rd
    refine ⟨_, (pss_cons (ps_expr (pe_cd D_check_between hr_check_between (by rfl) (passes_call (takes_of rfl rfl rfl rfl) (fun _ _ _ _ z => z)) (pa_cons (pv 1) (pa_cons pe_int (pa_cons (pe_cval (pe_glob (v := .ref (ga K "Book")) (by rfl) T.gBook rfl)) pa_nil)))))
   (pss_cons (ps_fld (pv 0) (pv 1) rfl)
   (pss_cons (ps_fld (pv 0) pe_dnewK rfl)
   (pss_cons (ps_fld (pv 0) (pe_lst pa_nil) rfl)
   (pss_cons (ps_fld (pv 0) (pe_lst pa_nil) rfl)
   (pss_cons (ps_fld (pv 0) pe_dnewK rfl)
   (pss_cons (ps_fld (pv 0) (pe_lst pa_nil) rfl)
   (pss_one (ps_fld (pv 0) (pe_lst pa_nil) rfl))))))))), ?_⟩
    refine ⟨_, rfl, cB K, mc, .int 24, u2, rfl, rd, c2, ?_⟩
    refine ⟨v, 0, 24, rfl, pv_, fun hb => ?_, kN⟩
    obtain ⟨i, rfl, h0, h1⟩ : ∃ i, v = .int i ∧ 0 ≤ i ∧ i ≤ 24 := by
      cases v with
      | int i => exact ⟨i, rfl, hb⟩
      | _ => exact hb.elim
    -- the seven fields, one after the other
    refine ⟨_, rfl, _, rfl, p, cB K, dx, [], rfl, hp, T.cl, T.n_bound, (by show 0 < 1000; decide), ?_⟩
    refine fun dk hdk => ?_
    simp only [upd_none_iff] at hdk
    refine ⟨_, rfl, p, cB K, dx, _, rfl, by rw [upd_ne (Ne.symm hdk.1)]; exact upd_same, T.cl, T.n_kinds, (by show 1 < 1000; decide), ?_⟩
    refine ⟨(by show 0 ≤ sizeLine; decide), fun lt hlt => ?_⟩
    simp only [upd_none_iff] at hlt
    refine ⟨_, rfl, p, cB K, dx, _, rfl, by rw [upd_ne (Ne.symm hlt.1)]; exact upd_same, T.cl, T.n_thirsts, (by show 2 < 1000; decide), ?_⟩
    refine ⟨(by show 0 ≤ sizeLine; decide), fun lp hlp => ?_⟩
    simp only [upd_none_iff] at hlp
    refine ⟨_, rfl, p, cB K, dx, _, rfl, by rw [upd_ne (Ne.symm hlp.1)]; exact upd_same, T.cl, T.n_pots, (by show 3 < 1000; decide), ?_⟩
    refine fun dc hdc => ?_
    simp only [upd_none_iff] at hdc
    refine ⟨_, rfl, p, cB K, dx, _, rfl, by rw [upd_ne (Ne.symm hdc.1)]; exact upd_same, T.cl, T.n_cloths, (by show 4 < 1000; decide), ?_⟩
    refine ⟨(by show 0 ≤ sizeLine; decide), fun ld hld => ?_⟩
    simp only [upd_none_iff] at hld
    refine ⟨_, rfl, p, cB K, dx, _, rfl, by rw [upd_ne (Ne.symm hld.1)]; exact upd_same, T.cl, T.n_dips, (by show 5 < 1000; decide), ?_⟩
    refine ⟨(by show 0 ≤ sizeLine; decide), fun lf hlf => ?_⟩
    simp only [upd_none_iff] at hlf
    refine ⟨_, rfl, p, cB K, dx, _, rfl, by rw [upd_ne (Ne.symm hlf.1)]; exact upd_same, T.cl, T.n_facts, (by show 6 < 1000; decide), ?_⟩
    obtain ⟨k1, k2⟩ := hdk
    obtain ⟨l1, l2, _, l3⟩ := hlt
    obtain ⟨p1, p2, _, p3, _, p4⟩ := hlp
    obtain ⟨c1', c2', _, c3, _, c4, _, c5⟩ := hdc
    obtain ⟨d1, d2, _, d3, _, d4, _, d5, _, d6⟩ := hld
    obtain ⟨f1, f2, _, f3, _, f4, _, f5, _, f6, _, f7⟩ := hlf
    refine kY i ⟨dx, dk, lt, lp, dc, ld, lf⟩ _ rfl h0 h1 ?_ ?_ rfl ?_
    · have k1' := k1.symm; have l1' := l1.symm; have l2' := l2.symm; have p1' := p1.symm; have p2' := p2.symm; have p3' := p3.symm
      have c1'' := c1'.symm; have c2'' := c2'.symm; have c3' := c3.symm; have c4' := c4.symm; have d1' := d1.symm; have d2' := d2.symm; have d3' := d3.symm; have d4' := d4.symm; have d5' := d5.symm
      have f1' := f1.symm; have f2' := f2.symm; have f3' := f3.symm; have f4' := f4.symm; have f5' := f5.symm; have f6' := f6.symm
      refine ⟨Eq.trans upd_same (congrArg (fun l => some (HO.ins (cB K) dx l)) (fsB_make (b := i) (A := ⟨dx, dk, lt, lp, dc, ld, lf⟩))), ?_, ?_, ?_, ?_, ?_, ?_, ?_, ?_, ?_, ?_, ?_, ?_, ?_⟩ <;>
        first | assumption | simp [upd_ne, upd_same, kvB, *]
    · intro a ha
      simp only [List.mem_cons, List.not_mem_nil, or_false] at ha
      rcases ha with rfl | rfl | rfl | rfl | rfl | rfl <;> assumption
    · refine ⟨fun b o q n => ?_, fun b xs q => ?_⟩
      · have hb : b ≠ p := fun e => n (by rw [e]; simp)
        simp [upd_ne, hb, ne_of_none q, *]
      · have hb : b ≠ p := fun e => by rw [e, hp] at q; cases q
        simp [upd_ne, hb, ne_of_none q, *]
end

end K6
namespace K6
open PySem PySem.Spec PyProof.Rows L2 He Tp ClX LiI

section
variable {P : Program} {w : World} {K : PySem.W.Frag} {mg : Str → Option Value} {base : Heap}
theorem dpHOLDS (T : Txt K mg) (H : Hp) : Dp K H (.ref (ga K "HOLDS")) (.tuple [.str "fast", .str "loose", .str "unsure"]) := .tup (T.tHOLDS H) (.cons (.str _) (.cons (.str _) (.cons (.str _) .nil)))
theorem ok_add_kind (T : Txt K mg) {fd : FuncData} (F : FnM K "Book" "add_kind" "Book.add_kind" s_Book_add_kind [("hold", .str "unsure")] fd) : FnOk P w K mg base (L2.CX P w) 4 (ma K (cB K) "add_kind") fd ["self", "name", "hold"] (spAddKind K (cB K)) := by
  have D__check_new := ok_check_newD (P := P) (w := w) (base := base) T
  have D__check_room := ok_check_roomD (P := P) (w := w) (base := base) T
  have D_dye := dye (P := P) (w := w) (base := base) T
  refine F.ok sc_Book_add_kind (fun vs H Q E h => ?_) (fun cdv A outer s H vs Q E hr h => ?_)
  · obtain ⟨p, v, h, d, i, A, ks, ts, ps, cs, ds, fs, rfl, _⟩ := h
    rfl
  · obtain ⟨p, v, h, d, i, A, ks, ts, ps, cs, ds, fs, rfl, pv_, hh, okd, B, hl, kX, kN⟩ := h
    have hu := hu_of hr
    have hu65 := hu65_of hr
    have hr__check_new := hr
    have hr__check_room := hr
    obtain ⟨mc, rd, ⟨u1, c1⟩, u2, c2⟩ := T.rd
    refine ⟨_, (pss_cons (ps_expr (pe_cd D__check_new hr__check_new (by rfl) (passes_call (takes_of rfl rfl rfl rfl) (fun _ _ _ _ z => z)) (pa_cons (pv 1) (pa_cons (pe_fld (pv 0) rfl) pa_nil))))
   (pss_cons (ps_if (pt_cmpR (op_notInT hu65) (pv 2) (pe_glob (v := .ref (ga K "HOLDS")) (by rfl) T.gHOLDS rfl) (by rfl)) (pss_one (ps_raiseX rfl T.xBadHold D_dye (hr.mono (by decide)) (takes_of rfl rfl rfl rfl) (by rfl) T.gBadHold (pv 2))) pss_nil)
   (pss_cons (ps_expr (pe_cd D__check_room hr__check_room (by rfl) (passes_call (takes_of rfl rfl rfl rfl) (fun _ _ _ _ z => z)) (pa_cons (pe_fld (pv 0) rfl) (pa_cons (pe_cval (pe_glob (v := .ref (ga K "Book")) (by rfl) T.gBook rfl)) pa_nil))))
   (pss_one (ps_dput hu (pe_fld (pv 0) rfl) (pv 1) (pv 2) rfl))))), ?_⟩
    refine ⟨_, rfl, _, rfl, p, cB K, A.dx, _, _, rfl, B.ob, T.cl, T.n_kinds, fsB_kinds, ?_⟩
    refine ⟨v, _, fun z => decide (z ∈ ks.map (·.1)), rfl, pv_, ⟨A.dk, kvB ks, rfl, B.dk, fun z => valV_kvB.symm⟩, fun e => kX _ _ (refK_name e), fun z ev hn hit => ?_, fun z ev hn hit H1 e1 => ?_⟩
    · subst ev
      refine kX _ _ ?_
      show (if nmS z = false then _ else _) = _
      rw [if_neg (by rw [hn]; decide), if_pos (of_decide_eq_true hit)]
    · subst ev
      have hz : z ∉ ks.map (·.1) := of_decide_eq_false hit
      have hk : refK ks (.str z) h (holdD d) = if holdD d = false then some (("BadHold" : Str), h) else if 8 ≤ ks.length then some (("Full" : Str), V.int 8) else none := by
        show (if nmS z = false then _ else _) = _
        rw [if_neg (by rw [hn]; decide), if_neg hz]
      have B1 := B.ext e1 (fun _ _ => by simp)
      refine ⟨_, rfl, d, _, (hh.ext e1).dp, dpHOLDS T H1, okd.shaped, (by decide +kernel), _, rfl, ?_⟩
      refine ifb (fun h1 => ?_) (fun h1 => ?_)
      · have h1' : holdD d = false := by
          have h2 : (!holdD d) = true := h1
          simpa using h2
        exact ⟨_, rfl, leaves_now T.xBadHold (kX _ _ (by rw [hk, if_pos h1'])) e1⟩
      · have h1' : holdD d = true := by
          have h2 : (!holdD d) = false := h1
          simpa using h2
        rw [if_neg (by rw [h1']; decide)] at hk
        refine ⟨_, rfl, p, cB K, A.dx, _, _, rfl, B1.ob, T.cl, T.n_kinds, fsB_kinds, cB K, mc, .int 8, u1, rfl, rd, c1, ?_⟩
        refine ⟨_, ks.length, 8, rfl, ⟨A.dk, _, rfl, B1.dk, by rw [List.length_map]⟩, fun h2 => (kX _ _ (by rw [hk, if_pos (by omega)])).ext e1, fun h2 => ?_⟩
        rw [if_neg (by omega)] at hk
        refine ⟨_, rfl, _, rfl, p, cB K, A.dx, _, _, rfl, B1.ob, T.cl, T.n_kinds, fsB_kinds, _, rfl, A.dk, _, rfl, DPut.k (k := Sum.inr z) B1.dk (by rw [List.length_map]; exact small1000 hl), ?_⟩
        rw [putK_kvB hz]
        refine kN hk _ ((e1.nil).mut (by simp) (fun xs z => by rw [B.dk] at z; cases z)) (B1.setK _)
theorem ok_add_pot (T : Txt K mg) {fd : FuncData} (F : FnM K "Book" "add_pot" "Book.add_pot" s_Book_add_pot [] fd) : FnOk P w K mg base (L2.CX P w) 4 (ma K (cB K) "add_pot") fd ["self", "name"] (spAddPot K (cB K)) := by
  have D__check_new := ok_check_newL (P := P) (w := w) (base := base) T
  have D__check_room := ok_check_roomL (P := P) (w := w) (base := base) T
  refine F.ok sc_Book_add_pot (fun vs H Q E h => ?_) (fun cdv A outer s H vs Q E hr h => ?_)
  · obtain ⟨p, v, i, A, ks, ts, ps, cs, ds, fs, rfl, _⟩ := h
    rfl
  · obtain ⟨p, v, i, A, ks, ts, ps, cs, ds, fs, rfl, pv_, B, hl, kX, kN⟩ := h
    have hr__check_new := hr
    have hr__check_room := hr
    obtain ⟨mc, rd, ⟨u1, c1⟩, u2, c2⟩ := T.rd
    refine ⟨_, (pss_cons (ps_expr (pe_cd D__check_new hr__check_new (by rfl) (passes_call (takes_of rfl rfl rfl rfl) (fun _ _ _ _ z => z)) (pa_cons (pv 1) (pa_cons (pe_fld (pv 0) rfl) pa_nil))))
   (pss_cons (ps_expr (pe_cd D__check_room hr__check_room (by rfl) (passes_call (takes_of rfl rfl rfl rfl) (fun _ _ _ _ z => z)) (pa_cons (pe_fld (pv 0) rfl) (pa_cons (pe_cval (pe_glob (v := .ref (ga K "Book")) (by rfl) T.gBook rfl)) pa_nil))))
   (pss_one (ps_expr (pe_bm PySem.F.plainAttrs_list PySem.F.slot_list_append PySem.F.type_list_append mt_append (pe_fld (pv 0) rfl) (pa_cons (pv 1) pa_nil)))))), ?_⟩
    refine ⟨_, rfl, _, rfl, p, cB K, A.dx, _, _, rfl, B.ob, T.cl, T.n_pots, fsB_pots, ?_⟩
    refine ⟨v, _, fun z => decide (z ∈ ps), rfl, pv_, ⟨A.lp, ps, rfl, B.lp, fun z => inV_strs.symm⟩, fun e => kX _ _ (refP_name e), fun z ev hn hit => ?_, fun z ev hn hit H1 e1 => ?_⟩
    · subst ev
      refine kX _ _ ?_
      show (if nmS z = false then _ else _) = _
      rw [if_neg (by rw [hn]; decide), if_pos (of_decide_eq_true hit)]
    · subst ev
      have hz : z ∉ ps := of_decide_eq_false hit
      have hk : refP ps (.str z) = if 8 ≤ ps.length then some (("Full" : Str), V.int 8) else none := by
        show (if nmS z = false then _ else _) = _
        rw [if_neg (by rw [hn]; decide), if_neg hz]
      have B1 := B.ext e1 (fun _ _ => by simp)
      refine ⟨_, rfl, p, cB K, A.dx, _, _, rfl, B1.ob, T.cl, T.n_pots, fsB_pots, cB K, mc, .int 8, u1, rfl, rd, c1, ?_⟩
      refine ⟨_, ps.length, 8, rfl, ⟨A.lp, _, rfl, B1.lp, by rw [List.length_map]⟩, fun h2 => (kX _ _ (by rw [hk, if_pos (by omega)])).ext e1, fun h2 => ?_⟩
      rw [if_neg (by omega)] at hk
      refine ⟨_, rfl, p, cB K, A.dx, _, _, rfl, B1.ob, T.cl, T.n_pots, fsB_pots, .inl ⟨rfl, _, SqL.of B1.lp⟩, _, rfl, A.lp, _, _, rfl, rfl, B1.lp, (by rw [List.length_map]; exact small1000 hl), ?_⟩
      have e : ps.map V.str ++ [V.str z] = (ps ++ [z]).map V.str := by rw [List.map_append] <;> rfl
      rw [e]
      exact kN hk _ ((e1.nil).mut (by simp) (fun xs z => by rw [B.lp] at z; cases z)) (B1.setP _)
end

end K6
namespace K6
open PySem PySem.Spec PyProof.Rows L2 He Tp ClX LiI

section
variable {P : Program} {w : World} {K : PySem.W.Frag} {mg : Str → Option Value} {base : Heap}
theorem ok_add_cloth (T : Txt K mg) {fd : FuncData} (F : FnM K "Book" "add_cloth" "Book.add_cloth" s_Book_add_cloth [] fd) : FnOk P w K mg base (L2.CX P w) 4 (ma K (cB K) "add_cloth") fd ["self", "name", "kind"] (spAddCloth K (cB K)) := by
  have D__check_new := ok_check_newD (P := P) (w := w) (base := base) T
  have D__check_known := ok_check_knownD (P := P) (w := w) (base := base) T
  have D__check_room := ok_check_roomD (P := P) (w := w) (base := base) T
  refine F.ok sc_Book_add_cloth (fun vs H Q E h => ?_) (fun cdv A outer s H vs Q E hr h => ?_)
  · obtain ⟨p, v, k, i, A, ks, ts, ps, cs, ds, fs, rfl, _⟩ := h
    rfl
  · obtain ⟨p, v, k, i, A, ks, ts, ps, cs, ds, fs, rfl, pv_, pk0, pk, B, hl, kX, kN⟩ := h
    have hu := hu_of hr
    have hr__check_new := hr
    have hr__check_known := hr
    have hr__check_room := hr
    obtain ⟨mc, rd, ⟨u1, c1⟩, u2, c2⟩ := T.rd
    refine ⟨_, (pss_cons (ps_expr (pe_cd D__check_new hr__check_new (by rfl) (passes_call (takes_of rfl rfl rfl rfl) (fun _ _ _ _ z => z)) (pa_cons (pv 1) (pa_cons (pe_fld (pv 0) rfl) pa_nil))))
   (pss_cons (ps_expr (pe_cd D__check_known hr__check_known (by rfl) (passes_call (takes_of rfl rfl rfl rfl) (fun _ _ _ _ z => z)) (pa_cons (pv 2) (pa_cons (pe_fld (pv 0) rfl) pa_nil))))
   (pss_cons (ps_expr (pe_cd D__check_room hr__check_room (by rfl) (passes_call (takes_of rfl rfl rfl rfl) (fun _ _ _ _ z => z)) (pa_cons (pe_fld (pv 0) rfl) (pa_cons (pe_cval (pe_glob (v := .ref (ga K "Book")) (by rfl) T.gBook rfl)) pa_nil))))
   (pss_one (ps_dput hu (pe_fld (pv 0) rfl) (pv 1) (pv 2) rfl))))), ?_⟩
    refine ⟨_, rfl, _, rfl, p, cB K, A.dx, _, _, rfl, B.ob, T.cl, T.n_cloths, fsB_cloths, ?_⟩
    refine ⟨v, _, fun z => decide (z ∈ cs.map (·.1)), rfl, pv_, ⟨A.dc, kvB cs, rfl, B.dc, fun z => valV_kvB.symm⟩, fun e => kX _ _ (refC_name e), fun z ev hn hit => ?_, fun z ev hn hit H1 e1 => ?_⟩
    · subst ev
      refine kX _ _ ?_
      show (if nmS z = false then _ else _) = _
      rw [if_neg (by rw [hn]; decide), if_pos (of_decide_eq_true hit)]
    · subst ev
      have hz : z ∉ cs.map (·.1) := of_decide_eq_false hit
      have hk : refC cs ks (.str z) k = refC2 cs ks k := by
        show (if nmS z = false then _ else _) = _
        rw [if_neg (by rw [hn]; decide), if_neg hz]
      have B1 := B.ext e1 (fun _ _ => by simp)
      refine ⟨_, rfl, _, rfl, p, cB K, A.dx, _, _, rfl, B1.ob, T.cl, T.n_kinds, fsB_kinds, ?_⟩
      refine ⟨k, _, fun z => decide (z ∈ ks.map (·.1)), rfl, pk H1 e1, ⟨A.dk, kvB ks, rfl, B1.dk, fun z => valV_kvB.symm⟩, fun e => (kX _ _ ?_).ext e1, fun y ey hit => ?_⟩
      · rw [hk]
        cases k with
        | str y => exact if_neg (of_decide_eq_false (e y rfl))
        | _ => rfl
      subst ey
      have hy : y ∈ ks.map (·.1) := of_decide_eq_true hit
      have hk2 : refC cs ks (.str z) (.str y) = if 8 ≤ cs.length then some (("Full" : Str), V.int 8) else none := by
        rw [hk]
        exact if_pos hy
      refine ⟨_, rfl, p, cB K, A.dx, _, _, rfl, B1.ob, T.cl, T.n_cloths, fsB_cloths, cB K, mc, .int 8, u1, rfl, rd, c1, ?_⟩
      refine ⟨_, cs.length, 8, rfl, ⟨A.dc, _, rfl, B1.dc, by rw [List.length_map]⟩, fun h2 => (kX _ _ (by rw [hk2, if_pos (by omega)])).ext e1, fun h2 => ?_⟩
      rw [if_neg (by omega)] at hk2
      refine ⟨_, rfl, _, rfl, p, cB K, A.dx, _, _, rfl, B1.ob, T.cl, T.n_cloths, fsB_cloths, _, rfl, A.dc, _, rfl, DPut.k (k := Sum.inr z) B1.dc (by rw [List.length_map]; exact small1000 hl), ?_⟩
      rw [putK_kvB hz]
      refine kN hk2 _ ((e1.nil).mut (by simp) (fun xs z => by rw [B.dc] at z; cases z)) (B1.setC _)
theorem ok_kinds (T : Txt K mg) {fd : FuncData} (F : FnM K "Book" "kinds" "Book.kinds" s_Book_kinds [] fd) : FnOk P w K mg base CX0 1 (ma K (cB K) "kinds") fd ["self"] (spPairs (cB K) true) := by
  refine F.ok sc_Book_kinds (fun vs H Q E h => ?_) (fun cdv A outer s H vs Q E hr h => ?_)
  · obtain ⟨p, i, A, ks, ts, ps, cs, ds, fs, rfl, _⟩ := h
    rfl
  · obtain ⟨p, i, A, ks, ts, ps, cs, ds, fs, rfl, B, q⟩ := h
    refine ⟨_, PSs.nox (pss_one (ps_ret (pe_listItems rfl (pe_fld (pv 0) rfl) (by rfl) T.blist (by decide +kernel)))), ?_⟩
    refine ⟨_, rfl, p, cB K, A.dx, _, _, rfl, B.ob, T.cl, T.n_kinds, fsB_kinds, A.dk, kvB ks, rfl, B.dk, fun H' a as k1 k2 k3 k4 k5 k6 => ?_⟩
    exact q a as H' k2 (Ext.of k1) k5 (paired_kvB (fun t z v e => e) k6)
theorem ok_cloths (T : Txt K mg) {fd : FuncData} (F : FnM K "Book" "cloths" "Book.cloths" s_Book_cloths [] fd) : FnOk P w K mg base CX0 1 (ma K (cB K) "cloths") fd ["self"] (spPairs (cB K) false) := by
  refine F.ok sc_Book_cloths (fun vs H Q E h => ?_) (fun cdv A outer s H vs Q E hr h => ?_)
  · obtain ⟨p, i, A, ks, ts, ps, cs, ds, fs, rfl, _⟩ := h
    rfl
  · obtain ⟨p, i, A, ks, ts, ps, cs, ds, fs, rfl, B, q⟩ := h
    refine ⟨_, PSs.nox (pss_one (ps_ret (pe_listItems rfl (pe_fld (pv 0) rfl) (by rfl) T.blist (by decide +kernel)))), ?_⟩
    refine ⟨_, rfl, p, cB K, A.dx, _, _, rfl, B.ob, T.cl, T.n_cloths, fsB_cloths, A.dc, kvB cs, rfl, B.dc, fun H' a as k1 k2 k3 k4 k5 k6 => ?_⟩
    exact q a as H' k2 (Ext.of k1) k5 (paired_kvB (fun t z v e => e) k6)
theorem ok_pots (T : Txt K mg) {fd : FuncData} (F : FnM K "Book" "pots" "Book.pots" s_Book_pots [] fd) : FnOk P w K mg base CX0 1 (ma K (cB K) "pots") fd ["self"] (spPots (cB K)) := by
  refine F.ok sc_Book_pots (fun vs H Q E h => ?_) (fun cdv A outer s H vs Q E hr h => ?_)
  · obtain ⟨p, i, A, ks, ts, ps, cs, ds, fs, rfl, _⟩ := h
    rfl
  · obtain ⟨p, i, A, ks, ts, ps, cs, ds, fs, rfl, B, q⟩ := h
    refine ⟨_, PSs.nox (pss_one (ps_ret (pe_callTy call_list_of (by rfl) T.blist (by decide +kernel) (pa_cons (pe_fld (pv 0) rfl) pa_nil)))), ?_⟩
    exact ⟨_, rfl, p, cB K, A.dx, _, _, rfl, B.ob, T.cl, T.n_pots, fsB_pots, A.lp, _, rfl, .inl (SqL.of B.lp), fun l hl => q l hl⟩
end


end K6
namespace K6
open PySem PySem.Spec PyProof.Rows L2 He Tp ClX LiI

section
variable {P : Program} {w : World} {K : PySem.W.Frag} {mg : Str → Option Value} {base : Heap}
theorem ok_draw (T : Txt K mg) : Df P w K mg base CX0 1 "_law_draw" ["_law_source_here", "_law_many"] spDraw := by
  refine Df.mk' T.g_law_draw T.f_law_draw (fun _ _ _ _ _ _ us hl => match us, hl with | [_, _], _ => rfl) fun fd F => F.ok sc__law_draw (fun vs H Q E h => ?_) (fun cdv A outer s H vs Q E hr h => ?_)
  · obtain ⟨S, L, cells, i, k, g, many, rfl, _⟩ := h
    rfl
  · obtain ⟨S, L, cells, i, k, g, many, rfl, hS, hL, ok, hm, hm2, kont⟩ := h
    have nd := sc__law_draw.nd
    have SL : S ≠ L := by
      intro e; rw [e, hL] at hS
      have z := Option.some.inj hS
      injection z with z
      cases cells <;> simp at z
    refine ⟨_, PSs.nox
   (pss_cons (ps_if (pt_cmpR op_ge (pe_ix ix_list (pv 0) pe_int (fun _ _ => rfl)) (pe_callB call_len_seq (by rfl) T.blen PySem.boot_len (pa_cons (pe_ix ix_list (pv 0) pe_int (fun _ _ => rfl)) pa_nil)) (nomark _)) (pss_one (ps_ret pe_int)) pss_nil)
   (pss_cons (ps_set (i := 2) nd rfl (by first | exact Or.inl rfl | exact Or.inr rfl) (pe_ix ix_list (pe_ix ix_list (pv 0) pe_int (fun _ _ => rfl)) (pe_ix ix_list (pv 0) pe_int (fun _ _ => rfl)) (fun _ _ => rfl)))
   (pss_cons (ps_set (i := 3) nd rfl (by first | exact Or.inl rfl | exact Or.inr rfl) (pe_or (pe_cmpR op_ge (pv 2) (pe_op op_pow pe_int pe_int) (nomark _)) (pe_one (pe_cmpR op_le (pv 2) (pe_op op_sub pe_int (pe_op op_pow pe_int pe_int)) (nomark _)))))
   (Evl.pss_cut (ps_if (PW.pt (pw_and (pt_val (pv 3)) (pw_and1 (pt_cmpR op_eq (pe_ix ix_list (pv 0) pe_int (fun _ _ => rfl)) pe_int (nomark _))))) (pss_one (ps_asg (pe_callB (call_abs) (by rfl) T.babs (by decide +kernel) (pa_cons (pv 2) pa_nil)) (pg_sub (pv 0) pe_int set_list))) pss_nil)
   (Evl.pss_cut (ps_if (pt_val (pv 3)) (pss_cons (ps_set (i := 4) nd rfl (by first | exact Or.inl rfl | exact Or.inr rfl) (pe_op op_mod (pe_callTy call_int1 (by rfl) T.bint (by decide +kernel) (pa_cons (pe_ix ix_list (pv 0) pe_int (fun _ _ => rfl)) pa_nil)) (pv 1)))
   (pss_one (ps_asg (pe_op op_fdivW (pe_ix ix_list (pv 0) pe_int (fun _ _ => rfl)) (pv 1)) (pg_sub (pv 0) pe_int set_list)))) (pss_cons (ps_set (i := 5) nd rfl (by first | exact Or.inl rfl | exact Or.inr rfl) (pe_op op_add (pe_op op_add (pe_op op_mul (pe_ix ix_list (pv 0) pe_int (fun _ _ => rfl)) pe_int) (pe_op op_mul (pe_ix ix_list (pv 0) pe_int (fun _ _ => rfl)) pe_int)) pe_int))
   (pss_cons (ps_set (i := 6) nd rfl (by first | exact Or.inl rfl | exact Or.inr rfl) (pe_op op_mod (pe_callTy call_int1 (by rfl) T.bint (by decide +kernel) (pa_cons (pe_op op_add (pe_op op_mul (pv 2) pe_int) (pv 5)) pa_nil)) pe_int))
   (pss_cons (ps_set (i := 6) nd rfl (by first | exact Or.inl rfl | exact Or.inr rfl) (pe_op op_mod (pe_callTy call_int1 (by rfl) T.bint (by decide +kernel) (pa_cons (pe_op op_add (pe_op op_add (pe_op op_mul (pv 6) (pv 6)) (pe_op op_mul (pv 2) pe_int)) (pe_ix ix_list (pv 0) pe_int (fun _ _ => rfl))) pa_nil)) pe_int))
   (pss_one (ps_set (i := 4) nd rfl (by first | exact Or.inl rfl | exact Or.inr rfl) (pe_op op_mod (pe_callTy call_int1 (by rfl) T.bint (by decide +kernel) (pa_cons (pv 6) pa_nil)) (pv 1))))))))
   (pss_cons (ps_asg (pe_op op_add (pe_ix ix_list (pv 0) pe_int (fun _ _ => rfl)) pe_int) (pg_sub (pv 0) pe_int set_list))
   (pss_cons (ps_if (PW.pt (pw_or (pt_cmpR op_ge (pe_ix ix_list (pv 0) pe_int (fun _ _ => rfl)) pe_int (nomark _)) (pw_or (PW.pt (pw_and (pt_not (pt_val (pv 3))) (pw_and1 (pt_cmpR op_ge (pe_ix ix_list (pv 0) pe_int (fun _ _ => rfl)) pe_int (nomark _))))) (pw_or1 (PW.pt (pw_and (pt_val (pv 3)) (pw_and1 (pt_cmpR op_eq (pe_ix ix_list (pv 0) pe_int (fun _ _ => rfl)) pe_int (nomark _))))))))) (pss_cons (ps_asg (pe_op op_add (pe_ix ix_list (pv 0) pe_int (fun _ _ => rfl)) pe_int) (pg_sub (pv 0) pe_int set_list))
   (pss_one (ps_asg pe_int (pg_sub (pv 0) pe_int set_list)))) pss_nil)
   (pss_one (ps_ret (pv 4)))))))))), ?_⟩
    have p18 : CPow 10 18 := ⟨by decide, by decide, by decide⟩
    have si : ∀ {σ : L2.St} {k' g' : Int} {j : Int} {v : V}, σ[0]? = some (some (.ref S)) → atI [V.ref L, .int i, .int k', .int g'] j = some v → Val (tOp (rIxL K) (tVar 0) (tC (.int j))) σ (upd H S (srcO L i k' g')) v := fun e a => val_ixL (val_var e) val_c (SqL.of upd_same) a
    have s0 : ∀ {σ : L2.St} {j : Int} {v : V}, σ[0]? = some (some (.ref S)) → atI [V.ref L, .int i, .int k, .int g] j = some v → Val (tOp (rIxL K) (tVar 0) (tC (.int j))) σ H v := fun e a => val_ixL (val_var e) val_c (SqL.of hS) a
    refine sq_when (ans_int (s0 rfl rfl) (val_len (s0 rfl rfl) (SqL.of hL))) (fun _ => ?_) (fun hi => ?_)
    · have := kont 0 i k g (Int.le_refl 0) hm ok
      rw [upd_self hS] at this
      exact this
    rw [List.length_map] at hi
    have hi' : i < (cells.length : Int) := by have := of_decide_eq_false hi; omega
    obtain ⟨c, hc⟩ := cell_at ok.i0 hi'
    refine sq_set (val_ixL (s0 rfl rfl) (s0 rfl rfl) (SqL.of hL) hc) ?_
    -- great
    refine sq_set (val_orV (val_int (val_var rfl) (val_intC val_c val_c p18)) (val_int (val_var rfl) (val_int val_c (val_intC val_c val_c p18)))) ?_
    rw [pow18]
    generalize eb : (decide ((1000000000000000000 : Int) ≤ c) || decide (c ≤ 0 - (1000000000000000000 : Int))) = b
    -- the first number of a great cell
    refine Evl.q_cut (M := fun σ' H' => σ' = [some (.ref S), some (.int many), some (.int c), some (.bl b), none, none, none] ∧ ∃ g', 0 ≤ g' ∧ H' = upd H S (srcO L i k g')) ?_ ?_
    · refine st_if (ans_and2 (ans_val (val_var rfl)) (ans_eq (s0 rfl rfl) val_c rfl rfl)) (fun _ => ?_) (fun _ => ?_)
      · exact st_setL hS (val_abs (val_var rfl)) (val_var rfl) val_c rfl ⟨rfl, _, by split <;> omega, rfl⟩
      · exact ⟨rfl, g, ok.g0, (upd_self hS).symm⟩
    rintro σ1 H1 ⟨rfl, g1, hg1, rfl⟩
    -- the number
    refine Evl.q_cut (M := fun σ' H' => ∃ n x5 x6 g', σ' = [some (.ref S), some (.int many), some (.int c), some (.bl b), some (.int n), x5, x6] ∧ 0 ≤ n ∧ n < many ∧ 0 ≤ g' ∧ H' = upd H S (srcO L i k g')) ?_ ?_
    · refine st_if (ans_val (val_var rfl)) (fun _ => ?_) (fun h => ?_)
      · refine sq_set (val_intC (val_toInt (si rfl rfl)) (val_var rfl) hm) ?_
        refine st_setL upd_same (val_intC (si rfl rfl) (val_var rfl) (wide_div (b := 200) hm (by omega) (by decide) (by decide))) (val_var rfl) val_c rfl ?_
        rw [upd_upd]
        exact ⟨_, _, _, _, rfl, Int.emod_nonneg _ (by omega), Int.emod_lt_of_pos _ hm, Int.ediv_nonneg hg1 (by omega), rfl⟩
      · have hc1 : -(2 ^ 64) < c ∧ c < 2 ^ 64 := by
          rw [h] at eb
          have e := Bool.or_eq_false_iff.mp eb
          have e1 := of_decide_eq_false e.1
          have e2 := of_decide_eq_false e.2
          omega
        have m1 : ∀ x : Int, -(2 ^ 64) < x % 2147483647 ∧ x % 2147483647 < 2 ^ 64 := fun x => by
          have a1 := Int.emod_nonneg x (show (2147483647 : Int) ≠ 0 by decide)
          have a2 := Int.emod_lt_of_pos x (show (0 : Int) < 2147483647 by decide)
          omega
        refine sq_set (val_int (val_int (val_intC (si rfl rfl) val_c (.inr (by decide))) (val_intC (si rfl rfl) val_c (.inr (by decide)))) val_c) ?_
        refine sq_set (val_intC (val_toInt (val_int (val_intC (val_var rfl) val_c (.inl hc1)) (val_var rfl))) val_c (by decide)) ?_
        refine sq_set (val_intC (val_toInt (val_int (val_int (val_intC (val_var rfl) (val_var rfl) (.inl (m1 _))) (val_intC (val_var rfl) val_c (.inl hc1))) (si rfl rfl))) val_c (by decide)) ?_
        refine st_set (val_intC (val_toInt (val_var rfl)) (val_var rfl) hm) ?_
        exact ⟨_, _, _, g1, rfl, Int.emod_nonneg _ (by omega), Int.emod_lt_of_pos _ hm, hg1, rfl⟩
    rintro σ2 H2 ⟨n, x5, x6, g2, rfl, n0, n1, hg2, rfl⟩
    -- one more draw out of this cell
    refine sq_setL upd_same (val_int (si rfl rfl) val_c) (val_var rfl) val_c rfl ?_
    rw [upd_upd]
    refine sq_when (ans_or2 (ans_int (si rfl rfl) val_c) (ans_or2 (ans_and2 (ans_not (ans_val (val_var rfl))) (ans_int (si rfl rfl) val_c)) (ans_and2 (ans_val (val_var rfl)) (ans_eq (si rfl rfl) val_c rfl rfl)))) (fun _ => ?_) (fun _ => ?_)
    · refine sq_setL upd_same (val_int (si rfl rfl) val_c) (val_var rfl) val_c rfl ?_
      refine st_setL upd_same val_c (val_var rfl) val_c rfl ?_
      rw [upd_upd, upd_upd]
      exact st_ret (val_var rfl) (kont n (i + 1) 0 g2 n0 n1 ⟨by have := ok.i0; omega, Int.le_refl 0, hg2, ok.len⟩)
    · exact st_ret (val_var rfl) (kont n i (k + 1) g2 n0 n1 ⟨ok.i0, by have := ok.k0; omega, hg2, ok.len⟩)

theorem ok_drawE (T : Txt K mg) : Df P w K mg base CX0 1 "_law_draw" ["_law_source_here", "_law_many"] spDrawE := by
  obtain ⟨a, b, fd, F, bb⟩ := ok_draw (P := P) (w := w) (base := base) T
  exact ⟨a, b, fd, F.imp draw_imp, bb⟩
end

end K6
namespace K6
open PySem PySem.Spec PyProof.Rows L2 He Tp ClX LiI

section
variable {P : Program} {w : World} {K : PySem.W.Frag} {mg : Str → Option Value} {base : Heap}
theorem ok_source (T : Txt K mg) : Df P w K mg base CX0 1 "_law_source" ["_law_script"] (spSource K) := by
  refine Df.mk' T.g_law_source T.f_law_source (fun _ _ _ _ _ _ us hl => match us, hl with | [_], _ => rfl) fun fd F => F.ok sc__law_source (fun vs H Q E h => ?_) (fun cdv A outer s H vs Q E hr h => ?_)
  · obtain ⟨a, ns, rfl, _⟩ := h
    rfl
  · obtain ⟨a, ns, rfl, hS, hl, q⟩ := h
    have nd := sc__law_source.nd
    refine ⟨_, PSs.nox
   (pss_one (ps_ret (pe_lst (pa_cons (pe_lc (own := [("_law_cell", 1)]) (g := gName 1) (tt := tYes) (by rfl) nd (pi_list (pe_slice sl_list (pv 0) po_none (po_some pe_int))) (blkOk_by (own := [("_law_cell", 1)]) (N := n__law_source) (sc := defScope s__law_source) (by decide +kernel)) (fun _ _ _ _ _ => pg_name (i := 1) nd rfl (by first | exact Or.inl rfl | exact Or.inr rfl)) (fun _ _ _ _ _ => pts_nil) (fun _ _ _ _ _ => (pe_callTy call_int1 (by rfl) T.bint (by decide +kernel) (pa_cons (pv 1) pa_nil)))) (pa_cons pe_int (pa_cons pe_int (pa_cons pe_int pa_nil))))))), ?_⟩
    refine ⟨_, rfl, _, rfl, a, _, rfl, hS, fun c hc => ?_⟩
    have hlen : (cutV (ns.map V.int) none (some 63)).length ≤ 63 := by
      have := cutV_length (ns.map V.int) none (some 63)
      rw [List.length_map] at this
      omega
    have hint : ∀ x ∈ cutV (ns.map V.int) none (some 63), ∃ z, x = V.int z := by
      intro x hx
      have h1 : x ∈ ns.map V.int := by
        unfold cutV at hx
        exact List.mem_of_mem_drop (List.mem_of_mem_take hx)
      obtain ⟨z, _, e⟩ := List.mem_map.mp h1
      exact ⟨z, e.symm⟩
    refine ⟨c, rfl, ⟨_, SqL.of upd_same⟩, fun D hD => ?_⟩
    refine lc_list (K := K) (a := c) (xs := cutV (ns.map V.int) none (some 63)) (fun i H' => ∃ acc : List Int, H' = upd (upd H c (.lst (cutV (ns.map V.int) none (some 63)))) D (.lst (acc.map V.int)) ∧ acc.length = i) ⟨[], rfl, rfl⟩ ?_ ?_ ?_
    · rintro i H' _ ⟨acc, rfl, _⟩
      exact SqL.of (by rw [upd_ne (ne_of_none upd_same hD)]; exact upd_same)
    · rintro i x H' hx ⟨acc, rfl, hacc⟩
      obtain ⟨z, rfl⟩ := hint x (List.mem_of_getElem? hx)
      have hi := (List.getElem?_eq_some_iff.mp hx).1
      refine ⟨wipe1, ?_⟩
      refine tyes ?_
      refine val_toInt (x := z) (val_var rfl) _ ⟨acc.map V.int, upd_same, by rw [List.length_map]; exact small1000 (by omega), acc ++ [z], ?_, by rw [List.length_append, hacc]; rfl⟩
      rw [upd_upd, List.map_append]
      rfl
    · rintro H' ⟨acc, rfl, hacc⟩
      refine ⟨(by show 4 ≤ sizeLine; decide), fun S hS2 => ?_⟩
      simp only [upd_none_iff] at hS2 hD
      refine q S D _ hS2.2.2 hD.2 ⟨fun b o z n => ?_, fun b xs z => ?_⟩ ⟨acc, 0, 0, 0, upd_same, ?_, ⟨Int.le_refl 0, Int.le_refl 0, Int.le_refl 0, by omega⟩⟩
      · rw [upd_ne (ne_of_none z hS2.2.2), upd_ne (ne_of_none z hD.2), upd_ne (ne_of_none z hc)]; exact z
      · rw [upd_ne (ne_of_none z hS2.2.2), upd_ne (ne_of_none z hD.2), upd_ne (ne_of_none z hc)]; exact z
      · rw [upd_ne (Ne.symm hS2.1)]; exact upd_same
theorem ok_word (T : Txt K mg) : Df P w K mg base CX0 1 "_law_word" ["_law_number"] spWord := by
  refine Df.mk' T.g_law_word T.f_law_word (fun _ _ _ _ _ _ us hl => match us, hl with | [_], _ => rfl) fun fd F => F.ok sc__law_word (fun vs H Q E h => ?_) (fun cdv A outer s H vs Q E hr h => ?_)
  · obtain ⟨n, rfl, _⟩ := h
    rfl
  · obtain ⟨n, rfl, h0, q⟩ := h
    have nd := sc__law_word.nd
    refine ⟨_, PSs.nox
   (pss_cons (ps_set (i := 1) nd rfl (by first | exact Or.inl rfl | exact Or.inr rfl) pe_str)
   (pss_cons (ps_set (i := 2) nd rfl (by first | exact Or.inl rfl | exact Or.inr rfl) pe_str)
   (pss_cons (ps_for PassesOwn.never rfl (pi_range1 (by rfl) T.brange (pa_cons pe_int pa_nil)) (pg_name (i := 3) nd rfl (by first | exact Or.inl rfl | exact Or.inr rfl))
   (pss_cons (ps_set (i := 2) nd rfl (by first | exact Or.inl rfl | exact Or.inr rfl) (pe_op op_add_str (pe_ix ix_str (pv 1) (pe_op op_mod (pe_callTy call_int1 (by rfl) T.bint (by decide +kernel) (pa_cons (pv 0) pa_nil)) pe_int) (fun _ _ => rfl)) (pv 2)))
   (pss_cons (ps_set (i := 0) nd rfl (by first | exact Or.inl rfl | exact Or.inr rfl) (pe_op op_sub (pe_op op_fdiv (pv 0) pe_int) pe_int))
   (pss_one (ps_if (pt_cmpR op_lt (pv 0) pe_int (nomark _)) (pss_one ps_break) pss_nil)))))
   (pss_one (ps_ret (pv 2)))))), ?_⟩
    refine sq_set val_c (sq_set val_c ?_)
    refine ⟨12, rfl, by decide, by decide, for_range (n := 12) (fun i σ H' => H' = H ∧ ∃ m z kv, σ = [some (.int m), some (.str Lz), some (.str z), kv] ∧ 0 ≤ m ∧ okS z ∧ z.length = i) ⟨rfl, n, _, none, rfl, h0, by decide +kernel, by decide +kernel⟩ ?_ ?_⟩
    · rintro i σ H' hi ⟨rfl, m, z, kv, rfl, hm, hz, hzl⟩
      have m0 := Int.emod_nonneg m (show (26 : Int) ≠ 0 by decide)
      have m1 := Int.emod_lt_of_pos m (show (0 : Int) < 26 by decide)
      have hL : (Lz.cps.toList.length : Int) = 26 := by decide +kernel
      obtain ⟨c, hc, _⟩ := atI_some (xs := Lz.cps.toList) (i := m % 26) m0 (by omega)
      have hc1 : okS ⟨#[c]⟩ := okS_sign (z := Lz) (by decide +kernel) hc
      have hl1 : (⟨#[c]⟩ : Str).length = 1 := rfl
      refine sq_set (val_addS (x := ⟨#[c]⟩) (y := z) (val_ixS (val_var rfl) (val_intC (val_toInt (val_var rfl)) val_c (by decide)) (by decide +kernel) hc) (val_var rfl) (by omega)) ?_
      refine sq_set (val_int (val_intC (val_var rfl) val_c ⟨by decide, by decide⟩) val_c) ?_
      refine st_if (ans_int (val_var rfl) val_c) (fun _ => ?_) (fun h => ?_)
      · exact st_ret (val_var rfl) (q _ (okS_append hc1 hz) (by rw [len_append]; omega))
      · refine ⟨rfl, m / 26 - 1, _, _, rfl, ?_, okS_append hc1 hz, by rw [len_append]; omega⟩
        have := of_decide_eq_false h
        omega
    · rintro σ H' ⟨rfl, m, z, kv, rfl, hm, hz, hzl⟩
      exact st_ret (val_var rfl) (q _ hz (by omega))
end

end K6
namespace K6
open PySem PySem.Spec PyProof.Rows L2 He Tp ClX LiI

section
variable {P : Program} {w : World} {K : PySem.W.Frag} {mg : Str → Option Value} {base : Heap}
theorem ok_name (T : Txt K mg) : Df P w K mg base CX0 2 "_law_name" ["_law_source_here", "_law_k"] spName := by
  have D__law_draw := ok_drawE (P := P) (w := w) (base := base) T
  have D__law_word := ok_word (P := P) (w := w) (base := base) T
  refine Df.mk' T.g_law_name T.f_law_name (fun _ _ _ _ _ _ us hl => match us, hl with | [_, _], _ => rfl) fun fd F => F.ok sc__law_name (fun vs H Q E h => ?_) (fun cdv A outer s H vs Q E hr h => ?_)
  · obtain ⟨S, L, k, rfl, _⟩ := h
    rfl
  · obtain ⟨S, L, k, rfl, hk, hS, q⟩ := h
    have nd := sc__law_name.nd
    have hr__law_draw := hr
    have hr__law_word := hr
    refine ⟨_, PSs.nox
   (pss_cons (ps_set (i := 2) nd rfl (by first | exact Or.inl rfl | exact Or.inr rfl) (pe_ix ix_list (pe_lst (pa_cons pe_int (pa_cons pe_int (pa_cons (pe_op op_pow pe_int pe_int) pa_nil)))) (pe_cd D__law_draw hr__law_draw (by rfl) pass0 (pa_cons (pv 0) (pa_cons pe_int pa_nil))) (fun _ _ => rfl)))
   (pss_one (ps_ret (pe_cd D__law_word hr__law_word (by rfl) pass0 (pa_cons (pe_op op_add (pe_op op_mul (pe_cd D__law_draw hr__law_draw (by rfl) pass0 (pa_cons (pv 0) (pa_cons (pv 2) pa_nil))) pe_int) (pv 1)) pa_nil))))), ?_⟩
    have p15 : CPow 10 15 := ⟨by decide, by decide, by decide⟩
    refine ⟨10, 15, rfl, rfl, p15, ?_⟩
    refine ⟨(by show 3 ≤ sizeLine; decide), fun a ha => ?_⟩
    have S1 : SrcAt (upd H a (.lst [.int 3, .int 1000, .int ((10 : Int) ^ (15 : Int).toNat)])) S L := hS.new ha
    refine draw_ex (i := 0) rfl S1 (by decide) (by decide) val_c (fun n H1 n0 n1 e1 S2 => ?_)
    have aS : a ≠ S := by
      rintro rfl
      obtain ⟨cells, i, k, g, hs, _⟩ := hS
      rw [ha] at hs; cases hs
    have hL : H1 a = some (.lst [.int 3, .int 1000, .int ((10 : Int) ^ (15 : Int).toNat)]) := e1.keep _ _ upd_same (by simp [aS])
    obtain ⟨m, hm, m0, m1⟩ : ∃ m : Int, atI [V.int 3, .int 1000, .int ((10 : Int) ^ (15 : Int).toNat)] n = some (.int m) ∧ 0 < m ∧ m < 2 ^ 200 := by
      have : n = 0 ∨ n = 1 ∨ n = 2 := by omega
      rcases this with rfl | rfl | rfl
      · exact ⟨3, rfl, by decide, by decide⟩
      · exact ⟨1000, rfl, by decide, by decide⟩
      · exact ⟨_, rfl, by decide, by decide⟩
    refine ⟨a, _, n, _, rfl, rfl, SqL.of hL, hm, ?_⟩
    refine draw_ex (i := 0) rfl S2 m0 m1 (val_var rfl) (fun n' H2 n0' n1' e2 S3 => ?_)
    have hmul : CMul n' 8 := .inr (by decide)
    refine ⟨n', 8, rfl, rfl, hmul, ?_⟩
    refine ⟨_, rfl, _, _, rfl, rfl, ?_⟩
    refine ⟨n' * 8 + k, rfl, by omega, fun z hz hl => q z H2 hz hl ?_ S3⟩
    exact ((Ext.new ha).trans e1).trans e2
end

end K6
namespace K6
open PySem PySem.Spec PyProof.Rows L2 He Tp ClX LiI

/-- values of a law's draw: data that never changes, a text of bounded length -/
def shortV : V → Prop
  | .str z => z.length ≤ 1000
  | _ => True
def Wv (H : Hp) (v : V) : Prop := ∃ d, Im H v d ∧ okD d ∧ shortV v
theorem Wv.ext {ms : List Addr} {H H' : Hp} {v : V} (h : Wv H v) (e : Ext ms H H') : Wv H' v := by
  obtain ⟨d, a, b, c⟩ := h
  exact ⟨d, a.ext e, b, c⟩
theorem Wv.ptv {K : PySem.W.Frag} {H : Hp} {v : V} (h : Wv H v) : Ptv K H v := by
  obtain ⟨d, a, b, c⟩ := h
  cases a with
  | non => exact .non
  | bl _ => exact .bl _
  | int i => exact .int i
  | str x => exact .str c
  | tup h _ => exact .tup (.inl (.inl h))
theorem Wv.str {H : Hp} {z : Str} (h : okS z) (hl : z.length ≤ 1000) : Wv H (.str z) := ⟨_, .str z, okD.str h, hl⟩
theorem Wv.non {H : Hp} : Wv H .non := ⟨_, .non, okD.none, trivial⟩
theorem Wv.int {H : Hp} {i : Int} : Wv H (.int i) := ⟨_, .int i, okD.int, trivial⟩
theorem Wv.bl {H : Hp} {b : Bool} : Wv H (.bl b) := ⟨_, .bl b, okD.bool, trivial⟩
theorem Wv.tup1 {H : Hp} {a : Addr} {z : Str} (h : okS z) (ha : H a = some (.tup [.str z])) : Wv H (.ref a) :=
  ⟨_, .tup ha (.cons (.str z) .nil), okD.tup (n := 1) (by intro d hd; simp at hd; subst hd; exact ⟨(okD.str h).1, by simp [PyData.depth]⟩) (by decide), trivial⟩
theorem src_ne_new {H : Hp} {S L a : Addr} (hS : SrcAt H S L) (ha : H a = none) : a ≠ S := by
  rintro rfl
  obtain ⟨cells, i, k, g, hs, _⟩ := hS
  rw [ha] at hs; cases hs
theorem len_join {y : Str} : ∀ {zs : List Str}, (Str.join y zs).length ≤ (zs.map (·.length)).sum + zs.length * y.length
  | [] => Nat.zero_le _
  | [z] => by show z.length ≤ _; simp
  | x :: z :: r => by
    show (x ++ y ++ Str.join y (z :: r)).length ≤ _
    rw [len_append, len_append]
    have := len_join (y := y) (zs := z :: r)
    simp only [List.map_cons, List.sum_cons, List.length_cons, Nat.add_mul] at this ⊢
    omega
/-- _law_word_drawn(source, k) -/
def spWordDrawn : Sp := fun vs H Q _ => ∃ (S L : Addr) (k : Int), vs = [.ref S, .int k] ∧ 0 ≤ k ∧ SrcAt H S L ∧ ∀ (v : V) H', Wv H' v → Ext [S] H H' → SrcAt H' S L → Q v H'

end K6
namespace K6
open PySem PySem.Spec PyProof.Rows L2 He Tp ClX LiI

section
def Oz : Str := Str.ofString "AZ 09_-.~\n\x40[`{!#$&'()*+,/12345678:;<=>?BCDEFGHIJKLMNOPQRSTUVWXY]^|}\\\""
theorem Oz_ok : okS Oz := by decide +kernel
theorem Oz_len : Oz.length ≤ 100 := by decide +kernel
theorem Oz_pos : 0 < (Oz.length : Int) ∧ (Oz.length : Int) < 2 ^ 200 := by decide +kernel
variable {P : Program} {w : World} {K : PySem.W.Frag} {mg : Str → Option Value} {base : Heap}
theorem ok_word_drawn (T : Txt K mg) : Df P w K mg base CX0 3 "_law_word_drawn" ["_law_source_here", "_law_k"] spWordDrawn := by
  have D__law_draw := ok_drawE (P := P) (w := w) (base := base) T
  have D__law_name := ok_name (P := P) (w := w) (base := base) T
  refine Df.mk' T.g_law_word_drawn T.f_law_word_drawn (fun _ _ _ _ _ _ us hl => match us, hl with | [_, _], _ => rfl) fun fd F => F.ok sc__law_word_drawn (fun vs H Q E h => ?_) (fun cdv A outer s H vs Q E hr h => ?_)
  · obtain ⟨S, L, k, rfl, _⟩ := h
    rfl
  · obtain ⟨S, L, k, rfl, hk, hS, q⟩ := h
    have nd := sc__law_word_drawn.nd
    have hr__law_draw := hr.mono (show 1 ≤ 2 by decide)
    have hr__law_name := hr
    refine ⟨_, PSs.nox
   (pss_cons (ps_set (i := 2) nd rfl (by first | exact Or.inl rfl | exact Or.inr rfl) (pe_cd D__law_name hr__law_name (by rfl) pass0 (pa_cons (pv 0) (pa_cons (pv 1) pa_nil))))
   (pss_cons (ps_set (i := 3) nd rfl (by first | exact Or.inl rfl | exact Or.inr rfl) (pe_cd D__law_draw hr__law_draw (by rfl) pass0 (pa_cons (pv 0) (pa_cons pe_int pa_nil))))
   (Evl.pss_cut (ps_if (pt_cmpR op_eq (pv 3) pe_int (nomark _)) (pss_one (ps_set (i := 2) nd rfl (by first | exact Or.inl rfl | exact Or.inr rfl) (pe_slice sl_str (pe_join pe_str (pe_lc (own := [("_law_time", 6)]) (g := gName 6) (tt := tYes) (by rfl) nd (pi_range1 (by rfl) T.brange (pa_cons pe_int pa_nil)) (blkOk_by (own := [("_law_time", 6)]) (N := n__law_word_drawn) (sc := defScope s__law_word_drawn) (by decide +kernel)) (fun _ _ _ _ _ => pg_name (i := 6) nd rfl (by first | exact Or.inl rfl | exact Or.inr rfl)) (fun _ _ _ _ _ => pts_nil) (fun _ _ _ _ _ => (pv 2)))) po_none (po_some (pe_op op_add pe_int (pe_cd D__law_draw hr__law_draw (by rfl) pass0 (pa_cons (pv 0) (pa_cons pe_int pa_nil)))))))) pss_nil)
   (Evl.pss_cut (ps_if (pt_cmpR op_eq (pv 3) pe_int (nomark _)) (pss_cons (ps_set (i := 4) nd rfl (by first | exact Or.inl rfl | exact Or.inr rfl) (pe_cd D__law_draw hr__law_draw (by rfl) pass0 (pa_cons (pv 0) (pa_cons (pe_op op_add (pe_callB call_len_str (by rfl) T.blen PySem.boot_len (pa_cons (pv 2) pa_nil)) pe_int) pa_nil))))
   (pss_cons (ps_set (i := 5) nd rfl (by first | exact Or.inl rfl | exact Or.inr rfl) pe_str)
   (pss_one (ps_set (i := 2) nd rfl (by first | exact Or.inl rfl | exact Or.inr rfl) (pe_slice sl_str (pe_op op_add_str (pe_op op_add_str (pe_slice sl_str (pv 2) po_none (po_some (pv 4))) (pe_ix ix_str (pv 5) (pe_cd D__law_draw hr__law_draw (by rfl) pass0 (pa_cons (pv 0) (pa_cons (pe_callB call_len_str (by rfl) T.blen PySem.boot_len (pa_cons (pv 5) pa_nil)) pa_nil))) (fun _ _ => rfl))) (pe_slice sl_str (pv 2) (po_some (pv 4)) po_none)) po_none (po_some pe_int)))))) pss_nil)
   (Evl.pss_cut (ps_if (pt_cmpR op_eq (pv 3) pe_int (nomark _)) (pss_one (ps_set (i := 2) nd rfl (by first | exact Or.inl rfl | exact Or.inr rfl) (pe_ix ix_list (pe_lst (pa_cons pe_str (pa_cons pe_non (pa_cons pe_int (pa_cons (pe_tup (pa_cons pe_str pa_nil)) (pa_cons pe_bl (pa_cons pe_bl (pa_cons (pe_tup (pa_cons (pv 2) pa_nil)) pa_nil)))))))) (pe_cd D__law_draw hr__law_draw (by rfl) pass0 (pa_cons (pv 0) (pa_cons pe_int pa_nil))) (fun _ _ => rfl)))) pss_nil)
   (pss_one (ps_ret (pv 2)))))))), ?_⟩
    refine ⟨_, rfl, _, rfl, S, L, k, rfl, hk, hS, fun z0 H1 hz0 hl0 e1 S1 => ?_⟩
    refine draw_ex (i := 0) rfl S1 (by decide) (by decide) val_c (fun way H2 n0 n1 e2 S2 => ?_)
    -- a long word
    refine ⟨fun σ' H' => ∃ z, σ' = [some (.ref S), some (.int k), some (.str z), some (.int way), none, none, none] ∧ okS z ∧ z.length ≤ 13 ∧ Ext [S] H H' ∧ SrcAt H' S L, ?_, ?_⟩
    · refine st_if (ans_eq (val_var rfl) val_c rfl rfl) (fun _ => ?_) (fun _ => ?_)
      · refine ⟨⟨_, rfl⟩, Evl.el_lcR1 (n := 13) (fun _ => true) (fun _ => .str z0) (Evl.ea_cons Evl.ev_c Evl.ea_nil) (by decide) (fun x => rfl) (fun i H1 _ _ Hx _ Q q => q Hx (Evl.Ex.refl _)) (fun i H1 _ _ _ => Evl.ev_var rfl) H2 (Evl.Ex.refl _) _ fun p H3 hp e3 h3 => ?_⟩
        have e3' : Ext [] H2 H3 := Ext.of e3
        have hsum : ((List.replicate 13 z0).map (·.length)).sum + (List.replicate 13 z0).length * (⟨#[]⟩ : Str).length ≤ 16777216 := by
          simp only [List.map_replicate, List.sum_replicate_nat, List.length_replicate]
          have : (⟨#[]⟩ : Str).length = 0 := rfl
          omega
        refine ⟨⟨#[]⟩, p, List.replicate 13 z0, rfl, rfl, .inl (SqL.of h3), hsum, ?_⟩
        refine draw_ex (i := 0) rfl (S2.ext e3') (by decide) (by decide) val_c (fun n H4 n0' n1' e4 S4 => ?_)
        obtain ⟨m, rfl⟩ := Int.eq_ofNat_of_zero_le n0'
        refine ⟨12, _, rfl, rfl, _, rfl, _, rfl, ?_, _, rfl, ?_, ?_, ?_, S4⟩
        · rw [TL.join_eq]
          refine Nat.le_trans len_join ?_
          exact Nat.le_trans hsum (by decide)
        · rw [TL.join_eq]
          exact okS_cut (okS_join (by decide +kernel) fun z hz => by rw [List.eq_of_mem_replicate hz]; exact hz0)
        · refine Nat.le_trans (len_cut_hi (n := 12 + m)) (by omega)
        · exact (e1.trans e2).trans (e3'.nil.trans e4)
      · exact ⟨z0, rfl, hz0, by omega, e1.trans e2, S2⟩
    rintro σ1 H3 ⟨z1, rfl, hz1, hl1, e3, S3⟩
    -- an odd sign
    refine ⟨fun σ' H' => ∃ z x4 x5, σ' = [some (.ref S), some (.int k), some (.str z), some (.int way), x4, x5, none] ∧ okS z ∧ z.length ≤ 13 ∧ Ext [S] H H' ∧ SrcAt H' S L, ?_, ?_⟩
    · refine st_if (ans_eq (val_var rfl) val_c rfl rfl) (fun _ => ?_) (fun _ => ?_)
      · refine draw_ex (i := 0) rfl S3 (by omega) (Int.lt_of_le_of_lt (show ((z1.length : Int) + 1) ≤ 14 by omega) (by decide)) (val_int (val_lenS (val_var rfl) (by omega)) val_c) (fun at_ H4 a0 a1 e4 S4 => ?_)
        refine sq_set val_c ?_
        refine ⟨_, rfl, _, rfl, at_, rfl, z1, rfl, (Nat.le_trans (show z1.length ≤ 100 by omega) (by decide)), _, rfl, ?_⟩
        refine draw_ex (i := 0) (many := (Oz.length : Int)) rfl S4 Oz_pos.1 Oz_pos.2 (val_lenS (z := Oz) (val_var rfl) (Nat.le_trans Oz_len (by decide))) (fun n H5 n0' n1' e5 S5 => ?_)
        obtain ⟨c, hc, _⟩ := atI_some (xs := Oz.cps.toList) n0' (by rw [Tp.len_list]; exact n1')
        refine ⟨Oz, n, c, rfl, rfl, Evl.sz_of (Nat.le_trans Oz_len (by decide)), hc, ?_⟩
        have hl0 := len_cut_le (z := z1) (lo := none) (hi := some at_)
        have hl1' := len_cut_le (z := z1) (lo := some at_) (hi := none)
        have hlc : (⟨#[c]⟩ : Str).length = 1 := rfl
        have hsz : ∀ {n : Nat}, n ≤ 100 → n ≤ sizeLine := fun h => Evl.sz_of (by omega)
        refine ⟨_, _, rfl, rfl, hsz (by omega), _, rfl, _, rfl, _, rfl, z1, rfl, hsz (by omega), _, _, rfl, rfl, ?_, _, rfl, _, rfl, ?_, _, _, _, rfl, ?_, ?_, ?_, S5⟩
        · rw [len_append]; exact hsz (by omega)
        · rw [len_append, len_append]; exact hsz (by omega)
        · exact okS_cut (okS_append (okS_append (okS_cut hz1) (okS_sign Oz_ok hc)) (okS_cut hz1))
        · exact Nat.le_trans (len_cut_hi (n := 12)) (by decide)
        · exact e3.trans (e4.trans e5)
      · exact ⟨z1, _, _, rfl, hz1, hl1, e3, S3⟩
    rintro σ2 H4 ⟨z2, x4, x5, rfl, hz2, hl2, e4, S4⟩
    -- no text at all
    refine ⟨fun σ' H' => ∃ v x4 x5, σ' = [some (.ref S), some (.int k), some v, some (.int way), x4, x5, none] ∧ Wv H' v ∧ Ext [S] H H' ∧ SrcAt H' S L, ?_, ?_⟩
    · refine st_if (ans_eq (val_var rfl) val_c rfl rfl) (fun _ => ?_) (fun _ => ?_)
      · refine ⟨by decide, fun p1 hp1 => ?_⟩
        refine ⟨_, rfl, by show 1 ≤ sizeLine; decide, fun p2 hp2 => ?_⟩
        refine ⟨by show 7 ≤ sizeLine; decide, fun l hl => ?_⟩
        refine draw_ex (i := 0) rfl (((S4.new hp1).new hp2).new hl) (by decide) (by decide) val_c (fun n H5 n0' n1' e5 S5 => ?_)
        have q1 : p1 ≠ S := src_ne_new S4 hp1
        have q2 : p2 ≠ S := src_ne_new (S4.new hp1) hp2
        have q3 : l ≠ S := src_ne_new ((S4.new hp1).new hp2) hl
        have ee : Ext [S] H4 H5 := (Ext.new hp1).trans ((Ext.new hp2).trans ((Ext.new hl).trans e5))
        have n21 : p2 ≠ p1 := fun e => by rw [e, upd_same] at hp2; cases hp2
        have nl1 : l ≠ p1 := fun e => by rw [e, upd_ne n21.symm, upd_same] at hl; cases hl
        have nl2 : l ≠ p2 := fun e => by rw [e, upd_same] at hl; cases hl
        have h5l : H5 l = some (.lst [.str ⟨#[]⟩, .non, .int 7, .ref p1, .bl true, .bl false, .ref p2]) := e5.keep _ _ upd_same (by simp [q3])
        have h51 : H5 p1 = some (.tup [.str "a"]) := e5.tups _ _ (by rw [upd_ne nl1.symm, upd_ne n21.symm]; exact upd_same)
        have h52 : H5 p2 = some (.tup [.str z2]) := e5.tups _ _ (by rw [upd_ne nl2.symm]; exact upd_same)
        obtain ⟨v, hv, hw⟩ : ∃ v : V, atI [V.str ⟨#[]⟩, .non, .int 7, .ref p1, .bl true, .bl false, .ref p2] n = some v ∧ Wv H5 v := by
          have : n = 0 ∨ n = 1 ∨ n = 2 ∨ n = 3 ∨ n = 4 ∨ n = 5 ∨ n = 6 := by omega
          rcases this with rfl | rfl | rfl | rfl | rfl | rfl | rfl
          · exact ⟨_, rfl, .str (by decide +kernel) (by decide)⟩
          · exact ⟨_, rfl, .non⟩
          · exact ⟨_, rfl, .int⟩
          · exact ⟨_, rfl, .tup1 (by decide +kernel) h51⟩
          · exact ⟨_, rfl, .bl⟩
          · exact ⟨_, rfl, .bl⟩
          · exact ⟨_, rfl, .tup1 hz2 h52⟩
        exact ⟨l, _, n, v, rfl, rfl, SqL.of h5l, hv, v, _, _, rfl, hw, e4.trans ee, S5⟩
      · exact ⟨_, _, _, rfl, .str hz2 (by omega), e4, S4⟩
    rintro σ3 H5 ⟨v, x4, x5, rfl, hv, e5, S5⟩
    exact st_ret (val_var rfl) (q v H5 hv e5 S5)
end

end K6
namespace K6
open PySem PySem.Spec PyProof.Rows L2 He Tp ClX LiI

section
variable {P : Program} {w : World} {K : PySem.W.Frag} {mg : Str → Option Value} {base : Heap}
def dueOf (kn : List Str) (v g : V) (okg : Bool) (lab : Str) : Option (Str × V) :=
  match v with
  | .str z => if nmS z = false then some (("name" : Str), v) else if z ∈ kn then some (("known" : Str), v) else if okg = false then some (lab, g) else if kn.length = 8 then some (("full" : Str), V.int 8) else none
  | _ => some (("name" : Str), v)
theorem dueOf_name {kn : List Str} {v g : V} {o : Bool} {lab : Str} (e : isNm v = false) : dueOf kn v g o lab = some (("name" : Str), v) := by
  cases v with
  | str z => exact if_pos (show nmS z = false from e)
  | _ => rfl
def anyD (os : List Str) (d : PyData) : Bool := (os.map PyData.str).any fun z => PyData.eqv z d
def spRefusal : Sp := fun vs H Q _ => ∃ (k : Addr) (kn : List Str) (v g : V) (d : PyData) (o : Addr) (os : List Str) (lab : Str), vs = [.ref k, v, g, .ref o, .str lab] ∧ H k = some (.lst (kn.map V.str)) ∧ Wv H v ∧ Im H g d ∧ okD d ∧ H o = some (.lst (os.map V.str)) ∧ (∀ z ∈ os, okS z) ∧
  (∀ l t, dueOf kn v g (anyD os d) lab = some (l, t) → ∀ a H', H a = none → Ext [] H H' → H' a = some (.lst [.str l, t, .bl false]) → Q (.ref a) H') ∧ (dueOf kn v g (anyD os d) lab = none → ∀ H', Ext [] H H' → Q .non H')
theorem ok_refusal (T : Txt K mg) : Df P w K mg base CX0 1 "_law_refusal" ["_law_known", "_law_word_here", "_law_given", "_law_others", "_law_label"] spRefusal := by
  refine Df.mk' T.g_law_refusal T.f_law_refusal (fun _ _ _ _ _ _ us hl => match us, hl with | [_, _, _, _, _], _ => rfl) fun fd F => F.ok sc__law_refusal (fun vs H Q E h => ?_) (fun cdv A outer s H vs Q E hr h => ?_)
  · obtain ⟨k, kn, v, g, d, o, os, lab, rfl, _⟩ := h
    rfl
  · obtain ⟨k, kn, v, g, d, o, os, lab, rfl, hk, hv, hg, okg, ho, hos, qs, qn⟩ := h
    have nd := sc__law_refusal.nd
    have hu65 := hu65_of hr
    refine ⟨_, PSs.nox
   (pss_cons (ps_set (i := 5) nd rfl (by first | exact Or.inl rfl | exact Or.inr rfl) pe_str)
   (pss_cons (ps_set (i := 6) nd rfl (by first | exact Or.inl rfl | exact Or.inr rfl) (pe_and (pe_callB (call_isi) (by rfl) T.bisinstance (by decide +kernel) (pa_cons (pv 1) (pa_cons (pe_bltn (v := .ty "str") (u := .type "str") (by rfl) T.bstr (by decide +kernel) rfl) pa_nil))) (pe_one (pe_chain op_le op_le pe_int (pe_callB call_len_str (by rfl) T.blen PySem.boot_len (pa_cons (pv 1) pa_nil)) pe_int))))
   (pss_cons (ps_if (PW.pt (pw_or (pt_not (pt_val (pv 6))) (pw_or1 (pt_not (pt_val (pe_callB (cr_all rfl) (by rfl) T.ball (by decide +kernel) (pa_cons (pe_lc (own := [("_law_letter", 7)]) (g := gName 7) (tt := tYes) (by rfl) nd (pi_str (pv 1)) (blkOk_by (own := [("_law_letter", 7)]) (N := n__law_refusal) (sc := defScope s__law_refusal) (by decide +kernel)) (fun _ _ _ _ _ => pg_name (i := 7) nd rfl (by first | exact Or.inl rfl | exact Or.inr rfl)) (fun _ _ _ _ _ => pts_nil) (fun _ _ _ _ _ => (pe_cmpR op_in_sign (pv 7) (pv 5) (by rfl)))) pa_nil))))))) (pss_one (ps_ret (pe_lst (pa_cons pe_str (pa_cons (pv 1) (pa_cons pe_bl pa_nil)))))) pss_nil)
   (pss_cons (ps_if (pt_cmpR op_in_seq (pv 1) (pv 0) (by rfl)) (pss_one (ps_ret (pe_lst (pa_cons pe_str (pa_cons (pv 1) (pa_cons pe_bl pa_nil)))))) pss_nil)
   (pss_cons (ps_if (pt_cmpR (op_notInD hu65) (pv 2) (pv 3) (by rfl)) (pss_one (ps_ret (pe_lst (pa_cons (pv 4) (pa_cons (pv 2) (pa_cons pe_bl pa_nil)))))) pss_nil)
   (pss_cons (ps_if (pt_cmpR op_eq (pe_callB call_len_seq (by rfl) T.blen PySem.boot_len (pa_cons (pv 0) pa_nil)) pe_int (nomark _)) (pss_one (ps_ret (pe_lst (pa_cons pe_str (pa_cons pe_int (pa_cons pe_bl pa_nil)))))) pss_nil)
   (pss_one (ps_ret pe_non)))))))), ?_⟩
    refine sq_set val_c ?_
    have p := hv.ptv (K := K)
    have name : ∀ {H1 : Hp} {l : Str} {t : V}, Ext [] H H1 → dueOf kn v g (anyD os d) lab = some (l, t) → (3 : Nat) ≤ sizeLine ∧ ∀ a, H1 a = none → Q (.ref a) (upd H1 a (.lst [.str l, t, .bl false])) := fun e he => ⟨by decide, fun a ha => qs _ _ he a _ (e.none ha (by simp)) (e.fresh (e.none ha (by simp))) upd_same⟩
    refine val_isi (val_var rfl) p.ty (p.kit (.inr (.inr (.inl rfl)))) _ ⟨_, rfl, ?_⟩
    rw [str_eq p]
    have bad : ∀ {Hx : Hp}, isNm v = false → Ext [] H Hx → (3 : Nat) ≤ sizeLine ∧ ∀ a, Hx a = none → Q (.ref a) (upd Hx a (.lst [.str "name", v, .bl false])) := fun hb e => name e (dueOf_name hb)
    cases p with
    | @str z hz =>
      refine iteT ?_
      refine val_chain val_c (val_lenS (val_var rfl) (by omega)) val_c (fun _ q => ⟨1, _, rfl, rfl, q⟩) (fun _ q => ⟨_, 12, rfl, rfl, q⟩) _ ?_
      generalize hb : (decide ((1 : Int) ≤ (z.length : Int)) && decide ((z.length : Int) ≤ 12)) = b
      have e : isNm (.str z) = (b && allL Lz z) := by
        rw [← hb, Bool.and_assoc]
        rfl
      refine ⟨_, rfl, b, rfl, ?_⟩
      cases b with
      | false => exact iteT (iteT ⟨_, rfl, bad (by rw [e]; rfl) Ext.refl⟩)
      | true =>
        refine iteF ?_
        refine rd_all (L := Lz) (by show 7 < 8; decide) (val_var rfl) (by omega) (fun _ _ => val_var rfl) fun D bs hD => ⟨_, rfl, ?_⟩
        have e1 : Ext [] H (upd H D (.lst bs)) := Ext.new hD
        generalize hH : upd H D (.lst bs) = H1 at e1
        cases ha : allL Lz z with
        | false => exact iteT ⟨_, rfl, bad (by rw [e, ha]; rfl) e1⟩
        | true =>
          refine iteF ?_
          have hn : nmS z = true := by
            show isNm (.str z) = true
            rw [e, ha]
            rfl
          have ed : ∀ o, dueOf kn (.str z) g o lab = if z ∈ kn then some (("known" : Str), V.str z) else if o = false then some (lab, g) else if kn.length = 8 then some (("full" : Str), V.int 8) else none := fun o => if_neg (by rw [hn]; decide)
          have hk1 := e1.keep _ _ hk (by simp)
          have ho1 := e1.keep _ _ ho (by simp)
          refine ⟨_, rfl, _, rfl, k, kn.map V.str, rfl, .inl (SqL.of hk1), rfl, by rw [List.all_map]; exact List.all_eq_true.mpr fun _ _ => rfl, _, rfl, ?_⟩
          rw [inV_strs]
          refine ifd (fun hz1 => ?_) (fun hz1 => ?_)
          · exact ⟨_, rfl, name e1 (by rw [ed, if_pos hz1])⟩
          have sh : SeqAt.shaped (.list (os.map PyData.str)) = true := shapedL (n := 1) (by
            intro x hx
            obtain ⟨y, hy, rfl⟩ := List.mem_map.mp hx
            exact ⟨(okD.str (hos y hy)).1, by simp [PyData.depth]⟩) (by decide)
          refine ⟨_, rfl, _, rfl, d, os.map PyData.str, (hg.ext e1).dp, .lst (SqL.of ho1) (ImAll.strs os).dp, okg.shaped, sh, _, rfl, ?_⟩
          refine ifb (fun h1 => ?_) (fun h1 => ?_)
          · refine ⟨_, rfl, _, rfl, name e1 ?_⟩
            rw [ed, if_neg hz1]
            exact if_pos (by simpa [anyD] using h1)
          have hany : anyD os d = true := by simpa [anyD] using h1
          refine st_if (ans_eq (val_len (val_var rfl) (SqL.of hk1)) val_c rfl rfl) (fun h => ?_) (fun h => ?_)
          · refine name e1 ?_
            have h8 : kn.length = 8 := by simp at h; omega
            rw [ed, if_neg hz1, hany, if_neg (by decide), if_pos h8]
          · refine qn ?_ _ e1
            have h8 : ¬ kn.length = 8 := by simp at h; omega
            rw [ed, if_neg hz1, hany, if_neg (by decide), if_neg h8]
    | _ => exact iteF ⟨_, rfl, _, rfl, iteT (iteT ⟨_, rfl, bad rfl Ext.refl⟩)⟩
end


end K6
namespace K6
open PySem PySem.Spec PyProof.Rows L2 He Tp ClX LiI

section
variable {P : Program} {w : World} {K : PySem.W.Frag} {mg : Str → Option Value} {base : Heap}
theorem exB (T : Txt K mg) {x : Str} (h : x ∈ raised) : ExB K (ga K x) (fI K) := by
  simp only [raised, List.mem_cons, List.not_mem_nil, or_false] at h
  rcases h with rfl | rfl | rfl | rfl | rfl
  · exact T.xBadName
  · exact T.xKnown
  · exact T.xBadHold
  · exact T.xUnknown
  · exact T.xFull
def spAlone (K : PySem.W.Frag) : SpE := fun a cls d vs H Q _ => ∃ (x : Str) (dd : Addr) (fs : List (Str × V)), vs = [.ref a] ∧ x ∈ raised ∧ cls = .ref (ga K x) ∧ d = some dd ∧ H dd = some (.xd fs) ∧ ∀ H', Ext [] H H' → Q (.bl true) H'
theorem one_of : ∀ x ∈ raised, (([x == "BadName", x == "BadHold", x == "BadNumber", x == "BadAmount", x == "Known", x == "Unknown", x == "Full", x == "NotSure", x == "RingOfWishes", x == "BadLine"].filter (· == true)).length : Int) = 1 := by decide +kernel
theorem ok_alone (T : Txt K mg) : DfE P w K mg base CX0 1 "_law_alone" ["_law_e"] (spAlone K) := by
  refine DfE.mk' T.g_law_alone T.f_law_alone (fun _ _ _ _ _ _ us hl => match us, hl with | [_], _ => rfl) fun fd F => FunD.okE F sc__law_alone (fun a cls d vs H Q E h => ?_) (fun cdv A outer s H vs Q E p cls d hz hf hr h => ?_)
  · obtain ⟨x, dd, fs, rfl, _⟩ := h
    rfl
  · obtain ⟨x, dd, fs, rfl, hx, hc, hd0, hd, q⟩ := h
    have nd := sc__law_alone.nd
    have hp : p ∈ [p] := by simp
    refine ⟨_, (pss_cons (ps_set (i := 1) nd rfl (by first | exact Or.inl rfl | exact Or.inr rfl) (pe_lst (pa_cons (pe_callB (call_isXp hz hf hp) (by rfl) T.bisinstance (by decide +kernel) (pa_cons (pv 0) (pa_cons (pe_glob (v := .ref (ga K "BadName")) (by rfl) T.gBadName rfl) pa_nil))) (pa_cons (pe_callB (call_isXp hz hf hp) (by rfl) T.bisinstance (by decide +kernel) (pa_cons (pv 0) (pa_cons (pe_glob (v := .ref (ga K "BadHold")) (by rfl) T.gBadHold rfl) pa_nil))) (pa_cons (pe_callB (call_isXp hz hf hp) (by rfl) T.bisinstance (by decide +kernel) (pa_cons (pv 0) (pa_cons (pe_glob (v := .ref (ga K "BadNumber")) (by rfl) T.gBadNumber rfl) pa_nil))) (pa_cons (pe_callB (call_isXp hz hf hp) (by rfl) T.bisinstance (by decide +kernel) (pa_cons (pv 0) (pa_cons (pe_glob (v := .ref (ga K "BadAmount")) (by rfl) T.gBadAmount rfl) pa_nil))) (pa_cons (pe_callB (call_isXp hz hf hp) (by rfl) T.bisinstance (by decide +kernel) (pa_cons (pv 0) (pa_cons (pe_glob (v := .ref (ga K "Known")) (by rfl) T.gKnown rfl) pa_nil))) (pa_cons (pe_callB (call_isXp hz hf hp) (by rfl) T.bisinstance (by decide +kernel) (pa_cons (pv 0) (pa_cons (pe_glob (v := .ref (ga K "Unknown")) (by rfl) T.gUnknown rfl) pa_nil))) pa_nil))))))))
   (pss_cons (ps_set (i := 1) nd rfl (by first | exact Or.inl rfl | exact Or.inr rfl) (pe_op op_cat (pv 1) (pe_lst (pa_cons (pe_callB (call_isXp hz hf hp) (by rfl) T.bisinstance (by decide +kernel) (pa_cons (pv 0) (pa_cons (pe_glob (v := .ref (ga K "Full")) (by rfl) T.gFull rfl) pa_nil))) (pa_cons (pe_callB (call_isXp hz hf hp) (by rfl) T.bisinstance (by decide +kernel) (pa_cons (pv 0) (pa_cons (pe_glob (v := .ref (ga K "NotSure")) (by rfl) T.gNotSure rfl) pa_nil))) (pa_cons (pe_callB (call_isXp hz hf hp) (by rfl) T.bisinstance (by decide +kernel) (pa_cons (pv 0) (pa_cons (pe_glob (v := .ref (ga K "RingOfWishes")) (by rfl) T.gRingOfWishes rfl) pa_nil))) (pa_cons (pe_callB (call_isXp hz hf hp) (by rfl) T.bisinstance (by decide +kernel) (pa_cons (pv 0) (pa_cons (pe_glob (v := .ref (ga K "BadLine")) (by rfl) T.gBadLine rfl) pa_nil))) pa_nil)))))))
   (pss_one (ps_ret (pe_and (pe_cmpR op_eq (pe_bm PySem.F.plainAttrs_list PySem.F.slot_list_count PySem.F.type_list_count mt_lcountB (pv 1) (pa_cons pe_bl pa_nil)) pe_int (nomark _)) (pe_and (pe_callB (call_isXp hz hf hp) (by rfl) T.bisinstance (by decide +kernel) (pa_cons (pv 0) (pa_cons (pe_glob (v := .ref (ga K "DyeError")) (by rfl) T.gDyeError rfl) pa_nil))) (pe_one (pe_callB (call_isXp hz hf hp) (by rfl) T.bisinstance (by decide +kernel) (pa_cons (pv 0) (pa_cons (pe_bltn (v := .ty "ValueError") (u := .type "ValueError") (by rfl) T.bValueError (by decide +kernel) rfl) pa_nil)))))))))), ?_⟩
    have X := exB T hx
    have is : ∀ {σ : L2.St} {H1 : Hp} {y : Str}, σ[0]? = some (some (.ref p.1)) → y ∈ exAll → Ext [] H H1 → Val (tCB (rIsXe K cls d p.1) (tCons (tVar 0) (tCons (tC (.ref (ga K y))) tNil))) σ H1 (.bl (x == y)) :=
      fun h0 hy e => val_isXe (val_var h0) val_c hc hd0 X.ex (e.keep _ _ hd (by simp)) (.own _) (T.kit x hx _ hy)
    have is0 : ∀ {y : Str}, y ∈ exAll → Val (tCB (rIsXe K cls d p.1) (tCons (tVar 0) (tCons (tC (.ref (ga K y))) tNil))) (L2.start n__law_alone [V.ref p.1]) H (.bl (x == y)) := fun hy => is rfl hy Ext.refl
    refine is0 (y := "BadName") (by decide +kernel) _ (is0 (y := "BadHold") (by decide +kernel) _ (is0 (y := "BadNumber") (by decide +kernel) _ (is0 (y := "BadAmount") (by decide +kernel) _ (is0 (y := "Known") (by decide +kernel) _ (is0 (y := "Unknown") (by decide +kernel) _ ?_)))))
    refine ⟨by show 6 ≤ sizeLine; decide, fun l1 hl1 => ?_⟩
    have e1 : Ext [] H (upd H l1 (.lst [V.bl (x == "BadName"), .bl (x == "BadHold"), .bl (x == "BadNumber"), .bl (x == "BadAmount"), .bl (x == "Known"), .bl (x == "Unknown")])) := Ext.new hl1
    refine ⟨_, rfl, ?_⟩
    have is1 : ∀ {y : Str}, y ∈ exAll → Val (tCB (rIsXe K cls d p.1) (tCons (tVar 0) (tCons (tC (.ref (ga K y))) tNil))) [some (V.ref p.1), some (.ref l1)] (upd H l1 (.lst [V.bl (x == "BadName"), .bl (x == "BadHold"), .bl (x == "BadNumber"), .bl (x == "BadAmount"), .bl (x == "Known"), .bl (x == "Unknown")])) (.bl (x == y)) := fun hy => is rfl hy e1
    refine is1 (y := "Full") (by decide +kernel) _ (is1 (y := "NotSure") (by decide +kernel) _ (is1 (y := "RingOfWishes") (by decide +kernel) _ (is1 (y := "BadLine") (by decide +kernel) _ ?_)))
    refine ⟨by show 4 ≤ sizeLine; decide, fun l2 hl2 => ?_⟩
    refine ⟨l1, l2, _, _, rfl, rfl, (upd_ne (ne_of_none upd_same hl2)).trans upd_same, upd_same, (by show 10 ≤ sizeLine; decide), fun l3 hl3 => ?_⟩
    have e3 := (e1.trans (Ext.new (o := .lst [V.bl (x == "Full"), .bl (x == "NotSure"), .bl (x == "RingOfWishes"), .bl (x == "BadLine")]) hl2)).trans (Ext.new (o := .lst [V.bl (x == "BadName"), .bl (x == "BadHold"), .bl (x == "BadNumber"), .bl (x == "BadAmount"), .bl (x == "Known"), .bl (x == "Unknown"), .bl (x == "Full"), .bl (x == "NotSure"), .bl (x == "RingOfWishes"), .bl (x == "BadLine")]) hl3)
    have hn := one_of x hx
    refine gset ?_
    dsimp only
    refine st_ret (v := .bl true) ?_ ?_
    rotate_left
    · exact q _ e3
    refine val_andV (a := true) (b := true) ?_ (val_andV (a := true) (b := true) ?_ ?_)
    · refine val_op (x := .int (([x == "BadName", x == "BadHold", x == "BadNumber", x == "BadAmount", x == "Known", x == "Unknown", x == "Full", x == "NotSure", x == "RingOfWishes", x == "BadLine"].filter (· == true)).length : Nat)) (y := .int 1) ?_ val_c ?_
      · intro Q' q'
        exact ⟨_, rfl, .inl ⟨rfl, _, SqL.of upd_same⟩, l3, _, true, rfl, rfl, SqL.of upd_same, q'⟩
      · intro Q' q'
        rw [hn]
        exact ⟨rfl, q'⟩
    · exact val_isXe (val_var rfl) val_c hc hd0 X.ex (e3.keep _ _ hd (by simp)) (.own _) (T.kitD x hx)
    · exact val_isXe (val_var rfl) val_c hc hd0 X.ex (e3.keep _ _ hd (by simp)) (.ty _) (T.kitV x hx)
end

end K6
namespace K6
open PySem PySem.Spec PyProof.Rows L2 He Tp ClX LiI

section
variable {P : Program} {w : World} {K : PySem.W.Frag} {mg : Str → Option Value} {base : Heap}
def lbl (c : Str) : Str := if c = "BadName" then "name" else if c = "Known" then "known" else if c = "BadHold" then "hold" else if c = "Unknown" then "unknown" else "full"
/-- what the book refuses -/
def refAll (part : Int) (ks : List (Str × V)) (ps : List Str) (cs : List (Str × V)) (v g : V) (okh : Bool) : Option (Str × V) :=
  if part = 0 then refK ks v g okh else if part = 1 then refP ps v else refC cs ks v g
theorem refK_in {ks : List (Str × V)} {v g : V} {o : Bool} {c : Str} {t : V} (h : refK ks v g o = some (c, t)) : c ∈ raised := by
  unfold refK at h
  split at h
  · split at h
    · cases h; decide +kernel
    · split at h
      · cases h; decide +kernel
      · split at h
        · cases h; decide +kernel
        · split at h
          · cases h; decide +kernel
          · cases h
  · cases h; decide +kernel
theorem refP_in {ps : List Str} {v : V} {c : Str} {t : V} (h : refP ps v = some (c, t)) : c ∈ raised := by
  unfold refP at h
  split at h
  · split at h
    · cases h; decide +kernel
    · split at h
      · cases h; decide +kernel
      · split at h
        · cases h; decide +kernel
        · cases h
  · cases h; decide +kernel
theorem refC2_in {cs ks : List (Str × V)} {g : V} {c : Str} {t : V} (h : refC2 cs ks g = some (c, t)) : c ∈ raised := by
  unfold refC2 at h
  split at h
  · split at h
    · split at h
      · cases h; decide +kernel
      · cases h
    · cases h; decide +kernel
  · cases h; decide +kernel
theorem refC_in {cs ks : List (Str × V)} {v g : V} {c : Str} {t : V} (h : refC cs ks v g = some (c, t)) : c ∈ raised := by
  unfold refC at h
  split at h
  · split at h
    · cases h; decide +kernel
    · split at h
      · cases h; decide +kernel
      · exact refC2_in h
  · cases h; decide +kernel
def spAdd (K : PySem.W.Frag) : Sp := fun vs H Q _ => ∃ (p : Addr) (part : Int) (v g : V) (d : PyData) (i : Int) (A : Bk) (ks : List (Str × V)) (ts : List V) (ps : List Str) (cs : List (Str × V)) (ds fs : List V), vs = [.ref p, .int part, v, g] ∧ (part = 0 ∨ part = 1 ∨ part = 2) ∧
  Wv H v ∧ Im H g d ∧ okD d ∧ shortV g ∧ BookAt (cB K) H p i A ks ts ps cs ds fs ∧ ks.length ≤ 1000 ∧ ps.length ≤ 1000 ∧ cs.length ≤ 1000 ∧
  (∀ c t, refAll part ks ps cs v g (holdD d) = some (c, t) → ∀ a H', H a = none → Ext [] H H' → H' a = some (.lst [.str (lbl c), t, .bl false]) → Q (.ref a) H') ∧
  (refAll part ks ps cs v g (holdD d) = none → (part = 0 → ∀ H', Ext [A.dk] H H' → BookAt (cB K) H' p i A (ks ++ [(keyS v, g)]) ts ps cs ds fs → Q .non H') ∧
    (part = 1 → ∀ H', Ext [A.lp] H H' → BookAt (cB K) H' p i A ks ts (ps ++ [keyS v]) cs ds fs → Q .non H') ∧
    (part = 2 → ∀ H', Ext [A.dc] H H' → BookAt (cB K) H' p i A ks ts ps (cs ++ [(keyS v, g)]) ds fs → Q .non H'))
theorem b_add_kind0 {fd : FuncData} (F : FnM K "Book" "add_kind" "Book.add_kind" s_Book_add_kind [("hold", .str "unsure")] fd) : ∃ ds, Vals [V.str "unsure"] ds ∧ Binds K fd ["self", "name", "hold"] ds :=
  F.binds0 2 (by simp) rfl (fun D doc pm an cdv ct us ks h1 h2 => match us, ks, h1, h2 with | [_, _], [_], _, _ => ⟨_, _, _, _, _, _, rfl, rfl, rfl⟩)
theorem b_add_kindK {fd : FuncData} (F : FnM K "Book" "add_kind" "Book.add_kind" s_Book_add_kind [("hold", .str "unsure")] fd) : ∃ mv : List Value, KBn K fd ["self", "name", "hold"] 2 ["hold"] (fun us ws => us ++ ws) (fun vs zs => vs ++ zs) :=
  F.kbinds0 2 ["hold"] [] (fun us mv ws => us ++ ws) (by simp) (by simp) (fun r1 r2 r3 => r1.append r3) (fun D doc pm an cdv ct us mv ws h1 h2 h3 => match us, ws, h1, h3 with | [_, _], [_], _, _ => rfl)
/-- the suite of a clause -/
def tsX (K : PySem.W.Frag) (E' : XK) (l C : Str) : Addr → Value → Option Addr → TS := fun a cls d => tRet (tLst (tCons (tC (.str l)) (tCons (tXf a cls d (ga K C) "thing" (tVar 5)) (tCons (tNotV (tCall (spAlone K a cls d) [] E' (tCons (tVar 5) tNil))) tNil))))
theorem lv_all (T : Txt K mg) {E' : XK} {D : Ends} {σ : L2.St} {H : Hp} {c : Str} {t : V} {Wout : WX} {tsD : Addr → Value → Option Addr → TS} (h5 : 5 < σ.length) (hc : c ∈ raised)
    (fin : ∀ H1 p, Ext [] H H1 → H1 p = none → D.rt (.ref p) (upd H1 p (.lst [.str (lbl c), t, .bl false]))) :
    Leaves K (WE (wCls K Wout D [(.ref (ga K "BadName"), some 5, tsX K E' "name" "BadName"), (.ref (ga K "Known"), some 5, tsX K E' "known" "Known"), (.ref (ga K "BadHold"), some 5, tsX K E' "hold" "BadHold"), (.ref (ga K "Unknown"), some 5, tsX K E' "unknown" "Unknown"),
      (.ref (ga K "Full"), some 5, tsX K E' "full" "Full"), (.ref (ga K "DyeError"), none, tsD)]) σ) (ga K c) t H := by
  intro dd H' hdd e hx
  have ex : ∀ y ∈ raised, ∀ b, (c == y) = b → PySem.W.exmOne K (.ref (ga K c)) (.ref (ga K y)) = some b := fun y hy b hb => by rw [T.exm c hc y hy, hb]
  have suite : ∀ {l : Str}, lbl c = l → ∀ a, H' a = none → tsX K E' l c a (.ref (ga K c)) (some dd) { nx := fun σ' H' => D.nx (σ'.set 5 none) H', rt := D.rt, bk := fun σ' H' => D.bk (σ'.set 5 none) H', ct := fun σ' H' => D.ct (σ'.set 5 none) H' } (σ.set 5 (some (.ref a))) H' := by
    intro l hl a ha
    have h6 : (σ.set 5 (some (V.ref a)))[5]? = some (some (V.ref a)) := by
      rw [List.getElem?_set_self]
      exact h5
    refine ⟨_, h6, rfl, rfl, dd, _, t, rfl, hx, rfl, ⟨_, h6, ⟨c, dd, _, rfl, hc, rfl, rfl, hx, fun H1 e1 => ⟨true, rfl, by show 3 ≤ sizeLine; decide, fun p hp => ?_⟩⟩⟩⟩
    rw [← hl]
    exact fin H1 p (e.trans e1) hp
  have hc' := hc
  simp only [raised, List.mem_cons, List.not_mem_nil, or_false] at hc'
  rcases hc' with rfl | rfl | rfl | rfl | rfl
  · exact ⟨true, ex _ (by decide +kernel) _ (by decide +kernel), fun _ => suite (by decide +kernel), fun z => nomatch z⟩
  · exact ⟨false, ex _ (by decide +kernel) _ (by decide +kernel), (fun z => nomatch z), fun _ => ⟨true, ex _ (by decide +kernel) _ (by decide +kernel), fun _ => suite (by decide +kernel), fun z => nomatch z⟩⟩
  · exact ⟨false, ex _ (by decide +kernel) _ (by decide +kernel), (fun z => nomatch z), fun _ => ⟨false, ex _ (by decide +kernel) _ (by decide +kernel), (fun z => nomatch z), fun _ => ⟨true, ex _ (by decide +kernel) _ (by decide +kernel), fun _ => suite (by decide +kernel), fun z => nomatch z⟩⟩⟩
  · exact ⟨false, ex _ (by decide +kernel) _ (by decide +kernel), (fun z => nomatch z), fun _ => ⟨false, ex _ (by decide +kernel) _ (by decide +kernel), (fun z => nomatch z), fun _ => ⟨false, ex _ (by decide +kernel) _ (by decide +kernel), (fun z => nomatch z), fun _ =>
      ⟨true, ex _ (by decide +kernel) _ (by decide +kernel), fun _ => suite (by decide +kernel), fun z => nomatch z⟩⟩⟩⟩
  · exact ⟨false, ex _ (by decide +kernel) _ (by decide +kernel), (fun z => nomatch z), fun _ => ⟨false, ex _ (by decide +kernel) _ (by decide +kernel), (fun z => nomatch z), fun _ => ⟨false, ex _ (by decide +kernel) _ (by decide +kernel), (fun z => nomatch z), fun _ =>
      ⟨false, ex _ (by decide +kernel) _ (by decide +kernel), (fun z => nomatch z), fun _ => ⟨true, ex _ (by decide +kernel) _ (by decide +kernel), fun _ => suite (by decide +kernel), fun z => nomatch z⟩⟩⟩⟩⟩
theorem eqv_str {d : PyData} {z : Str} (h : PyData.eqv d (.str z) = true) : d = .str z := by
  cases d with
  | str x =>
    rw [PyData.eqv] at h
    rw [eq_of_beq h]
  | _ => rw [PyData.eqv] at h; cases h
theorem eqv_str' {d : PyData} {z : Str} (h : PyData.eqv (.str z) d = true) : d = .str z := by
  cases d with
  | str x =>
    rw [PyData.eqv] at h
    rw [eq_of_beq h]
  | _ => rw [PyData.eqv] at h; cases h
end

end K6
namespace K6
open PySem PySem.Spec PyProof.Rows L2 He Tp ClX LiI

section
variable {P : Program} {w : World} {K : PySem.W.Frag} {mg : Str → Option Value} {base : Heap}
theorem ok_add (T : Txt K mg) : Df P w K mg base CX0 5 "_law_add" ["_law_book", "_law_part", "_law_word_here", "_law_given"] (spAdd K) := by
  have D__law_alone := ok_alone (P := P) (w := w) (base := base) T
  obtain ⟨fk, fk_⟩ := T.fadd_kind
  obtain ⟨fp, fp_⟩ := T.fadd_pot
  obtain ⟨fc, fc_⟩ := T.fadd_cloth
  have Fk := ok_add_kind (P := P) (w := w) (base := base) T fk_
  have Fp := ok_add_pot (P := P) (w := w) (base := base) T fp_
  have Fc := ok_add_cloth (P := P) (w := w) (base := base) T fc_
  obtain ⟨dsk, bk0⟩ := b_add_kind0 fk_
  obtain ⟨_, bkK⟩ := b_add_kindK fk_
  have bp : Binds K fp ["self", "name"] [] := fp_.bindsN (fun _ _ _ _ _ _ us hl => match us, hl with | [_, _], _ => rfl)
  have bc : Binds K fc ["self", "name", "kind"] [] := fc_.bindsN (fun _ _ _ _ _ _ us hl => match us, hl with | [_, _, _], _ => rfl)
  refine Df.mk' T.g_law_add T.f_law_add (fun _ _ _ _ _ _ us hl => match us, hl with | [_, _, _, _], _ => rfl) fun fd F => F.ok sc__law_add (fun vs H Q E h => ?_) (fun cdv A outer s H vs Q E hr h => ?_)
  · obtain ⟨p, part, v, g, d, i, A, ks, ts, ps, cs, ds, fs, rfl, _⟩ := h
    rfl
  · obtain ⟨p, part, v, g, d, i, A, ks, ts, ps, cs, ds, fs, rfl, hpart, hv, hg, okg, shg, B, lk, lp, lc, qX, qN⟩ := h
    have nd := sc__law_add.nd
    have hrm := hr
    have hu64 := hr.units
    have hrE__law_alone := L2H.roomH_of (hr.mono (show 1 ≤ 4 by decide))
    refine ⟨_, PSs.nox
   (pss_cons (ps_try_cls (Wout := fun _ _ _ _ => False) rfl rfl takes0 (fun W pn xe tk own => (pss_one (ps_if (PW.pt (pw_and (pt_cmpR op_eq (pv 1) pe_int (nomark _)) (pw_and1 (pt_cmpR (show OpR _ (compareOp .Eq) (rEqD K) from op_eqD hu64) (pv 3) pe_str (nomark _))))) (pss_one (ps_set (i := 4) nd rfl (by first | exact Or.inl rfl | exact Or.inr rfl) (pe_methS (pv 0) T.cl T.madd_kind Fk hrm bk0.2 bk0.1 (fun σ => passAt tk σ) (pa_cons (pv 2) pa_nil)))) (pss_one (ps_if (pt_cmpR op_eq (pv 1) pe_int (nomark _)) (pss_one (ps_set (i := 4) nd rfl (by first | exact Or.inl rfl | exact Or.inr rfl) (pe_methKwS (n := 1) (pv 0) T.cl T.madd_kind Fk hrm bkK (fun σ => passAt tk σ) (pa_cons (pv 2) pa_nil) (pk_cons (pv 3) pk_nil)))) (pss_one (ps_if (pt_cmpR op_eq (pv 1) pe_int (nomark _)) (pss_one (ps_set (i := 4) nd rfl (by first | exact Or.inl rfl | exact Or.inr rfl) (pe_methS (pv 0) T.cl T.madd_pot Fp hrm bp .nil (fun σ => passAt tk σ) (pa_cons (pv 2) pa_nil)))) (pss_one (ps_set (i := 4) nd rfl (by first | exact Or.inl rfl | exact Or.inr rfl) (pe_methS (pv 0) T.cl T.madd_cloth Fc hrm bc .nil (fun σ => passAt tk σ) (pa_cons (pv 2) (pa_cons (pv 3) pa_nil))))))))))))
   (ClsOk.as (i := 5) nd rfl rfl ⟨by rfl, by decide, .inl T.gBadName⟩ (fun a oe cls d pn hz hf => (pss_one (ps_ret (pe_lst (pa_cons pe_str (pa_cons (pe_xf T.xBadName.xf T.xBadName.noT hz hf (pv 5)) (pa_cons (pe_not (pe_cE D__law_alone hz hf hrE__law_alone (by rfl) pass0 (pa_cons (pv 5) pa_nil))) pa_nil)))))))
   (ClsOk.as (i := 5) nd rfl rfl ⟨by rfl, by decide, .inl T.gKnown⟩ (fun a oe cls d pn hz hf => (pss_one (ps_ret (pe_lst (pa_cons pe_str (pa_cons (pe_xf T.xKnown.xf T.xKnown.noT hz hf (pv 5)) (pa_cons (pe_not (pe_cE D__law_alone hz hf hrE__law_alone (by rfl) pass0 (pa_cons (pv 5) pa_nil))) pa_nil)))))))
   (ClsOk.as (i := 5) nd rfl rfl ⟨by rfl, by decide, .inl T.gBadHold⟩ (fun a oe cls d pn hz hf => (pss_one (ps_ret (pe_lst (pa_cons pe_str (pa_cons (pe_xf T.xBadHold.xf T.xBadHold.noT hz hf (pv 5)) (pa_cons (pe_not (pe_cE D__law_alone hz hf hrE__law_alone (by rfl) pass0 (pa_cons (pv 5) pa_nil))) pa_nil)))))))
   (ClsOk.as (i := 5) nd rfl rfl ⟨by rfl, by decide, .inl T.gUnknown⟩ (fun a oe cls d pn hz hf => (pss_one (ps_ret (pe_lst (pa_cons pe_str (pa_cons (pe_xf T.xUnknown.xf T.xUnknown.noT hz hf (pv 5)) (pa_cons (pe_not (pe_cE D__law_alone hz hf hrE__law_alone (by rfl) pass0 (pa_cons (pv 5) pa_nil))) pa_nil)))))))
   (ClsOk.as (i := 5) nd rfl rfl ⟨by rfl, by decide, .inl T.gFull⟩ (fun a oe cls d pn hz hf => (pss_one (ps_ret (pe_lst (pa_cons pe_str (pa_cons (pe_xf T.xFull.xf T.xFull.noT hz hf (pv 5)) (pa_cons (pe_not (pe_cE D__law_alone hz hf hrE__law_alone (by rfl) pass0 (pa_cons (pv 5) pa_nil))) pa_nil)))))))
   (ClsOk.cons ⟨by rfl, by decide, .inl T.gDyeError⟩ (fun a oe cls d pn hz hf => (pss_one (ps_ret (pe_lst (pa_cons pe_str (pa_cons pe_non (pa_cons pe_bl pa_nil)))))))
   .nil)))))))
   (pss_one (ps_ret (pv 4)))), ?_⟩
    have okU : okD (.str "unsure") := okD.str (by decide +kernel)
    have lv : ∀ {D : Ends} {E' : XK} {Wout : WX} {tsD : Addr → Value → Option Addr → TS} {σ : L2.St} {c : Str} {t : V}, 5 < σ.length → D.rt = Q → c ∈ raised → refAll part ks ps cs v g (holdD d) = some (c, t) →
        Leaves K (WE (wCls K Wout D [(.ref (ga K "BadName"), some 5, tsX K E' "name" "BadName"), (.ref (ga K "Known"), some 5, tsX K E' "known" "Known"), (.ref (ga K "BadHold"), some 5, tsX K E' "hold" "BadHold"), (.ref (ga K "Unknown"), some 5, tsX K E' "unknown" "Unknown"),
          (.ref (ga K "Full"), some 5, tsX K E' "full" "Full"), (.ref (ga K "DyeError"), none, tsD)]) σ) (ga K c) t H :=
      fun h5 hQ hc href => lv_all T h5 hc fun H1 a e ha => by
        rw [hQ]
        exact qX _ _ href a _ (e.none ha (by simp)) (e.fresh (e.none ha (by simp))) upd_same
    rcases hpart with rfl | rfl | rfl
    · have er : refAll 0 ks ps cs v g (holdD d) = refK ks v g (holdD d) := if_pos rfl
      rw [er] at qN lv
      refine st_if (b := true && PyData.eqv d (.str "unsure")) (ans_and2 (ans_eq (val_var rfl) val_c rfl rfl) (ans_cmp (val_var rfl) val_c fun _ q => ⟨d, .str "unsure", hg.dp, .str _, okg.shaped, okU.shaped, q⟩)) (fun h1 => ?_) (fun h1 => ?_)
      · obtain rfl := eqv_str (show PyData.eqv d (.str "unsure") = true from h1)
        cases hg
        refine ⟨_, rfl, p, A.dx, _, rfl, B.ob, fsB_no (.inl rfl), _, rfl, ?_⟩
        refine ⟨p, v, .str "unsure", .str "unsure", i, A, ks, ts, ps, cs, ds, fs, rfl, hv.ptv, .str _, okU, B, lk, fun c t hr => lv (show 5 < 6 by decide) rfl (refK_in hr) hr, fun hr H' e B' => ?_⟩
        exact ⟨_, rfl, (qN hr).1 rfl H' e B'⟩
      · refine st_if (ans_eq (val_var rfl) val_c rfl rfl) (fun _ => ?_) (fun h2 => by simp at h2)
        refine ⟨_, rfl, p, A.dx, _, rfl, B.ob, fsB_no (.inl rfl), _, rfl, _, rfl, rfl, rfl, ?_⟩
        refine ⟨p, v, g, d, i, A, ks, ts, ps, cs, ds, fs, rfl, hv.ptv, hg, okg, B, lk, fun c t hr => lv (show 5 < 6 by decide) rfl (refK_in hr) hr, fun hr H' e B' => ?_⟩
        exact ⟨_, rfl, (qN hr).1 rfl H' e B'⟩
    · have er : refAll 1 ks ps cs v g (holdD d) = refP ps v := (if_neg (by decide)).trans (if_pos rfl)
      rw [er] at qN lv
      refine st_if (b := false && PyData.eqv d (.str "unsure")) (ans_and2 (ans_eq (val_var rfl) val_c rfl rfl) (ans_cmp (val_var rfl) val_c fun _ q => ⟨d, .str "unsure", hg.dp, .str _, okg.shaped, okU.shaped, q⟩)) (fun h1 => nomatch h1) (fun h1 => ?_)
      refine st_if (ans_eq (val_var rfl) val_c rfl rfl) (fun h2 => by simp at h2) (fun _ => ?_)
      refine st_if (ans_eq (val_var rfl) val_c rfl rfl) (fun _ => ?_) (fun h2 => by simp at h2)
      refine ⟨_, rfl, p, A.dx, _, rfl, B.ob, fsB_no (.inr (.inl rfl)), _, rfl, ?_⟩
      refine ⟨p, v, i, A, ks, ts, ps, cs, ds, fs, rfl, hv.ptv, B, lp, fun c t hr => lv (show 5 < 6 by decide) rfl (refP_in hr) hr, fun hr H' e B' => ?_⟩
      exact ⟨_, rfl, (qN hr).2.1 rfl H' e B'⟩
    · have er : refAll 2 ks ps cs v g (holdD d) = refC cs ks v g := (if_neg (by decide)).trans (if_neg (by decide))
      rw [er] at qN lv
      have hgw : ∀ {H'}, Ext [] H H' → Ptv K H' g := fun e => Wv.ptv ⟨d, hg.ext e, okg, shg⟩
      refine st_if (b := false && PyData.eqv d (.str "unsure")) (ans_and2 (ans_eq (val_var rfl) val_c rfl rfl) (ans_cmp (val_var rfl) val_c fun _ q => ⟨d, .str "unsure", hg.dp, .str _, okg.shaped, okU.shaped, q⟩)) (fun h1 => nomatch h1) (fun h1 => ?_)
      refine st_if (ans_eq (val_var rfl) val_c rfl rfl) (fun h2 => by simp at h2) (fun _ => ?_)
      refine st_if (ans_eq (val_var rfl) val_c rfl rfl) (fun h2 => by simp at h2) (fun _ => ?_)
      refine ⟨_, rfl, p, A.dx, _, rfl, B.ob, fsB_no (.inr (.inr (.inl rfl))), _, rfl, _, rfl, ?_⟩
      refine ⟨p, v, g, i, A, ks, ts, ps, cs, ds, fs, rfl, hv.ptv, hgw Ext.refl, fun H' e => hgw e, B, lc, fun c t hr => lv (show 5 < 6 by decide) rfl (refC_in hr) hr, fun hr H' e B' => ?_⟩
      exact ⟨_, rfl, (qN hr).2.2 rfl H' e B'⟩
end

end K6
namespace K6
open PySem PySem.Spec PyProof.Rows L2 He Tp ClX LiI

section
variable {K : PySem.W.Frag}
/-! what holds between the turns of the law -/
abbrev tv (q : Str × Str) : Str × V := (q.1, V.str q.2)
def RowAt (H : Hp) (r : Addr) (l : List (Str × Str)) : Prop := ∃ as : List Addr, H r = some (.lst (as.map V.ref)) ∧ Paired (fun (t : Addr) (q : Str × Str) => H t = some (.tup [.str q.1, .str q.2])) as l
structure Ad where
  S : Addr
  L : Addr
  R : Addr
  r0 : Addr
  r1 : Addr
  r2 : Addr
  p : Addr
  A : Bk
abbrev Ad.all (a : Ad) : List Addr := [a.S, a.L, a.R, a.r0, a.r1, a.r2, a.p, a.A.dk, a.A.lt, a.A.lp, a.A.dc, a.A.ld, a.A.lf]
abbrev okN (z : Str) : Prop := okS z ∧ z.length ≤ 12
structure IvH (K : PySem.W.Frag) (H : Hp) (a : Ad) (l0 : List (Str × Str)) (l1 : List Str) (l2 : List (Str × Str)) : Prop where
  nd : a.all.Nodup
  src : SrcAt H a.S a.L
  bk : BookAt (cB K) H a.p 24 a.A (l0.map tv) [] l1 (l2.map tv) [] []
  R : H a.R = some (.lst [.ref a.r0, .ref a.r1, .ref a.r2])
  w0 : RowAt H a.r0 l0
  w1 : RowAt H a.r1 (l1.map fun z => (z, (⟨#[]⟩ : Str)))
  w2 : RowAt H a.r2 l2
  n0 : l0.length ≤ 8
  n1 : l1.length ≤ 8
  n2 : l2.length ≤ 8
  o0 : ∀ q ∈ l0, okN q.1 ∧ okN q.2
  o1 : ∀ q ∈ l1, okN q
  o2 : ∀ q ∈ l2, okN q.1 ∧ okN q.2
theorem paired_ext {ms : List Addr} {H H' : Hp} (e : Ext ms H H') : ∀ {as : List Addr} {l : List (Str × Str)}, Paired (fun (t : Addr) (q : Str × Str) => H t = some (.tup [.str q.1, .str q.2])) as l → Paired (fun (t : Addr) (q : Str × Str) => H' t = some (.tup [.str q.1, .str q.2])) as l
  | _, _, .nil => .nil
  | _, _, .cons x r => .cons (e.tups _ _ x) (paired_ext e r)
theorem RowAt.ext {ms : List Addr} {H H' : Hp} {r : Addr} {l : List (Str × Str)} (h : RowAt H r l) (e : Ext ms H H') (hr : r ∉ ms) : RowAt H' r l := by
  obtain ⟨as, h1, h2⟩ := h
  exact ⟨as, e.keep _ _ h1 hr, paired_ext e h2⟩
/-- rows and the other lists -/
theorem IvH.ext {H H' : Hp} {a : Ad} {l0 l2 : List (Str × Str)} {l1 : List Str} (v : IvH K H a l0 l1 l2) (e : Ext [a.S] H H') (s : SrcAt H' a.S a.L) : IvH K H' a l0 l1 l2 := by
  have nd := v.nd
  simp only [Ad.all, List.nodup_cons, List.mem_cons, List.not_mem_nil, not_or, or_false] at nd
  refine ⟨v.nd, s, v.bk.ext e ?_, e.keep _ _ v.R ?_, v.w0.ext e ?_, v.w1.ext e ?_, v.w2.ext e ?_, v.n0, v.n1, v.n2, v.o0, v.o1, v.o2⟩
  · intro b hb
    simp only [Bk.all, List.mem_cons, List.not_mem_nil, or_false] at hb ⊢
    rintro rfl
    obtain ⟨n1, _⟩ := nd
    rcases hb with h | h | h | h | h | h | h <;> (rw [h] at n1; simp at n1)
  · simp; exact fun z => nd.1.2.1 z.symm
  · simp; exact fun z => nd.1.2.2.1 z.symm
  · simp; exact fun z => nd.1.2.2.2.1 z.symm
  · simp; exact fun z => nd.1.2.2.2.2.1 z.symm
theorem IvH.grow {H H' : Hp} {a : Ad} {l0 l2 : List (Str × Str)} {l1 : List Str} (v : IvH K H a l0 l1 l2) (e : Ext [] H H') : IvH K H' a l0 l1 l2 := v.ext e.nil (v.src.ext e)
/-- a row: its list, by the part -/
def Ad.r (a : Ad) (part : Int) : Addr := if part = 0 then a.r0 else if part = 1 then a.r1 else a.r2
def rowL (part : Int) (l0 : List (Str × Str)) (l1 : List Str) (l2 : List (Str × Str)) : List (Str × Str) := if part = 0 then l0 else if part = 1 then l1.map fun z => (z, (⟨#[]⟩ : Str)) else l2
theorem IvH.row {H : Hp} {a : Ad} {l0 l2 : List (Str × Str)} {l1 : List Str} (v : IvH K H a l0 l1 l2) (part : Int) : RowAt H (a.r part) (rowL part l0 l1 l2) := by
  unfold Ad.r rowL
  split
  · exact v.w0
  · split
    · exact v.w1
    · exact v.w2
theorem IvH.rowN {H : Hp} {a : Ad} {l0 l2 : List (Str × Str)} {l1 : List Str} (v : IvH K H a l0 l1 l2) (part : Int) : (rowL part l0 l1 l2).length ≤ 8 := by
  unfold rowL
  split
  · exact v.n0
  · split
    · rw [List.length_map]; exact v.n1
    · exact v.n2
theorem okN_nil : okN ⟨#[]⟩ := ⟨by decide +kernel, by decide⟩
theorem IvH.rowO {H : Hp} {a : Ad} {l0 l2 : List (Str × Str)} {l1 : List Str} (v : IvH K H a l0 l1 l2) (part : Int) : ∀ q ∈ rowL part l0 l1 l2, okN q.1 ∧ okN q.2 := by
  unfold rowL
  split
  · exact v.o0
  · split
    · intro q hq
      obtain ⟨z, hz, rfl⟩ := List.mem_map.mp hq
      exact ⟨v.o1 z hz, okN_nil⟩
    · exact v.o2
theorem IvH.atR {H : Hp} {a : Ad} {l0 l2 : List (Str × Str)} {l1 : List Str} (v : IvH K H a l0 l1 l2) {part : Int} (h : part = 0 ∨ part = 1 ∨ part = 2) : SqL K H a.R [.ref a.r0, .ref a.r1, .ref a.r2] ∧ atI [V.ref a.r0, .ref a.r1, .ref a.r2] part = some (.ref (a.r part)) := by
  refine ⟨SqL.of v.R, ?_⟩
  rcases h with rfl | rfl | rfl <;> rfl
/-! data of the rows -/
abbrev dPair (q : Str × Str) : PyData := .tuple [.str q.1, .str q.2]
theorem paired_im {H : Hp} : ∀ {as : List Addr} {l : List (Str × Str)}, Paired (fun (t : Addr) (q : Str × Str) => H t = some (.tup [.str q.1, .str q.2])) as l → ImAll H (as.map V.ref) (l.map dPair)
  | _, _, .nil => .nil
  | _, _, .cons x r => .cons (.tup x (.cons (.str _) (.cons (.str _) .nil))) (paired_im r)
theorem RowAt.dp {H : Hp} {r : Addr} {l : List (Str × Str)} (h : RowAt H r l) : Dp K H (.ref r) (.list (l.map dPair)) := by
  obtain ⟨as, h1, h2⟩ := h
  exact .lst (SqL.of h1) (paired_im h2).dp
theorem okD_pair {q : Str × Str} (h : okN q.1 ∧ okN q.2) : okD (dPair q) := okD.tup (n := 1) (by
  intro d hd
  simp at hd
  rcases hd with rfl | rfl
  · exact ⟨(okD.str h.1.1).1, by simp [PyData.depth]⟩
  · exact ⟨(okD.str h.2.1).1, by simp [PyData.depth]⟩) (by decide)
theorem sh_row {l : List (Str × Str)} (h : ∀ q ∈ l, okN q.1 ∧ okN q.2) : SeqAt.shaped (.list (l.map dPair)) = true := shapedL (n := 8) (by
  intro x hx
  obtain ⟨q, hq, rfl⟩ := List.mem_map.mp hx
  exact okD_pair (h q hq)) (by decide)
theorem sh_strs {l : List Str} (h : ∀ q ∈ l, okS q) : SeqAt.shaped (.list (l.map PyData.str)) = true := shapedL (n := 8) (by
  intro x hx
  obtain ⟨q, hq, rfl⟩ := List.mem_map.mp hx
  exact ⟨(okD.str (h q hq)).1, by simp [PyData.depth]⟩) (by decide)
theorem eqv_self {d : PyData} (h : SeqAt.shaped d = true) : PyData.eqv d d = true := SeqAt.eqv_refl d (SeqAt.canLay_of_shaped h)
end

end K6
namespace K6
open PySem PySem.Spec PyProof.Rows L2 He Tp ClX LiI

section
variable {K : PySem.W.Frag}
theorem paired_at {H : Hp} : ∀ {as : List Addr} {l : List (Str × Str)} {i : Nat} {t : Addr}, Paired (fun (t : Addr) (q : Str × Str) => H t = some (.tup [.str q.1, .str q.2])) as l → as[i]? = some t → ∃ q, l[i]? = some q ∧ H t = some (.tup [.str q.1, .str q.2])
  | _, _, _, _, .nil, e => by simp at e
  | _, _, 0, _, .cons x r, e => by simp at e; subst e; exact ⟨_, rfl, x⟩
  | _, _, i + 1, t, .cons _ r, e => by
    obtain ⟨q, h1, h2⟩ := paired_at (i := i) r (by simpa using e)
    exact ⟨q, by simpa using h1, h2⟩
theorem paired_len {H : Hp} : ∀ {as : List Addr} {l : List (Str × Str)}, Paired (fun (t : Addr) (q : Str × Str) => H t = some (.tup [.str q.1, .str q.2])) as l → as.length = l.length
  | _, _, .nil => rfl
  | _, _, .cons _ r => by simp [paired_len r]
/-- [row[0] for row in rows] -/
theorem rd_names {σ : L2.St} {H : Hp} {Q : VK} {j : Nat} {r : Addr} {l : List (Str × Str)} {tl : TE} (hj : j < σ.length) (hl : Val tl σ H (.ref r)) (hrow : RowAt H r l) (hn : l.length ≤ 1000)
    (q : ∀ D H', H D = none → Ext [] H H' → H' D = some (.lst (l.map fun q => V.str q.1)) → Q (.ref D) H') : tLc (iList K tl) (gName j) tYes (tOp (rIxT K) (tVar j) (tC (.int 0))) [j] σ H Q := by
  obtain ⟨as, h1, h2⟩ := hrow
  have hlen := paired_len h2
  refine hl _ ⟨r, rfl, ⟨_, SqL.of h1⟩, fun D hD => lc_list (xs := as.map V.ref) (fun i H' => H' = upd H D (.lst ((l.take i).map fun q => V.str q.1))) (by simp) ?_ ?_ ?_⟩
  · rintro i H' _ rfl
    exact SqL.of (by rw [upd_ne (ne_of_none h1 hD)]; exact h1)
  · rintro i x H' hx rfl
    rw [List.getElem?_map] at hx
    obtain ⟨t, ht, rfl⟩ := Option.map_eq_some_iff.mp hx
    obtain ⟨p, hp, hT⟩ := paired_at h2 ht
    refine ⟨wipe1, ?_⟩
    refine tyes ?_
    have hx : ((wipe σ [j]).set j (some (V.ref t)))[j]? = some (some (.ref t)) := by
      rw [List.getElem?_set_self]
      rw [wipe_length]
      exact hj
    have hi : i < l.length := (List.getElem?_eq_some_iff.mp hp).1
    refine ⟨_, hx, t, _, 0, .str p.1, rfl, rfl, .inl (.inl (by rw [upd_ne (ne_of_none hT hD)]; exact hT)), rfl, (l.take i).map fun q => V.str q.1, upd_same, ?_, ?_⟩
    · rw [List.length_map, List.length_take]
      exact Evl.sz_lt (by omega)
    · rw [upd_upd, List.take_add_one, hp, List.map_append]
      rfl
  · rintro H' rfl
    refine q D _ hD (Ext.new hD) ?_
    rw [upd_same, List.length_map, hlen, List.take_of_length_le (Nat.le_refl _)]
/-- [elt for z in zs], each a value of draws -/
theorem rd_wv {σ : L2.St} {H : Hp} {Q : VK} {j : Nat} {r : Addr} {zs : List Str} {tl te : TE} (hl : Val tl σ H (.ref r)) (hr : H r = some (.lst (zs.map V.str))) (hn : zs.length ≤ 1000)
    (he : ∀ z ∈ zs, ∀ (H1 : Hp) (Q' : VK), Ext [] H H1 → (∀ v H2, Wv H2 v → Ext [] H1 H2 → Q' v H2) → te ((wipe σ [j]).set j (some (.str z))) H1 Q')
    (q : ∀ D H' ys, H D = none → Ext [] H H' → H' D = some (.lst ys) → ys.length = zs.length → (∀ y ∈ ys, Wv H' y) → Q (.ref D) H') : tLc (iList K tl) (gName j) tYes te [j] σ H Q := by
  refine hl _ ⟨r, rfl, ⟨_, SqL.of hr⟩, fun D hD => lc_list (xs := zs.map V.str) (fun i H' => ∃ acc, Ext [] H H' ∧ H' D = some (.lst acc) ∧ acc.length = i ∧ ∀ y ∈ acc, Wv H' y) ⟨[], Ext.new hD, upd_same, rfl, by simp⟩ ?_ ?_ ?_⟩
  · rintro i H' _ ⟨acc, e, _⟩
    exact SqL.of (e.keep _ _ hr (by simp))
  · rintro i x H' hx ⟨acc, e, hA, hl, hw⟩
    have hi := (List.getElem?_eq_some_iff.mp hx).1
    rw [List.length_map] at hi
    rw [List.getElem?_map] at hx
    obtain ⟨z, hz, rfl⟩ := Option.map_eq_some_iff.mp hx
    refine ⟨wipe1, ?_⟩
    refine tyes ?_
    refine he z (List.mem_of_getElem? hz) H' _ e fun v H2 hv e2 => ?_
    have e3 : Ext [] H (upd H2 D (.lst (acc ++ [v]))) := (e.trans e2).fresh hD
    have e4 : Ext [D] H2 (upd H2 D (.lst (acc ++ [v]))) := Ext.refl.mut (by simp) fun xs z => by rw [e2.keep _ _ hA (by simp)] at z; cases z
    refine ⟨acc, e2.keep _ _ hA (by simp), Evl.sz_lt (by omega), acc ++ [v], e3, upd_same, by simp [hl], fun y hy => ?_⟩
    rcases List.mem_append.mp hy with h | h
    · exact ((hw y h).ext e2).ext e4
    · simp at h
      subst h
      exact hv.ext e4
  · rintro H' ⟨acc, e, hA, hl, hw⟩
    rw [List.length_map] at hl
    exact q D H' acc hD e hA hl hw
/-- an item of a row -/
theorem row_at {H : Hp} {r : Addr} {l : List (Str × Str)} {n : Int} (h : RowAt H r l) (h0 : 0 ≤ n) (h1 : n < (l.length : Int)) : ∃ (as : List Addr) (t : Addr) (q : Str × Str), H r = some (.lst (as.map V.ref)) ∧ atI (as.map V.ref) n = some (.ref t) ∧ q ∈ l ∧ H t = some (.tup [.str q.1, .str q.2]) := by
  obtain ⟨as, e1, e2⟩ := h
  obtain ⟨j, rfl⟩ := Int.eq_ofNat_of_zero_le h0
  have hj : j < as.length := by rw [paired_len e2]; omega
  obtain ⟨q, hq, hT⟩ := paired_at e2 (List.getElem?_eq_getElem hj)
  exact ⟨as, as[j], q, e1, atI_nat (by rw [List.getElem?_map, List.getElem?_eq_getElem hj]; rfl), List.mem_of_getElem? hq, hT⟩
theorem row_len {H : Hp} {r : Addr} {l : List (Str × Str)} (h : RowAt H r l) : ∃ xs, H r = some (.lst xs) ∧ xs.length = l.length := by
  obtain ⟨as, e1, e2⟩ := h
  exact ⟨_, e1, by rw [List.length_map, paired_len e2]⟩
theorem any3 (d : PyData) : anyD ["loose", "unsure", "fast"] d = holdD d := by
  show ((PyData.eqv (.str "loose") d) || ((PyData.eqv (.str "unsure") d) || ((PyData.eqv (.str "fast") d) || false))) = ((PyData.eqv (.str "fast") d) || ((PyData.eqv (.str "loose") d) || ((PyData.eqv (.str "unsure") d) || false)))
  cases PyData.eqv (.str "loose") d <;> cases PyData.eqv (.str "unsure") d <;> cases PyData.eqv (.str "fast") d <;> rfl
theorem any6 (d : PyData) : anyD ["loose", "unsure", "fast", "loose", "unsure", "fast"] d = holdD d := by
  rw [← any3]
  show ((PyData.eqv (.str "loose") d) || ((PyData.eqv (.str "unsure") d) || ((PyData.eqv (.str "fast") d) || ((PyData.eqv (.str "loose") d) || ((PyData.eqv (.str "unsure") d) || ((PyData.eqv (.str "fast") d) || false)))))) = ((PyData.eqv (.str "loose") d) || ((PyData.eqv (.str "unsure") d) || ((PyData.eqv (.str "fast") d) || false)))
  cases PyData.eqv (.str "loose") d <;> cases PyData.eqv (.str "unsure") d <;> cases PyData.eqv (.str "fast") d <;> rfl
/-- a list of values of draws -/
def Nr (H : Hp) (n : Addr) (ys : List V) (k : Nat) : Prop := H n = some (.lst ys) ∧ ys.length ≤ k ∧ ∀ y ∈ ys, Wv H y
theorem Nr.ext {ms : List Addr} {H H' : Hp} {n : Addr} {ys : List V} {k : Nat} (h : Nr H n ys k) (e : Ext ms H H') (hn : n ∉ ms) : Nr H' n ys k := ⟨e.keep _ _ h.1 hn, h.2.1, fun y hy => (h.2.2 y hy).ext e⟩
theorem Nr.grow {H H' : Hp} {n : Addr} {ys : List V} {k : Nat} (h : Nr H n ys k) (e : Ext [] H H') : Nr H' n ys k := h.ext e (by simp)
theorem Nr.cat {H : Hp} {n m : Addr} {xs ys : List V} {k j : Nat} {Q : VK} (h1 : Nr H n xs k) (h2 : Nr H m ys j) (hk : k + j ≤ 1000) (q : ∀ p H', H p = none → Ext [] H H' → Nr H' p (xs ++ ys) (k + j) → Q (.ref p) H') : rCat (.ref n) (.ref m) H Q :=
  ⟨n, m, xs, ys, rfl, rfl, h1.1, h2.1, Evl.sz_of (by have := h1.2.1; have := h2.2.1; omega), fun p hp => q p _ hp (Ext.new hp) ⟨upd_same, by rw [List.length_append]; have := h1.2.1; have := h2.2.1; omega, fun y hy => by
    rcases List.mem_append.mp hy with h | h
    · exact (h1.2.2 y h).ext (Ext.new (ms := []) hp)
    · exact (h2.2.2 y h).ext (Ext.new (ms := []) hp)⟩⟩
theorem Nr.strs {H : Hp} {n : Addr} {zs : List Str} {k : Nat} (h : H n = some (.lst (zs.map V.str))) (hk : zs.length ≤ k) (ho : ∀ z ∈ zs, okN z) : Nr H n (zs.map V.str) k := ⟨h, by rw [List.length_map]; exact hk, fun y hy => by
  obtain ⟨z, hz, rfl⟩ := List.mem_map.mp hy
  exact .str (ho z hz).1 (by have := (ho z hz).2; omega)⟩
theorem sum_le : ∀ {zs : List Str}, (∀ z ∈ zs, okN z) → (zs.map (·.length)).sum ≤ 12 * zs.length
  | [], _ => Nat.zero_le _
  | z :: zs, h => by
    have h1 := (h z (by simp)).2
    have h2 := sum_le (zs := zs) fun y hy => h y (by simp [hy])
    simp only [List.map_cons, List.sum_cons, List.length_cons]
    omega
theorem sq_asg {te : TE} {i : Nat} {tz : TS} {D : Ends} {σ : L2.St} {H : Hp} (h : te σ H fun v H1 => tz D (σ.set i (some v)) H1) : tSeq (tAsg te (gName i)) tz D σ H := h
theorem st_asg {te : TE} {i : Nat} {D : Ends} {σ : L2.St} {H : Hp} (h : te σ H fun v H1 => D.nx (σ.set i (some v)) H1) : tAsg te (gName i) D σ H := h
end

end K6
namespace K6
open PySem PySem.Spec PyProof.Rows L2 He Tp ClX LiI

section
theorem mem_tv {z : Str} {l : List (Str × Str)} : z ∈ (l.map tv).map (·.1) ↔ z ∈ l.map (·.1) := by
  rw [List.map_map]
  exact Iff.rfl
theorem lbl_ok (c : Str) : okS (lbl c) := by
  unfold lbl
  split
  · decide +kernel
  · split
    · decide +kernel
    · split
      · decide +kernel
      · split
        · decide +kernel
        · decide +kernel
theorem due0 {l : List (Str × Str)} {v g : V} {o : Bool} (h8 : l.length ≤ 8) : dueOf (l.map (·.1)) v g o "hold" = (refK (l.map tv) v g o).map fun p => (lbl p.1, p.2) := by
  cases v with
  | str z =>
    unfold dueOf refK
    by_cases h1 : nmS z = false
    · simp only [if_pos h1]
      show _ = some (lbl "BadName", V.str z)
      rw [show lbl "BadName" = "name" by decide +kernel]
    · simp only [if_neg h1]
      by_cases h2 : z ∈ l.map (·.1)
      · simp only [if_pos h2, if_pos (mem_tv.mpr h2)]
        show _ = some (lbl "Known", V.str z)
        rw [show lbl "Known" = "known" by decide +kernel]
      · simp only [if_neg h2, if_neg (fun h => h2 (mem_tv.mp h))]
        by_cases h3 : o = false
        · simp only [if_pos h3]
          show _ = some (lbl "BadHold", g)
          rw [show lbl "BadHold" = "hold" by decide +kernel]
        · simp only [if_neg h3, List.length_map]
          by_cases h4 : l.length = 8
          · rw [if_pos h4, if_pos (by omega)]
            show _ = some (lbl "Full", V.int 8)
            rw [show lbl "Full" = "full" by decide +kernel]
          · rw [if_neg h4, if_neg (by omega)]
            rfl
  | _ => show some _ = some (lbl "BadName", _); rw [show lbl "BadName" = "name" by decide +kernel]
theorem due1 {l : List Str} {v g : V} (h8 : l.length ≤ 8) : dueOf l v g true "" = (refP l v).map fun p => (lbl p.1, p.2) := by
  cases v with
  | str z =>
    unfold dueOf refP
    by_cases h1 : nmS z = false
    · simp only [if_pos h1]
      show _ = some (lbl "BadName", V.str z)
      rw [show lbl "BadName" = "name" by decide +kernel]
    · simp only [if_neg h1]
      by_cases h2 : z ∈ l
      · simp only [if_pos h2]
        show _ = some (lbl "Known", V.str z)
        rw [show lbl "Known" = "known" by decide +kernel]
      · simp only [if_neg h2, if_neg (show ¬ true = false by decide)]
        by_cases h4 : l.length = 8
        · rw [if_pos h4, if_pos (by omega)]
          show _ = some (lbl "Full", V.int 8)
          rw [show lbl "Full" = "full" by decide +kernel]
        · rw [if_neg h4, if_neg (by omega)]
          rfl
  | _ => show some _ = some (lbl "BadName", _); rw [show lbl "BadName" = "name" by decide +kernel]
theorem anyD_str {os : List Str} {y : Str} : anyD os (.str y) = decide (y ∈ os) := by
  unfold anyD
  induction os with
  | nil => rfl
  | cons z os ih =>
    rw [List.map_cons, List.any_cons, ih]
    have : PyData.eqv (.str z) (.str y) = (z == y) := by rw [PyData.eqv]
    rw [this]
    by_cases h : z = y
    · subst h; simp
    · have h' : ¬ y = z := fun e => h e.symm
      simp [h, h']
theorem anyD_no {os : List Str} {d : PyData} (h : ∀ y, d ≠ .str y) : anyD os d = false := by
  unfold anyD
  induction os with
  | nil => rfl
  | cons z os ih =>
    rw [List.map_cons, List.any_cons, ih]
    cases e : PyData.eqv (.str z) d with
    | true => exact absurd (eqv_str' e) (h z)
    | false => rfl
theorem due2 {H : Hp} {l l0 : List (Str × Str)} {v g : V} {d : PyData} (hg : Im H g d) (h8 : l.length ≤ 8) : dueOf (l.map (·.1)) v g (anyD (l0.map (·.1)) d) "unknown" = (refC (l.map tv) (l0.map tv) v g).map fun p => (lbl p.1, p.2) := by
  cases v with
  | str z =>
    unfold dueOf refC
    by_cases h1 : nmS z = false
    · simp only [if_pos h1]
      show _ = some (lbl "BadName", V.str z)
      rw [show lbl "BadName" = "name" by decide +kernel]
    · simp only [if_neg h1]
      by_cases h2 : z ∈ l.map (·.1)
      · simp only [if_pos h2, if_pos (mem_tv.mpr h2)]
        show _ = some (lbl "Known", V.str z)
        rw [show lbl "Known" = "known" by decide +kernel]
      · simp only [if_neg h2, if_neg (fun h => h2 (mem_tv.mp h))]
        have lu : lbl "Unknown" = "unknown" := by decide +kernel
        have other : ∀ {g' : V} {d' : PyData}, (∀ y, d' ≠ .str y) → refC2 (l.map tv) (l0.map tv) g' = some (("Unknown" : Str), g') →
            (if anyD (l0.map (·.1)) d' = false then some (("unknown" : Str), g') else if (l.map (·.1)).length = 8 then some (("full" : Str), V.int 8) else none) = (refC2 (l.map tv) (l0.map tv) g').map fun p => (lbl p.1, p.2) := fun hd he => by
          rw [if_pos (anyD_no hd), he, Option.map_some, lu]
        cases hg with
        | str y =>
          rw [anyD_str]
          unfold refC2
          by_cases h3 : y ∈ l0.map (·.1)
          · simp only [if_pos (mem_tv.mpr h3), decide_eq_true h3, List.length_map]
            rw [if_neg (by decide)]
            by_cases h4 : l.length = 8
            · rw [if_pos h4, if_pos (by omega)]
              show _ = some (lbl "Full", V.int 8)
              rw [show lbl "Full" = "full" by decide +kernel]
            · rw [if_neg h4, if_neg (by omega)]
              rfl
          · simp only [if_neg (fun h => h3 (mem_tv.mp h)), decide_eq_false h3, if_true]
            show _ = some (lbl "Unknown", V.str y)
            rw [lu]
        | non => exact other (fun y h => by cases h) rfl
        | bl b => exact other (fun y h => by cases h) rfl
        | int i => exact other (fun y h => by cases h) rfl
        | tup h1 h2 => exact other (fun y h => by cases h) rfl
  | _ => show some _ = some (lbl "BadName", _); rw [show lbl "BadName" = "name" by decide +kernel]
theorem refAll_t {part : Int} {ks cs : List (Str × V)} {ps : List Str} {v g : V} {o : Bool} {c : Str} {t : V} (h : refAll part ks ps cs v g o = some (c, t)) : t = v ∨ t = g ∨ t = .int 8 := by
  unfold refAll at h
  split at h
  · unfold refK at h
    split at h
    · split at h
      · cases h; exact .inl rfl
      · split at h
        · cases h; exact .inl rfl
        · split at h
          · cases h; exact .inr (.inl rfl)
          · split at h
            · cases h; exact .inr (.inr rfl)
            · cases h
    · cases h; exact .inl rfl
  · split at h
    · unfold refP at h
      split at h
      · split at h
        · cases h; exact .inl rfl
        · split at h
          · cases h; exact .inl rfl
          · split at h
            · cases h; exact .inr (.inr rfl)
            · cases h
      · cases h; exact .inl rfl
    · unfold refC at h
      split at h
      · split at h
        · cases h; exact .inl rfl
        · split at h
          · cases h; exact .inl rfl
          · unfold refC2 at h
            split at h
            · split at h
              · split at h
                · cases h; exact .inr (.inr rfl)
                · cases h
              · cases h; exact .inr (.inl rfl)
            · cases h; exact .inr (.inl rfl)
      · cases h; exact .inl rfl
theorem row_names {l : List Str} : (l.map fun z => (z, (⟨#[]⟩ : Str))).map (·.1) = l := by
  rw [List.map_map]
  exact List.map_id _
end

end K6
namespace K6
open PySem PySem.Spec PyProof.Rows L2 He Tp ClX LiI

section
variable {K : PySem.W.Frag}
theorem _root_.Tp.SrcAt.keepM {ms : List Addr} {H H' : Hp} {S L : Addr} (s : SrcAt H S L) (e : Ext ms H H') (hS : S ∉ ms) (hL : L ∉ ms) : SrcAt H' S L := by
  obtain ⟨cells, i, k, g, h1, h2, ok⟩ := s
  exact ⟨cells, i, k, g, e.keep _ _ h1 hS, e.keep _ _ h2 hL, ok⟩
theorem paired_snoc {F : Addr → Str × Str → Prop} {t : Addr} {q : Str × Str} (h : F t q) : ∀ {as : List Addr} {l : List (Str × Str)}, Paired F as l → Paired F (as ++ [t]) (l ++ [q])
  | _, _, .nil => .cons h .nil
  | _, _, .cons x r => .cons x (paired_snoc h r)
/-- a row grows -/
theorem RowAt.push {H : Hp} {r t : Addr} {l : List (Str × Str)} {xs : List V} {q : Str × Str} (h : RowAt H r l) (hxs : H r = some (.lst xs)) (ht : H t = none) : RowAt (upd (upd H t (.tup [.str q.1, .str q.2])) r (.lst (xs ++ [.ref t]))) r (l ++ [q]) := by
  obtain ⟨as, h1, h2⟩ := h
  rw [h1] at hxs
  cases hxs
  have e1 := Ext.new (ms := [r]) (o := .tup [.str q.1, .str q.2]) ht
  have e : Ext [r] H (upd (upd H t (.tup [.str q.1, .str q.2])) r (.lst (as.map V.ref ++ [.ref t]))) := e1.mut (by simp) fun xs z => by rw [h1] at z; cases z
  refine ⟨as ++ [t], by rw [upd_same, List.map_append]; rfl, paired_snoc ?_ (paired_ext e h2)⟩
  show upd _ r _ t = _
  rw [upd_ne (fun z => by rw [← z, ht] at h1; cases h1)]
  exact upd_same
theorem ext_push {H : Hp} {r t : Addr} {xs : List V} {o : HO} (hxs : H r = some (.lst xs)) (ht : H t = none) {o' : HO} : Ext [r] H (upd (upd H t o) r o') := (Ext.new (ms := [r]) ht).mut (by simp) fun xs z => by rw [hxs] at z; cases z
section
variable {H H' : Hp} {a : Ad} {l0 l2 : List (Str × Str)} {l1 : List Str} {z y : Str} {t : Addr} {xs : List V}
theorem IvH.push0 (v : IvH K H a l0 l1 l2) (e : Ext [a.A.dk] H H') (B : BookAt (cB K) H' a.p 24 a.A (l0.map tv ++ [(z, .str y)]) [] l1 (l2.map tv) [] []) (hz : okN z) (hy : okN y) (h8 : l0.length < 8) (hxs : H' a.r0 = some (.lst xs)) (ht : H' t = none) :
    IvH K (upd (upd H' t (.tup [.str z, .str y])) a.r0 (.lst (xs ++ [.ref t]))) a (l0 ++ [(z, y)]) l1 l2 := by
  have nd := v.nd
  simp only [Ad.all, List.nodup_cons, List.mem_cons, List.not_mem_nil, not_or, or_false] at nd
  obtain ⟨⟨_, n02, n03, n04, n05, n06, n07, n08, n09, n0a, n0b, n0c⟩, ⟨n12, n13, n14, n15, n16, n17, n18, n19, n1a, n1b, n1c⟩, ⟨n23, n24, n25, n26, n27, n28, n29, n2a, n2b, n2c⟩, ⟨n34, n35, n36, n37, n38, n39, n3a, n3b, n3c⟩, ⟨n45, n46, n47, n48, n49, n4a, n4b, n4c⟩, ⟨n56, n57, n58, n59, n5a, n5b, n5c⟩, _⟩ := nd
  have e2 := ext_push (o := .tup [.str z, .str y]) (o' := .lst (xs ++ [.ref t])) hxs ht
  refine ⟨v.nd, (v.src.keepM e (by simpa using n07) (by simpa using n17)).keepM e2 (by simpa using n03) (by simpa using n13), ?_, e2.keep _ _ (e.keep _ _ v.R (by simpa using n27)) (by simpa using n23), ?_, (v.w1.ext e (by simpa using n47)).ext e2 (by simpa using Ne.symm n34), (v.w2.ext e (by simpa using n57)).ext e2 (by simpa using Ne.symm n35),
    by rw [List.length_append]; exact h8, v.n1, v.n2, ?_, v.o1, v.o2⟩
  · have : (l0 ++ [(z, y)]).map tv = l0.map tv ++ [(z, V.str y)] := by rw [List.map_append]; rfl
    rw [this]
    refine B.ext e2 fun b hb => ?_
    simp only [Bk.all, List.mem_cons, List.not_mem_nil, or_false] at hb ⊢
    rcases hb with rfl | rfl | rfl | rfl | rfl | rfl | rfl
    · exact Ne.symm n36
    · exact Ne.symm n37
    · exact Ne.symm n38
    · exact Ne.symm n39
    · exact Ne.symm n3a
    · exact Ne.symm n3b
    · exact Ne.symm n3c
  · exact (v.w0.ext e (by simpa using n37)).push (q := (z, y)) hxs ht
  · intro q hq
    rcases List.mem_append.mp hq with h | h
    · exact v.o0 q h
    · simp at h
      subst h
      exact ⟨hz, hy⟩
theorem IvH.push1 (v : IvH K H a l0 l1 l2) (e : Ext [a.A.lp] H H') (B : BookAt (cB K) H' a.p 24 a.A (l0.map tv) [] (l1 ++ [z]) (l2.map tv) [] []) (hz : okN z) (h8 : l1.length < 8) (hxs : H' a.r1 = some (.lst xs)) (ht : H' t = none) :
    IvH K (upd (upd H' t (.tup [.str z, .str ⟨#[]⟩])) a.r1 (.lst (xs ++ [.ref t]))) a l0 (l1 ++ [z]) l2 := by
  have nd := v.nd
  simp only [Ad.all, List.nodup_cons, List.mem_cons, List.not_mem_nil, not_or, or_false] at nd
  obtain ⟨⟨_, n02, n03, n04, n05, n06, n07, n08, n09, n0a, n0b, n0c⟩, ⟨n12, n13, n14, n15, n16, n17, n18, n19, n1a, n1b, n1c⟩, ⟨n23, n24, n25, n26, n27, n28, n29, n2a, n2b, n2c⟩, ⟨n34, n35, n36, n37, n38, n39, n3a, n3b, n3c⟩, ⟨n45, n46, n47, n48, n49, n4a, n4b, n4c⟩, ⟨n56, n57, n58, n59, n5a, n5b, n5c⟩, _⟩ := nd
  have e2 := ext_push (o := .tup [.str z, .str ⟨#[]⟩]) (o' := .lst (xs ++ [.ref t])) hxs ht
  refine ⟨v.nd, (v.src.keepM e (by simpa using n09) (by simpa using n19)).keepM e2 (by simpa using n04) (by simpa using n14), ?_, e2.keep _ _ (e.keep _ _ v.R (by simpa using n29)) (by simpa using n24), (v.w0.ext e (by simpa using n39)).ext e2 (by simpa using n34), ?_, (v.w2.ext e (by simpa using n59)).ext e2 (by simpa using Ne.symm n45),
    v.n0, by rw [List.length_append]; exact h8, v.n2, v.o0, ?_, v.o2⟩
  · refine B.ext e2 fun b hb => ?_
    simp only [Bk.all, List.mem_cons, List.not_mem_nil, or_false] at hb ⊢
    rcases hb with rfl | rfl | rfl | rfl | rfl | rfl | rfl
    · exact Ne.symm n46
    · exact Ne.symm n47
    · exact Ne.symm n48
    · exact Ne.symm n49
    · exact Ne.symm n4a
    · exact Ne.symm n4b
    · exact Ne.symm n4c
  · rw [List.map_append]
    exact (v.w1.ext e (by simpa using n49)).push (q := (z, ⟨#[]⟩)) hxs ht
  · intro q hq
    rcases List.mem_append.mp hq with h | h
    · exact v.o1 q h
    · simp at h
      subst h
      exact hz
theorem IvH.push2 (v : IvH K H a l0 l1 l2) (e : Ext [a.A.dc] H H') (B : BookAt (cB K) H' a.p 24 a.A (l0.map tv) [] l1 (l2.map tv ++ [(z, .str y)]) [] []) (hz : okN z) (hy : okN y) (h8 : l2.length < 8) (hxs : H' a.r2 = some (.lst xs)) (ht : H' t = none) :
    IvH K (upd (upd H' t (.tup [.str z, .str y])) a.r2 (.lst (xs ++ [.ref t]))) a l0 l1 (l2 ++ [(z, y)]) := by
  have nd := v.nd
  simp only [Ad.all, List.nodup_cons, List.mem_cons, List.not_mem_nil, not_or, or_false] at nd
  obtain ⟨⟨_, n02, n03, n04, n05, n06, n07, n08, n09, n0a, n0b, n0c⟩, ⟨n12, n13, n14, n15, n16, n17, n18, n19, n1a, n1b, n1c⟩, ⟨n23, n24, n25, n26, n27, n28, n29, n2a, n2b, n2c⟩, ⟨n34, n35, n36, n37, n38, n39, n3a, n3b, n3c⟩, ⟨n45, n46, n47, n48, n49, n4a, n4b, n4c⟩, ⟨n56, n57, n58, n59, n5a, n5b, n5c⟩, _⟩ := nd
  have e2 := ext_push (o := .tup [.str z, .str y]) (o' := .lst (xs ++ [.ref t])) hxs ht
  refine ⟨v.nd, (v.src.keepM e (by simpa using n0a) (by simpa using n1a)).keepM e2 (by simpa using n05) (by simpa using n15), ?_, e2.keep _ _ (e.keep _ _ v.R (by simpa using n2a)) (by simpa using n25), (v.w0.ext e (by simpa using n3a)).ext e2 (by simpa using n35), (v.w1.ext e (by simpa using n4a)).ext e2 (by simpa using n45), ?_,
    v.n0, v.n1, by rw [List.length_append]; exact h8, v.o0, v.o1, ?_⟩
  · have : (l2 ++ [(z, y)]).map tv = l2.map tv ++ [(z, V.str y)] := by rw [List.map_append]; rfl
    rw [this]
    refine B.ext e2 fun b hb => ?_
    simp only [Bk.all, List.mem_cons, List.not_mem_nil, or_false] at hb ⊢
    rcases hb with rfl | rfl | rfl | rfl | rfl | rfl | rfl
    · exact Ne.symm n56
    · exact Ne.symm n57
    · exact Ne.symm n58
    · exact Ne.symm n59
    · exact Ne.symm n5a
    · exact Ne.symm n5b
    · exact Ne.symm n5c
  · exact (v.w2.ext e (by simpa using n5a)).push (q := (z, y)) hxs ht
  · intro q hq
    rcases List.mem_append.mp hq with h | h
    · exact v.o2 q h
    · simp at h
      subst h
      exact ⟨hz, hy⟩
end
end

end K6
namespace K6
open PySem PySem.Spec PyProof.Rows L2 He Tp ClX LiI

section
variable {K : PySem.W.Frag} {σ : L2.St} {H : Hp} {Q : VK} {E : XK} {a : Ad} {l0 l2 : List (Str × Str)} {l1 : List Str} {r : R2} {b : Bool} {i j k : Nat}
theorem prs_im {H : Hp} : ∀ {as : List Addr} {l : List (Str × Str)}, Paired (fun (t : Addr) (q : Str × V) => H t = some (.tup [.str q.1, q.2])) as (l.map tv) → ImAll H (as.map V.ref) (l.map dPair)
  | [], [], _ => .nil
  | [], _ :: _, z => nomatch z
  | _ :: _, [], z => nomatch z
  | _ :: _, _ :: _, .cons x r => .cons (.tup x (.cons (.str _) (.cons (.str _) .nil))) (prs_im r)
theorem rd_kinds (v : IvH K H a l0 l1 l2) (h2 : σ[i]? = some (some (.ref a.p))) (q : ∀ (ka : Addr) (H' : Hp), H ka = none → Ext [] H H' → Dp K H' (.ref ka) (.list (l0.map dPair)) → (∃ xs, H' ka = some (.lst xs) ∧ xs.length ≤ 8) → Q (.ref ka) H') :
    tMeth (cB K) "kinds" (spPairs (cB K) true) [] E (tVar i) tNil σ H Q :=
  ⟨_, h2, a.p, a.A.dx, _, rfl, v.bk.ob, fsB_no (.inr (.inr (.inr (.inl rfl)))), a.p, 24, a.A, _, _, _, _, _, _, rfl, v.bk, fun ka as H' hka e hk hp => by
    have im := prs_im hp
    exact q ka H' hka e (.lst (SqL.of hk) im.dp) ⟨_, hk, by have h1 := im.length; rw [List.length_map, List.length_map] at h1; rw [List.length_map, h1]; exact v.n0⟩⟩
theorem rd_cloths (v : IvH K H a l0 l1 l2) (h2 : σ[i]? = some (some (.ref a.p))) (q : ∀ (ka : Addr) (H' : Hp), H ka = none → Ext [] H H' → Dp K H' (.ref ka) (.list (l2.map dPair)) → (∃ xs, H' ka = some (.lst xs) ∧ xs.length ≤ 8) → Q (.ref ka) H') :
    tMeth (cB K) "cloths" (spPairs (cB K) false) [] E (tVar i) tNil σ H Q :=
  ⟨_, h2, a.p, a.A.dx, _, rfl, v.bk.ob, fsB_no (.inr (.inr (.inr (.inr (.inr (.inl rfl)))))), a.p, 24, a.A, _, _, _, _, _, _, rfl, v.bk, fun ka as H' hka e hk hp => by
    have im := prs_im hp
    exact q ka H' hka e (.lst (SqL.of hk) im.dp) ⟨_, hk, by have h1 := im.length; rw [List.length_map, List.length_map] at h1; rw [List.length_map, h1]; exact v.n2⟩⟩
theorem rd_pots (v : IvH K H a l0 l1 l2) (h2 : σ[i]? = some (some (.ref a.p))) (q : ∀ (ka : Addr) (H' : Hp), H ka = none → Ext [] H H' → H' ka = some (.lst (l1.map V.str)) → Q (.ref ka) H') :
    tMeth (cB K) "pots" (spPots (cB K)) [] E (tVar i) tNil σ H Q :=
  ⟨_, h2, a.p, a.A.dx, _, rfl, v.bk.ob, fsB_no (.inr (.inr (.inr (.inr (.inl rfl))))), a.p, 24, a.A, _, _, _, _, _, _, rfl, v.bk, fun ka hka => q ka _ hka (Ext.new hka) upd_same⟩
theorem Dp.growE {H H' : Hp} {l : List (Str × Str)} {p : Addr} (h : RowAt H p l) (e : Ext [] H H') : Dp K H' (.ref p) (.list (l.map dPair)) := (h.ext e (by simp)).dp
def Cmp (K : PySem.W.Frag) (r : R2) (b : Bool) : Prop := ∀ (x y : V) (H : Hp) (d : PyData) (Q : VK), Dp K H x d → Dp K H y d → SeqAt.shaped d = true → Q (.bl b) H → r x y H Q
theorem cmpNe : Cmp K (rNeD K) false := fun x y H d Q h1 h2 sh q => ⟨d, d, h1, h2, sh, sh, by rw [eqv_self sh]; exact q⟩
theorem cmpEq : Cmp K (rEqD K) true := fun x y H d Q h1 h2 sh q => ⟨d, d, h1, h2, sh, sh, by rw [eqv_self sh]; exact q⟩
theorem cmp_kinds (hr : Cmp K r b) (v : IvH K H a l0 l1 l2) (h2 : σ[i]? = some (some (.ref a.p))) (h3 : σ[j]? = some (some (.ref a.R))) (q : ∀ H', Ext [] H H' → Q (.bl b) H') :
    tOp r (tMeth (cB K) "kinds" (spPairs (cB K) true) [] E (tVar i) tNil) (tOp (rIxL K) (tVar j) (tC (.int 0))) σ H Q :=
  rd_kinds v h2 fun ka H' hka e dp _ => ⟨_, h3, a.R, _, 0, _, rfl, rfl, SqL.of (v.grow e).R, rfl, hr _ _ _ _ _ dp (v.grow e).w0.dp (sh_row v.o0) (q _ e)⟩
theorem cmp_cloths (hr : Cmp K r b) (v : IvH K H a l0 l1 l2) (h2 : σ[i]? = some (some (.ref a.p))) (h3 : σ[j]? = some (some (.ref a.R))) (q : ∀ H', Ext [] H H' → Q (.bl b) H') :
    tOp r (tMeth (cB K) "cloths" (spPairs (cB K) false) [] E (tVar i) tNil) (tOp (rIxL K) (tVar j) (tC (.int 2))) σ H Q :=
  rd_cloths v h2 fun ka H' hka e dp _ => ⟨_, h3, a.R, _, 2, _, rfl, rfl, SqL.of (v.grow e).R, rfl, hr _ _ _ _ _ dp (v.grow e).w2.dp (sh_row v.o2) (q _ e)⟩
theorem cmp_pots (hr : Cmp K r b) (v : IvH K H a l0 l1 l2) (h2 : σ[i]? = some (some (.ref a.p))) (h3 : σ[j]? = some (some (.ref a.R))) (hk : k < σ.length) (q : ∀ H', Ext [] H H' → Q (.bl b) H') :
    tOp r (tMeth (cB K) "pots" (spPots (cB K)) [] E (tVar i) tNil) (tLc (iList K (tOp (rIxL K) (tVar j) (tC (.int 1)))) (gName k) tYes (tOp (rIxT K) (tVar k) (tC (.int 0))) [k]) σ H Q :=
  rd_pots v h2 fun ka H' hka e hx => by
    refine rd_names (l := l1.map fun z => (z, (⟨#[]⟩ : Str))) hk (val_ixL (val_var h3) val_c (SqL.of (v.grow e).R) rfl) (v.grow e).w1 (by have := v.n1; rw [List.length_map]; omega) fun D H2 hD e2 h2 => ?_
    have h2' : H2 D = some (.lst (l1.map V.str)) := by rw [h2, List.map_map]; rfl
    have dp2 : Dp K H2 (.ref D) (.list (l1.map PyData.str)) := .lst (SqL.of h2') (ImAll.strs l1).dp
    have dp1 : Dp K H2 (.ref ka) (.list (l1.map PyData.str)) := .lst (SqL.of (e2.keep _ _ hx (by simp))) (ImAll.strs l1).dp
    exact hr _ _ _ _ _ dp1 dp2 (sh_strs fun z hz => (v.o1 z hz).1) (q _ (e.trans e2))
end

end K6
namespace K6
open PySem PySem.Spec PyProof.Rows L2 He Tp ClX LiI

section
variable {K : PySem.W.Frag}
theorem nm_ok {H : Hp} {z : Str} (h : Wv H (.str z)) (hn : nmS z = true) : okN z := by
  obtain ⟨d, h1, h2, _⟩ := h
  cases h1
  refine ⟨?_, ?_⟩
  · have := h2.1
    rw [PyData.canLay0] at this
    exact this
  · have h3 := (Bool.and_eq_true_iff.mp hn).2
    have h4 := of_decide_eq_true (Bool.and_eq_true_iff.mp h3).1
    omega
theorem refK_none {ks : List (Str × V)} {v g : V} {o : Bool} (h : refK ks v g o = none) : ∃ z, v = .str z ∧ nmS z = true ∧ o = true ∧ ks.length < 8 := by
  unfold refK at h
  split at h
  · rename_i z
    by_cases h1 : nmS z = false
    · rw [if_pos h1] at h; cases h
    · rw [if_neg h1] at h
      by_cases h2 : z ∈ ks.map (·.1)
      · rw [if_pos h2] at h; cases h
      · rw [if_neg h2] at h
        by_cases h3 : o = false
        · rw [if_pos h3] at h; cases h
        · rw [if_neg h3] at h
          by_cases h4 : 8 ≤ ks.length
          · rw [if_pos h4] at h; cases h
          · exact ⟨z, rfl, by simpa using h1, by simpa using h3, by omega⟩
  · cases h
theorem refP_none {ps : List Str} {v : V} (h : refP ps v = none) : ∃ z, v = .str z ∧ nmS z = true ∧ ps.length < 8 := by
  unfold refP at h
  split at h
  · rename_i z
    by_cases h1 : nmS z = false
    · rw [if_pos h1] at h; cases h
    · rw [if_neg h1] at h
      by_cases h2 : z ∈ ps
      · rw [if_pos h2] at h; cases h
      · rw [if_neg h2] at h
        by_cases h4 : 8 ≤ ps.length
        · rw [if_pos h4] at h; cases h
        · exact ⟨z, rfl, by simpa using h1, by omega⟩
  · cases h
theorem refC_none {cs ks : List (Str × V)} {v g : V} (h : refC cs ks v g = none) : ∃ z y, v = .str z ∧ nmS z = true ∧ g = .str y ∧ y ∈ ks.map (·.1) ∧ cs.length < 8 := by
  unfold refC at h
  split at h
  · rename_i z
    by_cases h1 : nmS z = false
    · rw [if_pos h1] at h; cases h
    · rw [if_neg h1] at h
      by_cases h2 : z ∈ cs.map (·.1)
      · rw [if_pos h2] at h; cases h
      · rw [if_neg h2] at h
        unfold refC2 at h
        split at h
        · rename_i y
          by_cases h3 : y ∈ ks.map (·.1)
          · rw [if_pos h3] at h
            by_cases h4 : 8 ≤ cs.length
            · rw [if_pos h4] at h; cases h
            · exact ⟨z, y, rfl, by simpa using h1, rfl, h3, by omega⟩
          · rw [if_neg h3] at h; cases h
        · cases h
  · cases h
theorem hold_ok {H : Hp} {g : V} {d : PyData} (h : Im H g d) (hd : holdD d = true) : ∃ y, g = .str y ∧ okN y := by
  have e : ((PyData.eqv (.str "fast") d) || ((PyData.eqv (.str "loose") d) || ((PyData.eqv (.str "unsure") d) || false))) = true := hd
  have f : d = .str "fast" ∨ d = .str "loose" ∨ d = .str "unsure" := by
    cases h1 : PyData.eqv (.str "fast") d with
    | true => exact .inl (eqv_str' h1)
    | false =>
      cases h2 : PyData.eqv (.str "loose") d with
      | true => exact .inr (.inl (eqv_str' h2))
      | false =>
        cases h3 : PyData.eqv (.str "unsure") d with
        | true => exact .inr (.inr (eqv_str' h3))
        | false => rw [h1, h2, h3] at e; cases e
  rcases f with rfl | rfl | rfl <;> cases h
  · exact ⟨_, rfl, by decide +kernel, by decide +kernel⟩
  · exact ⟨_, rfl, by decide +kernel, by decide +kernel⟩
  · exact ⟨_, rfl, by decide +kernel, by decide +kernel⟩
theorem IvH.after {H H' : Hp} {a : Ad} {l0 l2 : List (Str × Str)} {l1 : List Str} {x : Addr} (v : IvH K H a l0 l1 l2) (e : Ext [x] H H') (hx : x = a.A.dk ∨ x = a.A.lp ∨ x = a.A.dc) (part : Int) : H' a.R = some (.lst [.ref a.r0, .ref a.r1, .ref a.r2]) ∧ ∃ xs, H' (a.r part) = some (.lst xs) ∧ xs.length ≤ 8 := by
  have nd := v.nd
  simp only [Ad.all, List.nodup_cons, List.mem_cons, List.not_mem_nil, not_or, or_false] at nd
  obtain ⟨⟨_, n02, n03, n04, n05, n06, n07, n08, n09, n0a, n0b, n0c⟩, ⟨n12, n13, n14, n15, n16, n17, n18, n19, n1a, n1b, n1c⟩, ⟨n23, n24, n25, n26, n27, n28, n29, n2a, n2b, n2c⟩, ⟨n34, n35, n36, n37, n38, n39, n3a, n3b, n3c⟩, ⟨n45, n46, n47, n48, n49, n4a, n4b, n4c⟩, ⟨n56, n57, n58, n59, n5a, n5b, n5c⟩, _⟩ := nd
  obtain ⟨xs, h1, h2⟩ := row_len (v.row part)
  refine ⟨e.keep _ _ v.R ?_, xs, e.keep _ _ h1 ?_, by rw [h2]; exact v.rowN part⟩
  · rcases hx with rfl | rfl | rfl <;> simp only [List.mem_singleton]
    · exact n27
    · exact n29
    · exact n2a
  · unfold Ad.r
    split
    · rcases hx with rfl | rfl | rfl <;> simp only [List.mem_singleton]
      · exact n37
      · exact n39
      · exact n3a
    · split
      · rcases hx with rfl | rfl | rfl <;> simp only [List.mem_singleton]
        · exact n47
        · exact n49
        · exact n4a
      · rcases hx with rfl | rfl | rfl <;> simp only [List.mem_singleton]
        · exact n57
        · exact n59
        · exact n5a
end

end K6
namespace K6
open PySem PySem.Spec PyProof.Rows L2 He Tp ClX LiI

section
variable {K : PySem.W.Frag}
/-- the beginning: nothing in the book, nothing in the rows -/
theorem iv_start {H1 H2 : Hp} {S L R r0 r1 r2 p dx : Addr} {A : Bk} (hSL : SrcAt H1 S L) (hp : H1 p = none) (hdx : H1 dx = none) (hne : dx ≠ p) (hA : ∀ x ∈ [A.dk, A.lt, A.lp, A.dc, A.ld, A.lf], upd (upd H1 dx (.own p)) p (.ins (cB K) dx []) x = none)
    (e2 : Ext [p] (upd (upd H1 dx (.own p)) p (.ins (cB K) dx [])) H2) (B : BookAt (cB K) H2 p 24 A [] [] [] [] [] []) (h0 : H2 r0 = none) (h1 : upd H2 r0 (.lst []) r1 = none) (h2 : upd (upd H2 r0 (.lst [])) r1 (.lst []) r2 = none)
    (hR : upd (upd (upd H2 r0 (.lst [])) r1 (.lst [])) r2 (.lst []) R = none) :
    IvH K (upd (upd (upd (upd H2 r0 (.lst [])) r1 (.lst [])) r2 (.lst [])) R (.lst [.ref r0, .ref r1, .ref r2])) ⟨S, L, R, r0, r1, r2, p, A⟩ [] [] [] := by
  obtain ⟨cells, i, k, g, h1S, h1L, ok⟩ := hSL
  have nR := hR
  have n2 := h2
  have n1 := h1
  simp only [upd_none_iff] at nR n2 n1
  obtain ⟨nR1, nR2, nR3, hR2⟩ : R ≠ r2 ∧ R ≠ r1 ∧ R ≠ r0 ∧ H2 R = none := nR
  obtain ⟨n21, n20, h22⟩ : r2 ≠ r1 ∧ r2 ≠ r0 ∧ H2 r2 = none := n2
  obtain ⟨n10, h12⟩ : r1 ≠ r0 ∧ H2 r1 = none := n1
  have em : Ext [] H1 (upd (upd H1 dx (.own p)) p (.ins (cB K) dx [])) := (Ext.new hdx).trans (Ext.new (by rw [upd_ne hne.symm]; exact hp))
  have hmS := em.keep _ _ h1S (by simp)
  have hmL := em.keep _ _ h1L (by simp)
  have hS2 := e2.keep _ _ hmS (by simp only [List.mem_singleton]; exact ne_of_none h1S hp)
  have hL2 := e2.keep _ _ hmL (by simp only [List.mem_singleton]; exact ne_of_none h1L hp)
  have ef : Ext [] H2 (upd (upd (upd (upd H2 r0 (.lst [])) r1 (.lst [])) r2 (.lst [])) R (.lst [.ref r0, .ref r1, .ref r2])) := (Ext.new h0).trans ((Ext.new h1).trans ((Ext.new h2).trans (Ext.new hR)))
  refine ⟨?_, ⟨cells, i, k, g, ef.keep _ _ hS2 (by simp), ef.keep _ _ hL2 (by simp), ok⟩, B.ext ef (fun _ _ => by simp), upd_same, ⟨[], ?_, .nil⟩, ⟨[], ?_, .nil⟩, ⟨[], ?_, .nil⟩, by decide, by decide, by decide, (by simp), (by simp), (by simp)⟩
  · simp only [Ad.all, List.nodup_cons, List.mem_cons, List.not_mem_nil, not_or, or_false, List.nodup_nil, and_true, not_false_eq_true]
    refine ⟨⟨(src_ne h1S h1L).symm, ne_of_none hS2 hR2, ne_of_none hS2 h0, ne_of_none hS2 h12, ne_of_none hS2 h22, ne_of_none h1S hp, ne_of_none hmS (hA A.dk (by simp)), ne_of_none hmS (hA A.lt (by simp)), ne_of_none hmS (hA A.lp (by simp)), ne_of_none hmS (hA A.dc (by simp)), ne_of_none hmS (hA A.ld (by simp)), ne_of_none hmS (hA A.lf (by simp))⟩,
        ⟨ne_of_none hL2 hR2, ne_of_none hL2 h0, ne_of_none hL2 h12, ne_of_none hL2 h22, ne_of_none h1L hp, ne_of_none hmL (hA A.dk (by simp)), ne_of_none hmL (hA A.lt (by simp)), ne_of_none hmL (hA A.lp (by simp)), ne_of_none hmL (hA A.dc (by simp)), ne_of_none hmL (hA A.ld (by simp)), ne_of_none hmL (hA A.lf (by simp))⟩,
        ⟨nR3, nR2, nR1, (ne_of_none B.ob hR2).symm, (ne_of_none B.dk hR2).symm, (ne_of_none B.lt hR2).symm, (ne_of_none B.lp hR2).symm, (ne_of_none B.dc hR2).symm, (ne_of_none B.ld hR2).symm, (ne_of_none B.lf hR2).symm⟩,
        ⟨n10.symm, n20.symm, (ne_of_none B.ob h0).symm, (ne_of_none B.dk h0).symm, (ne_of_none B.lt h0).symm, (ne_of_none B.lp h0).symm, (ne_of_none B.dc h0).symm, (ne_of_none B.ld h0).symm, (ne_of_none B.lf h0).symm⟩,
        ⟨n21.symm, (ne_of_none B.ob h12).symm, (ne_of_none B.dk h12).symm, (ne_of_none B.lt h12).symm, (ne_of_none B.lp h12).symm, (ne_of_none B.dc h12).symm, (ne_of_none B.ld h12).symm, (ne_of_none B.lf h12).symm⟩,
        ⟨(ne_of_none B.ob h22).symm, (ne_of_none B.dk h22).symm, (ne_of_none B.lt h22).symm, (ne_of_none B.lp h22).symm, (ne_of_none B.dc h22).symm, (ne_of_none B.ld h22).symm, (ne_of_none B.lf h22).symm⟩,
        ⟨B.p_ne.1, B.p_ne.2.1, B.p_ne.2.2.1, B.p_ne.2.2.2.1, B.p_ne.2.2.2.2.1, B.p_ne.2.2.2.2.2⟩,
        ⟨ne_of B.dk B.lt (by intro z; cases z), ne_of B.dk B.lp (by intro z; cases z), B.nk, ne_of B.dk B.ld (by intro z; cases z), ne_of B.dk B.lf (by intro z; cases z)⟩,
        ⟨B.n1, ne_of B.lt B.dc (by intro z; cases z), B.n2, B.n3⟩,
        ⟨ne_of B.lp B.dc (by intro z; cases z), B.n4, B.n5⟩,
        ⟨ne_of B.dc B.ld (by intro z; cases z), ne_of B.dc B.lf (by intro z; cases z)⟩,
        B.n6⟩
  · show upd _ _ _ r0 = _
    rw [upd_ne nR3.symm, upd_ne n20.symm, upd_ne n10.symm]
    exact upd_same
  · show upd _ _ _ r1 = _
    rw [upd_ne nR2.symm, upd_ne n21.symm]
    exact upd_same
  · show upd _ _ _ r2 = _
    rw [upd_ne nR1.symm]
    exact upd_same
end

end K6
namespace K6
open PySem PySem.Spec PyProof.Rows L2 He Tp ClX LiI

section
variable {P : Program} {w : World} {K : PySem.W.Frag} {mg : Str → Option Value} {base : Heap}
def spLaw (K : PySem.W.Frag) : Sp := fun vs H Q _ => ∃ (a : Addr) (ns : List Int), vs = [.ref a] ∧ SqL K H a (ns.map V.int) ∧ ns.length ≤ 63 ∧ ∀ H', Q (.bl true) H'
theorem b_init {fd : FuncData} (F : FnM K "Book" "__init__" "Book.__init__" s_Book___init__ [("bound", .int 24)] fd) : ∃ ds, Vals [V.int 24] ds ∧ Binds K fd ["self", "bound"] ds :=
  F.binds0 1 (by simp) rfl (fun D doc pm an cdv ct us ks h1 h2 => match us, ks, h1, h2 with | [_], [_], _, _ => ⟨_, _, _, _, _, _, rfl, rfl, rfl⟩)
abbrev Sl (sc : Addr) (a : Ad) (x4 x5 x6 x7 x8 x9 x10 x11 x12 x13 : Option V) : L2.St := [some (.ref sc), some (.ref a.S), some (.ref a.p), some (.ref a.R), x4, x5, x6, x7, x8, x9, x10, x11, x12, x13, none, none, none]
theorem ok_law (T : Txt K mg) {fd : FuncData} (F : FnP K "law" s_law fd) : FnOk P w K mg base CX0 6 (ga K "law") fd ["_law_script"] (spLaw K) := by
  have D__law_source := ok_source (P := P) (w := w) (base := base) T
  have D__law_draw := ok_drawE (P := P) (w := w) (base := base) T
  have D__law_word_drawn := ok_word_drawn (P := P) (w := w) (base := base) T
  have D__law_refusal := ok_refusal (P := P) (w := w) (base := base) T
  have D__law_add := ok_add (P := P) (w := w) (base := base) T
  obtain ⟨fi, fi_⟩ := T.fInit
  have Fi := ok_init (P := P) (w := w) (base := base) T fi_
  obtain ⟨dsi, bi⟩ := b_init fi_
  obtain ⟨fk, fk_⟩ := T.fkinds
  have Fkinds := ok_kinds (P := P) (w := w) (base := base) T fk_
  have bkinds : Binds K fk ["self"] [] := fk_.bindsN (fun _ _ _ _ _ _ us hl => match us, hl with | [_], _ => rfl)
  obtain ⟨fp, fp_⟩ := T.fpots
  have Fpots := ok_pots (P := P) (w := w) (base := base) T fp_
  have bpots : Binds K fp ["self"] [] := fp_.bindsN (fun _ _ _ _ _ _ us hl => match us, hl with | [_], _ => rfl)
  obtain ⟨fc, fc_⟩ := T.fcloths
  have Fcloths := ok_cloths (P := P) (w := w) (base := base) T fc_
  have bcloths : Binds K fc ["self"] [] := fc_.bindsN (fun _ _ _ _ _ _ us hl => match us, hl with | [_], _ => rfl)
  refine F.ok sc_law (fun vs H Q E h => ?_) (fun cdv A outer s H vs Q E hr h => ?_)
  · obtain ⟨a, ns, rfl, _⟩ := h
    rfl
  · obtain ⟨sc, ns, rfl, hS, hl, qOk⟩ := h
    have nd := sc_law.nd
    have hu64 := hr.units
    have hr__law_source := hr.mono (show 1 ≤ 5 by decide)
    have hr__law_draw := hr.mono (show 1 ≤ 5 by decide)
    have hr__law_refusal := hr.mono (show 1 ≤ 5 by decide)
    have hr1 := hr.mono (show 1 ≤ 5 by decide)
    have hr__law_word_drawn := hr.mono (show 3 ≤ 5 by decide)
    have hr__law_add := hr
    refine ⟨_, PSs.nox
   (pss_cons (ps_set (i := 1) nd rfl (by first | exact Or.inl rfl | exact Or.inr rfl) (pe_cd D__law_source hr__law_source (by rfl) pass0 (pa_cons (pv 0) pa_nil)))
   (pss_cons (ps_set (i := 2) nd rfl (by first | exact Or.inl rfl | exact Or.inr rfl) (pe_make0 T.mk_ Fi hr (by rfl) T.gBook bi.2 bi.1 passL))
   (pss_cons (ps_set (i := 3) nd rfl (by first | exact Or.inl rfl | exact Or.inr rfl) (pe_lst (pa_cons (pe_lst pa_nil) (pa_cons (pe_lst pa_nil) (pa_cons (pe_lst pa_nil) pa_nil)))))
   (pss_cons (ps_for PassesOwn.never rfl (pi_range1 (by rfl) T.brange (pa_cons pe_int pa_nil)) (pg_name (i := 4) nd rfl (by first | exact Or.inl rfl | exact Or.inr rfl))
   (pss_one (ps_for PassesOwn.never rfl (pi_range1 (by rfl) T.brange (pa_cons (pe_op op_mod (pe_op op_add pe_int (pe_cd D__law_draw hr__law_draw (by rfl) pass0 (pa_cons (pv 1) (pa_cons pe_int pa_nil)))) pe_int) pa_nil)) (pg_name (i := 5) nd rfl (by first | exact Or.inl rfl | exact Or.inr rfl))
   (pss_cons (ps_set (i := 6) nd rfl (by first | exact Or.inl rfl | exact Or.inr rfl) (pe_cd D__law_word_drawn hr__law_word_drawn (by rfl) pass0 (pa_cons (pv 1) (pa_cons (pv 5) pa_nil))))
   (Evl.pss_cut (ps_if (PW.pt (pw_and (pt_cmpR (op_neD hu64) (pe_ix ix_list (pv 3) (pv 4) (fun _ _ => rfl)) (pe_lst pa_nil) (nomark _)) (pw_and1 (pt_cmpR op_eq (pe_cd D__law_draw hr__law_draw (by rfl) pass0 (pa_cons (pv 1) (pa_cons pe_int pa_nil))) pe_int (nomark _))))) (pss_one (ps_set (i := 6) nd rfl (by first | exact Or.inl rfl | exact Or.inr rfl) (pe_ix ix_tup (pe_ix ix_list (pe_ix ix_list (pv 3) (pv 4) (fun _ _ => rfl)) (pe_cd D__law_draw hr__law_draw (by rfl) pass0 (pa_cons (pv 1) (pa_cons (pe_callB call_len_seq (by rfl) T.blen PySem.boot_len (pa_cons (pe_ix ix_list (pv 3) (pv 4) (fun _ _ => rfl)) pa_nil)) pa_nil))) (fun _ _ => rfl)) pe_int (fun _ _ => rfl)))) pss_nil)
   (pss_cons (ps_set (i := 7) nd rfl (by first | exact Or.inl rfl | exact Or.inr rfl) (pe_lst (pa_cons pe_str (pa_cons pe_str (pa_cons pe_str pa_nil)))))
   (pss_cons (ps_set (i := 8) nd rfl (by first | exact Or.inl rfl | exact Or.inr rfl) pe_str)
   (Evl.pss_cut (ps_if (pt_cmpR op_eq (pv 4) pe_int (nomark _)) (pss_cons (ps_set (i := 7) nd rfl (by first | exact Or.inl rfl | exact Or.inr rfl) (pe_op op_cat (pv 7) (pv 7)))
   (pss_one (ps_set (i := 8) nd rfl (by first | exact Or.inl rfl | exact Or.inr rfl) (pe_ix ix_list (pe_op op_cat (pv 7) (pe_lst (pa_cons pe_str (pa_cons pe_non (pa_cons pe_str (pa_cons pe_str (pa_cons pe_str (pa_cons (pe_tup (pa_cons pe_str pa_nil)) (pa_cons pe_int pa_nil))))))))) (pe_cd D__law_draw hr__law_draw (by rfl) pass0 (pa_cons (pv 1) (pa_cons pe_int pa_nil))) (fun _ _ => rfl))))) pss_nil)
   (pss_cons (ps_setLc (i := 9) (own := [("_law_row", 15)]) (g := gName 15) (tt := tYes) (by rfl) nd rfl rfl (sw_true rfl rfl rfl (by decide +kernel)) (pi_list (pe_ix ix_list (pv 3) pe_int (fun _ _ => rfl))) (blkOk_by (own := [("_law_row", 15)]) (N := n_law) (sc := defScope s_law) (by decide +kernel)) (fun _ _ _ _ _ => pg_name (i := 15) nd rfl (by first | exact Or.inl rfl | exact Or.inr rfl)) (fun _ _ _ _ _ => pts_nil) (fun _ _ _ _ _ => (pe_ix (show IxR _ (rIxT K) from ix_tup) (pv 15) pe_int (fun _ _ => rfl))))
   (Evl.pss_cut (ps_if (pt_cmpR op_eq (pv 4) pe_int (nomark _)) (pss_cons (ps_set (i := 10) nd rfl (by first | exact Or.inl rfl | exact Or.inr rfl) (pe_lst (pa_cons pe_str (pa_cons (pe_op op_add_str pe_str (pe_join pe_str (pv 9))) (pa_cons pe_non (pa_cons pe_int (pa_cons pe_bl (pa_cons pe_str pa_nil))))))))
   (pss_cons (ps_set (i := 10) nd rfl (by first | exact Or.inl rfl | exact Or.inr rfl) (pe_op op_cat (pv 10) (pe_lc (own := [("_law_sort", 16)]) (g := gName 16) (tt := tYes) (by rfl) nd (pi_list (pv 9)) (blkOk_by (own := [("_law_sort", 16)]) (N := n_law) (sc := defScope s_law) (by decide +kernel)) (fun _ _ _ _ _ => pg_name (i := 16) nd rfl (by first | exact Or.inl rfl | exact Or.inr rfl)) (fun _ _ _ _ _ => pts_nil) (fun _ _ _ _ _ => (pe_op op_add_str (pv 16) pe_str)))))
   (pss_cons (ps_set (i := 10) nd rfl (by first | exact Or.inl rfl | exact Or.inr rfl) (pe_op op_cat (pv 10) (pe_lc (own := [("_law_row", 15)]) (g := gName 15) (tt := tYes) (by rfl) nd (pi_list (pe_ix ix_list (pv 3) pe_int (fun _ _ => rfl))) (blkOk_by (own := [("_law_row", 15)]) (N := n_law) (sc := defScope s_law) (by decide +kernel)) (fun _ _ _ _ _ => pg_name (i := 15) nd rfl (by first | exact Or.inl rfl | exact Or.inr rfl)) (fun _ _ _ _ _ => pts_nil) (fun _ _ _ _ _ => (pe_ix (show IxR _ (rIxT K) from ix_tup) (pv 15) pe_int (fun _ _ => rfl))))))
   (pss_cons (ps_set (i := 10) nd rfl (by first | exact Or.inl rfl | exact Or.inr rfl) (pe_op op_cat (pe_op op_cat (pe_op op_cat (pv 9) (pv 9)) (pv 10)) (pe_lc (own := [("_law_sort", 16)]) (g := gName 16) (tt := tYes) (by rfl) nd (pi_list (pv 9)) (blkOk_by (own := [("_law_sort", 16)]) (N := n_law) (sc := defScope s_law) (by decide +kernel)) (fun _ _ _ _ _ => pg_name (i := 16) nd rfl (by first | exact Or.inl rfl | exact Or.inr rfl)) (fun _ _ _ _ _ => pts_nil) (fun _ _ _ _ _ => (pe_tup (pa_cons (pv 16) pa_nil))))))
   (pss_one (ps_set (i := 8) nd rfl (by first | exact Or.inl rfl | exact Or.inr rfl) (pe_ix ix_list (pv 10) (pe_cd D__law_draw hr__law_draw (by rfl) pass0 (pa_cons (pv 1) (pa_cons (pe_callB call_len_seq (by rfl) T.blen PySem.boot_len (pa_cons (pv 10) pa_nil)) pa_nil))) (fun _ _ => rfl)))))))) pss_nil)
   (pss_cons (ps_setLc (i := 11) (own := [("_law_row", 15)]) (g := gName 15) (tt := tYes) (by rfl) nd rfl rfl (sw_true rfl rfl rfl (by decide +kernel)) (pi_list (pe_ix ix_list (pv 3) (pv 4) (fun _ _ => rfl))) (blkOk_by (own := [("_law_row", 15)]) (N := n_law) (sc := defScope s_law) (by decide +kernel)) (fun _ _ _ _ _ => pg_name (i := 15) nd rfl (by first | exact Or.inl rfl | exact Or.inr rfl)) (fun _ _ _ _ _ => pts_nil) (fun _ _ _ _ _ => (pe_ix (show IxR _ (rIxT K) from ix_tup) (pv 15) pe_int (fun _ _ => rfl))))
   (pss_cons (ps_set (i := 12) nd rfl (by first | exact Or.inl rfl | exact Or.inr rfl) (pe_ix ix_list (pe_lst (pa_cons (pv 7) (pa_cons (pe_lst (pa_cons pe_str pa_nil)) (pa_cons (pv 9) pa_nil)))) (pv 4) (fun _ _ => rfl)))
   (pss_cons (ps_set (i := 13) nd rfl (by first | exact Or.inl rfl | exact Or.inr rfl) (pe_cd D__law_refusal hr__law_refusal (by rfl) pass0 (pa_cons (pv 11) (pa_cons (pv 6) (pa_cons (pv 8) (pa_cons (pv 12) (pa_cons (pe_ix ix_list (pe_lst (pa_cons pe_str (pa_cons pe_str (pa_cons pe_str pa_nil)))) (pv 4) (fun _ _ => rfl)) pa_nil)))))))
   (pss_cons (ps_if (pt_cmpR (op_neD hu64) (pe_cd D__law_add hr__law_add (by rfl) pass0 (pa_cons (pv 2) (pa_cons (pv 4) (pa_cons (pv 6) (pa_cons (pv 8) pa_nil))))) (pv 13) (nomark _)) (pss_one (ps_ret pe_bl)) pss_nil)
   (Evl.pss_cut (ps_if (pt_cmpR op_isN (pv 13) pe_non (nomark _)) (pss_one (ps_expr (pe_bm PySem.F.plainAttrs_list PySem.F.slot_list_append PySem.F.type_list_append mt_append (pe_ix ix_list (pv 3) (pv 4) (fun _ _ => rfl)) (pa_cons (pe_tup (pa_cons (pv 6) (pa_cons (pv 8) pa_nil))) pa_nil)))) pss_nil)
   (pss_one (ps_if (PW.pt (pw_or (pt_cmpR (op_neD hu64) (pe_meth0 (pv 2) T.cl T.mkinds Fkinds hr1 bkinds .nil pass0) (pe_ix ix_list (pv 3) pe_int (fun _ _ => rfl)) (nomark _)) (pw_or (pt_cmpR (op_neD hu64) (pe_meth0 (pv 2) T.cl T.mpots Fpots hr1 bpots .nil pass0) (pe_lc (own := [("_law_row", 15)]) (g := gName 15) (tt := tYes) (by rfl) nd (pi_list (pe_ix ix_list (pv 3) pe_int (fun _ _ => rfl))) (blkOk_by (own := [("_law_row", 15)]) (N := n_law) (sc := defScope s_law) (by decide +kernel)) (fun _ _ _ _ _ => pg_name (i := 15) nd rfl (by first | exact Or.inl rfl | exact Or.inr rfl)) (fun _ _ _ _ _ => pts_nil) (fun _ _ _ _ _ => (pe_ix (show IxR _ (rIxT K) from ix_tup) (pv 15) pe_int (fun _ _ => rfl)))) (nomark _)) (pw_or1 (pt_cmpR (op_neD hu64) (pe_meth0 (pv 2) T.cl T.mcloths Fcloths hr1 bcloths .nil pass0) (pe_ix ix_list (pv 3) pe_int (fun _ _ => rfl)) (nomark _)))))) (pss_one (ps_ret pe_bl)) pss_nil)))))))))))))))))
   (pss_cons (ps_for PassesOwn.never rfl (pi_list (pe_lst (pa_cons (pe_meth0 (pv 2) T.cl T.mkinds Fkinds hr1 bkinds .nil pass0) (pa_cons (pe_meth0 (pv 2) T.cl T.mpots Fpots hr1 bpots .nil pass0) (pa_cons (pe_meth0 (pv 2) T.cl T.mcloths Fcloths hr1 bcloths .nil pass0) pa_nil))))) (pg_name (i := 14) nd rfl (by first | exact Or.inl rfl | exact Or.inr rfl))
   (pss_cons (ps_if (pt_not (pt_val (pe_callB (call_isi) (by rfl) T.bisinstance (by decide +kernel) (pa_cons (pv 14) (pa_cons (pe_bltn (v := .ty "list") (u := .type "list") (by rfl) T.blist (by decide +kernel) rfl) pa_nil))))) (pss_one (ps_ret pe_bl)) pss_nil)
   (pss_one (ps_expr (pe_bm PySem.F.plainAttrs_list PySem.F.slot_list_append PySem.F.type_list_append mt_append (pv 14) (pa_cons pe_str pa_nil))))))
   (pss_one (ps_ret (pe_and (pe_cmpR (op_eqD hu64) (pe_meth0 (pv 2) T.cl T.mkinds Fkinds hr1 bkinds .nil pass0) (pe_ix ix_list (pv 3) pe_int (fun _ _ => rfl)) (nomark _)) (pe_and (pe_cmpR (op_eqD hu64) (pe_meth0 (pv 2) T.cl T.mpots Fpots hr1 bpots .nil pass0) (pe_lc (own := [("_law_row", 15)]) (g := gName 15) (tt := tYes) (by rfl) nd (pi_list (pe_ix ix_list (pv 3) pe_int (fun _ _ => rfl))) (blkOk_by (own := [("_law_row", 15)]) (N := n_law) (sc := defScope s_law) (by decide +kernel)) (fun _ _ _ _ _ => pg_name (i := 15) nd rfl (by first | exact Or.inl rfl | exact Or.inr rfl)) (fun _ _ _ _ _ => pts_nil) (fun _ _ _ _ _ => (pe_ix (show IxR _ (rIxT K) from ix_tup) (pv 15) pe_int (fun _ _ => rfl)))) (nomark _)) (pe_one (pe_cmpR (op_eqD hu64) (pe_meth0 (pv 2) T.cl T.mcloths Fcloths hr1 bcloths .nil pass0) (pe_ix ix_list (pv 3) pe_int (fun _ _ => rfl)) (nomark _)))))))))))), ?_⟩
    refine ⟨_, rfl, sc, ns, rfl, hS, hl, fun S L H1 hSn hLn e1 S1 => ?_⟩
    intro p dx hp hdx hne
    refine ⟨p, dx, .int 24, rfl, .int 24, upd_same, fun hb => absurd (show (0 : Int) ≤ 24 ∧ (24 : Int) ≤ 24 by decide) hb, fun i A H2 hi h0 h24 B hA hAdx e2 => ⟨rfl, ?_⟩⟩
    cases hi
    refine ⟨by show 0 ≤ sizeLine; decide, fun r0 h0 => ⟨by show 0 ≤ sizeLine; decide, fun r1 h1 => ⟨by show 0 ≤ sizeLine; decide, fun r2 h2 => ⟨by show 3 ≤ sizeLine; decide, fun R hR => ?_⟩⟩⟩⟩
    -- the beginning
    have v0 := iv_start (K := K) S1 hp hdx hne hA e2 B h0 h1 h2 hR
    generalize upd (upd (upd (upd H2 r0 (.lst [])) r1 (.lst [])) r2 (.lst [])) R (.lst [.ref r0, .ref r1, .ref r2]) = Hb at v0
    clear hA e2 B hAdx h0 h1 h2 hR hp hdx hne S1
    obtain ⟨a, ea⟩ : ∃ a : Ad, a = ⟨S, L, R, r0, r1, r2, p, A⟩ := ⟨_, rfl⟩
    rw [← ea] at v0
    obtain rfl : a.S = S := by rw [ea]
    obtain rfl : a.p = p := by rw [ea]
    obtain rfl : a.R = R := by rw [ea]
    clear ea
    refine ⟨3, rfl, by decide, by decide, for_range (n := 3) (fun i σ' H' => ∃ l0 l1 l2 x4 x5 x6 x7 x8 x9 x10 x11 x12 x13, σ' = Sl sc a x4 x5 x6 x7 x8 x9 x10 x11 x12 x13 ∧ IvH K H' a l0 l1 l2) ⟨[], [], [], none, none, none, none, none, none, none, none, none, none, rfl, v0⟩ ?_ ?_⟩
    · rintro i0 σ' H' hi ⟨l0, l1, l2, x4, x5, x6, x7, x8, x9, x10, x11, x12, x13, rfl, v⟩
      have hpart : (0 : Int) + (i0 : Int) = 0 ∨ (0 : Int) + (i0 : Int) = 1 ∨ (0 : Int) + (i0 : Int) = 2 := by omega
      generalize (0 : Int) + (i0 : Int) = part at hpart
      refine draw_ex (i := 1) rfl v.src (by decide) (by decide) val_c (fun n H2 n0 n1 e2 s2 => ?_)
      have v2 := v.ext e2 s2
      have hm0 := Int.emod_nonneg (2 + n) (show (10 : Int) ≠ 0 by decide)
      have hm1 := Int.emod_lt_of_pos (2 + n) (show (0 : Int) < 10 by decide)
      refine ⟨_, _, rfl, rfl, _, _, rfl, rfl, (show (0 : Int) < 10 by decide), (2 + n) % 10, rfl, by omega, by omega, for_range (n := ((2 + n) % 10).toNat) (fun i σ' H' => ∃ l0 l1 l2 x5 x6 x7 x8 x9 x10 x11 x12 x13, σ' = Sl sc a (some (.int part)) x5 x6 x7 x8 x9 x10 x11 x12 x13 ∧ IvH K H' a l0 l1 l2) ⟨l0, l1, l2, _, _, _, _, _, _, _, _, _, rfl, v2⟩ ?_ ?_⟩
      · clear v2 s2 e2 n0 n1 v x4 x5 x6 x7 x8 x9 x10 x11 x12 x13
        rintro k0 σ' H3 hk ⟨l0, l1, l2, x5, x6, x7, x8, x9, x10, x11, x12, x13, rfl, v3⟩
        refine ⟨_, rfl, _, rfl, a.S, a.L, _, rfl, (by omega), v3.src, fun wv H4 hw e4 s4 => ?_⟩
        have v4 := v3.ext e4 s4
        clear v3 s4 e4
        -- an earlier word
        refine ⟨fun σ' H' => ∃ wv x5, σ' = Sl sc a (some (.int part)) x5 (some wv) x7 x8 x9 x10 x11 x12 x13 ∧ Wv H' wv ∧ IvH K H' a l0 l1 l2, ?_, ?_⟩
        · refine ⟨_, rfl, _, rfl, a.R, _, part, .ref (a.r part), rfl, rfl, (v4.atR hpart).1, (v4.atR hpart).2, by show 0 ≤ sizeLine; decide, fun e he => ?_⟩
          have e5 : Ext [] H4 (upd H4 e (.lst [])) := Ext.new he
          have v5 := v4.grow e5
          refine ⟨.list _, .list [], (v5.row part).dp, .lst (SqL.of upd_same) .nil, sh_row (v5.rowO part), by decide +kernel, _, rfl, ?_⟩
          refine ifb (fun hb => ?_) (fun _ => iteF ⟨_, _, rfl, hw.ext e5, v5⟩)
          refine draw_ex (i := 1) rfl v5.src (by decide) (by decide) val_c (fun n H6 n0 n1 e6 s6 => ⟨rfl, _, rfl, ?_⟩)
          have v6 := v5.ext e6 s6
          refine ifb (fun _ => ?_) (fun _ => ⟨_, _, rfl, (hw.ext e5).ext e6, v6⟩)
          have hpos : 0 < (rowL part l0 l1 l2).length := by
            rcases hx : rowL part l0 l1 l2 with _ | ⟨q, r⟩
            · rw [hx] at hb
              exact absurd hb (by decide +kernel)
            · simp
          have hle := v6.rowN part
          obtain ⟨xs, hxs, hxl⟩ := row_len (v6.row part)
          refine ⟨_, rfl, _, rfl, a.R, _, part, .ref (a.r part), rfl, rfl, (v6.atR hpart).1, (v6.atR hpart).2, ?_⟩
          refine draw_ex (i := 1) (many := (xs.length : Int)) rfl v6.src (by omega) (Int.lt_of_le_of_lt (show (xs.length : Int) ≤ 8 by omega) (by decide)) (val_len (val_ixL (val_var rfl) (val_var rfl) (v6.atR hpart).1 (v6.atR hpart).2) (SqL.of hxs)) (fun n H7 n0 n1 e7 s7 => ?_)
          have v7 := v6.ext e7 s7
          obtain ⟨as, t, q, hr1, hat, hq, hT⟩ := row_at (v7.row part) n0 (show n < ((rowL part l0 l1 l2).length : Int) by omega)
          exact ⟨_, _, n, _, rfl, rfl, SqL.of hr1, hat, t, _, 0, _, rfl, rfl, .inl (.inl hT), rfl, _, _, rfl, .str (v7.rowO part q hq).1.1 (by have := (v7.rowO part q hq).1.2; omega), v7⟩
        clear v4 hw H4
        rintro σ4 H5 ⟨wv, x5, rfl, hw, v5⟩
        refine ⟨by show 3 ≤ sizeLine; decide, fun g hg => ?_⟩
        have e6 : Ext [] H5 (upd H5 g (.lst [.str "loose", .str "unsure", .str "fast"])) := Ext.new hg
        have v6 := v5.grow e6
        have hw6 := hw.ext e6
        have g6 : upd H5 g (.lst [.str "loose", .str "unsure", .str "fast"]) g = some (.lst [.str "loose", .str "unsure", .str "fast"]) := upd_same
        clear v5 hw
        refine sq_set val_c ?_
        -- what is given to a kind
        refine ⟨fun σ' H' => ∃ g gs gv d, σ' = Sl sc a (some (.int part)) x5 (some wv) (some (.ref g)) (some gv) x9 x10 x11 x12 x13 ∧ Wv H' wv ∧ IvH K H' a l0 l1 l2 ∧ H' g = some (.lst (gs.map V.str)) ∧ (∀ z ∈ gs, okS z) ∧ (∀ d, anyD gs d = holdD d) ∧ Im H' gv d ∧ okD d ∧ shortV gv ∧ (part = 1 → gv = .str ⟨#[]⟩), ?_, ?_⟩
        · refine st_if (ans_eq (val_var rfl) val_c rfl rfl) (fun hb => ?_) (fun _ => ⟨g, ["loose", "unsure", "fast"], _, .str ⟨#[]⟩, rfl, hw6, v6, g6, (by decide +kernel), any3, .str _, okD.str (by decide +kernel), (by show 0 ≤ 1000; decide), fun _ => rfl⟩)
          have hp0 : part = 0 := by simpa using hb
          refine ⟨_, rfl, _, rfl, g, g, _, _, rfl, rfl, g6, g6, by show 6 ≤ sizeLine; decide, fun g2 hg2 => ?_⟩
          refine ⟨_, rfl, by show 1 ≤ sizeLine; decide, fun t ht => ⟨by show 7 ≤ sizeLine; decide, fun l hl => ?_⟩⟩
          have ea := Ext.new (ms := []) (o := .lst [.str "loose", .str "unsure", .str "fast", .str "loose", .str "unsure", .str "fast"]) hg2
          have eb := Ext.new (ms := []) (o := .tup [.str "fast"]) ht
          have ec := Ext.new (ms := []) (o := .lst [.str "firm", .non, .str "Loose", .str ⟨#[]⟩, .str "fast ", .ref t, .int 7]) hl
          have hg2' := ec.keep _ _ (eb.keep _ _ upd_same (by simp)) (by simp)
          refine ⟨g2, l, _, _, rfl, rfl, hg2', upd_same, by show 13 ≤ sizeLine; decide, fun m hm => ?_⟩
          have ed := Ext.new (ms := []) (o := .lst [.str "loose", .str "unsure", .str "fast", .str "loose", .str "unsure", .str "fast", .str "firm", .non, .str "Loose", .str ⟨#[]⟩, .str "fast ", .ref t, .int 7]) hm
          have e10 := ea.trans (eb.trans (ec.trans ed))
          have v10 := v6.grow e10
          refine draw_ex (i := 1) rfl v10.src (by decide) (by decide) val_c (fun n H7 n0 n1 e7 s7 => ?_)
          have v7 := v10.ext e7 s7
          have hm7 := e7.keep _ _ upd_same (show m ∉ [a.S] by simp only [List.mem_singleton]; exact src_ne_new (v6.grow (ea.trans (eb.trans ec))).src hm)
          have hg7 := e7.keep _ _ (ed.keep _ _ hg2' (by simp)) (show g2 ∉ [a.S] by simp only [List.mem_singleton]; exact src_ne_new v6.src hg2)
          have ht7 := e7.tups _ _ (ed.tups _ _ (ec.tups _ _ upd_same))
          obtain ⟨x, hx, hxm⟩ := atI_some (xs := [V.str "loose", .str "unsure", .str "fast", .str "loose", .str "unsure", .str "fast", .str "firm", .non, .str "Loose", .str ⟨#[]⟩, .str "fast ", .ref t, .int 7]) n0 n1
          have hw7 : Wv H7 x := by
            simp only [List.mem_cons, List.not_mem_nil, or_false] at hxm
            rcases hxm with rfl | rfl | rfl | rfl | rfl | rfl | rfl | rfl | rfl | rfl | rfl | rfl | rfl
            all_goals first | exact .str (by decide +kernel) (by decide +kernel) | exact .non | exact .int | exact .tup1 (by decide +kernel) ht7
          obtain ⟨d, q1, q2, q3⟩ := hw7
          exact ⟨m, _, n, x, rfl, rfl, SqL.of hm7, hx, g2, ["loose", "unsure", "fast", "loose", "unsure", "fast"], x, d, rfl, (hw6.ext e10).ext e7, v7, hg7, (by decide +kernel), any6, q1, q2, q3, fun z => absurd z (by omega)⟩
        clear v6 hw6 g6 e6
        rintro σ5 H6 ⟨g, gs, gv, d, rfl, hw, v, hg, hgs, hga, hgv, okg, shg, hg1⟩
        refine sq_asg ?_
        refine rd_names (l := l0) (by show 15 < 17; decide) (val_ixL (val_var rfl) val_c (SqL.of v.R) rfl) v.w0 (by have := v.n0; omega) (fun so H7 hso e7 hs7 => ?_)
        have hs7 : H7 so = some (.lst ((l0.map (·.1)).map V.str)) := by rw [hs7, List.map_map]; rfl
        have hsS : so ≠ a.S := src_ne_new v.src hso
        have hgS : g ≠ a.S := by
          rintro rfl
          obtain ⟨cells, i, k, g', hs, _⟩ := v.src
          rw [hg] at hs
          cases gs <;> cases hs
        replace v := v.grow e7
        replace hw := hw.ext e7
        replace hg := e7.keep _ _ hg (by simp)
        replace hgv := hgv.ext e7
        clear hso
        have hsO : ∀ z ∈ l0.map (·.1), okN z := by
          intro z hz
          obtain ⟨q, hq, rfl⟩ := List.mem_map.mp hz
          exact (v.o0 q hq).1
        -- what is given to a cloth
        refine ⟨fun σ' H' => ∃ gv d x10, σ' = Sl sc a (some (.int part)) x5 (some wv) (some (.ref g)) (some gv) (some (.ref so)) x10 x11 x12 x13 ∧ Wv H' wv ∧ IvH K H' a l0 l1 l2 ∧ H' g = some (.lst (gs.map V.str)) ∧ H' so = some (.lst ((l0.map (·.1)).map V.str)) ∧ Im H' gv d ∧ okD d ∧ shortV gv ∧ (part = 1 → gv = .str ⟨#[]⟩), ?_, ?_⟩
        · refine st_if (ans_eq (val_var rfl) val_c rfl rfl) (fun hb => ?_) (fun _ => ⟨gv, d, _, rfl, hw, v, hg, hs7, hgv, okg, shg, hg1⟩)
          have hp2 : part = 2 := by simpa using hb
          have hn8 : (l0.map (·.1)).length ≤ 8 := by rw [List.length_map]; exact v.n0
          have nS := Nr.strs hs7 hn8 hsO
          have hsl := sum_le hsO
          have hsum : ((l0.map (·.1)).map (·.length)).sum + (l0.map (·.1)).length * (⟨#[]⟩ : Str).length ≤ 96 := by
            have : (⟨#[]⟩ : Str).length = 0 := rfl
            rw [this]
            omega
          have hJ : (Txt.join ⟨#[]⟩ (l0.map (·.1))).length ≤ 96 := by
            rw [TL.join_eq]
            exact Nat.le_trans len_join hsum
          have hJo : okS (Txt.join ⟨#[]⟩ (l0.map (·.1))) := by
            rw [TL.join_eq]
            exact okS_join (by decide +kernel) fun z hz => (hsO z hz).1
          have hzz : ("zz" : Str).length = 2 := by decide +kernel
          refine ⟨⟨_, rfl⟩, _, rfl, ⟨#[]⟩, so, l0.map (·.1), rfl, rfl, .inl (SqL.of hs7), Nat.le_trans hsum (by decide), _, _, rfl, rfl, Evl.sz_of (by rw [hzz]; omega), by show 6 ≤ sizeLine; decide, fun n1 hn1 => ?_⟩
          have e8 := Ext.new (ms := []) (o := .lst [.str ⟨#[]⟩, .str (("zz" : Str) ++ Txt.join ⟨#[]⟩ (l0.map (·.1))), .non, .int 7, .bl true, .str "A"]) hn1
          have N1 : Nr (upd H7 n1 (.lst [.str ⟨#[]⟩, .str (("zz" : Str) ++ Txt.join ⟨#[]⟩ (l0.map (·.1))), .non, .int 7, .bl true, .str "A"])) n1 [.str ⟨#[]⟩, .str (("zz" : Str) ++ Txt.join ⟨#[]⟩ (l0.map (·.1))), .non, .int 7, .bl true, .str "A"] 6 := ⟨upd_same, by show 6 ≤ 6; decide, fun y hy => by
            simp only [List.mem_cons, List.not_mem_nil, or_false] at hy
            rcases hy with rfl | rfl | rfl | rfl | rfl | rfl
            · exact .str (by decide +kernel) (by decide +kernel)
            · exact .str (okS_append (by decide +kernel) hJo) (by rw [len_append, hzz]; omega)
            · exact .non
            · exact .int
            · exact .bl
            · exact .str (by decide +kernel) (by decide +kernel)⟩
          -- with a blank
          refine ⟨_, rfl, ?_⟩
          show tLc (iList K (tVar 9)) (gName 16) tYes _ [16] _ _ _
          have hl0 := hn8
          have hb1 : (" " : Str).length = 1 := by decide +kernel
          refine rd_wv (zs := l0.map (·.1)) (val_var rfl) (e8.keep _ _ hs7 (by simp)) (by omega) (fun z hz Hx Q' _ k => ⟨_, rfl, z, " ", rfl, rfl, Evl.sz_of (by have := (hsO z hz).2; omega), k _ _ (.str (okS_append (hsO z hz).1 (by decide +kernel)) (by have := (hsO z hz).2; rw [len_append]; omega)) Ext.refl⟩) (fun D1 H9 ys2 hD1 e9 h9 hl9 hw9 => ?_)
          refine Nr.cat (N1.grow e9) (k := 6) (j := 8) ⟨h9, by omega, hw9⟩ (by decide) fun n2 H10 hn2 e10 N2 => ?_
          -- the pots
          have e710 := e8.trans (e9.trans e10)
          have v10 := v.grow e710
          refine ⟨_, rfl, ?_⟩
          show tLc (iList K _) (gName 15) tYes _ [15] _ _ _
          refine rd_names (l := l1.map fun z => (z, (⟨#[]⟩ : Str))) (by show 15 < 17; decide) (val_ixL (val_var rfl) val_c (SqL.of v10.R) rfl) v10.w1 (by have := v10.n1; rw [List.length_map]; omega) (fun D2 H11 hD2 e11 h11 => ?_)
          have N3 : Nr H11 D2 (l1.map V.str) 8 := Nr.strs (by rw [h11, List.map_map]; rfl) v10.n1 v10.o1
          refine Nr.cat (N2.grow e11) N3 (by decide) fun n3 H12 hn3 e12 N4 => ?_
          -- all of them
          have e712 := e710.trans (e11.trans e12)
          have nS12 := nS.grow e712
          refine ⟨_, rfl, _, rfl, Nr.cat nS12 nS12 (by decide) fun m1 H13 hm1 e13 M1 => ⟨_, rfl, Nr.cat M1 (N4.grow e13) (by decide) fun m2 H14 hm2 e14 M2 => ?_⟩⟩
          have e714 := e712.trans (e13.trans e14)
          show tLc (iList K (tVar 9)) (gName 16) tYes _ [16] _ _ _
          refine rd_wv (zs := l0.map (·.1)) (val_var rfl) (e714.keep _ _ hs7 (by simp)) (by omega) (fun z hz Hx Q' _ k => ⟨_, rfl, by show 1 ≤ sizeLine; decide, fun t ht => k _ _ (.tup1 (hsO z hz).1 upd_same) (Ext.new ht)⟩) (fun D3 H15 ys5 hD3 e15 h15 hl15 hw15 => ?_)
          refine Nr.cat (M2.grow e15) (j := 8) ⟨h15, by omega, hw15⟩ (by decide) fun nr H16 hnr e16 NR => ?_
          have e716 := e714.trans (e15.trans e16)
          have v16 := v.grow e716
          have nrS : nr ≠ a.S := src_ne_new (v16.src.ext Ext.refl |> fun _ => (v.grow (e714.trans e15)).src) hnr
          refine ⟨_, rfl, ?_⟩
          have hpos : (6 : Int) ≤ (List.length (((l0.map (·.1)).map V.str ++ (l0.map (·.1)).map V.str ++ ([V.str ⟨#[]⟩, .str (("zz" : Str) ++ Txt.join ⟨#[]⟩ (l0.map (·.1))), .non, .int 7, .bl true, .str "A"] ++ ys2 ++ l1.map V.str)) ++ ys5) : Nat) := by
            simp only [List.length_append, List.length_cons, List.length_nil]
            omega
          have hle := NR.2.1
          refine draw_ex (i := 1) rfl v16.src (Int.lt_of_lt_of_le (by decide) hpos) (Int.lt_of_le_of_lt (Int.ofNat_le.mpr hle) (by decide)) (val_len (val_var rfl) (SqL.of NR.1)) (fun n H17 n0 n1 e17 s17 => ?_)
          have v17 := v16.ext e17 s17
          have NR' := NR.ext e17 (by simp only [List.mem_singleton]; exact nrS)
          obtain ⟨x, hx, hxm⟩ := atI_some n0 n1
          obtain ⟨dx', q1, q2, q3⟩ := NR'.2.2 x hxm
          refine ⟨nr, _, n, x, rfl, rfl, SqL.of NR'.1, hx, x, dx', _, rfl, (hw.ext e716).ext e17, v17, e17.keep _ _ (e716.keep _ _ hg (by simp)) (by simp only [List.mem_singleton]; exact hgS), e17.keep _ _ (e716.keep _ _ hs7 (by simp)) (by simp only [List.mem_singleton]; exact hsS), q1, q2, q3, fun z => absurd z (by omega)⟩
        clear v hw hg hs7 hgv okg shg hg1
        rintro σ6 H8 ⟨gv, d, x10, rfl, hw, v, hg, hso, hgv, okg, shg, hg1⟩
        refine sq_asg ?_
        refine rd_names (l := rowL part l0 l1 l2) (by show 15 < 17; decide) (val_ixL (val_var rfl) (val_var rfl) (v.atR hpart).1 (v.atR hpart).2) (v.row part) (by have := v.rowN part; omega) (fun kn H9 hkn e9 hk9 => ?_)
        refine ⟨_, rfl, by show 1 ≤ sizeLine; decide, fun o1 ho1 => ⟨_, rfl, by show 3 ≤ sizeLine; decide, fun q1 hq1 => ?_⟩⟩
        have e10 := Ext.new (ms := []) (o := .lst [.str ""]) ho1
        have e11 := Ext.new (ms := []) (o := .lst [.ref g, .ref o1, .ref so]) hq1
        have e8 := e9.trans (e10.trans e11)
        obtain ⟨o, os, lab, hat, hos, hoo, hlab, hdq⟩ : ∃ (o : Addr) (os : List Str) (lab : Str), atI [V.ref g, .ref o1, .ref so] part = some (.ref o) ∧ upd (upd H9 o1 (.lst [.str ""])) q1 (.lst [.ref g, .ref o1, .ref so]) o = some (.lst (os.map V.str)) ∧ (∀ z ∈ os, okS z) ∧
            atI [V.str "hold", .str "", .str "unknown"] part = some (.str lab) ∧ dueOf ((rowL part l0 l1 l2).map (·.1)) wv gv (anyD os d) lab = (refAll part (l0.map tv) l1 (l2.map tv) wv gv (holdD d)).map fun p => (lbl p.1, p.2) := by
          rcases hpart with rfl | rfl | rfl
          · exact ⟨g, gs, "hold", rfl, e8.keep _ _ hg (by simp), hgs, rfl, by rw [hga]; exact due0 v.n0⟩
          · obtain rfl := hg1 rfl
            cases hgv
            refine ⟨o1, [""], "", rfl, e11.keep _ _ upd_same (by simp), by decide +kernel, rfl, ?_⟩
            rw [show anyD [""] (.str ⟨#[]⟩) = true by decide +kernel]
            show dueOf ((l1.map fun z => (z, (⟨#[]⟩ : Str))).map (·.1)) _ _ _ _ = _
            rw [row_names]
            exact due1 v.n1
          · refine ⟨so, l0.map (·.1), "unknown", rfl, e8.keep _ _ hso (by simp), fun z hz => (hsO z hz).1, rfl, ?_⟩
            show dueOf (l2.map (·.1)) wv gv (anyD (l0.map (·.1)) d) "unknown" = (refC (l2.map tv) (l0.map tv) wv gv).map fun p => (lbl p.1, p.2)
            exact due2 hgv v.n2
        refine ⟨_, rfl, q1, _, part, .ref o, rfl, rfl, SqL.of upd_same, hat, ?_⟩
        refine ⟨_, rfl, _, rfl, _, rfl, _, rfl, by show 3 ≤ sizeLine; decide, fun q3 hq3 => ⟨_, rfl, q3, _, part, .str lab, rfl, rfl, SqL.of upd_same, hlab, ?_⟩⟩
        have e12 := Ext.new (ms := []) (o := .lst [.str "hold", .str "", .str "unknown"]) hq3
        have e812 := e8.trans e12
        have hk12 := e12.keep _ _ ((e10.trans e11).keep _ _ (show H9 kn = some (.lst (((rowL part l0 l1 l2).map (·.1)).map V.str)) by rw [hk9, List.map_map]; rfl) (by simp)) (by simp)
        have v12 := v.grow e812
        have len0 : (l0.map tv).length ≤ 1000 := by have := v.n0; rw [List.length_map]; omega
        have len2 : (l2.map tv).length ≤ 1000 := by have := v.n2; rw [List.length_map]; omega
        refine ⟨kn, _, wv, gv, d, o, os, lab, rfl, hk12, hw.ext e812, hgv.ext e812, okg, e12.keep _ _ hos (by simp), hoo, fun l t hdue dr H13 hdr e13 hh => ?_, fun hdue H13 e13 => ?_⟩
        · rw [hdq] at hdue
          obtain ⟨⟨c, t'⟩, hc, he⟩ := Option.map_eq_some_iff.mp hdue
          cases he
          have e813 := e812.trans e13
          have v13 := v.grow e813
          obtain ⟨dt, imt, okt⟩ : ∃ dt, Im H8 t' dt ∧ okD dt := by
            rcases refAll_t hc with rfl | rfl | rfl
            · obtain ⟨dt, x1, x2, _⟩ := hw
              exact ⟨dt, x1, x2⟩
            · exact ⟨d, hgv, okg⟩
            · exact ⟨_, .int 8, okD.int⟩
          refine ⟨_, rfl, _, rfl, _, rfl, _, rfl, a.p, part, wv, gv, d, 24, a.A, _, _, _, _, _, _, rfl, hpart, hw.ext e813, hgv.ext e813, okg, shg, v13.bk, len0, (by have := v.n1; omega), len2, fun c2 t2 hc2 ad H14 had e14 hh2 => ?_, fun hn => ?_⟩
          · obtain ⟨rfl, rfl⟩ : c2 = c ∧ t2 = t' := by
              rw [hc] at hc2
              cases hc2
              exact ⟨rfl, rfl⟩
            have sh : SeqAt.shaped (.list [.str (lbl c2), dt, .bool false]) = true := shapedL (n := 8) (by
              intro x hx
              simp only [List.mem_cons, List.not_mem_nil, or_false] at hx
              rcases hx with rfl | rfl | rfl
              · exact ⟨(okD.str (lbl_ok c2)).1, by simp [PyData.depth]⟩
              · exact okt
              · exact ⟨okD.bool.1, by simp [PyData.depth]⟩) (by decide)
            refine ⟨_, rfl, cmpNe _ _ _ (.list [.str (lbl c2), dt, .bool false]) _ (.lst (SqL.of hh2) (.cons (.str _) (.cons ((imt.ext e813).ext e14).dp (.cons (.bl _) .nil)))) (.lst (SqL.of (e14.keep _ _ hh (by simp))) (.cons (.str _) (.cons ((imt.ext e813).ext e14).dp (.cons (.bl _) .nil)))) sh ⟨_, rfl, ?_⟩⟩
            refine iteF ?_
            refine ⟨(fun σ' H' => ∃ l0 l1 l2 x5 x6 x7 x8 x9 x10 x11 x12 x13, σ' = Sl sc a (some (.int part)) x5 x6 x7 x8 x9 x10 x11 x12 x13 ∧ IvH K H' a l0 l1 l2), ?_, ?_⟩
            · refine ⟨_, rfl, rfl, _, rfl, ?_⟩
              exact ifd (fun h => by cases h) (fun _ => ⟨_, _, _, _, _, _, _, _, _, _, _, _, rfl, v13.grow e14⟩)
            · rintro σ7 H15 ⟨l0, l1, l2, x5, x6, x7, x8, x9, x10, x11, x12, x13, rfl, v⟩
              refine cmp_kinds (i := 2) (j := 3) cmpNe v rfl rfl fun H1 e1 => ⟨_, rfl, iteF ?_⟩
              refine cmp_pots (i := 2) (j := 3) (k := 15) cmpNe (v.grow e1) rfl rfl (by show 15 < 17; decide) fun H2 e2 => ⟨_, rfl, iteF ?_⟩
              refine cmp_cloths (i := 2) (j := 3) cmpNe ((v.grow e1).grow e2) rfl rfl fun H3 e3 => ⟨_, rfl, iteF ?_⟩
              exact ⟨_, _, _, _, _, _, _, _, _, _, _, _, rfl, ((v.grow e1).grow e2).grow e3⟩
          · rw [hn] at hc
            cases hc
        · rw [hdq] at hdue
          have hno := Option.map_eq_none_iff.mp hdue
          have e813 := e812.trans e13
          have v13 := v.grow e813
          refine ⟨_, rfl, _, rfl, _, rfl, _, rfl, a.p, part, wv, gv, d, 24, a.A, _, _, _, _, _, _, rfl, hpart, hw.ext e813, hgv.ext e813, okg, shg, v13.bk, len0, (by have := v.n1; omega), len2, (fun c2 t2 hc2 => by rw [hno] at hc2; cases hc2), fun _ => ⟨fun hp H14 e14 B14 => ?_, fun hp H14 e14 B14 => ?_, fun hp H14 e14 B14 => ?_⟩⟩
          · subst hp
            refine ⟨_, rfl, cmpNe _ _ _ .none _ .non .non (by decide +kernel) ⟨_, rfl, iteF ?_⟩⟩
            refine ⟨(fun σ' H' => ∃ l0 l1 l2 x5 x6 x7 x8 x9 x10 x11 x12 x13, σ' = Sl sc a (some (.int 0)) x5 x6 x7 x8 x9 x10 x11 x12 x13 ∧ IvH K H' a l0 l1 l2), ?_, ?_⟩
            · refine ⟨_, rfl, rfl, _, rfl, ?_⟩
              refine ifd (fun _ => ?_) (fun h => absurd rfl h)
              obtain ⟨z, rfl, hnz, ho, h8⟩ := refK_none (show refK (l0.map tv) wv gv (holdD d) = none from hno)
              obtain ⟨y, rfl, hy⟩ := hold_ok hgv ho
              rw [List.length_map] at h8
              obtain ⟨hR, xs, hx, hxl⟩ := v13.after e14 (.inl rfl) 0
              replace hx : H14 a.r0 = some (.lst xs) := hx
              exact ⟨_, rfl, _, rfl, a.R, _, 0, .ref a.r0, rfl, rfl, SqL.of hR, rfl, .inl ⟨rfl, _, SqL.of hx⟩, _, rfl, _, rfl, by show 2 ≤ sizeLine; decide, fun t ht => ⟨_, xs, _, rfl, rfl, (by rw [upd_ne (ne_of_none hx ht)]; exact hx), Evl.sz_lt (by omega), _, _, _, _, _, _, _, _, _, _, _, _, rfl, v13.push0 e14 B14 (nm_ok hw hnz) hy h8 hx ht⟩⟩
            · rintro σ7 H15 ⟨l0, l1, l2, x5, x6, x7, x8, x9, x10, x11, x12, x13, rfl, v⟩
              refine cmp_kinds (i := 2) (j := 3) cmpNe v rfl rfl fun H1 e1 => ⟨_, rfl, iteF ?_⟩
              refine cmp_pots (i := 2) (j := 3) (k := 15) cmpNe (v.grow e1) rfl rfl (by show 15 < 17; decide) fun H2 e2 => ⟨_, rfl, iteF ?_⟩
              refine cmp_cloths (i := 2) (j := 3) cmpNe ((v.grow e1).grow e2) rfl rfl fun H3 e3 => ⟨_, rfl, iteF ?_⟩
              exact ⟨_, _, _, _, _, _, _, _, _, _, _, _, rfl, ((v.grow e1).grow e2).grow e3⟩
          · subst hp
            refine ⟨_, rfl, cmpNe _ _ _ .none _ .non .non (by decide +kernel) ⟨_, rfl, iteF ?_⟩⟩
            refine ⟨(fun σ' H' => ∃ l0 l1 l2 x5 x6 x7 x8 x9 x10 x11 x12 x13, σ' = Sl sc a (some (.int 1)) x5 x6 x7 x8 x9 x10 x11 x12 x13 ∧ IvH K H' a l0 l1 l2), ?_, ?_⟩
            · refine ⟨_, rfl, rfl, _, rfl, ?_⟩
              refine ifd (fun _ => ?_) (fun h => absurd rfl h)
              obtain ⟨z, rfl, hnz, h8⟩ := refP_none (show refP l1 wv = none from hno)
              obtain rfl := hg1 rfl
              obtain ⟨hR, xs, hx, hxl⟩ := v13.after e14 (.inr (.inl rfl)) 1
              replace hx : H14 a.r1 = some (.lst xs) := hx
              exact ⟨_, rfl, _, rfl, a.R, _, 1, .ref a.r1, rfl, rfl, SqL.of hR, rfl, .inl ⟨rfl, _, SqL.of hx⟩, _, rfl, _, rfl, by show 2 ≤ sizeLine; decide, fun t ht => ⟨_, xs, _, rfl, rfl, (by rw [upd_ne (ne_of_none hx ht)]; exact hx), Evl.sz_lt (by omega), _, _, _, _, _, _, _, _, _, _, _, _, rfl, v13.push1 e14 B14 (nm_ok hw hnz) h8 hx ht⟩⟩
            · rintro σ7 H15 ⟨l0, l1, l2, x5, x6, x7, x8, x9, x10, x11, x12, x13, rfl, v⟩
              refine cmp_kinds (i := 2) (j := 3) cmpNe v rfl rfl fun H1 e1 => ⟨_, rfl, iteF ?_⟩
              refine cmp_pots (i := 2) (j := 3) (k := 15) cmpNe (v.grow e1) rfl rfl (by show 15 < 17; decide) fun H2 e2 => ⟨_, rfl, iteF ?_⟩
              refine cmp_cloths (i := 2) (j := 3) cmpNe ((v.grow e1).grow e2) rfl rfl fun H3 e3 => ⟨_, rfl, iteF ?_⟩
              exact ⟨_, _, _, _, _, _, _, _, _, _, _, _, rfl, ((v.grow e1).grow e2).grow e3⟩
          · subst hp
            refine ⟨_, rfl, cmpNe _ _ _ .none _ .non .non (by decide +kernel) ⟨_, rfl, iteF ?_⟩⟩
            refine ⟨(fun σ' H' => ∃ l0 l1 l2 x5 x6 x7 x8 x9 x10 x11 x12 x13, σ' = Sl sc a (some (.int 2)) x5 x6 x7 x8 x9 x10 x11 x12 x13 ∧ IvH K H' a l0 l1 l2), ?_, ?_⟩
            · refine ⟨_, rfl, rfl, _, rfl, ?_⟩
              refine ifd (fun _ => ?_) (fun h => absurd rfl h)
              obtain ⟨z, y, rfl, hnz, rfl, hym, h8⟩ := refC_none (show refC (l2.map tv) (l0.map tv) wv gv = none from hno)
              rw [List.length_map] at h8
              obtain ⟨hR, xs, hx, hxl⟩ := v13.after e14 (.inr (.inr rfl)) 2
              replace hx : H14 a.r2 = some (.lst xs) := hx
              exact ⟨_, rfl, _, rfl, a.R, _, 2, .ref a.r2, rfl, rfl, SqL.of hR, rfl, .inl ⟨rfl, _, SqL.of hx⟩, _, rfl, _, rfl, by show 2 ≤ sizeLine; decide, fun t ht => ⟨_, xs, _, rfl, rfl, (by rw [upd_ne (ne_of_none hx ht)]; exact hx), Evl.sz_lt (by omega), _, _, _, _, _, _, _, _, _, _, _, _, rfl, v13.push2 e14 B14 (nm_ok hw hnz) (hsO y (mem_tv.mp hym)) h8 hx ht⟩⟩
            · rintro σ7 H15 ⟨l0, l1, l2, x5, x6, x7, x8, x9, x10, x11, x12, x13, rfl, v⟩
              refine cmp_kinds (i := 2) (j := 3) cmpNe v rfl rfl fun H1 e1 => ⟨_, rfl, iteF ?_⟩
              refine cmp_pots (i := 2) (j := 3) (k := 15) cmpNe (v.grow e1) rfl rfl (by show 15 < 17; decide) fun H2 e2 => ⟨_, rfl, iteF ?_⟩
              refine cmp_cloths (i := 2) (j := 3) cmpNe ((v.grow e1).grow e2) rfl rfl fun H3 e3 => ⟨_, rfl, iteF ?_⟩
              exact ⟨_, _, _, _, _, _, _, _, _, _, _, _, rfl, ((v.grow e1).grow e2).grow e3⟩
      · rintro σ' H' ⟨l0, l1, l2, x5, x6, x7, x8, x9, x10, x11, x12, x13, rfl, v⟩
        exact ⟨_, _, _, _, _, _, _, _, _, _, _, _, _, rfl, v⟩
    · rintro σ' H0 ⟨l0, l1, l2, x4, x5, x6, x7, x8, x9, x10, x11, x12, x13, rfl, v⟩
      refine rd_kinds (i := 2) v rfl fun ka H1 hka e1 _ ⟨xk, hk1, hk2⟩ => rd_pots (i := 2) (v.grow e1) rfl fun pa H2 hpa e2 hp1 => rd_cloths (i := 2) ((v.grow e1).grow e2) rfl fun ca H3 hca e3 _ ⟨xc, hc1, hc2⟩ => ⟨by show 3 ≤ sizeLine; decide, fun l hl => ?_⟩
      have hk3 := e3.keep _ _ (e2.keep _ _ hk1 (by simp)) (by simp)
      have hp3 := e3.keep _ _ hp1 (by simp)
      have e03 := e1.trans (e2.trans e3)
      have fk : H0 ka = none := hka
      have fp : H0 pa = none := e1.none hpa (by simp)
      have fc : H0 ca = none := (e1.trans e2).none hca (by simp)
      have lk : l ≠ ka := (ne_of_none hk3 hl).symm
      have lp : l ≠ pa := (ne_of_none hp3 hl).symm
      have lc : l ≠ ca := (ne_of_none hc1 hl).symm
      have l1n := v.n1
      refine ⟨l, rfl, ⟨_, SqL.of upd_same⟩, for_list (xs := [.ref ka, .ref pa, .ref ca]) (fun i σ' H' => ∃ x14, σ' = [some (.ref sc), some (.ref a.S), some (.ref a.p), some (.ref a.R), x4, x5, x6, x7, x8, x9, x10, x11, x12, x13, x14, none, none] ∧ Ext [] H0 H' ∧ H' l = some (.lst [.ref ka, .ref pa, .ref ca]) ∧
        ∀ b ∈ [ka, pa, ca], ∃ xs, H' b = some (.lst xs) ∧ xs.length ≤ 8 + i) ⟨none, rfl, e03.trans (Ext.new hl), upd_same, ?_⟩ ?_ ?_ ?_⟩
      · intro b hb
        simp only [List.mem_cons, List.not_mem_nil, or_false] at hb
        rcases hb with rfl | rfl | rfl
        · exact ⟨xk, by rw [upd_ne lk.symm]; exact hk3, by omega⟩
        · exact ⟨_, by rw [upd_ne lp.symm]; exact hp3, by rw [List.length_map]; omega⟩
        · exact ⟨xc, by rw [upd_ne lc.symm]; exact hc1, by omega⟩
      · rintro i σ' H' _ ⟨x14, rfl, _, h, _⟩
        exact SqL.of h
      · rintro i x σ' H' hx ⟨x14, rfl, e, hl', hb⟩
        have hi : i < 3 := (List.getElem?_eq_some_iff.mp hx).1
        obtain ⟨b, rfl, hbm⟩ : ∃ b, x = .ref b ∧ b ∈ [ka, pa, ca] := by
          have := List.mem_of_getElem? hx
          simp only [List.mem_cons, List.not_mem_nil, or_false] at this
          rcases this with rfl | rfl | rfl
          · exact ⟨_, rfl, by simp⟩
          · exact ⟨_, rfl, by simp⟩
          · exact ⟨_, rfl, by simp⟩
        obtain ⟨xs, hxs, hxl⟩ := hb b hbm
        have fb : H0 b = none ∧ l ≠ b := by
          simp only [List.mem_cons, List.not_mem_nil, or_false] at hbm
          rcases hbm with rfl | rfl | rfl
          · exact ⟨fk, lk⟩
          · exact ⟨fp, lp⟩
          · exact ⟨fc, lc⟩
        refine val_isi (b := true) (val_var rfl) (.base (.lst hxs)) (kit_ty (show kitB "list" "list" = some true by decide +kernel)) _ ⟨true, rfl, ?_⟩
        refine iteF ?_
        refine ⟨_, rfl, .inl ⟨rfl, _, SqL.of hxs⟩, b, xs, _, rfl, rfl, hxs, Evl.sz_lt (by omega), _, rfl, e.fresh fb.1, (by rw [upd_ne fb.2]; exact hl'), fun c hc => ?_⟩
        by_cases h : c = b
        · subst h
          exact ⟨_, upd_same, by rw [List.length_append]; show xs.length + 1 ≤ _; omega⟩
        · obtain ⟨ys, h1, h2⟩ := hb c hc
          exact ⟨ys, by rw [upd_ne h]; exact h1, by omega⟩
      · rintro σ' H' ⟨x14, rfl, e, _, _⟩
        have v' := v.grow e
        refine cmp_kinds (i := 2) (j := 3) cmpEq v' rfl rfl fun H1 e1 => ⟨true, rfl, iteT ?_⟩
        refine cmp_pots (i := 2) (j := 3) (k := 15) cmpEq (v'.grow e1) rfl rfl (by show 15 < 17; decide) fun H2 e2 => ⟨true, rfl, iteT ?_⟩
        exact cmp_cloths (i := 2) (j := 3) cmpEq ((v'.grow e1).grow e2) rfl rfl fun H3 e3 => qOk H3
end

end K6
namespace K6
open PySem PySem.Spec PyProof.Rows L2 He Tp ClX LiI
def d_is_whole : He.DefD := ⟨("is_whole", none), "is_whole", "is_whole", defArgs s_is_whole, defBody s_is_whole, defScope s_is_whole, [], []⟩
def d_check_between : He.DefD := ⟨("check_between", none), "check_between", "check_between", defArgs s_check_between, defBody s_check_between, defScope s_check_between, [], []⟩
def d__is_name : He.DefD := ⟨("_is_name", none), "_is_name", "_is_name", defArgs s__is_name, defBody s__is_name, defScope s__is_name, [], []⟩
def d__check_new : He.DefD := ⟨("_check_new", none), "_check_new", "_check_new", defArgs s__check_new, defBody s__check_new, defScope s__check_new, [], []⟩
def d__check_known : He.DefD := ⟨("_check_known", none), "_check_known", "_check_known", defArgs s__check_known, defBody s__check_known, defScope s__check_known, [], []⟩
def d__check_room : He.DefD := ⟨("_check_room", none), "_check_room", "_check_room", defArgs s__check_room, defBody s__check_room, defScope s__check_room, [], []⟩
def d__law_source : He.DefD := ⟨("_law_source", none), "_law_source", "_law_source", defArgs s__law_source, defBody s__law_source, defScope s__law_source, [], []⟩
def d__law_draw : He.DefD := ⟨("_law_draw", none), "_law_draw", "_law_draw", defArgs s__law_draw, defBody s__law_draw, defScope s__law_draw, [], []⟩
def d__law_word : He.DefD := ⟨("_law_word", none), "_law_word", "_law_word", defArgs s__law_word, defBody s__law_word, defScope s__law_word, [], []⟩
def d__law_name : He.DefD := ⟨("_law_name", none), "_law_name", "_law_name", defArgs s__law_name, defBody s__law_name, defScope s__law_name, [], []⟩
def d__law_word_drawn : He.DefD := ⟨("_law_word_drawn", none), "_law_word_drawn", "_law_word_drawn", defArgs s__law_word_drawn, defBody s__law_word_drawn, defScope s__law_word_drawn, [], []⟩
def d__law_refusal : He.DefD := ⟨("_law_refusal", none), "_law_refusal", "_law_refusal", defArgs s__law_refusal, defBody s__law_refusal, defScope s__law_refusal, [], []⟩
def d__law_alone : He.DefD := ⟨("_law_alone", none), "_law_alone", "_law_alone", defArgs s__law_alone, defBody s__law_alone, defScope s__law_alone, [], []⟩
def d__law_add : He.DefD := ⟨("_law_add", none), "_law_add", "_law_add", defArgs s__law_add, defBody s__law_add, defScope s__law_add, [], []⟩
def d_DyeError___init__ : He.DefD := ⟨("DyeError", some "__init__"), "__init__", "DyeError.__init__", defArgs s_DyeError___init__, defBody s_DyeError___init__, defScope s_DyeError___init__, [], []⟩
def d_Book___init__ : He.DefD := ⟨("Book", some "__init__"), "__init__", "Book.__init__", defArgs s_Book___init__, defBody s_Book___init__, defScope s_Book___init__, [], [("bound", .int 24)]⟩
def d_Book_add_kind : He.DefD := ⟨("Book", some "add_kind"), "add_kind", "Book.add_kind", defArgs s_Book_add_kind, defBody s_Book_add_kind, defScope s_Book_add_kind, [], [("hold", .str "unsure")]⟩
def d_Book_add_pot : He.DefD := ⟨("Book", some "add_pot"), "add_pot", "Book.add_pot", defArgs s_Book_add_pot, defBody s_Book_add_pot, defScope s_Book_add_pot, [], []⟩
def d_Book_add_cloth : He.DefD := ⟨("Book", some "add_cloth"), "add_cloth", "Book.add_cloth", defArgs s_Book_add_cloth, defBody s_Book_add_cloth, defScope s_Book_add_cloth, [], []⟩
def d_Book_kinds : He.DefD := ⟨("Book", some "kinds"), "kinds", "Book.kinds", defArgs s_Book_kinds, defBody s_Book_kinds, defScope s_Book_kinds, [], []⟩
def d_Book_pots : He.DefD := ⟨("Book", some "pots"), "pots", "Book.pots", defArgs s_Book_pots, defBody s_Book_pots, defScope s_Book_pots, [], []⟩
def d_Book_cloths : He.DefD := ⟨("Book", some "cloths"), "cloths", "Book.cloths", defArgs s_Book_cloths, defBody s_Book_cloths, defScope s_Book_cloths, [], []⟩
def d_law : He.DefD := ⟨("law", none), "law", "law", defArgs s_law, defBody s_law, defScope s_law, [], []⟩
def fn : List He.DefD := [d_is_whole, d_check_between, d__is_name, d__check_new, d__check_known, d__check_room, d__law_source, d__law_draw, d__law_word, d__law_name, d__law_word_drawn, d__law_refusal, d__law_alone, d__law_add, d_DyeError___init__, d_Book___init__, d_Book_add_kind, d_Book_add_pot, d_Book_add_cloth, d_Book_kinds, d_Book_pots, d_Book_cloths, d_law]
def fa : List He.Fa := [.free "len", .free "abs", .free "int", .free "isinstance", .free "all", .free "range", .free "list", .free "str", .free "ValueError", .free "bool", .glo "is_whole", .glo "check_between", .glo "_is_name", .glo "_check_new", .glo "_check_known", .glo "_check_room", .glo "_law_source", .glo "_law_draw", .glo "_law_word", .glo "_law_name", .glo "_law_word_drawn", .glo "_law_refusal", .glo "_law_alone", .glo "_law_add", .glo "BadName", .glo "BadHold", .glo "BadNumber", .glo "BadAmount", .glo "Known", .glo "Unknown", .glo "Full", .glo "NotSure", .glo "RingOfWishes", .glo "BadLine", .glo "DyeError", .str "LETTERS" "abcdefghijklmnopqrstuvwxyz", .int "LONGEST_NAME" 12, .glo "HOLDS", .glo "Book", .cls "Book", .noat "Book" "_bound", .noat "Book" "_kinds", .noat "Book" "_thirsts", .noat "Book" "_pots", .noat "Book" "_cloths", .noat "Book" "_dips", .noat "Book" "_facts", .mkr "Book", .meth "Book" "add_kind", .meth "Book" "add_pot", .meth "Book" "add_cloth", .meth "Book" "kinds", .meth "Book" "pots", .meth "Book" "cloths", .glo "law"]
def xAll : List Str := ["BadName", "BadHold", "BadNumber", "BadAmount", "Known", "Unknown", "Full", "NotSure", "RingOfWishes", "BadLine", "DyeError"]
def xB (K : PySem.W.Frag) : Bool := (xAll.all fun x => exBB K "DyeError" x) && (He.tupB K "HOLDS" [.str "fast", .str "loose", .str "unsure"] &&
  ((raised.all fun x => exAll.all fun y => decide (PySem.W.kitOne K (.ref (ga K x)) (.ref (ga K y)) = some (x == y))) && ((raised.all fun x => decide (PySem.W.kitOne K (.ref (ga K x)) (.ref (ga K "DyeError")) = some true)) &&
  ((raised.all fun x => decide (PySem.W.kitOne K (.ref (ga K x)) (.type "ValueError") = some true)) && ((raised.all fun x => raised.all fun y => decide (PySem.W.exmOne K (.ref (ga K x)) (.ref (ga K y)) = some (x == y))) &&
  (creadB K (ga K "Book") (.type "type") && (cvalB K (ga K "Book") (.type "type") "NAMES" (.int 8) && cvalB K (ga K "Book") (.type "type") "DIPS" (.int 24))))))))
abbrev R : PySem.W.OpenRow := PySem.W.OpenLaw.row PySem.Challenge.rw_tiredpots_k06_names_of_a_book
abbrev hk : PySem.W.Hook := hookZ 5 fa fn xB
def ob (s : PySem.W.SharedT) : AlZ := obsZ 5 fa fn xB (HandSHeadRun.getT s)
theorem ob_eq (s : PySem.W.SharedT) : ob s = hk.obs s.abs := obsZ_eq (HandSHeadRun.getT_eq s)
theorem run (w : World) : HandSHeadRun.RunEq R (PySem.W.view R.prog [36]) hk ob 6000 ["_wall", "DyeError", "BadName", "BadHold", "BadNumber", "BadAmount", "Known", "Unknown", "Full", "NotSure", "RingOfWishes", "BadLine", "WORDS", "is_whole", "is_amount", "check_between", "HOLDS", "LETTERS", "LONGEST_NAME", "_is_name", "_check_new", "_check_known", "_check_room", "Book", "_law_source", "_law_draw", "_law_word", "_law_name", "_law_word_drawn", "_law_refusal", "_law_alone", "_law_add"] w := by
  intro os
  kernel_rfl
theorem txt {K : PySem.W.Frag} {h : Heap} {mg : Str → Option Value} (X : K.In h) (G : h.Ns mainGlobals mg) (c : He.SaysD fa fn K) (x : xB K = true) : Txt K mg := by
  obtain ⟨x1, x⟩ := ba x
  obtain ⟨hHOLDS, x⟩ := ba x
  obtain ⟨x2, x⟩ := ba x
  obtain ⟨x3, x⟩ := ba x
  obtain ⟨x4, x⟩ := ba x
  obtain ⟨x5, x⟩ := ba x
  obtain ⟨x6, x⟩ := ba x
  obtain ⟨x7, x8⟩ := ba x
  have xb : ∀ y ∈ xAll, ExB K (ga K y) (fI K) := fun y hy => exBB_ok (List.all_eq_true.mp x1 y hy)
  have h_kit : ∀ x ∈ raised, ∀ y ∈ exAll, PySem.W.kitOne K (.ref (ga K x)) (.ref (ga K y)) = some (x == y) := fun x hx y hy => of_decide_eq_true (List.all_eq_true.mp (List.all_eq_true.mp x2 x hx) y hy)
  have h_kitD : ∀ x ∈ raised, PySem.W.kitOne K (.ref (ga K x)) (.ref (ga K "DyeError")) = some true := fun x hx => of_decide_eq_true (List.all_eq_true.mp x3 x hx)
  have h_kitV : ∀ x ∈ raised, PySem.W.kitOne K (.ref (ga K x)) (.type "ValueError") = some true := fun x hx => of_decide_eq_true (List.all_eq_true.mp x4 x hx)
  have h_exm : ∀ x ∈ raised, ∀ y ∈ raised, PySem.W.exmOne K (.ref (ga K x)) (.ref (ga K y)) = some (x == y) := fun x hx y hy => of_decide_eq_true (List.all_eq_true.mp (List.all_eq_true.mp x5 x hx) y hy)
  have h_rd : ∃ mc, CRead K (cB K) mc ∧ (∃ u, CVal K (cB K) mc "NAMES" (.int 8) u) ∧ ∃ u, CVal K (cB K) mc "DIPS" (.int 24) u := ⟨_, creadB_ok x6, cvalB_ok x7, cvalB_ok x8⟩
  exact {
    blen := He.free_ok X G (c.facts (f := .free "len") (by simp [fa]))
    babs := He.free_ok X G (c.facts (f := .free "abs") (by simp [fa]))
    bint := He.free_ok X G (c.facts (f := .free "int") (by simp [fa]))
    bisinstance := He.free_ok X G (c.facts (f := .free "isinstance") (by simp [fa]))
    ball := He.free_ok X G (c.facts (f := .free "all") (by simp [fa]))
    brange := He.free_ok X G (c.facts (f := .free "range") (by simp [fa]))
    blist := He.free_ok X G (c.facts (f := .free "list") (by simp [fa]))
    bstr := He.free_ok X G (c.facts (f := .free "str") (by simp [fa]))
    bValueError := He.free_ok X G (c.facts (f := .free "ValueError") (by simp [fa]))
    bbool := He.free_ok X G (c.facts (f := .free "bool") (by simp [fa]))
    gis_whole := He.glo_ok X G (c.facts (f := .glo "is_whole") (by simp [fa]))
    fis_whole := c.def_ 0 (d := d_is_whole) rfl
    gcheck_between := He.glo_ok X G (c.facts (f := .glo "check_between") (by simp [fa]))
    fcheck_between := c.def_ 1 (d := d_check_between) rfl
    g_is_name := He.glo_ok X G (c.facts (f := .glo "_is_name") (by simp [fa]))
    f_is_name := c.def_ 2 (d := d__is_name) rfl
    g_check_new := He.glo_ok X G (c.facts (f := .glo "_check_new") (by simp [fa]))
    f_check_new := c.def_ 3 (d := d__check_new) rfl
    g_check_known := He.glo_ok X G (c.facts (f := .glo "_check_known") (by simp [fa]))
    f_check_known := c.def_ 4 (d := d__check_known) rfl
    g_check_room := He.glo_ok X G (c.facts (f := .glo "_check_room") (by simp [fa]))
    f_check_room := c.def_ 5 (d := d__check_room) rfl
    g_law_source := He.glo_ok X G (c.facts (f := .glo "_law_source") (by simp [fa]))
    f_law_source := c.def_ 6 (d := d__law_source) rfl
    g_law_draw := He.glo_ok X G (c.facts (f := .glo "_law_draw") (by simp [fa]))
    f_law_draw := c.def_ 7 (d := d__law_draw) rfl
    g_law_word := He.glo_ok X G (c.facts (f := .glo "_law_word") (by simp [fa]))
    f_law_word := c.def_ 8 (d := d__law_word) rfl
    g_law_name := He.glo_ok X G (c.facts (f := .glo "_law_name") (by simp [fa]))
    f_law_name := c.def_ 9 (d := d__law_name) rfl
    g_law_word_drawn := He.glo_ok X G (c.facts (f := .glo "_law_word_drawn") (by simp [fa]))
    f_law_word_drawn := c.def_ 10 (d := d__law_word_drawn) rfl
    g_law_refusal := He.glo_ok X G (c.facts (f := .glo "_law_refusal") (by simp [fa]))
    f_law_refusal := c.def_ 11 (d := d__law_refusal) rfl
    g_law_alone := He.glo_ok X G (c.facts (f := .glo "_law_alone") (by simp [fa]))
    f_law_alone := c.def_ 12 (d := d__law_alone) rfl
    g_law_add := He.glo_ok X G (c.facts (f := .glo "_law_add") (by simp [fa]))
    f_law_add := c.def_ 13 (d := d__law_add) rfl
    gBadName := He.glo_ok X G (c.facts (f := .glo "BadName") (by simp [fa]))
    xBadName := xb "BadName" (by decide +kernel)
    gBadHold := He.glo_ok X G (c.facts (f := .glo "BadHold") (by simp [fa]))
    xBadHold := xb "BadHold" (by decide +kernel)
    gBadNumber := He.glo_ok X G (c.facts (f := .glo "BadNumber") (by simp [fa]))
    xBadNumber := xb "BadNumber" (by decide +kernel)
    gBadAmount := He.glo_ok X G (c.facts (f := .glo "BadAmount") (by simp [fa]))
    xBadAmount := xb "BadAmount" (by decide +kernel)
    gKnown := He.glo_ok X G (c.facts (f := .glo "Known") (by simp [fa]))
    xKnown := xb "Known" (by decide +kernel)
    gUnknown := He.glo_ok X G (c.facts (f := .glo "Unknown") (by simp [fa]))
    xUnknown := xb "Unknown" (by decide +kernel)
    gFull := He.glo_ok X G (c.facts (f := .glo "Full") (by simp [fa]))
    xFull := xb "Full" (by decide +kernel)
    gNotSure := He.glo_ok X G (c.facts (f := .glo "NotSure") (by simp [fa]))
    xNotSure := xb "NotSure" (by decide +kernel)
    gRingOfWishes := He.glo_ok X G (c.facts (f := .glo "RingOfWishes") (by simp [fa]))
    xRingOfWishes := xb "RingOfWishes" (by decide +kernel)
    gBadLine := He.glo_ok X G (c.facts (f := .glo "BadLine") (by simp [fa]))
    xBadLine := xb "BadLine" (by decide +kernel)
    gDyeError := He.glo_ok X G (c.facts (f := .glo "DyeError") (by simp [fa]))
    xDyeError := xb "DyeError" (by decide +kernel)
    fDye := c.def_ 14 (d := d_DyeError___init__) rfl
    cLETTERS := He.str_ok X G (c.facts (f := .str "LETTERS" "abcdefghijklmnopqrstuvwxyz") (by simp [fa]))
    cLONGEST_NAME := He.int_ok X G (c.facts (f := .int "LONGEST_NAME" 12) (by simp [fa]))
    gHOLDS := He.glo_ok X G (c.facts (f := .glo "HOLDS") (by simp [fa]))
    tHOLDS := fun H => He.tupB_ok (vs := [.str "fast", .str "loose", .str "unsure"]) hHOLDS H
    gBook := He.glo_ok X G (c.facts (f := .glo "Book") (by simp [fa]))
    cl := He.cls_ok (c.facts (f := .cls "Book") (by simp [fa]))
    n_bound := He.noat_ok (c.facts (f := .noat "Book" "_bound") (by simp [fa]))
    n_kinds := He.noat_ok (c.facts (f := .noat "Book" "_kinds") (by simp [fa]))
    n_thirsts := He.noat_ok (c.facts (f := .noat "Book" "_thirsts") (by simp [fa]))
    n_pots := He.noat_ok (c.facts (f := .noat "Book" "_pots") (by simp [fa]))
    n_cloths := He.noat_ok (c.facts (f := .noat "Book" "_cloths") (by simp [fa]))
    n_dips := He.noat_ok (c.facts (f := .noat "Book" "_dips") (by simp [fa]))
    n_facts := He.noat_ok (c.facts (f := .noat "Book" "_facts") (by simp [fa]))
    mk_ := He.mkr_ok (c.facts (f := .mkr "Book") (by simp [fa]))
    fInit := c.def_ 15 (d := d_Book___init__) rfl
    madd_kind := He.meth_ok (c.facts (f := .meth "Book" "add_kind") (by simp [fa]))
    fadd_kind := c.def_ 16 (d := d_Book_add_kind) rfl
    madd_pot := He.meth_ok (c.facts (f := .meth "Book" "add_pot") (by simp [fa]))
    fadd_pot := c.def_ 17 (d := d_Book_add_pot) rfl
    madd_cloth := He.meth_ok (c.facts (f := .meth "Book" "add_cloth") (by simp [fa]))
    fadd_cloth := c.def_ 18 (d := d_Book_add_cloth) rfl
    mkinds := He.meth_ok (c.facts (f := .meth "Book" "kinds") (by simp [fa]))
    fkinds := c.def_ 19 (d := d_Book_kinds) rfl
    mpots := He.meth_ok (c.facts (f := .meth "Book" "pots") (by simp [fa]))
    fpots := c.def_ 20 (d := d_Book_pots) rfl
    mcloths := He.meth_ok (c.facts (f := .meth "Book" "cloths") (by simp [fa]))
    fcloths := c.def_ 21 (d := d_Book_cloths) rfl
    kit := h_kit
    kitD := h_kitD
    kitV := h_kitV
    exm := h_exm
    rd := h_rd }
theorem facts {P : Program} {w : World} {K : PySem.W.Frag} {h : Heap} {mg : Str → Option Value} {f : Addr} (X : K.In h) (G : h.Ns mainGlobals mg) (hfa : mg ("law" : Str) = some (.ref f)) (c : He.SaysD fa fn K) (x : xB K = true) :
    ∃ fd : FuncData, (∀ (s : Shared) (v : Value), BindsTo s fd ⟨[v], []⟩ [("_law_script", v)]) ∧ ∀ base : Heap, K.In base → base.Ns mainGlobals mg → FnOk P w K mg base CX0 6 f fd ["_law_script"] (spLaw K) := by
  obtain ⟨fd, F⟩ := c.def_ 22 (d := d_law) rfl
  have e := hfa.symm.trans (He.glo_ok X G (c.facts (f := .glo "law") (by simp [fa])))
  cases e
  have b := FunD.bindsA (ps := ["_law_script"]) F fun _ _ _ _ _ _ us hl => match us, hl with | [_], _ => rfl
  exact ⟨fd, fun s v => b s [v] rfl, fun base _ _ => ok_law (txt X G c x) F⟩
end K6
open PySem PySem.W PySem.Calls PyProof.Rows
theorem PySem.Challenge.cw_tiredpots_k06_names_of_a_book_holds : PySem.Challenge.rw_tiredpots_k06_names_of_a_book.Holds := by
  w_on; o_law
  refine HandSHeadRun.head_any (r := OpenLaw.row PySem.Challenge.rw_tiredpots_k06_names_of_a_book) (q := view (OpenLaw.row PySem.Challenge.rw_tiredpots_k06_names_of_a_book).prog [36]) (H := K6.hk) (ob := K6.ob) (M := 6000) (loose := ["_wall", "DyeError", "BadName", "BadHold", "BadNumber", "BadAmount", "Known", "Unknown", "Full", "NotSure", "RingOfWishes", "BadLine", "WORDS", "is_whole", "is_amount", "check_between", "HOLDS", "LETTERS", "LONGEST_NAME", "_is_name", "_check_new", "_check_known", "_check_room", "Book", "_law_source", "_law_draw", "_law_word", "_law_name", "_law_word_drawn", "_law_refusal", "_law_alone", "_law_add"]) (d := HandSHeadRun.topDef (OpenLaw.row PySem.Challenge.rw_tiredpots_k06_names_of_a_book).prog 36) (kwd := []) K6.ob_eq
    (by kernel_rfl) (fun s => by kernel_rfl) K6.run (by kernel_rfl) (by kernel_rfl) (by kernel_rfl) (by rfl) (by first | assumption | decide +kernel) (by decide +kernel) ⟨rfl, rfl, rfl, rfl, rfl, by decide +kernel⟩ ?hw ?hc
  case hw => w_witness2
  case hc =>
    refine L2.walk_ofE (l := PySem.Challenge.rw_tiredpots_k06_names_of_a_book) (n := 63) (k := 6) (x := "_law_script") (CX := L2.CX0) rfl (by decide) (by kernel_rfl) ⟨rfl, by decide, by decide⟩ ?F (fun _ _ _ _ z => z)
    intro w mg fa h Y G hmg0
    obtain ⟨K, KX, c, x⟩ := Y
    have hmg : mg ("law" : PySem.Str) = some (.ref fa) := by
      have e : (HandSHeadRun.topDef (OpenLaw.row PySem.Challenge.rw_tiredpots_k06_names_of_a_book).prog 36).name = ("law" : PySem.Str) := by kernel_rfl
      rw [← e]
      exact hmg0
    obtain ⟨fd, hb, hF⟩ := K6.facts (P := (PySem.Challenge.rw_tiredpots_k06_names_of_a_book).prog) (w := w) KX G hmg c x
    exact ⟨K, fd, K6.spLaw K, KX, hb, fun H a ns hl _ hS => ⟨a, ns, rfl, hS, hl, fun _ => rfl⟩, hF⟩
