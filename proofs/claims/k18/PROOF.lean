import PyProof.Rows.All
import Wide.All
import OpenK.AllK
import Wide.FinOn
import KE.KStateDown
import HandS.ForMost
import HandS.ForExc
import HandS.Wide
import HandS.Defaults
import HandS.HeadHook1
import HandS.Evl
import HandS.Steps
import HandS.HeadHook2
import HandS.TryMany
import HandS.ExcField
import HandS.ExcIs
import HandS.ExcInit
import HandS.HotCalls
import HandS.IsInst
import HandS.Deep
import HandS.ListItems
import HandS.ClsMeth
import HandS.MakeKwOnly
import HandS.Star
import HandS.Property
import HandS.SortKw
import KE.DatumOrd
import HandS.IterVal
import HandS.IterNext
import KE.KOwnIter
import OpenK.KOps
import KE.KParD
import HandS.Walk
import HandS.SetKeys
import HandS.Style
import HandS.DictComp
import HandS.OwnIter
import HandS.FltList
import KE.KDictDisplayH
import PyProof.DictMoreH
import PyProof.DictFindH
import HandS.Comp
import HandS.Conv
import HandS.TupLen
import OpenK.KMeth
import HandS.More
import HandS.WordsExc
import HandS.Head0
import HandS.Head1
import HandS.Head2
import HandS.HeadEnd
import HandS.HeadHook3
import HandS.HeadHook4
import PySem.Challenge.RW_tiredpots_k18_whole_order
set_option Elab.async false
set_option linter.all false
set_option maxRecDepth 100000
set_option maxHeartbeats 0
namespace Tp
open PySem PySem.Spec PyProof.Rows L2 He
/-! ### a def of the module without defaults: its promise, ready to be called -/
structure Df (P : Program) (w : World) (K : PySem.W.Frag) (mg : Str → Option Value) (base : Heap) (CX : CXT) (k : Nat) (x : Str) (ps : List Str) (sp : Sp) : Prop where
  mg_ : mg x = some (.ref (ga K x))
  kp : PySem.W.keepIn K (.ref (ga K x)) = true
  ex : ∃ fd, FnOk P w K mg base CX k (ga K x) fd ps sp ∧ Binds K fd ps []
abbrev FnP (K : PySem.W.Frag) (x : Str) (st : Stmt) (fd : FuncData) : Prop := FunD K x x (defArgs st) (defBody st) (defScope st) [] [] (ga K x) fd
section
variable {P : Program} {w : World} {K : PySem.W.Frag} {mg : Str → Option Value} {base : Heap}
theorem Df.mk' {CX : CXT} {k : Nat} {x : Str} {ps : List Str} {sp : Sp} {st : Stmt} (hm : mg x = some (.ref (ga K x))) (hF : ∃ fd, FnP K x st fd)
    (hb : ∀ (kV doc pm : Value) (an : Option Addr) (cdv ct : Value) (us : List Value), us.length = ps.length → bindArgs (PySem.W.fnOf x x (defArgs st) (defBody st) (defScope st) .none kV doc pm an cdv ct) ⟨us, []⟩ = pure (ps.zip us))
    (h : ∀ fd, FnP K x st fd → FnOk P w K mg base CX k (ga K x) fd ps sp) : Df P w K mg base CX k x ps sp := by
  obtain ⟨fd, F⟩ := hF
  exact ⟨hm, F.kp, fd, h fd F, F.bindsN hb⟩
end
section
variable {X : Cx} {CX : CXT} {k : Nat} {x : Str} {ps : List Str} {sp : Sp} {E : XK} {e : Expr} {es : List Expr} {t : TA} {p pos : Pos}
theorem pe_cd (D : Df X.prog X.w X.K X.mg X.base CX k x ps sp) (hr : Room k X.A) (hg : Gl X x) (hx : Passes CX X E) (ha : PA X (e :: es) t) (hdb : (x == ("__debug__" : Str)) = false := by decide)
    (he : starEach (e :: es) X.env = (false, eval e X.env) :: starEach es X.env := by rfl) (hpl : (backTo pos (starEach es X.env)).any (·.1) = false := by rfl) : PE X (.Call (.Name x p) (e :: es) [] pos) (tCall sp [] E t) := by
  obtain ⟨fd, F, b⟩ := D.ex
  exact pe_call F hr hg D.mg_ D.kp b .nil hx ha hdb he hpl
end
theorem hu65_of {A : Around} {k : Nat} (hr : Room k A) : A.units + 65 < cLine := by have := hr.un; omega
/-! ### heaps -/
theorem upd_self {H : Hp} {a : Addr} {o : HO} (h : H a = some o) : upd H a o = H := by
  funext b; unfold upd; split
  · rename_i e; rw [e, h]
  · rfl
theorem upd_none_iff {H : Hp} {a b : Addr} {o : HO} : upd H a o b = none ↔ b ≠ a ∧ H b = none := by
  constructor
  · intro h
    by_cases e : b = a
    · rw [e, upd_same] at h; cases h
    · rw [upd_ne e] at h; exact ⟨e, h⟩
  · rintro ⟨e, h⟩
    rw [upd_ne e]; exact h
/-- what stands in both is the same -/
theorem Same.upd {H H' : Hp} {a : Addr} {o : HO} (s : Same H H') (h : H a = none) : Same H (L2.upd H' a o) := fun b u e => by
  rw [upd_ne (ne_of_none e h)]
  exact s b u e
/-! ### tests and joins -/
theorem ifd {p : Prop} [Decidable p] {A B : Prop} (h1 : p → A) (h2 : ¬ p → B) : if decide p = true then A else B := by
  by_cases h : p
  · rw [decide_eq_true h, if_pos rfl]; exact h1 h
  · rw [decide_eq_false h, if_neg Bool.false_ne_true]; exact h2 h
theorem ifb {b : Bool} {A B : Prop} (h1 : b = true → A) (h2 : b = false → B) : if b = true then A else B := by
  cases b with
  | true => exact h1 rfl
  | false => rw [if_neg Bool.false_ne_true]; exact h2 rfl
section
variable {σ : L2.St} {H : Hp} {ta tb : TE} {D : Ends} {t1 t2 : TS} {c t u : TT} {a b : Bool} {Q : VK}
theorem val_orV (h1 : Val ta σ H (.bl a)) (h2 : Val tb σ H (.bl b)) : Val (tOrV ta tb) σ H (.bl (a || b)) := by
  intro Q q
  refine h1 _ ⟨a, rfl, ?_⟩
  cases a with
  | true => exact q
  | false => rw [if_neg Bool.false_ne_true]; exact h2 _ q
theorem val_andV (h1 : Val ta σ H (.bl a)) (h2 : Val tb σ H (.bl b)) : Val (tAndV ta tb) σ H (.bl (a && b)) := by
  intro Q q
  refine h1 _ ⟨a, rfl, ?_⟩
  cases a with
  | true => exact h2 _ q
  | false => rw [if_neg Bool.false_ne_true]; exact q
theorem val_notV (h1 : Val ta σ H (.bl a)) : Val (tNotV ta) σ H (.bl (!a)) := fun Q q => h1 _ ⟨a, rfl, q⟩
theorem ans_or2 {b1 b2 : Bool} (h1 : Ans t σ H b1) (h2 : Ans u σ H b2) : Ans (tOr t u) σ H (b1 || b2) := by
  cases b1 with
  | true => exact ans_or1 h1
  | false => exact ans_or h1 h2
theorem st_if {b : Bool} (h : Ans c σ H b) (h1 : b = true → t1 D σ H) (h2 : b = false → t2 D σ H) : tIfS c t1 t2 D σ H := by
  refine h _ ?_
  show (if b = true then t1 D σ H else t2 D σ H)
  exact ifb h1 h2
theorem val_int {f : Int → Int → V} {x y : Int} (ha : Val ta σ H (.int x)) (hb : Val tb σ H (.int y)) : Val (tOp (rI0 f) ta tb) σ H (f x y) := val_op ha hb fun _ q => ⟨_, _, rfl, rfl, q⟩
theorem val_intC {C : Int → Int → Prop} {f : Int → Int → V} {x y : Int} (ha : Val ta σ H (.int x)) (hb : Val tb σ H (.int y)) (h : C x y) : Val (tOp (rI C f) ta tb) σ H (f x y) := val_op ha hb fun _ q => ⟨_, _, rfl, rfl, h, q⟩
theorem val_ixL {K : PySem.W.Frag} {p : Addr} {xs : List V} {i : Int} {v : V} (ha : Val ta σ H (.ref p)) (hb : Val tb σ H (.int i)) (h : SqL K H p xs) (e : atI xs i = some v) : Val (tOp (rIxL K) ta tb) σ H v := val_op ha hb fun _ q => ⟨_, _, _, _, rfl, rfl, h, e, q⟩
theorem val_toInt {x : Int} (ha : Val ta σ H (.int x)) : Val (tCB (fun xs H Q => (∃ i, xs = [V.int i] ∧ Q (V.int i) H) ∨ ∃ k, xs = [V.bl k] ∧ Q (V.int (if k then 1 else 0)) H) (tCons ta tNil)) σ H (.int x) := fun Q q => ha _ (Or.inl ⟨x, rfl, q⟩)
end
section
variable {σ : L2.St} {H : Hp} {ta tb te : TE} {D : Ends} {t1 t2 tz : TS} {c : TT} {b : Bool} {v : V} {i : Nat}
theorem sq_set (h : Val te σ H v) (k : tz D (σ.set i (some v)) H) : tSeq (tAsg te (gName i)) tz D σ H := h _ k
theorem sq_when (h : Ans c σ H b) (h1 : b = true → t1 { D with nx := tz D } σ H) (h2 : b = false → tz D σ H) : tSeq (tIfS c t1 tNext) tz D σ H := st_if (D := { D with nx := tz D }) h h1 h2
theorem sq_setL {l : Addr} {xs : List V} {k : Int} {j : Nat} (hl : H l = some (.lst xs)) (h : Val te σ H v) (ho : Val ta σ H (.ref l)) (hi : Val tb σ H (.int k)) (hj : ixN xs.length k = some j) (q : tz D σ (upd H l (.lst (xs.set j v)))) : tSeq (tAsg te (gSub ta tb rSetL)) tz D σ H :=
  h _ (ho _ (hi _ ⟨l, xs, k, j, rfl, rfl, hl, hj, q⟩))
theorem st_setL {l : Addr} {xs : List V} {k : Int} {j : Nat} (hl : H l = some (.lst xs)) (h : Val te σ H v) (ho : Val ta σ H (.ref l)) (hi : Val tb σ H (.int k)) (hj : ixN xs.length k = some j) (q : D.nx σ (upd H l (.lst (xs.set j v)))) : tAsg te (gSub ta tb rSetL) D σ H :=
  h _ (ho _ (hi _ ⟨l, xs, k, j, rfl, rfl, hl, hj, q⟩))
theorem tyes {A B : Hp → Prop} (h : A H) : tYes σ H fun b H3 => if b = true then A H3 else B H3 := by
  show (if true = true then A H else B H)
  rw [if_pos rfl]; exact h
theorem val_len {K : PySem.W.Frag} {p : Addr} {xs : List V} (ha : Val ta σ H (.ref p)) (h : SqL K H p xs) : Val (tCB (fun xs H Q => ∃ p ys, xs = [.ref p] ∧ (SqL K H p ys ∨ SqT K H p ys) ∧ Q (.int ys.length) H) (tCons ta tNil)) σ H (.int (xs.length : Int)) := fun _ q => ha _ ⟨p, xs, rfl, .inl h, q⟩
theorem val_chain {r r' : R2} {tc : TE} {x y w : V} {a b : Bool} (ha : Val ta σ H x) (hb : Val tb σ H y) (hc : Val tc σ H w) (h1 : ∀ Q : VK, Q (.bl a) H → r x y H Q) (h2 : ∀ Q : VK, Q (.bl b) H → r' y w H Q) : Val (tChain r r' ta tb tc) σ H (.bl (a && b)) := by
  intro Q q
  refine ha _ (hb _ (h1 _ ⟨a, rfl, ?_⟩))
  cases a with
  | true => exact hc _ (h2 _ q)
  | false => exact q
theorem val_abs {x : Int} (ha : Val ta σ H (.int x)) : Val (tCB (fun xs H Q => ∃ i, xs = [.int i] ∧ Q (.int (if i < 0 then -i else i)) H) (tCons ta tNil)) σ H (.int (if x < 0 then -x else x)) := fun _ q => ha _ ⟨x, rfl, q⟩
theorem ans_int {f : Int → Int → Bool} {x y : Int} (ha : Val ta σ H (.int x)) (hb : Val tb σ H (.int y)) : Ans (tTest (tOp (rI0 fun i j => .bl (f i j)) ta tb)) σ H (f x y) := ans_cmp ha hb fun _ q => ⟨_, _, rfl, rfl, q⟩
end
/-! ### the source of draws: a list of cells at L, three numbers -/
structure SrcOk (cells : List Int) (i k g : Int) : Prop where
  i0 : 0 ≤ i
  k0 : 0 ≤ k
  g0 : 0 ≤ g
  len : cells.length ≤ 63
/-- the source object -/
abbrev srcO (L : Addr) (i k g : Int) : HO := .lst [.ref L, .int i, .int k, .int g]
/-- _law_draw(source, many): a number below many -/
def spDraw : Sp := fun vs H Q _ => ∃ (S L : Addr) (cells : List Int) (i k g many : Int), vs = [.ref S, .int many] ∧ H S = some (srcO L i k g) ∧ H L = some (.lst (cells.map V.int)) ∧ SrcOk cells i k g ∧ 0 < many ∧ many < 2 ^ 200 ∧
  ∀ n i' k' g', 0 ≤ n → n < many → SrcOk cells i' k' g' → Q (.int n) (upd H S (srcO L i' k' g'))
theorem cell_at {cells : List Int} {i : Int} (h0 : 0 ≤ i) (h : i < (cells.length : Int)) : ∃ c, atI (cells.map V.int) i = some (.int c) := by
  obtain ⟨j, rfl⟩ := Int.eq_ofNat_of_zero_le h0
  have hi : j < cells.length := by omega
  exact ⟨cells[j], atI_nat (by rw [List.getElem?_map, List.getElem?_eq_getElem hi]; rfl)⟩
theorem pow18 : (10 : Int) ^ (18 : Int).toNat = 1000000000000000000 := by decide +kernel
end Tp
namespace Tp
open PySem PySem.Spec PyProof.Rows L2
/-- what the clauses wish of an exception of the body, one after the other; a slot where the clause has a name -/
def wCls (K : PySem.W.Frag) (Wout : WX) (D : Ends) : List (Value × Option Nat × (Addr → Value → Option Addr → TS)) → WX
  | [] => Wout
  | (c, none, ts) :: r => fun cls d σ H => ∃ b, PySem.W.exmOne K cls c = some b ∧ (b = true → ∀ a, H a = none → ts a cls d D σ H) ∧ (b = false → wCls K Wout D r cls d σ H)
  | (c, some i, ts) :: r => fun cls d σ H => ∃ b, PySem.W.exmOne K cls c = some b ∧
      (b = true → ∀ a, H a = none → ts a cls d { nx := fun σ' H' => D.nx (σ'.set i none) H', rt := D.rt, bk := fun σ' H' => D.bk (σ'.set i none) H', ct := fun σ' H' => D.ct (σ'.set i none) H' } (σ.set i (some (.ref a))) H) ∧
      (b = false → wCls K Wout D r cls d σ H)
inductive ClsOk (X : Cx) : List ExceptHandler → List (Value × Option Nat × (Addr → Value → Option Addr → TS)) → Prop
  | nil : ClsOk X [] []
  | cons {x : Str} {c : Value} {ts : Addr → Value → Option Addr → TS} {b₀ : Stmt} {suite : List Stmt} {np pos' : Pos} {hds : List ExceptHandler} {l : List (Value × Option Nat × (Addr → Value → Option Addr → TS))} (hc : Names X x c)
      (hsu : ∀ (a : Addr) (oe : Obj) (cls : Value) (d : Option Addr) (pn : List (Addr × Obj)), Zc cls d oe → (∃ vs, oe.data = .fields vs) → PSs (X.suite a ((a, oe) :: pn)) (b₀ :: suite) (ts a cls d)) (r : ClsOk X hds l) :
      ClsOk X (.ExceptHandler (some (.Name x np)) none (b₀ :: suite) pos' :: hds) ((c, none, ts) :: l)
  | as {x n : Str} {i : Nat} {c : Value} {ts : Addr → Value → Option Addr → TS} {b₀ : Stmt} {suite : List Stmt} {np pos' : Pos} {hds : List ExceptHandler} {l : List (Value × Option Nat × (Addr → Value → Option Addr → TS))} (hN : X.N.Nodup) (hi : X.N[i]? = some n) (hln : X.env.kindOf n = some .local) (hc : Names X x c)
      (hsu : ∀ (a : Addr) (oe : Obj) (cls : Value) (d : Option Addr) (pn : List (Addr × Obj)), Zc cls d oe → (∃ vs, oe.data = .fields vs) → PSs (X.suite a ((a, oe) :: pn)) (b₀ :: suite) (ts a cls d)) (r : ClsOk X hds l) :
      ClsOk X (.ExceptHandler (some (.Name x np)) (some n) (b₀ :: suite) pos' :: hds) ((c, some i, ts) :: l)
section
variable {X : Cx} {body : List Stmt} {h₀ : ExceptHandler} {hds : List ExceptHandler} {l : List (Value × Option Nat × (Addr → Value → Option Addr → TS))} {pos : Pos} {tb : WX → TS} {Wout : WX}
theorem ps_try_cls (hs : X.stack = X.env :: X.outer) (hf : X.env.frame = some X.env.locals) (tk : Takes X Wout)
    (hb : ∀ (W : WX) (pn : List (Addr × Obj)) (xe : Value → Shared → Prop), Takes (X.tr pn xe) W → PassesOwn (model X.prog X.w) X.A X.env xe → PSs (X.tr pn xe) body (tb W))
    (hh : ClsOk X (h₀ :: hds) l) : PS X (.Try body (h₀ :: hds) [] [] pos) (fun D σ H => tb (wCls X.K Wout D l) D σ H) := by
  refine ⟨fun pins s σ H D I h => ?_⟩
  have ok := I.ok
  have hfr : X.A.frames = some (X.env :: X.outer) := by rw [ok.frames, hs]
  refine wpAny_Try_except ?_
  refine wpAny_mono ((hb (wCls X.K Wout D l) (X.pn ++ pins) (fun e s₁ => wpAny (model X.prog X.w) X.A (noteFrame e X.env) (fun _ s₂ => wpAny (model X.prog X.w) X.A (setFlight e none) (fun _ s₃ =>
    wpAny (model X.prog X.w) X.A (handleBy e X.env (h₀ :: hds)) (SP X pins D) X.xe s₃) X.xe s₂) X.xe s₁) (fun u s' xx => ?_) PassesOwn.looking).run [] s σ H D (I.toTry _) h) (fun f s1 hsp => ?_) (fun e s1 he => he)
  · obtain ⟨a, B, sI, pins', σ', H', cls, d, rfl, J', nb, up, sky, na, os, ag, w⟩ := xx
    have J : Inv X pins σ' H' sI := J'.ofTry ok
    have sky' : Sky B (X.env :: X.outer) a (Zc cls d) X.env.locals s'.heap := by rw [← hs]; exact sky
    show wpAny (model X.prog X.w) X.A (noteFrame (.ref a) X.env) _ _ _
    refine Sky.land Zc.steady hfr hf sky' fun h3 fl3 up3 => ?_
    have J3 : Inv X pins σ' H' { s' with heap := h3 } := J.landed nb fl3.1 (up.trans up3) os ag
    obtain ⟨oe3, vs3, he3, hz3, hd3⟩ := fl3.there
    have notFr : ∀ {h : Heap} {o : Obj} {vs : Array Value}, h.FunFrames B (X.env :: X.outer) → h.get? a = some o → o.data = .fields vs → a ∉ frs (X.env :: X.outer) := fun {h o vs} ff e dd hm => by
      obtain ⟨_, o', e', hnf⟩ := ff.mem hm
      rw [e] at e'; cases e'
      exact hnf _ dd
    have nfr := notFr fl3.2.2.1 he3 hd3
    have nL : a ≠ X.env.locals := fun z => nfr (List.mem_filterMap.mpr ⟨X.env, List.mem_cons_self, by rw [hf, z]⟩)
    have nF : a ∉ X.fs := fun hm => by
      obtain ⟨e, he, q⟩ := List.mem_filterMap.mp hm
      exact nfr (List.mem_filterMap.mpr ⟨e, List.mem_cons_of_mem _ he, q⟩)
    have S3 := J3.suite he3 hd3 na nL nF
    have LT : PySem.W.Looks (model X.prog X.w) h3 (typeOf (.ref a)) cls := fun A Q E s k q => wpAny_typeOf_ref (k _ _ he3) (by rw [hz3.1]; exact q)
    have test : ∀ {x : Str} {np : Pos} {c : Value} (hc : Names X x c) {Q : Value → Shared → Prop} {E : Value → Shared → Prop}, Q c { s' with heap := h3 } → wpAny (model X.prog X.w) (X.A.mark (some (.ref a))) (eval (.Name x np) X.env) Q E { s' with heap := h3 } := fun {x np c} hc {Q E} q => by
      obtain ⟨hg, hdbg, hm | ⟨hm, hv, hnn⟩⟩ := hc
      · exact ld_glob (X := X.suite a ((a, oe3) :: (X.pn ++ pins))) S3 hg hm q hdbg
      · exact ld_blt (X := X.suite a ((a, oe3) :: (X.pn ++ pins))) S3 hg hm hv q hnn hdbg
    have go : ∀ {hds' : List ExceptHandler} {l' : List (Value × Option Nat × (Addr → Value → Option Addr → TS))}, ClsOk X hds' l' → wCls X.K Wout D l' cls d σ' H' →
        wpAny (model X.prog X.w) X.A (handleBy (.ref a) X.env hds') (SP X pins D) X.xe { s' with heap := h3 } := by
      intro hds' l' hk
      induction hk with
      | nil =>
        intro w
        refine wpAny_handleBy_nil ?_
        obtain ⟨k1, k2, k3, oe, vs, T, oT, ts', he, hz, hd, h1, hr⟩ := id fl3
        unfold PySem.passOn
        refine wpAny_bind (wpAny_field he hd h1 ?_)
        rw [if_neg (show ¬ ((Value.ref T == Value.none) = true) from by simp)]
        have fin : wpAny (model X.prog X.w) X.A (setFlight (.ref a) X.env.frame) (fun _ s4 => wpAny (model X.prog X.w) X.A (throw (.ref a) : Sem Flow) (SP X pins D) X.xe s4) X.xe { s' with heap := h3 } := by
          rw [hf]
          refine HandSPX.setFlight_upZ fl3 fun h4 hh4 up4 => wpAny_throw (tk _ _ ?_)
          exact ⟨a, B, sI, pins, σ', H', cls, d, rfl, J, nb, (up.trans up3).trans up4, .inr (.inr (by rw [hs]; exact hh4)), na, os, ag, w⟩
        first
          | exact wpAny_bind (wpAny_pure (wpAny_bind fin))
          | exact wpAny_bind fin
      | @cons x c ts b₀ suite np pos' hds2 l2 hc hsu r ih =>
        intro w
        obtain ⟨b, hb1, hyes, hno⟩ := w
        refine wpAny_handleBy_cons (codeAny_handlers_test ?_) (by intro q; cases q)
        have LM := PySem.W.exm_one (M := model X.prog X.w) (J3.kIn) LT hb1
        refine test hc (LM.here ?_)
        cases b with
        | true =>
          refine codeAny_handlers_suite ?_
          refine HandSPX.lands_againZ fl3 fun h4 fl4 up4 => ?_
          have J4 : Inv X pins σ' H' { s' with heap := h4 } := J.landed nb fl4.1 ((up.trans up3).trans up4) os ag
          obtain ⟨oe4, vs4, he4, hz4, hd4⟩ := fl4.there
          have S4 := J4.suite he4 hd4 na nL nF
          refine wpAny_mono ((hsu a oe4 cls d (X.pn ++ pins) hz4 ⟨_, hd4⟩).run [] _ _ H' _ S4 (hyes rfl a na)) (fun f s6 hsp => ?_) (fun _ _ z => False.elim z)
          cases f with
          | next =>
            obtain ⟨σ6, H6, S6, q6⟩ := hsp
            exact ⟨_, _, S6.unsuite ok, q6⟩
          | brk =>
            obtain ⟨σ6, H6, S6, q6⟩ := hsp
            exact ⟨_, _, S6.unsuite ok, q6⟩
          | cont =>
            obtain ⟨σ6, H6, S6, q6⟩ := hsp
            exact ⟨_, _, S6.unsuite ok, q6⟩
          | ret u =>
            obtain ⟨v6, σ6, H6, S6, r6, q6⟩ := hsp
            exact ⟨_, _, _, S6.unsuite ok, r6, q6⟩
        | false =>
          show wpAny _ X.A (handleBy (.ref a) X.env hds2) _ _ _
          exact ih (hno rfl)
      | @as x n i c ts b₀ suite np pos' hds2 l2 hN hi hln hc hsu r ih =>
        intro w
        obtain ⟨b, hb1, hyes, hno⟩ := w
        have hloc : Loc X.env.scope n := .inl hln
        refine wpAny_handleBy_cons (codeAny_handlers_test ?_) (by intro q; cases q)
        have LM := PySem.W.exm_one (M := model X.prog X.w) (J3.kIn) LT hb1
        refine test hc (LM.here ?_)
        cases b with
        | true =>
          refine codeAny_handlers_suite_as ?_
          refine HandSPX.lands_againZ fl3 fun h4 fl4 up4 => ?_
          have J4 : Inv X pins σ' H' { s' with heap := h4 } := J.landed nb fl4.1 ((up.trans up3).trans up4) os ag
          obtain ⟨oe4, vs4, he4, hz4, hd4⟩ := fl4.there
          have S4 := J4.suite he4 hd4 na nL nF
          refine store_ok (X := X.suite a ((a, oe4) :: (X.pn ++ pins))) (v := .ref a) S4 hN hi hloc rfl (fun s5 S5 => ?_) (.inr hln)
          refine wpAny_mono ((hsu a oe4 cls d (X.pn ++ pins) hz4 ⟨_, hd4⟩).run [] s5 _ H' _ S5 (hyes rfl a na)) (fun f s6 hsp => ?_) (fun _ _ z => False.elim z)
          have end_ : ∀ {σ6 : L2.St} {H6 : Hp} {Q : Shared → Prop}, Inv (X.suite a ((a, oe4) :: (X.pn ++ pins))) [] σ6 H6 s6 → (∀ s7, Inv X pins (σ6.set i none) H6 s7 → Q s7) →
              wpAny (model X.prog X.w) X.A (do bindName X.env n .none; unbindBehindTheSuite X.env n pos') (fun _ s7 => Q s7) X.xe s6 := fun {σ6 H6 Q} S6 hq => gone_ok (S6.unsuite ok) hN hi hln hq
          cases f with
          | next =>
            obtain ⟨σ6, H6, S6, q6⟩ := hsp
            exact end_ S6 fun s7 J7 => ⟨_, _, J7, q6⟩
          | brk =>
            obtain ⟨σ6, H6, S6, q6⟩ := hsp
            exact end_ S6 fun s7 J7 => ⟨_, _, J7, q6⟩
          | cont =>
            obtain ⟨σ6, H6, S6, q6⟩ := hsp
            exact end_ S6 fun s7 J7 => ⟨_, _, J7, q6⟩
          | ret u =>
            obtain ⟨v6, σ6, H6, S6, r6, q6⟩ := hsp
            exact end_ S6 fun s7 J7 => ⟨_, _, _, J7, r6, q6⟩
        | false =>
          show wpAny _ X.A (handleBy (.ref a) X.env hds2) _ _ _
          exact ih (hno rfl)
    exact go hh w
  · cases f with
    | next =>
      obtain ⟨σ', H', J', q⟩ := hsp
      exact wpAny_execs_nil ⟨σ', H', J'.ofTry ok, q⟩
    | brk =>
      obtain ⟨σ', H', J', q⟩ := hsp
      exact ⟨σ', H', J'.ofTry ok, q⟩
    | cont =>
      obtain ⟨σ', H', J', q⟩ := hsp
      exact ⟨σ', H', J'.ofTry ok, q⟩
    | ret u =>
      obtain ⟨v, σ', H', J', r, q⟩ := hsp
      exact ⟨v, σ', H', J'.ofTry ok, r, q⟩
end
end Tp
namespace Tp
open PySem PySem.Spec PySem.Calls PyProof.Rows PySem.W
section
variable {prog : Program} {w : World} {A : Around} {E : Value → Shared → Prop} {s : Shared} {K : Frag} {x D : Addr} {ox : Obj} {od : Option Obj}
theorem find_data {C : Addr} {name : Str} {a g : Value} (hc : (clsIn K C).isSome = true) (ha : findIn K (.ref C) name = some (some a)) (hg : specialIn K a "__get__" = some (some g)) (ht : takesIn K a = some true) : findObj K C od name = some (.bind g a) := by
  obtain ⟨cd, hc⟩ := Option.isSome_iff_exists.mp hc
  unfold findObj
  rw [hc, Option.bind_some, ha, Option.bind_some]
  simp [hg, ht]
theorem cls_of_exc {Q : Option Value → Shared → Prop} (hga : findIn K (.ref D) "__getattribute__" = some (some (.builtin "BaseException.__getattribute__"))) (hgt : findIn K (.ref D) "__getattr__" = some none) (hsub : subIn K (.ref D) (.type "BaseException") = some true)
    (hdct : hasDictIn K D = true) (ha : findIn K (.ref D) "__class__" = some (some (.builtin "object.__class__")))
    (hn : specialIn K (.builtin "object.__class__") "__get__" = some (some (.builtin "getset_descriptor.__get__"))) (htk : takesIn K (.builtin "object.__class__") = some true) (hm : mroIn K D (.type "object") = some true)
    (X : K.In s.heap) (I : InstAt s.heap x ox D od) (h : Q (some (.ref D)) { s with toks := s.toks + 1 }) : wpAny (model prog w) A (getAttr? (.ref x) "__class__") Q E s := by
  have hf : findObj K D od "__class__" = some (.bind (.builtin "getset_descriptor.__get__") (.builtin "object.__class__")) := find_data (by obtain ⟨cd, hc, _⟩ := any_some hdct; rw [hc]; rfl) ha hn htk
  obtain ⟨hp, g, d, t, os⟩ := s
  have L0 := I.type (M := model prog w)
  have L1 := looks_findIn (M := model prog w) X hga
  have L2 := looks_findIn (M := model prog w) X hgt
  have L3 := looks_find (M := model prog w) X I hf
  have sub : Looks (model prog w) hp (isInstance (.ref x) (.type "BaseException")) true := L0.andThen (looks_subIn X hsub)
  have hx0 : (false && onTheHeap (Value.builtin "BaseException.__getattribute__")) = false := rfl
  have hx2 : (Value.builtin "BaseException.__getattribute__" == Value.builtin "object.__getattribute__") = false := by decide +kernel
  have hx1 : (onTheHeap (Value.ref D) && Value.builtin "BaseException.__getattribute__" == Value.builtin "object.__getattribute__") = false := by rw [hx2]; rfl
  unfold getAttr? getAttrBy? getAttrBy
  refine wpAny_bind (wpAny_mkText (wpAny_bind (wpAny_attempt (wpAny_holding (wpAny_bind (L0.at (wpAny_bind (L1.at ?_))))))))
  show wpAny _ _ (if (onTheHeap (Value.ref D) && Value.builtin "BaseException.__getattribute__" == Value.builtin "object.__getattribute__") = true then _ else _) _ _ _
  rw [hx1, if_neg Bool.false_ne_true]
  unfold getAttrByItsOwn hookBefore
  refine wpAny_bind ?_
  rw [if_pos (show onTheHeap (Value.ref D) = true from rfl)]
  refine L2.at ?_
  refine wpAny_bind (wpAny_attempt (wpAny_holding ?_))
  unfold callGetattribute
  rw [hx0, if_neg Bool.false_ne_true]
  unfold boundAndCalled
  rw [PySem.F.excAttr_ValueError.ga.bind (.ref x)]
  refine wpAny_bind (wpAny_pure ?_)
  show wpAny _ _ (call (.builtin "BaseException.__getattribute__") [.ref x, .str "__class__" t]) _ _ _
  refine wpAny_call (codeAny_call_builtin PySem.F.excAttr_ValueError.ga.plain PySem.F.entry_bexc_ga ?_)
  refine @check_slot (model prog w) _ _ ⟨hp, g, d, t + 1, os⟩ "BaseException.__getattribute__" "BaseException" "__getattribute__" (.ref x) [.str "__class__" t] [] _ (by decide +kernel) (by decide +kernel) sub (PySem.F.args_bexc_ga (.ref x) (.str "__class__" t)) ?_
  unfold Builtin.«object.__getattribute__»
  refine wpAny_bind (wpAny_of_eq (a := ((Value.ref x : Value), [Value.str "__class__" t])) (by first | rfl | (simp only [slotArgs]; rfl)) ?_)
  refine wpAny_bind (wpAny_pure (wpAny_bind (L0.at (wpAny_bind (L3.at ?_)))))
  show wpAny _ _ (holding [Value.builtin "object.__class__"] (call (.builtin "getset_descriptor.__get__") [.builtin "object.__class__", .ref x, .ref D]) >>= ret) _ _ _
  refine wpAny_bind (wpAny_holding (wpAny_call (class_get (s := ⟨hp, g, d, t + 1, os⟩) (ox := ox) (od := od) X I hm ?_)))
  refine wpAny_pure ?_
  show wpAny _ _ (handedOut (.ref D)) _ _ _
  rw [handedOut_of (v := .ref D) rfl]
  first
    | exact wpAny_pure (wpAny_pure h)
    | exact wpAny_pure h
    | exact wpAny_pure (wpAny_bind (wpAny_pure (wpAny_pure h)))
theorem kitx_excO (hga : findIn K (.ref D) "__getattribute__" = some (some (.builtin "BaseException.__getattribute__"))) (hgt : findIn K (.ref D) "__getattr__" = some none) (hsub : subIn K (.ref D) (.type "BaseException") = some true) (hdct : hasDictIn K D = true) (ha : findIn K (.ref D) "__class__" = some (some (.builtin "object.__class__")))
    (hn : specialIn K (.builtin "object.__class__") "__get__" = some (some (.builtin "getset_descriptor.__get__"))) (htk : takesIn K (.builtin "object.__class__") = some true) (hm : mroIn K D (.type "object") = some true) :
    KitX K (.ref x) (.ref D) (fun h => InstAt h x ox D od) where
  ty := fun _ _ _ I => I.type
  it := fun _ _ X _ => by
    obtain ⟨cdD, hcD, _⟩ := any_some hdct
    unfold clsIn at hcD
    split at hcD
    · rename_i c' d' cd' sl' ho
      intro A' Q' E' s' k q
      unfold isType loadHead
      exact wpAny_bind (wpAny_loadPart (k _ _ (X _ _ ho)) (wpAny_pure q))
    · cases hcD
  ne := fun h tp dd its n sl X htp => by
    obtain ⟨cdD, hcD, _⟩ := any_some hdct
    refine Bool.eq_false_iff.mpr fun q => ?_
    have e : D = tp := Value.ref.inj (beq_iff_eq.mp q)
    subst e
    unfold clsIn at hcD
    split at hcD
    · rename_i c' d' cd' sl' ho
      have z := (X _ _ ho).symm.trans htp
      cases z
    · cases hcD
  ca := fun X I k => cls_of_exc hga hgt hsub hdct ha hn htk hm X I k
end
end Tp
namespace Tp
open PySem PySem.Spec PyProof.Rows L2
/-- a pinned error: at a an object of class D with its dict at dd, which the abstract heap knows -/
theorem isX_core {X : Cx} {a D dd : Addr} {oe : Obj} {pins : List (Addr × Obj)} {s : Shared} {σ : L2.St} {H : Hp} {c : V} {cu cv : Value} {b : Bool} {Q : VK} {fs : List (Str × V)} (C : ExcC X.K D) (I : Inv X pins σ H s) (hp : s.heap.get? a = some oe) (hz : Zc (.ref D) (some dd) oe) (hf : ∃ vs, oe.data = .fields vs)
    (hd : H dd = some (.xd fs)) (rt : RelV c cu) (hcv : ∀ u, RelV c u → u = cv) (e : PySem.W.kitOne X.K (.ref D) cv = some b) (q : Q (.bl b) H) :
    wpAny (model X.prog X.w) X.A (call (.builtin "isinstance") [.ref a, cu]) (EP X pins σ Q) X.xe s := by
  have ec := hcv _ rt
  subst ec
  obtain ⟨vs, hv⟩ := hf
  have hx : ObjOk X.prog X.w H s.heap dd (.xd fs) := I.hok dd _ hd
  obtain ⟨mA, ⟨od, es, ep, ho, _⟩, _⟩ := hx
  have J : PySem.W.InstAt s.heap a oe D (some od) := by
    obtain ⟨oc, od', oda, osl⟩ := oe
    obtain ⟨h1, h2⟩ := hz
    dsimp only at h1 h2 hv
    subst h1 h2 hv
    exact ⟨hp, rfl, rfl, ho⟩
  exact PySem.W.kia_one (kitx_excO C.hg C.hk C.hs C.hd C.ha C.hn C.ht C.hm) I.kIn J e (fun z => nomatch z) fun tk => ⟨.bl b, H, I.kept (t' := tk) fun _ _ z => z, rfl, q⟩
end Tp
namespace Tp
open PySem PySem.Spec PyProof.Rows L2
/-! ### how heaps go on: all that was tracked stays but what stands at ms; tuples stay -/
structure Ext (ms : List Addr) (H H' : Hp) : Prop where
  keep : ∀ b o, H b = some o → b ∉ ms → H' b = some o
  tups : ∀ b xs, H b = some (.tup xs) → H' b = some (.tup xs)
section
variable {ms ns : List Addr} {H H1 H2 H' : Hp} {a p : Addr} {o u : HO}
theorem Ext.refl : Ext ms H H := ⟨fun _ _ h _ => h, fun _ _ h => h⟩
theorem Ext.trans (e : Ext ms H H1) (f : Ext ms H1 H2) : Ext ms H H2 := ⟨fun b o h n => f.keep b o (e.keep b o h n) n, fun b xs h => f.tups b xs (e.tups b xs h)⟩
theorem Ext.mono (e : Ext ms H H1) (h : ∀ b, b ∈ ms → b ∈ ns) : Ext ns H H1 := ⟨fun b o q n => e.keep b o q fun z => n (h b z), e.tups⟩
theorem Ext.nil (e : Ext [] H H1) : Ext ms H H1 := e.mono fun _ z => nomatch z
theorem Ext.new (h : H p = none) : Ext ms H (upd H p o) := ⟨fun b o q _ => by rw [upd_ne (ne_of_none q h)]; exact q, fun b xs q => by rw [upd_ne (ne_of_none q h)]; exact q⟩
theorem Ext.mut (e : Ext ms H H1) (hm : a ∈ ms) (h : ∀ xs, H a ≠ some (.tup xs)) : Ext ms H (upd H1 a o) := ⟨fun b o q n => by rw [upd_ne (fun z => n (by rw [z]; exact hm))]; exact e.keep b o q n, fun b xs q => by rw [upd_ne (fun z => h xs (by rw [← z]; exact q))]; exact e.tups b xs q⟩
/-- an object that H does not know may change -/
theorem Ext.fresh (e : Ext ms H H1) (h : H a = none) : Ext ms H (upd H1 a o) := ⟨fun b o q n => by rw [upd_ne (ne_of_none q h)]; exact e.keep b o q n, fun b xs q => by rw [upd_ne (ne_of_none q h)]; exact e.tups b xs q⟩
theorem Ext.same (e : Ext [] H H1) : Same H H1 := fun b o h => e.keep b o h (by simp)
theorem Ext.of (s : Same H H1) : Ext ms H H1 := ⟨fun b o h _ => s b o h, fun b xs h => s b _ h⟩
theorem Ext.none (e : Ext ms H H1) (h : H1 a = none) (hm : a ∉ ms) : H a = none := by
  cases q : H a with
  | none => rfl
  | some o => rw [e.keep a o q hm] at h; cases h
end
/-! ### data that never changes: None, bools, ints, texts, tuples of these -/
mutual
inductive Im (H : Hp) : V → PyData → Prop
  | non : Im H .non .none
  | bl (b : Bool) : Im H (.bl b) (.bool b)
  | int (i : Int) : Im H (.int i) (.int i)
  | str (x : Str) : Im H (.str x) (.str x)
  | tup {a : Addr} {xs : List V} {ds : List PyData} : H a = some (.tup xs) → ImAll H xs ds → Im H (.ref a) (.tuple ds)
inductive ImAll (H : Hp) : List V → List PyData → Prop
  | nil : ImAll H [] []
  | cons {v : V} {vs : List V} {d : PyData} {ds : List PyData} : Im H v d → ImAll H vs ds → ImAll H (v :: vs) (d :: ds)
end
mutual
theorem Im.ext {ms : List Addr} {H H' : Hp} (e : Ext ms H H') : ∀ {d : PyData} {v : V}, Im H v d → Im H' v d
  | _, _, .non => .non
  | _, _, .bl b => .bl b
  | _, _, .int i => .int i
  | _, _, .str x => .str x
  | _, _, .tup h a => .tup (e.tups _ _ h) (ImAll.ext e a)
theorem ImAll.ext {ms : List Addr} {H H' : Hp} (e : Ext ms H H') : ∀ {ds : List PyData} {vs : List V}, ImAll H vs ds → ImAll H' vs ds
  | _, _, .nil => .nil
  | _, _, .cons h t => .cons (Im.ext e h) (ImAll.ext e t)
end
mutual
theorem Im.dp {K : PySem.W.Frag} {H : Hp} : ∀ {d : PyData} {v : V}, Im H v d → Dp K H v d
  | _, _, .non => .non
  | _, _, .bl b => .bl b
  | _, _, .int i => .int i
  | _, _, .str x => .str x
  | _, _, .tup h a => .tup (SqT.of h) (ImAll.dp a)
theorem ImAll.dp {K : PySem.W.Frag} {H : Hp} : ∀ {ds : List PyData} {vs : List V}, ImAll H vs ds → DpAll K H vs ds
  | _, _, .nil => .nil
  | _, _, .cons h t => .cons (Im.dp h) (ImAll.dp t)
end
theorem ImAll.length {H : Hp} : ∀ {vs : List V} {ds : List PyData}, ImAll H vs ds → vs.length = ds.length
  | _, _, .nil => rfl
  | _, _, .cons _ t => congrArg Nat.succ t.length
theorem ImAll.append {H : Hp} : ∀ {vs ws : List V} {ds es : List PyData}, ImAll H vs ds → ImAll H ws es → ImAll H (vs ++ ws) (ds ++ es)
  | _, _, _, _, .nil, s => s
  | _, _, _, _, .cons r t, s => .cons r (t.append s)
theorem ImAll.get {H : Hp} : ∀ {vs : List V} {ds : List PyData} {i : Nat} {v : V}, ImAll H vs ds → vs[i]? = some v → ∃ d, ds[i]? = some d ∧ Im H v d
  | _, _, _, _, .nil, e => by simp at e
  | _, _, 0, _, .cons r _, e => by simp at e; subst e; exact ⟨_, rfl, r⟩
  | _, _, i + 1, v, .cons _ t, e => by
    obtain ⟨d, h1, h2⟩ := ImAll.get (i := i) (v := v) t (by simpa using e)
    exact ⟨d, by simpa using h1, h2⟩
theorem ImAll.getD {H : Hp} : ∀ {vs : List V} {ds : List PyData} {i : Nat} {d : PyData}, ImAll H vs ds → ds[i]? = some d → ∃ v, vs[i]? = some v ∧ Im H v d
  | _, _, _, _, .nil, e => by simp at e
  | _, _, 0, _, .cons r _, e => by simp at e; subst e; exact ⟨_, rfl, r⟩
  | _, _, i + 1, v, .cons _ t, e => by
    obtain ⟨d, h1, h2⟩ := ImAll.getD (i := i) t (by simpa using e)
    exact ⟨d, by simpa using h1, h2⟩
/-- data with texts that may stand in a program's data -/
abbrev okS (z : Str) : Prop := PyData.strOk z = true
abbrev okD (d : PyData) : Prop := d.canLay0 = true ∧ d.depth ≤ 8
theorem okD.shaped {d : PyData} (h : okD d) : SeqAt.shaped d = true := by
  show (d.canLay0 && decide (d.depth ≤ 64)) = true
  rw [h.1, decide_eq_true (by have := h.2; omega)] <;> rfl
theorem okD.eqv {d : PyData} (h : okD d) : PyData.eqv d d = true := SeqAt.eqv_refl d h.1
theorem okD.str {z : Str} (h : okS z) : okD (.str z) := ⟨by rw [PyData.canLay0]; exact h, by simp [PyData.depth]⟩
theorem okD.none : okD .none := ⟨by simp [PyData.canLay0], by simp [PyData.depth]⟩
theorem okD.int {i : Int} : okD (.int i) := ⟨by simp [PyData.canLay0], by simp [PyData.depth]⟩
theorem okD.bool {b : Bool} : okD (.bool b) := ⟨by simp [PyData.canLay0], by simp [PyData.depth]⟩
theorem canLayAll_iff : ∀ {ds : List PyData}, PyData.canLayAll0 ds = true ↔ ∀ d ∈ ds, d.canLay0 = true
  | [] => by simp [PyData.canLayAll0]
  | d :: ds => by rw [PyData.canLayAll0, Bool.and_eq_true, canLayAll_iff (ds := ds)]; simp
theorem depthAll_le {n : Nat} : ∀ {ds : List PyData}, (∀ d ∈ ds, d.depth ≤ n) → PyData.depthAll ds ≤ n
  | [], _ => by simp [PyData.depthAll]
  | d :: ds, h => by
    rw [PyData.depthAll]
    have h1 := h d (List.mem_cons_self ..)
    have h2 := depthAll_le (ds := ds) fun e he => h e (List.mem_cons_of_mem _ he)
    omega
theorem shapedL {n : Nat} {ds : List PyData} (h : ∀ d ∈ ds, d.canLay0 = true ∧ d.depth ≤ n) (hn : n ≤ 60) : SeqAt.shaped (.list ds) = true := by
  show ((PyData.list ds).canLay0 && decide ((PyData.list ds).depth ≤ 64)) = true
  rw [Bool.and_eq_true]
  refine ⟨by rw [PyData.canLay0]; exact canLayAll_iff.mpr fun d hd => (h d hd).1, decide_eq_true ?_⟩
  rw [PyData.depth]
  have := depthAll_le fun d hd => (h d hd).2
  omega
theorem okD.tup {n : Nat} {ds : List PyData} (h : ∀ d ∈ ds, d.canLay0 = true ∧ d.depth ≤ n) (hn : n ≤ 7) : okD (.tuple ds) := by
  refine ⟨by rw [PyData.canLay0]; exact canLayAll_iff.mpr fun d hd => (h d hd).1, ?_⟩
  rw [PyData.depth]
  have := depthAll_le fun d hd => (h d hd).2
  omega
theorem okS_list {z : Str} : okS z ↔ ∀ c ∈ z.cps.toList, c < 0x110000 := by
  show z.cps.all _ = true ↔ _
  rw [← Array.all_toList, List.all_eq_true]
  simp
theorem len_append {a b : Str} : (a ++ b).length = a.length + b.length := by
  show (a.cps ++ b.cps).size = a.cps.size + b.cps.size
  exact Array.size_append
theorem atI_some {α : Type} {xs : List α} {i : Int} (h0 : 0 ≤ i) (h1 : i < (xs.length : Int)) : ∃ v, atI xs i = some v ∧ v ∈ xs := by
  obtain ⟨j, rfl⟩ := Int.eq_ofNat_of_zero_le h0
  have hj : j < xs.length := by omega
  exact ⟨xs[j], atI_nat (List.getElem?_eq_getElem hj), List.getElem_mem hj⟩
theorem len_list {z : Str} : z.cps.toList.length = z.length := by
  show _ = z.cps.size
  simp
/-! ### in, not in over tuples of data -/
section
variable {X : Cx}
def rInT (K : PySem.W.Frag) : R2 := fun x y H Q => ∃ d ds, Dp K H x d ∧ Dp K H y (.tuple ds) ∧ SeqAt.shaped d = true ∧ SeqAt.shaped (.tuple ds) = true ∧ Q (.bl (ds.any fun z => PyData.eqv z d)) H
def rNotInT (K : PySem.W.Frag) : R2 := fun x y H Q => ∃ d ds, Dp K H x d ∧ Dp K H y (.tuple ds) ∧ SeqAt.shaped d = true ∧ SeqAt.shaped (.tuple ds) = true ∧ Q (.bl (!ds.any fun z => PyData.eqv z d)) H
theorem op_inT (hu : X.A.units + 65 < cLine) : OpR X (compareOp .In) (rInT X.K) := by
  intro pins s σ H x y v u Q I rx ry h
  obtain ⟨d, ds, hd, he, sd, se, q⟩ := h
  obtain ⟨as, r1⟩ := Dp.reads I d x v hd rx
  obtain ⟨bs, r2⟩ := Dp.reads I (.tuple ds) y u he ry
  exact SeqAt.in_tuple_reads r2 r1 (SeqAt.canLay_of_shaped se) (SeqAt.canLay_of_shaped sd) (room_in_shaped sd hu) ⟨.bl _, H, I, rfl, q⟩
theorem op_notInT (hu : X.A.units + 65 < cLine) : OpR X (compareOp .NotIn) (rNotInT X.K) := by
  intro pins s σ H x y v u Q I rx ry h
  obtain ⟨d, ds, hd, he, sd, se, q⟩ := h
  obtain ⟨as, r1⟩ := Dp.reads I d x v hd rx
  obtain ⟨bs, r2⟩ := Dp.reads I (.tuple ds) y u he ry
  exact SeqAt.notIn_tuple_reads r2 r1 (SeqAt.canLay_of_shaped se) (SeqAt.canLay_of_shaped sd) (room_in_shaped sd hu) ⟨.bl _, H, I, rfl, q⟩
end
/-! ### more values -/
section
variable {σ : L2.St} {H : Hp} {ta tb te : TE} {D : Ends} {t1 t2 tz : TS} {c : TT} {b : Bool} {v : V} {i : Nat} {K : PySem.W.Frag}
theorem val_isi {x : V} {t : Value} {T : String} {b : Bool} (ha : Val ta σ H x) (ht : TyX K H x t) (hk : PySem.W.kitOne K t (.type T) = some b) : Val (tCB (rIsi K) (tCons ta (tCons (tC (.ty T)) tNil))) σ H (.bl b) :=
  fun _ q => ha _ ⟨x, .ty T, t, .type T, b, rfl, .ty T, ht, hk, q⟩
theorem val_addS {x y : Str} (ha : Val ta σ H (.str x)) (hb : Val tb σ H (.str y)) (h : x.length + y.length ≤ 100000) : Val (tOp (fun x y H Q => ∃ i j, x = .str i ∧ y = .str j ∧ i.length + j.length ≤ sizeLine ∧ Q (.str (i ++ j)) H) ta tb) σ H (.str (x ++ y)) :=
  val_op ha hb fun _ q => ⟨_, _, rfl, rfl, Evl.sz_of h, q⟩
theorem val_ixS {z : Str} {i : Int} {c : Nat} (ha : Val ta σ H (.str z)) (hb : Val tb σ H (.int i)) (h : z.length ≤ 100000) (e : atI z.cps.toList i = some c) : Val (tOp rIxS ta tb) σ H (.str ⟨#[c]⟩) := val_op ha hb fun _ q => ⟨_, _, _, rfl, rfl, Evl.sz_of h, e, q⟩
theorem val_lenS {z : Str} (ha : Val ta σ H (.str z)) (h : z.length ≤ 100000) : Val (tCB (fun xs H Q => ∃ z, xs = [.str z] ∧ z.length ≤ sizeLine ∧ Q (.int z.length) H) (tCons ta tNil)) σ H (.int (z.length : Int)) := fun _ q => ha _ ⟨z, rfl, Evl.sz_of h, q⟩
end
/-! ### o.m(e, .., k = v, ..) -/
def tMethKw (C : Addr) (m : Str) (n j : Nat) (sp : Sp) (gV : List V → List V → List V) (E : XK) (ta : TE) (t tk : TA) : TE := fun σ H Q => ta σ H fun x H1 => ∃ a dx fs, x = .ref a ∧ H1 a = some (.ins C dx fs) ∧ fs.lookup m = none ∧
  t σ H1 fun vs H2 => tk σ H2 fun zs H3 => vs.length = n ∧ zs.length = j ∧ sp (gV (.ref a :: vs) zs) H3 Q E
section
variable {X : Cx} {CX : CXT} {k n : Nat} {f C : Addr} {fd : FuncData} {ps ks : List Str} {sp : Sp} {E : XK} {x m : Str} {p pos apos : Pos} {o e : Expr} {es : List Expr} {kws : List Keyword} {ta : TE} {t tk : TA} {g : List Value → List Value → List Value} {gV : List V → List V → List V}
theorem run_kbn {pins : List (Addr × Obj)} {σ : L2.St} {H : Hp} {s : Shared} {Q : VK} {us ws : List Value} {vs zs : List V} (F : FnOk X.prog X.w X.K X.mg X.base CX k f fd ps sp) (hr : Room k X.A) (hb : KBn X.K fd ps n ks g gV) (hx : Passes CX X E)
    (I : Inv X pins σ H s) (r : Vals vs us) (rz : Vals zs ws) (l1 : vs.length = n) (l2 : zs.length = ks.length) (h : sp (gV vs zs) H Q E) : wpAny (model X.prog X.w) X.A (call (.ref f) us (ks.zip ws)) (EP X pins σ Q) X.xe s := by
  have r2 := hb.rel r rz
  refine wpAny_call (codeAny_mono (F.run X.A X.stack s H ⟨us, ks.zip ws⟩ (g us ws) (gV vs zs) Q E hr I.env0 (hb.to s us ws I.kIn (by rw [← r.length, l1]) (by rw [← rz.length, l2])) r2 h) fun r s' hq => ?_)
  cases r with
  | error e => exact hx pins σ H s e s' I hq
  | ok fl =>
    cases fl with
    | ret u => exact I.after hq
    | next => exact False.elim hq
    | brk => exact False.elim hq
    | cont => exact False.elim hq
theorem pe_methKw {pl : Sem Bool} (he : PE X o ta) (c : Cls X.K C) (hm : Meth X.K C m f) (F : FnOk X.prog X.w X.K X.mg X.base CX k f fd ps sp) (hr : Room k X.A) (hb : KBn X.K fd ps (n + 1) ks g gV) (hx : Passes CX X E) (ha : PA X (e :: es) t) (hkw : PK X kws tk)
    (hall : (backToKw pos (keywordEach kws X.env)).all (·.1.isSome) = true := by rfl) (hks : (backToKw pos (keywordEach kws X.env)).filterMap (·.1) = ks := by rfl)
    (hst : starEach (e :: es) X.env = (false, eval e X.env) :: starEach es X.env := by rfl) (hpl : ((backTo pos (starEach (e :: es) X.env)).any (·.1) || (backToKw pos (keywordEach kws X.env)).any (·.1.isNone)) = false := by rfl)
    (ht : eval (.Call (.Attribute o m apos) (e :: es) kws pos) X.env = (do
      let ov ← eval o X.env
      standAt apos.atName
      let (f, first) ← holding [ov] (getMethod ov m pl)
      callWith pos f first (backTo pos (starEach (e :: es) X.env)) (backToKw pos (keywordEach kws X.env))) := by rfl) :
    PE X (.Call (.Attribute o m apos) (e :: es) kws pos) (tMethKw C m n ks.length sp gV E ta t tk) := by
  refine ⟨fun pins s σ H Q I h => ?_⟩
  refine PySem.W.methodCall_KW (pl := pl) (thn (he.run pins s σ H _ I h) fun u s1 ⟨x, H1, I1, rx, a, dx, fs, ex, ea, l, q⟩ => ?_) ht
  subst ex
  obtain rfl : u = Value.ref a := rx
  refine getmeth_ok I1 ea c hm l ?_
  refine PySem.W.callWith_KW (first := [.ref a]) (h₀ := X.base) I.ok.mod.kin hm.kp hall (thn (ha.run pos pins s1 σ H1 _ I1 q) fun us s2 ⟨vs, H2, I2, r, q2⟩ => ?_) hpl hst
  refine thn (hkw.run pos pins s2 σ H2 _ I2 q2) fun ws s3 ⟨zs, H3, I3, rz, l1, l2, q3⟩ => ⟨I3.kIn, ?_⟩
  rw [hks]
  exact run_kbn (us := .ref a :: us) (vs := .ref a :: vs) F hr hb hx I3 (.cons rfl r) rz (by rw [List.length_cons, l1]) l2 q3
end
end Tp
namespace Tp
open PySem PySem.Spec PyProof.Rows L2
/-- what the written part says of an own error class over DyeError (or of DyeError): its __init__ at fI -/
structure ExB (K : PySem.W.Frag) (C fI : Addr) : Prop where
  oex : OexC K C
  iC : PySem.W.findIn K (.ref C) "__init__" = some (some (.ref fI))
  tI : PySem.W.typeIn K (.ref fI) = some (.type "function")
  noT : PySem.W.findIn K (.ref C) "thing" = some none
  xf : XfC K C
  ex : ExcC K C
/-- DyeError.__init__(self, thing) -/
def spDye (K : PySem.W.Frag) : Sp := fun vs H Q _ => ∃ (a C : Addr) (v : V), vs = [.ref a, v] ∧ OexC K C ∧ PySem.W.findIn K (.ref C) "thing" = some none ∧ H a = some (exo a C none) ∧
  ∀ dx, H dx = none → dx ≠ a → Q .non (upd (upd H dx (exd dx [("thing", v)])) a (exo a C (some dx)))
/-- raise C(e) -/
def tRaiseX (K : PySem.W.Frag) (C : Addr) (W : WX) (te : TE) : TS := fun _ σ H => tMkO C (spDye K) [] (tCons te tNil) σ H fun cls d H' => W cls d σ H'
/-- DyeError's __init__ as a def of the text -/
structure Dye (P : Program) (w : World) (K : PySem.W.Frag) (mg : Str → Option Value) (base : Heap) (fI : Addr) : Prop where
  ex : ∃ fd, FnOk P w K mg base CX0 1 fI fd ["self", "thing"] (spDye K) ∧ Binds K fd ["self", "thing"] []
section
variable {X : Cx} {C fI : Addr} {W : WX} {te : TE} {e : Expr} {x : Str} {p pos pos2 : Pos}
theorem ps_raiseX (hc : X.calm = true) (T : ExB X.K C fI) (D : Dye X.prog X.w X.K X.mg X.base fI) (hr : Room 2 X.A) (tk : Takes X W) (hg : Gl X x) (hm : X.mg x = some (.ref C)) (he : PE X e te)
    (hdb : (x == ("__debug__" : Str)) = false := by decide) (hs : starEach (e :: []) X.env = (false, eval e X.env) :: starEach [] X.env := by rfl) (hpl : (backTo pos (starEach [] X.env)).any (·.1) = false := by rfl) :
    PS X (.Raise (some (.Call (.Name x p) [e] [] pos)) none pos2) (tRaiseX X.K C W te) := by
  obtain ⟨fd, F, b⟩ := D.ex
  exact ps_raise hc tk (pmk_oex (dvs := []) (ds := []) T.oex T.iC T.tI F hr b .nil pass0 hg hm (pa_cons he pa_nil hs) hdb hs hpl)
end
theorem raise_post {K : PySem.W.Frag} {C fI : Addr} {H : Hp} {v : V} {Q : XK} (T : ExB K C fI) (h : ∀ d, H d = none → Q (.ref C) (some d) (upd H d (.xd [("thing", v)]))) :
    [v].length ≤ 1000 ∧ ∀ a, H a = none → spDye K (.ref a :: ([v] ++ [])) (upd H a (exo a C none)) (fun u H2 => u = .non ∧ ∃ (d : Addr) (fs : List (Str × V)), H2 a = some (exo a C (some d)) ∧ H2 d = some (exd d fs) ∧ H d = none ∧ Q (.ref C) (some d) (upd (del H2 a) d (.xd fs))) (fun _ _ _ => False) := by
  refine ⟨(by show 1 ≤ 1000; decide), fun a ha => ⟨a, C, v, rfl, T.oex, T.noT, upd_same, fun dx hdx ne => ⟨rfl, dx, [("thing", v)], upd_same, ?_, ?_, ?_⟩⟩⟩
  · rw [upd_ne ne, upd_same]
  · rw [upd_ne ne] at hdx; exact hdx
  · have hd : H dx = none := by rw [upd_ne ne] at hdx; exact hdx
    have e : upd (del (upd (upd (upd H a (exo a C none)) dx (exd dx [("thing", v)])) a (exo a C (some dx))) a) dx (.xd [("thing", v)]) = upd H dx (.xd [("thing", v)]) := by
      funext b
      by_cases hb : b = dx
      · rw [hb, upd_same, upd_same]
      · rw [upd_ne hb, upd_ne hb]
        by_cases hba : b = a
        · rw [hba, del_same, ha]
        · rw [del_ne hba, upd_ne hba, upd_ne hb, upd_ne hba]
    rw [e]
    exact h dx hd
/-- an error of the class at C with the thing v leaves, a new dict beside -/
def Leaves (K : PySem.W.Frag) (E : XK) (C : Addr) (v : V) (H : Hp) : Prop := ∀ d H', H d = none → Ext [] H H' → H' d = some (.xd [("thing", v)]) → E (.ref C) (some d) H'
/-- isinstance(e, c), e the error that the suite holds -/
def rIsXe (K : PySem.W.Frag) (cls : Value) (d : Option Addr) (a : Addr) : List V → Hp → VK → Prop := fun xs H Q => ∃ (c : V) (cv : Value) (b : Bool) (D dd : Addr) (fs : List (Str × V)), xs = [.ref a, c] ∧ cls = .ref D ∧ d = some dd ∧ ExcC K D ∧ H dd = some (.xd fs) ∧ ClsV c cv ∧ PySem.W.kitOne K (.ref D) cv = some b ∧ Q (.bl b) H
theorem call_isXe {X : Cx} {a : Addr} {cls : Value} {d : Option Addr} {oe : Obj} {pn : List (Addr × Obj)} (hz : Zc cls d oe) (hf : ∃ vs, oe.data = .fields vs) : CallR (X.suite a ((a, oe) :: pn)) (.builtin "isinstance") (rIsXe X.K cls d a) := by
  intro pins s σ H xs us Q I r h
  obtain ⟨c, cv, b, D, dd, fs, rfl, rfl, rfl, C, hd, hcv, e, q⟩ := h
  cases r with
  | cons rx rr =>
    cases rr with
    | cons rt rr =>
      cases rr
      cases rx
      obtain ⟨hget, _⟩ := I.pin (a, oe) (List.mem_append.mpr (.inl List.mem_cons_self))
      exact isX_core C I hget hz hf hd rt (fun u r => hcv.eq r) e q
end Tp
namespace Tp
open PySem PySem.Spec PyProof.Rows L2
/-! ### a comprehension over a text -/
theorem lc_str {x : Str} {g : TG} {tt : TT} {te : TE} {vs : List Nat} {σ : L2.St} {H1 : Hp} {D : Addr} {Qd : Hp → Prop} (Pv : Nat → Hp → Prop) (h0 : Pv 0 (upd H1 D (.lst [])))
    (hs : ∀ i c H, x.cps[i]? = some c → Pv i H → g (.str ⟨#[c]⟩) (wipe σ vs) H fun σ2 H2 => wipe σ2 vs = wipe σ vs ∧ tt σ2 H2 fun b H3 =>
      if b = true then te σ2 H3 fun y H4 => ∃ acc, H4 D = some (.lst acc) ∧ acc.length < sizeLine ∧ Pv (i + 1) (upd H4 D (.lst (acc ++ [y]))) else Pv (i + 1) H3) (hd : ∀ H, Pv x.cps.size H → Qd H) :
    ∃ W : Nat → Nat → Hp → Prop, (∃ m, W 0 m (upd H1 D (.lst []))) ∧ ∀ i m H, W i m H →
      ((Its x).stop i H ∧ Qd H) ∨ ((Its x).go i H ∧ ∃ Nx : Hp → Prop, (∀ H', Nx H' → ∃ m', m' < m ∧ W (i + 1) m' H') ∧ ∀ v H', (Its x).yld i H v H' → g v (wipe σ vs) H' fun σ2 H2 => wipe σ2 vs = wipe σ vs ∧ tt σ2 H2 fun b H3 =>
        if b = true then te σ2 H3 fun y H4 => ∃ acc, H4 D = some (.lst acc) ∧ acc.length < sizeLine ∧ Nx (upd H4 D (.lst (acc ++ [y]))) else Nx H3) := by
  refine ⟨fun i m H => m = x.cps.size - i ∧ i ≤ x.cps.size ∧ Pv i H, ⟨x.cps.size, by simp, Nat.zero_le _, h0⟩, ?_⟩
  rintro i m H ⟨rfl, hi, p⟩
  by_cases hlt : i < x.cps.size
  · refine .inr ⟨hlt, Pv (i + 1), fun H' p' => ⟨x.cps.size - (i + 1), by omega, rfl, hlt, p'⟩, fun v H' y => ?_⟩
    obtain ⟨e, c, y, ev⟩ := y
    subst e ev
    exact hs i c _ y p
  · have e : i = x.cps.size := by omega
    subst e
    exact .inl ⟨Nat.le_refl _, hd H p⟩
theorem wipe1 {σ : L2.St} {j : Nat} {x : V} : wipe ((wipe σ [j]).set j (some x)) [j] = wipe σ [j] := by
  show ((σ.set j none).set j (some x)).set j none = σ.set j none
  rw [List.set_set, List.set_set]
/-- the letters of z that stand in L -/
def insL (L z : Str) (n : Nat) : List Bool := (z.cps.toList.take n).map fun c => decide (c ∈ L.cps.toList)
theorem insL_succ {L z : Str} {n : Nat} {c : Nat} (h : z.cps[n]? = some c) : insL L z (n + 1) = insL L z n ++ [decide (c ∈ L.cps.toList)] := by
  unfold insL
  have h' : z.cps.toList[n]? = some c := by rw [Array.getElem?_toList]; exact h
  rw [List.take_add_one, h', List.map_append] <;> rfl
theorem insL_len {L z : Str} {n : Nat} : (insL L z n).length ≤ n := by
  unfold insL
  rw [List.length_map, List.length_take]
  omega
/-- every letter of z stands in L -/
def allL (L z : Str) : Bool := z.cps.toList.all fun c => decide (c ∈ L.cps.toList)
theorem insL_all {L z : Str} : (insL L z z.cps.size).all id = allL L z := by
  unfold insL allL
  rw [List.take_of_length_le (by simp), List.all_map]
  rfl
/-- all([c in L for c in z]) -/
theorem rd_all {K : PySem.W.Frag} {σ : L2.St} {H : Hp} {Q : VK} {j : Nat} {z L : Str} {tv tl : TE} (hj : j < σ.length) (hv : Val tv σ H (.str z)) (hz : z.length ≤ 100000) (hl : ∀ x H', Val tl ((wipe σ [j]).set j (some x)) H' (.str L))
    (q : ∀ D bs, H D = none → Q (.bl (allL L z)) (upd H D (.lst bs))) : tCB (rAll K) (tCons (tLc (iStr tv) (gName j) tYes (tOp rInS (tVar j) tl) [j]) tNil) σ H Q := by
  refine hv _ ⟨z, rfl, fun D hD => ?_⟩
  have hz' : z.cps.size ≤ 100000 := hz
  refine lc_str (fun i H' => i ≤ z.cps.size ∧ H' = upd H D (.lst ((insL L z i).map V.bl))) ⟨Nat.zero_le _, rfl⟩ ?_ ?_
  · rintro i c H' hc ⟨_, rfl⟩
    have hi : i < z.cps.size := (Array.getElem?_eq_some_iff.mp hc).1
    refine ⟨wipe1, ?_⟩
    have hx : ((wipe σ [j]).set j (some (V.str ⟨#[c]⟩)))[j]? = some (some (.str ⟨#[c]⟩)) := by
      rw [List.getElem?_set_self]
      rw [wipe_length]
      exact hj
    show tOp rInS (tVar j) tl ((wipe σ [j]).set j (some (V.str ⟨#[c]⟩))) (upd H D (.lst ((insL L z i).map V.bl))) _
    refine val_var hx _ (hl _ _ _ ⟨c, L, rfl, rfl, _, upd_same, ?_, hi, ?_⟩)
    · rw [List.length_map]
      exact Evl.sz_lt (by have := insL_len (L := L) (z := z) (n := i); omega)
    · rw [upd_upd, insL_succ hc, List.map_append]
      rfl
  · rintro H' ⟨_, rfl⟩
    refine ⟨D, insL L z z.cps.size, rfl, SqL.of upd_same, ?_⟩
    rw [insL_all]
    exact q D _ hD
/-! ### the kinds of values that are passed -/
/-- None, a bool, an int, a text of bounded length, a tuple -/
inductive Ptv (K : PySem.W.Frag) (H : Hp) : V → Prop
  | non : Ptv K H .non
  | bl (b : Bool) : Ptv K H (.bl b)
  | int (i : Int) : Ptv K H (.int i)
  | str {z : Str} (h : z.length ≤ 1000) : Ptv K H (.str z)
  | tup {a : Addr} {xs : List V} (h : SqT K H a xs) : Ptv K H (.ref a)
theorem Ptv.ext {K : PySem.W.Frag} {H H' : Hp} {ms : List Addr} {v : V} (e : Ext ms H H') (h : ∀ a xs, v = .ref a → SqT K H a xs → SqT K H' a xs) (p : Ptv K H v) : Ptv K H' v := by
  cases p with
  | non => exact .non
  | bl b => exact .bl b
  | int i => exact .int i
  | str z => exact .str z
  | tup z => exact .tup (h _ _ rfl z)
def tyNm : V → String
  | .non => "NoneType"
  | .bl _ => "bool"
  | .int _ => "int"
  | .str _ => "str"
  | _ => "tuple"
theorem Ptv.ty {K : PySem.W.Frag} {H : Hp} {v : V} (p : Ptv K H v) : TyX K H v (.type (tyNm v)) := by
  cases p with
  | non => exact .base .non
  | bl b => exact .base (.bl b)
  | int i => exact .base (.int i)
  | str z => exact .base (.str _)
  | tup h =>
    rcases h with (h | ⟨o, h⟩) | ⟨o, its, n, h, c, _⟩
    · exact .base (.tup h)
    · exact .fTuple h
    · exact .kTuple h c
/-- isinstance(v, T) of such a value -/
def isTn (T n : String) : Bool := n == T || (T == "int" && n == "bool")
abbrev isT (T : String) (v : V) : Bool := isTn T (tyNm v)
theorem kit_n {T n : String} (hn : n = "NoneType" ∨ n = "bool" ∨ n = "int" ∨ n = "str" ∨ n = "tuple") (hT : T = "int" ∨ T = "bool" ∨ T = "str" ∨ T = "tuple") : kitB n T = some (isTn T n) := by
  rcases hT with rfl | rfl | rfl | rfl <;> rcases hn with rfl | rfl | rfl | rfl | rfl <;> decide +kernel
theorem Ptv.nm {K : PySem.W.Frag} {H : Hp} {v : V} (p : Ptv K H v) : tyNm v = "NoneType" ∨ tyNm v = "bool" ∨ tyNm v = "int" ∨ tyNm v = "str" ∨ tyNm v = "tuple" := by
  cases p with
  | non => exact .inl rfl
  | bl b => exact .inr (.inl rfl)
  | int i => exact .inr (.inr (.inl rfl))
  | str z => exact .inr (.inr (.inr (.inl rfl)))
  | tup h => exact .inr (.inr (.inr (.inr rfl)))
theorem Ptv.kit {K : PySem.W.Frag} {H : Hp} {v : V} (p : Ptv K H v) {T : String} (hT : T = "int" ∨ T = "bool" ∨ T = "str" ∨ T = "tuple") : PySem.W.kitOne K (.type (tyNm v)) (.type T) = some (isT T v) := kit_ty (kit_n p.nm hT)
/-- a whole number -/
def isWhole : V → Bool
  | .int _ => true
  | _ => false
theorem whole_n {n : String} (hn : n = "NoneType" ∨ n = "bool" ∨ n = "int" ∨ n = "str" ∨ n = "tuple") : (isTn "int" n && !isTn "bool" n) = (n == "int") := by
  rcases hn with rfl | rfl | rfl | rfl | rfl <;> decide +kernel
theorem whole_eq {K : PySem.W.Frag} {H : Hp} {v : V} (p : Ptv K H v) : (isT "int" v && !isT "bool" v) = isWhole v := by
  rw [whole_n p.nm]
  cases p <;> rfl
theorem str_eq {K : PySem.W.Frag} {H : Hp} {v : V} (p : Ptv K H v) : isT "str" v = (match v with | .str _ => true | _ => false) := by
  cases p <;> rfl
def spWhole (K : PySem.W.Frag) : Sp := fun vs H Q _ => ∃ v, vs = [v] ∧ Ptv K H v ∧ Q (.bl (isWhole v)) H
end Tp
namespace Tp
open PySem PySem.Spec PyProof.Rows L2
/-! ### names -/
def Lz : Str := "abcdefghijklmnopqrstuvwxyz"
/-- 1 to 12 small letters -/
def nmS (z : Str) : Bool := decide ((1 : Int) ≤ (z.length : Int)) && (decide ((z.length : Int) ≤ 12) && allL Lz z)
def isNm : V → Bool
  | .str z => nmS z
  | _ => false
def spIsName (K : PySem.W.Frag) : Sp := fun vs H Q _ => ∃ v, vs = [v] ∧ Ptv K H v ∧ ∀ H', Ext [] H H' → Q (.bl (isNm v)) H'
/-- _check_new(name, known): B, N the classes that refuse; hit: the name is known -/
def spCheckNew (K : PySem.W.Frag) (B N : Addr) (kn : Hp → V → (Str → Bool) → Prop) : Sp := fun vs H Q E => ∃ v k hit, vs = [v, k] ∧ Ptv K H v ∧ kn H k hit ∧
  (isNm v = false → Leaves K E B v H) ∧ (∀ z, v = .str z → nmS z = true → hit z = true → Leaves K E N v H) ∧ (∀ z, v = .str z → nmS z = true → hit z = false → ∀ H', Ext [] H H' → Q .non H')
/-- what is known: the keys of a dict -/
def knD : Hp → V → (Str → Bool) → Prop := fun H k hit => ∃ d kvs, k = .ref d ∧ H d = some (.dK kvs) ∧ ∀ z, hit z = (valV kvs (Sum.inr z : Key)).isSome
/-- what is known: a list of texts -/
def knL (K : PySem.W.Frag) : Hp → V → (Str → Bool) → Prop := fun H k hit => ∃ (a : Addr) (zs : List Str), k = .ref a ∧ H a = some (.lst (zs.map V.str)) ∧ ∀ z, hit z = inV (.str z) (zs.map V.str)
/-- _check_known(name, known) -/
def spCheckKnown (K : PySem.W.Frag) (U : Addr) (kn : Hp → V → (Str → Bool) → Prop) : Sp := fun vs H Q E => ∃ v k hit, vs = [v, k] ∧ Ptv K H v ∧ kn H k hit ∧
  ((∀ z, v = .str z → hit z = false) → Leaves K E U v H) ∧ (∀ z, v = .str z → hit z = true → Q .non H)
/-- _check_room(things, most) -/
def szD : Hp → V → Nat → Prop := fun H k n => ∃ d kvs, k = .ref d ∧ H d = some (.dK kvs) ∧ n = kvs.length
def szL : Hp → V → Nat → Prop := fun H k n => ∃ a xs, k = .ref a ∧ H a = some (.lst xs) ∧ n = xs.length
def spCheckRoom (K : PySem.W.Frag) (F : Addr) (sz : Hp → V → Nat → Prop) : Sp := fun vs H Q E => ∃ k n most, vs = [k, .int most] ∧ sz H k n ∧ (most ≤ (n : Int) → Leaves K E F (.int most) H) ∧ ((n : Int) < most → Q .non H)
theorem leaves_now {K : PySem.W.Frag} {E : XK} {C fI : Addr} {v : V} {H H1 : Hp} (T : ExB K C fI) (L : Leaves K E C v H) (e : Ext [] H H1) :
    [v].length ≤ 1000 ∧ ∀ a, H1 a = none → spDye K (.ref a :: ([v] ++ [])) (upd H1 a (exo a C none)) (fun u H2 => u = .non ∧ ∃ (d : Addr) (fs : List (Str × V)), H2 a = some (exo a C (some d)) ∧ H2 d = some (exd d fs) ∧ H1 d = none ∧ E (.ref C) (some d) (upd (del H2 a) d (.xd fs))) (fun _ _ _ => False) :=
  raise_post T fun d hd => L d _ (e.none hd (by simp)) (e.trans (Ext.new hd)) upd_same
end Tp
namespace Tp
open PySem PySem.Spec PyProof.Rows L2
/-! ### the book as an object -/
structure Bk where
  dx : Addr
  dk : Addr
  lt : Addr
  lp : Addr
  dc : Addr
  ld : Addr
  lf : Addr
def fsB (b : Int) (A : Bk) : List (Str × V) := [("_bound", .int b), ("_kinds", .ref A.dk), ("_thirsts", .ref A.lt), ("_pots", .ref A.lp), ("_cloths", .ref A.dc), ("_dips", .ref A.ld), ("_facts", .ref A.lf)]
theorem fsB_bound {b : Int} {A : Bk} : (fsB b A).lookup ("_bound" : Str) = some (V.int b) := by rfl
theorem fsB_kinds {b : Int} {A : Bk} : (fsB b A).lookup ("_kinds" : Str) = some (V.ref A.dk) := by rfl
theorem fsB_thirsts {b : Int} {A : Bk} : (fsB b A).lookup ("_thirsts" : Str) = some (V.ref A.lt) := by rfl
theorem fsB_pots {b : Int} {A : Bk} : (fsB b A).lookup ("_pots" : Str) = some (V.ref A.lp) := by rfl
theorem fsB_cloths {b : Int} {A : Bk} : (fsB b A).lookup ("_cloths" : Str) = some (V.ref A.dc) := by rfl
theorem fsB_dips {b : Int} {A : Bk} : (fsB b A).lookup ("_dips" : Str) = some (V.ref A.ld) := by rfl
theorem fsB_facts {b : Int} {A : Bk} : (fsB b A).lookup ("_facts" : Str) = some (V.ref A.lf) := by rfl
/-- no attribute of that name -/
theorem fsB_no {b : Int} {A : Bk} {m : Str} (h : m = "add_kind" ∨ m = "add_pot" ∨ m = "add_cloth" ∨ m = "kinds" ∨ m = "pots" ∨ m = "cloths" ∨ m = "dip" ∨ m = "thirsts" ∨ m = "add_thirst") : (fsB b A).lookup m = none := by
  rcases h with rfl | rfl | rfl | rfl | rfl | rfl | rfl | rfl | rfl <;> rfl
theorem fsB_make {b : Int} {A : Bk} : putF "_facts" (.ref A.lf) (putF "_dips" (.ref A.ld) (putF "_cloths" (.ref A.dc) (putF "_pots" (.ref A.lp) (putF "_thirsts" (.ref A.lt) (putF "_kinds" (.ref A.dk) (putF "_bound" (.int b) [])))))) = fsB b A := by rfl
abbrev kvB (ks : List (Str × V)) : List (Key × V) := ks.map fun q => (Sum.inr q.1, q.2)
structure BookAt (C : Addr) (H : Hp) (p : Addr) (b : Int) (A : Bk) (ks : List (Str × V)) (ts : List V) (ps : List Str) (cs : List (Str × V)) (ds fs : List V) : Prop where
  ob : H p = some (.ins C A.dx (fsB b A))
  dk : H A.dk = some (.dK (kvB ks))
  lt : H A.lt = some (.lst ts)
  lp : H A.lp = some (.lst (ps.map V.str))
  dc : H A.dc = some (.dK (kvB cs))
  ld : H A.ld = some (.lst ds)
  lf : H A.lf = some (.lst fs)
  nk : A.dk ≠ A.dc
  n1 : A.lt ≠ A.lp
  n2 : A.lt ≠ A.ld
  n3 : A.lt ≠ A.lf
  n4 : A.lp ≠ A.ld
  n5 : A.lp ≠ A.lf
  n6 : A.ld ≠ A.lf
/-- where the book's parts stand -/
abbrev Bk.all (A : Bk) (p : Addr) : List Addr := [p, A.dk, A.lt, A.lp, A.dc, A.ld, A.lf]
section
variable {C p : Addr} {H H' : Hp} {b : Int} {A : Bk} {ks cs : List (Str × V)} {ts ds fs : List V} {ps : List Str} {ms : List Addr}
theorem BookAt.ext (B : BookAt C H p b A ks ts ps cs ds fs) (e : Ext ms H H') (h : ∀ a ∈ A.all p, a ∉ ms) : BookAt C H' p b A ks ts ps cs ds fs :=
  ⟨e.keep _ _ B.ob (h _ (by simp)), e.keep _ _ B.dk (h _ (by simp)), e.keep _ _ B.lt (h _ (by simp)), e.keep _ _ B.lp (h _ (by simp)), e.keep _ _ B.dc (h _ (by simp)), e.keep _ _ B.ld (h _ (by simp)), e.keep _ _ B.lf (h _ (by simp)),
    B.nk, B.n1, B.n2, B.n3, B.n4, B.n5, B.n6⟩
theorem BookAt.p_ne (B : BookAt C H p b A ks ts ps cs ds fs) : p ≠ A.dk ∧ p ≠ A.lt ∧ p ≠ A.lp ∧ p ≠ A.dc ∧ p ≠ A.ld ∧ p ≠ A.lf :=
  ⟨ne_of B.ob B.dk (by intro z; cases z), ne_of B.ob B.lt (by intro z; cases z), ne_of B.ob B.lp (by intro z; cases z), ne_of B.ob B.dc (by intro z; cases z), ne_of B.ob B.ld (by intro z; cases z), ne_of B.ob B.lf (by intro z; cases z)⟩
theorem BookAt.setK (B : BookAt C H p b A ks ts ps cs ds fs) (ks' : List (Str × V)) : BookAt C (upd H A.dk (.dK (kvB ks'))) p b A ks' ts ps cs ds fs :=
  ⟨by rw [upd_ne B.p_ne.1]; exact B.ob, upd_same, by rw [upd_ne (ne_of B.lt B.dk (by intro z; cases z))]; exact B.lt, by rw [upd_ne (ne_of B.lp B.dk (by intro z; cases z))]; exact B.lp, by rw [upd_ne B.nk.symm]; exact B.dc,
    by rw [upd_ne (ne_of B.ld B.dk (by intro z; cases z))]; exact B.ld, by rw [upd_ne (ne_of B.lf B.dk (by intro z; cases z))]; exact B.lf, B.nk, B.n1, B.n2, B.n3, B.n4, B.n5, B.n6⟩
theorem BookAt.setC (B : BookAt C H p b A ks ts ps cs ds fs) (cs' : List (Str × V)) : BookAt C (upd H A.dc (.dK (kvB cs'))) p b A ks ts ps cs' ds fs :=
  ⟨by rw [upd_ne B.p_ne.2.2.2.1]; exact B.ob, by rw [upd_ne B.nk]; exact B.dk, by rw [upd_ne (ne_of B.lt B.dc (by intro z; cases z))]; exact B.lt, by rw [upd_ne (ne_of B.lp B.dc (by intro z; cases z))]; exact B.lp, upd_same,
    by rw [upd_ne (ne_of B.ld B.dc (by intro z; cases z))]; exact B.ld, by rw [upd_ne (ne_of B.lf B.dc (by intro z; cases z))]; exact B.lf, B.nk, B.n1, B.n2, B.n3, B.n4, B.n5, B.n6⟩
theorem BookAt.setP (B : BookAt C H p b A ks ts ps cs ds fs) (ps' : List Str) : BookAt C (upd H A.lp (.lst (ps'.map V.str))) p b A ks ts ps' cs ds fs :=
  ⟨by rw [upd_ne B.p_ne.2.2.1]; exact B.ob, by rw [upd_ne (ne_of B.dk B.lp (by intro z; cases z))]; exact B.dk, by rw [upd_ne B.n1]; exact B.lt, upd_same, by rw [upd_ne (ne_of B.dc B.lp (by intro z; cases z))]; exact B.dc,
    by rw [upd_ne B.n4.symm]; exact B.ld, by rw [upd_ne B.n5.symm]; exact B.lf, B.nk, B.n1, B.n2, B.n3, B.n4, B.n5, B.n6⟩
end
/-- a whole number from lo to hi -/
def btw (lo hi : Int) : V → Prop
  | .int i => lo ≤ i ∧ i ≤ hi
  | _ => False
def spBetween (K : PySem.W.Frag) (N : Addr) : Sp := fun vs H Q E => ∃ v lo hi, vs = [v, .int lo, .int hi] ∧ Ptv K H v ∧ (btw lo hi v → Q .non H) ∧ (¬ btw lo hi v → Leaves K E N v H)
/-- Book.__init__(self, bound) -/
def spBookInit (K : PySem.W.Frag) (C N : Addr) : Sp := fun vs H Q E => ∃ (p dx : Addr) (v : V), vs = [.ref p, v] ∧ Ptv K H v ∧ H p = some (.ins C dx []) ∧ (¬ btw 0 24 v → Leaves K E N v H) ∧
  (∀ i A H', v = .int i → 0 ≤ i → i ≤ 24 → BookAt C H' p i A [] [] [] [] [] [] → (∀ a ∈ [A.dk, A.lt, A.lp, A.dc, A.ld, A.lf], H a = none) → A.dx = dx → Ext [p] H H' → Q .non H')
/-- what add_kind refuses: the class's name, the thing -/
def refK (ks : List (Str × V)) (v h : V) (okh : Bool) : Option (Str × V) :=
  match v with
  | .str z => if nmS z = false then some ("BadName", v) else if z ∈ ks.map (·.1) then some ("Known", v) else if okh = false then some (("BadHold" : Str), h) else if 8 ≤ ks.length then some (("Full" : Str), V.int 8) else none
  | _ => some ("BadName", v)
def refP (ps : List Str) (v : V) : Option (Str × V) :=
  match v with
  | .str z => if nmS z = false then some ("BadName", v) else if z ∈ ps then some ("Known", v) else if 8 ≤ ps.length then some (("Full" : Str), V.int 8) else none
  | _ => some ("BadName", v)
def refC2 (cs ks : List (Str × V)) : V → Option (Str × V)
  | .str y => if y ∈ ks.map (·.1) then (if 8 ≤ cs.length then some (("Full" : Str), V.int 8) else none) else some (("Unknown" : Str), .str y)
  | k => some (("Unknown" : Str), k)
def refC (cs ks : List (Str × V)) (v k : V) : Option (Str × V) :=
  match v with
  | .str z => if nmS z = false then some ("BadName", v) else if z ∈ cs.map (·.1) then some ("Known", v) else refC2 cs ks k
  | _ => some ("BadName", v)
theorem Leaves.ext {K : PySem.W.Frag} {E : XK} {C : Addr} {v : V} {H H1 : Hp} (L : Leaves K E C v H) (e : Ext [] H H1) : Leaves K E C v H1 := fun d H' h1 h2 h3 => L d H' (e.none h1 (by simp)) (e.trans h2) h3
def holdD (d : PyData) : Bool := [PyData.str "fast", .str "loose", .str "unsure"].any fun z => PyData.eqv z d
/-- Book.add_kind(self, name, hold) -/
def spAddKind (K : PySem.W.Frag) (C : Addr) : Sp := fun vs H Q E => ∃ p v h d i A ks ts ps cs ds fs, vs = [.ref p, v, h] ∧ Ptv K H v ∧ Im H h d ∧ okD d ∧ BookAt C H p i A ks ts ps cs ds fs ∧ ks.length ≤ 1000 ∧
  (∀ c t, refK ks v h (holdD d) = some (c, t) → Leaves K E (He.ga K c) t H) ∧
  (refK ks v h (holdD d) = none → ∀ H', Ext [A.dk] H H' → BookAt C H' p i A (ks ++ [(match v with | .str z => z | _ => ⟨#[]⟩, h)]) ts ps cs ds fs → Q .non H')
/-- Book.add_pot(self, name) -/
def spAddPot (K : PySem.W.Frag) (C : Addr) : Sp := fun vs H Q E => ∃ p v i A ks ts ps cs ds fs, vs = [.ref p, v] ∧ Ptv K H v ∧ BookAt C H p i A ks ts ps cs ds fs ∧ ps.length ≤ 1000 ∧
  (∀ c t, refP ps v = some (c, t) → Leaves K E (He.ga K c) t H) ∧
  (refP ps v = none → ∀ H', Ext [A.lp] H H' → BookAt C H' p i A ks ts (ps ++ [match v with | .str z => z | _ => ⟨#[]⟩]) cs ds fs → Q .non H')
/-- Book.add_cloth(self, name, kind) -/
def spAddCloth (K : PySem.W.Frag) (C : Addr) : Sp := fun vs H Q E => ∃ p v k i A ks ts ps cs ds fs, vs = [.ref p, v, k] ∧ Ptv K H v ∧ Ptv K H k ∧ (∀ H', Ext [] H H' → Ptv K H' k) ∧ BookAt C H p i A ks ts ps cs ds fs ∧ cs.length ≤ 1000 ∧
  (∀ c t, refC cs ks v k = some (c, t) → Leaves K E (He.ga K c) t H) ∧
  (refC cs ks v k = none → ∀ H', Ext [A.dc] H H' → BookAt C H' p i A ks ts ps (cs ++ [(match v with | .str z => z | _ => ⟨#[]⟩, k)]) ds fs → Q .non H')
theorem refK_name {ks : List (Str × V)} {v h : V} {o : Bool} (e : isNm v = false) : refK ks v h o = some (("BadName" : Str), v) := by
  cases v with
  | str z => exact if_pos (show nmS z = false from e)
  | _ => rfl
theorem refP_name {ps : List Str} {v : V} (e : isNm v = false) : refP ps v = some (("BadName" : Str), v) := by
  cases v with
  | str z => exact if_pos (show nmS z = false from e)
  | _ => rfl
theorem refC_name {cs ks : List (Str × V)} {v k : V} (e : isNm v = false) : refC cs ks v k = some (("BadName" : Str), v) := by
  cases v with
  | str z => exact if_pos (show nmS z = false from e)
  | _ => rfl
/-- a list of pairs (text, value), each a new tuple -/
def prsAt (H : Hp) (ts : List Addr) (ks : List (Str × V)) : Prop := Paired (fun (t : Addr) (q : Str × V) => H t = some (.tup [.str q.1, q.2])) ts ks
/-- kinds(), cloths(): a new list of new pairs -/
def spPairs (C : Addr) (which : Bool) : Sp := fun vs H Q _ => ∃ p i A ks ts ps cs ds fs, vs = [.ref p] ∧ BookAt C H p i A ks ts ps cs ds fs ∧
  ∀ a as H', H a = none → Ext [] H H' → H' a = some (.lst (as.map V.ref)) → prsAt H' as (if which then ks else cs) → Q (.ref a) H'
/-- the keys of such a dict -/
theorem valV_kvB {z : Str} : ∀ {ks : List (Str × V)}, (valV (kvB ks) (Sum.inr z : Key)).isSome = decide (z ∈ ks.map (·.1))
  | [] => rfl
  | q :: ks => by
    by_cases h : q.1 = z
    · have e : valV (kvB (q :: ks)) (Sum.inr z : Key) = some q.2 := valV_pos (p := (Sum.inr q.1, q.2)) (by rw [h])
      rw [e]
      subst h
      simp
    · have e : valV (kvB (q :: ks)) (Sum.inr z : Key) = valV (kvB ks) (Sum.inr z : Key) := valV_neg (p := (Sum.inr q.1, q.2)) (fun x => h (Sum.inr.inj x))
      rw [e, valV_kvB (ks := ks)]
      have h' : ¬ z = q.1 := fun x => h x.symm
      simp [h']
theorem putK_kvB {z : Str} {v : V} {ks : List (Str × V)} (h : z ∉ ks.map (·.1)) : putK (kvB ks) (Sum.inr z : Key) v = kvB (ks ++ [(z, v)]) := by
  have e : valV (kvB ks) (Sum.inr z : Key) = none := by
    have := valV_kvB (z := z) (ks := ks)
    rw [decide_eq_false h] at this
    simpa using this
  rw [putK_new _ e]
  show _ = List.map _ (ks ++ [(z, v)])
  rw [List.map_append]
  rfl
theorem inV_strs {z : Str} : ∀ {zs : List Str}, inV (.str z) (zs.map V.str) = decide (z ∈ zs)
  | [] => rfl
  | y :: zs => by
    show ((y == z) || inV (.str z) (zs.map V.str)) = _
    rw [inV_strs (zs := zs)]
    by_cases h : y = z
    · subst h; simp
    · have h' : ¬ z = y := fun x => h x.symm
      simp [h, h']
end Tp
namespace Tp
open PySem PySem.Spec PyProof.Rows L2
/-! ### the source of draws as it stands in a heap -/
def SrcAt (H : Hp) (S L : Addr) : Prop := ∃ (cells : List Int) (i k g : Int), H S = some (srcO L i k g) ∧ H L = some (.lst (cells.map V.int)) ∧ SrcOk cells i k g
/-- _law_draw(source, many), the heap told by what stays -/
def spDrawE : Sp := fun vs H Q _ => ∃ (S L : Addr) (many : Int), vs = [.ref S, .int many] ∧ SrcAt H S L ∧ 0 < many ∧ many < 2 ^ 200 ∧ ∀ n H', 0 ≤ n → n < many → Ext [S] H H' → SrcAt H' S L → Q (.int n) H'
theorem src_ne {H : Hp} {S L : Addr} {cells : List Int} {i k g : Int} (hS : H S = some (srcO L i k g)) (hL : H L = some (.lst (cells.map V.int))) : L ≠ S := by
  intro e; rw [e, hS] at hL
  have z := Option.some.inj hL
  injection z with z
  cases cells <;> simp at z
theorem draw_imp : ∀ vs H Q E, spDrawE vs H Q E → spDraw vs H Q E := by
  rintro vs H Q E ⟨S, L, many, rfl, ⟨cells, i, k, g, hS, hL, ok⟩, h1, h2, q⟩
  refine ⟨S, L, cells, i, k, g, many, rfl, hS, hL, ok, h1, h2, fun n i' k' g' n0 n1 ok' => q n _ n0 n1 (Ext.refl.mut (by simp) fun xs z => by rw [hS] at z; cases z) ⟨cells, i', k', g', upd_same, ?_, ok'⟩⟩
  rw [upd_ne (src_ne hS hL)]
  exact hL
theorem SrcAt.ext {H H' : Hp} {S L : Addr} (s : SrcAt H S L) (e : Ext [] H H') : SrcAt H' S L := by
  obtain ⟨cells, i, k, g, hS, hL, ok⟩ := s
  exact ⟨cells, i, k, g, e.same _ _ hS, e.same _ _ hL, ok⟩
/-- _law_source(script): a new source -/
def spSource (K : PySem.W.Frag) : Sp := fun vs H Q _ => ∃ (a : Addr) (ns : List Int), vs = [.ref a] ∧ SqL K H a (ns.map V.int) ∧ ns.length ≤ 63 ∧ ∀ S L H', H S = none → H L = none → Ext [] H H' → SrcAt H' S L → Q (.ref S) H'
end Tp
namespace Tp
open PySem PySem.Spec PyProof.Rows L2
section
variable {σ : L2.St} {H : Hp} {Q : VK} {E : XK} {te : TE} {S L : Addr} {many : Int} {i : Nat}
/-- a draw, as an expression -/
theorem draw_ex (h0 : σ[i]? = some (some (.ref S))) (hS : SrcAt H S L) (hm : 0 < many) (hm2 : many < 2 ^ 200) (he : Val te σ H (.int many)) (q : ∀ n H', 0 ≤ n → n < many → Ext [S] H H' → SrcAt H' S L → Q (.int n) H') :
    tCall spDrawE [] E (tCons (tVar i) (tCons te tNil)) σ H Q := ⟨_, h0, he _ ⟨S, L, many, rfl, hS, hm, hm2, q⟩⟩
theorem SrcAt.new {o : HO} {a : Addr} (s : SrcAt H S L) (h : H a = none) : SrcAt (upd H a o) S L := s.ext (Ext.new h)
end
end Tp
/-! F: a def called within an except suite, the error held as an argument; list.count of a bool -/
namespace Tp
open PySem PySem.Spec PyProof.Rows L2 He
abbrev SpE := Addr → Value → Option Addr → Sp
structure FnE (P : Program) (w : World) (K : PySem.W.Frag) (mg : Str → Option Value) (base : Heap) (CX : CXT) (k : Nat) (f : Addr) (fd : FuncData) (ps : List Str) (sp : SpE) : Prop where
  len : ∀ a cls d vs H Q E, sp a cls d vs H Q E → vs.length = ps.length
  run : ∀ (A : Around) (outer : List Env) (s : Shared) (H : Hp) (args : Args) (us : List Value) (vs : List V) (Q : VK) (E : XK) (p : Addr × Obj) (cls : Value) (d : Option Addr), L2H.RoomH k A → Zc cls d p.2 → (∃ v, p.2.data = .fields v) → L2H.PinOk outer H s p → Env0 P w K mg base A outer s H →
    BindsTo s fd args (ps.zip us) → Vals vs us → sp p.1 cls d vs H Q E → codeAny (model P w) A (.call (.ref f) args) (CR CX outer P w H s Q E) s
structure DfE (P : Program) (w : World) (K : PySem.W.Frag) (mg : Str → Option Value) (base : Heap) (CX : CXT) (k : Nat) (x : Str) (ps : List Str) (sp : SpE) : Prop where
  mg_ : mg x = some (.ref (ga K x))
  kp : PySem.W.keepIn K (.ref (ga K x)) = true
  ex : ∃ fd, FnE P w K mg base CX k (ga K x) fd ps sp ∧ Binds K fd ps []
theorem DfE.mk' {P : Program} {w : World} {K : PySem.W.Frag} {mg : Str → Option Value} {base : Heap} {CX : CXT} {k : Nat} {x : Str} {ps : List Str} {sp : SpE} {st : Stmt} (hm : mg x = some (.ref (ga K x))) (hF : ∃ fd, FnP K x st fd)
    (hb : ∀ (kV doc pm : Value) (an : Option Addr) (cdv ct : Value) (us : List Value), us.length = ps.length → bindArgs (PySem.W.fnOf x x (defArgs st) (defBody st) (defScope st) .none kV doc pm an cdv ct) ⟨us, []⟩ = pure (ps.zip us))
    (h : ∀ fd, FnP K x st fd → FnE P w K mg base CX k (ga K x) fd ps sp) : DfE P w K mg base CX k x ps sp := by
  obtain ⟨fd, F⟩ := hF
  exact ⟨hm, F.kp, fd, h fd F, F.bindsN hb⟩
section
variable {X : Cx} {CX : CXT} {k : Nat} {f : Addr} {fd : FuncData} {ps : List Str} {sp : SpE} {E : XK} {x : Str} {e : Expr} {es : List Expr} {t : TA} {q pos : Pos} {a : Addr} {oe : Obj} {cls : Value} {d : Option Addr} {pn : List (Addr × Obj)}
end
/-! ### list.count(True) -/
theorem gset {i : Nat} {x : V} {σ : L2.St} {H : Hp} {k : L2.St → Hp → Prop} (h : k (σ.set i (some x)) H) : gName i x σ H k := h
end Tp
/-! G: method calls in a try, what leaves told at the slots -/
namespace Tp
open PySem PySem.Spec PyProof.Rows L2 He
section
variable {X : Cx} {CX : CXT} {k n : Nat} {f C : Addr} {fd : FuncData} {ps ks : List Str} {sp : Sp} {E : L2.St → XK} {x m : Str} {p pos apos : Pos} {o e : Expr} {es : List Expr} {kws : List Keyword} {ta : TE} {t tk : TA} {dvs : List V} {ds : List Value}
  {g : List Value → List Value → List Value} {gV : List V → List V → List V}
def tMethS (C : Addr) (m : Str) (sp : Sp) (dvs : List V) (E : L2.St → XK) (ta : TE) (t : TA) : TE := fun σ H Q => ta σ H fun x H1 => ∃ a dx fs, x = .ref a ∧ H1 a = some (.ins C dx fs) ∧ fs.lookup m = none ∧ t σ H1 fun vs H2 => sp (x :: (vs ++ dvs)) H2 Q (E σ)
theorem run_fnSd {pins : List (Addr × Obj)} {σ : L2.St} {H : Hp} {s : Shared} {Q : VK} {us : List Value} {vs : List V} (F : FnOk X.prog X.w X.K X.mg X.base CX k f fd ps sp) (hr : Room k X.A) (hb : Binds X.K fd ps ds) (hd : Vals dvs ds) (hx : PassesAt CX X σ (E σ))
    (I : Inv X pins σ H s) (r : Vals vs us) (h : sp (vs ++ dvs) H Q (E σ)) : wpAny (model X.prog X.w) X.A (call (.ref f) us) (EP X pins σ Q) X.xe s := by
  have r2 : Vals (vs ++ dvs) (us ++ ds) := r.append hd
  have hl : (us ++ ds).length = ps.length := by rw [← r2.length]; exact F.len _ _ _ _ h
  refine wpAny_call (codeAny_mono (F.run X.A X.stack s H ⟨us, []⟩ (us ++ ds) (vs ++ dvs) Q (E σ) hr I.env0 (hb s us I.kIn hl) r2 h) fun r s' hq => ?_)
  cases r with
  | error e => exact hx pins H s e s' I hq
  | ok fl =>
    cases fl with
    | ret u => exact I.after hq
    | next => exact False.elim hq
    | brk => exact False.elim hq
    | cont => exact False.elim hq
theorem pe_methS {pl : Sem Bool} (he : PE X o ta) (c : Cls X.K C) (hm : Meth X.K C m f) (F : FnOk X.prog X.w X.K X.mg X.base CX k f fd ps sp) (hr : Room k X.A) (hb : Binds X.K fd ps ds) (hd : Vals dvs ds) (hx : ∀ σ, PassesAt CX X σ (E σ)) (ha : PA X (e :: es) t)
    (hst : starEach (e :: es) X.env = (false, eval e X.env) :: starEach es X.env := by rfl) (hpl : (backTo pos (starEach es X.env)).any (·.1) = false := by rfl)
    (ht : eval (.Call (.Attribute o m apos) (e :: es) [] pos) X.env = (do
      let ov ← eval o X.env
      standAt apos.atName
      let (f, first) ← holding [ov] (getMethod ov m pl)
      callWith pos f first (backTo pos (starEach (e :: es) X.env)) (backToKw pos (keywordEach [] X.env))) := by rfl) :
    PE X (.Call (.Attribute o m apos) (e :: es) [] pos) (tMethS C m sp dvs E ta t) := by
  refine ⟨fun pins s σ H Q I h => ?_⟩
  refine PySem.W.methodCall_KW (pl := pl) (thn (he.run pins s σ H _ I h) fun u s1 ⟨x, H1, I1, rx, a, dx, fs, ex, ea, l, q⟩ => ?_) ht
  subst ex
  obtain rfl : u = Value.ref a := rx
  refine getmeth_ok I1 ea c hm l ?_
  refine PySem.W.callWith_K (first := [.ref a]) (h₀ := X.base) I.ok.mod.kin hm.kp (thn (ha.run pos pins s1 σ H1 _ I1 q) fun us s2 ⟨vs, H2, I2, r, q2⟩ => ⟨I2.kIn, ?_⟩) hst hpl
  exact run_fnSd (us := .ref a :: us) (vs := .ref a :: vs) F hr hb hd (hx σ) I2 (.cons rfl r) q2
end
end Tp
/-! W: the words of a law's numbers: which, that they differ -/
namespace Tp
open PySem PySem.Spec PyProof.Rows L2 He
/-- the digits of a number, the last first; 26 of them, no digit for nothing -/
def dig : Nat → Nat → List Nat
  | 0, _ => []
  | f + 1, n => n % 26 :: (if n / 26 = 0 then [] else dig f (n / 26 - 1))
def cap : Nat → Nat
  | 0 => 0
  | f + 1 => 26 + 26 * cap f
def valD26 : List Nat → Nat
  | [] => 0
  | d :: ds => d + 1 + 26 * valD26 ds
theorem val_dig : ∀ (f n : Nat), n + 1 ≤ cap f → valD26 (dig f n) = n + 1
  | 0, n, h => by simp [cap] at h
  | f + 1, n, h => by
    have hc : n + 1 ≤ 26 + 26 * cap f := h
    show n % 26 + 1 + 26 * valD26 (if n / 26 = 0 then [] else dig f (n / 26 - 1)) = n + 1
    by_cases h0 : n / 26 = 0
    · rw [if_pos h0]
      show n % 26 + 1 + 26 * 0 = n + 1
      omega
    · rw [if_neg h0, val_dig f (n / 26 - 1) (by omega)]
      omega
theorem dig_inj {f n m : Nat} (hn : n + 1 ≤ cap f) (hm : m + 1 ≤ cap f) (h : dig f n = dig f m) : n = m := by
  have h1 := val_dig f n hn
  have h2 := val_dig f m hm
  rw [h, h2] at h1
  omega
theorem dig_len : ∀ (f n : Nat), (dig f n).length ≤ f
  | 0, _ => Nat.le_refl _
  | f + 1, n => by
    show (if n / 26 = 0 then [] else dig f (n / 26 - 1)).length + 1 ≤ f + 1
    split
    · exact Nat.succ_le_succ (Nat.zero_le _)
    · exact Nat.succ_le_succ (dig_len f _)
theorem dig_lt : ∀ (f n : Nat), ∀ d ∈ dig f n, d < 26
  | 0, _, d, h => by cases h
  | f + 1, n, d, h => by
    have h' : d ∈ n % 26 :: (if n / 26 = 0 then [] else dig f (n / 26 - 1)) := h
    rcases List.mem_cons.mp h' with rfl | h2
    · exact Nat.mod_lt _ (by decide)
    · split at h2
      · cases h2
      · exact dig_lt f _ d h2
/-- digits as a text -/
def txtD (ds : List Nat) : Str := ⟨(ds.reverse.map (· + 97)).toArray⟩
def wordOf (n : Nat) : Str := txtD (dig 12 n)
theorem txtD_inj {a b : List Nat} (h : txtD a = txtD b) : a = b := by
  have h1 : (a.reverse.map (· + 97)) = (b.reverse.map (· + 97)) := by
    have := congrArg (fun z : Str => z.cps.toList) h
    simpa [txtD] using this
  have h2 := (List.map_inj_right (fun x y (e : x + 97 = y + 97) => by omega)).mp h1
  exact List.reverse_inj.mp h2
theorem word_inj {n m : Nat} (hn : n + 1 ≤ cap 12) (hm : m + 1 ≤ cap 12) (h : wordOf n = wordOf m) : n = m := dig_inj hn hm (txtD_inj h)
theorem txtD_len {ds : List Nat} : (txtD ds).length = ds.length := by
  show Array.size _ = _
  simp [txtD]
theorem txtD_app {a b : List Nat} : txtD (a ++ b) = txtD b ++ txtD a := by
  show (⟨_⟩ : Str) = ⟨_⟩
  congr 1
  simp [txtD]
theorem lz_at {d : Nat} (h : d < 26) : Lz.cps.toList[d]? = some (d + 97) := by
  have : ∀ d < 26, Lz.cps.toList[d]? = some (d + 97) := by decide +kernel
  exact this d h
theorem lz_mem {d : Nat} (h : d < 26) : d + 97 ∈ Lz.cps.toList := List.mem_of_getElem? (lz_at h)
/-- a text of letters -/
theorem nm_txtD {ds : List Nat} (h : ∀ d ∈ ds, d < 26) (h1 : 1 ≤ ds.length) (h2 : ds.length ≤ 12) : nmS (txtD ds) = true := by
  unfold nmS
  rw [txtD_len]
  refine Bool.and_eq_true_iff.mpr ⟨decide_eq_true (by omega), Bool.and_eq_true_iff.mpr ⟨decide_eq_true (by omega), ?_⟩⟩
  unfold allL
  rw [List.all_eq_true]
  intro c hc
  have : c ∈ ds.reverse.map (· + 97) := by simpa [txtD] using hc
  obtain ⟨d, hd, rfl⟩ := List.mem_map.mp this
  exact decide_eq_true (lz_mem (h d (List.mem_reverse.mp hd)))
theorem okS_txtD {ds : List Nat} (h : ∀ d ∈ ds, d < 26) : okS (txtD ds) := by
  rw [okS_list]
  intro c hc
  have : c ∈ ds.reverse.map (· + 97) := by simpa [txtD] using hc
  obtain ⟨d, hd, rfl⟩ := List.mem_map.mp this
  have := h d (List.mem_reverse.mp hd)
  omega
theorem dig_pos (n : Nat) : 1 ≤ (dig 12 n).length := by
  show 1 ≤ (if n / 26 = 0 then [] else dig 11 (n / 26 - 1)).length + 1
  omega
theorem nm_word (n : Nat) : nmS (wordOf n) = true := nm_txtD (dig_lt 12 n) (dig_pos n) (dig_len 12 n)
theorem okS_word (n : Nat) : okS (wordOf n) := okS_txtD (dig_lt 12 n)
/-- _law_word(number): the very text -/
def spWordX : Sp := fun vs H Q _ => ∃ n : Nat, vs = [.int (n : Int)] ∧ Q (.str (wordOf n)) H
end Tp
namespace Tp
open PySem PySem.Spec PyProof.Rows L2 He
theorem dig_len' : ∀ (f g n : Nat), n + 1 ≤ cap g → (dig f n).length ≤ g
  | 0, _, _, _ => Nat.zero_le _
  | f + 1, 0, n, h => by simp [cap] at h
  | f + 1, g + 1, n, h => by
    have hc : n + 1 ≤ 26 + 26 * cap g := h
    show (if n / 26 = 0 then [] else dig f (n / 26 - 1)).length + 1 ≤ g + 1
    split
    · exact Nat.succ_le_succ (Nat.zero_le _)
    · exact Nat.succ_le_succ (dig_len' f g _ (by omega))
theorem word_len {n g : Nat} (h : n + 1 ≤ cap g) : (wordOf n).length ≤ g := by
  unfold wordOf
  rw [txtD_len]
  exact dig_len' 12 g n h
/-- letters alone -/
def ltrs (z : Str) : Prop := ∀ c ∈ z.cps.toList, c ∈ Lz.cps.toList
theorem ltrs_txtD {ds : List Nat} (h : ∀ d ∈ ds, d < 26) : ltrs (txtD ds) := fun c hc => by
  have : c ∈ ds.reverse.map (· + 97) := by simpa [txtD] using hc
  obtain ⟨d, hd, rfl⟩ := List.mem_map.mp this
  exact lz_mem (h d (List.mem_reverse.mp hd))
theorem ltrs_word (n : Nat) : ltrs (wordOf n) := ltrs_txtD (dig_lt 12 n)
theorem app_list {a b : Str} : (a ++ b).cps.toList = a.cps.toList ++ b.cps.toList := by
  show (a.cps ++ b.cps).toList = _
  simp
theorem ltrs_app {a b : Str} (ha : ltrs a) (hb : ltrs b) : ltrs (a ++ b) := fun c hc => by
  rw [app_list] at hc
  rcases List.mem_append.mp hc with h | h
  · exact ha c h
  · exact hb c h
theorem ltrs_cut {z : Str} {lo hi : Option Int} (h : ltrs z) : ltrs (cutS z lo hi) := fun c hc => by
  unfold cutS at hc
  simp only at hc
  exact h c (List.mem_of_mem_drop (List.mem_of_mem_take hc))
theorem lz_ok : ∀ c ∈ Lz.cps.toList, c < 0x110000 := by decide +kernel
theorem ltrs_ok {z : Str} (h : ltrs z) : okS z := by
  rw [okS_list]
  exact fun c hc => lz_ok c (h c hc)
theorem ltrs_nm {z : Str} (h : ltrs z) (h1 : 1 ≤ z.length) (h2 : z.length ≤ 12) : nmS z = true := by
  unfold nmS
  refine Bool.and_eq_true_iff.mpr ⟨decide_eq_true (by omega), Bool.and_eq_true_iff.mpr ⟨decide_eq_true (by omega), ?_⟩⟩
  unfold allL
  rw [List.all_eq_true]
  exact fun c hc => decide_eq_true (h c hc)
theorem str_list {a b : Str} (h : a.cps.toList = b.cps.toList) : a = b := by
  obtain ⟨x⟩ := a
  obtain ⟨y⟩ := b
  have : x = y := Array.toList_inj.mp h
  rw [this]
theorem mid_inj {a b x y : Str} (h : (a ++ x) ++ b = (a ++ y) ++ b) : x = y := by
  have h1 := congrArg (fun z : Str => z.cps.toList) h
  simp only [app_list, List.append_assoc] at h1
  have h2 := List.append_cancel_left h1
  exact str_list (List.append_cancel_right h2)
theorem cut_len {z : Str} {p : Nat} (hp : p ≤ z.length) : (cutS z none (some (p : Int))).length + (cutS z (some (p : Int)) none).length = z.length := by
  show Array.size (List.toArray _) + Array.size (List.toArray _) = _
  rw [List.size_toArray, List.size_toArray, List.length_take, List.length_take, List.length_drop, List.length_drop, Tp.len_list]
  rw [HT.sIx_nat, HT.sIx_nat, HT.sIx_none, HT.sIx_none]
  omega
/-- one letter for each number below 8 -/
theorem one_len {n : Nat} (h : n < 8) : (wordOf n).length = 1 := by
  have h1 := word_len (n := n) (g := 1) (by simp [cap]; omega)
  have h2 := dig_pos n
  have h3 : (wordOf n).length = (dig 12 n).length := txtD_len
  omega
theorem cap12 : 8 * 10 ^ 15 + 8 ≤ cap 12 := by decide
theorem cap10 : 10 ^ 13 ≤ cap 10 := by decide
/-- _law_name(source, k): the very word -/
def spNameX : Sp := fun vs H Q _ => ∃ (S L : Addr) (k : Nat), vs = [.ref S, .int (k : Int)] ∧ SrcAt H S L ∧ ∀ (a : Nat) H', a < 10 ^ 15 → Ext [S] H H' → SrcAt H' S L → Q (.str (wordOf (8 * a + k))) H'
/-- good names, each another one -/
structure Names (zs : List Str) : Prop where
  nd : zs.Nodup
  nm : ∀ z ∈ zs, nmS z = true
  ok : ∀ z ∈ zs, okS z
def spNames : Sp := fun vs H Q _ => ∃ (S L : Addr) (many : Nat), vs = [.ref S, .int (many : Int)] ∧ many ≤ 8 ∧ SrcAt H S L ∧ ∀ (zs : List Str) (l : Addr) H', zs.length = many → Names zs → H l = none → Ext [S] H H' → SrcAt H' S L → H' l = some (.lst (zs.map V.str)) → Q (.ref l) H'
/-- names by number: distinct as the numbers are -/
theorem names_of {f : Nat → Str} {m : Nat} (hi : ∀ i j, i < m → j < m → f i = f j → i = j) (h1 : ∀ i, i < m → nmS (f i) = true) (h2 : ∀ i, i < m → okS (f i)) : Names ((List.range m).map f) := by
  refine ⟨?_, ?_, ?_⟩
  · refine List.pairwise_map.mpr (List.Pairwise.imp_of_mem (R := (· ≠ ·)) (fun {i j} hi' hj' hne e => hne (hi i j (List.mem_range.mp hi') (List.mem_range.mp hj') e)) List.nodup_range)
  · intro z hz
    obtain ⟨i, hi', rfl⟩ := List.mem_map.mp hz
    exact h1 i (List.mem_range.mp hi')
  · intro z hz
    obtain ⟨i, hi', rfl⟩ := List.mem_map.mp hz
    exact h2 i (List.mem_range.mp hi')
theorem SrcAt.keepM {ms : List Addr} {H H' : Hp} {S L : Addr} (s : SrcAt H S L) (e : Ext ms H H') (hS : S ∉ ms) (hL : L ∉ ms) : SrcAt H' S L := by
  obtain ⟨cells, i, k, g, h1, h2, ok⟩ := s
  exact ⟨cells, i, k, g, e.keep _ _ h1 hS, e.keep _ _ h2 hL, ok⟩
theorem src_ne_new {H : Hp} {S L a : Addr} (hS : SrcAt H S L) (ha : H a = none) : a ≠ S ∧ a ≠ L := by
  obtain ⟨cells, i, k, g, h1, h2, _⟩ := hS
  exact ⟨(ne_of_none h1 ha).symm, (ne_of_none h2 ha).symm⟩
end Tp
/-! R: rows of pairs of texts, values of draws -/
namespace Tp
open PySem PySem.Spec PyProof.Rows L2 He LiI
variable {K : PySem.W.Frag}
/-- values of a law's draw: data that never changes, a text of bounded length -/
def shortV : V → Prop
  | .str z => z.length ≤ 1000
  | _ => True
def Wv (H : Hp) (v : V) : Prop := ∃ d, Im H v d ∧ okD d ∧ shortV v
theorem Wv.ext {ms : List Addr} {H H' : Hp} {v : V} (h : Wv H v) (e : Ext ms H H') : Wv H' v := by
  obtain ⟨d, a, b, c⟩ := h
  exact ⟨d, a.ext e, b, c⟩
theorem Wv.ptv {K : PySem.W.Frag} {H : Hp} {v : V} (h : Wv H v) : Ptv K H v := by
  obtain ⟨d, a, b, c⟩ := h
  cases a with
  | non => exact .non
  | bl _ => exact .bl _
  | int i => exact .int i
  | str x => exact .str c
  | tup h _ => exact .tup (.inl (.inl h))
theorem Wv.str {H : Hp} {z : Str} (h : okS z) (hl : z.length ≤ 1000) : Wv H (.str z) := ⟨_, .str z, okD.str h, hl⟩
theorem Wv.non {H : Hp} : Wv H .non := ⟨_, .non, okD.none, trivial⟩
theorem Wv.int {H : Hp} {i : Int} : Wv H (.int i) := ⟨_, .int i, okD.int, trivial⟩
theorem Wv.bl {H : Hp} {b : Bool} : Wv H (.bl b) := ⟨_, .bl b, okD.bool, trivial⟩
abbrev tv (q : Str × Str) : Str × V := (q.1, V.str q.2)
def RowAt (H : Hp) (r : Addr) (l : List (Str × Str)) : Prop := ∃ as : List Addr, H r = some (.lst (as.map V.ref)) ∧ Paired (fun (t : Addr) (q : Str × Str) => H t = some (.tup [.str q.1, .str q.2])) as l
abbrev okN (z : Str) : Prop := okS z ∧ z.length ≤ 12
theorem paired_ext {ms : List Addr} {H H' : Hp} (e : Ext ms H H') : ∀ {as : List Addr} {l : List (Str × Str)}, Paired (fun (t : Addr) (q : Str × Str) => H t = some (.tup [.str q.1, .str q.2])) as l → Paired (fun (t : Addr) (q : Str × Str) => H' t = some (.tup [.str q.1, .str q.2])) as l
  | _, _, .nil => .nil
  | _, _, .cons x r => .cons (e.tups _ _ x) (paired_ext e r)
theorem RowAt.ext {ms : List Addr} {H H' : Hp} {r : Addr} {l : List (Str × Str)} (h : RowAt H r l) (e : Ext ms H H') (hr : r ∉ ms) : RowAt H' r l := by
  obtain ⟨as, h1, h2⟩ := h
  exact ⟨as, e.keep _ _ h1 hr, paired_ext e h2⟩
abbrev dPair (q : Str × Str) : PyData := .tuple [.str q.1, .str q.2]
theorem paired_im {H : Hp} : ∀ {as : List Addr} {l : List (Str × Str)}, Paired (fun (t : Addr) (q : Str × Str) => H t = some (.tup [.str q.1, .str q.2])) as l → ImAll H (as.map V.ref) (l.map dPair)
  | _, _, .nil => .nil
  | _, _, .cons x r => .cons (.tup x (.cons (.str _) (.cons (.str _) .nil))) (paired_im r)
theorem RowAt.dp {H : Hp} {r : Addr} {l : List (Str × Str)} (h : RowAt H r l) : Dp K H (.ref r) (.list (l.map dPair)) := by
  obtain ⟨as, h1, h2⟩ := h
  exact .lst (SqL.of h1) (paired_im h2).dp
theorem eqv_self {d : PyData} (h : SeqAt.shaped d = true) : PyData.eqv d d = true := SeqAt.eqv_refl d (SeqAt.canLay_of_shaped h)
theorem paired_at {H : Hp} : ∀ {as : List Addr} {l : List (Str × Str)} {i : Nat} {t : Addr}, Paired (fun (t : Addr) (q : Str × Str) => H t = some (.tup [.str q.1, .str q.2])) as l → as[i]? = some t → ∃ q, l[i]? = some q ∧ H t = some (.tup [.str q.1, .str q.2])
  | _, _, _, _, .nil, e => by simp at e
  | _, _, 0, _, .cons x r, e => by simp at e; subst e; exact ⟨_, rfl, x⟩
  | _, _, i + 1, t, .cons _ r, e => by
    obtain ⟨q, h1, h2⟩ := paired_at (i := i) r (by simpa using e)
    exact ⟨q, by simpa using h1, h2⟩
theorem paired_len {H : Hp} : ∀ {as : List Addr} {l : List (Str × Str)}, Paired (fun (t : Addr) (q : Str × Str) => H t = some (.tup [.str q.1, .str q.2])) as l → as.length = l.length
  | _, _, .nil => rfl
  | _, _, .cons _ r => by simp [paired_len r]
/-- an item of a row -/
theorem row_at {H : Hp} {r : Addr} {l : List (Str × Str)} {n : Int} (h : RowAt H r l) (h0 : 0 ≤ n) (h1 : n < (l.length : Int)) : ∃ (as : List Addr) (t : Addr) (q : Str × Str), H r = some (.lst (as.map V.ref)) ∧ atI (as.map V.ref) n = some (.ref t) ∧ q ∈ l ∧ H t = some (.tup [.str q.1, .str q.2]) := by
  obtain ⟨as, e1, e2⟩ := h
  obtain ⟨j, rfl⟩ := Int.eq_ofNat_of_zero_le h0
  have hj : j < as.length := by rw [paired_len e2]; omega
  obtain ⟨q, hq, hT⟩ := paired_at e2 (List.getElem?_eq_getElem hj)
  exact ⟨as, as[j], q, e1, atI_nat (by rw [List.getElem?_map, List.getElem?_eq_getElem hj]; rfl), List.mem_of_getElem? hq, hT⟩
theorem row_len {H : Hp} {r : Addr} {l : List (Str × Str)} (h : RowAt H r l) : ∃ xs, H r = some (.lst xs) ∧ xs.length = l.length := by
  obtain ⟨as, e1, e2⟩ := h
  exact ⟨_, e1, by rw [List.length_map, paired_len e2]⟩
/-- a list of values of draws -/
def Nr (H : Hp) (n : Addr) (ys : List V) (k : Nat) : Prop := H n = some (.lst ys) ∧ ys.length ≤ k ∧ ∀ y ∈ ys, Wv H y
theorem Nr.ext {ms : List Addr} {H H' : Hp} {n : Addr} {ys : List V} {k : Nat} (h : Nr H n ys k) (e : Ext ms H H') (hn : n ∉ ms) : Nr H' n ys k := ⟨e.keep _ _ h.1 hn, h.2.1, fun y hy => (h.2.2 y hy).ext e⟩
theorem Nr.grow {H H' : Hp} {n : Addr} {ys : List V} {k : Nat} (h : Nr H n ys k) (e : Ext [] H H') : Nr H' n ys k := h.ext e (by simp)
theorem sq_asg {te : TE} {i : Nat} {tz : TS} {D : Ends} {σ : L2.St} {H : Hp} (h : te σ H fun v H1 => tz D (σ.set i (some v)) H1) : tSeq (tAsg te (gName i)) tz D σ H := h
theorem paired_snoc {F : Addr → Str × Str → Prop} {t : Addr} {q : Str × Str} (h : F t q) : ∀ {as : List Addr} {l : List (Str × Str)}, Paired F as l → Paired F (as ++ [t]) (l ++ [q])
  | _, _, .nil => .cons h .nil
  | _, _, .cons x r => .cons x (paired_snoc h r)
/-- a row grows -/
theorem RowAt.push {H : Hp} {r t : Addr} {l : List (Str × Str)} {xs : List V} {q : Str × Str} (h : RowAt H r l) (hxs : H r = some (.lst xs)) (ht : H t = none) : RowAt (upd (upd H t (.tup [.str q.1, .str q.2])) r (.lst (xs ++ [.ref t]))) r (l ++ [q]) := by
  obtain ⟨as, h1, h2⟩ := h
  rw [h1] at hxs
  cases hxs
  have e1 := Ext.new (ms := [r]) (o := .tup [.str q.1, .str q.2]) ht
  have e : Ext [r] H (upd (upd H t (.tup [.str q.1, .str q.2])) r (.lst (as.map V.ref ++ [.ref t]))) := e1.mut (by simp) fun xs z => by rw [h1] at z; cases z
  refine ⟨as ++ [t], by rw [upd_same, List.map_append]; rfl, paired_snoc ?_ (paired_ext e h2)⟩
  show upd _ r _ t = _
  rw [upd_ne (fun z => by rw [← z, ht] at h1; cases h1)]
  exact upd_same
theorem ext_push {H : Hp} {r t : Addr} {xs : List V} {o : HO} (hxs : H r = some (.lst xs)) (ht : H t = none) {o' : HO} : Ext [r] H (upd (upd H t o) r o') := (Ext.new (ms := [r]) ht).mut (by simp) fun xs z => by rw [hxs] at z; cases z
theorem mem_tv {z : Str} {l : List (Str × Str)} : z ∈ (l.map tv).map (·.1) ↔ z ∈ l.map (·.1) := by
  rw [List.map_map]
  exact Iff.rfl
end Tp
/-! M: a drawn model of a book, as it stands in a heap -/
namespace Tp
open PySem PySem.Spec PyProof.Rows L2 He
structure Mad where
  M : Addr
  m0 : Addr
  m1 : Addr
  m2 : Addr
  m3 : Addr
  m4 : Addr
  m5 : Addr
abbrev Mad.all (a : Mad) : List Addr := [a.M, a.m0, a.m1, a.m2, a.m3, a.m4, a.m5]
abbrev Mad.items (a : Mad) : List V := [.ref a.m0, .ref a.m1, .ref a.m2, .ref a.m3, .ref a.m4, .ref a.m5]
/-- kinds, thirsts, pots, cloths, dips; the facts as values -/
structure MdAt (H : Hp) (a : Mad) (k t : List (Str × Str)) (p : List Str) (c d : List (Str × Str)) (fs : List V) : Prop where
  nd : a.all.Nodup
  M : H a.M = some (.lst a.items)
  r0 : RowAt H a.m0 k
  r1 : RowAt H a.m1 t
  r2 : H a.m2 = some (.lst (p.map V.str))
  r3 : RowAt H a.m3 c
  r4 : RowAt H a.m4 d
  r5 : H a.m5 = some (.lst fs)
section
variable {H H' : Hp} {a : Mad} {k t c d : List (Str × Str)} {p : List Str} {fs : List V} {ms : List Addr} {z y : Str} {u : Addr} {xs : List V}
theorem MdAt.ext (v : MdAt H a k t p c d fs) (e : Ext ms H H') (h : ∀ x ∈ a.all, x ∉ ms) : MdAt H' a k t p c d fs :=
  ⟨v.nd, e.keep _ _ v.M (h _ (by simp)), v.r0.ext e (h _ (by simp)), v.r1.ext e (h _ (by simp)), e.keep _ _ v.r2 (h _ (by simp)), v.r3.ext e (h _ (by simp)), v.r4.ext e (h _ (by simp)), e.keep _ _ v.r5 (h _ (by simp))⟩
theorem MdAt.push0 (v : MdAt H a k t p c d fs) (hxs : H a.m0 = some (.lst xs)) (hu : H u = none) : MdAt (upd (upd H u (.tup [.str z, .str y])) a.m0 (.lst (xs ++ [.ref u]))) a (k ++ [(z, y)]) t p c d fs := by
  have nd := v.nd
  simp only [Mad.all, List.nodup_cons, List.mem_cons, List.not_mem_nil, not_or, or_false] at nd
  obtain ⟨⟨n0, n1, n2, n3, n4, n5⟩, ⟨n01, n02, n03, n04, n05⟩, ⟨n12, n13, n14, n15⟩, ⟨n23, n24, n25⟩, ⟨n34, n35⟩, n45, _⟩ := nd
  have e := ext_push (o := .tup [.str z, .str y]) (o' := .lst (xs ++ [.ref u])) hxs hu
  exact ⟨v.nd, e.keep _ _ v.M (by simpa using n0), v.r0.push (q := (z, y)) hxs hu, v.r1.ext e (by simpa using Ne.symm n01), e.keep _ _ v.r2 (by simpa using Ne.symm n02), v.r3.ext e (by simpa using Ne.symm n03), v.r4.ext e (by simpa using Ne.symm n04), e.keep _ _ v.r5 (by simpa using Ne.symm n05)⟩
theorem MdAt.push1 (v : MdAt H a k t p c d fs) (hxs : H a.m1 = some (.lst xs)) (hu : H u = none) : MdAt (upd (upd H u (.tup [.str z, .str y])) a.m1 (.lst (xs ++ [.ref u]))) a k (t ++ [(z, y)]) p c d fs := by
  have nd := v.nd
  simp only [Mad.all, List.nodup_cons, List.mem_cons, List.not_mem_nil, not_or, or_false] at nd
  obtain ⟨⟨n0, n1, n2, n3, n4, n5⟩, ⟨n01, n02, n03, n04, n05⟩, ⟨n12, n13, n14, n15⟩, ⟨n23, n24, n25⟩, ⟨n34, n35⟩, n45, _⟩ := nd
  have e := ext_push (o := .tup [.str z, .str y]) (o' := .lst (xs ++ [.ref u])) hxs hu
  exact ⟨v.nd, e.keep _ _ v.M (by simpa using n1), v.r0.ext e (by simpa using n01), v.r1.push (q := (z, y)) hxs hu, e.keep _ _ v.r2 (by simpa using Ne.symm n12), v.r3.ext e (by simpa using Ne.symm n13), v.r4.ext e (by simpa using Ne.symm n14), e.keep _ _ v.r5 (by simpa using Ne.symm n15)⟩
theorem MdAt.push3 (v : MdAt H a k t p c d fs) (hxs : H a.m3 = some (.lst xs)) (hu : H u = none) : MdAt (upd (upd H u (.tup [.str z, .str y])) a.m3 (.lst (xs ++ [.ref u]))) a k t p (c ++ [(z, y)]) d fs := by
  have nd := v.nd
  simp only [Mad.all, List.nodup_cons, List.mem_cons, List.not_mem_nil, not_or, or_false] at nd
  obtain ⟨⟨n0, n1, n2, n3, n4, n5⟩, ⟨n01, n02, n03, n04, n05⟩, ⟨n12, n13, n14, n15⟩, ⟨n23, n24, n25⟩, ⟨n34, n35⟩, n45, _⟩ := nd
  have e := ext_push (o := .tup [.str z, .str y]) (o' := .lst (xs ++ [.ref u])) hxs hu
  exact ⟨v.nd, e.keep _ _ v.M (by simpa using n3), v.r0.ext e (by simpa using n03), v.r1.ext e (by simpa using n13), e.keep _ _ v.r2 (by simpa using n23), v.r3.push (q := (z, y)) hxs hu, v.r4.ext e (by simpa using Ne.symm n34), e.keep _ _ v.r5 (by simpa using Ne.symm n35)⟩
theorem MdAt.push4 (v : MdAt H a k t p c d fs) (hxs : H a.m4 = some (.lst xs)) (hu : H u = none) : MdAt (upd (upd H u (.tup [.str z, .str y])) a.m4 (.lst (xs ++ [.ref u]))) a k t p c (d ++ [(z, y)]) fs := by
  have nd := v.nd
  simp only [Mad.all, List.nodup_cons, List.mem_cons, List.not_mem_nil, not_or, or_false] at nd
  obtain ⟨⟨n0, n1, n2, n3, n4, n5⟩, ⟨n01, n02, n03, n04, n05⟩, ⟨n12, n13, n14, n15⟩, ⟨n23, n24, n25⟩, ⟨n34, n35⟩, n45, _⟩ := nd
  have e := ext_push (o := .tup [.str z, .str y]) (o' := .lst (xs ++ [.ref u])) hxs hu
  exact ⟨v.nd, e.keep _ _ v.M (by simpa using n4), v.r0.ext e (by simpa using n04), v.r1.ext e (by simpa using n14), e.keep _ _ v.r2 (by simpa using n24), v.r3.ext e (by simpa using n34), v.r4.push (q := (z, y)) hxs hu, e.keep _ _ v.r5 (by simpa using Ne.symm n45)⟩
/-- model[2] = another list -/
theorem MdAt.set2 {q : List Str} (v : MdAt H a k t p c d fs) (hu : H u = some (.lst (q.map V.str))) (hn : u ∉ a.all) :
    MdAt (upd H a.M (.lst [.ref a.m0, .ref a.m1, .ref u, .ref a.m3, .ref a.m4, .ref a.m5])) { a with m2 := u } k t q c d fs := by
  have nd := v.nd
  simp only [Mad.all, List.nodup_cons, List.mem_cons, List.not_mem_nil, not_or, or_false] at nd hn
  obtain ⟨⟨n0, n1, n2, n3, n4, n5⟩, ⟨n01, n02, n03, n04, n05⟩, ⟨n12, n13, n14, n15⟩, ⟨n23, n24, n25⟩, ⟨n34, n35⟩, n45, _⟩ := nd
  obtain ⟨u0, u1, u2, u3, u4, u5, u6⟩ := hn
  have e : Ext [a.M] H (upd H a.M (.lst [.ref a.m0, .ref a.m1, .ref u, .ref a.m3, .ref a.m4, .ref a.m5])) := Ext.refl.mut (by simp) fun xs z => by rw [v.M] at z; cases z
  refine ⟨?_, upd_same, v.r0.ext e (by simpa using Ne.symm n0), v.r1.ext e (by simpa using Ne.symm n1), e.keep _ _ hu (by simpa using u0), v.r3.ext e (by simpa using Ne.symm n3), v.r4.ext e (by simpa using Ne.symm n4), e.keep _ _ v.r5 (by simpa using Ne.symm n5)⟩
  simp only [Mad.all, List.nodup_cons, List.mem_cons, List.not_mem_nil, not_or, or_false, List.nodup_nil, and_true, not_false_eq_true]
  exact ⟨⟨n0, n1, Ne.symm u0, n3, n4, n5⟩, ⟨n01, Ne.symm u1, n03, n04, n05⟩, ⟨Ne.symm u2, n13, n14, n15⟩, ⟨u4, u5, u6⟩, ⟨n34, n35⟩, n45⟩
end
/-- what a drawn model keeps -/
structure Good (most : Nat) (k t : List (Str × Str)) (p : List Str) (c d : List (Str × Str)) : Prop where
  kn : Names (k.map (·.1))
  kh : ∀ q ∈ k, q.2 = "loose" ∨ q.2 = "fast" ∨ q.2 = "unsure"
  k1 : 1 ≤ k.length
  k8 : k.length ≤ 8
  tk : ∀ q ∈ t, q.1 ∈ k.map (·.1) ∧ q.2 ∈ k.map (·.1)
  t3 : t.length ≤ 3
  pn : Names p
  p1 : 1 ≤ p.length
  p8 : p.length ≤ 8
  cn : Names (c.map (·.1))
  ck : ∀ q ∈ c, q.2 ∈ k.map (·.1)
  c2 : 2 ≤ c.length
  c8 : c.length ≤ 8
  dc : ∀ q ∈ d, q.1 ∈ c.map (·.1) ∧ q.2 ∈ p
  dm : d.length ≤ most
/-- _law_model(source, most) -/
def spModel : Sp := fun vs H Q _ => ∃ (S L : Addr) (most : Nat), vs = [.ref S, .int (most : Int)] ∧ most ≤ 100 ∧ SrcAt H S L ∧ ∀ (a : Mad) (k t : List (Str × Str)) (p : List Str) (c d : List (Str × Str)) (H' : Hp), Good most k t p c d → (∀ x ∈ a.all, H x = none) → Ext [S] H H' → SrcAt H' S L → MdAt H' a k t p c d [] → Q (.ref a.M) H'
/-- on the way: what stood in H0 stands, but for the source -/
structure MI (H0 : Hp) (S L : Addr) (H : Hp) (a : Mad) (k t : List (Str × Str)) (p : List Str) (c d : List (Str × Str)) : Prop where
  e : Ext [S] H0 H
  s : SrcAt H S L
  v : MdAt H a k t p c d []
  f : ∀ x ∈ a.all, H0 x = none
  s0 : SrcAt H0 S L
section
variable {H0 H H' : Hp} {S L : Addr} {a : Mad} {k t c d : List (Str × Str)} {p : List Str} {z y : Str} {u : Addr} {xs : List V}
theorem MI.ne (m : MI H0 S L H a k t p c d) : ∀ x ∈ a.all, x ≠ S ∧ x ≠ L := fun x hx => src_ne_new m.s0 (m.f x hx)
theorem MI.draw (m : MI H0 S L H a k t p c d) (e : Ext [S] H H') (s : SrcAt H' S L) : MI H0 S L H' a k t p c d :=
  ⟨m.e.trans e, s, m.v.ext e fun x hx => by simpa using (m.ne x hx).1, m.f, m.s0⟩
theorem MI.grow (m : MI H0 S L H a k t p c d) (e : Ext [] H H') : MI H0 S L H' a k t p c d := m.draw e.nil (m.s.ext e)
theorem MI.fresh (m : MI H0 S L H a k t p c d) (hu : H u = none) : H0 u = none := m.e.none hu (by simpa using (src_ne_new m.s hu).1)
theorem MI.mut2 (m : MI H0 S L H a k t p c d) {x : Addr} {o o' : HO} (hx : x ∈ a.all) (hu : H u = none) : Ext [S] H0 (upd (upd H u o) x o') ∧ SrcAt (upd (upd H u o) x o') S L := by
  refine ⟨(m.e.fresh (m.fresh hu)).fresh (m.f x hx), ?_⟩
  obtain ⟨cells, i, k', g, h1, h2, ok⟩ := m.s.new (o := o) hu
  have n := m.ne x hx
  exact ⟨cells, i, k', g, by rw [upd_ne (Ne.symm n.1)]; exact h1, by rw [upd_ne (Ne.symm n.2)]; exact h2, ok⟩
theorem MI.push0 (m : MI H0 S L H a k t p c d) (hxs : H a.m0 = some (.lst xs)) (hu : H u = none) : MI H0 S L (upd (upd H u (.tup [.str z, .str y])) a.m0 (.lst (xs ++ [.ref u]))) a (k ++ [(z, y)]) t p c d :=
  ⟨(m.mut2 (by simp) hu).1, (m.mut2 (by simp) hu).2, m.v.push0 hxs hu, m.f, m.s0⟩
theorem MI.push1 (m : MI H0 S L H a k t p c d) (hxs : H a.m1 = some (.lst xs)) (hu : H u = none) : MI H0 S L (upd (upd H u (.tup [.str z, .str y])) a.m1 (.lst (xs ++ [.ref u]))) a k (t ++ [(z, y)]) p c d :=
  ⟨(m.mut2 (by simp) hu).1, (m.mut2 (by simp) hu).2, m.v.push1 hxs hu, m.f, m.s0⟩
theorem MI.push3 (m : MI H0 S L H a k t p c d) (hxs : H a.m3 = some (.lst xs)) (hu : H u = none) : MI H0 S L (upd (upd H u (.tup [.str z, .str y])) a.m3 (.lst (xs ++ [.ref u]))) a k t p (c ++ [(z, y)]) d :=
  ⟨(m.mut2 (by simp) hu).1, (m.mut2 (by simp) hu).2, m.v.push3 hxs hu, m.f, m.s0⟩
theorem MI.push4 (m : MI H0 S L H a k t p c d) (hxs : H a.m4 = some (.lst xs)) (hu : H u = none) : MI H0 S L (upd (upd H u (.tup [.str z, .str y])) a.m4 (.lst (xs ++ [.ref u]))) a k t p c (d ++ [(z, y)]) :=
  ⟨(m.mut2 (by simp) hu).1, (m.mut2 (by simp) hu).2, m.v.push4 hxs hu, m.f, m.s0⟩
end
theorem mi_start {H H1 : Hp} {S L R r0 r1 r2 r3 r4 r5 : Addr} (eH : Ext [S] H H1) (s1 : SrcAt H1 S L) (s0 : SrcAt H S L) (h0 : H1 r0 = none) (h1 : upd H1 r0 (.lst []) r1 = none) (h2 : upd (upd H1 r0 (.lst [])) r1 (.lst []) r2 = none)
    (h3 : upd (upd (upd H1 r0 (.lst [])) r1 (.lst [])) r2 (.lst []) r3 = none) (h4 : upd (upd (upd (upd H1 r0 (.lst [])) r1 (.lst [])) r2 (.lst [])) r3 (.lst []) r4 = none)
    (h5 : upd (upd (upd (upd (upd H1 r0 (.lst [])) r1 (.lst [])) r2 (.lst [])) r3 (.lst [])) r4 (.lst []) r5 = none) (hR : upd (upd (upd (upd (upd (upd H1 r0 (.lst [])) r1 (.lst [])) r2 (.lst [])) r3 (.lst [])) r4 (.lst [])) r5 (.lst []) R = none) :
    Ext [] H1 (upd (upd (upd (upd (upd (upd (upd H1 r0 (.lst [])) r1 (.lst [])) r2 (.lst [])) r3 (.lst [])) r4 (.lst [])) r5 (.lst [])) R (.lst [.ref r0, .ref r1, .ref r2, .ref r3, .ref r4, .ref r5])) ∧
    MI H S L (upd (upd (upd (upd (upd (upd (upd H1 r0 (.lst [])) r1 (.lst [])) r2 (.lst [])) r3 (.lst [])) r4 (.lst [])) r5 (.lst [])) R (.lst [.ref r0, .ref r1, .ref r2, .ref r3, .ref r4, .ref r5])) ⟨R, r0, r1, r2, r3, r4, r5⟩ [] [] [] [] [] := by
  have n1 := h1
  have n2 := h2
  have n3 := h3
  have n4 := h4
  have n5 := h5
  have n6 := hR
  simp only [upd_none_iff] at n1 n2 n3 n4 n5 n6
  have ef := (Ext.new (ms := []) (o := .lst []) h0).trans ((Ext.new (o := .lst []) h1).trans ((Ext.new (o := .lst []) h2).trans ((Ext.new (o := .lst []) h3).trans ((Ext.new (o := .lst []) h4).trans ((Ext.new (o := .lst []) h5).trans (Ext.new (o := .lst [.ref r0, .ref r1, .ref r2, .ref r3, .ref r4, .ref r5]) hR))))))
  refine ⟨ef, eH.trans ef.nil, s1.ext ef, ⟨?_, upd_same, ⟨[], ?_, .nil⟩, ⟨[], ?_, .nil⟩, ?_, ⟨[], ?_, .nil⟩, ⟨[], ?_, .nil⟩, ?_⟩, ?_, s0⟩
  · simp only [Mad.all, List.nodup_cons, List.mem_cons, List.not_mem_nil, not_or, or_false, List.nodup_nil, and_true, not_false_eq_true]
    exact ⟨⟨n6.2.2.2.2.2.1, n6.2.2.2.2.1, n6.2.2.2.1, n6.2.2.1, n6.2.1, n6.1⟩, ⟨n1.1.symm, n2.2.1.symm, n3.2.2.1.symm, n4.2.2.2.1.symm, n5.2.2.2.2.1.symm⟩, ⟨n2.1.symm, n3.2.1.symm, n4.2.2.1.symm, n5.2.2.2.1.symm⟩, ⟨n3.1.symm, n4.2.1.symm, n5.2.2.1.symm⟩, ⟨n4.1.symm, n5.2.1.symm⟩, n5.1.symm⟩
  · show upd _ _ _ r0 = _
    rw [upd_ne n6.2.2.2.2.2.1.symm, upd_ne n5.2.2.2.2.1.symm, upd_ne n4.2.2.2.1.symm, upd_ne n3.2.2.1.symm, upd_ne n2.2.1.symm, upd_ne n1.1.symm]
    exact upd_same
  · show upd _ _ _ r1 = _
    rw [upd_ne n6.2.2.2.2.1.symm, upd_ne n5.2.2.2.1.symm, upd_ne n4.2.2.1.symm, upd_ne n3.2.1.symm, upd_ne n2.1.symm]
    exact upd_same
  · show upd _ _ _ r2 = _
    rw [upd_ne n6.2.2.2.1.symm, upd_ne n5.2.2.1.symm, upd_ne n4.2.1.symm, upd_ne n3.1.symm]
    exact upd_same
  · show upd _ _ _ r3 = _
    rw [upd_ne n6.2.2.1.symm, upd_ne n5.2.1.symm, upd_ne n4.1.symm]
    exact upd_same
  · show upd _ _ _ r4 = _
    rw [upd_ne n6.2.1.symm, upd_ne n5.1.symm]
    exact upd_same
  · show upd _ _ _ r5 = _
    rw [upd_ne n6.1.symm]
    exact upd_same
  · intro x hx
    have fin : ∀ {y : Addr}, H1 y = none → H y = none := fun hy => eH.none hy (by simpa using (src_ne_new s1 hy).1)
    simp only [Mad.all, List.mem_cons, List.not_mem_nil, or_false] at hx
    rcases hx with rfl | rfl | rfl | rfl | rfl | rfl | rfl
    · exact fin n6.2.2.2.2.2.2
    · exact fin h0
    · exact fin n1.2
    · exact fin n2.2.2
    · exact fin n3.2.2.2
    · exact fin n4.2.2.2.2
    · exact fin n5.2.2.2.2.2
theorem MdAt.some {H : Hp} {a : Mad} {k t c d : List (Str × Str)} {p : List Str} {fs : List V} (v : MdAt H a k t p c d fs) : ∀ x ∈ a.all, ∃ o, H x = some o := by
  intro x hx
  simp only [Mad.all, List.mem_cons, List.not_mem_nil, or_false] at hx
  rcases hx with rfl | rfl | rfl | rfl | rfl | rfl | rfl
  · exact ⟨_, v.M⟩
  · obtain ⟨_, h, _⟩ := v.r0; exact ⟨_, h⟩
  · obtain ⟨_, h, _⟩ := v.r1; exact ⟨_, h⟩
  · exact ⟨_, v.r2⟩
  · obtain ⟨_, h, _⟩ := v.r3; exact ⟨_, h⟩
  · obtain ⟨_, h, _⟩ := v.r4; exact ⟨_, h⟩
  · exact ⟨_, v.r5⟩
theorem MdAt.new {H : Hp} {a : Mad} {k t c d : List (Str × Str)} {p : List Str} {fs : List V} {l : Addr} (v : MdAt H a k t p c d fs) (h : H l = none) : ∀ x ∈ a.all, l ≠ x := fun x hx e => by
  obtain ⟨o, ho⟩ := v.some x hx
  rw [← e, h] at ho
  cases ho
/-- one of a row by a number, its first -/
theorem row_pick {K : PySem.W.Frag} {H : Hp} {r : Addr} {l : List (Str × Str)} {n : Int} (h : RowAt H r l) (h0 : 0 ≤ n) (h1 : n < (l.length : Int)) : ∃ (xs : List V) (t : Addr) (q : Str × Str), H r = some (.lst xs) ∧ atI xs n = some (.ref t) ∧ q ∈ l ∧ H t = some (.tup [.str q.1, .str q.2]) ∧ xs.length = l.length := by
  obtain ⟨as, t, q, h2, h3, h4, h5⟩ := row_at h h0 h1
  obtain ⟨ys, h6, h7⟩ := row_len h
  rw [h2] at h6
  cases h6
  exact ⟨_, t, q, h2, h3, h4, h5, h7⟩
theorem MI.set2 {H0 H : Hp} {S L l : Addr} {a : Mad} {k t c d : List (Str × Str)} {p zs : List Str} (m : MI H0 S L H a k t p c d) (hl0 : H0 l = none) (hl : H l = some (.lst (zs.map V.str))) (hn : ∀ x ∈ a.all, l ≠ x) :
    MI H0 S L (upd H a.M (.lst [.ref a.m0, .ref a.m1, .ref l, .ref a.m3, .ref a.m4, .ref a.m5])) { a with m2 := l } k t zs c d := by
  have n := m.ne a.M (by simp)
  obtain ⟨cells, i, k', g, h1, h2, ok⟩ := m.s
  refine ⟨m.e.fresh (m.f a.M (by simp)), ⟨cells, i, k', g, by rw [upd_ne (Ne.symm n.1)]; exact h1, by rw [upd_ne (Ne.symm n.2)]; exact h2, ok⟩, m.v.set2 hl fun h => hn l h rfl, ?_, m.s0⟩
  intro x hx
  simp only [Mad.all, List.mem_cons, List.not_mem_nil, or_false] at hx
  rcases hx with rfl | rfl | rfl | rfl | rfl | rfl | rfl
  · exact m.f _ (by simp)
  · exact m.f _ (by simp)
  · exact m.f _ (by simp)
  · exact hl0
  · exact m.f _ (by simp)
  · exact m.f _ (by simp)
  · exact m.f _ (by simp)
end Tp
/-! N: the book's thirsts and dips -/
namespace Tp
open PySem PySem.Spec PyProof.Rows L2 He
section
variable {C p : Addr} {H H' : Hp} {b : Int} {A : Bk} {ks cs : List (Str × V)} {ts ds fs : List V} {ps : List Str} {ms : List Addr}
theorem BookAt.setT (B : BookAt C H p b A ks ts ps cs ds fs) (ts' : List V) : BookAt C (upd H A.lt (.lst ts')) p b A ks ts' ps cs ds fs :=
  ⟨by rw [upd_ne B.p_ne.2.1]; exact B.ob, by rw [upd_ne (ne_of B.dk B.lt (by intro z; cases z))]; exact B.dk, upd_same, by rw [upd_ne (Ne.symm B.n1)]; exact B.lp, by rw [upd_ne (ne_of B.dc B.lt (by intro z; cases z))]; exact B.dc,
    by rw [upd_ne (Ne.symm B.n2)]; exact B.ld, by rw [upd_ne (Ne.symm B.n3)]; exact B.lf, B.nk, B.n1, B.n2, B.n3, B.n4, B.n5, B.n6⟩
/-- the dips' list is another one -/
theorem BookAt.setD (B : BookAt C H p b A ks ts ps cs ds fs) {l : Addr} {ds' : List V} (hl : H l = some (.lst ds')) (h1 : l ≠ A.lt) (h2 : l ≠ A.lp) (h3 : l ≠ A.lf) : BookAt C (upd H p (.ins C A.dx (fsB b { A with ld := l }))) p b { A with ld := l } ks ts ps cs ds' fs := by
  have n := B.p_ne
  exact ⟨upd_same, by rw [upd_ne (Ne.symm n.1)]; exact B.dk, by rw [upd_ne (Ne.symm n.2.1)]; exact B.lt, by rw [upd_ne (Ne.symm n.2.2.1)]; exact B.lp, by rw [upd_ne (Ne.symm n.2.2.2.1)]; exact B.dc,
    by rw [upd_ne (ne_of hl B.ob (by intro z; cases z))]; exact hl, by rw [upd_ne (Ne.symm n.2.2.2.2.2)]; exact B.lf, B.nk, B.n1, Ne.symm h1, B.n3, Ne.symm h2, B.n5, h3⟩
end
def knownK (ks : List (Str × V)) : V → Bool
  | .str z => decide (z ∈ ks.map (·.1))
  | _ => false
def knownP (ps : List Str) : V → Bool
  | .str z => decide (z ∈ ps)
  | _ => false
/-- what add_thirst refuses, n thirsts told -/
def refT (ks : List (Str × V)) (n : Nat) (v g : V) : Option (Str × V) :=
  if knownK ks v = false then some (("Unknown" : Str), v) else if knownK ks g = false then some (("Unknown" : Str), g) else if 32 ≤ n then some (("Full" : Str), V.int 32) else none
/-- what dip refuses, n dips told -/
def refDip (cs : List (Str × V)) (ps : List Str) (n : Nat) (b : Int) (v g : V) : Option (Str × V) :=
  if knownK cs v = false then some (("Unknown" : Str), v) else if knownP ps g = false then some (("Unknown" : Str), g) else if b ≤ (n : Int) then some (("Full" : Str), V.int b) else none
/-- Book.add_thirst(self, more, less) -/
def spAddThirst (K : PySem.W.Frag) (C : Addr) : Sp := fun vs H Q E => ∃ p v g i A ks ts ps cs ds fs, vs = [.ref p, v, g] ∧ Ptv K H v ∧ (∀ H', Ext [] H H' → Ptv K H' g) ∧ BookAt C H p i A ks ts ps cs ds fs ∧ ts.length ≤ 1000 ∧
  (∀ c t, refT ks ts.length v g = some (c, t) → Leaves K E (He.ga K c) t H) ∧
  (refT ks ts.length v g = none → ∀ H' t, Ext [A.lt] H H' → H t = none → H' t = some (.tup [v, g]) → BookAt C H' p i A ks (ts ++ [.ref t]) ps cs ds fs → Q .non H')
/-- Book.dip(self, cloth, pot) -/
def spDip (K : PySem.W.Frag) (C : Addr) : Sp := fun vs H Q E => ∃ p v g i A ks ts ps cs ds fs, vs = [.ref p, v, g] ∧ Ptv K H v ∧ (∀ H', Ext [] H H' → Ptv K H' g) ∧ BookAt C H p i A ks ts ps cs ds fs ∧ ds.length ≤ 1000 ∧ ps.length ≤ 1000 ∧
  (∀ c t, refDip cs ps ds.length i v g = some (c, t) → Leaves K E (He.ga K c) t H) ∧
  (refDip cs ps ds.length i v g = none → ∀ H' t l, Ext [p] H H' → H t = none → H l = none → H' t = some (.tup [v, g]) → BookAt C H' p i { A with ld := l } ks ts ps cs (ds ++ [.ref t]) fs → Q (.int (ds.length : Int)) H')
theorem fsB_dips' {b : Int} {A : Bk} {l : Addr} : putF "_dips" (.ref l) (fsB b A) = fsB b { A with ld := l } := by rfl
theorem refT_1 {ks : List (Str × V)} {n : Nat} {v g : V} (h : knownK ks v = false) : refT ks n v g = some (("Unknown" : Str), v) := if_pos h
theorem refT_2 {ks : List (Str × V)} {n : Nat} {v g : V} (h1 : knownK ks v = true) (h : knownK ks g = false) : refT ks n v g = some (("Unknown" : Str), g) := by
  unfold refT
  rw [if_neg (by rw [h1]; decide), if_pos h]
theorem refT_3 {ks : List (Str × V)} {n : Nat} {v g : V} (h1 : knownK ks v = true) (h : knownK ks g = true) : refT ks n v g = if 32 ≤ n then some (("Full" : Str), V.int 32) else none := by
  unfold refT
  rw [if_neg (by rw [h1]; decide), if_neg (by rw [h]; decide)]
theorem refDip_1 {cs : List (Str × V)} {ps : List Str} {n : Nat} {b : Int} {v g : V} (h : knownK cs v = false) : refDip cs ps n b v g = some (("Unknown" : Str), v) := if_pos h
theorem refDip_2 {cs : List (Str × V)} {ps : List Str} {n : Nat} {b : Int} {v g : V} (h1 : knownK cs v = true) (h : knownP ps g = false) : refDip cs ps n b v g = some (("Unknown" : Str), g) := by
  unfold refDip
  rw [if_neg (by rw [h1]; decide), if_pos h]
theorem refDip_3 {cs : List (Str × V)} {ps : List Str} {n : Nat} {b : Int} {v g : V} (h1 : knownK cs v = true) (h : knownP ps g = true) : refDip cs ps n b v g = if b ≤ (n : Int) then some (("Full" : Str), V.int b) else none := by
  unfold refDip
  rw [if_neg (by rw [h1]; decide), if_neg (by rw [h]; decide)]
theorem knownK_no {ks : List (Str × V)} {v : V} (h : ∀ z, v = .str z → decide (z ∈ ks.map (·.1)) = false) : knownK ks v = false := by
  cases v with
  | str z => exact h z rfl
  | _ => rfl
theorem knownP_no {ps : List Str} {v : V} (h : ∀ z, v = .str z → decide (z ∈ ps) = false) : knownP ps v = false := by
  cases v with
  | str z => exact h z rfl
  | _ => rfl
end Tp
/-! O: a book as it is built of a model -/
namespace Tp
open PySem PySem.Spec PyProof.Rows L2 He
theorem Ext.over {H0 H H' : Hp} {x : Addr} (e : Ext [] H0 H) (e2 : Ext [x] H H') (hx : H0 x = Option.none) : Ext [] H0 H' :=
  ⟨fun b o q _ => e2.keep b o (e.keep b o q (by simp)) (by simp only [List.mem_singleton]; exact ne_of_none q hx), fun b xs q => e2.tups b xs (e.tups b xs q)⟩
/-- items that are new pairs of texts -/
def PT (H : Hp) (ts : List V) (t : List (Str × Str)) : Prop := ∃ as : List Addr, ts = as.map V.ref ∧ Paired (fun (u : Addr) (q : Str × Str) => H u = some (.tup [.str q.1, .str q.2])) as t
theorem PT.nil {H : Hp} : PT H [] [] := ⟨[], rfl, .nil⟩
theorem PT.ext {ms : List Addr} {H H' : Hp} {ts : List V} {t : List (Str × Str)} (h : PT H ts t) (e : Ext ms H H') : PT H' ts t := by
  obtain ⟨as, h1, h2⟩ := h
  exact ⟨as, h1, paired_ext e h2⟩
theorem PT.snoc {H : Hp} {ts : List V} {t : List (Str × Str)} {u : Addr} {q : Str × Str} (h : PT H ts t) (hu : H u = some (.tup [.str q.1, .str q.2])) : PT H (ts ++ [.ref u]) (t ++ [q]) := by
  obtain ⟨as, h1, h2⟩ := h
  exact ⟨as ++ [u], by rw [h1, List.map_append]; rfl, paired_snoc hu h2⟩
theorem PT.len {H : Hp} {ts : List V} {t : List (Str × Str)} (h : PT H ts t) : ts.length = t.length := by
  obtain ⟨as, h1, h2⟩ := h
  rw [h1, List.length_map, paired_len h2]
structure BI (C : Addr) (H0 H : Hp) (b : Addr) (A : Bk) (k t : List (Str × Str)) (p : List Str) (c d : List (Str × Str)) (ts ds : List V) : Prop where
  e : Ext [] H0 H
  f : ∀ x ∈ A.all b, H0 x = none
  B : BookAt C H b 24 A (k.map tv) ts p (c.map tv) ds []
  T : PT H ts t
  D : PT H ds d
theorem take_snoc {α : Type} {l : List α} {i : Nat} {q : α} (h : l[i]? = some q) : l.take (i + 1) = l.take i ++ [q] := by
  rw [List.take_add_one, h]
  rfl
/-- a name that comes is not among those before -/
theorem not_before {l : List Str} (h : l.Nodup) {i : Nat} {z : Str} (e : l[i]? = some z) : z ∉ l.take i := by
  intro hz
  obtain ⟨j, hj, ej⟩ := List.mem_iff_getElem.mp hz
  rw [List.length_take] at hj
  have hi := (List.getElem?_eq_some_iff.mp e)
  obtain ⟨hi1, hi2⟩ := hi
  have := List.pairwise_iff_getElem.mp h j i (by omega) hi1 (by omega)
  rw [List.getElem_take] at ej
  exact this (ej.trans hi2.symm)
/-- what goes in without a word -/
theorem refK_ok {ks : List (Str × V)} {z : Str} {h : V} (h1 : nmS z = true) (h2 : z ∉ ks.map (·.1)) (h3 : ks.length < 8) : refK ks (.str z) h true = none := by
  show (if nmS z = false then _ else _) = _
  rw [if_neg (by rw [h1]; decide), if_neg h2, if_neg (by decide), if_neg (by omega)]
theorem refP_ok {ps : List Str} {z : Str} (h1 : nmS z = true) (h2 : z ∉ ps) (h3 : ps.length < 8) : refP ps (.str z) = none := by
  show (if nmS z = false then _ else _) = _
  rw [if_neg (by rw [h1]; decide), if_neg h2, if_neg (by omega)]
theorem refC_ok {cs ks : List (Str × V)} {z y : Str} (h1 : nmS z = true) (h2 : z ∉ cs.map (·.1)) (h3 : cs.length < 8) (h4 : y ∈ ks.map (·.1)) : refC cs ks (.str z) (.str y) = none := by
  show (if nmS z = false then _ else _) = _
  rw [if_neg (by rw [h1]; decide), if_neg h2]
  show (if y ∈ ks.map (·.1) then _ else _) = _
  rw [if_pos h4, if_neg (by omega)]
theorem hold_yes {y : Str} (h : y = "loose" ∨ y = "fast" ∨ y = "unsure") : holdD (.str y) = true := by
  rcases h with rfl | rfl | rfl <;> decide +kernel
theorem nm_len {z : Str} (h : nmS z = true) : z.length ≤ 12 := of_decide_eq_true (by
  have h3 := (Bool.and_eq_true_iff.mp h).2
  have h4 := of_decide_eq_true (Bool.and_eq_true_iff.mp h3).1
  exact decide_eq_true (by omega))
end Tp
/-! Q: questions to a drawn model -/
namespace Tp
open PySem PySem.Spec PyProof.Rows L2 He LiI
variable {K : PySem.W.Frag}
/-- the second parts of the pairs with this first -/
def selL (x : Str) (l : List (Str × Str)) : List Str := (l.filter fun q => decide (q.1 = x)).map (·.2)
theorem selL_snoc {x : Str} {l : List (Str × Str)} {q : Str × Str} : selL x (l ++ [q]) = if q.1 = x then selL x l ++ [q.2] else selL x l := by
  unfold selL
  rw [List.filter_append, List.map_append]
  by_cases h : q.1 = x
  · rw [if_pos h]
    simp [h]
  · rw [if_neg h]
    simp [h]
theorem selL_len {x : Str} {l : List (Str × Str)} : (selL x l).length ≤ l.length := by
  unfold selL
  rw [List.length_map]
  exact List.length_filter_le _ _
/-- [row[1] for row in rows if row[0] == x] -/
theorem rd_sel {σ : L2.St} {H : Hp} {Q : VK} {j : Nat} {r : Addr} {l : List (Str × Str)} {tl tx : TE} {x : Str} (hj : j < σ.length) (hl : Val tl σ H (.ref r)) (hrow : RowAt H r l) (hn : l.length ≤ 1000) (hx : ∀ y H', Val tx ((wipe σ [j]).set j (some y)) H' (.str x))
    (q : ∀ D H', H D = none → Ext [] H H' → H' D = some (.lst ((selL x l).map V.str)) → Q (.ref D) H') :
    tLc (iList K tl) (gName j) (tTest (tOp rEq (tOp (rIxT K) (tVar j) (tC (.int 0))) tx)) (tOp (rIxT K) (tVar j) (tC (.int 1))) [j] σ H Q := by
  obtain ⟨as, h1, h2⟩ := hrow
  have hlen := paired_len h2
  refine hl _ ⟨r, rfl, ⟨_, SqL.of h1⟩, fun D hD => lc_list (xs := as.map V.ref) (fun i H' => H' = upd H D (.lst ((selL x (l.take i)).map V.str))) (by simp [selL]) ?_ ?_ ?_⟩
  · rintro i H' _ rfl
    exact SqL.of (by rw [upd_ne (ne_of_none h1 hD)]; exact h1)
  · rintro i y H' hy rfl
    rw [List.getElem?_map] at hy
    obtain ⟨t, ht, rfl⟩ := Option.map_eq_some_iff.mp hy
    obtain ⟨p, hp, hT⟩ := paired_at h2 ht
    have hi : i < l.length := (List.getElem?_eq_some_iff.mp hp).1
    have hv : ((wipe σ [j]).set j (some (V.ref t)))[j]? = some (some (.ref t)) := by
      rw [List.getElem?_set_self]
      rw [wipe_length]
      exact hj
    have hT' : upd H D (.lst ((selL x (l.take i)).map V.str)) t = some (.tup [.str p.1, .str p.2]) := by rw [upd_ne (ne_of_none hT hD)]; exact hT
    refine ⟨wipe1, ?_⟩
    refine ⟨_, hv, t, _, 0, .str p.1, rfl, rfl, .inl (.inl hT'), rfl, ?_⟩
    refine hx _ _ _ ⟨rfl, _, rfl, ?_⟩
    have e : selL x (l.take (i + 1)) = if p.1 = x then selL x (l.take i) ++ [p.2] else selL x (l.take i) := by rw [take_snoc hp, selL_snoc]
    by_cases h : p.1 = x
    · rw [if_pos h] at e
      rw [decide_eq_true (by rw [h])]
      refine iteT ⟨_, hv, t, _, 1, .str p.2, rfl, rfl, .inl (.inl hT'), rfl, (selL x (l.take i)).map V.str, upd_same, ?_, ?_⟩
      · rw [List.length_map]
        have := selL_len (x := x) (l := l.take i)
        rw [List.length_take] at this
        exact Evl.sz_lt (by omega)
      · rw [upd_upd, e, List.map_append]
        rfl
    · rw [if_neg h] at e
      rw [decide_eq_false (fun z => h (by injection z))]
      refine iteF ?_
      show _ = _
      rw [e]
  · rintro H' rfl
    refine q D _ hD (Ext.new hD) ?_
    rw [upd_same, List.length_map, hlen, List.take_of_length_le (Nat.le_refl _)]
/-- of a list of distinct firsts: the one -/
theorem selL_one : ∀ {l : List (Str × Str)} {q : Str × Str}, (l.map (·.1)).Nodup → q ∈ l → selL q.1 l = [q.2]
  | [], _, _, h => by cases h
  | a :: l, q, nd, h => by
    rw [List.map_cons, List.nodup_cons] at nd
    rcases List.mem_cons.mp h with rfl | h2
    · have : selL q.1 l = [] := by
        unfold selL
        rw [List.map_eq_nil_iff, List.filter_eq_nil_iff]
        intro b hb hc
        exact nd.1 (List.mem_map.mpr ⟨b, hb, of_decide_eq_true hc⟩)
      show ((List.filter _ (q :: l)).map _) = _
      rw [List.filter_cons, if_pos (by simp), List.map_cons]
      show q.2 :: selL q.1 l = _
      rw [this]
    · have hne : ¬ a.1 = q.1 := fun e => nd.1 (e ▸ List.mem_map.mpr ⟨q, h2, rfl⟩)
      show ((List.filter _ (a :: l)).map _) = _
      rw [List.filter_cons, if_neg (by simpa using hne)]
      exact selL_one nd.2 h2
/-- _law_sort(model, garment): the kind of a cloth -/
def spSort : Sp := fun vs H Q _ => ∃ (a : Mad) (k t : List (Str × Str)) (p : List Str) (c d : List (Str × Str)) (fs : List V) (x y : Str), vs = [.ref a.M, .str x] ∧ MdAt H a k t p c d fs ∧ (c.map (·.1)).Nodup ∧ c.length ≤ 8 ∧ (x, y) ∈ c ∧ ∀ H', Ext [] H H' → Q (.str y) H'
/-- _law_grip(model, garment): the hold of a cloth's kind -/
def spGrip : Sp := fun vs H Q _ => ∃ (a : Mad) (k t : List (Str × Str)) (p : List Str) (c d : List (Str × Str)) (fs : List V) (x y z : Str), vs = [.ref a.M, .str x] ∧ MdAt H a k t p c d fs ∧ (c.map (·.1)).Nodup ∧ c.length ≤ 8 ∧ (k.map (·.1)).Nodup ∧ k.length ≤ 8 ∧ (x, y) ∈ c ∧ (y, z) ∈ k ∧ ∀ H', Ext [] H H' → Q (.str z) H'
theorem ret_ex {te : TE} {D : Ends} {σ : L2.St} {H : Hp} (h : te σ H D.rt) : tRet te D σ H := h
theorem op_ex {r : R2} {ta tb : TE} {σ : L2.St} {H : Hp} {Q : VK} (h : ta σ H fun x H1 => tb σ H1 fun y H2 => r x y H2 Q) : tOp r ta tb σ H Q := h
/-- the last before m with this first -/
def prevD (d : List (Str × Str)) (x : Str) : Nat → Option Nat
  | 0 => none
  | m + 1 => if (d[m]?.map (·.1)) = some x then some m else prevD d x m
abbrev vOpt : Option Nat → V
  | some j => .int (j : Int)
  | none => .non
/-- _law_before(model, i) -/
def spBefore : Sp := fun vs H Q _ => ∃ (a : Mad) (k t : List (Str × Str)) (p : List Str) (c d : List (Str × Str)) (fs : List V) (i : Nat) (q : Str × Str), vs = [.ref a.M, .int (i : Int)] ∧ MdAt H a k t p c d fs ∧ d.length ≤ 1000 ∧ d[i]? = some q ∧ Q (vOpt (prevD d q.1 i)) H
theorem prevD_lt {d : List (Str × Str)} {x : Str} : ∀ {m j : Nat}, prevD d x m = some j → j < m ∧ ∃ r, d[j]? = some r ∧ r.1 = x
  | 0, _, h => by cases h
  | m + 1, j, h => by
    have h' : (if (d[m]?.map (·.1)) = some x then some m else prevD d x m) = some j := h
    by_cases e : (d[m]?.map (·.1)) = some x
    · rw [if_pos e] at h'
      cases h'
      obtain ⟨r, hr, hx⟩ := Option.map_eq_some_iff.mp e
      exact ⟨Nat.lt_succ_self _, r, hr, hx⟩
    · rw [if_neg e] at h'
      obtain ⟨h1, h2⟩ := prevD_lt h'
      exact ⟨by omega, h2⟩
/-- the hold of a cloth's kind -/
def holdOf (k c : List (Str × Str)) (x : Str) : Str := (selL ((selL x c).headD ⟨#[]⟩) k).headD ⟨#[]⟩
theorem holdOf_eq {k c : List (Str × Str)} {x y z : Str} (hc : (c.map (·.1)).Nodup) (hk : (k.map (·.1)).Nodup) (h1 : (x, y) ∈ c) (h2 : (y, z) ∈ k) : holdOf k c x = z := by
  unfold holdOf
  rw [selL_one hc h1]
  show (selL y k).headD _ = _
  rw [selL_one hk h2]
  rfl
/-- whether dip i leaves something -/
def leaveD (k c d : List (Str × Str)) (i : Nat) : Bool := match d[i]? with
  | some q => (match prevD d q.1 i with
    | some j => (match d[j]? with
      | some r => !decide (r.2 = q.2) && !decide (holdOf k c q.1 = "fast")
      | none => false)
    | none => false)
  | none => false
/-- what a model keeps that stands behind its dips -/
structure Kept (k c d : List (Str × Str)) : Prop where
  kn : (k.map (·.1)).Nodup
  k8 : k.length ≤ 8
  cn : (c.map (·.1)).Nodup
  c8 : c.length ≤ 8
  ck : ∀ q ∈ c, q.2 ∈ k.map (·.1)
  dc : ∀ q ∈ d, q.1 ∈ c.map (·.1)
  dl : d.length ≤ 1000
theorem Kept.hold {k c d : List (Str × Str)} (h : Kept k c d) {q : Str × Str} (hq : q ∈ d) : ∃ y z, (q.1, y) ∈ c ∧ (y, z) ∈ k ∧ holdOf k c q.1 = z := by
  obtain ⟨⟨x, y⟩, h1, e1⟩ := List.mem_map.mp (h.dc q hq)
  obtain ⟨⟨y', z⟩, h2, e2⟩ := List.mem_map.mp (h.ck _ h1)
  have ex : x = q.1 := e1
  have ey : y' = y := e2
  subst ex ey
  exact ⟨_, z, h1, h2, holdOf_eq h.cn h.kn h1 h2⟩
/-- _law_leaves(model, i) -/
def spLeaves : Sp := fun vs H Q _ => ∃ (a : Mad) (k t : List (Str × Str)) (p : List Str) (c d : List (Str × Str)) (fs : List V) (i : Nat), vs = [.ref a.M, .int (i : Int)] ∧ MdAt H a k t p c d fs ∧ Kept k c d ∧ i < d.length ∧ ∀ H', Ext [] H H' → Q (.bl (leaveD k c d i)) H'
/-- the amounts of the first dips -/
def amtD (k c d : List (Str × Str)) : Nat → List (Str × Nat)
  | 0 => []
  | m + 1 => (amtD k c d m ++ [(("take" : Str), m)]) ++ (if leaveD k c d m = true then [(("leave" : Str), m)] else [])
theorem amtD_len {k c d : List (Str × Str)} : ∀ n, (amtD k c d n).length ≤ 2 * n
  | 0 => Nat.le_refl _
  | n + 1 => by
    have := amtD_len (k := k) (c := c) (d := d) n
    show ((amtD k c d n ++ [(("take" : Str), n)]) ++ (if leaveD k c d n = true then [(("leave" : Str), n)] else [])).length ≤ _
    rw [List.length_append, List.length_append]
    split
    · show (amtD k c d n).length + 1 + 1 ≤ _
      omega
    · show (amtD k c d n).length + 1 + 0 ≤ _
      omega
abbrev isAmt (H : Hp) (u : Addr) (q : Str × Nat) : Prop := H u = some (.tup [.str q.1, .int (q.2 : Int)])
theorem amt_ext {ms : List Addr} {H H' : Hp} (e : Ext ms H H') : ∀ {as : List Addr} {l : List (Str × Nat)}, Paired (isAmt H) as l → Paired (isAmt H') as l
  | _, _, .nil => .nil
  | _, _, .cons x r => .cons (e.tups _ _ x) (amt_ext e r)
theorem amt_snoc {H : Hp} {t : Addr} {q : Str × Nat} (h : isAmt H t q) : ∀ {as : List Addr} {l : List (Str × Nat)}, Paired (isAmt H) as l → Paired (isAmt H) (as ++ [t]) (l ++ [q])
  | _, _, .nil => .cons h .nil
  | _, _, .cons x r => .cons x (amt_snoc h r)
theorem amt_len {H : Hp} : ∀ {as : List Addr} {l : List (Str × Nat)}, Paired (isAmt H) as l → as.length = l.length
  | _, _, .nil => rfl
  | _, _, .cons _ r => by simp [amt_len r]
def AmtAt (H : Hp) (l : Addr) (xs : List (Str × Nat)) : Prop := ∃ as : List Addr, H l = some (.lst (as.map V.ref)) ∧ Paired (isAmt H) as xs
theorem AmtAt.push {H : Hp} {r t : Addr} {l : List (Str × Nat)} {xs : List V} {q : Str × Nat} (h : AmtAt H r l) (hxs : H r = some (.lst xs)) (ht : H t = none) : AmtAt (upd (upd H t (.tup [.str q.1, .int (q.2 : Int)])) r (.lst (xs ++ [.ref t]))) r (l ++ [q]) := by
  obtain ⟨as, h1, h2⟩ := h
  rw [h1] at hxs
  cases hxs
  have e := ext_push (o := .tup [.str q.1, .int (q.2 : Int)]) (o' := .lst (as.map V.ref ++ [.ref t])) h1 ht
  refine ⟨as ++ [t], by rw [upd_same, List.map_append]; rfl, amt_snoc ?_ (amt_ext e h2)⟩
  show upd _ r _ t = _
  rw [upd_ne (fun z => by rw [← z, ht] at h1; cases h1)]
  exact upd_same
theorem AmtAt.ext {ms : List Addr} {H H' : Hp} {r : Addr} {l : List (Str × Nat)} (h : AmtAt H r l) (e : Ext ms H H') (hr : r ∉ ms) : AmtAt H' r l := by
  obtain ⟨as, h1, h2⟩ := h
  exact ⟨as, e.keep _ _ h1 hr, amt_ext e h2⟩
theorem AmtAt.lst {H : Hp} {r : Addr} {l : List (Str × Nat)} (h : AmtAt H r l) : ∃ xs, H r = some (.lst xs) ∧ xs.length = l.length := by
  obtain ⟨as, h1, h2⟩ := h
  exact ⟨_, h1, by rw [List.length_map, amt_len h2]⟩
/-- _law_amounts(model) -/
def spAmts : Sp := fun vs H Q _ => ∃ (a : Mad) (k t : List (Str × Str)) (p : List Str) (c d : List (Str × Str)) (fs : List V), vs = [.ref a.M] ∧ MdAt H a k t p c d fs ∧ Kept k c d ∧ ∀ l H', H l = none → Ext [] H H' → AmtAt H' l (amtD k c d d.length) → Q (.ref l) H'
end Tp
/-! S: a property assigned; max with a default; the book's questions -/
namespace Tp
open PySem PySem.Spec PyProof.Rows L2 He
/-- the class has the name as a property at p, whose setter is the def at g -/
structure PropSet (K : PySem.W.Frag) (C : Addr) (f : Str) (p g : Addr) : Prop where
  tk : PySem.W.takerIn K C f = some (some (.ref p))
  ty : PySem.W.typeIn K (.ref p) = some (.type "property")
  rec_ : ∃ a rest, PySem.W.recIn K p "property" = some (a :: .ref g :: rest)
section
variable {X : Cx} {CX : CXT} {k : Nat} {C p g a dx : Addr} {fs : List (Str × V)} {f : Str} {fd : FuncData} {ps : List Str} {sp : Sp} {E : XK} {o value : Expr} {pos pos' : Pos} {ta tv : TE}
end
/-! ### max(xs, default=d) of ints -/
theorem maxOf_spec : ∀ (ys : List Int) (y : Int), PySem.W.maxOf y ys ∈ y :: ys ∧ ∀ z ∈ y :: ys, z ≤ PySem.W.maxOf y ys
  | [], y => ⟨by simp [PySem.W.maxOf], by simp [PySem.W.maxOf]⟩
  | x :: ys, y => by
    have e : PySem.W.maxOf y (x :: ys) = PySem.W.maxOf (if PySem.W.DatumOrd.lt y x = true then x else y) ys := rfl
    have e2 : (if PySem.W.DatumOrd.lt y x = true then x else y) = if y < x then x else y := by
      show (if decide (y < x) = true then x else y) = _
      by_cases h : y < x
      · rw [if_pos (decide_eq_true h), if_pos h]
      · rw [if_neg (by simpa using h), if_neg h]
    rw [e, e2]
    obtain ⟨h1, h2⟩ := maxOf_spec ys (if y < x then x else y)
    constructor
    · rcases List.mem_cons.mp h1 with h | h
      · rw [h]
        split
        · simp
        · simp
      · simp [h]
    · intro z hz
      have hh := h2 (if y < x then x else y) (by simp)
      rcases List.mem_cons.mp hz with rfl | hz
      · refine Int.le_trans ?_ hh
        split <;> omega
      · rcases List.mem_cons.mp hz with rfl | hz
        · refine Int.le_trans ?_ hh
          split <;> omega
        · exact h2 z (by simp [hz])
def rMaxDf (K : PySem.W.Frag) : List V → List V → Hp → VK → Prop := fun vs zs H Q => ∃ (a : Addr) (ns : List Int) (d : V), vs = [V.ref a] ∧ zs = [d] ∧ SqL K H a (ns.map V.int) ∧ (ns = [] → Q d H) ∧ ∀ m, m ∈ ns → (∀ y, y ∈ ns → y ≤ m) → Q (.int m) H
theorem ck_maxDf {X : Cx} (hc : X.calm = true) (hu : X.A.units + 1 < cLine) : CallRK X (.builtin "max") [Str.ofString "default"] (rMaxDf X.K) := by
  intro pins s σ H vs zs us ws Q I r rz h
  obtain ⟨a, ns, d, rfl, rfl, hs, q0, q⟩ := h
  obtain rfl := Vals.ref1 r
  obtain ⟨w1, rfl, e1⟩ := rz.one
  obtain ⟨its, rv, hl, _⟩ := I.list hs
  refine PySem.W.max_list_datum_default (α := Int) (I.ok.hd hc) hl.isList (PySem.W.HoldAll.of_ints (by simpa using rv.ints)) hu (fun e h' tk hk => ?_) fun y ys i v h' tk e hv hh hk => ?_
  · exact ⟨d, H, I.kept hk, e1, q0 e⟩
  · obtain ⟨t, rfl⟩ := PySem.W.int_of_holds hh
    obtain ⟨h1, h2⟩ := maxOf_spec ys y
    exact ⟨.int _, H, I.kept hk, ⟨t, rfl⟩, q _ (by rw [e]; exact h1) fun z hz => h2 z (by rw [← e]; exact hz)⟩
end Tp
/-! U: the book's questions, as promises -/
namespace Tp
open PySem PySem.Spec PyProof.Rows L2 He
theorem hu1_of {A : Around} {k : Nat} (hr : Room k A) : A.units + 1 < cLine := by have := hr.un; omega
theorem fsB_no2 {b : Int} {A : Bk} {m : Str} (h : m = "previous" ∨ m = "_has_leave" ∨ m = "amounts" ∨ m = "kind_of" ∨ m = "hold_of" ∨ m = "change_bound" ∨ m = "where" ∨ m = "thirstier") : (fsB b A).lookup m = none := by
  rcases h with rfl | rfl | rfl | rfl | rfl | rfl | rfl | rfl <;> rfl
/-- kind_of, hold_of: in the cloths, in the kinds -/
def spLook (K : PySem.W.Frag) (C : Addr) (ofCloth : Bool) : Sp := fun vs H Q E => ∃ p v i A ks ts ps cs ds fs, vs = [.ref p, v] ∧ Ptv K H v ∧ BookAt C H p i A ks ts ps cs ds fs ∧
  (knownK (if ofCloth then cs else ks) v = false → Leaves K E (He.ga K "Unknown") v H) ∧ (∀ z y, v = .str z → valV (kvB (if ofCloth then cs else ks)) (Sum.inr z : Key) = some y → Q y H)
/-- the dips' items are pairs of texts -/
def spPrevious (K : PySem.W.Frag) (C : Addr) : Sp := fun vs H Q E => ∃ p v i A ks ts ps cs ds fs d, vs = [.ref p, v] ∧ Ptv K H v ∧ BookAt C H p i A ks ts ps cs ds fs ∧ PT H ds d ∧ d.length ≤ 1000 ∧
  (¬ btw 0 ((d.length : Int) - 1) v → Leaves K E (He.ga K "BadNumber") v H) ∧ (∀ (n : Nat) q, v = .int (n : Int) → d[n]? = some q → ∀ H', Ext [] H H' → Q (vOpt (prevD d q.1 n)) H')
def spHasLeave (C : Addr) : Sp := fun vs H Q _ => ∃ p i A k c ts ps ds fs d, ∃ n : Nat, vs = [.ref p, .int (n : Int)] ∧ BookAt C H p i A (k.map tv) ts ps (c.map tv) ds fs ∧ PT H ds d ∧ Kept k c d ∧ n < d.length ∧ ∀ H', Ext [] H H' → Q (.bl (leaveD k c d n)) H'
def spAmounts (C : Addr) : Sp := fun vs H Q _ => ∃ p i A k c ts ps ds fs d, vs = [.ref p] ∧ BookAt C H p i A (k.map tv) ts ps (c.map tv) ds fs ∧ PT H ds d ∧ Kept k c d ∧ ∀ l H', H l = none → Ext [] H H' → AmtAt H' l (amtD k c d d.length) → Q (.ref l) H'
/-- an item of such a list -/
theorem PT.get {H : Hp} {ds : List V} {d : List (Str × Str)} (h : PT H ds d) {n : Nat} {q : Str × Str} (e : d[n]? = some q) : ∃ u, atI ds (n : Int) = some (.ref u) ∧ H u = some (.tup [.str q.1, .str q.2]) := by
  obtain ⟨as, rfl, h2⟩ := h
  have hl := paired_len h2
  have hn := (List.getElem?_eq_some_iff.mp e).1
  obtain ⟨z', hz', hT⟩ := paired_at h2 (List.getElem?_eq_getElem (by omega : n < as.length))
  rw [e] at hz'
  cases hz'
  exact ⟨_, atI_nat (by rw [List.getElem?_map, List.getElem?_eq_getElem (by omega : n < as.length)]; rfl), hT⟩
/-- the dips ahead of m with this cloth -/
def hitsD (d : List (Str × Str)) (x : Str) : Nat → List Int
  | 0 => []
  | m + 1 => if (d[m]?.map (·.1)) = some x then hitsD d x m ++ [(m : Int)] else hitsD d x m
theorem hitsD_len {d : List (Str × Str)} {x : Str} : ∀ m, (hitsD d x m).length ≤ m
  | 0 => Nat.le_refl _
  | m + 1 => by
    have := hitsD_len (d := d) (x := x) m
    unfold hitsD
    split
    · rw [List.length_append]
      show _ + 1 ≤ _
      omega
    · omega
theorem hitsD_lt {d : List (Str × Str)} {x : Str} : ∀ m, ∀ y ∈ hitsD d x m, y < (m : Int)
  | 0, y, h => by cases h
  | m + 1, y, h => by
    unfold hitsD at h
    split at h
    · rcases List.mem_append.mp h with h | h
      · have := hitsD_lt m y h; omega
      · simp at h; omega
    · have := hitsD_lt m y h; omega
/-- the greatest of them is the last one -/
theorem hitsD_max {d : List (Str × Str)} {x : Str} : ∀ m, (hitsD d x m = [] → prevD d x m = none) ∧ ∀ y, y ∈ hitsD d x m → (∀ z, z ∈ hitsD d x m → z ≤ y) → vOpt (prevD d x m) = .int y
  | 0 => ⟨fun _ => rfl, fun y h => by cases h⟩
  | m + 1 => by
    have e : prevD d x (m + 1) = if (d[m]?.map (·.1)) = some x then some m else prevD d x m := rfl
    have e2 : hitsD d x (m + 1) = if (d[m]?.map (·.1)) = some x then hitsD d x m ++ [(m : Int)] else hitsD d x m := rfl
    rw [e, e2]
    obtain ⟨h1, h2⟩ := hitsD_max (d := d) (x := x) m
    by_cases h : (d[m]?.map (·.1)) = some x
    · rw [if_pos h, if_pos h]
      refine ⟨fun q => by simp at q, fun y hy hm => ?_⟩
      have := hm (m : Int) (by simp)
      rcases List.mem_append.mp hy with hy | hy
      · have := hitsD_lt m y hy; omega
      · simp at hy; rw [hy]
    · rw [if_neg h, if_neg h]
      exact ⟨h1, h2⟩
end Tp
/-! Y: odd names, refusals, lists of amounts -/
namespace Tp
open PySem PySem.Spec PyProof.Rows L2 He
theorem nm_ltrs {z : Str} (h : nmS z = true) : ltrs z := by
  have h2 := (Bool.and_eq_true_iff.mp (Bool.and_eq_true_iff.mp h).2).2
  unfold allL at h2
  rw [List.all_eq_true] at h2
  exact fun c hc => of_decide_eq_true (h2 c hc)
theorem nm_okN {z : Str} (h : nmS z = true) : okN z := ⟨ltrs_ok (nm_ltrs h), nm_len h⟩
end Tp
namespace Tp
open PySem PySem.Spec PyProof.Rows L2 He
/-- _law_lists(answer, due), both the same amounts -/
def spLists : Sp := fun vs H Q _ => ∃ (a b : Addr) (xs : List (Str × Nat)), vs = [.ref a, .ref b] ∧ AmtAt H a xs ∧ AmtAt H b xs ∧ xs.length ≤ 1000 ∧ (∀ q ∈ xs, okS q.1) ∧ Q (.bl true) H
theorem amt_at {H : Hp} : ∀ {as : List Addr} {l : List (Str × Nat)} {i : Nat} {t : Addr}, Paired (isAmt H) as l → as[i]? = some t → ∃ q, l[i]? = some q ∧ isAmt H t q
  | _, _, _, _, .nil, e => by simp at e
  | _, _, 0, _, .cons x r, e => by simp at e; subst e; exact ⟨_, rfl, x⟩
  | _, _, i + 1, t, .cons _ r, e => by
    obtain ⟨q, h1, h2⟩ := amt_at (i := i) r (by simpa using e)
    exact ⟨q, by simpa using h1, h2⟩
theorem AmtAt.get {H : Hp} {r : Addr} {l : List (Str × Nat)} (h : AmtAt H r l) : ∃ xs, H r = some (.lst xs) ∧ xs.length = l.length ∧ ∀ (i : Nat) (q : Str × Nat), l[i]? = some q → ∃ u, atI xs (i : Int) = some (.ref u) ∧ isAmt H u q := by
  obtain ⟨as, h1, h2⟩ := h
  have hl := amt_len h2
  refine ⟨_, h1, by rw [List.length_map, hl], fun i q hq => ?_⟩
  have hi := (List.getElem?_eq_some_iff.mp hq).1
  obtain ⟨z, hz, hT⟩ := amt_at h2 (List.getElem?_eq_getElem (by omega : i < as.length))
  rw [hq] at hz
  cases hz
  exact ⟨_, atI_nat (by rw [List.getElem?_map, List.getElem?_eq_getElem (by omega : i < as.length)]; rfl), hT⟩
abbrev dAmt (q : Str × Nat) : PyData := .tuple [.str q.1, .int (q.2 : Int)]
theorem isAmt.im {H : Hp} {u : Addr} {q : Str × Nat} (h : isAmt H u q) : Im H (.ref u) (dAmt q) := .tup h (.cons (.str _) (.cons (.int _) .nil))
theorem okD_amt {q : Str × Nat} (h : okS q.1) : okD (dAmt q) := okD.tup (n := 1) (by
  intro d hd
  simp at hd
  rcases hd with rfl | rfl
  · exact ⟨(okD.str h).1, by simp [PyData.depth]⟩
  · exact ⟨okD.int.1, by simp [PyData.depth]⟩) (by decide)
theorem amtD_ok {k c d : List (Str × Str)} : ∀ n, ∀ q ∈ amtD k c d n, okS q.1
  | 0, _, h => by cases h
  | n + 1, q, h => by
    have h' : q ∈ (amtD k c d n ++ [(("take" : Str), n)]) ++ (if leaveD k c d n = true then [(("leave" : Str), n)] else []) := h
    rcases List.mem_append.mp h' with h | h
    · rcases List.mem_append.mp h with h | h
      · exact amtD_ok n q h
      · simp at h; subst h; show okS ("take" : Str); decide +kernel
    · split at h
      · simp at h; subst h; show okS ("leave" : Str); decide +kernel
      · cases h
/-- tests that come out false, one by one -/
theorem or_no {σ : L2.St} {H : Hp} {c t : TT} (h1 : Ans c σ H false) (h2 : Ans t σ H false) : Ans (tOr c t) σ H false := ans_or h1 h2
end Tp
/-! J: a model and its book, side by side -/
namespace Tp
open PySem PySem.Spec PyProof.Rows L2 He
section
variable {H H' : Hp} {a : Mad} {k t c d : List (Str × Str)} {p : List Str} {fs : List V} {ms : List Addr} {z y : Str} {u : Addr} {xs : List V}
/-- a row grows by a pair that is there -/
theorem RowAt.pushU {r t : Addr} {l : List (Str × Str)} {q : Str × Str} (h : RowAt H r l) (hxs : H r = some (.lst xs)) (ht : H t = some (.tup [.str q.1, .str q.2])) : RowAt (upd H r (.lst (xs ++ [.ref t]))) r (l ++ [q]) := by
  obtain ⟨as, h1, h2⟩ := h
  rw [h1] at hxs
  cases hxs
  have e : Ext [r] H (upd H r (.lst (as.map V.ref ++ [.ref t]))) := Ext.refl.mut (by simp) fun xs z => by rw [h1] at z; cases z
  refine ⟨as ++ [t], by rw [upd_same, List.map_append]; rfl, paired_snoc ?_ (paired_ext e h2)⟩
  exact e.tups _ _ ht
theorem MdAt.push4u (v : MdAt H a k t p c d fs) (hxs : H a.m4 = Option.some (HO.lst xs)) (hu : H u = Option.some (HO.tup [V.str z, V.str y])) : MdAt (L2.upd H a.m4 (.lst (xs ++ [.ref u]))) a k t p c (d ++ [(z, y)]) fs := by
  have nd := v.nd
  simp only [Mad.all, List.nodup_cons, List.mem_cons, List.not_mem_nil, not_or, or_false] at nd
  obtain ⟨⟨n0, n1, n2, n3, n4, n5⟩, ⟨n01, n02, n03, n04, n05⟩, ⟨n12, n13, n14, n15⟩, ⟨n23, n24, n25⟩, ⟨n34, n35⟩, n45, _⟩ := nd
  have e : Ext [a.m4] H (upd H a.m4 (.lst (xs ++ [.ref u]))) := Ext.refl.mut (by simp) fun xs z => by rw [hxs] at z; cases z
  exact ⟨v.nd, e.keep _ _ v.M (by simpa using n4), v.r0.ext e (by simpa using n04), v.r1.ext e (by simpa using n14), e.keep _ _ v.r2 (by simpa using n24), v.r3.ext e (by simpa using n34), v.r4.pushU (q := (z, y)) hxs hu, e.keep _ _ v.r5 (by simpa using Ne.symm n45)⟩
end
/-- since H0: the source, the book's object, the model's dips may have changed -/
structure Jv (C : Addr) (H0 H : Hp) (S L b : Addr) (a : Mad) (A : Bk) (i : Int) (k t : List (Str × Str)) (p : List Str) (c d e : List (Str × Str)) (ts ds : List V) : Prop where
  x : Ext [S, b, a.m4] H0 H
  s : SrcAt H S L
  v : MdAt H a k t p c d []
  B : BookAt C H b i A (k.map tv) ts p (c.map tv) ds []
  D : PT H ds e
  f : ∀ y ∈ A.all b, y ≠ S ∧ y ≠ L ∧ y ∉ a.all
  g : ∀ y ∈ a.all, y ≠ S ∧ y ≠ L
section
variable {C : Addr} {H0 H H' : Hp} {S L b : Addr} {a : Mad} {A : Bk} {i : Int} {k t c d e : List (Str × Str)} {p : List Str} {ts ds : List V}
theorem Jv.draw (j : Jv C H0 H S L b a A i k t p c d e ts ds) (x : Ext [S] H H') (s : SrcAt H' S L) : Jv C H0 H' S L b a A i k t p c d e ts ds :=
  ⟨j.x.trans (x.mono fun y h => by simp at h; simp [h]), s, j.v.ext x fun y hy => by simpa using (j.g y hy).1, j.B.ext x fun y hy => by simpa using (j.f y hy).1, j.D.ext x, j.f, j.g⟩
theorem Jv.grow (j : Jv C H0 H S L b a A i k t p c d e ts ds) (x : Ext [] H H') : Jv C H0 H' S L b a A i k t p c d e ts ds := j.draw x.nil (j.s.ext x)
/-- the book's object changed -/
theorem Jv.bound (j : Jv C H0 H S L b a A i k t p c d e ts ds) {i' : Int} (x : Ext [b] H H') (B : BookAt C H' b i' A (k.map tv) ts p (c.map tv) ds []) : Jv C H0 H' S L b a A i' k t p c d e ts ds := by
  have fb := j.f b (by simp)
  exact ⟨j.x.trans (x.mono fun y h => by simp at h; simp [h]), j.s.keepM x (by simpa using Ne.symm fb.1) (by simpa using Ne.symm fb.2.1), j.v.ext x fun y hy => by simp only [List.mem_singleton]; exact fun h => fb.2.2 (by rw [← h]; exact hy), B, j.D.ext x, j.f, j.g⟩
/-- one dip more in the book -/
theorem Jv.dip (j : Jv C H0 H S L b a A i k t p c d e ts ds) {u l : Addr} {q : Str × Str} (x : Ext [b] H H') (hl : H l = none) (hu : H' u = some (.tup [.str q.1, .str q.2])) (B : BookAt C H' b i { A with ld := l } (k.map tv) ts p (c.map tv) (ds ++ [.ref u]) []) : Jv C H0 H' S L b a { A with ld := l } i k t p c d (e ++ [q]) ts (ds ++ [.ref u]) := by
  have fb := j.f b (by simp)
  refine ⟨j.x.trans (x.mono fun y h => by simp at h; simp [h]), j.s.keepM x (by simpa using Ne.symm fb.1) (by simpa using Ne.symm fb.2.1), j.v.ext x fun y hy => by simp only [List.mem_singleton]; exact fun h => fb.2.2 (by rw [← h]; exact hy), B, (j.D.ext x).snoc hu, ?_, j.g⟩
  have f := j.f
  intro y hy
  simp only [Bk.all, List.mem_cons, List.not_mem_nil, or_false] at hy
  rcases hy with rfl | rfl | rfl | rfl | rfl | rfl | rfl
  · exact f _ (by simp)
  · exact f _ (by simp)
  · exact f _ (by simp)
  · exact f _ (by simp)
  · exact f _ (by simp)
  · obtain ⟨h1, h2⟩ := src_ne_new j.s hl
    exact ⟨h1, h2, fun h => j.v.new hl _ h rfl⟩
  · exact f _ (by simp)
/-- one dip more in the model -/
theorem Jv.push (j : Jv C H0 H S L b a A i k t p c d e ts ds) {u : Addr} {q : Str × Str} {xs : List V} (hxs : H a.m4 = some (.lst xs)) (hu : H u = some (.tup [.str q.1, .str q.2])) : Jv C H0 (upd H a.m4 (.lst (xs ++ [.ref u]))) S L b a A i k t p c (d ++ [q]) e ts ds := by
  have x : Ext [a.m4] H (upd H a.m4 (.lst (xs ++ [.ref u]))) := Ext.refl.mut (by simp) fun xs z => by rw [hxs] at z; cases z
  have g4 := j.g a.m4 (by simp)
  exact ⟨j.x.trans (x.mono fun y h => by simp at h; simp [h]), j.s.keepM x (by simpa using Ne.symm g4.1) (by simpa using Ne.symm g4.2), j.v.push4u hxs hu, j.B.ext x fun y hy => by simp only [List.mem_singleton]; exact fun h => (j.f y hy).2.2 (by rw [h]; simp), j.D.ext x, j.f, j.g⟩
/-- what stood at H0 and is none of these -/
theorem Jv.old (j : Jv C H0 H S L b a A i k t p c d e ts ds) {y : Addr} {o : HO} (h : H0 y = some o) (h1 : y ≠ S) (h2 : y ≠ b) (h3 : y ≠ a.m4) : H y = some o := j.x.keep _ _ h (by simp [h1, h2, h3])
theorem Jv.off (j : Jv C H0 H S L b a A i k t p c d e ts ds) {l : Addr} (h : H l = none) : l ≠ S ∧ l ≠ b ∧ l ≠ a.m4 := ⟨(src_ne_new j.s h).1, (ne_of_none j.B.ob h).symm, j.v.new h _ (by simp)⟩
theorem Jv.kept (j : Jv C H0 H S L b a A i k t p c d e ts ds) {most : Nat} {d' : List (Str × Str)} (G : Good most k t p c d') (hd : ∀ q ∈ d, q.1 ∈ c.map (·.1)) (hl : d.length ≤ 1000) : Kept k c d := ⟨G.kn.nd, G.k8, G.cn.nd, G.c8, G.ck, hd, hl⟩
end
theorem Nr.le {H : Hp} {n : Addr} {ys : List V} {k j : Nat} (h : Nr H n ys k) (hk : k ≤ j) : Nr H n ys j := ⟨h.1, Nat.le_trans h.2.1 hk, h.2.2⟩
theorem ne_no {v : V} : (!decide (v = v)) = false := by simp
end Tp
/-! I: an object of an own class walked by its __iter__, its length by its __len__ -/
namespace Tp
open PySem PySem.Spec PyProof.Rows L2 He
/-- a def whose promise knows how many objects stand when it is called -/
structure FnN (P : Program) (w : World) (K : PySem.W.Frag) (mg : Str → Option Value) (base : Heap) (CX : CXT) (k : Nat) (f : Addr) (fd : FuncData) (ps : List Str) (sp : Nat → Sp) : Prop where
  len : ∀ n vs H Q E, sp n vs H Q E → vs.length = ps.length
  run : ∀ (A : Around) (outer : List Env) (s : Shared) (H : Hp) (args : Args) (us : List Value) (vs : List V) (Q : VK) (E : XK), Room k A → Env0 P w K mg base A outer s H → BindsTo s fd args (ps.zip us) → Vals vs us →
    sp s.heap.objs.size vs H Q E → codeAny (model P w) A (.call (.ref f) args) (CR CX outer P w H s Q E) s
theorem FunD.okN {P : Program} {w : World} {K : PySem.W.Frag} {mg : Str → Option Value} {base : Heap} {x qual : Str} {params : Arguments} {body : List Stmt} {scope : Scope} {dvs : List V} {kws : List (Str × V)} {f : Addr} {fd : FuncData}
    {CX : CXT} {N ps : List Str} {k : Nat} {sp : Nat → Sp} (F : FunD K x qual params body scope dvs kws f fd) (S : FnScope N ps scope) (len : ∀ n vs H Q E, sp n vs H Q E → vs.length = ps.length)
    (hbody : ∀ (cdv : Value) (A : Around) (outer : List Env) (s : Shared) (H : Hp) (vs : List V) (Q : VK) (E : XK), Room k (A.deeper (envOfC qual scope s.heap.objs.size f cdv)) → sp s.heap.objs.size vs H Q E →
      ∃ t, PSs (cxOf CX P w K mg base N qual scope f cdv A outer s H E) body t ∧ t { nx := fun _ H' => Q .non H', rt := Q } (start N vs) H) : FnN P w K mg base CX (k + 1) f fd ps sp := by
  obtain ⟨oc, od, dV, kV, doc, pm, an, cdv, ct, osl, rfl, lk, hcd, _, _⟩ := F.ex
  refine ⟨len, fun A outer s H args us vs Q E room env bnd vals prom => ?_⟩
  have inK : K.In s.heap := env.mod.kin.keeps fun b o e => (env.bs b o e).1
  have noLim : s.heap.NoLimit := env.mod.nolimit.keeps fun b o e => (env.bs b o e).1
  refine codeAny_call_function room.depth (inK _ _ lk) rfl S.co S.gen rfl (PySem.W.codeRec_of inK hcd) (bnd _ _ _ _ ?_)
  refine wpAny_newFunctionEnv_cells S.kind (fun y hy => ?_) fun fresh isFresh s1 x => ?_
  · obtain ⟨n, v⟩ := y
    exact (S.par n (List.of_mem_zip hy).1).elim .inl fun q => .inr ⟨q, PySem.W.cellsFrom_some _ _ _ (.inl q)⟩
  · subst isFresh
    refine ⟨noLim.keeps x.toInCall.keep, codeAny_func ?_⟩
    obtain ⟨t, runs, reads⟩ := hbody cdv A outer s H vs Q E (room.deeper _) prom
    refine wpAny_mono (runs.run [] s1 (start N vs) H _ (inv_start S room.hd env (len _ _ _ _ _ prom) vals x) reads) (fun fl s' got => ?_) fun e s' hs => hs
    cases fl with
    | ret u =>
      obtain ⟨v, σ', H', J, rv, q⟩ := got
      exact ⟨v, H', J.os, J.bare, J.base, J.hok, rv, q⟩
    | next =>
      obtain ⟨σ', H', J, q⟩ := got
      exact ⟨V.non, H', J.os, J.bare, J.base, J.hok, rfl, q⟩
    | brk =>
      obtain ⟨_, _, _, q⟩ := got
      exact q.elim
    | cont =>
      obtain ⟨_, _, _, q⟩ := got
      exact q.elim
/-- a class with its own __iter__ -/
structure OwnIt (K : PySem.W.Frag) (C g : Addr) : Prop where
  it : PySem.W.findIn K (.ref C) "__iter__" = some (some (.ref g))
  fn : PySem.W.isFn K (.ref g) = true
/-- what __iter__ is to answer: a new iterator over the list at l -/
abbrev itNew (n : Nat) (l : Addr) (H : Hp) : VK := fun v H' => ∃ it, v = .ref it ∧ H it = none ∧ n ≤ it ∧ H' = upd H it (ItO l it 0)
section
variable {X : Cx} {CX : CXT} {k : Nat} {C g : Addr} {fd : FuncData} {ps : List Str} {sp : Nat → Sp} {E : XK} {e tg : Expr} {te : TE}
end
/-- a class with its own __len__ -/
structure OwnLn (K : PySem.W.Frag) (C g : Addr) : Prop where
  ln : PySem.W.findIn K (.ref C) "__len__" = some (some (.ref g))
  fn : PySem.W.isFn K (.ref g) = true
end Tp
namespace Tp
open PySem PySem.Spec PyProof.Rows L2 He
section
variable {X : Cx} {CX : CXT} {k : Nat} {f C : Addr} {fd : FuncData} {ps ks : List Str} {sp : Sp} {E : L2.St → XK} {x : Str} {p pos : Pos} {kws : List Keyword} {tk : TA} {g : List Value → List Value → List Value} {gV : List V → List V → List V}
end
/-- len(book) -/
def spBLen (C : Addr) : Sp := fun vs H Q _ => ∃ p i A ks ts ps cs ds fs, vs = [.ref p] ∧ BookAt C H p i A ks ts ps cs ds fs ∧ Q (.int (ds.length : Int)) H
/-- iter(book) -/
def spBIter (C : Addr) : Nat → Sp := fun n vs H Q _ => ∃ p i A ks ts ps cs ds fs, vs = [.ref p] ∧ BookAt C H p i A ks ts ps cs ds fs ∧ ∀ it, H it = none → n ≤ it → Q (.ref it) (upd H it (ItO A.ld it 0))
end Tp
namespace Tp
open PySem PySem.Spec PyProof.Rows L2 He
/-- since H0: the source, the book's object, one list of dips may have changed -/
structure Kv (C : Addr) (H0 H : Hp) (S L b l : Addr) (A : Bk) (i : Int) (k : List (Str × Str)) (p : List Str) (c d e : List (Str × Str)) (ds : List V) : Prop where
  x : Ext [S, b, l] H0 H
  s : SrcAt H S L
  B : BookAt C H b i A (k.map tv) [] p (c.map tv) ds []
  D : PT H ds e
  R : RowAt H l d
  f : ∀ y ∈ A.all b, y ≠ S ∧ y ≠ L ∧ y ≠ l
  g : l ≠ S ∧ l ≠ L
section
variable {C : Addr} {H0 H H' : Hp} {S L b l : Addr} {A : Bk} {i : Int} {k c d e : List (Str × Str)} {p : List Str} {ds : List V}
theorem Kv.draw (j : Kv C H0 H S L b l A i k p c d e ds) (x : Ext [S] H H') (s : SrcAt H' S L) : Kv C H0 H' S L b l A i k p c d e ds :=
  ⟨j.x.trans (x.mono fun y h => by simp at h; simp [h]), s, j.B.ext x fun y hy => by simpa using (j.f y hy).1, j.D.ext x, j.R.ext x (by simpa using j.g.1), j.f, j.g⟩
theorem Kv.grow (j : Kv C H0 H S L b l A i k p c d e ds) (x : Ext [] H H') : Kv C H0 H' S L b l A i k p c d e ds := j.draw x.nil (j.s.ext x)
theorem Kv.bl (j : Kv C H0 H S L b l A i k p c d e ds) : b ≠ l := (j.f b (by simp)).2.2
/-- another bound -/
theorem Kv.bound (j : Kv C H0 H S L b l A i k p c d e ds) {i' : Int} (x : Ext [S, b] H H') (s : SrcAt H' S L) (B : BookAt C H' b i' A (k.map tv) [] p (c.map tv) ds []) : Kv C H0 H' S L b l A i' k p c d e ds :=
  ⟨j.x.trans (x.mono fun y h => by simp at h; rcases h with h | h <;> simp [h]), s, B, j.D.ext x, j.R.ext x (by simp only [List.mem_cons, List.not_mem_nil, or_false, not_or]; exact ⟨j.g.1, Ne.symm j.bl⟩), j.f, j.g⟩
/-- one dip more in the book -/
theorem Kv.dip (j : Kv C H0 H S L b l A i k p c d e ds) {u m : Addr} {q : Str × Str} (x : Ext [b] H H') (hm : H m = none) (hu : H' u = some (.tup [.str q.1, .str q.2])) (B : BookAt C H' b i { A with ld := m } (k.map tv) [] p (c.map tv) (ds ++ [.ref u]) []) : Kv C H0 H' S L b l { A with ld := m } i k p c d (e ++ [q]) (ds ++ [.ref u]) := by
  have fb := j.f b (by simp)
  refine ⟨j.x.trans (x.mono fun y h => by simp at h; simp [h]), j.s.keepM x (by simpa using Ne.symm fb.1) (by simpa using Ne.symm fb.2.1), B, (j.D.ext x).snoc hu, j.R.ext x (by simpa using Ne.symm fb.2.2), ?_, j.g⟩
  have f := j.f
  intro y hy
  simp only [Bk.all, List.mem_cons, List.not_mem_nil, or_false] at hy
  rcases hy with rfl | rfl | rfl | rfl | rfl | rfl | rfl
  · exact f _ (by simp)
  · exact f _ (by simp)
  · exact f _ (by simp)
  · exact f _ (by simp)
  · exact f _ (by simp)
  · obtain ⟨h1, h2⟩ := src_ne_new j.s hm
    obtain ⟨_, h3, _⟩ := j.R
    exact ⟨h1, h2, (ne_of_none h3 hm).symm⟩
  · exact f _ (by simp)
/-- one dip more in the list -/
theorem Kv.push (j : Kv C H0 H S L b l A i k p c d e ds) {t : Addr} {z y : Str} {xs : List V} (hxs : H l = some (.lst xs)) (ht : H t = none) : Kv C H0 (upd (upd H t (.tup [.str z, .str y])) l (.lst (xs ++ [.ref t]))) S L b l A i k p c (d ++ [(z, y)]) e ds := by
  have x := ext_push (o := .tup [.str z, .str y]) (o' := .lst (xs ++ [.ref t])) hxs ht
  exact ⟨j.x.trans (x.mono fun y h => by simp at h; simp [h]), j.s.keepM x (by simpa using Ne.symm j.g.1) (by simpa using Ne.symm j.g.2), j.B.ext x fun y hy => by simpa using (j.f y hy).2.2, j.D.ext x, j.R.push (q := (z, y)) hxs ht, j.f, j.g⟩
theorem Kv.old (j : Kv C H0 H S L b l A i k p c d e ds) {y : Addr} {o : HO} (h : H0 y = some o) (h1 : y ≠ S) (h2 : y ≠ b) (h3 : y ≠ l) : H y = some o := j.x.keep _ _ h (by simp [h1, h2, h3])
end
end Tp
/-! V: a method with one parameter for all keywords, called by keywords -/
namespace Tp
open PySem PySem.Spec PyProof.Rows L2 He
section
variable {P : Program} {w : World} {A : Around} {E : Value → Shared → Prop}
open PySem.W in
open PySem.W in
end
section
variable {CX : CXT} {P : Program} {w : World} {K : PySem.W.Frag} {mg : Str → Option Value} {base : Heap} {k : Nat} {f : Addr} {x qual : Str} {params : Arguments} {body : List Stmt} {scope : Scope} {fd : FuncData} {N : List Str} {p1 pd : Str} {spB : Sp} {ks : List Str}
end
section
variable {X : Cx} {CX : CXT} {k : Nat} {f C : Addr} {ks : List Str} {sp : Sp} {E : L2.St → XK} {m : Str} {pos apos : Pos} {o : Expr} {kws : List Keyword} {ta : TE} {tk : TA}
end
end Tp
/-! Z: the dips that match -/
namespace Tp
open PySem PySem.Spec PyProof.Rows L2 He
/-- the kind of a cloth -/
def kdOf (c : List (Str × Str)) (z : Str) : Str := ((c.find? fun q => decide (q.1 = z)).map (·.2)).getD ""
/-- does the dip match -/
def hitQ (og ov os : Option Str) (c : List (Str × Str)) (q : Str × Str) : Bool := decide (og.getD q.1 = q.1) && (decide (ov.getD q.2 = q.2) && decide (os.getD (kdOf c q.1) = kdOf c q.1))
def whereD (og ov os : Option Str) (c d : List (Str × Str)) : Nat → List Int
  | 0 => []
  | m + 1 => match d[m]? with
    | some q => if hitQ og ov os c q = true then whereD og ov os c d m ++ [(m : Int)] else whereD og ov os c d m
    | none => whereD og ov os c d m
section
variable {og ov os : Option Str} {c d : List (Str × Str)}
end
end Tp
namespace Tp
open PySem PySem.Spec PyProof.Rows L2 He
end Tp
namespace Tp
open PySem PySem.Spec PyProof.Rows L2 He
end Tp
namespace Tp
open PySem PySem.Spec PyProof.Rows L2 He
end Tp
namespace Tp
open PySem PySem.Spec PyProof.Rows L2 He
def vS : Option Str → V
  | none => .non
  | some z => .str z
end Tp
namespace Tp
open PySem PySem.Spec PyProof.Rows L2 He
theorem val_ixT {K : PySem.W.Frag} {σ : L2.St} {H : Hp} {ta : TE} {u : Addr} {xs : List V} {i : Int} {v : V} (ha : Val ta σ H (.ref u)) (hu : H u = some (.tup xs)) (e : atI xs i = some v) : Val (tOp (rIxT K) ta (tC (.int i))) σ H v :=
  val_op ha val_c fun _ q => ⟨_, _, _, _, rfl, rfl, .inl (.inl hu), e, q⟩
end Tp
namespace Tp
open PySem PySem.Spec PyProof.Rows L2 He
/-- what stands in a row of the questions: the answer, what was given -/
def AskRow (c d : List (Str × Str)) (H : Hp) (u : Addr) (o : Option Str × Option Str × Option Str) : Prop := ∃ l g, H u = some (.tup [.ref l, .ref g]) ∧ H l = some (.lst ((whereD o.1 o.2.1 o.2.2 c d d.length).map V.int)) ∧ H g = some (.lst [vS o.1, vS o.2.1, vS o.2.2])
theorem AskRow.ext {c d : List (Str × Str)} {H H' : Hp} {u : Addr} {o : Option Str × Option Str × Option Str} (h : AskRow c d H u o) (e : Ext [] H H') : AskRow c d H' u o := by
  obtain ⟨l, g, h1, h2, h3⟩ := h
  exact ⟨l, g, e.keep _ _ h1 (by simp), e.keep _ _ h2 (by simp), e.keep _ _ h3 (by simp)⟩
end Tp
namespace Tp
open PySem PySem.Spec PyProof.Rows L2 He
theorem paired_app {α β : Type} {F : α → β → Prop} : ∀ {a1 : List α} {b1 : List β} {a2 : List α} {b2 : List β}, Paired F a1 b1 → Paired F a2 b2 → Paired F (a1 ++ a2) (b1 ++ b2)
  | _, _, _, _, .nil, r => r
  | _, _, _, _, .cons a r, r2 => .cons a (paired_app r r2)
end Tp
namespace Tp
open PySem PySem.Spec PyProof.Rows L2 He
section
variable {t1 t2 : TE} {σ : L2.St} {H : Hp} {tz : TS} {D : Ends} {i : Nat} {v : V}
end
end Tp
namespace Tp
open PySem PySem.Spec PyProof.Rows L2 He
theorem paired_atG {α β : Type} {F : α → β → Prop} : ∀ {as : List α} {l : List β} {i : Nat} {t : α}, Paired F as l → as[i]? = some t → ∃ q, l[i]? = some q ∧ F t q
  | _, _, _, _, .nil, e => by simp at e
  | _, _, 0, _, .cons x r, e => by simp at e; subst e; exact ⟨_, rfl, x⟩
  | _, _, i + 1, t, .cons _ r, e => by
    obtain ⟨q, h1, h2⟩ := paired_atG (i := i) r (by simpa using e)
    exact ⟨q, by simpa using h1, h2⟩
end Tp
namespace Tp
open PySem PySem.Spec PyProof.Rows L2 He
end Tp
namespace Tp
open PySem PySem.Spec PyProof.Rows L2 He
end Tp
/-! Gr: chains of pairs -/
namespace Tp
open PySem PySem.Spec PyProof.Rows L2 He
/-- a chain of pairs of t leads from x to y -/
inductive Reach (t : List (Str × Str)) : Str → Str → Prop
  | refl (x : Str) : Reach t x x
  | step {x y z : Str} : Reach t x y → (y, z) ∈ t → Reach t x z
theorem Reach.trans {t : List (Str × Str)} {x y z : Str} (h : Reach t x y) (h2 : Reach t y z) : Reach t x z := by
  induction h2 with
  | refl => exact h
  | step _ e ih => exact .step ih e
theorem Reach.mono {t t' : List (Str × Str)} {x y : Str} (h : Reach t x y) (hs : ∀ q ∈ t, q ∈ t') : Reach t' x y := by
  induction h with
  | refl => exact .refl _
  | step _ e ih => exact .step ih (hs _ e)
/-- chains over the first k places -/
def War (f : Nat → Nat → Bool) : Nat → Nat → Nat → Bool
  | 0, i, j => f i j
  | k + 1, i, j => War f k i j || (War f k i k && War f k k j)
section
variable {f : Nat → Nat → Bool}
theorem War.le {k i j : Nat} (h : War f k i j = true) : War f (k + 1) i j = true := by
  show (War f k i j || _) = true
  rw [h]
  rfl
theorem War.col {k i : Nat} : War f (k + 1) i k = War f k i k := by
  show (War f k i k || (War f k i k && War f k k k)) = _
  cases War f k i k <;> rfl
theorem War.row {k j : Nat} : War f (k + 1) k j = War f k k j := by
  show (War f k k j || (War f k k k && War f k k j)) = _
  cases War f k k j <;> cases War f k k k <;> rfl
theorem War.cases {k i j : Nat} (h : War f (k + 1) i j = true) : War f k i j = true ∨ (War f k i k = true ∧ War f k k j = true) := by
  have h' : (War f k i j || (War f k i k && War f k k j)) = true := h
  cases e : War f k i j with
  | true => exact .inl rfl
  | false =>
    rw [e, Bool.false_or, Bool.and_eq_true] at h'
    exact .inr h'
theorem War.via {k i j : Nat} (h1 : War f k i k = true) (h2 : War f k k j = true) : War f (k + 1) i j = true := by
  show (War f k i j || (War f k i k && War f k k j)) = true
  rw [h1, h2]
  simp
theorem War.tr : ∀ {k i m j : Nat}, m < k → War f k i m = true → War f k m j = true → War f k i j = true
  | 0, _, _, _, hm, _, _ => absurd hm (Nat.not_lt_zero _)
  | k + 1, i, m, j, hm, h1, h2 => by
    by_cases e : m = k
    · subst e
      rw [War.col] at h1
      rw [War.row] at h2
      exact War.via h1 h2
    · have hm' : m < k := by omega
      rcases War.cases h1 with a | ⟨a1, a2⟩
      · rcases War.cases h2 with b | ⟨b1, b2⟩
        · exact War.le (War.tr hm' a b)
        · exact War.via (War.tr hm' a b1) b2
      · rcases War.cases h2 with b | ⟨b1, b2⟩
        · exact War.via a1 (War.tr hm' a2 b)
        · exact War.via a1 b2
end
/-- the scope of the comprehension that a row assigns -/
def lcSc : Stmt → Scope
  | .Assign _ (.ListComp _ _ sc _) _ => sc
  | s => defScope s
/-- a square of truth values -/
structure TabAt (H : Hp) (R : Addr) (rows : List Addr) (n : Nat) (M : Nat → Nat → Bool) : Prop where
  top : H R = some (.lst (rows.map V.ref))
  len : rows.length = n
  nd : rows.Nodup
  off : R ∉ rows
  row : ∀ i r, rows[i]? = some r → H r = some (.lst ((List.range n).map fun j => V.bl (M i j)))
end Tp
namespace Tp
open PySem PySem.Spec PyProof.Rows L2 He
/-- the row of a table under way -/
def rowL (g : Nat → Bool) (n : Nat) : List V := (List.range n).map fun j => V.bl (g j)
theorem rowL_len {g : Nat → Bool} {n : Nat} : (rowL g n).length = n := by
  unfold rowL
  rw [List.length_map, List.length_range]
theorem rowL_at {g : Nat → Bool} {n j : Nat} (h : j < n) : (rowL g n)[j]? = some (V.bl (g j)) := by
  unfold rowL
  rw [List.getElem?_map, List.getElem?_range h]
  rfl
theorem rowL_congr {g g' : Nat → Bool} {n : Nat} (h : ∀ j, j < n → g j = g' j) : rowL g n = rowL g' n := by
  unfold rowL
  exact List.map_congr_left fun j hj => by rw [h j (List.mem_range.mp hj)]
theorem rowL_set {g g' : Nat → Bool} {n j : Nat} {b : Bool} (hb : g' j = b) (h : ∀ m, m ≠ j → g' m = g m) : (rowL g n).set j (V.bl b) = rowL g' n := by
  apply List.ext_getElem?
  intro m
  by_cases e : m = j
  · subst e
    by_cases hm : m < n
    · rw [List.getElem?_set_self (by rw [rowL_len]; exact hm), rowL_at hm, hb]
    · rw [List.getElem?_eq_none (by rw [List.length_set, rowL_len]; omega), List.getElem?_eq_none (by rw [rowL_len]; omega)]
  · rw [List.getElem?_set_ne (fun q => e q.symm)]
    by_cases hm : m < n
    · rw [rowL_at hm, rowL_at hm, h m e]
    · rw [List.getElem?_eq_none (by rw [rowL_len]; omega), List.getElem?_eq_none (by rw [rowL_len]; omega)]
end Tp
namespace Tp
open PySem PySem.Spec PyProof.Rows L2 He
end Tp
namespace Tp
open PySem PySem.Spec PyProof.Rows L2 He
section
variable {H H' : Hp} {R : Addr} {rows : List Addr} {n : Nat} {M M' : Nat → Nat → Bool}
theorem TabAt.congr (T : TabAt H R rows n M) (h : ∀ i j, i < n → j < n → M i j = M' i j) : TabAt H R rows n M' := by
  refine ⟨T.top, T.len, T.nd, T.off, fun i r hr => ?_⟩
  have hi : i < n := by rw [← T.len]; exact (List.getElem?_eq_some_iff.mp hr).1
  rw [T.row i r hr]
  exact congrArg (fun l => some (HO.lst l)) (rowL_congr fun j hj => h i j hi hj)
theorem TabAt.ext (T : TabAt H R rows n M) (e : Ext [] H H') : TabAt H' R rows n M :=
  ⟨e.keep _ _ T.top (by simp), T.len, T.nd, T.off, fun i r hr => e.keep _ _ (T.row i r hr) (by simp)⟩
theorem TabAt.set (T : TabAt H R rows n M) {i j : Nat} {r : Addr} {b : Bool} (hr : rows[i]? = some r) : TabAt (upd H r (.lst ((rowL (M i) n).set j (V.bl b)))) R rows n (fun x c => if x = i ∧ c = j then b else M x c) := by
  have hRr : R ≠ r := fun q => T.off (by rw [q]; exact List.mem_of_getElem? hr)
  refine ⟨by rw [upd_ne hRr]; exact T.top, T.len, T.nd, T.off, fun m r' hm => ?_⟩
  by_cases e : m = i
  · subst e
    rw [hr] at hm
    cases hm
    rw [upd_same]
    exact congrArg (fun l => some (HO.lst l)) (rowL_set (g' := fun c => if m = m ∧ c = j then b else M m c) (by simp) fun c hc => by simp [hc])
  · have hne : r' ≠ r := fun q => by
      subst q
      exact e ((List.getElem?_inj (List.getElem?_eq_some_iff.mp hm).1 T.nd).mp (by rw [hm, hr]))
    rw [upd_ne hne, T.row m r' hm]
    exact congrArg (fun l => some (HO.lst l)) (rowL_congr fun c _ => by simp [e])
end
end Tp
namespace Tp
open PySem PySem.Spec PyProof.Rows L2 He
/-- the dict of what each first leads to, t told yet -/
structure StepsAt (H : Hp) (D : Addr) (ks : List (Str × Addr)) (t : List (Str × Str)) : Prop where
  top : H D = some (.dK (kvB (ks.map fun q => (q.1, V.ref q.2))))
  kn : (ks.map (·.1)).Nodup
  an : (ks.map (·.2)).Nodup
  row : ∀ q ∈ ks, H q.2 = some (.lst ((selL q.1 t).map V.str))
  all : ∀ p ∈ t, p.1 ∈ ks.map (·.1)
theorem StepsAt.ext {H H' : Hp} {D : Addr} {ks : List (Str × Addr)} {t : List (Str × Str)} (S : StepsAt H D ks t) (e : Ext [] H H') : StepsAt H' D ks t :=
  ⟨e.keep _ _ S.top (by simp), S.kn, S.an, fun q hq => e.keep _ _ (S.row q hq) (by simp), S.all⟩
theorem StepsAt.off {H : Hp} {D : Addr} {ks : List (Str × Addr)} {t : List (Str × Str)} (S : StepsAt H D ks t) : ∀ q ∈ ks, q.2 ≠ D := fun q hq h => by
  have := S.row q hq
  rw [h, S.top] at this
  cases this
theorem valV_ks {ks : List (Str × Addr)} {x : Str} {l : Addr} (nd : (ks.map (·.1)).Nodup) (h : (x, l) ∈ ks) : valV (kvB (ks.map fun q => (q.1, V.ref q.2))) (Sum.inr x : Key) = some (.ref l) := by
  induction ks with
  | nil => cases h
  | cons q ks ih =>
    rw [List.map_cons, List.nodup_cons] at nd
    rcases List.mem_cons.mp h with rfl | h2
    · exact valV_pos (p := (Sum.inr x, V.ref l)) rfl
    · have hne : ¬ q.1 = x := fun e => nd.1 (e ▸ List.mem_map.mpr ⟨(x, l), h2, rfl⟩)
      exact (valV_neg (p := (Sum.inr q.1, V.ref q.2)) (fun y => hne (Sum.inr.inj y))).trans (ih nd.2 h2)
theorem keys_ks {ks : List (Str × Addr)} : (ks.map fun q => (q.1, V.ref q.2)).map (·.1) = ks.map (·.1) := by
  rw [List.map_map]
  rfl
theorem valV_ks_none {ks : List (Str × Addr)} {x : Str} (h : x ∉ ks.map (·.1)) : valV (kvB (ks.map fun q => (q.1, V.ref q.2))) (Sum.inr x : Key) = none := by
  have := valV_kvB (z := x) (ks := ks.map fun q => (q.1, V.ref q.2))
  rw [keys_ks, decide_eq_false h] at this
  simpa using this
theorem putK_ks {ks : List (Str × Addr)} {x : Str} {l : Addr} (h : x ∉ ks.map (·.1)) : putK (kvB (ks.map fun q => (q.1, V.ref q.2))) (Sum.inr x : Key) (.ref l) = kvB ((ks ++ [(x, l)]).map fun q => (q.1, V.ref q.2)) := by
  unfold putK
  rw [if_neg]
  · rw [List.map_append, kvB, kvB, List.map_append]
    rfl
  · intro hc
    obtain ⟨q, hq, e⟩ := List.any_eq_true.mp hc
    obtain ⟨q1, hq1, rfl⟩ := List.mem_map.mp hq
    obtain ⟨q2, hq2, rfl⟩ := List.mem_map.mp hq1
    exact h (List.mem_map.mpr ⟨q2, hq2, Sum.inr.inj (of_decide_eq_true e)⟩)
/-- one pair more, its first known -/
theorem StepsAt.push {H : Hp} {D : Addr} {ks : List (Str × Addr)} {t : List (Str × Str)} (S : StepsAt H D ks t) {x y : Str} {l : Addr} (h : (x, l) ∈ ks) : StepsAt (upd H l (.lst ((selL x t).map V.str ++ [.str y]))) D ks (t ++ [(x, y)]) := by
  refine ⟨by rw [upd_ne (Ne.symm (S.off _ h))]; exact S.top, S.kn, S.an, fun q hq => ?_, fun p hp => ?_⟩
  · rw [selL_snoc]
    by_cases e : q.2 = l
    · have : q = (x, l) := by
        obtain ⟨i, hi⟩ := List.mem_iff_getElem?.mp hq
        obtain ⟨j, hj⟩ := List.mem_iff_getElem?.mp h
        have h1 : (ks.map (·.2))[i]? = some l := by rw [List.getElem?_map, hi, ← e]; rfl
        have h2 : (ks.map (·.2))[j]? = some l := by rw [List.getElem?_map, hj]; rfl
        have this : i = j := (List.getElem?_inj (List.getElem?_eq_some_iff.mp h1).1 S.an).mp (h1.trans h2.symm)
        rw [this, hj] at hi
        exact (Option.some.inj hi).symm
      subst this
      rw [upd_same, if_pos rfl, List.map_append]
      rfl
    · rw [upd_ne e, S.row q hq]
      have : ¬ x = q.1 := fun h2 => e (by
        have a1 := valV_ks S.kn h
        have a2 := valV_ks (x := q.1) (l := q.2) S.kn hq
        rw [← h2, a1] at a2
        exact (V.ref.inj (Option.some.inj a2)).symm)
      rw [if_neg this]
  · rcases List.mem_append.mp hp with hp | hp
    · exact S.all p hp
    · rw [List.mem_singleton.mp hp]
      exact List.mem_map.mpr ⟨_, h, rfl⟩
/-- .. its first new -/
theorem StepsAt.add {H : Hp} {D : Addr} {ks : List (Str × Addr)} {t : List (Str × Str)} (S : StepsAt H D ks t) {x : Str} {l : Addr} (h : x ∉ ks.map (·.1)) (hl : H l = none) : StepsAt (upd (upd H l (.lst [])) D (.dK (kvB ((ks ++ [(x, l)]).map fun q => (q.1, V.ref q.2))))) D (ks ++ [(x, l)]) t := by
  have hlD : l ≠ D := fun e => by rw [e, S.top] at hl; cases hl
  refine ⟨upd_same, ?_, ?_, fun q hq => ?_, fun p hp => ?_⟩
  · rw [List.map_append, List.nodup_append]
    exact ⟨S.kn, by simp, fun a ha b hb e => by simp at hb; exact h (by rw [← hb, ← e]; exact ha)⟩
  · rw [List.map_append, List.nodup_append]
    refine ⟨S.an, by simp, fun a ha b hb e => ?_⟩
    simp at hb
    obtain ⟨q, hq, rfl⟩ := List.mem_map.mp ha
    have := S.row q hq
    rw [e, hb, hl] at this
    cases this
  · rcases List.mem_append.mp hq with hq | hq
    · rw [upd_ne (S.off q hq), upd_ne (ne_of_none (S.row q hq) hl)]
      exact S.row q hq
    · rw [List.mem_singleton.mp hq, upd_ne hlD, upd_same]
      have : selL x t = [] := by
        unfold selL
        rw [List.map_eq_nil_iff, List.filter_eq_nil_iff]
        intro p hp hc
        exact h (by rw [← of_decide_eq_true hc]; exact S.all p hp)
      rw [this]
      rfl
  · rw [List.map_append]
    exact List.mem_append_left _ (S.all p hp)
end Tp
namespace Tp
open PySem PySem.Spec PyProof.Rows L2 He
/-- {k: v for x in a list}: what holds behind i turns -/
theorem dc_list {K : PySem.W.Frag} {l : Addr} {ys : List V} {g : TG} {tt : TT} {tk tv : TE} {own : List Nat} {st : L2.St} {G : Hp} {d : Addr} {fin : Hp → Prop} (at_ : Nat → Hp → Prop) (start : at_ 0 (upd G d (.dK []))) (stays : ∀ n G', n ≤ ys.length → at_ n G' → SqL K G' l ys)
    (turn : ∀ n y G', ys[n]? = some y → at_ n G' → g y (wipe st own) G' fun st2 G2 => wipe st2 own = wipe st own ∧ tt st2 G2 fun ok G3 =>
      if ok = true then tk st2 G3 fun key G4 => tv st2 G4 fun val G5 => ∃ all k, key = kV k ∧ G5 d = some (.dK all) ∧ all.length < sizeLine ∧ at_ (n + 1) (upd G5 d (.dK (putK all k val))) else at_ (n + 1) G3) (done : ∀ G', at_ ys.length G' → fin G') :
    ∃ W : Nat → Nat → Hp → Prop, (∃ left, W 0 left (upd G d (.dK []))) ∧ ∀ n left G', W n left G' →
      ((Itl K l).stop n G' ∧ fin G') ∨ ((Itl K l).go n G' ∧ ∃ Nx : Hp → Prop, (∀ G2, Nx G2 → ∃ less, less < left ∧ W (n + 1) less G2) ∧ ∀ y G2, (Itl K l).yld n G' y G2 → g y (wipe st own) G2 fun st2 G3 => wipe st2 own = wipe st own ∧ tt st2 G3 fun ok G4 =>
        if ok = true then tk st2 G4 fun key G5 => tv st2 G5 fun val G6 => ∃ all k, key = kV k ∧ G6 d = some (.dK all) ∧ all.length < sizeLine ∧ Nx (upd G6 d (.dK (putK all k val))) else Nx G4) := by
  have wk := walk_list (K := K) (a := l) (xs := ys)
  refine ⟨fun n left G' => left + n = ys.length ∧ at_ n G', ⟨ys.length, rfl, start⟩, ?_⟩
  rintro n left G' ⟨sum, here⟩
  have list := stays n G' (by omega) here
  rcases Nat.eq_or_lt_of_le (show n ≤ ys.length by omega) with rfl | lt
  · exact .inl ⟨wk.stops G' list, done G' here⟩
  · refine .inr ⟨wk.goes n G' lt list, at_ (n + 1), fun G2 there => ⟨left - 1, by omega, by omega, there⟩, fun y G2 given => ?_⟩
    obtain ⟨rfl, item⟩ := wk.yields n G' y G2 lt list given
    exact turn n y _ item here
theorem nodup_le {α : Type} [DecidableEq α] : ∀ {l m : List α}, l.Nodup → (∀ x ∈ l, x ∈ m) → l.length ≤ m.length
  | [], _, _, _ => Nat.zero_le _
  | a :: l, m, nd, h => by
    rw [List.nodup_cons] at nd
    have ha := h a (by simp)
    have ih := nodup_le (l := l) (m := m.erase a) nd.2 fun x hx => (List.mem_erase_of_ne (fun e => nd.1 (by rw [← e]; exact hx))).mpr (h x (by simp [hx]))
    have := List.length_erase_of_mem ha
    have hm : 0 < m.length := List.length_pos_of_mem ha
    show l.length + 1 ≤ _
    omega
theorem putK_kv {bs : List (Str × V)} {x : Str} {v : V} (h : x ∉ bs.map (·.1)) : putK (kvB bs) (Sum.inr x : Key) v = kvB (bs ++ [(x, v)]) := by
  unfold putK
  rw [if_neg]
  · rw [kvB, kvB, List.map_append]
    rfl
  · intro hc
    obtain ⟨q, hq, e⟩ := List.any_eq_true.mp hc
    obtain ⟨q1, hq1, rfl⟩ := List.mem_map.mp hq
    exact h (List.mem_map.mpr ⟨q1, hq1, Sum.inr.inj (of_decide_eq_true e)⟩)
theorem reach_end {t : List (Str × Str)} {x y : Str} (h : Reach t x y) : y ∈ x :: t.map (·.2) := by
  cases h with
  | refl => simp
  | step _ e => exact List.mem_cons_of_mem _ (List.mem_map.mpr ⟨_, e, rfl⟩)
theorem reach_in {t : List (Str × Str)} {x y : Str} {bs : List Str} (hx : x ∈ bs) (hc : ∀ y ∈ bs, ∀ z, (y, z) ∈ t → z ∈ bs) (h : Reach t x y) : y ∈ bs := by
  induction h with
  | refl => exact hx
  | step _ e ih => exact hc _ ih _ e
theorem mem_selL {t : List (Str × Str)} {x z : Str} : z ∈ selL x t ↔ (x, z) ∈ t := by
  unfold selL
  rw [List.mem_map]
  constructor
  · rintro ⟨q, hq, rfl⟩
    rw [List.mem_filter] at hq
    have : q.1 = x := of_decide_eq_true hq.2
    rw [← this]
    exact hq.1
  · intro h
    exact ⟨(x, z), List.mem_filter.mpr ⟨h, by simp⟩, rfl⟩
/-- one start's walk -/
def spWalk : Sp := fun vs H Q _ => ∃ (s D : Addr) (x : Str) (ks : List (Str × Addr)) (t : List (Str × Str)), vs = [.ref s, .ref D] ∧ H s = some (.lst [.str x]) ∧ StepsAt H D ks t ∧ t.length ≤ 1000 ∧
  ∀ B bs H', Ext [] H H' → H' B = some (.dK (kvB bs)) → (∀ y, y ∈ bs.map (·.1) ↔ Reach t x y) → Q (.ref B) H'
end Tp
namespace Tp
open PySem PySem.Spec PyProof.Rows L2 He
/-- what a walk has met -/
structure WkI (t : List (Str × Str)) (x : Str) (bs : List (Str × V)) : Prop where
  nd : (bs.map (·.1)).Nodup
  sub : ∀ y ∈ bs.map (·.1), Reach t x y
  hx : x ∈ bs.map (·.1)
theorem WkI.le {t : List (Str × Str)} {x : Str} {bs : List (Str × V)} (w : WkI t x bs) : bs.length ≤ t.length + 1 := by
  have h := nodup_le w.nd (m := x :: t.map (·.2)) fun y hy => reach_end (w.sub y hy)
  rw [List.length_map] at h
  have e : (x :: t.map (·.2)).length = t.length + 1 := by rw [List.length_cons, List.length_map]
  omega
theorem WkI.add {t : List (Str × Str)} {x y z : Str} {bs : List (Str × V)} {v : V} (w : WkI t x bs) (hy : y ∈ bs.map (·.1)) (e : (y, z) ∈ t) (hz : z ∉ bs.map (·.1)) : WkI t x (bs ++ [(z, v)]) := by
  refine ⟨?_, fun a ha => ?_, ?_⟩
  · rw [List.map_append, List.nodup_append]
    exact ⟨w.nd, by simp, fun a ha b hb q => by simp at hb; exact hz (by rw [← hb, ← q]; exact ha)⟩
  · rw [List.map_append] at ha
    rcases List.mem_append.mp ha with ha | ha
    · exact w.sub a ha
    · have : a = z := by simpa using ha
      rw [this]
      exact .step (w.sub y hy) e
  · rw [List.map_append]
    exact List.mem_append_left _ w.hx
end Tp
namespace Tp
open PySem PySem.Spec PyProof.Rows L2 He
section
variable {X : Cx} {n : Nat} {nm : Str} {np cp ap : Pos} {kx vx tgt src : Expr} {tests : List Expr} {inner : Scope} {own : List (Str × Nat)} {wi : TI} {g : TG} {tt : TT} {tk tv : TE}
/-- name = {k: v for ..} on one line, the name a local one -/
theorem ps_setDc (calm : X.calm = true) (ndN : X.N.Nodup) (at_ : X.N[n]? = some nm) (loc : X.env.scope.names.lookup nm = some .local)
    (sw : swapsWith (.DictComp kx vx [⟨tgt, src, tests, 0⟩] inner cp) (some (.Name nm np)) ap.line X.env = pure true) (walk : PI X tgt src wi) (ok : BlkOk X.N X.env.scope inner own)
    (pt : ∀ (s : Shared) (G : Hp) (C : Addr) (cl : List (Str × Addr)) (fp : List Addr), PG (X.blk s G inner (compEnvC inner cl C X.env) fp) tgt g)
    (pi : ∀ (s : Shared) (G : Hp) (C : Addr) (cl : List (Str × Addr)) (fp : List Addr), PTs (X.blk s G inner (compEnvC inner cl C X.env) fp) tests tt)
    (pk : ∀ (s : Shared) (G : Hp) (C : Addr) (cl : List (Str × Addr)) (fp : List Addr), PE (X.blk s G inner (compEnvC inner cl C X.env) fp) kx tk)
    (pv' : ∀ (s : Shared) (G : Hp) (C : Addr) (cl : List (Str × Addr)) (fp : List Addr), PE (X.blk s G inner (compEnvC inner cl C X.env) fp) vx tv) (same : ∀ z, foldedSetIterable src X.env z = pure z := by intro _; rfl) :
    PS X (.Assign [.Name nm np] (.DictComp kx vx [⟨tgt, src, tests, 0⟩] inner cp) ap) (tAsg (tDc wi g tt tk tv (own.map (·.2))) (gName n)) := by
  constructor
  intro pins st σ G D inv told
  rw [exec_Assign_Name_used _ _ _ _ sw]
  refine wpAny_bind (wpAny_standAt (wpAny_bind ?_))
  show wpAny _ X.A (do let _ ← comprehension (.DictComp kx vx [⟨tgt, src, tests, 0⟩] inner cp) inner X.env (firstIterPos [⟨tgt, src, tests, 0⟩] cp) newDict false (eval src X.env) (some (assign (.Name nm np) X.env))) _ _ st
  replace told : tDc wi g tt tk tv (own.map (·.2)) σ G (fun v G1 => gName n v σ G1 D.nx) := told
  refine wpAny_bind (thn (dc_core (Qf := fun _ st' => SP X pins D .next st') calm ndN inv walk ok pt pi pk pv' same told fun d C st' ns G' inv' then_ isNs fp => ?_) fun _ _ end_ => wpAny_pure (wpAny_pure end_))
  show wpAny _ _ (assign (.Name nm np) X.env (.ref d)) _ _ _
  refine wpAny_assign_Name (store_ok2 (v := V.ref d) inv' ndN at_ (.inl loc) rfl (fun st2 inv2 ⟨b, but, where_⟩ => ?_) (.inr loc))
  obtain ⟨p0, p1, p2, p3, p4, p5⟩ := fp
  have apart : C ≠ b := where_.elim (fun z => by rw [z]; exact p1) fun z q => p4 nm b z q.symm
  exact ⟨ns, isNs.sameBut but apart, fun h3 but3 => ⟨_, G', inv2.turned (t' := st2.toks) (fun x o hx e => (but3.2 x hx).trans e) p0 p1 p3 p4 p5, then_⟩⟩
theorem sw_dc {elts : Expr × Expr} {gs : List Comprehension} {l : Nat} {env : Env} (fn : env.scope.kind = .function) (loc : env.scope.names.lookup nm = some .local) (line : (np.line == cp.line) = true)
    (free : (inner.names.any fun (m, k) => m == nm && (k == .local || k == .cell)) = false) : swapsWith (.DictComp elts.1 elts.2 gs inner cp) (some (.Name nm np)) l env = pure true := by
  have kind : env.kindOf nm = some .local := loc
  have blk : env.blockKind = .function := by
    unfold Env.blockKind
    rw [fn]
    rfl
  unfold swapsWith
  simp only [blk, kind, free, Expr.pos, line]
  rfl
end
end Tp
namespace Tp
open PySem PySem.Spec PyProof.Rows L2 He
/-- kinds as the book holds them -/
abbrev kU (z : Str) : Str × V := (z, V.str "unsure")
/-- since H0: the source, the book's kinds and thirsts, the three lists may have changed -/
structure Hv (C : Addr) (H0 H : Hp) (S L b So Wa Th : Addr) (A : Bk) (ss ws : List Str) (t : List (Str × Str)) (ts : List V) : Prop where
  x : Ext [S, A.dk, A.lt, So, Wa, Th] H0 H
  s : SrcAt H S L
  B : BookAt C H b 24 A (ss.map kU) ts [] [] [] []
  D : PT H ts t
  so : H So = some (.lst (ss.map V.str))
  wa : H Wa = some (.lst (ws.map V.str))
  th : RowAt H Th t
  f : ∀ y ∈ A.all b, y ≠ S ∧ y ≠ L ∧ y ≠ So ∧ y ≠ Wa ∧ y ≠ Th
  g : ∀ y ∈ [So, Wa, Th], y ≠ S ∧ y ≠ L
  m : So ≠ Wa ∧ So ≠ Th ∧ Wa ≠ Th
section
variable {C : Addr} {H0 H H' : Hp} {S L b So Wa Th : Addr} {A : Bk} {ss ws : List Str} {t : List (Str × Str)} {ts : List V}
theorem Hv.draw (j : Hv C H0 H S L b So Wa Th A ss ws t ts) (x : Ext [S] H H') (s : SrcAt H' S L) : Hv C H0 H' S L b So Wa Th A ss ws t ts := by
  have g1 := j.g So (by simp)
  have g2 := j.g Wa (by simp)
  have g3 := j.g Th (by simp)
  exact ⟨j.x.trans (x.mono fun y h => by simp at h; simp [h]), s, j.B.ext x fun y hy => by simpa using (j.f y hy).1, j.D.ext x, x.keep _ _ j.so (by simpa using g1.1), x.keep _ _ j.wa (by simpa using g2.1), j.th.ext x (by simpa using g3.1), j.f, j.g, j.m⟩
theorem Hv.grow (j : Hv C H0 H S L b So Wa Th A ss ws t ts) (x : Ext [] H H') : Hv C H0 H' S L b So Wa Th A ss ws t ts := j.draw x.nil (j.s.ext x)
/-- the next waiting name is a kind from now on -/
theorem Hv.kind (j : Hv C H0 H S L b So Wa Th A ss ws t ts) {z : Str} {ws' : List Str} (x : Ext [So, Wa, A.dk] H H') (so : H' So = some (.lst ((ss ++ [z]).map V.str))) (wa : H' Wa = some (.lst (ws'.map V.str))) (B : BookAt C H' b 24 A ((ss ++ [z]).map kU) ts [] [] [] []) : Hv C H0 H' S L b So Wa Th A (ss ++ [z]) ws' t ts := by
  have fk := j.f A.dk (by simp)
  have g1 := j.g So (by simp)
  have g2 := j.g Wa (by simp)
  have g3 := j.g Th (by simp)
  refine ⟨j.x.trans (x.mono fun y h => by simp at h; rcases h with h | h | h <;> simp [h]), j.s.keepM x ?_ ?_, B, j.D.ext x, so, wa, j.th.ext x ?_, j.f, j.g, j.m⟩
  · simp only [List.mem_cons, List.not_mem_nil, or_false, not_or]
    exact ⟨Ne.symm g1.1, Ne.symm g2.1, Ne.symm fk.1⟩
  · simp only [List.mem_cons, List.not_mem_nil, or_false, not_or]
    exact ⟨Ne.symm g1.2, Ne.symm g2.2, Ne.symm fk.2.1⟩
  · simp only [List.mem_cons, List.not_mem_nil, or_false, not_or]
    exact ⟨Ne.symm j.m.2.1, Ne.symm j.m.2.2, Ne.symm fk.2.2.2.2⟩
/-- one thirst more, told in the list and in the book -/
theorem Hv.thirst (j : Hv C H0 H S L b So Wa Th A ss ws t ts) {u : Addr} {q : Str × Str} (x : Ext [Th, A.lt] H H') (th : RowAt H' Th (t ++ [q])) (hu : H' u = some (.tup [.str q.1, .str q.2])) (B : BookAt C H' b 24 A (ss.map kU) (ts ++ [.ref u]) [] [] [] []) : Hv C H0 H' S L b So Wa Th A ss ws (t ++ [q]) (ts ++ [.ref u]) := by
  have fl := j.f A.lt (by simp)
  have g3 := j.g Th (by simp)
  refine ⟨j.x.trans (x.mono fun y h => by simp at h; rcases h with h | h <;> simp [h]), j.s.keepM x ?_ ?_, B, (j.D.ext x).snoc hu, x.keep _ _ j.so ?_, x.keep _ _ j.wa ?_, th, j.f, j.g, j.m⟩
  · simp only [List.mem_cons, List.not_mem_nil, or_false, not_or]
    exact ⟨Ne.symm g3.1, Ne.symm fl.1⟩
  · simp only [List.mem_cons, List.not_mem_nil, or_false, not_or]
    exact ⟨Ne.symm g3.2, Ne.symm fl.2.1⟩
  · simp only [List.mem_cons, List.not_mem_nil, or_false, not_or]
    exact ⟨j.m.2.1, Ne.symm fl.2.2.1⟩
  · simp only [List.mem_cons, List.not_mem_nil, or_false, not_or]
    exact ⟨j.m.2.2, Ne.symm fl.2.2.2.1⟩
end
end Tp
namespace Tp
open PySem PySem.Spec PyProof.Rows L2 He
end Tp
namespace Tp
open PySem PySem.Spec PyProof.Rows L2 He
end Tp
namespace Tp
open PySem PySem.Spec PyProof.Rows L2 He
end Tp
namespace Tp
open PySem PySem.Spec PyProof.Rows L2 He
end Tp
/-! Fx: facts, comparisons, what is told to be there -/
namespace Tp
open PySem PySem.Spec PyProof.Rows L2 He
abbrev Am := Str × Nat
/-- a fact about two amounts, or about one -/
inductive Fk where
  | tell (x y : Am)
  | some (x : Am)
  deriving DecidableEq
abbrev dFk : Fk → PyData
  | .tell x y => .tuple [.str "tell", dAmt x, dAmt y]
  | .some x => .tuple [.str "some", dAmt x]
def isFk (H : Hp) (u : Addr) : Fk → Prop
  | .tell x y => ∃ a b, H u = Option.some (.tup [.str "tell", .ref a, .ref b]) ∧ isAmt H a x ∧ isAmt H b y
  | .some x => ∃ a, H u = Option.some (.tup [.str "some", .ref a]) ∧ isAmt H a x
theorem isFk.ext {ms : List Addr} {H H' : Hp} {u : Addr} {f : Fk} (h : isFk H u f) (e : Ext ms H H') : isFk H' u f := by
  cases f with
  | tell x y =>
    obtain ⟨a, b, h1, h2, h3⟩ := h
    exact ⟨a, b, e.tups _ _ h1, e.tups _ _ h2, e.tups _ _ h3⟩
  | some x =>
    obtain ⟨a, h1, h2⟩ := h
    exact ⟨a, e.tups _ _ h1, e.tups _ _ h2⟩
theorem isFk.im {H : Hp} {u : Addr} {f : Fk} (h : isFk H u f) : Im H (.ref u) (dFk f) := by
  cases f with
  | tell x y =>
    obtain ⟨a, b, h1, h2, h3⟩ := h
    exact .tup h1 (.cons (.str _) (.cons h2.im (.cons h3.im .nil)))
  | some x =>
    obtain ⟨a, h1, h2⟩ := h
    exact .tup h1 (.cons (.str _) (.cons h2.im .nil))
section
variable {α β : Type} {F G : α → β → Prop}
theorem pairedG_mono (h : ∀ a b, F a b → G a b) : ∀ {as : List α} {bs : List β}, Paired F as bs → Paired G as bs
  | _, _, .nil => .nil
  | _, _, .cons x r => .cons (h _ _ x) (pairedG_mono h r)
theorem pairedG_len : ∀ {as : List α} {bs : List β}, Paired F as bs → as.length = bs.length
  | _, _, .nil => rfl
  | _, _, .cons _ r => by simp [pairedG_len r]
theorem pairedG_one {a : α} {b : β} (h : F a b) : Paired F [a] [b] := .cons h .nil
theorem pairedG_get : ∀ {as : List α} {bs : List β} {i : Nat} {q : β}, Paired F as bs → bs[i]? = Option.some q → ∃ t, as[i]? = Option.some t ∧ F t q
  | _, _, _, _, .nil, e => by simp at e
  | _, _, 0, _, .cons x r, e => by simp at e; subst e; exact ⟨_, rfl, x⟩
  | _, _, i + 1, q, .cons _ r, e => by
    obtain ⟨t, h1, h2⟩ := pairedG_get (i := i) r (by simpa using e)
    exact ⟨t, by simpa using h1, h2⟩
end
/-- values that are these facts -/
def FL (H : Hp) (vs : List V) (fs : List Fk) : Prop := ∃ as : List Addr, vs = as.map V.ref ∧ Paired (isFk H) as fs
theorem FL.nil {H : Hp} : FL H [] [] := ⟨[], rfl, .nil⟩
theorem FL.ext {ms : List Addr} {H H' : Hp} {vs : List V} {fs : List Fk} (h : FL H vs fs) (e : Ext ms H H') : FL H' vs fs := by
  obtain ⟨as, h1, h2⟩ := h
  exact ⟨as, h1, pairedG_mono (fun a b h => h.ext e) h2⟩
theorem FL.len {H : Hp} {vs : List V} {fs : List Fk} (h : FL H vs fs) : vs.length = fs.length := by
  obtain ⟨as, rfl, h2⟩ := h
  rw [List.length_map, pairedG_len h2]
theorem FL.snoc {H : Hp} {vs : List V} {fs : List Fk} {u : Addr} {f : Fk} (h : FL H vs fs) (hu : isFk H u f) : FL H (vs ++ [.ref u]) (fs ++ [f]) := by
  obtain ⟨as, rfl, h2⟩ := h
  exact ⟨as ++ [u], by rw [List.map_append]; rfl, paired_app h2 (pairedG_one hu)⟩
theorem FL.get {H : Hp} {vs : List V} {fs : List Fk} {i : Nat} {v : V} (h : FL H vs fs) (e : vs[i]? = Option.some v) : ∃ u f, v = .ref u ∧ fs[i]? = Option.some f ∧ isFk H u f := by
  obtain ⟨as, rfl, h2⟩ := h
  rw [List.getElem?_map] at e
  obtain ⟨u, hu, rfl⟩ := Option.map_eq_some_iff.mp e
  obtain ⟨f, hf, hF⟩ := paired_atG h2 hu
  exact ⟨u, f, rfl, hf, hF⟩
theorem fk_im {H : Hp} : ∀ {as : List Addr} {fs : List Fk}, Paired (isFk H) as fs → ImAll H (as.map V.ref) (fs.map dFk)
  | _, _, .nil => .nil
  | _, _, .cons x r => .cons x.im (fk_im r)
theorem FL.dp {K : PySem.W.Frag} {H : Hp} {l : Addr} {vs : List V} {fs : List Fk} (h : FL H vs fs) (hl : H l = Option.some (.lst vs)) : Dp K H (.ref l) (.list (fs.map dFk)) := by
  obtain ⟨as, rfl, h2⟩ := h
  exact .lst (SqL.of hl) (fk_im h2).dp
def okF : Fk → Prop
  | .tell x y => okS x.1 ∧ okS y.1
  | .some x => okS x.1
theorem okS_tell : okS ("tell" : Str) := by decide +kernel
theorem okS_some : okS ("some" : Str) := by decide +kernel
theorem okD_amt_le {q : Am} (h : okS q.1) : (dAmt q).depth ≤ 2 := by simp [dAmt, PyData.depth, PyData.depthAll]
theorem okD_fk {f : Fk} (h : okF f) : okD (dFk f) := by
  cases f with
  | tell x y =>
    refine okD.tup (n := 3) ?_ (by decide)
    intro d hd
    simp only [List.mem_cons, List.not_mem_nil, or_false] at hd
    rcases hd with rfl | rfl | rfl
    · exact ⟨(okD.str okS_tell).1, by simp [PyData.depth]⟩
    · exact ⟨(okD_amt h.1).1, by have := okD_amt_le h.1; omega⟩
    · exact ⟨(okD_amt h.2).1, by have := okD_amt_le h.2; omega⟩
  | some x =>
    refine okD.tup (n := 3) ?_ (by decide)
    intro d hd
    simp only [List.mem_cons, List.not_mem_nil, or_false] at hd
    rcases hd with rfl | rfl
    · exact ⟨(okD.str okS_some).1, by simp [PyData.depth]⟩
    · exact ⟨(okD_amt h).1, by have := okD_amt_le h; omega⟩
theorem sh_fk {fs : List Fk} (h : ∀ f ∈ fs, okF f) : SeqAt.shaped (.list (fs.map dFk)) = true := shapedL (n := 8) (by
  intro x hx
  obtain ⟨f, hf, rfl⟩ := List.mem_map.mp hx
  exact okD_fk (h f hf)) (by decide)
theorem eqv_amt {p q : Am} : PyData.eqv (dAmt p) (dAmt q) = decide (p = q) := by
  rw [Bool.eq_iff_iff]
  obtain ⟨a, b⟩ := p
  obtain ⟨c, d⟩ := q
  simp [dAmt, PyData.eqv, PyData.eqvAll]
  intro _
  omega
theorem any_amt {t : List Am} {q : Am} : ((t.map dAmt).any fun z => PyData.eqv z (dAmt q)) = decide (q ∈ t) := by
  rw [Bool.eq_iff_iff, List.any_eq_true, decide_eq_true_eq]
  constructor
  · rintro ⟨x, hx, h⟩
    obtain ⟨p, hp, rfl⟩ := List.mem_map.mp hx
    rw [eqv_amt] at h
    rw [← of_decide_eq_true h]
    exact hp
  · intro h
    exact ⟨_, List.mem_map.mpr ⟨q, h, rfl⟩, by rw [eqv_amt]; simp⟩
theorem eqv_fk1 {f : Fk} {q : Am} : PyData.eqv (dFk f) (dFk (.some q)) = decide (f = .some q) := by
  rw [Bool.eq_iff_iff]
  cases f with
  | tell x y => simp [dFk, PyData.eqv, PyData.eqvAll]
  | some x =>
    obtain ⟨a, b⟩ := x
    obtain ⟨c, d⟩ := q
    simp [dFk, dAmt, PyData.eqv, PyData.eqvAll]
    intro _
    omega
theorem any_fk1 {fs : List Fk} {q : Am} : ((fs.map dFk).any fun z => PyData.eqv z (dFk (.some q))) = decide (Fk.some q ∈ fs) := by
  rw [Bool.eq_iff_iff, List.any_eq_true, decide_eq_true_eq]
  constructor
  · rintro ⟨x, hx, h⟩
    obtain ⟨p, hp, rfl⟩ := List.mem_map.mp hx
    rw [eqv_fk1] at h
    rw [← of_decide_eq_true h]
    exact hp
  · intro h
    exact ⟨_, List.mem_map.mpr ⟨_, h, rfl⟩, by rw [eqv_fk1]; simp⟩
theorem sh_amts {xs : List Am} (h : ∀ q ∈ xs, okS q.1) : SeqAt.shaped (.list (xs.map dAmt)) = true := shapedL (n := 8) (by
  intro x hx
  obtain ⟨q, hq, rfl⟩ := List.mem_map.mp hx
  exact okD_amt (h q hq)) (by decide)
theorem amts_im {H : Hp} : ∀ {as : List Addr} {l : List Am}, Paired (isAmt H) as l → ImAll H (as.map V.ref) (l.map dAmt)
  | _, _, .nil => .nil
  | _, _, .cons x r => .cons (isAmt.im x) (amts_im r)
theorem AmtAt.dp {K : PySem.W.Frag} {H : Hp} {l : Addr} {xs : List Am} (h : AmtAt H l xs) : Dp K H (.ref l) (.list (xs.map dAmt)) := by
  obtain ⟨as, h1, h2⟩ := h
  exact .lst (SqL.of h1) (amts_im h2).dp
/-- a pair of amounts -/
abbrev Pa := Am × Am
abbrev dPr (q : Pa) : PyData := .tuple [dAmt q.1, dAmt q.2]
def isPr (H : Hp) (u : Addr) (q : Pa) : Prop := ∃ a b, H u = Option.some (.tup [.ref a, .ref b]) ∧ isAmt H a q.1 ∧ isAmt H b q.2
theorem isPr.ext {ms : List Addr} {H H' : Hp} {u : Addr} {q : Pa} (h : isPr H u q) (e : Ext ms H H') : isPr H' u q := by
  obtain ⟨a, b, h1, h2, h3⟩ := h
  exact ⟨a, b, e.tups _ _ h1, e.tups _ _ h2, e.tups _ _ h3⟩
theorem isPr.im {H : Hp} {u : Addr} {q : Pa} (h : isPr H u q) : Im H (.ref u) (dPr q) := by
  obtain ⟨a, b, h1, h2, h3⟩ := h
  exact .tup h1 (.cons h2.im (.cons h3.im .nil))
def PrL (H : Hp) (vs : List V) (xs : List Pa) : Prop := ∃ as : List Addr, vs = as.map V.ref ∧ Paired (isPr H) as xs
theorem PrL.nil {H : Hp} : PrL H [] [] := ⟨[], rfl, .nil⟩
theorem PrL.ext {ms : List Addr} {H H' : Hp} {vs : List V} {xs : List Pa} (h : PrL H vs xs) (e : Ext ms H H') : PrL H' vs xs := by
  obtain ⟨as, h1, h2⟩ := h
  exact ⟨as, h1, pairedG_mono (fun a b h => h.ext e) h2⟩
theorem PrL.len {H : Hp} {vs : List V} {xs : List Pa} (h : PrL H vs xs) : vs.length = xs.length := by
  obtain ⟨as, rfl, h2⟩ := h
  rw [List.length_map, pairedG_len h2]
theorem PrL.app {H : Hp} {vs ws : List V} {xs ys : List Pa} (h : PrL H vs xs) (h2 : PrL H ws ys) : PrL H (vs ++ ws) (xs ++ ys) := by
  obtain ⟨as, rfl, p1⟩ := h
  obtain ⟨bs, rfl, p2⟩ := h2
  exact ⟨as ++ bs, by rw [List.map_append], paired_app p1 p2⟩
theorem PrL.one {H : Hp} {u : Addr} {q : Pa} (h : isPr H u q) : PrL H [.ref u] [q] := ⟨[u], rfl, pairedG_one h⟩
theorem PrL.get {H : Hp} {vs : List V} {xs : List Pa} {i : Nat} {v : V} (h : PrL H vs xs) (e : vs[i]? = Option.some v) : ∃ u f, v = .ref u ∧ xs[i]? = Option.some f ∧ isPr H u f := by
  obtain ⟨as, rfl, h2⟩ := h
  rw [List.getElem?_map] at e
  obtain ⟨u, hu, rfl⟩ := Option.map_eq_some_iff.mp e
  obtain ⟨f, hf, hF⟩ := paired_atG h2 hu
  exact ⟨u, f, rfl, hf, hF⟩
theorem pr_im {H : Hp} : ∀ {as : List Addr} {xs : List Pa}, Paired (isPr H) as xs → ImAll H (as.map V.ref) (xs.map dPr)
  | _, _, .nil => .nil
  | _, _, .cons x r => .cons x.im (pr_im r)
theorem PrL.dp {K : PySem.W.Frag} {H : Hp} {l : Addr} {vs : List V} {xs : List Pa} (h : PrL H vs xs) (hl : H l = Option.some (.lst vs)) : Dp K H (.ref l) (.list (xs.map dPr)) := by
  obtain ⟨as, rfl, h2⟩ := h
  exact .lst (SqL.of hl) (pr_im h2).dp
theorem okD_pr {q : Pa} (h : okS q.1.1 ∧ okS q.2.1) : okD (dPr q) := okD.tup (n := 3) (by
  intro d hd
  simp only [List.mem_cons, List.not_mem_nil, or_false] at hd
  rcases hd with rfl | rfl
  · exact ⟨(okD_amt h.1).1, by have := okD_amt_le h.1; omega⟩
  · exact ⟨(okD_amt h.2).1, by have := okD_amt_le h.2; omega⟩) (by decide)
theorem sh_pr {xs : List Pa} (h : ∀ q ∈ xs, okS q.1.1 ∧ okS q.2.1) : SeqAt.shaped (.list (xs.map dPr)) = true := shapedL (n := 8) (by
  intro x hx
  obtain ⟨q, hq, rfl⟩ := List.mem_map.mp hx
  exact okD_pr (h q hq)) (by decide)
/-- a list of pairs of amounts -/
def PrAt (H : Hp) (l : Addr) (xs : List Pa) : Prop := ∃ vs, H l = Option.some (.lst vs) ∧ PrL H vs xs
theorem PrAt.ext {ms : List Addr} {H H' : Hp} {l : Addr} {xs : List Pa} (h : PrAt H l xs) (e : Ext ms H H') (hl : l ∉ ms) : PrAt H' l xs := by
  obtain ⟨vs, h1, h2⟩ := h
  exact ⟨vs, e.keep _ _ h1 hl, h2.ext e⟩
theorem PrAt.dp {K : PySem.W.Frag} {H : Hp} {l : Addr} {xs : List Pa} (h : PrAt H l xs) : Dp K H (.ref l) (.list (xs.map dPr)) := by
  obtain ⟨vs, h1, h2⟩ := h
  exact h2.dp h1
end Tp
namespace Tp
open PySem PySem.Spec PyProof.Rows L2 He
/-- at least as thirsty as -/
noncomputable def thB (t : List (Str × Str)) (x y : Str) : Bool := @decide (Reach t x y) (Classical.propDecidable _)
theorem thB_iff {t : List (Str × Str)} {x y : Str} : thB t x y = true ↔ Reach t x y := by
  unfold thB
  exact @decide_eq_true_iff _ (Classical.propDecidable _)
theorem thB_eq {t : List (Str × Str)} {x y : Str} {b : Bool} (h : b = true ↔ Reach t x y) : b = thB t x y := by
  rw [Bool.eq_iff_iff, h, thB_iff]
/-- the kind of a cloth -/
def kindD (c : List (Str × Str)) (x : Str) : Str := (selL x c).headD ⟨#[]⟩
theorem kindD_eq {c : List (Str × Str)} {x y : Str} (hc : (c.map (·.1)).Nodup) (h : (x, y) ∈ c) : kindD c x = y := by
  unfold kindD
  rw [selL_one hc h]
  rfl
noncomputable def fallB (t c d : List (Str × Str)) (j i : Nat) : Bool := match d[i]?, d[j]? with
  | some q, some r => decide (q.2 = r.2) && thB t (kindD c q.1) (kindD c r.1)
  | _, _ => false
noncomputable def fallsD (t c d : List (Str × Str)) (j : Nat) : Nat → List Pa
  | 0 => []
  | i + 1 => fallsD t c d j i ++ (if fallB t c d j i = true then [((("take" : Str), i), (("take" : Str), j))] else [])
def bleedD (k c d : List (Str × Str)) (j : Nat) : List Pa := if leaveD k c d j = true then
    (match d[j]? with
    | some q => (match prevD d q.1 j with
      | some m => [((("take" : Str), m), (("leave" : Str), j))]
      | none => [])
    | none => [])
  else []
/-- falls and bleeds of the first dips -/
noncomputable def stepsD (k t c d : List (Str × Str)) : Nat → List Pa
  | 0 => []
  | j + 1 => (stepsD k t c d j ++ fallsD t c d j j) ++ bleedD k c d j
def toldD : List Fk → List Pa
  | [] => []
  | .tell x y :: fs => (x, y) :: toldD fs
  | .some _ :: fs => toldD fs
theorem toldD_app : ∀ {fs gs : List Fk}, toldD (fs ++ gs) = toldD fs ++ toldD gs
  | [], _ => rfl
  | .tell x y :: fs, gs => by
    show (x, y) :: toldD (fs ++ gs) = _
    rw [toldD_app]
    rfl
  | .some _ :: fs, gs => by
    show toldD (fs ++ gs) = _
    rw [toldD_app]
    rfl
theorem toldD_len : ∀ {fs : List Fk}, (toldD fs).length ≤ fs.length
  | [] => Nat.le_refl _
  | .tell x y :: fs => by
    have := toldD_len (fs := fs)
    show (toldD fs).length + 1 ≤ fs.length + 1
    omega
  | .some _ :: fs => by
    have := toldD_len (fs := fs)
    show (toldD fs).length ≤ fs.length + 1
    omega
noncomputable def pairsD (k t c d : List (Str × Str)) (fs : List Fk) : List Pa := stepsD k t c d d.length ++ toldD fs
theorem fallsD_len {t c d : List (Str × Str)} {j : Nat} : ∀ i, (fallsD t c d j i).length ≤ i
  | 0 => Nat.le_refl _
  | i + 1 => by
    have := fallsD_len (t := t) (c := c) (d := d) (j := j) i
    show (fallsD t c d j i ++ (if fallB t c d j i = true then [((("take" : Str), i), (("take" : Str), j))] else [])).length ≤ _
    rw [List.length_append]
    split
    · show _ + 1 ≤ _
      omega
    · show _ + 0 ≤ _
      omega
theorem bleedD_len {k c d : List (Str × Str)} {j : Nat} : (bleedD k c d j).length ≤ 1 := by
  unfold bleedD
  split
  · split
    · split
      · exact Nat.le_refl _
      · exact Nat.zero_le _
    · exact Nat.zero_le _
  · exact Nat.zero_le _
theorem stepsD_len {k t c d : List (Str × Str)} : ∀ n, (stepsD k t c d n).length ≤ n * (n + 1)
  | 0 => Nat.le_refl _
  | n + 1 => by
    have h1 := stepsD_len (k := k) (t := t) (c := c) (d := d) n
    have h2 := fallsD_len (t := t) (c := c) (d := d) (j := n) n
    have h3 := bleedD_len (k := k) (c := c) (d := d) (j := n)
    show ((stepsD k t c d n ++ fallsD t c d n n) ++ bleedD k c d n).length ≤ _
    rw [List.length_append, List.length_append]
    have e : (n + 1) * (n + 1 + 1) = n * (n + 1) + 2 * (n + 1) := by
      rw [Nat.mul_add, Nat.add_mul, Nat.mul_add]
      omega
    omega
/-- the leave of a cloth that surely leaves some colour -/
def looseB (k c d : List (Str × Str)) (q : Am) : Bool := decide (q.1 = "leave") && (match d[q.2]? with
  | some r => decide (holdOf k c r.1 = "loose")
  | none => false)
def thereB (k c d : List (Str × Str)) (fs : List Fk) (q : Am) : Bool := decide (Fk.some q ∈ fs) || looseB k c d q
def thereD (k c d : List (Str × Str)) (fs : List Fk) : List Am := (amtD k c d d.length).filter (thereB k c d fs)
theorem okS_take : okS ("take" : Str) := by decide +kernel
theorem okS_leave : okS ("leave" : Str) := by decide +kernel
/-- an amount's number is a dip's -/
theorem amtD_lt {k c d : List (Str × Str)} : ∀ n, ∀ q ∈ amtD k c d n, q.2 < n
  | 0, q, h => by cases h
  | n + 1, q, h => by
    have h' : q ∈ (amtD k c d n ++ [(("take" : Str), n)]) ++ (if leaveD k c d n = true then [(("leave" : Str), n)] else []) := h
    rcases List.mem_append.mp h' with h | h
    · rcases List.mem_append.mp h with h | h
      · have := amtD_lt n q h; omega
      · simp at h; subst h; exact Nat.lt_succ_self n
    · split at h
      · simp at h; subst h; exact Nat.lt_succ_self n
      · cases h
theorem leave_mem {k c d : List (Str × Str)} {j : Nat} : ∀ n, j < n → ((("leave" : Str), j) ∈ amtD k c d n ↔ leaveD k c d j = true)
  | 0, h => absurd h (Nat.not_lt_zero _)
  | n + 1, h => by
    have e : amtD k c d (n + 1) = (amtD k c d n ++ [(("take" : Str), n)]) ++ (if leaveD k c d n = true then [(("leave" : Str), n)] else []) := rfl
    have ne : ("leave" : Str) ≠ "take" := by decide +kernel
    rw [e, List.mem_append, List.mem_append]
    by_cases hj : j = n
    · subst hj
      constructor
      · rintro ((q | q) | q)
        · exact absurd (amtD_lt _ _ q) (Nat.lt_irrefl _)
        · simp at q
          exact absurd q (by decide +kernel)
        · split at q
          · assumption
          · cases q
      · intro q
        exact .inr (by rw [if_pos q]; simp)
    · have ih := leave_mem (k := k) (c := c) (d := d) (j := j) n (by omega)
      rw [← ih]
      constructor
      · rintro ((q | q) | q)
        · exact q
        · simp at q
          exact absurd q.2 hj
        · split at q
          · simp at q
            exact absurd q hj
          · cases q
      · exact fun q => .inl (.inl q)
theorem leave_prev {k c d : List (Str × Str)} {j : Nat} (h : leaveD k c d j = true) : ∃ q m, d[j]? = some q ∧ prevD d q.1 j = some m := by
  unfold leaveD at h
  split at h
  · rename_i q hq
    split at h
    · rename_i m hm
      exact ⟨q, m, hq, hm⟩
    · cases h
  · cases h
end Tp
namespace Tp
open PySem PySem.Spec PyProof.Rows L2 He
/-- what is reached from x, so far -/
structure RchI (k t : List (Str × Str)) (x : Str) (rs : List Str) : Prop where
  nd : rs.Nodup
  hx : x ∈ rs
  rc : ∀ z ∈ rs, Reach t x z
  sub : ∀ z ∈ rs, z ∈ k.map (·.1)
def RchC (t : List (Str × Str)) (rs : List Str) : Prop := ∀ q ∈ t, q.1 ∈ rs → q.2 ∈ rs
/-- j items of a pass that began with rs -/
def RchJ (t : List (Str × Str)) (rs ws : List Str) (j : Nat) : Prop := (ws = rs ∧ ∀ q ∈ t.take j, q.1 ∈ rs → q.2 ∈ rs) ∨ (rs.length + 1 ≤ ws.length ∧ ¬ RchC t rs)
section
variable {k t : List (Str × Str)} {x : Str} {rs ws : List Str}
theorem RchI.start (hx : x ∈ k.map (·.1)) : RchI k t x [x] := ⟨by simp, by simp, fun z hz => by simp at hz; rw [hz]; exact .refl _, fun z hz => by simp at hz; rw [hz]; exact hx⟩
theorem RchI.le (R : RchI k t x rs) : rs.length ≤ k.length := by
  have := nodup_le R.nd R.sub
  rw [List.length_map] at this
  exact this
theorem RchI.add (R : RchI k t x rs) {q : Str × Str} (hq : q ∈ t) (h1 : q.1 ∈ rs) (h2 : q.2 ∉ rs) (hk : q.2 ∈ k.map (·.1)) : RchI k t x (rs ++ [q.2]) := by
  refine ⟨?_, List.mem_append_left _ R.hx, fun z hz => ?_, fun z hz => ?_⟩
  · rw [List.nodup_append]
    exact ⟨R.nd, by simp, fun a ha b hb e => by simp at hb; exact h2 (by rw [← hb, ← e]; exact ha)⟩
  · rcases List.mem_append.mp hz with hz | hz
    · exact R.rc z hz
    · simp at hz
      rw [hz]
      exact .step (R.rc _ h1) hq
  · rcases List.mem_append.mp hz with hz | hz
    · exact R.sub z hz
    · simp at hz
      rw [hz]
      exact hk
theorem RchJ.done (J : RchJ t rs ws t.length) {i : Nat} (hc : RchC t rs ∨ i + 1 ≤ rs.length) : RchC t ws ∨ i + 1 + 1 ≤ ws.length := by
  rcases J with ⟨rfl, h⟩ | ⟨h1, h2⟩
  · exact .inl fun q hq => h q (by rw [List.take_of_length_le (Nat.le_refl _)]; exact hq)
  · rcases hc with hc | hc
    · exact absurd hc h2
    · exact .inr (by omega)
theorem RchJ.skip {j : Nat} {q : Str × Str} (J : RchJ t rs ws j) (hq : t[j]? = some q) (h : q.1 ∈ ws → q.2 ∈ ws) : RchJ t rs ws (j + 1) := by
  rcases J with ⟨rfl, h0⟩ | h0
  · refine .inl ⟨rfl, fun z hz => ?_⟩
    rw [take_snoc hq] at hz
    rcases List.mem_append.mp hz with hz | hz
    · exact h0 z hz
    · simp at hz
      rw [hz]
      exact h
  · exact .inr h0
theorem RchJ.add {j : Nat} {q : Str × Str} (J : RchJ t rs ws j) (hq : q ∈ t) (h1 : q.1 ∈ ws) (h2 : q.2 ∉ ws) : RchJ t rs (ws ++ [q.2]) (j + 1) := by
  rcases J with ⟨rfl, h0⟩ | ⟨h3, h4⟩
  · exact .inr ⟨by rw [List.length_append]; exact Nat.le_refl _, fun hc => h2 (hc q hq h1)⟩
  · exact .inr ⟨by rw [List.length_append]; omega, h4⟩
theorem RchI.fin (R : RchI k t x rs) (hc : RchC t rs ∨ k.length + 1 ≤ rs.length) (y : Str) : y ∈ rs ↔ thB t x y = true := by
  have hc' : RchC t rs := by
    rcases hc with h | h
    · exact h
    · have := R.le
      omega
  rw [thB_iff]
  exact ⟨R.rc y, fun h => reach_in R.hx (fun z hz z' hzz => hc' (z, z') hzz hz) h⟩
end
end Tp
namespace Tp
open PySem PySem.Spec PyProof.Rows L2 He
theorem flat_strs : ∀ {zs : List Str}, (zs.map V.str).all flatV = true
  | [] => rfl
  | z :: zs => flat_strs (zs := zs)
section
variable {K : PySem.W.Frag} {σ : L2.St} {H : Hp} {ta tb : TE} {l : Addr} {zs : List Str} {z : Str} {t u : TT} {a b : Bool}
theorem ans_inS (ha : Val ta σ H (.str z)) (hb : Val tb σ H (.ref l)) (hl : H l = some (.lst (zs.map V.str))) : Ans (tTest (tOp (rIn K false) ta tb)) σ H (decide (z ∈ zs)) :=
  ans_cmp ha hb fun _ q => ⟨l, _, rfl, .inl (SqL.of hl), rfl, flat_strs, by show _; rw [inV_strs]; exact q⟩
theorem ans_ninS (ha : Val ta σ H (.str z)) (hb : Val tb σ H (.ref l)) (hl : H l = some (.lst (zs.map V.str))) : Ans (tTest (tOp (rIn K true) ta tb)) σ H (!decide (z ∈ zs)) :=
  ans_cmp ha hb fun _ q => ⟨l, _, rfl, .inl (SqL.of hl), rfl, flat_strs, by show _; rw [inV_strs]; exact q⟩
theorem val_inS (ha : Val ta σ H (.str z)) (hb : Val tb σ H (.ref l)) (hl : H l = some (.lst (zs.map V.str))) : Val (tOp (rIn K false) ta tb) σ H (.bl (decide (z ∈ zs))) :=
  val_op ha hb fun _ q => ⟨l, _, rfl, .inl (SqL.of hl), rfl, flat_strs, by show _; rw [inV_strs]; exact q⟩
end
end Tp
namespace Tp
open PySem PySem.Spec PyProof.Rows L2 He
section
variable {H : Hp} {F u u1 u2 u3 : Addr} {vs ws : List V} {xs : List Pa} {q : Pa}
theorem ext_lst (hF : H F = some (.lst vs)) : Ext [F] H (upd H F (.lst ws)) := Ext.refl.mut (by simp) fun xs z => by rw [hF] at z; cases z
theorem PrL.push (P : PrL H vs xs) (hF : H F = some (.lst vs)) (hu : isPr H u q) : PrL (upd H F (.lst (vs ++ [.ref u]))) (vs ++ [.ref u]) (xs ++ [q]) :=
  (P.ext (ext_lst hF)).app (PrL.one (hu.ext (ext_lst hF)))
theorem new_pr (h1 : H u1 = none) (h2 : upd H u1 (.tup [.str q.1.1, .int (q.1.2 : Int)]) u2 = none) (h3 : upd (upd H u1 (.tup [.str q.1.1, .int (q.1.2 : Int)])) u2 (.tup [.str q.2.1, .int (q.2.2 : Int)]) u3 = none) :
    Ext [] H (upd (upd (upd H u1 (.tup [.str q.1.1, .int (q.1.2 : Int)])) u2 (.tup [.str q.2.1, .int (q.2.2 : Int)])) u3 (.tup [.ref u1, .ref u2])) ∧
    isPr (upd (upd (upd H u1 (.tup [.str q.1.1, .int (q.1.2 : Int)])) u2 (.tup [.str q.2.1, .int (q.2.2 : Int)])) u3 (.tup [.ref u1, .ref u2])) u3 q := by
  have e1 : Ext [] H _ := Ext.new (o := .tup [.str q.1.1, .int (q.1.2 : Int)]) h1
  have e2 : Ext [] _ _ := Ext.new (o := .tup [.str q.2.1, .int (q.2.2 : Int)]) h2
  have e3 : Ext [] _ _ := Ext.new (o := .tup [.ref u1, .ref u2]) h3
  exact ⟨e1.trans (e2.trans e3), u1, u2, upd_same, (e2.trans e3).tups _ _ upd_same, e3.tups _ _ upd_same⟩
end
end Tp
namespace Tp
open PySem PySem.Spec PyProof.Rows L2 He
theorem AmtAt.pushU {H : Hp} {r t : Addr} {l : List Am} {xs : List V} {q : Am} (h : AmtAt H r l) (hxs : H r = some (.lst xs)) (ht : isAmt H t q) : AmtAt (upd H r (.lst (xs ++ [.ref t]))) r (l ++ [q]) := by
  obtain ⟨as, h1, h2⟩ := h
  rw [h1] at hxs
  cases hxs
  have e : Ext [r] H (upd H r (.lst (as.map V.ref ++ [.ref t]))) := ext_lst h1
  refine ⟨as ++ [t], by rw [upd_same, List.map_append]; rfl, amt_snoc ?_ (amt_ext e h2)⟩
  exact e.tups _ _ ht
theorem okD_fk1 {q : Am} (h : okS q.1) : SeqAt.shaped (dFk (.some q)) = true := (okD_fk (f := .some q) h).shaped
end Tp
namespace Tp
open PySem PySem.Spec PyProof.Rows L2 He
/-- the item that stands for a pair -/
theorem paired_atX {H : Hp} {as : List Addr} {d : List (Str × Str)} {n : Nat} {q : Str × Str} (h : Paired (fun (t : Addr) (q : Str × Str) => H t = some (.tup [.str q.1, .str q.2])) as d) (e : d[n]? = some q) : ∃ u, atI (as.map V.ref) (n : Int) = some (.ref u) ∧ H u = some (.tup [.str q.1, .str q.2]) := by
  obtain ⟨u, h1, h2⟩ := pairedG_get h e
  exact ⟨u, atI_nat (by rw [List.getElem?_map, h1]; rfl), h2⟩
end Tp
namespace Tp
theorem filter_snoc {α : Type} {p : α → Bool} {l : List α} {a : α} : (l ++ [a]).filter p = l.filter p ++ (if p a = true then [a] else []) := by
  rw [List.filter_append]
  by_cases h : p a = true <;> simp [h]
end Tp
namespace Tp
open PySem PySem.Spec PyProof.Rows L2 He
/-- data whose texts, and those of its items, are short -/
def Av (H : Hp) (v : V) (d : PyData) : Prop := Im H v d ∧ okD d ∧ shortV v ∧ ∀ u xs, v = .ref u → H u = some (.tup xs) → ∀ x ∈ xs, shortV x
theorem Av.wv {H : Hp} {v : V} {d : PyData} (h : Av H v d) : Wv H v := ⟨d, h.1, h.2.1, h.2.2.1⟩
theorem Av.ext {ms : List Addr} {H H' : Hp} {v : V} {d : PyData} (h : Av H v d) (e : Ext ms H H') : Av H' v d := by
  refine ⟨h.1.ext e, h.2.1, h.2.2.1, fun u xs hv hx => ?_⟩
  have h1 := h.1
  subst hv
  cases h1 with
  | tup h2 h3 =>
    have e2 := e.tups _ _ h2
    rw [e2] at hx
    cases hx
    exact h.2.2.2 _ _ rfl h2
theorem short_amt {w : Str} (h : w = "take" ∨ w = "leave") : w.length ≤ 1000 := by
  rcases h with rfl | rfl <;> decide +kernel
theorem Av.amt {H : Hp} {u : Addr} {q : Am} (h : isAmt H u q) (hw : q.1 = "take" ∨ q.1 = "leave") : Av H (.ref u) (dAmt q) := by
  refine ⟨isAmt.im h, okD_amt (by rcases hw with e | e <;> rw [e] <;> decide +kernel), trivial, fun u' xs hv hx => ?_⟩
  cases hv
  rw [show H u = some (.tup [.str q.1, .int (q.2 : Int)]) from h] at hx
  cases hx
  intro x hx
  simp only [List.mem_cons, List.not_mem_nil, or_false] at hx
  rcases hx with rfl | rfl
  · exact short_amt hw
  · trivial
theorem amtD_word {k c d : List (Str × Str)} : ∀ n, ∀ q ∈ amtD k c d n, q.1 = "take" ∨ q.1 = "leave"
  | 0, _, h => by cases h
  | n + 1, q, h => by
    have h' : q ∈ (amtD k c d n ++ [(("take" : Str), n)]) ++ (if leaveD k c d n = true then [(("leave" : Str), n)] else []) := h
    rcases List.mem_append.mp h' with h | h
    · rcases List.mem_append.mp h with h | h
      · exact amtD_word n q h
      · simp at h; subst h; exact .inl rfl
    · split at h
      · simp at h; subst h; exact .inr rfl
      · cases h
/-- an amount, of whatever book -/
def amtB : PyData → Bool
  | .tuple [.str w, .int n] => (decide (w = "take") || decide (w = "leave")) && decide (0 ≤ n)
  | _ => false
/-- one of these amounts -/
def ownD (xs : List Am) : PyData → Bool
  | .tuple [.str w, .int n] => decide (0 ≤ n) && decide ((w, n.toNat) ∈ xs)
  | _ => false
theorem ownD_eq {xs : List Am} (hx : ∀ q ∈ xs, q.1 = "take" ∨ q.1 = "leave") {d : PyData} : ownD xs d = (amtB d && (xs.map dAmt).any fun z => PyData.eqv z d) := by
  unfold ownD amtB
  split
  · rename_i w n
    by_cases hn : 0 ≤ n
    · have e : PyData.tuple [.str w, .int n] = dAmt (w, n.toNat) := by
        show _ = PyData.tuple [.str w, .int ((n.toNat : Nat) : Int)]
        rw [Int.toNat_of_nonneg hn]
      rw [e, any_amt, decide_eq_true hn, Bool.true_and, Bool.and_true]
      by_cases hm : (w, n.toNat) ∈ xs
      · rw [decide_eq_true hm]
        rcases hx _ hm with h | h
        · have h' : w = "take" := h
          rw [decide_eq_true h', Bool.true_or, Bool.true_and]
        · have h' : w = "leave" := h
          rw [decide_eq_true h', Bool.or_true, Bool.true_and]
      · rw [decide_eq_false hm, Bool.and_false]
    · rw [decide_eq_false hn, Bool.false_and, Bool.and_false, Bool.false_and]
  · rfl
theorem ownD_amt {xs : List Am} {q : Am} : ownD xs (dAmt q) = decide (q ∈ xs) := by
  show (decide (0 ≤ ((q.2 : Nat) : Int)) && decide ((q.1, ((q.2 : Nat) : Int).toNat) ∈ xs)) = _
  rw [decide_eq_true (Int.natCast_nonneg _), Bool.true_and, Int.toNat_natCast]
theorem Leaves.grow {K : PySem.W.Frag} {E : XK} {C : Addr} {v : V} {H H1 : Hp} (h : Leaves K E C v H) (e : Ext [] H H1) : Leaves K E C v H1 := fun d H' hd e2 hx => h d H' (e.none hd (by simp)) (e.trans e2) hx
theorem okS_wd {q : Str} (h : q = "take" ∨ q = "leave") : okS q := by rcases h with rfl | rfl <;> decide +kernel
theorem amtB_ne {ds : List PyData} (h : ds.length ≠ 2) : amtB (.tuple ds) = false := by
  unfold amtB
  split
  · rename_i w n heq
    injection heq with h1
    rw [h1] at h
    exact absurd rfl h
  · rfl
def wordV : V → Bool
  | .str w => decide (w = "take") || decide (w = "leave")
  | _ => false
theorem words_any {H : Hp} {x : V} {d : PyData} (h : Im H x d) : ([PyData.str "take", PyData.str "leave"].any fun z => PyData.eqv z d) = wordV x := by
  cases h with
  | str w =>
    show (PyData.eqv (.str "take") (.str w) || (PyData.eqv (.str "leave") (.str w) || false)) = (decide (w = "take") || decide (w = "leave"))
    have e : ∀ a : Str, PyData.eqv (.str a) (.str w) = decide (w = a) := fun a => by
      rw [PyData.eqv, Bool.eq_iff_iff, beq_iff_eq, decide_eq_true_eq]
      exact eq_comm
    rw [e, e, Bool.or_false]
  | non => simp [PyData.eqv, wordV]
  | bl b => simp [PyData.eqv, wordV]
  | int i => simp [PyData.eqv, wordV]
  | tup _ _ => simp [PyData.eqv, wordV]
theorem item_ok {ds : List PyData} {d : PyData} (h : okD (.tuple ds)) (hd : d ∈ ds) : okD d := by
  refine ⟨?_, ?_⟩
  · have h1 := h.1
    rw [PyData.canLay0] at h1
    exact canLayAll_iff.mp h1 d hd
  · have h2 := h.2
    rw [PyData.depth] at h2
    have h3 : ∀ {ds : List PyData}, d ∈ ds → d.depth ≤ PyData.depthAll ds := by
      intro ds
      induction ds with
      | nil => intro h; cases h
      | cons a ds ih =>
        intro h
        rw [PyData.depthAll]
        rcases List.mem_cons.mp h with rfl | h
        · exact Nat.le_max_left _ _
        · exact Nat.le_trans (ih h) (Nat.le_max_right _ _)
    have := h3 hd
    omega
section
variable {C : Addr} {H : Hp} {p : Addr} {b : Int} {A : Bk} {ks cs : List (Str × V)} {ts ds fs : List V} {ps : List Str}
theorem BookAt.setF (B : BookAt C H p b A ks ts ps cs ds fs) (fs' : List V) : BookAt C (upd H A.lf (.lst fs')) p b A ks ts ps cs ds fs' := by
  have n := B.p_ne
  refine ⟨by rw [upd_ne n.2.2.2.2.2]; exact B.ob, ?_, by rw [upd_ne B.n3]; exact B.lt, by rw [upd_ne B.n5]; exact B.lp, ?_, by rw [upd_ne B.n6]; exact B.ld, upd_same, B.nk, B.n1, B.n2, B.n3, B.n4, B.n5, B.n6⟩
  · rw [upd_ne (fun h => by have := B.dk; rw [h, B.lf] at this; cases this)]; exact B.dk
  · rw [upd_ne (fun h => by have := B.dc; rw [h, B.lf] at this; cases this)]; exact B.dc
end
theorem fsB_no3 {b : Int} {A : Bk} {m : Str} (h : m = "facts" ∨ m = "tell" ∨ m = "tell_some" ∨ m = "_check_own" ∨ m = "thirsts") : (fsB b A).lookup m = none := by
  rcases h with rfl | rfl | rfl | rfl | rfl <;> rfl
end Tp
namespace Tp
open PySem PySem.Spec PyProof.Rows L2 He
def someD : List Fk → List Am
  | [] => []
  | .some x :: fs => x :: someD fs
  | .tell _ _ :: fs => someD fs
theorem someD_app : ∀ {fs gs : List Fk}, someD (fs ++ gs) = someD fs ++ someD gs
  | [], _ => rfl
  | .some x :: fs, gs => by
    show x :: someD (fs ++ gs) = _
    rw [someD_app]
    rfl
  | .tell _ _ :: fs, gs => by
    show someD (fs ++ gs) = _
    rw [someD_app]
    rfl
theorem someD_len : ∀ {fs : List Fk}, (someD fs).length ≤ fs.length
  | [] => Nat.le_refl _
  | .some x :: fs => by
    have := someD_len (fs := fs)
    show (someD fs).length + 1 ≤ fs.length + 1
    omega
  | .tell _ _ :: fs => by
    have := someD_len (fs := fs)
    show (someD fs).length ≤ fs.length + 1
    omega
theorem someD_mem {q : Am} : ∀ {fs : List Fk}, q ∈ someD fs ↔ Fk.some q ∈ fs
  | [] => by simp [someD]
  | .some x :: fs => by
    show q ∈ x :: someD fs ↔ _
    rw [List.mem_cons, List.mem_cons, someD_mem (fs := fs)]
    constructor
    · rintro (h | h)
      · exact .inl (by rw [h])
      · exact .inr h
    · rintro (h | h)
      · exact .inl (by injection h)
      · exact .inr h
  | .tell _ _ :: fs => by
    show q ∈ someD fs ↔ _
    rw [List.mem_cons, someD_mem (fs := fs)]
    constructor
    · exact fun h => .inr h
    · rintro (h | h)
      · cases h
      · exact h
theorem someD_ok {fs : List Fk} (h : ∀ f ∈ fs, okF f) : ∀ q ∈ someD fs, okS q.1 := fun q hq => h _ (someD_mem.mp hq)
end Tp
/-! Li: list(o), o of a class with its own __iter__ (a list's iterator) and its own __len__ -/
namespace Tp
open PySem PySem.Spec PyProof.Rows L2 He
section
variable {X : Cx} {pins : List (Addr × Obj)} {σ : L2.St} {it l q : Addr} {A1 : Around} {zs : List V} {H0 : Hp} {Rs : Result → Shared → Prop}
theorem sqL_upd {K : PySem.W.Frag} {H : Hp} {o : HO} (h : SqL K H l zs) (n : l ≠ q) : SqL K (upd H q o) l zs := by
  have e : upd H q o l = H l := upd_ne n
  unfold SqL Rd at h ⊢
  simp only [e]
  exact h
/-- what is left of the list goes over -/
theorem it_fill (hlq : l ≠ q) (hiq : it ≠ q) (hcm : A1.in1.handled = Option.none) (hl : SqL X.K H0 l zs) (fp : FpOk X pins H0 it) (hsz : zs.length < sizeLine)
    (fin : ∀ t, Inv X pins σ (upd H0 q (.lst zs)) t → Rs (.ok (.ret .none)) t) :
    ∀ (n i : Nat) (t : Shared), i + n = zs.length → Inv X pins σ (upd H0 q (.lst (zs.take i))) t → t.heap.IsListIter it l i → codeAny (model X.prog X.w) A1 (.builtin "list.extend.loop" ⟨[.ref q, .ref it, .none], []⟩) Rs t := by
  intro n
  induction n with
  | zero =>
    intro i t hi I st
    obtain ⟨its, rv, pl, hz⟩ := I.list (sqL_upd hl hlq)
    obtain ⟨f0, f1, f2, f3, f4, f5⟩ := fp
    have hlen := rv.length
    refine codeAny_builtin (id := "list.extend.loop") PySem.F.entry_extend_loop (by
      rw [Around.under_plainId PySem.F.plain_extend_loop _]
      show wpAny _ A1.in1 (pyNext (.ref it) >>= _) _ _ t
      refine wpAny_bind (wpAny_pyNext_list_end hcm st pl.isList (by simp; omega) fun h' eb => wpAny_pure (fin _ ?_))
      have J := I.turned (t' := t.toks) (fun b o hb e => eb b o hb e) (by rw [upd_ne hiq]; exact f0) f1 f3 f4 f5
      rw [List.take_of_length_le (by omega)] at J
      exact J)
  | succ n ih =>
    intro i t hi I st
    obtain ⟨its, rv, pl, hz⟩ := I.list (sqL_upd hl hlq)
    obtain ⟨f0, f1, f2, f3, f4, f5⟩ := id fp
    have hlt : i < zs.length := by omega
    obtain ⟨u, hu, ru⟩ := rv.get (List.getElem?_eq_getElem hlt)
    refine codeAny_builtin (id := "list.extend.loop") PySem.F.entry_extend_loop (by
      rw [Around.under_plainId PySem.F.plain_extend_loop _]
      show wpAny _ A1.in1 (pyNext (.ref it) >>= _) _ _ t
      refine wpAny_bind (wpAny_pyNext_list_item st pl.isList (x := u) (by simpa using hu) fun h' st' sb => ?_)
      have J := I.turned (t' := t.toks) (fun b o hb e => (sb.2 b hb).trans e) (by rw [upd_ne hiq]; exact f0) f1 f3 f4 f5
      show wpAny _ A1.in1 (updateSeq q (·.push u) >>= _) _ _ _
      obtain ⟨z, its2, c, r2, hl2, e⟩ := J.lstM upd_same
      have hl3 : (zs.take i).length = i := by rw [List.length_take]; omega
      refine wpAny_bind (wpAny_updateSeq e rfl (wpAny_pure ⟨plainId_quiet PySem.F.plain_extend_loop _, ?_⟩) (by rw [List.size_toArray]; omega) (by show (its2.toArray.push u).size ≤ sizeLine + 1; rw [Array.size_push, List.size_toArray]; omega))
      have J2 := J.lset (f := fun x => x.push u) (its' := its2 ++ [u]) (t' := t.toks) upd_same e (by simp) (r2.append (.cons ru .nil)) (by rw [List.length_append, List.length_singleton]; omega)
      have e3 : zs.take i ++ [zs[i]] = zs.take (i + 1) := by rw [List.take_add_one, List.getElem?_eq_getElem hlt]; rfl
      rw [upd_upd, e3] at J2
      refine ih (i + 1) _ (by omega) J2 ?_
      obtain ⟨o, e4, e5⟩ := st'
      exact ⟨o, (Heap.get?_update_other _ _ (Ne.symm hiq)).trans e4, e5⟩)
end
section
variable {M : Model} {A : Around} {E : Value → Shared → Prop} {s : Shared} {K : PySem.W.Frag} {C a fl : Addr} {ox : Obj} {od : Option Obj} {Q : Bool → Shared → Prop}
theorem hint_own (hK : K.In s.heap) (J : PySem.W.InstAt s.heap a ox C od) (hl : PySem.W.findIn K (.ref C) "__len__" = some (some (.ref fl)))
    (h : wpAny M A (call (.builtin "len") [.ref a]) (fun v t => ∃ (n : Nat) (k : Nat), v = .int n k ∧ n ≤ sizeLine ∧ ∀ b, Q b t) (fun _ _ => False) s) : wpAny M A (Builtin.List.listLengthHint (.ref a)) Q E s := by
  unfold Builtin.List.listLengthHint
  refine wpAny_bind (wpAny_bind (J.type.here ((PySem.W.looks_findIn hK hl).here ?_)))
  refine PySem.W.KFB.if_not rfl ?_
  show wpAny M A (rule "list.length-hint.len" >>= _) Q E s
  refine wpAny_bind (wpAny_rule ?_)
  refine wpAny_bind (wpAny_attempt (wpAny_mono h (fun v t hv => ?_) fun e t he => ?_))
  · obtain ⟨n, k, rfl, hn, hq⟩ := hv
    show wpAny M A (asInt? (.int n k) >>= _) Q E t
    refine wpAny_bind (wpAny_pure ?_)
    have : Builtin.List.listTooLong ((n : Int).toNat) = false := by
      unfold Builtin.List.listTooLong
      simp
      omega
    show wpAny M A (if Builtin.List.listTooLong ((n : Int).toNat) = true then _ else _) Q E t
    rw [this, if_neg Bool.false_ne_true]
    exact wpAny_pure (hq _)
  · exact he.elim
end
end Tp
namespace Tp
open PySem PySem.Spec PyProof.Rows L2 He
/-- nothing leaves -/
abbrev never : XK := fun _ _ _ => False
def rListIt (C : Addr) (sp : Nat → Sp) (spl : Sp) : List V → Hp → VK → Prop := fun xs H Q => ∃ a dx fs l zs, xs = [.ref a] ∧ H a = some (.ins C dx fs) ∧ H l = some (.lst zs) ∧ zs.length < sizeLine ∧ (∀ n H1, Ext [] H H1 → sp n [.ref a] H1 (itNew n l H1) never) ∧
  (∀ H1, Ext [] H H1 → spl [.ref a] H1 (fun v H' => (∃ n : Nat, v = .int (n : Int) ∧ n ≤ sizeLine) ∧ H' = H1) never) ∧ ∀ q, H q = none → Q (.ref q) (upd H q (.lst zs))
section
variable {X : Cx} {k : Nat} {C g gl : Addr} {fd fdl : FuncData} {ps psl : List Str} {sp : Nat → Sp} {spl : Sp}
theorem call_listIt (hc : X.calm = true) (hi : OwnIt X.K C g) (hl : OwnLn X.K C gl) (F : FnN X.prog X.w X.K X.mg X.base CX0 k g fd ps sp) (FL : FnOk X.prog X.w X.K X.mg X.base CX0 k gl fdl psl spl)
    (hb : Binds X.K fd ps []) (hbl : Binds X.K fdl psl []) (hr : Room (k + 3) X.A) : CallR X (.type "list") (rListIt C sp spl) := by
  intro pins s σ H xs us Q I rv h
  obtain ⟨a, dx, fs, l, zs, rfl, ha, hL, hsz, hsp, hspl, qk⟩ := h
  obtain ⟨u, rfl, ru⟩ := rv.one
  cases ru
  have sb : Sub X (k + 1) X.A.in1.in1 := (Sub.in1 (Sub.in1 (⟨hr, rfl⟩ : Sub X (k + 3) X.A)))
  have sb2 := Sub.in1 sb
  refine callType_codes (Q₁ := fun o t => o = .ref s.heap.objs.size ∧ t = { s with heap := s.heap.push { cls := .type "list", data := .seq #[] } }) PySem.F.called_list (PySem.F.typeCall_list_1 _) PySem.F.entry_list_init (code_list_new _ ⟨rfl, rfl⟩) fun o t ot => ?_
  obtain ⟨rfl, rfl⟩ := ot
  have hS : (s.heap.push { cls := .type "list", data := .seq #[] }).get? s.heap.objs.size = some { cls := .type "list", data := .seq #[] } := by exact Heap.get?_push_size _ rfl
  have fr : H s.heap.objs.size = none := by exact I.hok.fresh (Nat.le_refl _)
  have I1 : Inv X pins σ (upd H s.heap.objs.size (.lst [])) { s with heap := s.heap.push { cls := .type "list", data := .seq #[] } } := by exact I.lnew (its := []) (t' := s.toks) .nil (Nat.zero_le _)
  have qk' := qk s.heap.objs.size fr
  generalize hq : s.heap.objs.size = q at hS fr I1 qk' ⊢
  refine ⟨⟨_, hS, rfl⟩, PySem.F.args_list_init_2 _ _, ?_⟩
  show wpAny _ _ (do let old ← Builtin.List.listItems (.ref q); Builtin.List.listUpdate (.ref q) (fun _ => #[]); letGo old.toList.reverse; Builtin.List.listExtendWith (.ref q) (.ref a) .none) _ _ _
  refine wpAny_bind (by
    unfold Builtin.List.listItems
    refine wpAny_bind (wpAny_seqItems hS rfl (wpAny_pure ?_))
    show wpAny _ _ (updateSeq q (fun _ => #[]) >>= fun _ => letGo (#[] : Array Value).toList.reverse >>= fun _ => Builtin.List.listExtendWith (.ref q) (.ref a) .none) _ _ _
    refine wpAny_bind (wpAny_updateSeq hS rfl ?_)
    have I2 := I1.lset (f := fun _ => #[]) (its := []) (its' := []) (ys := []) (t' := s.toks) upd_same hS rfl .nil (Nat.zero_le _)
    rw [upd_upd] at I2
    refine wpAny_bind (wpAny_letGo ?_)
    have e1 : Ext [] H (upd H q (.lst [])) := Ext.new fr
    have ha2 := e1.keep _ _ ha (by simp)
    have hL2 := e1.keep _ _ hL (by simp)
    have hqa : q ≠ a := (ne_of_none ha fr).symm
    have hlq : l ≠ q := ne_of_none hL fr
    show wpAny _ _ (Builtin.List.listExtendWith (.ref q) (.ref a) .none) _ _ _
    obtain ⟨mA, J, _⟩ := ins_get I2.hok ha2
    obtain ⟨od, J, _⟩ := J.look
    obtain ⟨m0, hF⟩ := I2.fr
    unfold Builtin.List.listExtendWith
    refine wpAny_bind (J.type.here ?_)
    have h1 : Builtin.List.listSameRef (.ref q) (.ref a) = false := by
      unfold Builtin.List.listSameRef
      simp [hqa]
    simp only [h1, show (Value.ref C == Value.type "list") = false from rfl, show (Value.ref C == Value.type "tuple") = false from rfl, Bool.or_false, Bool.false_eq_true, if_false]
    refine wpAny_bind (PySem.W.owit_iter hF I2.ok.mod.kin J hi.it hi.fn ?_)
    have e0 : ∀ {n : Nat} {A1 : Around} {G : Hp} {t : Shared}, Sub X n A1 → Inv X pins σ G t → Env0 X.prog X.w X.K X.mg X.base A1 X.stack t G := fun sb I => by
      have e := I.env0
      exact ⟨by rw [sb.fr]; exact e.frames, e.mod, e.bs, e.bsz, e.funs, e.frf, e.hok, e.bare⟩
    generalize hs2 : ({ s with heap := (s.heap.push { cls := .type "list", data := .seq #[] }).update q (Obj.mapSeq fun _ => #[]), toks := s.toks } : Shared) = s2 at I2 ⊢
    have hsp1 := hsp s2.heap.objs.size _ e1
    have hln := F.len _ _ _ _ _ hsp1
    have bnd := hb s2 [.ref a] I2.kIn (by simpa using hln)
    refine wpAny_call (codeAny_mono (F.run X.A.in1.in1 X.stack s2 _ ⟨[.ref a], []⟩ [.ref a] [.ref a] _ never (sb.room.mono (Nat.le_succ k)) (e0 sb I2) (by simpa using bnd) (.cons rfl .nil) hsp1) fun r s3 got => ?_)
    cases r with
    | error er =>
      exact False.elim got
    | ok fl =>
      cases fl with
      | next => exact False.elim got
      | brk => exact False.elim got
      | cont => exact False.elim got
      | ret u =>
        obtain ⟨v, G, I3, rv3, it, rfl, hn, hns, rfl⟩ := I2.after got
        obtain rfl : u = Value.ref it := rv3
        have eo := itO_get I3 (upd_same (H := upd H q (.lst [])) (a := it) (o := ItO l it 0))
        show wpAny _ _ (specialOf _ _) _ _ _
        refine wpAny_specialOf (T := "list_iterator") ⟨_, eo, rfl⟩ slot_listiter_next.lookup ?_
        have e3 : Ext [] (upd H q (.lst [])) (upd (upd H q (.lst [])) it (ItO l it 0)) := Ext.new hn
        have hq3 := e3.keep _ _ (upd_same (H := H) (a := q) (o := .lst [])) (by simp)
        obtain ⟨mA3, J3, _⟩ := ins_get I3.hok (e3.keep _ _ ha2 (by simp))
        obtain ⟨od3, J3, _⟩ := J3.look
        obtain ⟨m3, hF3⟩ := I3.fr
        have fin : ∀ (t : Shared), Inv X pins σ (upd (upd H q (.lst [])) it (ItO l it 0)) t → codeAny (model X.prog X.w) X.A.in1 (.builtin "list.extend.loop" ⟨[.ref q, .ref it, .none], []⟩) (wants (fun r s₂ => r = .none ∧ EP X pins σ Q (.ref q) s₂) X.xe) t := fun t It => by
          have eo := itO_get It (upd_same (H := upd H q (.lst [])) (a := it) (o := ItO l it 0))
          have hd : ItX.dropH (upd (upd H q (.lst [])) it (ItO l it 0)) it = upd H q (.lst []) := ItX.dropH_upd hn
          have I4 := ItX.inv_drop It (φ := fun h => h.get? it = some (GNX.itObj l 0)) upd_same
          have fp := ItX.inv_fp It (upd_same (H := upd H q (.lst [])) (a := it) (o := ItO l it 0)) (Nat.le_trans I2.sz hns)
          rw [hd] at I4 fp
          have hiq : it ≠ q := (ne_of_none (upd_same (H := H) (a := q) (o := .lst [])) hn).symm
          exact it_fill (l := l) (zs := zs) (H0 := upd H q (.lst [])) hlq hiq (by exact I4.ok.hd hc) (SqL.of hL2) fp hsz (fun t' It' => ⟨rfl, .ref q, _, by rw [upd_upd] at It'; exact It', rfl, qk'⟩) zs.length 0 t (by omega) (by rw [upd_upd]; exact I4) ⟨_, eo, rfl, rfl⟩
        have hsl := hspl _ (e1.trans e3)
        refine wpAny_bind (wpAny_holding (hint_own I3.kIn J3 hl.ln (PySem.W.len_K hF3 I3.ok.mod.kin J3 hl.ln hl.fn ?_)))
        have hll := FL.len _ _ _ _ hsl
        have bnl := hbl s3 [.ref a] I3.kIn (by simpa using hll)
        refine wpAny_call (codeAny_mono (FL.run X.A.in1.in1.in1 X.stack s3 _ ⟨[.ref a], []⟩ [.ref a] [.ref a] _ never sb2.room (e0 sb2 I3) (by simpa using bnl) (.cons rfl .nil) hsl) fun r s4 got4 => ?_)
        cases r with
        | error er =>
          exact False.elim got4
        | ok fl =>
          cases fl with
          | next => exact False.elim got4
          | brk => exact False.elim got4
          | cont => exact False.elim got4
          | ret u =>
            obtain ⟨v, G, I5, rv5, ⟨n, rfl, hn'⟩, rfl⟩ := I3.after got4
            obtain ⟨tk, rfl⟩ := rv5
            have I6 := I5.tok (s4.toks + 1)
            have l63 := line63
            refine ⟨⟨Int.natCast_nonneg _, by omega⟩, n, _, rfl, hn', fun b => ?_⟩
            refine wpAny_ite_split (fun _ => ?_) (fun _ => wpAny_pure ⟨plainId_quiet PySem.F.plain_extend_loop _, fin _ I6⟩)
            refine wpAny_bind (wpAny_rule (wpAny_bind ?_))
            show wpAny _ _ (updateSeq q (·.push .none) >>= fun _ => updateSeq q (·.pop)) _ _ _
            obtain ⟨z, its, c, r3, hl3, e5⟩ := I6.lstM hq3
            cases r3
            refine wpAny_bind (wpAny_updateSeq e5 rfl ?_)
            have I7 := I6.lset (f := (·.push Value.none)) (its' := [Value.none]) (ys := [.non]) (t' := s4.toks + 1) hq3 e5 (by simp) (.cons rfl .nil) (by rw [List.length_singleton, sizeLine_eq]; decide)
            obtain ⟨z4, its4, k4, r4, hl4, e4⟩ := I7.lstM upd_same
            obtain ⟨u4, rfl, ru4⟩ := r4.one
            refine wpAny_updateSeq e4 rfl ?_ (by show 1 ≤ sizeLine; rw [sizeLine_eq]; decide) (by show 0 ≤ sizeLine + 1; exact Nat.zero_le _)
            refine wpAny_pure ⟨plainId_quiet PySem.F.plain_extend_loop _, fin _ ?_⟩
            have I8 := I7.lset (f := (·.pop)) (its := [u4]) (its' := []) (ys := []) (t' := s4.toks + 1) upd_same e4 (by rfl) .nil (Nat.zero_le _)
            rw [upd_upd] at I8
            have hH : upd (upd (upd H q (.lst [])) it (ItO l it 0)) q (.lst []) = upd (upd H q (.lst [])) it (ItO l it 0) := by
              funext b
              by_cases hb : b = q
              · rw [hb, upd_same, hq3]
              · rw [upd_ne hb]
            rw [hH] at I8
            exact I8)
end
end Tp
namespace Tp
open PySem PySem.Spec PyProof.Rows L2 He
/-- list(book) -/
theorem list_book {C : Addr} {H : Hp} {p : Addr} {i : Int} {A : Bk} {ks cs : List (Str × V)} {ts ds fs : List V} {ps : List Str} {Q : VK} (B : BookAt C H p i A ks ts ps cs ds fs) (hd : ds.length ≤ 1000) (q : ∀ l, H l = none → Q (.ref l) (upd H l (.lst ds))) :
    rListIt C (spBIter C) (spBLen C) [.ref p] H Q :=
  ⟨p, A.dx, _, A.ld, ds, rfl, B.ob, B.ld, Evl.sz_lt (by omega), fun n H1 e => ⟨p, i, A, ks, ts, ps, cs, ds, fs, rfl, B.ext e fun _ _ => by simp, fun it h1 h2 => ⟨it, rfl, h1, h2, rfl⟩⟩,
    fun H1 e => ⟨p, i, A, ks, ts, ps, cs, ds, fs, rfl, B.ext e fun _ _ => by simp, ⟨ds.length, rfl, Nat.le_trans hd (by decide)⟩, rfl⟩, q⟩
end Tp
namespace Tp
open PySem PySem.Spec PyProof.Rows L2 He
/-- a book and what stands in it -/
structure BkI (C : Addr) (H : Hp) (p : Addr) (i : Int) (A : Bk) (k t : List (Str × Str)) (ps : List Str) (c d : List (Str × Str)) (fs : List Fk) (ts ds us : List V) : Prop where
  B : BookAt C H p i A (k.map tv) ts ps (c.map tv) ds us
  T : PT H ts t
  D : PT H ds d
  F : FL H us fs
  G : Kept k c d
  nl : ∀ z, z ∈ k.map (·.1) ∨ z ∈ c.map (·.1) → z.length ≤ 1000
  dl : d.length ≤ 100
  fl : fs.length ≤ 1000
  tl : t.length ≤ 1000
  fo : ∀ f ∈ fs, okF f
theorem BkI.ext {C : Addr} {H H' : Hp} {p : Addr} {i : Int} {A : Bk} {k t : List (Str × Str)} {ps : List Str} {c d : List (Str × Str)} {fs : List Fk} {ts ds us : List V} (b : BkI C H p i A k t ps c d fs ts ds us) (e : Ext [] H H') : BkI C H' p i A k t ps c d fs ts ds us :=
  ⟨b.B.ext e fun _ _ => by simp, b.T.ext e, b.D.ext e, b.F.ext e, b.G, b.nl, b.dl, b.fl, b.tl, b.fo⟩
end Tp
/-! Fm: facts that are asked to be let, a model and its book with facts -/
namespace Tp
open PySem PySem.Spec PyProof.Rows L2 He
/-- a fact to be: its values and their data -/
inductive Gk where
  | tell (v w : V) (dv dw : PyData)
  | some (v : V) (dv : PyData)
def isGk (H : Hp) (u : Addr) : Gk → Prop
  | .tell v w dv dw => H u = Option.some (.tup [.str "tell", v, w]) ∧ Av H v dv ∧ Av H w dw
  | .some v dv => H u = Option.some (.tup [.str "some", v]) ∧ Av H v dv
theorem isGk.ext {ms : List Addr} {H H' : Hp} {u : Addr} {g : Gk} (h : isGk H u g) (e : Ext ms H H') : isGk H' u g := by
  cases g with
  | tell v w dv dw => exact ⟨e.tups _ _ h.1, h.2.1.ext e, h.2.2.ext e⟩
  | some v dv => exact ⟨e.tups _ _ h.1, h.2.ext e⟩
inductive Vd where
  | bad (v : V)
  | full
  | ok
def Gk.vd (xs : List Am) (n : Nat) : Gk → Vd
  | .tell v w dv dw => if ownD xs dv = false then .bad v else if ownD xs dw = false then .bad w else if 32 ≤ n then .full else .ok
  | .some v dv => if ownD xs dv = false then .bad v else if 32 ≤ n then .full else .ok
def amOf : PyData → Am
  | .tuple [.str w, .int n] => (w, n.toNat)
  | _ => (⟨#[]⟩, 0)
def Gk.fk : Gk → Fk
  | .tell _ _ dv dw => .tell (amOf dv) (amOf dw)
  | .some _ dv => .some (amOf dv)
theorem im_amt {H : Hp} {v : V} {q : Am} (h : Im H v (dAmt q)) : ∃ a, v = .ref a ∧ isAmt H a q := by
  cases h with
  | tup h1 h2 =>
    cases h2 with
    | cons a1 r1 =>
      cases a1
      cases r1 with
      | cons a2 r2 =>
        cases a2
        cases r2
        exact ⟨_, rfl, h1⟩
end Tp
namespace Tp
open PySem PySem.Spec PyProof.Rows L2 He
section
variable {xs : List Am} {n : Nat} {v w : V} {dv dw : PyData}
end
/-- the answer to a fact that is asked to be let -/
def Told (Q : VK) (H : Hp) : Vd → Prop
  | .bad v => ∀ a H', H a = none → Ext [] H H' → H' a = some (.lst [.str "amount", v, .bl false]) → Q (.ref a) H'
  | .full => ∀ a H', H a = none → Ext [] H H' → H' a = some (.lst [.str "full", .int 32, .bl false]) → Q (.ref a) H'
  | .ok => True
end Tp
namespace Tp
open PySem PySem.Spec PyProof.Rows L2 He
def Gk.items : Gk → List (V × PyData)
  | .tell v w dv dw => [(v, dv), (w, dw)]
  | .some v dv => [(v, dv)]
def Gk.word : Gk → Str
  | .tell _ _ _ _ => "tell"
  | .some _ _ => "some"
theorem isGk.tup {H : Hp} {u : Addr} {g : Gk} (h : isGk H u g) : H u = some (.tup (.str g.word :: g.items.map (·.1))) := by
  cases g with
  | tell v w dv dw => exact h.1
  | some v dv => exact h.1
theorem isGk.av {H : Hp} {u : Addr} {g : Gk} (h : isGk H u g) : ∀ q ∈ g.items, Av H q.1 q.2 := by
  cases g with
  | tell v w dv dw =>
    intro q hq
    simp only [Gk.items, List.mem_cons, List.not_mem_nil, or_false] at hq
    rcases hq with rfl | rfl
    · exact h.2.1
    · exact h.2.2
  | some v dv =>
    intro q hq
    simp only [Gk.items, List.mem_cons, List.not_mem_nil, or_false] at hq
    subst hq
    exact h.2
theorem eqv_nil {ds : List PyData} : PyData.eqv (.list ds) (.list []) = decide (ds = []) := by
  rw [PyData.eqv]
  cases ds with
  | nil => rw [PyData.eqvAll]; rfl
  | cons a l => rw [PyData.eqvAll]; rfl
end Tp
namespace Tp
open PySem PySem.Spec PyProof.Rows L2 He
def AvL (H : Hp) (vs : List V) : Prop := ∀ v ∈ vs, ∃ d, Av H v d
theorem AvL.ext {ms : List Addr} {H H' : Hp} {vs : List V} (h : AvL H vs) (e : Ext ms H H') : AvL H' vs := fun v hv => by
  obtain ⟨d, hd⟩ := h v hv
  exact ⟨d, hd.ext e⟩
theorem AvL.snoc {H : Hp} {vs : List V} {v : V} {d : PyData} (h : AvL H vs) (hv : Av H v d) : AvL H (vs ++ [v]) := fun x hx => by
  rcases List.mem_append.mp hx with hx | hx
  · exact h x hx
  · simp at hx
    subst hx
    exact ⟨d, hv⟩
theorem Av.new {H : Hp} {u : Addr} {xs : List V} {ds : List PyData} (hi : ∀ G, ImAll G xs ds) (ok : okD (.tuple ds)) (sh : ∀ x ∈ xs, shortV x) : Av (upd H u (.tup xs)) (.ref u) (.tuple ds) := by
  refine ⟨.tup upd_same (hi _), ok, trivial, fun u' ys hv hx => ?_⟩
  cases hv
  rw [upd_same] at hx
  cases hx
  exact sh
theorem AvL.push {H : Hp} {vs : List V} {u : Addr} {xs : List V} {ds : List PyData} (h : AvL H vs) (hu : H u = none) (hi : ∀ G, ImAll G xs ds) (ok : okD (.tuple ds)) (sh : ∀ x ∈ xs, shortV x) : AvL (upd H u (.tup xs)) (vs ++ [.ref u]) :=
  (h.ext (ms := []) (Ext.new hu)).snoc (Av.new hi ok sh)
/-- texts, numbers, truth values, None -/
inductive Fl1 : V → PyData → Prop
  | non : Fl1 .non .none
  | bl (b : Bool) : Fl1 (.bl b) (.bool b)
  | int (i : Int) : Fl1 (.int i) (.int i)
  | str {z : Str} (h : okS z) (hl : z.length ≤ 1000) : Fl1 (.str z) (.str z)
theorem Fl1.im {v : V} {d : PyData} (h : Fl1 v d) (G : Hp) : Im G v d := by
  cases h with
  | non => exact .non
  | bl b => exact .bl b
  | int i => exact .int i
  | str _ _ => exact .str _
theorem Fl1.ok {v : V} {d : PyData} (h : Fl1 v d) : d.canLay0 = true ∧ d.depth ≤ 1 := by
  cases h with
  | non => exact ⟨okD.none.1, by simp [PyData.depth]⟩
  | bl b => exact ⟨okD.bool.1, by simp [PyData.depth]⟩
  | int i => exact ⟨okD.int.1, by simp [PyData.depth]⟩
  | str h hl => exact ⟨(okD.str h).1, by simp [PyData.depth]⟩
theorem Fl1.short {v : V} {d : PyData} (h : Fl1 v d) : shortV v := by
  cases h with
  | non => trivial
  | bl b => trivial
  | int i => trivial
  | str _ hl => exact hl
theorem Fl1.av {H : Hp} {v : V} {d : PyData} (h : Fl1 v d) : Av H v d := ⟨h.im H, ⟨h.ok.1, by have := h.ok.2; omega⟩, h.short, fun u xs hv _ => by cases h <;> cases hv⟩
theorem fl_all {xs : List V} {ds : List PyData} (h : Paired Fl1 xs ds) : (∀ G, ImAll G xs ds) ∧ okD (.tuple ds) ∧ ∀ x ∈ xs, shortV x := by
  refine ⟨fun G => ?_, okD.tup (n := 1) ?_ (by decide), ?_⟩
  · induction h with
    | nil => exact .nil
    | cons a r ih => exact .cons (a.im G) ih
  · induction h with
    | nil => intro d hd; cases hd
    | cons a r ih =>
      intro d hd
      rcases List.mem_cons.mp hd with rfl | hd
      · exact a.ok
      · exact ih d hd
  · induction h with
    | nil => intro d hd; cases hd
    | cons a r ih =>
      intro d hd
      rcases List.mem_cons.mp hd with rfl | hd
      · exact a.short
      · exact ih d hd
theorem AvL.pushF {H : Hp} {vs : List V} {u : Addr} {xs : List V} {ds : List PyData} (h : AvL H vs) (hu : H u = none) (hp : Paired Fl1 xs ds) : AvL (upd H u (.tup xs)) (vs ++ [.ref u]) := by
  obtain ⟨a, b, c⟩ := fl_all hp
  exact h.push hu a b c
theorem AvL.flat {H : Hp} {vs : List V} {v : V} {d : PyData} (h : AvL H vs) (hv : Fl1 v d) : AvL H (vs ++ [v]) := h.snoc hv.av
end Tp
namespace Tp
open PySem PySem.Spec PyProof.Rows L2 He
section
variable {H H' : Hp} {a : Mad} {k t c d : List (Str × Str)} {p : List Str} {fs : List V}
theorem MdAt.setF5 (v : MdAt H a k t p c d fs) (gs : List V) : MdAt (upd H a.m5 (.lst gs)) a k t p c d gs := by
  have nd := v.nd
  simp only [Mad.all, List.nodup_cons, List.mem_cons, List.not_mem_nil, not_or, or_false] at nd
  obtain ⟨⟨n0, n1, n2, n3, n4, n5⟩, ⟨n01, n02, n03, n04, n05⟩, ⟨n12, n13, n14, n15⟩, ⟨n23, n24, n25⟩, ⟨n34, n35⟩, n45, _⟩ := nd
  have e : Ext [a.m5] H (upd H a.m5 (.lst gs)) := ext_lst v.r5
  exact ⟨v.nd, e.keep _ _ v.M (by simpa using n5), v.r0.ext e (by simpa using n05), v.r1.ext e (by simpa using n15), e.keep _ _ v.r2 (by simpa using n25), v.r3.ext e (by simpa using n35), v.r4.ext e (by simpa using n45), upd_same⟩
end
/-- a model, its book, the dips still to come: d, fs in the model, db, fb in the book -/
structure Lw (C : Addr) (H : Hp) (S L b md : Addr) (a : Mad) (A : Bk) (k t : List (Str × Str)) (p : List Str) (c d db rest : List (Str × Str)) (fs fb : List Fk) (ts ds us ms : List V) : Prop where
  s : SrcAt H S L
  M : MdAt H a k t p c d ms
  W : FL H ms fs
  B : BkI C H b 24 A k t p c db fb ts ds us
  R : RowAt H md rest
  f : ∀ y ∈ A.all b, y ≠ S ∧ y ≠ L ∧ y ≠ md ∧ y ∉ a.all
  g : ∀ y ∈ a.all, y ≠ S ∧ y ≠ L ∧ y ≠ md
  h : md ≠ S ∧ md ≠ L
section
variable {C : Addr} {H H' : Hp} {S L b md : Addr} {a : Mad} {A : Bk} {k t : List (Str × Str)} {p : List Str} {c d db rest : List (Str × Str)} {fs fb : List Fk} {ts ds us ms : List V}
theorem BkI.extM {ms : List Addr} {H H' : Hp} {p : Addr} {i : Int} {A : Bk} {k t : List (Str × Str)} {ps : List Str} {c d : List (Str × Str)} {fs : List Fk} {ts ds us : List V} (b : BkI C H p i A k t ps c d fs ts ds us) (e : Ext ms H H') (h : ∀ y ∈ A.all p, y ∉ ms) : BkI C H' p i A k t ps c d fs ts ds us :=
  ⟨b.B.ext e h, b.T.ext e, b.D.ext e, b.F.ext e, b.G, b.nl, b.dl, b.fl, b.tl, b.fo⟩
theorem Lw.draw (j : Lw C H S L b md a A k t p c d db rest fs fb ts ds us ms) (x : Ext [S] H H') (s : SrcAt H' S L) : Lw C H' S L b md a A k t p c d db rest fs fb ts ds us ms :=
  ⟨s, j.M.ext x fun y hy => by simpa using (j.g y hy).1, j.W.ext x, j.B.extM x fun y hy => by simpa using (j.f y hy).1, j.R.ext x (by simpa using j.h.1), j.f, j.g, j.h⟩
theorem Lw.grow (j : Lw C H S L b md a A k t p c d db rest fs fb ts ds us ms) (x : Ext [] H H') : Lw C H' S L b md a A k t p c d db rest fs fb ts ds us ms := j.draw x.nil (j.s.ext x)
theorem mem_all_lf {A : Bk} {b : Addr} : A.lf ∈ A.all b := by simp
/-- the book lets a fact -/
theorem Lw.told (j : Lw C H S L b md a A k t p c d db rest fs fb ts ds us ms) {u : Addr} {f : Fk} (x : Ext [A.lf] H H') (hu : isFk H' u f) (hf : okF f) (hl : us.length < 32) (B : BookAt C H' b 24 A (k.map tv) ts p (c.map tv) ds (us ++ [.ref u])) : Lw C H' S L b md a A k t p c d db rest fs (fb ++ [f]) ts ds (us ++ [.ref u]) ms := by
  have fl := j.f A.lf mem_all_lf
  have hlen := j.B.F.len
  refine ⟨j.s.keepM x (by simpa using Ne.symm fl.1) (by simpa using Ne.symm fl.2.1), j.M.ext x fun y hy => by simp only [List.mem_singleton]; exact fun h => fl.2.2.2 (by rw [← h]; exact hy), j.W.ext x, ⟨B, j.B.T.ext x, j.B.D.ext x, (j.B.F.ext x).snoc hu, j.B.G, j.B.nl, j.B.dl, by rw [List.length_append]; show fb.length + 1 ≤ 1000; omega, j.B.tl, fun g hg => ?_⟩, j.R.ext x (by simpa using Ne.symm fl.2.2.1), j.f, j.g, j.h⟩
  rcases List.mem_append.mp hg with hg | hg
  · exact j.B.fo g hg
  · simp at hg
    rw [hg]
    exact hf
/-- the model notes a fact -/
theorem Lw.note (j : Lw C H S L b md a A k t p c d db rest fs fb ts ds us ms) {u : Addr} {f : Fk} (hu : isFk H u f) : Lw C (upd H a.m5 (.lst (ms ++ [.ref u]))) S L b md a A k t p c d db rest (fs ++ [f]) fb ts ds us (ms ++ [.ref u]) := by
  have x : Ext [a.m5] H (upd H a.m5 (.lst (ms ++ [.ref u]))) := ext_lst j.M.r5
  have g5 := j.g a.m5 (by simp)
  exact ⟨j.s.keepM x (by simpa using Ne.symm g5.1) (by simpa using Ne.symm g5.2.1), j.M.setF5 _, (j.W.ext x).snoc (hu.ext x), j.B.extM x fun y hy => by simp only [List.mem_singleton]; exact fun h => (j.f y hy).2.2.2 (by rw [h]; simp), j.R.ext x (by simpa using Ne.symm g5.2.2), j.f, j.g, j.h⟩
/-- the model notes a dip -/
theorem Lw.push (j : Lw C H S L b md a A k t p c d db rest fs fb ts ds us ms) {u : Addr} {q : Str × Str} {xs : List V} (hxs : H a.m4 = some (.lst xs)) (hu : H u = some (.tup [.str q.1, .str q.2])) : Lw C (upd H a.m4 (.lst (xs ++ [.ref u]))) S L b md a A k t p c (d ++ [q]) db rest fs fb ts ds us ms := by
  have x : Ext [a.m4] H (upd H a.m4 (.lst (xs ++ [.ref u]))) := ext_lst hxs
  have g4 := j.g a.m4 (by simp)
  exact ⟨j.s.keepM x (by simpa using Ne.symm g4.1) (by simpa using Ne.symm g4.2.1), j.M.push4u hxs hu, j.W.ext x, j.B.extM x fun y hy => by simp only [List.mem_singleton]; exact fun h => (j.f y hy).2.2.2 (by rw [h]; simp), j.R.ext x (by simpa using Ne.symm g4.2.2), j.f, j.g, j.h⟩
/-- the book has a dip more -/
theorem Lw.dip (j : Lw C H S L b md a A k t p c d db rest fs fb ts ds us ms) {u l : Addr} {q : Str × Str} (x : Ext [b] H H') (hl : H l = none) (hu : H' u = some (.tup [.str q.1, .str q.2])) (hq : q.1 ∈ c.map (·.1)) (hd : db.length < 100) (B : BookAt C H' b 24 { A with ld := l } (k.map tv) ts p (c.map tv) (ds ++ [.ref u]) us) : Lw C H' S L b md a { A with ld := l } k t p c d (db ++ [q]) rest fs fb ts (ds ++ [.ref u]) us ms := by
  have fb' := j.f b (by simp)
  have len1 : (db ++ [q]).length = db.length + 1 := by rw [List.length_append]; rfl
  refine ⟨j.s.keepM x (by simpa using Ne.symm fb'.1) (by simpa using Ne.symm fb'.2.1), j.M.ext x fun y hy => by simp only [List.mem_singleton]; exact fun h => fb'.2.2.2 (by rw [← h]; exact hy), j.W.ext x, ⟨B, j.B.T.ext x, (j.B.D.ext x).snoc hu, j.B.F.ext x, ⟨j.B.G.kn, j.B.G.k8, j.B.G.cn, j.B.G.c8, j.B.G.ck, fun z hz => ?_, by omega⟩, j.B.nl, by omega, j.B.fl, j.B.tl, j.B.fo⟩, j.R.ext x (by simpa using Ne.symm fb'.2.2.1), ?_, j.g, j.h⟩
  · rcases List.mem_append.mp hz with hz | hz
    · exact j.B.G.dc z hz
    · simp at hz
      rw [hz]
      exact hq
  · have f := j.f
    intro y hy
    simp only [Bk.all, List.mem_cons, List.not_mem_nil, or_false] at hy
    rcases hy with rfl | rfl | rfl | rfl | rfl | rfl | rfl
    · exact f _ (by simp)
    · exact f _ (by simp)
    · exact f _ (by simp)
    · exact f _ (by simp)
    · exact f _ (by simp)
    · obtain ⟨h1, h2⟩ := src_ne_new j.s hl
      obtain ⟨_, h3, _⟩ := j.R
      exact ⟨h1, h2, (ne_of_none h3 hl).symm, fun h => j.M.new hl _ h rfl⟩
    · exact f _ (by simp)
/-- one of those to come is taken -/
theorem Lw.pop (j : Lw C H S L b md a A k t p c d db rest fs fb ts ds us ms) {q : Str × Str} {r2 : List (Str × Str)} (hr : rest = q :: r2) : ∃ u xs, H md = some (.lst (.ref u :: xs)) ∧ xs.length = r2.length ∧ H u = some (.tup [.str q.1, .str q.2]) ∧ Lw C (upd H md (.lst xs)) S L b md a A k t p c d db r2 fs fb ts ds us ms := by
  obtain ⟨as, h1, h2⟩ := j.R
  subst hr
  cases h2 with
  | @cons u _ as' _ hu hr =>
    have h1' : H md = some (.lst (.ref u :: as'.map V.ref)) := h1
    have x : Ext [md] H (upd H md (.lst (as'.map V.ref))) := ext_lst h1'
    refine ⟨u, as'.map V.ref, h1', by rw [List.length_map, paired_len hr], hu, ⟨j.s.keepM x (by simpa using Ne.symm j.h.1) (by simpa using Ne.symm j.h.2), j.M.ext x fun y hy => by simpa using (j.g y hy).2.2, j.W.ext x, j.B.extM x fun y hy => by simpa using (j.f y hy).2.2.1, ⟨as', upd_same, paired_ext x hr⟩, j.f, j.g, j.h⟩⟩
theorem Lw.kept (j : Lw C H S L b md a A k t p c d db rest fs fb ts ds us ms) (hd : ∀ q ∈ d, q.1 ∈ c.map (·.1)) (hl : d.length ≤ 1000) : Kept k c d := ⟨j.B.G.kn, j.B.G.k8, j.B.G.cn, j.B.G.c8, j.B.G.ck, hd, hl⟩
end
end Tp
namespace Tp
open PySem PySem.Spec PyProof.Rows L2 He
/-- the answer stands -/
def Due (H : Hp) : Vd → V → Prop
  | .bad v, x => ∃ l, x = .ref l ∧ H l = some (.lst [.str "amount", v, .bl false])
  | .full, x => ∃ l, x = .ref l ∧ H l = some (.lst [.str "full", .int 32, .bl false])
  | .ok, x => x = .non
theorem Due.ext {H H' : Hp} {vd : Vd} {x : V} (h : Due H vd x) (e : Ext [] H H') : Due H' vd x := by
  cases vd with
  | bad v =>
    obtain ⟨l, h1, h2⟩ := h
    exact ⟨l, h1, e.keep _ _ h2 (by simp)⟩
  | full =>
    obtain ⟨l, h1, h2⟩ := h
    exact ⟨l, h1, e.keep _ _ h2 (by simp)⟩
  | ok => exact h
theorem Told.of {Q : VK} {H : Hp} {vd : Vd} (h : ∀ x H', Ext [] H H' → vd ≠ .ok → Due H' vd x → Q x H') : Told Q H vd := by
  cases vd with
  | bad v => exact fun a H' ha e hx => h _ H' e (by simp) ⟨a, rfl, hx⟩
  | full => exact fun a H' ha e hx => h _ H' e (by simp) ⟨a, rfl, hx⟩
  | ok => trivial
end Tp
namespace Tp
open PySem PySem.Spec PyProof.Rows L2 He
theorem Due.ref {H : Hp} {vd : Vd} {x : V} (h : Due H vd x) (hn : vd ≠ .ok) : ∃ l, x = .ref l := by
  cases vd with
  | bad v => exact ⟨_, h.choose_spec.1⟩
  | full => exact ⟨_, h.choose_spec.1⟩
  | ok => exact absurd rfl hn
theorem Due.non {H : Hp} {vd : Vd} {x : V} (h : Due H vd x) (hn : vd = .ok) : x = .non := by
  subst hn
  exact h
end Tp
/-! Fg: a model and its book, both growing -/
namespace Tp
open PySem PySem.Spec PyProof.Rows L2 He
/-- a fact about these amounts -/
def inA (xs : List Am) : Fk → Prop
  | .tell x y => x ∈ xs ∧ y ∈ xs
  | .some x => x ∈ xs
theorem inA.ok {xs : List Am} {f : Fk} (h : inA xs f) (hx : ∀ q ∈ xs, okS q.1) : okF f := by
  cases f with
  | tell x y => exact ⟨hx _ h.1, hx _ h.2⟩
  | some x => exact hx _ h
section
variable {H H' : Hp} {a : Mad} {k t c d : List (Str × Str)} {p : List Str} {fs : List V}
end
/-- a model (m) and its book (b), each as it is now -/
structure Lx (C : Addr) (H : Hp) (S L b : Addr) (a : Mad) (A : Bk) (k t : List (Str × Str)) (p : List Str) (c d : List (Str × Str)) (kb tb : List (Str × Str)) (pb : List Str) (cb db : List (Str × Str)) (fs fb : List Fk) (ts ds us ms : List V) : Prop where
  s : SrcAt H S L
  M : MdAt H a k t p c d ms
  W : FL H ms fs
  B : BkI C H b 24 A kb tb pb cb db fb ts ds us
  f : ∀ y ∈ A.all b, y ≠ S ∧ y ≠ L ∧ y ∉ a.all
  g : ∀ y ∈ a.all, y ≠ S ∧ y ≠ L
section
variable {C : Addr} {H H' : Hp} {S L b : Addr} {a : Mad} {A : Bk} {k t : List (Str × Str)} {p : List Str} {c d kb tb : List (Str × Str)} {pb : List Str} {cb db : List (Str × Str)} {fs fb : List Fk} {ts ds us ms : List V}
theorem Lx.draw (j : Lx C H S L b a A k t p c d kb tb pb cb db fs fb ts ds us ms) (x : Ext [S] H H') (s : SrcAt H' S L) : Lx C H' S L b a A k t p c d kb tb pb cb db fs fb ts ds us ms :=
  ⟨s, j.M.ext x fun y hy => by simpa using (j.g y hy).1, j.W.ext x, j.B.extM x fun y hy => by simpa using (j.f y hy).1, j.f, j.g⟩
theorem Lx.grow (j : Lx C H S L b a A k t p c d kb tb pb cb db fs fb ts ds us ms) (x : Ext [] H H') : Lx C H' S L b a A k t p c d kb tb pb cb db fs fb ts ds us ms := j.draw x.nil (j.s.ext x)
/-- a part of the model changes -/
theorem Lx.md (j : Lx C H S L b a A k t p c d kb tb pb cb db fs fb ts ds us ms) {y : Addr} (hy : y ∈ a.all) (x : Ext [y] H H') {k' t' : List (Str × Str)} {p' : List Str} {c' d' : List (Str × Str)} {ms' : List V} {fs' : List Fk} (M : MdAt H' a k' t' p' c' d' ms') (W : FL H' ms' fs') : Lx C H' S L b a A k' t' p' c' d' kb tb pb cb db fs' fb ts ds us ms' := by
  have gy := j.g y hy
  exact ⟨j.s.keepM x (by simpa using Ne.symm gy.1) (by simpa using Ne.symm gy.2), M, W, j.B.extM x fun z hz => by simp only [List.mem_singleton]; exact fun h => (j.f z hz).2.2 (by rw [h]; exact hy), j.f, j.g⟩
/-- a part of the book changes -/
theorem Lx.bk (j : Lx C H S L b a A k t p c d kb tb pb cb db fs fb ts ds us ms) {y : Addr} (hy : y ∈ A.all b) (x : Ext [y] H H') {k' t' : List (Str × Str)} {p' : List Str} {c' d' : List (Str × Str)} {fb' : List Fk} {ts' ds' us' : List V} (B : BkI C H' b 24 A k' t' p' c' d' fb' ts' ds' us') : Lx C H' S L b a A k t p c d k' t' p' c' d' fs fb' ts' ds' us' ms := by
  have fy := j.f y hy
  exact ⟨j.s.keepM x (by simpa using Ne.symm fy.1) (by simpa using Ne.symm fy.2.1), j.M.ext x fun z hz => by simp only [List.mem_singleton]; exact fun h => fy.2.2 (by rw [← h]; exact hz), j.W.ext x, B, j.f, j.g⟩
theorem Lx.note (j : Lx C H S L b a A k t p c d kb tb pb cb db fs fb ts ds us ms) {u : Addr} {f : Fk} (hu : isFk H u f) : Lx C (upd H a.m5 (.lst (ms ++ [.ref u]))) S L b a A k t p c d kb tb pb cb db (fs ++ [f]) fb ts ds us (ms ++ [.ref u]) := by
  have x : Ext [a.m5] H (upd H a.m5 (.lst (ms ++ [.ref u]))) := ext_lst j.M.r5
  exact j.md (by simp) x (j.M.setF5 _) ((j.W.ext x).snoc (hu.ext x))
theorem Lx.told (j : Lx C H S L b a A k t p c d kb tb pb cb db fs fb ts ds us ms) {u : Addr} {f : Fk} (x : Ext [A.lf] H H') (hu : isFk H' u f) (hf : okF f) (hl : us.length < 100) (B : BookAt C H' b 24 A (kb.map tv) ts pb (cb.map tv) ds (us ++ [.ref u])) : Lx C H' S L b a A k t p c d kb tb pb cb db fs (fb ++ [f]) ts ds (us ++ [.ref u]) ms := by
  have hlen := j.B.F.len
  refine j.bk mem_all_lf x ⟨B, j.B.T.ext x, j.B.D.ext x, (j.B.F.ext x).snoc hu, j.B.G, j.B.nl, j.B.dl, by rw [List.length_append]; show fb.length + 1 ≤ 1000; omega, j.B.tl, fun g hg => ?_⟩
  rcases List.mem_append.mp hg with hg | hg
  · exact j.B.fo g hg
  · simp at hg
    rw [hg]
    exact hf
theorem Lx.dip (j : Lx C H S L b a A k t p c d kb tb pb cb db fs fb ts ds us ms) {u l : Addr} {q : Str × Str} (x : Ext [b] H H') (hl : H l = none) (hu : H' u = some (.tup [.str q.1, .str q.2])) (hq : q.1 ∈ cb.map (·.1)) (hd : db.length < 100) (B : BookAt C H' b 24 { A with ld := l } (kb.map tv) ts pb (cb.map tv) (ds ++ [.ref u]) us) : Lx C H' S L b a { A with ld := l } k t p c d kb tb pb cb (db ++ [q]) fs fb ts (ds ++ [.ref u]) us ms := by
  have fb' := j.f b (by simp)
  have len1 : (db ++ [q]).length = db.length + 1 := by rw [List.length_append]; rfl
  refine ⟨j.s.keepM x (by simpa using Ne.symm fb'.1) (by simpa using Ne.symm fb'.2.1), j.M.ext x fun y hy => by simp only [List.mem_singleton]; exact fun h => fb'.2.2 (by rw [← h]; exact hy), j.W.ext x, ⟨B, j.B.T.ext x, (j.B.D.ext x).snoc hu, j.B.F.ext x, ⟨j.B.G.kn, j.B.G.k8, j.B.G.cn, j.B.G.c8, j.B.G.ck, fun z hz => ?_, by omega⟩, j.B.nl, by omega, j.B.fl, j.B.tl, j.B.fo⟩, ?_, j.g⟩
  · rcases List.mem_append.mp hz with hz | hz
    · exact j.B.G.dc z hz
    · simp at hz
      rw [hz]
      exact hq
  · have f := j.f
    intro y hy
    simp only [Bk.all, List.mem_cons, List.not_mem_nil, or_false] at hy
    rcases hy with rfl | rfl | rfl | rfl | rfl | rfl | rfl
    · exact f _ (by simp)
    · exact f _ (by simp)
    · exact f _ (by simp)
    · exact f _ (by simp)
    · exact f _ (by simp)
    · obtain ⟨h1, h2⟩ := src_ne_new j.s hl
      exact ⟨h1, h2, fun h => j.M.new hl _ h rfl⟩
    · exact f _ (by simp)
theorem Lx.thirst (j : Lx C H S L b a A k t p c d kb tb pb cb db fs fb ts ds us ms) {u : Addr} {q : Str × Str} (x : Ext [A.lt] H H') (hu : H' u = some (.tup [.str q.1, .str q.2])) (hl : tb.length < 1000) (B : BookAt C H' b 24 A (kb.map tv) (ts ++ [.ref u]) pb (cb.map tv) ds us) : Lx C H' S L b a A k t p c d kb (tb ++ [q]) pb cb db fs fb (ts ++ [.ref u]) ds us ms :=
  j.bk (by simp) x ⟨B, (j.B.T.ext x).snoc hu, j.B.D.ext x, j.B.F.ext x, j.B.G, j.B.nl, j.B.dl, j.B.fl, by rw [List.length_append]; show tb.length + 1 ≤ 1000; omega, j.B.fo⟩
end
end Tp
namespace Tp
open PySem PySem.Spec PyProof.Rows L2 He
theorem am_pick {H : Hp} {as : List Addr} {l : List Am} {n : Int} (h : Paired (isAmt H) as l) (n0 : 0 ≤ n) (n1 : n < (as.length : Int)) : ∃ u q, atI (as.map V.ref) n = some (.ref u) ∧ q ∈ l ∧ isAmt H u q := by
  obtain ⟨m, rfl⟩ := Int.eq_ofNat_of_zero_le n0
  have hm : m < as.length := by omega
  obtain ⟨q, hq, hT⟩ := amt_at h (List.getElem?_eq_getElem hm)
  exact ⟨_, q, atI_nat (by rw [List.getElem?_map, List.getElem?_eq_getElem hm]; rfl), List.mem_of_getElem? hq, hT⟩
/-- facts are drawn about the amounts -/
def spMore (n : Nat) : Sp := fun vs H Q _ => ∃ (S L : Addr) (a : Mad) (k t : List (Str × Str)) (p : List Str) (c d : List (Str × Str)) (ms : List V) (fs : List Fk), vs = [.ref S, .ref a.M] ∧ SrcAt H S L ∧ MdAt H a k t p c d ms ∧ FL H ms fs ∧ Kept k c d ∧ d.length ≤ 100 ∧ (∀ f ∈ fs, inA (amtD k c d d.length) f) ∧ (∀ x ∈ a.all, x ≠ S ∧ x ≠ L) ∧ fs.length ≤ 500 ∧
  ∀ H' ms' fs', Ext [S, a.m5] H H' → SrcAt H' S L → MdAt H' a k t p c d ms' → FL H' ms' fs' → (∀ f ∈ fs', inA (amtD k c d d.length) f) → fs'.length ≤ fs.length + n → Q .non H'
/-- what changes while facts are noted -/
structure Nt (H0 H : Hp) (S L : Addr) (a : Mad) (k t : List (Str × Str)) (p : List Str) (c d : List (Str × Str)) (ms : List V) (fs : List Fk) : Prop where
  x : Ext [S, a.m5] H0 H
  s : SrcAt H S L
  M : MdAt H a k t p c d ms
  W : FL H ms fs
  i : ∀ f ∈ fs, inA (amtD k c d d.length) f
  g : ∀ x ∈ a.all, x ≠ S ∧ x ≠ L
section
variable {H0 H H' : Hp} {S L : Addr} {a : Mad} {k t : List (Str × Str)} {p : List Str} {c d : List (Str × Str)} {ms : List V} {fs : List Fk}
theorem Nt.draw (j : Nt H0 H S L a k t p c d ms fs) (x : Ext [S] H H') (s : SrcAt H' S L) : Nt H0 H' S L a k t p c d ms fs :=
  ⟨j.x.trans (x.mono fun y h => by simp at h; simp [h]), s, j.M.ext x fun y hy => by simpa using (j.g y hy).1, j.W.ext x, j.i, j.g⟩
theorem Nt.grow (j : Nt H0 H S L a k t p c d ms fs) (x : Ext [] H H') : Nt H0 H' S L a k t p c d ms fs := j.draw x.nil (j.s.ext x)
theorem Nt.note (j : Nt H0 H S L a k t p c d ms fs) {u : Addr} {f : Fk} (hu : isFk H u f) (hf : inA (amtD k c d d.length) f) : Nt H0 (upd H a.m5 (.lst (ms ++ [.ref u]))) S L a k t p c d (ms ++ [.ref u]) (fs ++ [f]) := by
  have x : Ext [a.m5] H (upd H a.m5 (.lst (ms ++ [.ref u]))) := ext_lst j.M.r5
  have g5 := j.g a.m5 (by simp)
  refine ⟨j.x.trans (x.mono fun y h => by simp at h; simp [h]), j.s.keepM x (by simpa using Ne.symm g5.1) (by simpa using Ne.symm g5.2), j.M.setF5 _, (j.W.ext x).snoc (hu.ext x), fun g hg => ?_, j.g⟩
  rcases List.mem_append.mp hg with hg | hg
  · exact j.i g hg
  · simp at hg
    rw [hg]
    exact hf
end
end Tp
namespace Tp
open PySem PySem.Spec PyProof.Rows L2 He
end Tp
namespace Tp
open PySem PySem.Spec PyProof.Rows L2 He
end Tp
namespace Tp
open PySem PySem.Spec PyProof.Rows L2 He
/-- kinds, pots, cloths and dips that go together -/
structure GX (k t : List (Str × Str)) (p : List Str) (c d : List (Str × Str)) : Prop where
  kn : Names (k.map (·.1))
  kh : ∀ q ∈ k, q.2 = "loose" ∨ q.2 = "fast" ∨ q.2 = "unsure"
  k1 : 1 ≤ k.length
  k8 : k.length ≤ 8
  tk : ∀ q ∈ t, q.1 ∈ k.map (·.1) ∧ q.2 ∈ k.map (·.1)
  pn : Names p
  p1 : 1 ≤ p.length
  p8 : p.length ≤ 8
  cn : Names (c.map (·.1))
  ck : ∀ q ∈ c, q.2 ∈ k.map (·.1)
  c1 : 1 ≤ c.length
  c8 : c.length ≤ 8
  dc : ∀ q ∈ d, q.1 ∈ c.map (·.1) ∧ q.2 ∈ p
theorem Good.gx {most : Nat} {k t : List (Str × Str)} {p : List Str} {c d : List (Str × Str)} (G : Good most k t p c d) : GX k t p c d :=
  ⟨G.kn, G.kh, G.k1, G.k8, G.tk, G.pn, G.p1, G.p8, G.cn, G.ck, by have := G.c2; omega, G.c8, G.dc⟩
theorem Names.snoc {zs : List Str} {z : Str} (h : Names zs) (h1 : z ∉ zs) (h2 : nmS z = true) (h3 : okS z) : Names (zs ++ [z]) := by
  refine ⟨?_, fun x hx => ?_, fun x hx => ?_⟩
  · rw [List.nodup_append]
    exact ⟨h.nd, by simp, fun a ha b hb e => by simp at hb; exact h1 (by rw [← hb, ← e]; exact ha)⟩
  · rcases List.mem_append.mp hx with hx | hx
    · exact h.nm x hx
    · simp at hx
      rw [hx]
      exact h2
  · rcases List.mem_append.mp hx with hx | hx
    · exact h.ok x hx
    · simp at hx
      rw [hx]
      exact h3
section
variable {k t : List (Str × Str)} {p : List Str} {c d : List (Str × Str)} {q : Str × Str} {z : Str}
theorem GX.kept (G : GX k t p c d) (hd : d.length ≤ 1000) : Kept k c d := ⟨G.kn.nd, G.k8, G.cn.nd, G.c8, G.ck, fun q hq => (G.dc q hq).1, hd⟩
theorem GX.nl (G : GX k t p c d) : ∀ z, z ∈ k.map (·.1) ∨ z ∈ c.map (·.1) → z.length ≤ 1000 := fun z hz => by
  rcases hz with hz | hz
  · have := nm_len (G.kn.nm z hz); omega
  · have := nm_len (G.cn.nm z hz); omega
theorem GX.okd (G : GX k t p c d) : ∀ q ∈ d, okN q.1 ∧ okN q.2 := fun q hq => ⟨nm_okN (G.cn.nm _ (G.dc q hq).1), nm_okN (G.pn.nm _ (G.dc q hq).2)⟩
theorem GX.kind (G : GX k t p c d) (h1 : q.1 ∉ k.map (·.1)) (h2 : nmS q.1 = true) (h3 : okS q.1) (h4 : q.2 = "loose" ∨ q.2 = "fast" ∨ q.2 = "unsure") (h5 : k.length < 8) : GX (k ++ [q]) t p c d := by
  have e : (k ++ [q]).map (·.1) = k.map (·.1) ++ [q.1] := by rw [List.map_append]; rfl
  have l : (k ++ [q]).length = k.length + 1 := by rw [List.length_append]; rfl
  refine ⟨by rw [e]; exact G.kn.snoc h1 h2 h3, fun x hx => ?_, by omega, by omega, fun x hx => ?_, G.pn, G.p1, G.p8, G.cn, fun x hx => ?_, G.c1, G.c8, G.dc⟩
  · rcases List.mem_append.mp hx with hx | hx
    · exact G.kh x hx
    · simp at hx
      rw [hx]
      exact h4
  · rw [e]
    exact ⟨List.mem_append_left _ (G.tk x hx).1, List.mem_append_left _ (G.tk x hx).2⟩
  · rw [e]
    exact List.mem_append_left _ (G.ck x hx)
theorem GX.pot (G : GX k t p c d) (h1 : z ∉ p) (h2 : nmS z = true) (h3 : okS z) (h5 : p.length < 8) : GX k t (p ++ [z]) c d := by
  have l : (p ++ [z]).length = p.length + 1 := by rw [List.length_append]; rfl
  exact ⟨G.kn, G.kh, G.k1, G.k8, G.tk, G.pn.snoc h1 h2 h3, by omega, by omega, G.cn, G.ck, G.c1, G.c8, fun x hx => ⟨(G.dc x hx).1, List.mem_append_left _ (G.dc x hx).2⟩⟩
theorem GX.cloth (G : GX k t p c d) (h1 : q.1 ∉ c.map (·.1)) (h2 : nmS q.1 = true) (h3 : okS q.1) (h4 : q.2 ∈ k.map (·.1)) (h5 : c.length < 8) : GX k t p (c ++ [q]) d := by
  have e : (c ++ [q]).map (·.1) = c.map (·.1) ++ [q.1] := by rw [List.map_append]; rfl
  have l : (c ++ [q]).length = c.length + 1 := by rw [List.length_append]; rfl
  refine ⟨G.kn, G.kh, G.k1, G.k8, G.tk, G.pn, G.p1, G.p8, by rw [e]; exact G.cn.snoc h1 h2 h3, fun x hx => ?_, by omega, by omega, fun x hx => ?_⟩
  · rcases List.mem_append.mp hx with hx | hx
    · exact G.ck x hx
    · simp at hx
      rw [hx]
      exact h4
  · rw [e]
    exact ⟨List.mem_append_left _ (G.dc x hx).1, (G.dc x hx).2⟩
theorem GX.dip (G : GX k t p c d) (h1 : q.1 ∈ c.map (·.1)) (h2 : q.2 ∈ p) : GX k t p c (d ++ [q]) := ⟨G.kn, G.kh, G.k1, G.k8, G.tk, G.pn, G.p1, G.p8, G.cn, G.ck, G.c1, G.c8, fun x hx => by
  rcases List.mem_append.mp hx with hx | hx
  · exact G.dc x hx
  · simp at hx
    rw [hx]
    exact ⟨h1, h2⟩⟩
theorem GX.thirst (G : GX k t p c d) (h1 : q.1 ∈ k.map (·.1)) (h2 : q.2 ∈ k.map (·.1)) : GX k (t ++ [q]) p c d := ⟨G.kn, G.kh, G.k1, G.k8, fun x hx => by
  rcases List.mem_append.mp hx with hx | hx
  · exact G.tk x hx
  · simp at hx
    rw [hx]
    exact ⟨h1, h2⟩, G.pn, G.p1, G.p8, G.cn, G.ck, G.c1, G.c8, G.dc⟩
end
/-- what a book is, told by what it is made of -/
theorem BkI.of {C : Addr} {H : Hp} {b : Addr} {A : Bk} {k t : List (Str × Str)} {p : List Str} {c d : List (Str × Str)} {fs : List Fk} {ts ds us : List V} (G : GX k t p c d) (B : BookAt C H b 24 A (k.map tv) ts p (c.map tv) ds us) (T : PT H ts t) (D : PT H ds d) (F : FL H us fs) (hd : d.length ≤ 100) (hf : fs.length ≤ 1000) (ht : t.length ≤ 1000) (ho : ∀ f ∈ fs, okF f) : BkI C H b 24 A k t p c d fs ts ds us :=
  ⟨B, T, D, F, G.kept (by omega), G.nl, hd, hf, ht, ho⟩
end Tp
namespace Tp
open PySem PySem.Spec PyProof.Rows L2 He
end Tp
/-! Dt: dicts whose keys are tuples: setdefault, displays, comprehensions -/
namespace Tp
open PySem PySem.Spec PyProof.Rows L2 He
section
variable {X : Cx} {pins : List (Addr × Obj)} {σ : L2.St} {H : Hp} {s : Shared} {a b : Addr} {r : Value} {d v : V} {k : List Key} {kvs : List (List Key × V)} {A : Around} {E : Value → Shared → Prop}
/-- behind a store -/
theorem dt_stored {h' : Heap} {t' : Nat} {xs : List (List Key × Addr × Value)} (I : Inv X pins σ H s) (e : H a = some (.dT kvs)) (eb : H b = some (.tup (k.map kV))) (hl : kvs.length < sizeLine) (hd : (a == sysModules) = false) (rel : KT H kvs xs) (rv : RelV v r)
    (dd' : h'.DictOfH (tupleKind (mixKind X.prog X.w)) a (storedH xs k b r)) (hs : Heap.SameBut a s.heap h') : Inv X pins σ (upd H a (.dT (putK kvs k v))) { s with heap := h', toks := t' } := by
  have hl2 : (putK kvs k v).length ≤ sizeLine := by have := length_putK kvs k v; omega
  obtain ⟨q, es, ep, hq, h2, h3, h4, _, h5⟩ := dd'
  refine d_write (t' := t') I (by rw [e]; exact True.intro) hs ⟨q, hq⟩ ⟨hl2, hd, _, (rel.put k eb rv).keeps fun c ys ec => ?_, q, es, ep, hq, h2, h3, h4, h5⟩
  rw [upd_ne (ne_of ec e (fun z => nomatch z))]
  exact ec
/-- d.setdefault(key, x), the key a tuple -/
theorem d_setdT {Q : Value → Shared → Prop} (hu : A.units + 1 < cLine) (I : Inv X pins σ H s) (e : H a = some (.dT kvs)) (eb : H b = some (.tup (k.map kV))) (rd : RelV d r) (hl : kvs.length < sizeLine)
    (h1 : ∀ v, valV kvs k = some v → ∀ (w' : Value) (s' : Shared), Inv X pins σ H s' → RelV v w' → Q w' s') (h2 : valV kvs k = none → ∀ (w' : Value) (s' : Shared), Inv X pins σ (upd H a (.dT (putK kvs k d))) s' → RelV d w' → Q w' s') :
    wpAny (model X.prog X.w) A (call (.builtin "dict.setdefault") [.ref a, .ref b, r]) Q E s := by
  obtain ⟨z, hd, xs, rel, dd⟩ := dt_of I.hok e
  have hz : xs.length ≤ sizeLine := by rw [← Paired.length rel]; exact z
  refine call_setdefault_heap (hsz := hz) (knd := tupleKind (mixKind X.prog X.w)) (tupleKind_room_in1 hu) (key_of I.hok eb) hd dd (fun p hp => ?_) fun hn h' dd' hs => ?_
  · have q := rel.val k
    rw [hp] at q
    cases q0 : valV kvs k with
    | none =>
      rw [q0] at q
      exact (show False from q).elim
    | some v0 =>
      rw [q0] at q
      exact h1 v0 q0 _ _ (I.tok _) q
  · have q := rel.val k
    rw [hn] at q
    cases q0 : valV kvs k with
    | some v0 =>
      rw [q0] at q
      exact (show False from q).elim
    | none => exact h2 q0 _ _ (dt_stored I e eb hl hd rel rd dd' hs) rd
end
def tDSetdT (td ty tx : TE) : TE := fun σ H Q => td σ H fun x H1 => ∃ a, x = .ref a ∧ IsD H1 a ∧ ty σ H1 fun y H2 => tx σ H2 fun z H3 => ∃ (kvs : List (List Key × V)) (k : List Key) (b : Addr), H3 a = some (.dT kvs) ∧ y = .ref b ∧ H3 b = some (.tup (k.map kV)) ∧ kvs.length < sizeLine ∧
  (∀ v, valV kvs k = some v → Q v H3) ∧ (valV kvs k = none → Q z (upd H3 a (.dT (putK kvs k z))))
section
variable {X : Cx} {o e f : Expr} {td ty tx : TE} {apos cpos : Pos}
theorem pe_dsetdT (hu : X.A.units + 1 < cLine) (ho : PE X o td) (he : PE X e ty) (hf : PE X f tx) (m : M2 X o "setdefault" apos e f cpos) : PE X (.Call (.Attribute o "setdefault" apos) [e, f] [] cpos) (tDSetdT td ty tx) := by
  refine ⟨fun pins s σ H Q I h => ?_⟩
  refine wpAny_Call_method m.base m.few m.line PySem.F.plainAttrs_dict PySem.F.slot_dict_setdefault PySem.F.type_dict_setdefault (thn (ho.run pins s σ H _ I h) fun u s1 ⟨x, H1, I1, rx, a, ex, d, q1⟩ => ?_)
  subst ex
  obtain rfl : u = Value.ref a := rx
  obtain ⟨t1, t2, _⟩ := isD_at I1 d
  refine ⟨t1, t2, ?_⟩
  rw [m.trees]
  refine Calls.callWith_builtin rfl (Calls.evalArgs_plain (Calls.spliced_cons (thn (he.run pins s1 σ H1 _ I1 q1) fun iv s2 ⟨y, H2, I2, ry, q2⟩ =>
    Calls.spliced_cons (thn (hf.run pins s2 σ H2 _ I2 q2) fun fv s3 ⟨z, H3, I3, rz, kvs, k, b, ea, ey, eb, hl, q3, q4⟩ => Calls.spliced_nil ?_))))
  subst ey
  obtain rfl : iv = Value.ref b := ry
  exact d_setdT hu I3 ea eb rz hl (fun v hv w' s4 I4 rw' => ⟨v, _, I4, rw', q3 v hv⟩) fun hn w' s4 I4 rw' => ⟨z, _, I4, rw', q4 hn⟩
end
/-! ### displays -/
def mergeT (kvs more : List (List Key × V)) : List (List Key × V) := more.foldl (fun acc kv => putK acc kv.1 kv.2) kvs
theorem KT.merge {H : Hp} : ∀ {more : List (List Key × V)} {rs : List (List Key × Addr × Value)} {kvs : List (List Key × V)} {xs : List (List Key × Addr × Value)}, KT H more rs → KT H kvs xs → KT H (mergeT kvs more) (storedAllH xs rs) := by
  intro more rs kvs xs r
  induction r generalizing kvs xs with
  | nil => intro q; exact q
  | @cons p q ps qs h t ih =>
    intro r0
    have e : KT H (putK kvs p.1 p.2) (storedH xs q.1 q.2.1 q.2.2) := by
      have := r0.put p.1 h.2.1 h.2.2
      rw [← h.1]; exact this
    exact ih e
theorem length_mergeT : ∀ (more kvs : List (List Key × V)), (mergeT kvs more).length ≤ kvs.length + more.length
  | [], kvs => by show kvs.length ≤ kvs.length + 0; omega
  | p :: r, kvs => by
    have h1 := length_mergeT r (putK kvs p.1 p.2)
    have h2 := length_putK kvs p.1 p.2
    show (mergeT (putK kvs p.1 p.2) r).length ≤ _
    rw [List.length_cons]; omega
/-- pairs that a display names, their keys tuples -/
abbrev KP (H : Hp) : List (V × V) → List (List Key × V) → Prop := Paired fun q kv => (∃ b, q.1 = .ref b ∧ H b = some (.tup (kv.1.map kV))) ∧ q.2 = kv.2
theorem carriesH_of {P : Program} {w : World} {H : Hp} {h : Heap} (ok : HOk P w H h) : ∀ {ps : List (V × V)} {kvs : List (List Key × V)} {ws : List (Value × Value)}, KP H ps kvs → VV ps ws → ∃ rs, CarriesH (tupleKind (mixKind P w)) h ws rs ∧ KT H kvs rs := by
  intro ps kvs ws r
  induction r generalizing ws with
  | nil => intro q; cases q; exact ⟨[], True.intro, .nil⟩
  | @cons p kv ps kvs h t ih =>
    intro q
    cases q with
    | @cons _ w0 _ ws h2 t2 =>
      obtain ⟨rs, c, q⟩ := ih t2
      obtain ⟨⟨b, e1, e2⟩, e3⟩ := h
      obtain ⟨r1, r2⟩ := h2
      rw [e1] at r1
      rw [e3] at r2
      obtain ⟨w1, w2⟩ := w0
      exact ⟨(kv.1, b, w2) :: rs, ⟨r1, rfl, key_of ok e2, c⟩, .cons ⟨rfl, e2, r2⟩ q⟩
/-- {t: v, ..}, the keys tuples; the new dict stands empty while the pairs are made -/
def tDispT (trs : List (TE × TE)) : TE := fun σ H Q => ∀ p, H p = none → tPairs trs σ (upd H p (.dT [])) fun ps H2 => H2 p = some (.dT []) ∧ ∃ kvs : List (List Key × V), KP H2 ps kvs ∧ kvs.length ≤ 15 ∧ Q (.ref p) (upd H2 p (.dT (mergeT [] kvs)))
theorem pe_dispT {X : Cx} {pos : Pos} {keys : List (Option Expr)} {values : List Expr} {trs : List (TE × TE)} (hu : X.A.units < cLine) (h : PPs X pos keys values trs) (hall : keys.all (·.isSome) = true) (hl : keys.length = values.length) (h0 : keys ≠ [])
    (h15 : keys.length ≤ 15) : PE X (.Dict keys values pos) (tDispT trs) := by
  refine ⟨fun pins s σ H Q I q => ?_⟩
  have hn := I.hok.fresh (Nat.le_refl s.heap.objs.size)
  have I1 := I.laid (a := s.heap.objs.size) (o := .dT []) (h' := s.heap.push { cls := .type "dict", data := .dict #[] }) (t' := s.toks) (fun _ _ q => Heap.get?_push_of_some _ q) (Nat.le_refl _) (dt_empty s.heap I.big)
  have hn2 := pairTrees_length keys values X.env pos hall hl
  have hp0 : pairTrees keys values X.env pos ≠ [] := by
    intro he
    rw [he] at hn2
    exact h0 (List.length_eq_zero_iff.mp hn2.symm)
  rw [arm_eval_Dict, zip_pairTrees keys values X.env pos hall hl, dictDisplay_pairs _ hp0 (by rw [hn2]; omega)]
  refine wpAny_bind (wpAny_standAt (wpAny_bind (wpAny_subDictH (knd := tupleKind (mixKind X.prog X.w)) (Q := fun d s' => wpAny (model X.prog X.w) X.A (pure (Value.ref d)) (EP X pins σ Q) X.xe s') hu (by rw [hn2]; exact h15)
    (thn (h.run pins _ σ _ _ I1 (q _ hn)) fun ws s2 ⟨ps, H2, I2, rel, e, kvs, kp, lk, q2⟩ => ?_))))
  obtain ⟨rs, c, rk⟩ := carriesH_of (P := X.prog) (w := X.w) I2.hok kp rel
  obtain ⟨z, hd, xs0, r0, dd⟩ := dt_of I2.hok e
  cases r0
  refine ⟨rs, c, dd, fun h' tk dd' hs => wpAny_pure ⟨.ref s.heap.objs.size, _, ?_, rfl, q2⟩⟩
  have hz : (mergeT [] kvs).length ≤ sizeLine := by
    have h1 := length_mergeT kvs []
    rw [List.length_nil] at h1
    rw [sizeLine_eq]; omega
  obtain ⟨q, es, ep, hq, h2, h3, h4, _, h5⟩ := dd'
  refine d_write (t' := tk) I2 (by rw [e]; exact True.intro) hs ⟨q, hq⟩ ⟨hz, hd, _, (KT.merge rk .nil).keeps fun c ys ec => ?_, q, es, ep, hq, h2, h3, h4, h5⟩
  rw [upd_ne (ne_of ec e (fun z => nomatch z))]
  exact ec

/-! ### comprehensions -/
theorem d_compSet {X : Cx} {pins : List (Addr × Obj)} {σ : L2.St} {H : Hp} {s : Shared} {E : Value → Shared → Prop} {D b : Addr} {kvs : List (List Key × V)} {k : List Key} {v : V} {r : Value} {Q : Unit → Shared → Prop} (room : X.A.units < cLine) (I : Inv X pins σ H s)
    (hD : H D = some (.dT kvs)) (eb : H b = some (.tup (k.map kV))) (hz : kvs.length < sizeLine) (rv : RelV v r) (h : ∀ s', Inv X pins σ (upd H D (.dT (putK kvs k v))) s' → Q () s') : wpAny (model X.prog X.w) X.A (dictSet D (.ref b) r) Q E s := by
  obtain ⟨z, hd, xs, rel, dd⟩ := dt_of I.hok hD
  exact wpAny_dictSet_heap (hsz := by rw [← Paired.length rel]; exact z) (knd := tupleKind (mixKind X.prog X.w)) room (key_of I.hok eb) dd fun h' dd' hs => h _ (dt_stored I hD eb hz hd rel rv dd' hs)
/-- what a turn must do: the pair is stored, or nothing is -/
def turnT (own : List Nat) (base : L2.St) (g : TG) (tt : TT) (tk tv : TE) (D : Addr) (next : Hp → Prop) (x : V) (G : Hp) : Prop :=
  g x base G fun ρ G1 => wipe ρ own = base ∧ tt ρ G1 fun good G2 => if good = true then tk ρ G2 fun key G3 => tv ρ G3 fun val G4 =>
    ∃ (kvs : List (List Key × V)) (k : List Key) (b : Addr), key = .ref b ∧ G4 D = some (.dT kvs) ∧ G4 b = some (.tup (k.map kV)) ∧ kvs.length < sizeLine ∧ next (upd G4 D (.dT (putK kvs k val))) else next G2
/-- {key: val for ..}, its keys tuples -/
def tDcT (wi : TI) (g : TG) (tt : TT) (tk tv : TE) (own : List Nat) : TE := fun σ G Q => wi σ G fun J G1 => ∀ D, G1 D = none → ∃ Stand : Nat → Nat → Hp → Prop, (∃ left, Stand 0 left (upd G1 D (.dT []))) ∧
  ∀ n left G2, Stand n left G2 → (J.stop n G2 ∧ Q (.ref D) G2) ∨ (J.go n G2 ∧ ∃ next : Hp → Prop, (∀ G3, next G3 → ∃ less, less < left ∧ Stand (n + 1) less G3) ∧ ∀ x G3, J.yld n G2 x G3 → turnT own (wipe σ own) g tt tk tv D next x G3)
section
variable {X : Cx} {kx vx tgt src : Expr} {tests : List Expr} {inner : Scope} {own : List (Str × Nat)} {cp p2 : Pos} {wi : TI} {g : TG} {tt : TT} {tk tv : TE} {use : Option (Value → Sem Unit)} {Qf : Value → Shared → Prop}
/-- the parts of such a comprehension, each in the block that it runs in -/
structure CompT (X : Cx) (kx vx tgt src : Expr) (tests : List Expr) (inner : Scope) (own : List (Str × Nat)) (wi : TI) (g : TG) (tt : TT) (tk tv : TE) : Prop where
  calm : X.calm = true
  room : X.A.units < cLine
  ndN : X.N.Nodup
  walk : PI X tgt src wi
  blk : BlkOk X.N X.env.scope inner own
  pg : ∀ (s : Shared) (G : Hp) (C : Addr) (cl : List (Str × Addr)) (fp : List Addr), PG (X.blk s G inner (compEnvC inner cl C X.env) fp) tgt g
  pt : ∀ (s : Shared) (G : Hp) (C : Addr) (cl : List (Str × Addr)) (fp : List Addr), PTs (X.blk s G inner (compEnvC inner cl C X.env) fp) tests tt
  pk : ∀ (s : Shared) (G : Hp) (C : Addr) (cl : List (Str × Addr)) (fp : List Addr), PE (X.blk s G inner (compEnvC inner cl C X.env) fp) kx tk
  pv : ∀ (s : Shared) (G : Hp) (C : Addr) (cl : List (Str × Addr)) (fp : List Addr), PE (X.blk s G inner (compEnvC inner cl C X.env) fp) vx tv
  same : ∀ z, foldedSetIterable src X.env z = pure z
theorem compT_run {pins : List (Addr × Obj)} {s : Shared} {σ : L2.St} {G : Hp} {Q : VK} (c : CompT X kx vx tgt src tests inner own wi g tt tk tv) (I : Inv X pins σ G s) (told : tDcT wi g tt tk tv (own.map (·.2)) σ G Q)
    (after : ∀ D C s' m G', Inv X pins σ G' s' → Q (.ref D) G' → s'.heap.Ns C m → FpOk X pins G' C → compPost (model X.prog X.w) X.A X.xe use Qf (.ref D) C (.ok .next) s') :
    wpAny (model X.prog X.w) X.A (comprehension (.DictComp kx vx [⟨tgt, src, tests, 0⟩] inner cp) inner X.env p2 newDict false (eval src X.env) use) Qf X.xe s := by
  have caught : ∀ y ∈ inner.names, y.2 = .free → ∃ cell, X.env.cells.lookup y.1 = some cell := fun y hy e => (c.blk.free y hy e).elim (fun l => I.ok.has _ (.inl l)) fun l => I.ok.has _ (.inr l)
  refine wpAny_comprehension_free (use := use) rfl c.same (closure_ok caught) c.blk.kind (fun y hy e => (c.blk.uniq y hy).trans (congrArg some e)) (thn (c.walk.run pins s σ G _ I told) fun _ s1 got => thn got fun _ s2 src2 => ?_)
  obtain ⟨it, fp, tn, J, G2, rfl, I2, T, at0, off2, q⟩ := src2
  refine wpAny_newObj_type (newEnv_comp ?_)
  -- the dict
  obtain ⟨D, hD⟩ : ∃ D, s2.heap.objs.size = D := ⟨_, rfl⟩
  have fresh := I2.hok.fresh (Nat.le_of_eq hD)
  obtain ⟨Stand, ⟨left0, first⟩, step⟩ := q D fresh
  have grown : ∀ b o, s2.heap.get? b = some o → (s2.heap.push { cls := .type "dict", data := .dict #[] }).get? b = some o := fun b o => Heap.get?_push_of_some _
  have big : D + 1 = (s2.heap.push { cls := .type "dict", data := .dict #[] }).objs.size := by rw [Heap.size_push, hD]
  have I3 : Inv X pins σ (upd G2 D (.dT [])) { s2 with heap := s2.heap.push { cls := .type "dict", data := .dict #[] } } := I2.laid (t' := s2.toks) grown (Nat.le_of_eq hD) (by rw [← hD]; exact dt_empty s2.heap I2.big)
  have below : ∀ b ∈ fp, b < D := fun b hb => let ⟨_, e, _⟩ := T.obj _ _ at0 b hb; hD ▸ Heap.lt_size e
  have off3 : ∀ b ∈ fp, FpOk X pins (upd G2 D (.dT [])) b := fun b hb => ⟨(upd_ne (Nat.ne_of_lt (below b hb))).trans (off2 b hb).1, (off2 b hb).2⟩
  have at3 := T.keep _ _ _ at0 fun b _ o e => grown b o e
  rw [hD]
  generalize hs3 : ({ s2 with heap := s2.heap.push { cls := .type "dict", data := .dict #[] } } : Shared) = s3 at I3
  have hh3 : s2.heap.push { cls := .type "dict", data := .dict #[] } = s3.heap := by rw [← hs3]
  rw [hh3] at big at3
  generalize upd G2 D (.dT []) = G3 at I3 off3 first
  have IB := block_start I3 c.blk c.ndN fun b hb => ⟨off3 b hb, Nat.lt_of_lt_of_eq (Nat.lt_succ_of_lt (below b hb)) big⟩
  have at4 : tn 0 (pushCells (s3.heap.push { cls := .type "dict", data := .dict #[] }) inner.names) := T.keep _ _ _ at3 fun b _ o e => pushCells_keeps _ _ _ _ (Heap.get?_push_of_some _ e)
  have pg := c.pg s3 G3 s3.heap.objs.size (cellsFrom (s3.heap.objs.size + 1) inner.names (cloFrom X.env.cells inner.names [])) fp
  have pt := c.pt s3 G3 s3.heap.objs.size (cellsFrom (s3.heap.objs.size + 1) inner.names (cloFrom X.env.cells inner.names [])) fp
  have pk := c.pk s3 G3 s3.heap.objs.size (cellsFrom (s3.heap.objs.size + 1) inner.names (cloFrom X.env.cells inner.names [])) fp
  have pv := c.pv s3 G3 s3.heap.objs.size (cellsFrom (s3.heap.objs.size + 1) inner.names (cloFrom X.env.cells inner.names [])) fp
  show codeAny _ _ (.compStart (.DictComp kx vx [⟨tgt, src, tests, 0⟩] inner cp) 0 (.ref it) (.ref D) (compEnvC inner (cellsFrom (s3.heap.objs.size + 1) inner.names (cloFrom X.env.cells inner.names [])) s3.heap.objs.size X.env)) (compPost (model X.prog X.w) X.A X.xe use Qf (.ref D) s3.heap.objs.size) _
  generalize hce : compEnvC inner (cellsFrom (s3.heap.objs.size + 1) inner.names (cloFrom X.env.cells inner.names [])) s3.heap.objs.size X.env = ce at IB pg pt pk pv ⊢
  have cl : ce.locals = s3.heap.objs.size := by rw [← hce]; rfl
  have still : ∀ {ρ : L2.St} {G' : Hp} {s' : Shared}, Inv (X.blk s3 G3 inner ce fp) [] ρ G' s' → (∀ b ∈ fp, G' b = none) → ∀ b ∈ fp, FpOk (X.blk s3 G3 inner ce fp) [] G' b := fun {ρ G' s'} J' no b hb =>
    ⟨no b hb, (J'.ok.exf b hb).1, J'.ok.exfs b hb, .inl hb, (J'.ok.exf b hb).2, fun p hp => by cases hp⟩
  refine codeAny_compStart_dict ?all (T.self X.A 0 _ _ _ at4 ?all)
  refine compLoop_anyD (fun left s' => ∃ n G', Inv (X.blk s3 G3 inner ce fp) [] (wipe σ (own.map (·.2))) G' s' ∧ tn n s'.heap ∧ (∀ b ∈ fp, G' b = none) ∧ Stand n left G') ?_ left0 ⟨0, G3, IB, at4, fun b hb => (off3 b hb).1, first⟩
  rintro left s5 ⟨n, G5, I5, at5, no5, here⟩
  rcases step n left G5 here with ⟨ends, done⟩ | ⟨goes, next, less, body⟩
  · -- the source has ended: the def's own frame again
    refine thnF (T.done (X.blk s3 G3 inner ce fp) rfl rfl rfl c.calm n [] s5 _ G5 (fun _ _ => False) I5 (still I5 no5) at5 ends) fun r s6 ⟨hr, I6⟩ => ?_
    subst hr
    have back : Inv X pins σ G5 s6 := I3.call' (ch := fp) I6.os I6.base I6.hok I6.bare fun b hb => ⟨(off3 b hb).2.2.2.1, (off3 b hb).2.1, (off3 b hb).2.2.2.2.1, (off3 b hb).2.2.2.2.2⟩
    have gone : G5 s3.heap.objs.size = none := cl ▸ I6.free
    obtain ⟨m, ns, _⟩ := I6.loc
    have ns : s6.heap.Ns ce.locals m := ns
    exact after D s3.heap.objs.size s6 m G5 back done (cl ▸ ns) (I3.fpOk (Nat.le_refl _) gone)
  · refine thnF (T.item (X.blk s3 G3 inner ce fp) rfl rfl rfl c.calm n [] s5 _ G5 (fun _ _ => False) I5 (still I5 no5) at5 goes) fun r s6 ⟨u, hr, one⟩ => ?_
    subst hr
    refine thnF one fun _ s7 ⟨x, G7, I7, ru, given, at7, no7⟩ => ?_
    refine thnF (pg.run _ s7 _ G7 x u _ (I7.pinned (still I7 no7) (T.obj _ _ at7)) ru (body x G7 given)) fun _ s8 ⟨ρ, G8, I8, clean, q8⟩ => ?_
    refine thnF (pt.run _ s8 ρ G8 _ I8 q8) fun good s9 ⟨G9, I9, q9⟩ => ?_
    have turned : ∀ {s' : Shared} {G' : Hp}, Inv (X.blk s3 G3 inner ce fp) ([] ++ pinsAt fp s7.heap) ρ G' s' → next G' → ∃ m, m < left ∧ ∃ n G', Inv (X.blk s3 G3 inner ce fp) [] (wipe σ (own.map (·.2))) G' s' ∧ tn n s'.heap ∧ (∀ b ∈ fp, G' b = none) ∧ Stand n m G' := by
      intro s' G' J' nx
      obtain ⟨m, hm, stand⟩ := less G' nx
      have pinned : ∀ b ∈ fp, ∀ o, s7.heap.get? b = some o → s'.heap.get? b = some o ∧ G' b = none := fun b hb o e => (J'.pin (b, o) (List.mem_append_right _ (List.mem_append_right _ (mem_pinsAt hb e)))).imp id (·.1)
      refine ⟨m, hm, n + 1, G', (J'.unpinned (pins := [])).weak (by rw [← clean, wipe_length]) (fun j v e => ?_), T.keep _ _ _ at7 fun b hb o e => (pinned b hb o e).1, fun b hb => ?_, stand⟩
      · rw [← clean] at e
        exact (wipe_some e).1
      · exact let ⟨o, e, _⟩ := T.obj _ _ at7 b hb; (pinned b hb o e).2
    cases good with
    | false => exact turned I9 (by simpa using q9)
    | true =>
      simp only [if_true] at q9 ⊢
      refine thnF (pk.run _ s9 ρ G9 _ I9 q9) fun kv s10 ⟨key, G10, I10, rk, q10⟩ => ?_
      refine thnF (pv.run _ s10 ρ G10 _ I10 q10) fun vv s11 ⟨val, G11, I11, rv, kvs, k, b, ek, hD11, eb, hz, nx⟩ => ?_
      subst ek
      obtain rfl : kv = Value.ref b := rk
      exact d_compSet (X := X.blk s3 G3 inner ce fp) c.room I11 hD11 eb hz rv fun s12 I12 => turned I12 nx
/-- as a value -/
theorem pe_dcT (c : CompT X kx vx tgt src tests inner own wi g tt tk tv) : PE X (.DictComp kx vx [⟨tgt, src, tests, 0⟩] inner cp) (tDcT wi g tt tk tv (own.map (·.2))) := by
  constructor
  intro pins s σ G Q I told
  rw [arm_eval_DictComp]
  refine compT_run c I told fun D C s' m G' back q ns off => ⟨m, ns, fun h2 but => ⟨.ref D, G', ?_, rfl, q⟩⟩
  exact back.turned (t' := s'.toks) (fun b o hb e => (but.2 b hb).trans e) off.1 off.2.1 off.2.2.2.1 off.2.2.2.2.1 off.2.2.2.2.2
variable {n : Nat} {nm : Str} {np ap : Pos}
/-- name = {key: val for ..}, the name a local one -/
theorem ps_setDcT (c : CompT X kx vx tgt src tests inner own wi g tt tk tv) (at_ : X.N[n]? = some nm) (loc : X.env.scope.names.lookup nm = some .local)
    (sw : swapsWith (.DictComp kx vx [⟨tgt, src, tests, 0⟩] inner cp) (some (.Name nm np)) ap.line X.env = pure true) :
    PS X (.Assign [.Name nm np] (.DictComp kx vx [⟨tgt, src, tests, 0⟩] inner cp) ap) (tAsg (tDcT wi g tt tk tv (own.map (·.2))) (gName n)) := by
  constructor
  intro pins st σ G D inv told
  rw [exec_Assign_Name_used _ _ _ _ sw]
  refine wpAny_bind (wpAny_standAt (wpAny_bind ?_))
  show wpAny _ X.A (do let _ ← comprehension (.DictComp kx vx [⟨tgt, src, tests, 0⟩] inner cp) inner X.env (firstIterPos [⟨tgt, src, tests, 0⟩] cp) newDict false (eval src X.env) (some (assign (.Name nm np) X.env))) _ _ st
  replace told : tDcT wi g tt tk tv (own.map (·.2)) σ G (fun v G1 => gName n v σ G1 D.nx) := told
  refine wpAny_bind (thn (compT_run (Qf := fun _ st' => SP X pins D .next st') c inv told fun d C st' ns G' inv' then_ isNs fp => ?_) fun _ _ end_ => wpAny_pure (wpAny_pure end_))
  show wpAny _ _ (assign (.Name nm np) X.env (.ref d)) _ _ _
  refine wpAny_assign_Name (store_ok2 (v := V.ref d) inv' c.ndN at_ (.inl loc) rfl (fun st2 inv2 ⟨b, but, where_⟩ => ?_) (.inr loc))
  obtain ⟨p0, p1, p2, p3, p4, p5⟩ := fp
  have apart : C ≠ b := where_.elim (fun z => by rw [z]; exact p1) fun z q => p4 nm b z q.symm
  exact ⟨ns, isNs.sameBut but apart, fun h3 but3 => ⟨_, G', inv2.turned (t' := st2.toks) (fun x o hx e => (but3.2 x hx).trans e) p0 p1 p3 p4 p5, then_⟩⟩
end
/-- over a list: what holds behind n turns -/
theorem dcT_list {K : PySem.W.Frag} {l : Addr} {ys : List V} {g : TG} {tt : TT} {tk tv : TE} {own : List Nat} {st : L2.St} {G : Hp} {d : Addr} {fin : Hp → Prop} (at_ : Nat → Hp → Prop) (start : at_ 0 (upd G d (.dT []))) (stays : ∀ n G', n ≤ ys.length → at_ n G' → SqL K G' l ys)
    (turn : ∀ n y G', ys[n]? = some y → at_ n G' → turnT own (wipe st own) g tt tk tv d (at_ (n + 1)) y G') (done : ∀ G', at_ ys.length G' → fin G') :
    ∃ Stand : Nat → Nat → Hp → Prop, (∃ left, Stand 0 left (upd G d (.dT []))) ∧ ∀ n left G', Stand n left G' →
      ((Itl K l).stop n G' ∧ fin G') ∨ ((Itl K l).go n G' ∧ ∃ next : Hp → Prop, (∀ G2, next G2 → ∃ less, less < left ∧ Stand (n + 1) less G2) ∧ ∀ y G2, (Itl K l).yld n G' y G2 → turnT own (wipe st own) g tt tk tv d next y G2) := by
  have wk := walk_list (K := K) (a := l) (xs := ys)
  refine ⟨fun n left G' => left + n = ys.length ∧ at_ n G', ⟨ys.length, rfl, start⟩, ?_⟩
  rintro n left G' ⟨sum, here⟩
  have list := stays n G' (by omega) here
  rcases Nat.eq_or_lt_of_le (show n ≤ ys.length by omega) with rfl | lt
  · exact .inl ⟨wk.stops G' list, done G' here⟩
  · refine .inr ⟨wk.goes n G' lt list, at_ (n + 1), fun G2 there => ⟨left - 1, by omega, by omega, there⟩, fun y G2 given => ?_⟩
    obtain ⟨rfl, item⟩ := wk.yields n G' y G2 lt list given
    exact turn n y _ item here
end Tp
/-! Wa: chains of amounts, dicts whose keys are amounts -/
namespace Tp
open PySem PySem.Spec PyProof.Rows L2 He
/-- a chain of pairs of t leads from x to y -/
inductive Rc {α : Type} (t : List (α × α)) : α → α → Prop
  | refl (x : α) : Rc t x x
  | step {x y z : α} : Rc t x y → (y, z) ∈ t → Rc t x z
theorem Rc.trans {α : Type} {t : List (α × α)} {x y z : α} (h : Rc t x y) (h2 : Rc t y z) : Rc t x z := by
  induction h2 with
  | refl => exact h
  | step _ e ih => exact .step ih e
theorem rc_in {α : Type} {t : List (α × α)} {x y : α} {bs : List α} (hx : x ∈ bs) (hc : ∀ y ∈ bs, ∀ z, (y, z) ∈ t → z ∈ bs) (h : Rc t x y) : y ∈ bs := by
  induction h with
  | refl => exact hx
  | step _ e ih => exact hc _ ih _ e
theorem rc_end {α : Type} {t : List (α × α)} {x y : α} (h : Rc t x y) : y ∈ x :: t.map (·.2) := by
  cases h with
  | refl => simp
  | step _ e => exact List.mem_cons_of_mem _ (List.mem_map.mpr ⟨_, e, rfl⟩)
/-- an amount as a key -/
def amK (q : Am) : List Key := [Sum.inr q.1, Sum.inl (q.2 : Int)]
theorem amK_inj {a b : Am} (h : amK a = amK b) : a = b := by
  obtain ⟨x, i⟩ := a
  obtain ⟨y, j⟩ := b
  unfold amK at h
  injection h with h1 h2
  injection h2 with h2 _
  have e1 : x = y := Sum.inr.inj h1
  have e2 : (i : Int) = j := Sum.inl.inj h2
  rw [e1, Int.ofNat.inj e2]
theorem isAmt.key {H : Hp} {u : Addr} {q : Am} (h : isAmt H u q) : H u = some (.tup ((amK q).map kV)) := h
/-- what a dict of amounts holds -/
def dA (bs : List (Am × V)) : List (List Key × V) := bs.map fun q => (amK q.1, q.2)
theorem dA_len {bs : List (Am × V)} : (dA bs).length = bs.length := List.length_map ..
theorem valV_dA_none {bs : List (Am × V)} {x : Am} (h : x ∉ bs.map (·.1)) : valV (dA bs) (amK x) = none := by
  induction bs with
  | nil => rfl
  | cons q bs ih =>
    rw [List.map_cons, List.mem_cons, not_or] at h
    exact (valV_neg (p := (amK q.1, q.2)) fun e => h.1 (amK_inj e).symm).trans (ih h.2)
theorem valV_dA {bs : List (Am × V)} {x : Am} {v : V} (nd : (bs.map (·.1)).Nodup) (h : (x, v) ∈ bs) : valV (dA bs) (amK x) = some v := by
  induction bs with
  | nil => cases h
  | cons q bs ih =>
    rw [List.map_cons, List.nodup_cons] at nd
    rcases List.mem_cons.mp h with rfl | h2
    · exact valV_pos (p := (amK x, v)) rfl
    · have hne : ¬ q.1 = x := fun e => nd.1 (e ▸ List.mem_map.mpr ⟨(x, v), h2, rfl⟩)
      exact (valV_neg (p := (amK q.1, q.2)) fun e => hne (amK_inj e)).trans (ih nd.2 h2)
theorem mem_keys {bs : List (Am × V)} {x : Am} (h : x ∈ bs.map (·.1)) : ∃ v, (x, v) ∈ bs := by
  obtain ⟨⟨a, v⟩, hq, rfl⟩ := List.mem_map.mp h
  exact ⟨v, hq⟩
theorem isSome_dA {bs : List (Am × V)} {x : Am} : (valV (dA bs) (amK x)).isSome = decide (x ∈ bs.map (·.1)) := by
  induction bs with
  | nil => rfl
  | cons q bs ih =>
    by_cases e : q.1 = x
    · rw [show valV (dA (q :: bs)) (amK x) = some q.2 from valV_pos (p := (amK q.1, q.2)) (by rw [e])]
      simp [e]
    · rw [show valV (dA (q :: bs)) (amK x) = valV (dA bs) (amK x) from valV_neg (p := (amK q.1, q.2)) fun z => e (amK_inj z), ih]
      rw [List.map_cons, decide_eq_decide, List.mem_cons]
      exact ⟨.inr, fun h => h.resolve_left fun z => e z.symm⟩
theorem putK_dA {bs : List (Am × V)} {x : Am} {v : V} (h : x ∉ bs.map (·.1)) : putK (dA bs) (amK x) v = dA (bs ++ [(x, v)]) := by
  rw [putK_new v (valV_dA_none h)]
  unfold dA
  rw [List.map_append]
  rfl
theorem putK_dA_same {bs : List (Am × V)} {x : Am} {v : V} (h : x ∈ bs.map (·.1)) (hv : ∀ q ∈ bs, q.2 = v) : putK (dA bs) (amK x) v = dA bs := by
  obtain ⟨w, hw⟩ := mem_keys h
  unfold putK
  rw [if_pos]
  · unfold dA
    rw [List.map_map]
    refine List.map_congr_left fun q hq => ?_
    show (if amK q.1 = amK x then (amK q.1, v) else (amK q.1, q.2)) = _
    rw [hv q hq]
    split <;> rfl
  · rw [List.any_eq_true]
    exact ⟨(amK x, w), List.mem_map.mpr ⟨_, hw, rfl⟩, by simp⟩
/-- what x leads to, t told -/
def selA (x : Am) (t : List Pa) : List Am := (t.filter fun p => decide (p.1 = x)).map (·.2)
theorem mem_selA {t : List Pa} {x z : Am} : z ∈ selA x t ↔ (x, z) ∈ t := by
  unfold selA
  rw [List.mem_map]
  constructor
  · rintro ⟨q, hq, rfl⟩
    rw [List.mem_filter] at hq
    rw [← of_decide_eq_true hq.2]
    exact hq.1
  · intro h
    exact ⟨(x, z), List.mem_filter.mpr ⟨h, by simp⟩, rfl⟩
theorem selA_snoc {t : List Pa} {x y z : Am} : selA z (t ++ [(x, y)]) = if x = z then selA z t ++ [y] else selA z t := by
  unfold selA
  rw [filter_snoc]
  by_cases h : x = z
  · rw [if_pos h, if_pos (by simpa using h), List.map_append]
    rfl
  · rw [if_neg h, if_neg (by simpa using h), List.append_nil]
theorem selA_len {t : List Pa} {x : Am} : (selA x t).length ≤ t.length := by
  unfold selA
  rw [List.length_map]
  exact List.length_filter_le _ _
section
variable {H H' : Hp} {a r : Addr} {q : Am} {vs ws : List V} {xs : List Am} {o : HO}
theorem not_tup_dT {kvs : List (List Key × V)} (h : H a = some (.dT kvs)) : ∀ xs, H a ≠ some (.tup xs) := fun xs z => by rw [h] at z; cases z
theorem ext_at (h : ∀ xs, H a ≠ some (.tup xs)) : Ext [a] H (upd H a o) := Ext.refl.mut (by simp) h
theorem AmtAt.off (h : AmtAt H r xs) (na : ∀ xs, H a ≠ some (.tup xs)) (ne : r ≠ a) : AmtAt (upd H a o) r xs := h.ext (ext_at na) (by simpa using ne)
theorem AmtAt.len (h : AmtAt H r xs) (hl : H r = some (.lst vs)) : vs.length = xs.length := by
  obtain ⟨as, h1, h2⟩ := h
  rw [h1] at hl
  cases hl
  rw [List.length_map, amt_len h2]
theorem AmtAt.ne_dT {kvs : List (List Key × V)} (h : AmtAt H r xs) (hd : H a = some (.dT kvs)) : r ≠ a := fun e => by
  obtain ⟨as, h1, _⟩ := h
  rw [e, hd] at h1
  cases h1
/-- the dict of what each first leads to, t told yet -/
structure StepsA (H : Hp) (D : Addr) (ks : List (Am × Addr)) (t : List Pa) : Prop where
  top : H D = some (.dT (dA (ks.map fun q => (q.1, V.ref q.2))))
  kn : (ks.map (·.1)).Nodup
  an : (ks.map (·.2)).Nodup
  row : ∀ q ∈ ks, AmtAt H q.2 (selA q.1 t)
  all : ∀ p ∈ t, p.1 ∈ ks.map (·.1)
variable {D : Addr} {ks : List (Am × Addr)} {t : List Pa} {x y : Am} {l : Addr}
theorem StepsA.ext {ms : List Addr} (S : StepsA H D ks t) (e : Ext ms H H') (hD : D ∉ ms) (hk : ∀ q ∈ ks, q.2 ∉ ms) : StepsA H' D ks t :=
  ⟨e.keep _ _ S.top hD, S.kn, S.an, fun q hq => (S.row q hq).ext e (hk q hq), S.all⟩
theorem StepsA.off (S : StepsA H D ks t) : ∀ q ∈ ks, q.2 ≠ D := fun q hq => (S.row q hq).ne_dT S.top
theorem keysA : (ks.map fun q => (q.1, V.ref q.2)).map (·.1) = ks.map (·.1) := by
  rw [List.map_map]
  rfl
theorem StepsA.at (S : StepsA H D ks t) (h : (x, l) ∈ ks) : valV (dA (ks.map fun q => (q.1, V.ref q.2))) (amK x) = some (.ref l) :=
  valV_dA (by rw [keysA]; exact S.kn) (List.mem_map.mpr ⟨_, h, rfl⟩)
theorem StepsA.no (h : x ∉ ks.map (·.1)) : valV (dA (ks.map fun q => (q.1, V.ref q.2))) (amK x) = none := valV_dA_none (by rw [keysA]; exact h)
theorem StepsA.sel_none (S : StepsA H D ks t) (h : x ∉ ks.map (·.1)) : selA x t = [] := by
  unfold selA
  rw [List.map_eq_nil_iff, List.filter_eq_nil_iff]
  intro p hp hc
  exact h (by rw [← of_decide_eq_true hc]; exact S.all p hp)
theorem StepsA.pick (h : x ∈ ks.map (·.1)) : ∃ l, (x, l) ∈ ks := by
  obtain ⟨⟨a, v⟩, hq, rfl⟩ := List.mem_map.mp h
  exact ⟨v, hq⟩
/-- one pair more, its first known -/
theorem StepsA.push (S : StepsA H D ks t) (h : (x, l) ∈ ks) (hl : H l = some (.lst vs)) (hr : isAmt H r y) : StepsA (upd H l (.lst (vs ++ [.ref r]))) D ks (t ++ [(x, y)]) := by
  have e := ext_lst (ws := vs ++ [.ref r]) hl
  refine ⟨by rw [upd_ne (Ne.symm (S.off _ h))]; exact S.top, S.kn, S.an, fun q hq => ?_, fun p hp => ?_⟩
  · rw [selA_snoc]
    by_cases e2 : q.2 = l
    · have : q = (x, l) := by
        obtain ⟨i, hi⟩ := List.mem_iff_getElem?.mp hq
        obtain ⟨j, hj⟩ := List.mem_iff_getElem?.mp h
        have h1 : (ks.map (·.2))[i]? = some l := by rw [List.getElem?_map, hi, ← e2]; rfl
        have h2 : (ks.map (·.2))[j]? = some l := by rw [List.getElem?_map, hj]; rfl
        have this : i = j := (List.getElem?_inj (List.getElem?_eq_some_iff.mp h1).1 S.an).mp (h1.trans h2.symm)
        rw [this, hj] at hi
        exact (Option.some.inj hi).symm
      subst this
      rw [if_pos rfl]
      exact (S.row _ hq).pushU hl hr
    · have : ¬ x = q.1 := fun h2 => e2 (by
        have a1 := S.at h
        have a2 := S.at (x := q.1) (l := q.2) hq
        rw [← h2, a1] at a2
        exact (V.ref.inj (Option.some.inj a2)).symm)
      rw [if_neg this]
      exact (S.row _ hq).ext e (by simpa using e2)
  · rcases List.mem_append.mp hp with hp | hp
    · exact S.all p hp
    · rw [List.mem_singleton.mp hp]
      exact List.mem_map.mpr ⟨_, h, rfl⟩
/-- .. its first new -/
theorem StepsA.add (S : StepsA H D ks t) (h : x ∉ ks.map (·.1)) (hl : H l = none) : StepsA (upd (upd H l (.lst [])) D (.dT (dA ((ks ++ [(x, l)]).map fun q => (q.1, V.ref q.2))))) D (ks ++ [(x, l)]) t := by
  have hlD : l ≠ D := fun e => by rw [e, S.top] at hl; cases hl
  have e1 : Ext [] H (upd H l (.lst [])) := Ext.new hl
  have hD1 : (upd H l (.lst [])) D = some (.dT (dA (ks.map fun q => (q.1, V.ref q.2)))) := e1.keep _ _ S.top (by simp)
  refine ⟨upd_same, ?_, ?_, fun q hq => ?_, fun p hp => ?_⟩
  · rw [List.map_append, List.nodup_append]
    exact ⟨S.kn, by simp, fun a ha b hb e => by simp at hb; exact h (by rw [← hb, ← e]; exact ha)⟩
  · rw [List.map_append, List.nodup_append]
    refine ⟨S.an, by simp, fun a ha b hb e => ?_⟩
    simp at hb
    obtain ⟨q, hq, rfl⟩ := List.mem_map.mp ha
    obtain ⟨as, this, _⟩ := S.row q hq
    rw [e, hb, hl] at this
    cases this
  · rcases List.mem_append.mp hq with hq | hq
    · exact ((S.row q hq).ext e1 (by simp)).off (not_tup_dT hD1) (S.off q hq)
    · rw [List.mem_singleton.mp hq, S.sel_none h]
      exact AmtAt.off (⟨[], upd_same, .nil⟩ : AmtAt (upd H l (.lst [])) l []) (not_tup_dT hD1) hlD
  · rw [List.map_append]
    exact List.mem_append_left _ (S.all p hp)
end
/-! ### a walk -/
/-- what a walk has met, in its order, each with what led to it -/
structure BwI (t : List Pa) (x : Am) (H : Hp) (bs : List (Am × V)) : Prop where
  nd : (bs.map (·.1)).Nodup
  hx : x ∈ bs.map (·.1)
  val : ∀ (i : Nat) (y : Am) (v : V), bs[i]? = some (y, v) → (y = x ∧ v = .non) ∨ ∃ u p j w, v = .ref u ∧ isAmt H u p ∧ (p, y) ∈ t ∧ j < i ∧ bs[j]? = some (p, w)
section
variable {H H' : Hp} {t : List Pa} {x y z : Am} {bs : List (Am × V)} {u : Addr}
theorem BwI.ext {ms : List Addr} (B : BwI t x H bs) (e : Ext ms H H') : BwI t x H' bs :=
  ⟨B.nd, B.hx, fun i y v h => (B.val i y v h).imp id fun ⟨u, p, j, w, h1, h2, h3⟩ => ⟨u, p, j, w, h1, e.tups _ _ h2, h3⟩⟩
theorem BwI.tk (B : BwI t x H bs) (e : ∀ b ys, H b = some (.tup ys) → H' b = some (.tup ys)) : BwI t x H' bs :=
  ⟨B.nd, B.hx, fun i y v h => (B.val i y v h).imp id fun ⟨u, p, j, w, h1, h2, h3⟩ => ⟨u, p, j, w, h1, e _ _ h2, h3⟩⟩
theorem BwI.one : BwI t x H [(x, .non)] := by
  refine ⟨by simp, by simp, fun i y v h => .inl ?_⟩
  cases i with
  | zero =>
    have : (x, V.non) = (y, v) := by simpa using h
    cases this
    exact ⟨rfl, rfl⟩
  | succ i => simp at h
theorem BwI.sub (B : BwI t x H bs) : ∀ y ∈ bs.map (·.1), Rc t x y := by
  intro y hy
  obtain ⟨⟨y, v⟩, hq, rfl⟩ := List.mem_map.mp hy
  obtain ⟨i, hi⟩ := List.mem_iff_getElem?.mp hq
  clear hq hy
  induction i using Nat.strongRecOn generalizing y v with
  | ind i ih =>
    rcases B.val i y v hi with ⟨rfl, _⟩ | ⟨u, p, j, w, _, _, h3, h4, h5⟩
    · exact .refl _
    · exact .step (ih j h4 p w h5) h3
theorem BwI.root (B : BwI t x H bs) {i : Nat} {v : V} (h : bs[i]? = some (x, v)) : v = .non := by
  have hlt := (List.getElem?_eq_some_iff.mp h).1
  obtain ⟨⟨y0, v0⟩, h0⟩ : ∃ q, bs[0]? = some q := ⟨_, List.getElem?_eq_getElem (by omega)⟩
  rcases B.val 0 y0 v0 h0 with ⟨rfl, rfl⟩ | ⟨_, _, j, _, _, _, _, h4, _⟩
  · have a1 : (bs.map (·.1))[i]? = some y0 := by rw [List.getElem?_map, h]; rfl
    have a0 : (bs.map (·.1))[0]? = some y0 := by rw [List.getElem?_map, h0]; rfl
    have hi : i = 0 := (List.getElem?_inj (List.getElem?_eq_some_iff.mp a1).1 B.nd).mp (a1.trans a0.symm)
    rw [hi, h0] at h
    cases h
    rfl
  · omega
theorem BwI.le (B : BwI t x H bs) : bs.length ≤ t.length + 1 := by
  have h := nodup_le B.nd (m := x :: t.map (·.2)) fun y hy => rc_end (B.sub y hy)
  rw [List.length_map] at h
  have e : (x :: t.map (·.2)).length = t.length + 1 := by rw [List.length_cons, List.length_map]
  omega
theorem BwI.add (B : BwI t x H bs) (hy : y ∈ bs.map (·.1)) (hu : isAmt H u y) (e : (y, z) ∈ t) (hz : z ∉ bs.map (·.1)) : BwI t x H (bs ++ [(z, .ref u)]) := by
  refine ⟨?_, ?_, fun i a v h => ?_⟩
  · rw [List.map_append, List.nodup_append]
    exact ⟨B.nd, by simp, fun a ha b hb q => by simp at hb; exact hz (by rw [← hb, ← q]; exact ha)⟩
  · rw [List.map_append]
    exact List.mem_append_left _ B.hx
  · have up : ∀ {j : Nat} {q : Am × V}, bs[j]? = some q → (bs ++ [(z, V.ref u)])[j]? = some q := fun {j q} hj => by
      rw [List.getElem?_append_left (List.getElem?_eq_some_iff.mp hj).1]
      exact hj
    by_cases hi : i < bs.length
    · rw [List.getElem?_append_left hi] at h
      exact (B.val i a v h).imp id fun ⟨u', p, j, w, h1, h2, h3, h4, h5⟩ => ⟨u', p, j, w, h1, h2, h3, h4, up h5⟩
    · rw [List.getElem?_append_right (by omega)] at h
      have h0 : i - bs.length = 0 := by
        have := (List.getElem?_eq_some_iff.mp h).1
        simp at this
        omega
      rw [h0] at h
      have : (z, V.ref u) = (a, v) := by simpa using h
      cases this
      obtain ⟨w, hw⟩ := mem_keys hy
      obtain ⟨j, hj⟩ := List.mem_iff_getElem?.mp hw
      have := (List.getElem?_eq_some_iff.mp hj).1
      exact .inr ⟨u, y, j, w, rfl, hu, e, by omega, up hj⟩
theorem BwI.fin (B : BwI t x H bs) (hc : ∀ y ∈ bs.map (·.1), ∀ z, (y, z) ∈ t → z ∈ bs.map (·.1)) (y : Am) : y ∈ bs.map (·.1) ↔ Rc t x y := ⟨B.sub y, fun h => rc_in B.hx hc h⟩
end
/-- the dict of a walk from x, ended -/
def WalkAt (H : Hp) (B : Addr) (t : List Pa) (x : Am) : Prop := ∃ bs, H B = some (.dT (dA bs)) ∧ BwI t x H bs ∧ ∀ y, y ∈ bs.map (·.1) ↔ Rc t x y
theorem WalkAt.ext {ms : List Addr} {H H' : Hp} {B : Addr} {t : List Pa} {x : Am} (h : WalkAt H B t x) (e : Ext ms H H') (hB : B ∉ ms) : WalkAt H' B t x := by
  obtain ⟨bs, h1, h2, h3⟩ := h
  exact ⟨bs, e.keep _ _ h1 hB, h2.ext e, h3⟩
theorem keys_amt {H : Hp} : ∀ {bs : List (Am × V)} {as : List Addr}, IsKeys H (dA bs) as → Paired (isAmt H) as (bs.map (·.1))
  | [], _, h => by cases h; exact .nil
  | _ :: bs, _, h => by
    cases h with
    | cons a r => exact .cons a (keys_amt r)
theorem amt_tk {H H' : Hp} (e : ∀ b ys, H b = some (.tup ys) → H' b = some (.tup ys)) : ∀ {as : List Addr} {l : List Am}, Paired (isAmt H) as l → Paired (isAmt H') as l
  | _, _, .nil => .nil
  | _, _, .cons x r => .cons (e _ _ x) (amt_tk e r)
theorem amt_rev {H : Hp} : ∀ {as : List Addr} {l : List Am}, Paired (isAmt H) as l → Paired (isAmt H) as.reverse l.reverse
  | _, _, .nil => .nil
  | _, _, .cons x r => by
    rw [List.reverse_cons, List.reverse_cons]
    exact amt_snoc x (amt_rev r)
theorem rev_pairs {α : Type} {t : List (α × α)} {l : List α} (h : ∀ (i : Nat) (c d : α), l[i]? = some c → l[i + 1]? = some d → (d, c) ∈ t) {i : Nat} {c d : α} (h1 : l.reverse[i]? = some c) (h2 : l.reverse[i + 1]? = some d) : (c, d) ∈ t := by
  have hi : i + 1 < l.length := by
    have := (List.getElem?_eq_some_iff.mp h2).1
    rwa [List.length_reverse] at this
  rw [List.getElem?_reverse (by omega)] at h1 h2
  refine h (l.length - 1 - (i + 1)) d c h2 ?_
  rw [← h1]
  congr 1
  omega
def spStepsA : Sp := fun vs H Q _ => ∃ (a : Addr) (t : List Pa), vs = [.ref a] ∧ PrAt H a t ∧ t.length ≤ 20000 ∧ ∀ D ks H', Ext [] H H' → StepsA H' D ks t → Q (.ref D) H'
/-- one start's walk -/
def spWalkA : Sp := fun vs H Q _ => ∃ (s D u : Addr) (x : Am) (ks : List (Am × Addr)) (t : List Pa), vs = [.ref s, .ref D] ∧ H s = some (.lst [.ref u]) ∧ isAmt H u x ∧ StepsA H D ks t ∧ t.length ≤ 20000 ∧
  ∀ B H', H B = none → Ext [] H H' → WalkAt H' B t x → Q (.ref B) H'
/-- these lead from x to y -/
def Pth (t : List Pa) (x y : Am) (ps : List Am) : Prop := ps.head? = some x ∧ ps.getLast? = some y ∧ (∀ (i : Nat) (a b : Am), ps[i]? = some a → ps[i + 1]? = some b → (a, b) ∈ t) ∧ (x = y → ps = [x])
def spPath : Sp := fun vs H Q _ => ∃ (e B : Addr) (t : List Pa) (x y : Am) (n : Nat), vs = [.ref e, .ref B] ∧ isAmt H e y ∧ WalkAt H B t x ∧ t.length ≤ 20000 ∧ Rc t x y ∧ (∀ zs : List Am, zs.Nodup → (∀ z ∈ zs, Rc t x z) → zs.length ≤ n) ∧
  ∀ l ps H', H l = none → Ext [] H H' → AmtAt H' l ps → Pth t x y ps → ps.length ≤ n → Q (.ref l) H'
end Tp
/-! Od: the order of a book -/
namespace Tp
open PySem PySem.Spec PyProof.Rows L2 He
theorem pairsD_len {k t c d : List (Str × Str)} {fs : List Fk} (hd : d.length ≤ 100) (hf : fs.length ≤ 1000) : (pairsD k t c d fs).length ≤ 20000 := by
  have h1 := stepsD_len (k := k) (t := t) (c := c) (d := d) d.length
  have h2 := toldD_len (fs := fs)
  have h3 : d.length * (d.length + 1) ≤ 10100 := Nat.mul_le_mul hd (Nat.succ_le_succ hd)
  unfold pairsD
  rw [List.length_append]
  omega
theorem take_mem {k c d : List (Str × Str)} {j : Nat} : ∀ n, j < n → (("take" : Str), j) ∈ amtD k c d n
  | 0, h => by omega
  | n + 1, h => by
    show _ ∈ (amtD k c d n ++ [(("take" : Str), n)]) ++ _
    refine List.mem_append_left _ ?_
    by_cases e : j = n
    · subst e
      exact List.mem_append_right _ (by simp)
    · exact List.mem_append_left _ (take_mem n (by omega))
theorem amtD_nodup {k c d : List (Str × Str)} : ∀ n, (amtD k c d n).Nodup
  | 0 => List.nodup_nil
  | n + 1 => by
    have h1 := amtD_nodup (k := k) (c := c) (d := d) n
    have h2 := amtD_lt (k := k) (c := c) (d := d) n
    show ((amtD k c d n ++ [(("take" : Str), n)]) ++ (if leaveD k c d n = true then [(("leave" : Str), n)] else [])).Nodup
    rw [List.append_assoc, List.nodup_append]
    refine ⟨h1, ?_, fun a ha b hb e => ?_⟩
    · split
      · have : (("take" : Str), n) ≠ (("leave" : Str), n) := fun h => absurd (show ("take" : Str) = "leave" from congrArg Prod.fst h) (by decide +kernel)
        simp [this]
      · simp
    · have hn := h2 a ha
      have : b.2 = n := by
        split at hb
        · simp at hb
          rcases hb with rfl | rfl <;> rfl
        · simp at hb
          rw [hb]
      rw [← e] at this
      omega
theorem fallsD_in {t c d : List (Str × Str)} {j : Nat} : ∀ i, ∀ q ∈ fallsD t c d j i, ∃ m, m < i ∧ q = ((("take" : Str), m), (("take" : Str), j))
  | 0, q, h => by cases h
  | i + 1, q, h => by
    have h' : q ∈ fallsD t c d j i ++ (if fallB t c d j i = true then [((("take" : Str), i), (("take" : Str), j))] else []) := h
    rcases List.mem_append.mp h' with h | h
    · obtain ⟨m, hm, e⟩ := fallsD_in i q h
      exact ⟨m, by omega, e⟩
    · split at h
      · exact ⟨i, by omega, by simpa using h⟩
      · cases h
theorem bleedD_in {k c d : List (Str × Str)} {j : Nat} {q : Pa} (h : q ∈ bleedD k c d j) : leaveD k c d j = true ∧ ∃ m, m < j ∧ q = ((("take" : Str), m), (("leave" : Str), j)) := by
  unfold bleedD at h
  split at h
  · rename_i hl
    split at h
    · split at h
      · rename_i m hp
        exact ⟨hl, m, (prevD_lt hp).1, by simpa using h⟩
      · cases h
    · cases h
  · cases h
theorem stepsD_in {k t c d : List (Str × Str)} {n : Nat} : ∀ i, i ≤ n → ∀ q ∈ stepsD k t c d i, q.1 ∈ amtD k c d n ∧ q.2 ∈ amtD k c d n
  | 0, _, q, h => by cases h
  | i + 1, hi, q, h => by
    have h' : q ∈ (stepsD k t c d i ++ fallsD t c d i i) ++ bleedD k c d i := h
    rcases List.mem_append.mp h' with h | h
    · rcases List.mem_append.mp h with h | h
      · exact stepsD_in i (by omega) q h
      · obtain ⟨m, hm, rfl⟩ := fallsD_in i q h
        exact ⟨take_mem n (by omega), take_mem n (by omega)⟩
    · obtain ⟨hl, m, hm, rfl⟩ := bleedD_in h
      exact ⟨take_mem n (by omega), (leave_mem n (by omega)).mpr hl⟩
theorem toldD_in {xs : List Am} : ∀ {fs : List Fk}, (∀ f ∈ fs, inA xs f) → ∀ q ∈ toldD fs, q.1 ∈ xs ∧ q.2 ∈ xs
  | [], _, q, h => by cases h
  | .tell x y :: fs, hf, q, h => by
    have h' : q ∈ (x, y) :: toldD fs := h
    rcases List.mem_cons.mp h' with rfl | h
    · exact hf (.tell x y) (by simp)
    · exact toldD_in (fun f hf2 => hf f (by simp [hf2])) q h
  | .some _ :: fs, hf, q, h => toldD_in (fs := fs) (fun f hf2 => hf f (by simp [hf2])) q h
theorem pairsD_in {k t c d : List (Str × Str)} {fs : List Fk} (hf : ∀ f ∈ fs, inA (amtD k c d d.length) f) : ∀ q ∈ pairsD k t c d fs, q.1 ∈ amtD k c d d.length ∧ q.2 ∈ amtD k c d d.length := by
  intro q h
  rcases List.mem_append.mp h with h | h
  · exact stepsD_in _ (Nat.le_refl _) q h
  · exact toldD_in hf q h
/-- the order of a book: what each of its amounts leads to, what is told to be there -/
structure OrdAt (C : Addr) (H : Hp) (p : Addr) (dx D L : Addr) (ws : List (Am × V)) (t : List Pa) (th : List Am) : Prop where
  ob : H p = some (.ins C dx [("_below", .ref D), ("_told", .ref L)])
  dt : H D = some (.dT (dA ws))
  nd : (ws.map (·.1)).Nodup
  wk : ∀ q ∈ ws, ∃ B, q.2 = .ref B ∧ WalkAt H B t q.1
  tl : AmtAt H L th
  tn : t.length ≤ 20000
  wd : ∀ q ∈ ws.map (·.1), q.1 = ("take" : Str) ∨ q.1 = ("leave" : Str)
  cl : ∀ q ∈ t, q.1 ∈ ws.map (·.1) ∧ q.2 ∈ ws.map (·.1)
theorem OrdAt.ext {C : Addr} {H H' : Hp} {p dx D L : Addr} {ws : List (Am × V)} {t : List Pa} {th : List Am} (o : OrdAt C H p dx D L ws t th) (e : Ext [] H H') : OrdAt C H' p dx D L ws t th :=
  ⟨e.keep _ _ o.ob (by simp), e.keep _ _ o.dt (by simp), o.nd, fun q hq => let ⟨B, h1, h2⟩ := o.wk q hq; ⟨B, h1, h2.ext e (by simp)⟩, o.tl.ext e (by simp), o.tn, o.wd, o.cl⟩
theorem amt_of {H : Hp} {v : V} {dv : PyData} (a : Av H v dv) (h : amtB dv = true) : ∃ u q, v = .ref u ∧ isAmt H u q ∧ dv = dAmt q := by
  unfold amtB at h
  split at h
  · rename_i w n
    rw [Bool.and_eq_true] at h
    have hn := of_decide_eq_true h.2
    have e : PyData.tuple [.str w, .int n] = dAmt (w, n.toNat) := by
      show _ = PyData.tuple [.str w, .int ((n.toNat : Nat) : Int)]
      rw [Int.toNat_of_nonneg hn]
    have a1 := a.1
    rw [e] at a1
    obtain ⟨u, rfl, hu⟩ := im_amt a1
    exact ⟨u, _, rfl, hu, e⟩
  · cases h
theorem BookAt.off_ins {C C' : Addr} {H : Hp} {p o dx : Addr} {b : Int} {A : Bk} {ks cs : List (Str × V)} {ts ds fs : List V} {ps : List Str} (B : BookAt C H p b A ks ts ps cs ds fs) (ho : H o = some (.ins C' dx [])) : ∀ a ∈ A.all p, a ∉ [o] := by
  intro a ha hm
  have e := List.mem_singleton.mp hm
  subst e
  simp only [Bk.all, List.mem_cons, List.not_mem_nil, or_false] at ha
  rcases ha with rfl | rfl | rfl | rfl | rfl | rfl | rfl
  · have := B.ob; rw [ho] at this; cases this
  · have := B.dk; rw [ho] at this; cases this
  · have := B.lt; rw [ho] at this; cases this
  · have := B.lp; rw [ho] at this; cases this
  · have := B.dc; rw [ho] at this; cases this
  · have := B.ld; rw [ho] at this; cases this
  · have := B.lf; rw [ho] at this; cases this
/-- a range walked, left early or not: what then holds -/
theorem for_rangeB {lo : Int} {n : Nat} {g : TG} {tb : TS} {D : Ends} {σ : L2.St} {H : Hp} (Fin : L2.St → Hp → Prop) (Pv : Nat → L2.St → Hp → Prop) (h0 : Pv 0 σ H)
    (hs : ∀ (D : Ends), (∀ σ H, Fin σ H → D.nx σ H) → ∀ i σ H, i < n → Pv i σ H → g (.int (lo + i)) σ H fun σ2 H2 => tb { D with nx := Pv (i + 1), ct := Pv (i + 1), bk := D.nx } σ2 H2) (hd : ∀ σ H, Pv n σ H → Fin σ H) (hf : ∀ σ H, Fin σ H → D.nx σ H) :
    ∃ W : Nat → Nat → L2.St → Hp → Prop, (∃ m, W 0 m σ H) ∧ ∀ i m σ H, W i m σ H →
      ((Itr lo n).stop i H ∧ D.nx σ H) ∨ ((Itr lo n).go i H ∧ ∃ N : L2.St → Hp → Prop, (∀ σ' H', N σ' H' → ∃ m', m' < m ∧ W (i + 1) m' σ' H') ∧ ∀ x H', (Itr lo n).yld i H x H' → g x σ H' fun σ2 H2 => tb { D with nx := N, ct := N, bk := D.nx } σ2 H2) :=
  for_range Pv h0 (hs D hf) fun σ H p => hf σ H (hd σ H p)
/-- what is reached from x, round by round -/
structure RbI (as : List Am) (t : List Pa) (x : Am) (rs : List Am) : Prop where
  nd : rs.Nodup
  hx : x ∈ rs
  rc : ∀ y ∈ rs, Rc t x y
  sub : ∀ y ∈ rs, y ∈ as
theorem RbI.le {as : List Am} {t : List Pa} {x : Am} {rs : List Am} (R : RbI as t x rs) : rs.length ≤ as.length := nodup_le R.nd R.sub
theorem RbI.one {as : List Am} {t : List Pa} {x : Am} (h : x ∈ as) : RbI as t x [x] := ⟨by simp, by simp, fun y hy => by simp at hy; rw [hy]; exact .refl _, fun y hy => by simp at hy; rw [hy]; exact h⟩
theorem RbI.add {as : List Am} {t : List Pa} {x : Am} {rs : List Am} {q : Pa} (R : RbI as t x rs) (hq : q ∈ t) (h1 : q.1 ∈ rs) (h2 : q.2 ∉ rs) (h3 : q.2 ∈ as) : RbI as t x (rs ++ [q.2]) := by
  refine ⟨?_, List.mem_append_left _ R.hx, fun y hy => ?_, fun y hy => ?_⟩
  · rw [List.nodup_append]
    exact ⟨R.nd, by simp, fun a ha b hb e => by simp at hb; exact h2 (by rw [← hb, ← e]; exact ha)⟩
  · rcases List.mem_append.mp hy with h | h
    · exact R.rc y h
    · rw [List.mem_singleton.mp h]
      exact .step (R.rc _ h1) hq
  · rcases List.mem_append.mp hy with h | h
    · exact R.sub y h
    · rw [List.mem_singleton.mp h]
      exact h3
def RbC (t : List Pa) (rs : List Am) : Prop := ∀ q ∈ t, q.1 ∈ rs → q.2 ∈ rs
theorem RbI.fin {as : List Am} {t : List Pa} {x : Am} {rs : List Am} (R : RbI as t x rs) (hc : RbC t rs) (y : Am) : y ∈ rs ↔ Rc t x y :=
  ⟨R.rc y, fun h => rc_in R.hx (fun z hz z' hzz => hc (z, z') hzz hz) h⟩
/-- within a round, j pairs seen -/
def RbJ (t : List Pa) (rs ws : List Am) (j : Nat) : Prop := (ws = rs ∧ ∀ q ∈ t.take j, q.1 ∈ rs → q.2 ∈ rs) ∨ rs.length + 1 ≤ ws.length
theorem RbJ.skip {t : List Pa} {rs ws : List Am} {j : Nat} {q : Pa} (J : RbJ t rs ws j) (hq : t[j]? = some q) (h : q.1 ∈ ws → q.2 ∈ ws) : RbJ t rs ws (j + 1) := by
  rcases J with ⟨rfl, h1⟩ | h1
  · refine .inl ⟨rfl, fun z hz => ?_⟩
    rw [take_snoc hq] at hz
    rcases List.mem_append.mp hz with hz | hz
    · exact h1 z hz
    · rw [List.mem_singleton.mp hz]
      exact h
  · exact .inr h1
theorem RbJ.add {t : List Pa} {rs ws : List Am} {j : Nat} {y : Am} (J : RbJ t rs ws j) : RbJ t rs (ws ++ [y]) (j + 1) := by
  rcases J with ⟨rfl, _⟩ | h1
  · exact .inr (by rw [List.length_append]; exact Nat.le_refl _)
  · exact .inr (by rw [List.length_append]; omega)
/-- the marks of these -/
abbrev mkT (rs : List Am) : List (Am × V) := rs.map fun y => (y, V.bl true)
theorem mkT_keys {rs : List Am} : (mkT rs).map (·.1) = rs := by
  rw [List.map_map]
  exact List.map_id _
theorem mkT_len {rs : List Am} : (dA (mkT rs)).length = rs.length := by rw [dA_len, List.length_map]
theorem mkT_snoc {rs : List Am} {y : Am} (h : y ∉ rs) : putK (dA (mkT rs)) (amK y) (.bl true) = dA (mkT (rs ++ [y])) := by
  rw [putK_dA (by rw [mkT_keys]; exact h)]
  unfold mkT
  rw [List.map_append]
  rfl
theorem mkT_old {rs : List Am} {y : Am} (h : y ∈ rs) : putK (dA (mkT rs)) (amK y) (.bl true) = dA (mkT rs) :=
  putK_dA_same (by rw [mkT_keys]; exact h) fun q hq => by
    obtain ⟨z, _, rfl⟩ := List.mem_map.mp hq
    rfl
theorem mkT_in {rs : List Am} {y : Am} : (valV (dA (mkT rs)) (amK y)).isSome = decide (y ∈ rs) := by rw [isSome_dA, mkT_keys]
/-- what is below each amount, by the law's own reckoning -/
def BelowAt (H : Hp) (D : Addr) (as : List Am) (t : List Pa) : Prop := ∃ ws : List (Am × V), H D = some (.dT (dA ws)) ∧ ws.map (·.1) = as ∧ ∀ q ∈ ws, ∃ l rs, q.2 = .ref l ∧ l ≠ D ∧ AmtAt H l rs ∧ rs.length ≤ as.length ∧ (∀ y ∈ rs, y ∈ as) ∧ ∀ y, y ∈ rs ↔ Rc t q.1 y
theorem BelowAt.ext {H H' : Hp} {D : Addr} {as : List Am} {t : List Pa} (B : BelowAt H D as t) (e : Ext [] H H') : BelowAt H' D as t := by
  obtain ⟨ws, h1, h2, h3⟩ := B
  refine ⟨ws, e.keep _ _ h1 (by simp), h2, fun q hq => ?_⟩
  obtain ⟨l, rs, a1, a2, a3, a4⟩ := h3 q hq
  exact ⟨l, rs, a1, a2, a3.ext e (by simp), a4⟩
theorem BelowAt.get {H : Hp} {D u : Addr} {as : List Am} {t : List Pa} {x : Am} (B : BelowAt H D as t) (nd : as.Nodup) (hx : x ∈ as) (hu : isAmt H u x) : ∃ l rs, DGet H D (.ref u) (some (.ref l)) ∧ AmtAt H l rs ∧ rs.length ≤ as.length ∧ (∀ y ∈ rs, y ∈ as) ∧ ∀ y, y ∈ rs ↔ Rc t x y := by
  obtain ⟨ws, h1, h2, h3⟩ := B
  rw [← h2] at hx nd
  obtain ⟨v, hv⟩ := mem_keys hx
  obtain ⟨l, rs, a1, a2, a3, a4⟩ := h3 _ hv
  have a1 : v = .ref l := a1
  subst a1
  exact ⟨l, rs, by rw [← valV_dA nd hv]; exact DGet.t (k := amK x) h1 hu, a3, a4⟩
def spBelow : Sp := fun vs H Q _ => ∃ (a s : Addr) (as : List Am) (t : List Pa), vs = [.ref a, .ref s] ∧ AmtAt H a as ∧ PrAt H s t ∧ as.Nodup ∧ as.length ≤ 1000 ∧ (∀ q ∈ t, q.1 ∈ as ∧ q.2 ∈ as) ∧ ∀ D H', H D = none → Ext [] H H' → BelowAt H' D as t → Q (.ref D) H'
theorem any_pr {t : List Pa} {q : Pa} : ((t.map dPr).any fun z => PyData.eqv z (dPr q)) = decide (q ∈ t) := by
  have he : ∀ p : Pa, PyData.eqv (dPr p) (dPr q) = decide (p = q) := fun p => by
    obtain ⟨a, b⟩ := p
    obtain ⟨c, d⟩ := q
    show PyData.eqv (.tuple [dAmt a, dAmt b]) (.tuple [dAmt c, dAmt d]) = _
    rw [show PyData.eqv (.tuple [dAmt a, dAmt b]) (.tuple [dAmt c, dAmt d]) = (PyData.eqv (dAmt a) (dAmt c) && (PyData.eqv (dAmt b) (dAmt d) && true)) from rfl, eqv_amt, eqv_amt, Bool.and_true, Bool.eq_iff_iff]
    simp
  rw [Bool.eq_iff_iff, List.any_eq_true, decide_eq_true_eq]
  constructor
  · rintro ⟨z, hz, h⟩
    obtain ⟨p, hp, rfl⟩ := List.mem_map.mp hz
    rw [he] at h
    rw [← of_decide_eq_true h]
    exact hp
  · intro h
    exact ⟨_, List.mem_map.mpr ⟨q, h, rfl⟩, by rw [he]; simp⟩
end Tp
/-! Ol: an order, and what the law reckons beside it -/
namespace Tp
open PySem PySem.Spec PyProof.Rows L2 He
section
variable {H H' : Hp} {S L l : Addr} {as : List Am} {t : List Pa}
theorem src_refs (s : SrcAt H S L) {vs : List V} (hl : H l = some (.lst vs)) (hv : ∀ v ∈ vs, ∃ u, v = .ref u) : l ≠ S := by
  intro e
  obtain ⟨cells, i, k, g, h1, _, _⟩ := s
  rw [e, h1] at hl
  have hl : [V.ref L, .int i, .int k, .int g] = vs := by
    injection hl with hl
    injection hl
  obtain ⟨u, hu⟩ := hv (.int i) (by rw [← hl]; simp)
  cases hu
theorem AmtAt.ne_src (h : AmtAt H l as) (s : SrcAt H S L) : l ≠ S := by
  obtain ⟨us, h1, _⟩ := h
  exact src_refs s h1 fun v hv => let ⟨u, _, e⟩ := List.mem_map.mp hv; ⟨u, e.symm⟩
theorem PrAt.ne_src (h : PrAt H l t) (s : SrcAt H S L) : l ≠ S := by
  obtain ⟨vs, h1, us, rfl, _⟩ := h
  exact src_refs s h1 fun v hv => let ⟨u, _, e⟩ := List.mem_map.mp hv; ⟨u, e.symm⟩
theorem src_dT (s : SrcAt H S L) {kvs : List (List Key × V)} (h : H l = some (.dT kvs)) : l ≠ S := by
  intro e
  obtain ⟨cells, i, k, g, h1, _, _⟩ := s
  rw [e, h1] at h
  cases h
theorem WalkAt.ne_src {x : Am} (h : WalkAt H l t x) (s : SrcAt H S L) : l ≠ S := let ⟨_, h1, _⟩ := h; src_dT s h1
theorem OrdAt.extS {C p dx D Lt : Addr} {ws : List (Am × V)} {th : List Am} (o : OrdAt C H p dx D Lt ws t th) (s : SrcAt H S L) (e : Ext [S] H H') : OrdAt C H' p dx D Lt ws t th := by
  have hp : p ≠ S := fun z => by
    obtain ⟨cells, i, k, g, h1, _, _⟩ := s
    have := o.ob
    rw [z, h1] at this
    cases this
  exact ⟨e.keep _ _ o.ob (by simpa using hp), e.keep _ _ o.dt (by simpa using src_dT s o.dt), o.nd, fun q hq => let ⟨B, h1, h2⟩ := o.wk q hq; ⟨B, h1, h2.ext e (by simpa using h2.ne_src s)⟩, o.tl.ext e (by simpa using o.tl.ne_src s), o.tn, o.wd, o.cl⟩
theorem BelowAt.extS {D : Addr} (b : BelowAt H D as t) (s : SrcAt H S L) (e : Ext [S] H H') : BelowAt H' D as t := by
  obtain ⟨ws, h1, h2, h3⟩ := b
  refine ⟨ws, e.keep _ _ h1 (by simpa using src_dT s h1), h2, fun q hq => ?_⟩
  obtain ⟨l, rs, a1, a2, a3, a4⟩ := h3 q hq
  exact ⟨l, rs, a1, a2, a3.ext e (by simpa using a3.ne_src s), a4⟩
/-- values that are none of these amounts -/
def BadL (as : List Am) (H : Hp) (vs : List V) : Prop := ∀ v ∈ vs, ∃ d, Av H v d ∧ ownD as d = false
theorem BadL.nil : BadL as H [] := fun _ h => by cases h
theorem BadL.ext {ms : List Addr} {vs : List V} (h : BadL as H vs) (e : Ext ms H H') : BadL as H' vs := fun v hv => let ⟨d, h1, h2⟩ := h v hv; ⟨d, h1.ext e, h2⟩
theorem BadL.snoc {vs : List V} {v : V} {d : PyData} (h : BadL as H vs) (hv : Av H v d) (hd : ownD as d = false) : BadL as H (vs ++ [v]) := fun x hx => by
  rcases List.mem_append.mp hx with hx | hx
  · exact h x hx
  · rw [List.mem_singleton.mp hx]
    exact ⟨d, hv, hd⟩
theorem BadL.pushF {vs : List V} {u : Addr} {xs : List V} {ds : List PyData} (h : BadL as H vs) (hu : H u = none) (hp : Paired Fl1 xs ds) (hd : ownD as (.tuple ds) = false) : BadL as (upd H u (.tup xs)) (vs ++ [.ref u]) := by
  obtain ⟨a, b, c⟩ := fl_all hp
  exact (h.ext (ms := []) (Ext.new hu)).snoc (Av.new a b c) hd
theorem BadL.flat {vs : List V} {v : V} {d : PyData} (h : BadL as H vs) (hv : Fl1 v d) (hd : ownD as d = false) : BadL as H (vs ++ [v]) := h.snoc hv.av hd
theorem BadL.app {vs ws : List V} (h : BadL as H vs) (h2 : BadL as H ws) : BadL as H (vs ++ ws) := fun x hx => (List.mem_append.mp hx).elim (h x) (h2 x)
/-- what stands between the questions -/
structure Oz (O : Addr) (H : Hp) (S L o dx D Lt lo ls Db lb : Addr) (as : List Am) (t : List Pa) (th : List Am) (ws : List (Am × V)) (bv : List V) : Prop where
  s : SrcAt H S L
  o : OrdAt O H o dx D Lt ws t th
  hw : ws.map (·.1) = as
  am : AmtAt H lo as
  pr : PrAt H ls t
  bl : BelowAt H Db as t
  bd : H lb = some (.lst bv)
  bS : lb ≠ S
  bb : BadL as H bv
  nd : as.Nodup
  al : as.length ≤ 100
  wd : ∀ q ∈ as, q.1 = ("take" : Str) ∨ q.1 = ("leave" : Str)
  ok : ∀ q ∈ t, okS q.1.1 ∧ okS q.2.1
  b0 : 0 < bv.length
  b1 : bv.length ≤ 1000
variable {O o dx D Lt lo ls Db lb : Addr} {th : List Am} {ws : List (Am × V)} {bv : List V}
theorem Oz.ext (z : Oz O H S L o dx D Lt lo ls Db lb as t th ws bv) (e : Ext [] H H') : Oz O H' S L o dx D Lt lo ls Db lb as t th ws bv :=
  ⟨z.s.ext e, z.o.ext e, z.hw, z.am.ext e (by simp), z.pr.ext e (by simp), z.bl.ext e, e.keep _ _ z.bd (by simp), z.bS, z.bb.ext e, z.nd, z.al, z.wd, z.ok, z.b0, z.b1⟩
theorem Oz.draw (z : Oz O H S L o dx D Lt lo ls Db lb as t th ws bv) (e : Ext [S] H H') (s : SrcAt H' S L) : Oz O H' S L o dx D Lt lo ls Db lb as t th ws bv :=
  ⟨s, z.o.extS z.s e, z.hw, z.am.ext e (by simpa using z.am.ne_src z.s), z.pr.ext e (by simpa using z.pr.ne_src z.s), z.bl.extS z.s e, e.keep _ _ z.bd (by simpa using z.bS), z.bS, z.bb.ext e, z.nd, z.al, z.wd, z.ok, z.b0, z.b1⟩
theorem dAmt_inj {x y : Am} (h : dAmt x = dAmt y) : x = y := by
  obtain ⟨a, i⟩ := x
  obtain ⟨b, j⟩ := y
  injection h with h
  injection h with h1 h2
  injection h1 with h1
  injection h2 with h2 _
  injection h2 with h2
  have e2 : i = j := Int.ofNat.inj h2
  rw [show a = b from h1, e2]
noncomputable def Rc' (t : List Pa) (x y : Am) : Bool := @decide (Rc t x y) (Classical.propDecidable _)
theorem rc_yes {t : List Pa} {x y : Am} (h : Rc t x y) : Rc' t x y = true := @decide_eq_true _ (Classical.propDecidable _) h
theorem rc_no {t : List Pa} {x y : Am} (h : ¬ Rc t x y) : Rc' t x y = false := @decide_eq_false _ (Classical.propDecidable _) h
theorem rc_mem {t : List Pa} {x y : Am} {rs : List Am} (h : ∀ y, y ∈ rs ↔ Rc t x y) : decide (y ∈ rs) = Rc' t x y := by
  by_cases hc : Rc t x y
  · rw [rc_yes hc, decide_eq_true ((h y).mpr hc)]
  · rw [rc_no hc, decide_eq_false fun z => hc ((h y).mp z)]
theorem pth_in {t : List Pa} {x y : Am} {ps as : List Am} (h : Pth t x y ps) (ht : ∀ q ∈ t, q.1 ∈ as) (hy : y ∈ as) : ∀ q ∈ ps, q ∈ as := by
  intro q hq
  obtain ⟨i, hi⟩ := List.mem_iff_getElem?.mp hq
  have hlt := (List.getElem?_eq_some_iff.mp hi).1
  by_cases h2 : i + 1 < ps.length
  · exact ht _ (h.2.2.1 i q _ hi (List.getElem?_eq_getElem h2))
  · have h3 : i = ps.length - 1 := by omega
    have h4 := h.2.1
    rw [List.getLast?_eq_getElem?, ← h3, hi] at h4
    cases h4
    exact hy
theorem leave_none {k c d : List (Str × Str)} : leaveD k c d 0 = false := by
  unfold leaveD
  cases d[0]? with
  | none => rfl
  | some q => rfl
end
end Tp
/-! Ct: x in o, o of a class with its own __contains__; an order asked -/
namespace Tp
open PySem PySem.Spec PyProof.Rows L2 He
structure OwnCt (K : PySem.W.Frag) (C g : Addr) : Prop where
  ct : PySem.W.findIn K (.ref C) "__contains__" = some (some (.ref g))
  fn : PySem.W.isFn K (.ref g) = true
def rInOwn (C : Addr) (sp : Sp) (E : XK) : R2 := fun x y H Q => ∃ a dx fs, y = .ref a ∧ H a = some (.ins C dx fs) ∧ sp [.ref a, x] H (fun v H' => ∃ b, v = .bl b ∧ Q (.bl b) H') E
section
variable {X : Cx} {CX : CXT} {k : Nat} {C g : Addr} {fd : FuncData} {ps : List Str} {sp : Sp} {E : XK}
theorem op_inOwn (hi : OwnCt X.K C g) (F : FnOk X.prog X.w X.K X.mg X.base CX k g fd ps sp) (hr : Room k X.A) (hb : Binds X.K fd ps []) (hx : Passes CX X E) : OpR X (compareOp .In) (rInOwn C sp E) := by
  intro pins s σ H x y v u Q I rx ry h
  obtain ⟨a, dx, fs, rfl, ea, hs⟩ := h
  obtain rfl : u = Value.ref a := ry
  obtain ⟨mA, O, _, _, _, _⟩ := ins_get I.hok ea
  obtain ⟨od, J, _⟩ := O.look
  obtain ⟨m0, hF⟩ := I.fr
  refine PySem.W.in_K hF I.ok.mod.kin J hi.ct hi.fn ?_
  have hl := F.len _ _ _ _ hs
  have bnd := hb s [.ref a, v] I.kIn (by simpa using hl)
  refine wpAny_call (codeAny_mono (F.run X.A X.stack s H ⟨[.ref a, v], []⟩ [.ref a, v] [.ref a, x] _ E hr I.env0 (by simpa using bnd) (.cons rfl (.cons rx .nil)) hs) fun r s' hq => ?_)
  cases r with
  | error er => exact hx pins σ H s er s' I hq
  | ok fl =>
    cases fl with
    | ret u =>
      obtain ⟨v, H', I3, rv, b, rfl, q⟩ := I.after hq
      obtain rfl : u = Value.bool b := rv
      exact wpAny_truthy_bool ⟨.bl b, H', I3, rfl, q⟩
    | next => exact False.elim hq
    | brk => exact False.elim hq
    | cont => exact False.elim hq
end
end Tp
namespace Tp
open PySem PySem.Spec PyProof.Rows L2 He
/-! ### a dict that is locked while it is walked -/
theorem ext_unlock {H H' : Hp} {d : Addr} {u : HO} {od : Obj} (hd : H d = some u) (e : Ext [] (upd H d (.frz od u)) H') : Ext [] H (upd H' d u) := by
  refine ⟨fun b o q _ => ?_, fun b xs q => ?_⟩
  · by_cases hb : b = d
    · rw [hb, upd_same]
      rw [hb, hd] at q
      exact q
    · rw [upd_ne hb]
      exact e.keep b o (by rw [upd_ne hb]; exact q) (by simp)
  · by_cases hb : b = d
    · rw [hb, upd_same]
      rw [hb, hd] at q
      exact q
    · rw [upd_ne hb]
      exact e.tups b xs (by rw [upd_ne hb]; exact q)
theorem rd_ext {H H' : Hp} {a : Addr} {u : HO} (h : Rd H a u) (e : Ext [] H H') : Rd H' a u := h.imp (fun h => e.keep _ _ h (by simp)) fun ⟨o, h⟩ => ⟨o, e.keep _ _ h (by simp)⟩
theorem rd_lock {H : Hp} {B d : Addr} {u x : HO} {od : Obj} (hd : H d = some u) (h : H B = some x) : Rd (upd H d (.frz od u)) B x := by
  by_cases hb : B = d
  · rw [hb] at h ⊢
    rw [hd] at h
    cases h
    exact .inr ⟨od, upd_same⟩
  · exact .inl (by rw [upd_ne hb]; exact h)
theorem tup_lock {H : Hp} {b d : Addr} {kvs : List (List Key × V)} {xs : List V} {od : Obj} (hd : H d = some (.dT kvs)) (h : H b = some (.tup xs)) : upd H d (.frz od (.dT kvs)) b = some (.tup xs) := by
  rw [upd_ne (fun e => by rw [e, hd] at h; cases h)]
  exact h
theorem DGet.rd {H : Hp} {a b : Addr} {kvs : List (List Key × V)} {k : List Key} (e : Rd H a (.dT kvs)) (eb : H b = some (.tup (k.map kV))) : DGet H a (.ref b) (valV kvs k) := .inr ⟨kvs, k, b, e, rfl, eb, rfl⟩
/-- over the keys of a locked dict -/
theorem lc_keysT {d : Addr} {o : Obj} {kvs : List (List Key × V)} {g : TG} {tt : TT} {te : TE} {vs : List Nat} {σ : L2.St} {H1 : Hp} {D : Addr} {Qd : Hp → Prop} (Pv : Nat → Hp → Prop) (h0 : Pv 0 (upd H1 D (.lst []))) (hl : ∀ i H, i ≤ kvs.length → Pv i H → H d = some (.frz o (.dT kvs)))
    (hs : ∀ i k v q H, kvs[i]? = some (k, v) → H q = some (.tup (k.map kV)) → Pv i H → g (.ref q) (wipe σ vs) H fun σ2 H2 => wipe σ2 vs = wipe σ vs ∧ tt σ2 H2 fun b H3 =>
      if b = true then te σ2 H3 fun y H4 => ∃ acc, H4 D = some (.lst acc) ∧ acc.length < sizeLine ∧ Pv (i + 1) (upd H4 D (.lst (acc ++ [y]))) else Pv (i + 1) H3) (hd : ∀ H, Pv kvs.length H → Qd H) :
    ∃ W : Nat → Nat → Hp → Prop, (∃ m, W 0 m (upd H1 D (.lst []))) ∧ ∀ i m H, W i m H →
      ((Itkt d o kvs).stop i H ∧ Qd H) ∨ ((Itkt d o kvs).go i H ∧ ∃ Nx : Hp → Prop, (∀ H', Nx H' → ∃ m', m' < m ∧ W (i + 1) m' H') ∧ ∀ x H', (Itkt d o kvs).yld i H x H' → g x (wipe σ vs) H' fun σ2 H2 => wipe σ2 vs = wipe σ vs ∧ tt σ2 H2 fun b H3 =>
        if b = true then te σ2 H3 fun y H4 => ∃ acc, H4 D = some (.lst acc) ∧ acc.length < sizeLine ∧ Nx (upd H4 D (.lst (acc ++ [y]))) else Nx H3) := by
  refine ⟨fun i m H => m = kvs.length - i ∧ i ≤ kvs.length ∧ Pv i H, ⟨kvs.length, by simp, Nat.zero_le _, h0⟩, ?_⟩
  rintro i m H ⟨rfl, hi, p⟩
  have q := hl i H hi p
  by_cases hlt : i < kvs.length
  · refine .inr ⟨⟨q, hlt⟩, Pv (i + 1), fun H' p' => ⟨kvs.length - (i + 1), by omega, rfl, hlt, p'⟩, fun x H' y => ?_⟩
    obtain ⟨e, k, v, a, hk, rfl, ha⟩ := y
    subst e
    exact hs i k v a _ hk ha p
  · have e : i = kvs.length := by omega
    subst e
    exact .inl ⟨⟨q, Nat.le_refl _⟩, hd H p⟩
/-- an order as far as it is read while its dict is walked -/
structure OrdR (C : Addr) (H : Hp) (p dx D L : Addr) (ws : List (Am × V)) (t : List Pa) : Prop where
  ob : H p = some (.ins C dx [("_below", .ref D), ("_told", .ref L)])
  dt : Rd H D (.dT (dA ws))
  nd : (ws.map (·.1)).Nodup
  wk : ∀ q ∈ ws, ∃ B bs, q.2 = .ref B ∧ Rd H B (.dT (dA bs)) ∧ ∀ y, y ∈ bs.map (·.1) ↔ Rc t q.1 y
section
variable {C : Addr} {H H' : Hp} {p dx D L u v : Addr} {ws : List (Am × V)} {t : List Pa} {th : List Am} {x y : Am}
theorem OrdR.ext (o : OrdR C H p dx D L ws t) (e : Ext [] H H') : OrdR C H' p dx D L ws t :=
  ⟨e.keep _ _ o.ob (by simp), rd_ext o.dt e, o.nd, fun q hq => let ⟨B, bs, h1, h2, h3⟩ := o.wk q hq; ⟨B, bs, h1, rd_ext h2 e, h3⟩⟩
theorem OrdAt.lock (o : OrdAt C H p dx D L ws t th) (od : Obj) : OrdR C (upd H D (.frz od (.dT (dA ws)))) p dx D L ws t := by
  refine ⟨?_, rd_lock o.dt o.dt, o.nd, fun q hq => ?_⟩
  · rw [upd_ne (fun e => by have := o.ob; rw [e, o.dt] at this; cases this)]
    exact o.ob
  · obtain ⟨B, h1, bs, h2, _, h3⟩ := o.wk q hq
    exact ⟨B, bs, h1, rd_lock o.dt h2, h3⟩
theorem OrdAt.rd (o : OrdAt C H p dx D L ws t th) : OrdR C H p dx D L ws t :=
  ⟨o.ob, .inl o.dt, o.nd, fun q hq => let ⟨B, h1, bs, h2, _, h3⟩ := o.wk q hq; ⟨B, bs, h1, .inl h2, h3⟩⟩
theorem OrdR.get (o : OrdR C H p dx D L ws t) (hx : x ∈ ws.map (·.1)) (hu : isAmt H u x) (hv : isAmt H v y) : ∃ B r, DGet H D (.ref u) (some (.ref B)) ∧ DGet H B (.ref v) r ∧ r.isSome = Rc' t x y := by
  obtain ⟨bv, hbv⟩ := mem_keys hx
  obtain ⟨B, bs, hB, hr, hiff⟩ := o.wk _ hbv
  have hB : bv = .ref B := hB
  subst hB
  refine ⟨B, valV (dA bs) (amK y), ?_, DGet.rd (k := amK y) hr hv, ?_⟩
  · rw [← valV_dA o.nd hbv]
    exact DGet.rd (k := amK x) o.dt hu
  · rw [isSome_dA]
    exact rc_mem hiff
end
/-- (more, less) in order -/
def spOrdCt (C : Addr) : Sp := fun vs H Q _ => ∃ p c v g dv dg dx D L ws t th, vs = [.ref p, .ref c] ∧ H c = some (.tup [v, g]) ∧ Av H v dv ∧ Av H g dg ∧ OrdAt C H p dx D L ws t th ∧
  (ownD (ws.map (·.1)) dv = false ∨ ownD (ws.map (·.1)) dg = false → Q (.bl false) H) ∧
  (∀ x y, dv = dAmt x → dg = dAmt y → x ∈ ws.map (·.1) → y ∈ ws.map (·.1) → Q (.bl (Rc' t x y)) H)
/-- those that lead to one of these -/
noncomputable def aboveD (as : List Am) (t : List Pa) (qs : List Am) : List Am := as.filter fun x => qs.any fun y => Rc' t x y
/-- order.above(amounts) -/
def spAbove (K : PySem.W.Frag) (C : Addr) : Sp := fun vs H Q E => ∃ p l dx D L ws t th, ∃ (xs : List V) (ds : List PyData), vs = [.ref p, .ref l] ∧ H l = some (.lst xs) ∧ Paired (Av H) xs ds ∧ xs.length ≤ 1000 ∧ ws.length ≤ 1000 ∧ OrdAt C H p dx D L ws t th ∧
  (∀ (i : Nat) v d, xs[i]? = some v → ds[i]? = some d → ownD (ws.map (·.1)) d = false → (∀ (j : Nat) e, j < i → ds[j]? = some e → ownD (ws.map (·.1)) e = true) → Leaves K E (ga K "BadAmount") v H) ∧
  (∀ us qs, xs = us.map V.ref → Paired (isAmt H) us qs → ds = qs.map dAmt → (∀ q ∈ qs, q ∈ ws.map (·.1)) → ∀ r H', H r = none → Ext [] H H' → AmtAt H' r (aboveD (ws.map (·.1)) t qs) → Q (.ref r) H')
/-- order.there() -/
def spThere (C : Addr) : Sp := fun vs H Q _ => ∃ p dx D L ws t th, vs = [.ref p] ∧ OrdAt C H p dx D L ws t th ∧ (∀ q ∈ th, q ∈ ws.map (·.1)) ∧ th.length ≤ 1000 ∧ ws.length ≤ 1000 ∧
  ∀ r H', H r = none → Ext [] H H' → AmtAt H' r (aboveD (ws.map (·.1)) t th) → Q (.ref r) H'
theorem paired_getX {α β : Type} {R : α → β → Prop} : ∀ {xs : List α} {ys : List β} {i : Nat} {x : α}, Paired R xs ys → xs[i]? = some x → ∃ y, ys[i]? = some y ∧ R x y
  | _, _, _, _, .nil, h => by simp at h
  | _, _, 0, _, .cons r _, h => by
    simp at h
    exact ⟨_, rfl, h ▸ r⟩
  | _, _, i + 1, _, .cons _ p, h => by
    simp at h
    obtain ⟨y, h1, h2⟩ := paired_getX p h
    exact ⟨y, by simpa using h1, h2⟩
/-- own ones are amounts -/
theorem own_all {H : Hp} {as : List Am} (hw : ∀ q ∈ as, q.1 = ("take" : Str) ∨ q.1 = ("leave" : Str)) : ∀ {xs : List V} {ds : List PyData}, Paired (Av H) xs ds → (∀ e ∈ ds, ownD as e = true) → ∃ us qs, xs = us.map V.ref ∧ Paired (isAmt H) us qs ∧ ds = qs.map dAmt ∧ ∀ q ∈ qs, q ∈ as
  | _, _, .nil, _ => ⟨[], [], rfl, .nil, rfl, by simp⟩
  | _, _, .cons a p, h => by
    obtain ⟨us, qs, h1, h2, h3, h4⟩ := own_all hw p fun e he => h e (by simp [he])
    have o := h _ (List.mem_cons_self ..)
    have hb := o
    rw [ownD_eq hw, Bool.and_eq_true] at hb
    obtain ⟨u, q, rfl, hq, rfl⟩ := amt_of a hb.1
    rw [ownD_amt] at o
    exact ⟨u :: us, q :: qs, by rw [h1]; rfl, .cons hq h2, by rw [h3]; rfl, fun z hz => by
      rcases List.mem_cons.mp hz with rfl | hz
      · exact of_decide_eq_true o
      · exact h4 z hz⟩
theorem av_tk {H H' : Hp} : ∀ {xs : List V} {ds : List PyData}, Ext [] H H' → Paired (Av H) xs ds → Paired (Av H') xs ds
  | _, _, _, .nil => .nil
  | _, _, e, .cons a p => .cons (a.ext e) (av_tk e p)
theorem amt_avs {H : Hp} {as : List Am} (hw : ∀ q ∈ as, q.1 = ("take" : Str) ∨ q.1 = ("leave" : Str)) : ∀ {us : List Addr} {qs : List Am}, Paired (isAmt H) us qs → (∀ q ∈ qs, q ∈ as) → Paired (Av H) (us.map V.ref) (qs.map dAmt)
  | _, _, .nil, _ => .nil
  | _, _, .cons a p, h => .cons (Av.amt a (hw _ (h _ (List.mem_cons_self ..)))) (amt_avs hw p fun q hq => h q (List.mem_cons_of_mem _ hq))
theorem dA_at {ws : List (Am × V)} {i : Nat} {k : List Key} {v : V} (h : (dA ws)[i]? = some (k, v)) : ∃ x v', ws[i]? = some (x, v') ∧ k = amK x := by
  unfold dA at h
  rw [List.getElem?_map] at h
  obtain ⟨⟨x, v'⟩, h1, h2⟩ := Option.map_eq_some_iff.mp h
  cases h2
  exact ⟨x, v', h1, rfl⟩
/-- _law_refused(order, amounts, thing): thing is the first that is no amount -/
def spRefusedA (O : Addr) : Sp := fun vs H Q _ => ∃ o l g dx D L ws t th, ∃ (xs : List V) (ds : List PyData) (i : Nat) (v : V) (d : PyData), vs = [.ref o, .ref l, g] ∧ H l = some (.lst xs) ∧ Paired (Av H) xs ds ∧ xs.length ≤ 1000 ∧ ws.length ≤ 1000 ∧ OrdAt O H o dx D L ws t th ∧
  xs[i]? = some v ∧ ds[i]? = some d ∧ ownD (ws.map (·.1)) d = false ∧ (∀ (j : Nat) e, j < i → ds[j]? = some e → ownD (ws.map (·.1)) e = true) ∧ Av H g d ∧ ∀ H', Ext [] H H' → Q (.bl true) H'
/-- an order and what the law reckons beside it -/
structure Ow (O : Addr) (H : Hp) (S L o dx D Lt lo ls Db lt : Addr) (as : List Am) (t : List Pa) (th : List Am) (ws : List (Am × V)) : Prop where
  s : SrcAt H S L
  o : OrdAt O H o dx D Lt ws t th
  hw : ws.map (·.1) = as
  am : AmtAt H lo as
  pr : PrAt H ls t
  bl : BelowAt H Db as t
  tt : AmtAt H lt th
  nd : as.Nodup
  al : as.length ≤ 100
  wd : ∀ q ∈ as, q.1 = ("take" : Str) ∨ q.1 = ("leave" : Str)
  ok : ∀ q ∈ t, okS q.1.1 ∧ okS q.2.1
  hn : ∀ q ∈ th, q ∈ as
  tl : th.length ≤ 100
section
variable {O S L o dx D Lt lo ls Db lt : Addr} {H H' : Hp} {as : List Am} {t : List Pa} {th : List Am} {ws : List (Am × V)}
theorem Ow.draw (z : Ow O H S L o dx D Lt lo ls Db lt as t th ws) (e : Ext [S] H H') (s : SrcAt H' S L) : Ow O H' S L o dx D Lt lo ls Db lt as t th ws :=
  ⟨s, z.o.extS z.s e, z.hw, z.am.ext e (by simpa using z.am.ne_src z.s), z.pr.ext e (by simpa using z.pr.ne_src z.s), z.bl.extS z.s e, z.tt.ext e (by simpa using z.tt.ne_src z.s), z.nd, z.al, z.wd, z.ok, z.hn, z.tl⟩
theorem Ow.ext (z : Ow O H S L o dx D Lt lo ls Db lt as t th ws) (e : Ext [] H H') : Ow O H' S L o dx D Lt lo ls Db lt as t th ws := z.draw e.nil (z.s.ext e)
end
/-- _law_leads(source, order, amounts, below, steps) -/
def spLeadsO (O : Addr) : Sp := fun vs H Q _ => ∃ S L o dx D Lt lo ls Db lt as t th ws, vs = [.ref S, .ref o, .ref lo, .ref Db, .ref ls] ∧ Ow O H S L o dx D Lt lo ls Db lt as t th ws ∧ ∀ H', Ext [S] H H' → SrcAt H' S L → Q (.bl true) H'
def rcSc : Stmt → Scope
  | .Return (some (.ListComp _ _ sc _)) _ => sc
  | s => defScope s
end Tp
namespace Tp
open PySem PySem.Spec PyProof.Rows L2 He
theorem cut_first {v : V} {vs : List V} : cutV (v :: vs) none (some 1) = [v] := by
  unfold cutV
  rw [HT.sIx_none, show HT.sIx (v :: vs).length (v :: vs).length (some (1 : Int)) = 1 from by
    show HT.sIx (v :: vs).length (v :: vs).length (some ((1 : Nat) : Int)) = 1
    rw [HT.sIx_nat, List.length_cons]
    omega]
  rfl
theorem cut_last {v : V} {vs : List V} : cutV (vs ++ [v]) (some (-1)) none = [v] := by
  unfold cutV
  have h : HT.sIx (vs ++ [v]).length 0 (some (-1 : Int)) = vs.length := by
    show (if (-1 : Int) < 0 then ((-1 : Int) + ((vs ++ [v]).length : Int)).toNat else min (-1 : Int).toNat (vs ++ [v]).length) = vs.length
    rw [if_pos (by decide), List.length_append]
    show ((-1 : Int) + ((vs.length + 1 : Nat) : Int)).toNat = vs.length
    omega
  rw [h, HT.sIx_none, List.drop_append_of_le_length (Nat.le_refl _), List.drop_length, List.length_append]
  show List.take (vs.length + 1 - vs.length) [v] = [v]
  rw [show vs.length + 1 - vs.length = 1 by omega]
  rfl
/-- a list of one amount, compared with the like -/
theorem ne_one1 {K : PySem.W.Frag} {H : Hp} {a b r u : Addr} {x : Am} {Q : VK} (hx : okS x.1) (ha : H a = some (.lst [.ref r])) (hr : isAmt H r x) (hb : H b = some (.lst [.ref u])) (hu : isAmt H u x) (q : Q (.bl false) H) : rNeD K (.ref a) (.ref b) H Q := by
  have sh : SeqAt.shaped (.list [dAmt x]) = true := sh_amts (xs := [x]) (fun q hq => by rw [List.mem_singleton.mp hq]; exact hx)
  refine ⟨.list [dAmt x], .list [dAmt x], .lst (SqL.of ha) (ImAll.cons hr.im .nil).dp, .lst (SqL.of hb) (ImAll.cons hu.im .nil).dp, sh, sh, ?_⟩
  rw [eqv_self sh]
  exact q
end Tp
namespace Tp
open PySem PySem.Spec PyProof.Rows L2 He
theorem takes_len {k c d : List (Str × Str)} : ∀ n, ((amtD k c d n).filter fun q => decide (q.1 = ("take" : Str))).length = n
  | 0 => rfl
  | n + 1 => by
    show (((amtD k c d n ++ [(("take" : Str), n)]) ++ (if leaveD k c d n = true then [(("leave" : Str), n)] else [])).filter fun q => decide (q.1 = ("take" : Str))).length = n + 1
    have h1 : ([(("take" : Str), n)].filter fun q => decide (q.1 = ("take" : Str))) = [(("take" : Str), n)] := by
      rw [List.filter_cons_of_pos (by simp), List.filter_nil]
    have h2 : ((if leaveD k c d n = true then [(("leave" : Str), n)] else []).filter fun q => decide (q.1 = ("take" : Str))) = [] := by
      split
      · rw [List.filter_cons_of_neg, List.filter_nil]
        have : ("leave" : Str) ≠ "take" := by decide +kernel
        simpa using this
      · rfl
    rw [List.filter_append, List.filter_append, h1, h2, List.append_nil, List.length_append, takes_len n]
    rfl
/-- how many are taken, and which are none -/
structure Mny (as : List Am) (n : Nat) : Prop where
  tk : (as.filter fun q => decide (q.1 = ("take" : Str))).length = n
  lt : ∀ q ∈ as, q.2 < n
  le : n ≤ 50
  l0 : (("leave" : Str), 0) ∉ as
theorem mny_amt {k c d : List (Str × Str)} (hd : d.length ≤ 50) : Mny (amtD k c d d.length) d.length :=
  ⟨takes_len _, fun q hq => amtD_lt _ q hq, hd, fun h => by
    have hl := amtD_lt _ _ h
    have h1 : leaveD k c d 0 = true := (leave_mem d.length hl).mp h
    rw [leave_none] at h1
    cases h1⟩
/-- _law_above(source, order, amounts, below) -/
def spAboveO (O : Addr) : Sp := fun vs H Q _ => ∃ S L o dx D Lt lo ls Db lt as t th ws, vs = [.ref S, .ref o, .ref lo, .ref Db] ∧ Ow O H S L o dx D Lt lo ls Db lt as t th ws ∧ (∃ n, Mny as n) ∧ ∀ H', Ext [S] H H' → SrcAt H' S L → Q (.bl true) H'
end Tp
namespace Tp
open PySem PySem.Spec PyProof.Rows L2 He
theorem mid_at {α : Type} {xs ys zs : List α} {x : α} : (((xs ++ [x]) ++ ys) ++ zs)[xs.length]? = some x := by
  rw [List.append_assoc, List.append_assoc, List.getElem?_append_right (Nat.le_refl _), Nat.sub_self]
  rfl
end Tp
/-! Rw: orders kept beside a book that grows -/
namespace Tp
open PySem PySem.Spec PyProof.Rows L2 He
theorem prevD_app {d : List (Str × Str)} {q : Str × Str} {x : Str} : ∀ n, n ≤ d.length → prevD (d ++ [q]) x n = prevD d x n
  | 0, _ => rfl
  | n + 1, h => by
    show (if ((d ++ [q])[n]?.map (·.1)) = some x then some n else prevD (d ++ [q]) x n) = (if (d[n]?.map (·.1)) = some x then some n else prevD d x n)
    rw [prevD_app n (by omega), List.getElem?_append_left (by omega)]
theorem leaveD_app {k c d : List (Str × Str)} {q : Str × Str} {i : Nat} (hi : i < d.length) : leaveD k c (d ++ [q]) i = leaveD k c d i := by
  unfold leaveD
  rw [List.getElem?_append_left hi]
  cases d[i]? with
  | none => rfl
  | some r =>
    dsimp only
    rw [prevD_app i (by omega)]
    cases hp : prevD d r.1 i with
    | none => rfl
    | some j =>
      have := (prevD_lt hp).1
      dsimp only
      rw [List.getElem?_append_left (by omega)]
theorem amtD_app {k c d : List (Str × Str)} {q : Str × Str} : ∀ n, n ≤ d.length → amtD k c (d ++ [q]) n = amtD k c d n
  | 0, _ => rfl
  | n + 1, h => by
    show (amtD k c (d ++ [q]) n ++ [(("take" : Str), n)]) ++ (if leaveD k c (d ++ [q]) n = true then [(("leave" : Str), n)] else []) = (amtD k c d n ++ [(("take" : Str), n)]) ++ (if leaveD k c d n = true then [(("leave" : Str), n)] else [])
    rw [amtD_app n (by omega), leaveD_app (by omega)]
theorem amtD_more {k c d : List (Str × Str)} {q : Str × Str} : ∀ x ∈ amtD k c d d.length, x ∈ amtD k c (d ++ [q]) (d ++ [q]).length := by
  intro x hx
  rw [List.length_append]
  show x ∈ (amtD k c (d ++ [q]) d.length ++ [(("take" : Str), d.length)]) ++ _
  rw [amtD_app d.length (Nat.le_refl _)]
  exact List.mem_append_left _ (List.mem_append_left _ hx)
theorem inA.more {xs ys : List Am} {f : Fk} (h : inA xs f) (hs : ∀ x ∈ xs, x ∈ ys) : inA ys f := by
  cases f with
  | tell x y => exact ⟨hs _ h.1, hs _ h.2⟩
  | some x => exact hs _ h
theorem thereD_in {k c d : List (Str × Str)} {fs : List Fk} : ∀ x ∈ thereD k c d fs, x ∈ amtD k c d d.length := fun x hx => (List.mem_filter.mp hx).1
/-- neither a dict of amounts nor a list that begins with one -/
structure OffA (H : Hp) (x : Addr) : Prop where
  d : ∀ kvs, H x ≠ some (.dT kvs)
  l : ∀ u us q, H x = some (.lst (.ref u :: us)) → ¬ isAmt H u q
section
variable {O S L o dx D Lt lo ls Db lt : Addr} {H H' : Hp} {as : List Am} {t : List Pa} {th : List Am} {ws : List (Am × V)} {ms : List Addr}
theorem Ow.keep (z : Ow O H S L o dx D Lt lo ls Db lt as t th ws) (e : Ext ms H H') (s : SrcAt H' S L) (ho : ∀ x ∈ ms, OffA H x) (hn : ∀ x ∈ ms, x ≠ o ∧ x ≠ Lt ∧ x ≠ lo ∧ x ≠ ls ∧ x ≠ lt) : Ow O H' S L o dx D Lt lo ls Db lt as t th ws := by
  have nd : ∀ {x : Addr} {kvs : List (List Key × V)}, H x = some (.dT kvs) → x ∉ ms := fun h hm => (ho _ hm).d _ h
  have no : o ∉ ms := fun h => (hn o h).1 rfl
  have nt : Lt ∉ ms := fun h => (hn _ h).2.1 rfl
  have n1 : lo ∉ ms := fun h => (hn _ h).2.2.1 rfl
  have n2 : ls ∉ ms := fun h => (hn _ h).2.2.2.1 rfl
  have n3 : lt ∉ ms := fun h => (hn _ h).2.2.2.2 rfl
  refine ⟨s, ⟨e.keep _ _ z.o.ob no, e.keep _ _ z.o.dt (nd z.o.dt), z.o.nd, fun q hq => ?_, z.o.tl.ext e nt, z.o.tn, z.o.wd, z.o.cl⟩, z.hw, z.am.ext e n1, z.pr.ext e n2, ?_, z.tt.ext e n3, z.nd, z.al, z.wd, z.ok, z.hn, z.tl⟩
  · obtain ⟨B, h1, h2⟩ := z.o.wk q hq
    obtain ⟨bs, hb, _⟩ := id h2
    exact ⟨B, h1, h2.ext e (nd hb)⟩
  · obtain ⟨vs, h1, h2, h3⟩ := z.bl
    refine ⟨vs, e.keep _ _ h1 (nd h1), h2, fun q hq => ?_⟩
    obtain ⟨l, rs, a1, a2, a3, a4, a5, a6⟩ := h3 q hq
    refine ⟨l, rs, a1, a2, a3.ext e (fun hm => ?_), a4, a5, a6⟩
    obtain ⟨us, hus, hp⟩ := a3
    have hr : q.1 ∈ rs := (a6 _).mpr (.refl _)
    cases hp with
    | nil => cases hr
    | cons r p => exact (ho _ hm).l _ _ _ hus r
end
/-- one row: an order and what was reckoned beside it; fx may change -/
def Rw (O : Addr) (H : Hp) (S L R : Addr) (fx : List Addr) : Prop := ∃ o dx D Lt lo ls Db lt as t th ws n, H R = some (.lst [.ref o, .ref lo, .ref Db, .ref lt, .ref ls]) ∧ Ow O H S L o dx D Lt lo ls Db lt as t th ws ∧ Mny as n ∧ ∀ x ∈ fx, x ≠ R ∧ x ≠ o ∧ x ≠ Lt ∧ x ≠ lo ∧ x ≠ ls ∧ x ≠ lt
section
variable {O S L R : Addr} {H H' : Hp} {fx : List Addr}
theorem src_off (s : SrcAt H S L) : OffA H S := by
  obtain ⟨cells, i, k, g, h1, h2, _⟩ := s
  refine ⟨fun kvs h => (by rw [h1] at h; cases h), fun u us q h hu => ?_⟩
  rw [h1] at h
  injection h with h
  injection h with h
  injection h with h _
  injection h with h
  subst h
  have hu : H L = some (.tup _) := hu
  rw [h2] at hu
  cases hu
theorem Rw.keep (r : Rw O H S L R fx) (e : Ext (S :: fx) H H') (s : SrcAt H' S L) (hf : ∀ x ∈ fx, OffA H x) : Rw O H' S L R fx := by
  obtain ⟨o, dx, D, Lt, lo, ls, Db, lt, as, t, th, ws, n, hR, z, my, hn⟩ := r
  have RS : R ≠ S := src_refs z.s hR fun v hv => by
    simp only [List.mem_cons, List.not_mem_nil, or_false] at hv
    rcases hv with rfl | rfl | rfl | rfl | rfl <;> exact ⟨_, rfl⟩
  have oS : o ≠ S := fun h => by
    obtain ⟨cells, i, k, g, h1, _⟩ := z.s
    have := z.o.ob
    rw [h, h1] at this
    cases this
  refine ⟨o, dx, D, Lt, lo, ls, Db, lt, as, t, th, ws, n, e.keep _ _ hR ?_, z.keep e s (fun x hx => ?_) (fun x hx => ?_), my, hn⟩
  · intro hm
    rcases List.mem_cons.mp hm with h | h
    · exact RS h
    · exact (hn _ h).1 rfl
  · rcases List.mem_cons.mp hx with h | h
    · rw [h]; exact src_off z.s
    · exact hf x h
  · rcases List.mem_cons.mp hx with h | h
    · rw [h]
      exact ⟨Ne.symm oS, Ne.symm (z.o.tl.ne_src z.s), Ne.symm (z.am.ne_src z.s), Ne.symm (z.pr.ne_src z.s), Ne.symm (z.tt.ne_src z.s)⟩
    · exact (hn x h).2
theorem Rw.draw (r : Rw O H S L R []) (e : Ext [S] H H') (s : SrcAt H' S L) : Rw O H' S L R [] := r.keep e s fun x h => nomatch h
theorem Rw.grow (r : Rw O H S L R []) (s0 : SrcAt H S L) (e : Ext [] H H') : Rw O H' S L R [] := r.draw e.nil (s0.ext e)
theorem Rw.rest (r : Rw O H S L R fx) : Rw O H S L R [] := by
  obtain ⟨o, dx, D, Lt, lo, ls, Db, lt, as, t, th, ws, n, hR, z, my, hn⟩ := r
  exact ⟨o, dx, D, Lt, lo, ls, Db, lt, as, t, th, ws, n, hR, z, my, fun x h => nomatch h⟩
/-- lists of texts' pairs, of facts, an object -/
theorem OffA.ins {C dx : Addr} {fs : List (Str × V)} {x : Addr} (h : H x = some (.ins C dx fs)) : OffA H x := ⟨fun kvs z => (by rw [h] at z; cases z), fun u us q z => (by rw [h] at z; cases z)⟩
theorem OffA.pt {x : Addr} {vs : List V} {d : List (Str × Str)} (h : H x = some (.lst vs)) (p : PT H vs d) : OffA H x := by
  refine ⟨fun kvs z => (by rw [h] at z; cases z), fun u us q z hu => ?_⟩
  rw [h] at z
  cases z
  obtain ⟨as, h1, hp⟩ := p
  cases hp with
  | nil => cases h1
  | cons r _ =>
    cases h1
    have hu : H _ = some (.tup [.str q.1, .int (q.2 : Int)]) := hu
    rw [r] at hu
    injection hu with hu
    injection hu with hu
    injection hu with _ hu
    injection hu with hu _
    cases hu
theorem OffA.fl {x : Addr} {vs : List V} {fs : List Fk} (h : H x = some (.lst vs)) (p : FL H vs fs) : OffA H x := by
  refine ⟨fun kvs z => (by rw [h] at z; cases z), fun u us q z hu => ?_⟩
  rw [h] at z
  cases z
  obtain ⟨v, f, h1, h2, h3⟩ := p.get (i := 0) (v := .ref u) rfl
  cases h1
  have hu : H _ = some (.tup [.str q.1, .int (q.2 : Int)]) := hu
  cases f with
  | some y =>
    obtain ⟨b, g1, _⟩ := h3
    rw [g1] at hu
    injection hu with hu
    injection hu with hu
    injection hu with _ hu
    injection hu with hu _
    cases hu
  | tell y w =>
    obtain ⟨b, b', g1, _⟩ := h3
    rw [g1] at hu
    injection hu with hu
    injection hu with hu
    injection hu with _ hu
    injection hu with hu _
    cases hu
end
end Tp
namespace Tp
open PySem PySem.Spec PyProof.Rows L2 He
section
variable {C : Addr} {H H' : Hp} {S L b y : Addr} {a : Mad} {A : Bk} {k t : List (Str × Str)} {p : List Str} {c d kb tb : List (Str × Str)} {pb : List Str} {cb db : List (Str × Str)} {fs fb : List Fk} {ts ds us ms : List V}
/-- something else changes -/
theorem Lx.side (j : Lx C H S L b a A k t p c d kb tb pb cb db fs fb ts ds us ms) (h1 : ∀ z ∈ A.all b, z ≠ y) (h2 : ∀ z ∈ a.all, z ≠ y) (hS : y ≠ S) (hL : y ≠ L) (x : Ext [y] H H') : Lx C H' S L b a A k t p c d kb tb pb cb db fs fb ts ds us ms :=
  ⟨j.s.keepM x (by simpa using Ne.symm hS) (by simpa using Ne.symm hL), j.M.ext x fun z hz => by simpa using h2 z hz, j.W.ext x, j.B.extM x fun z hz => by simpa using h1 z hz, j.f, j.g⟩
theorem OffA.row {x : Addr} {d : List (Str × Str)} (r : RowAt H x d) : OffA H x := by
  obtain ⟨as, h, hp⟩ := r
  exact OffA.pt h ⟨as, rfl, hp⟩
theorem Lx.offs (j : Lx C H S L b a A k t p c d kb tb pb cb db fs fb ts ds us ms) (hy : OffA H y) : ∀ x ∈ [b, A.lf, A.lt, a.m1, a.m4, a.m5, y], OffA H x := by
  intro x hx
  simp only [List.mem_cons, List.not_mem_nil, or_false] at hx
  rcases hx with rfl | rfl | rfl | rfl | rfl | rfl | rfl
  · exact .ins j.B.B.ob
  · exact .fl j.B.B.lf j.B.F
  · exact .pt j.B.B.lt j.B.T
  · exact .row j.M.r1
  · exact .row j.M.r4
  · exact .fl j.M.r5 j.W
  · exact hy
/-- a list of lists -/
theorem OffA.lists {rs : List Addr} (h : H y = some (.lst (rs.map V.ref))) (hr : ∀ R ∈ rs, ∃ vs, H R = some (.lst vs)) : OffA H y := by
  refine ⟨fun kvs z => (by rw [h] at z; cases z), fun u us q z hu => ?_⟩
  rw [h] at z
  cases rs with
  | nil => cases z
  | cons R rs =>
    cases z
    obtain ⟨vs, hv⟩ := hr u (by simp)
    have hu : H u = some (.tup _) := hu
    rw [hv] at hu
    cases hu
theorem Rw.lst {O R : Addr} {fx : List Addr} (r : Rw O H S L R fx) : ∃ vs, H R = some (.lst vs) := let ⟨_, _, _, _, _, _, _, _, _, _, _, _, _, h, _⟩ := r; ⟨_, h⟩
end
end Tp
namespace Tp
open PySem PySem.Spec PyProof.Rows L2 He
theorem Lx.some {C : Addr} {H : Hp} {S L b y : Addr} {a : Mad} {A : Bk} {k t : List (Str × Str)} {p : List Str} {c d kb tb : List (Str × Str)} {pb : List Str} {cb db : List (Str × Str)} {fs fb : List Fk} {ts ds us ms : List V} (j : Lx C H S L b a A k t p c d kb tb pb cb db fs fb ts ds us ms) (hy : ∃ v, H y = .some v) : ∀ x ∈ [b, A.lf, A.lt, a.m1, a.m4, a.m5, y], ∃ v, H x = .some v := by
  intro x hx
  simp only [List.mem_cons, List.not_mem_nil, or_false] at hx
  rcases hx with rfl | rfl | rfl | rfl | rfl | rfl | rfl
  · exact ⟨_, j.B.B.ob⟩
  · exact ⟨_, j.B.B.lf⟩
  · exact ⟨_, j.B.B.lt⟩
  · exact let ⟨_, h, _⟩ := j.M.r1; ⟨_, h⟩
  · exact let ⟨_, h, _⟩ := j.M.r4; ⟨_, h⟩
  · exact ⟨_, j.M.r5⟩
  · exact hy
end Tp
namespace Tp
open PySem PySem.Spec PyProof.Rows L2 He
theorem BookAt.some {C : Addr} {H : Hp} {p : Addr} {b : Int} {A : Bk} {ks cs : List (Str × V)} {ts ds fs : List V} {ps : List Str} (B : BookAt C H p b A ks ts ps cs ds fs) : ∀ a ∈ A.all p, ∃ v, H a = .some v := by
  intro a ha
  simp only [Bk.all, List.mem_cons, List.not_mem_nil, or_false] at ha
  rcases ha with rfl | rfl | rfl | rfl | rfl | rfl | rfl
  · exact ⟨_, B.ob⟩
  · exact ⟨_, B.dk⟩
  · exact ⟨_, B.lt⟩
  · exact ⟨_, B.lp⟩
  · exact ⟨_, B.dc⟩
  · exact ⟨_, B.ld⟩
  · exact ⟨_, B.lf⟩
end Tp
/-! Hb: Bool checks of a head for own error classes, class constants -/
namespace Tp
open PySem PySem.Spec PyProof.Rows L2 He ClX
def oexB (K : PySem.W.Frag) (C : Addr) : Bool := match K.lookup C with
  | some ⟨.type "type", _, .cls cd, sl⟩ => (match cd.mro, sl.toList with
    | .ref C' :: bm, [_, _, _, _, some (.builtin n), _] => C' == C && n == "ValueError.__new__" && !cd.hasDel && cd.hasDict && PySem.HandSPX.refsVE bm
    | _, _ => false)
  | _ => false
theorem oexB_ok {K : PySem.W.Frag} {C : Addr} (q : oexB K C = true) : ∃ nm q N bs bm sn sub ab col dd k0 k1 k2 k3 k5, K.lookup C = some (excClassObj nm q C N bs bm true sn sub ab col dd k0 k1 k2 k3 k5 "ValueError.__new__") ∧ PySem.HandSPX.refsVE bm = true := by
  unfold oexB at q
  split at q
  · rename_i dd cd sl ho
    split at q
    · rename_i C' bm k0 k1 k2 k3 n k5 hm hs
      simp only [Bool.and_eq_true, beq_iff_eq, Bool.not_eq_true'] at q
      obtain ⟨⟨⟨⟨rfl, rfl⟩, hdel⟩, hdict⟩, ht⟩ := q
      obtain ⟨nm, bs, mro, ns, qn, hd, sn, sub, ab, col, del⟩ := cd
      dsimp only at hm hdel hdict
      subst hm hdel hdict
      have hsl : sl = #[k0, k1, k2, k3, some (.builtin "ValueError.__new__"), k5] := by
        obtain ⟨l⟩ := sl
        simp only at hs
        rw [hs]
      subst hsl
      exact ⟨nm, qn, ns, bs, bm, sn, sub, ab, col, dd, k0, k1, k2, k3, k5, ho, ht⟩
    · cases q
  · cases q
def excCB (K : PySem.W.Frag) (D : Addr) : Bool := eqO (PySem.W.findIn K (.ref D) "__getattribute__") (some (some (.builtin "BaseException.__getattribute__"))) && (eqO (PySem.W.findIn K (.ref D) "__getattr__") (some none) && (decide (PySem.W.subIn K (.ref D) (.type "BaseException") = some true) && (PySem.W.hasDictIn K D &&
  (eqO (PySem.W.findIn K (.ref D) "__class__") (some (some (.builtin "object.__class__"))) && (eqO (PySem.W.specialIn K (.builtin "object.__class__") "__get__") (some (some (.builtin "getset_descriptor.__get__"))) && (decide (PySem.W.takesIn K (.builtin "object.__class__") = some true) && decide (PySem.W.mroIn K D (.type "object") = some true)))))))
theorem excCB_ok {K : PySem.W.Frag} {D : Addr} (h : excCB K D = true) : ExcC K D := by
  obtain ⟨h1, h⟩ := ba h
  obtain ⟨h2, h⟩ := ba h
  obtain ⟨h3, h⟩ := ba h
  obtain ⟨h4, h⟩ := ba h
  obtain ⟨h5, h⟩ := ba h
  obtain ⟨h6, h⟩ := ba h
  obtain ⟨h7, h8⟩ := ba h
  exact ⟨eqO_ok h1, eqO_ok h2, of_decide_eq_true h3, h4, eqO_ok h5, eqO_ok h6, of_decide_eq_true h7, of_decide_eq_true h8⟩
/-- an own error class over the class named y, whose __init__ sets the field -/
def exBB (K : PySem.W.Frag) (y x : Str) : Bool := oexB K (ga K x) && (eqO (PySem.W.findIn K (.ref (ga K x)) "__setattr__") (some (some (.builtin "object.__setattr__"))) && (decide (PySem.W.subIn K (.ref (ga K x)) (.type "BaseException") = some true) && (decide (PySem.W.typeIn K (.ref (ga K x)) = some (.type "type")) &&
  (PySem.W.keepIn K (.ref (ga K x)) && (eqO (PySem.W.findIn K (.ref (ga K x)) "__init__") (some (some (.ref (ma K (ga K y) "__init__")))) && (decide (PySem.W.typeIn K (.ref (ma K (ga K y) "__init__")) = some (.type "function")) && (eqO (PySem.W.findIn K (.ref (ga K x)) "thing") (some none) && (xfB K (ga K x) && excCB K (ga K x)))))))))
theorem exBB_ok {K : PySem.W.Frag} {y x : Str} (h : exBB K y x = true) : ExB K (ga K x) (ma K (ga K y) "__init__") := by
  obtain ⟨h1, h⟩ := ba h
  obtain ⟨h2, h⟩ := ba h
  obtain ⟨h3, h⟩ := ba h
  obtain ⟨h4, h⟩ := ba h
  obtain ⟨h5, h⟩ := ba h
  obtain ⟨h6, h⟩ := ba h
  obtain ⟨h7, h⟩ := ba h
  obtain ⟨h8, h⟩ := ba h
  obtain ⟨h9, h10⟩ := ba h
  exact ⟨⟨oexB_ok h1, eqO_ok h2, of_decide_eq_true h3, of_decide_eq_true h4, h5⟩, eqO_ok h6, of_decide_eq_true h7, eqO_ok h8, xfB_ok h9, excCB_ok h10⟩
/-- a class is read, its constant -/
def creadB (K : PySem.W.Frag) (C : Addr) (mc : Value) : Bool := PySem.W.readsIn K C mc && eqO (PySem.W.specialIn K (.ref C) "__getattribute__") (some (some (.builtin "type.__getattribute__")))
theorem creadB_ok {K : PySem.W.Frag} {C : Addr} {mc : Value} (h : creadB K C mc = true) : CRead K C mc := by
  obtain ⟨h1, h2⟩ := ba h
  exact ⟨h1, eqO_ok h2⟩
def cvalB (K : PySem.W.Frag) (C : Addr) (mc : Value) (f : Str) (v : V) : Bool := match PySem.W.findCls K (.ref C) mc f with
  | some (.val u) => relB v u
  | _ => false
theorem cvalB_ok {K : PySem.W.Frag} {C : Addr} {mc : Value} {f : Str} {v : V} (h : cvalB K C mc f v = true) : ∃ u, CVal K C mc f v u := by
  unfold cvalB at h
  split at h
  · rename_i u e
    exact ⟨u, e, relB_ok h⟩
  · cases h
/-! ### the hook: facts, defs, an own Bool; the statics' table beside -/
def asZ (g : Addr → Option Obj) (n : Nat) : List Addr := asD g n ++ [cStatics]
abbrev AlZ : Type := AlD × Bool
end Tp
/-! Hc: a hook that also reads defs at addresses of one's own (a property's getter, its setter) -/
namespace Tp
open PySem PySem.Spec PyProof.Rows L2 He ClX
def pgetA (x f : Str) (K : PySem.W.Frag) : Addr := match PySem.W.recIn K (ma K (ga K x) f) "property" with
  | some (.ref g :: _) => g
  | _ => 0
def psetA (x f : Str) (K : PySem.W.Frag) : Addr := match PySem.W.recIn K (ma K (ga K x) f) "property" with
  | some (_ :: .ref g :: _) => g
  | _ => 0
def fnWa (K : PySem.W.Frag) (a : Addr) : FnW := match K.lookup a with
  | some ⟨_, _, .func fd, _⟩ => some (fd.name, fd.qualname, fd.params, fd.body, fd.scope, fd.globals, fd.closure, fd.builtins)
  | _ => none
def okA (K : PySem.W.Frag) (a : Addr) (d : DefD) : Bool := PySem.W.keepIn K (.ref a) && (match K.lookup a with
  | some ⟨_, _, .func fd, _⟩ => PySem.W.codeIn K fd.code d.qual && (dflB K fd.defaults (d.dvs K) && kwdB K fd.kwdefaults (d.kws K))
  | _ => false)
theorem okA_funD {K : PySem.W.Frag} {a : Addr} {d : DefD} (e : fnWa K a = d.val) (c : okA K a d = true) : ∃ fd, FunD K d.name d.qual d.params d.body d.scope (d.dvs K) (d.kws K) a fd := by
  obtain ⟨kp, c2⟩ := ba c
  unfold fnWa at e
  cases q : K.lookup a with
  | none =>
    rw [q] at c2
    cases c2
  | some o =>
    obtain ⟨oc, od, dt, osl⟩ := o
    rw [q] at c2 e
    cases dt with
    | func fd =>
      obtain ⟨n1, n2, n3, n4, n5, n6, n7, n8, n9, n10, n11, n12, n13, n14, n15⟩ := fd
      have e2 : (some (n1, n2, n3, n4, n5, n6, n7, n15) : FnW) = some (d.name, d.qual, d.params, .stmts d.body, d.scope, mainGlobals, [], builtinsNs) := e
      simp only [Option.some.injEq, Prod.mk.injEq] at e2
      obtain ⟨h1, h2, h3, h4, h5, h6, h7, h8⟩ := e2
      subst h1 h2 h3 h4 h5 h6 h7 h8
      have c3 : (PySem.W.codeIn K n13 d.qual && (dflB K n8 (d.dvs K) && kwdB K n9 (d.kws K))) = true := c2
      obtain ⟨k1, k2⟩ := ba c3
      obtain ⟨k3, k4⟩ := ba k2
      exact ⟨_, ⟨oc, od, n8, n9, n10, n11, n12, n13, n14, osl, rfl, q, k1, dflB_ok k3, kwdB_ok k4⟩, kp⟩
    | _ => cases c2
def psetB (x f : Str) (K : PySem.W.Frag) : Bool := eqO (PySem.W.takerIn K (ga K x) f) (some (some (.ref (ma K (ga K x) f)))) && (decide (PySem.W.typeIn K (.ref (ma K (ga K x) f)) = some (.type "property")) && (match PySem.W.recIn K (ma K (ga K x) f) "property" with
  | some (_ :: .ref _ :: _) => true
  | _ => false))
theorem psetB_ok {x f : Str} {K : PySem.W.Frag} (h : psetB x f K = true) : PropSet K (ga K x) f (ma K (ga K x) f) (psetA x f K) := by
  obtain ⟨h1, h⟩ := ba h
  obtain ⟨h2, h3⟩ := ba h
  refine ⟨eqO_ok h1, of_decide_eq_true h2, ?_⟩
  unfold psetA
  split at h3
  · rename_i a g r e
    rw [e]
    exact ⟨a, r, rfl⟩
  · cases h3
def pgetB (x f : Str) (K : PySem.W.Frag) : Bool := eqO (PySem.W.findIn K (.ref (ga K x)) f) (some (some (.ref (ma K (ga K x) f)))) && (eqO (PySem.W.specialIn K (.ref (ma K (ga K x) f)) "__get__") (some (some (.builtin "property.__get__"))) && (decide (PySem.W.takesIn K (.ref (ma K (ga K x) f)) = some true) && (match PySem.W.recIn K (ma K (ga K x) f) "property" with
  | some (.ref _ :: _) => true
  | _ => false)))
theorem pgetB_ok {x f : Str} {K : PySem.W.Frag} (h : pgetB x f K = true) : PropOf K (ga K x) f (ma K (ga K x) f) (pgetA x f K) := by
  obtain ⟨h1, h⟩ := ba h
  obtain ⟨h2, h⟩ := ba h
  obtain ⟨h3, h4⟩ := ba h
  refine ⟨eqO_ok h1, eqO_ok h2, of_decide_eq_true h3, ?_⟩
  unfold pgetA
  split at h4
  · rename_i g r e
    rw [e]
    exact ⟨r, rfl⟩
  · cases h4
abbrev FxL : Type := List ((PySem.W.Frag → Addr) × DefD)
abbrev AlY : Type := AlZ × List FnW
def fxO (fx : FxL) (K : PySem.W.Frag) : List FnW := fx.map fun p => fnWa K (p.1 K)
def fxV (fx : FxL) : List FnW := fx.map fun p => p.2.val
def obsK (fa : List Fa) (fn : List DefD) (fx : FxL) (ex : PySem.W.Frag → Bool) (K : PySem.W.Frag) : AlY := ((obsD fa fn K, ex K), fxO fx K)
def obsY (n : Nat) (fa : List Fa) (fn : List DefD) (fx : FxL) (ex : PySem.W.Frag → Bool) (g : Addr → Option Obj) : AlY := obsK fa fn fx ex (frG g (asZ g n))
def hookY (n : Nat) (fa : List Fa) (fn : List DefD) (fx : FxL) (ex : PySem.W.Frag → Bool) : PySem.W.Hook where
  α := AlY
  obs := fun s => obsY n fa fn fx ex s.heap.get?
  val := fun _ => ((valD fn, true), fxV fx)
  says := fun _ h => ∃ K : PySem.W.Frag, K.In h ∧ SaysD fa fn K ∧ ex K = true ∧ fxO fx K = fxV fx
  of := fun _ _ e => ⟨_, frG_in, congrArg (fun z : AlY => z.1.1) e, congrArg (fun z : AlY => z.1.2) e, congrArg (fun z : AlY => z.2) e⟩
  keeps := fun _ _ _ ⟨K, hK, c⟩ k => ⟨K, PySem.W.Frag.In.keeps hK k, c⟩
theorem obsY_eq {n : Nat} {fa : List Fa} {fn : List DefD} {fx : FxL} {ex : PySem.W.Frag → Bool} {g : Addr → Option Obj} {s : Shared} (h : ∀ a, g a = s.heap.get? a) : obsY n fa fn fx ex g = (hookY n fa fn fx ex).obs s := by
  have e : g = s.heap.get? := funext h
  rw [e] <;> rfl
theorem fx_at {fx : FxL} {K : PySem.W.Frag} (e : fxO fx K = fxV fx) {i : Nat} {p : (PySem.W.Frag → Addr) × DefD} (h : fx[i]? = some p) : fnWa K (p.1 K) = p.2.val := by
  have h1 : (fxO fx K)[i]? = (fxV fx)[i]? := by rw [e]
  unfold fxO fxV at h1
  rw [List.getElem?_map, List.getElem?_map, h] at h1
  exact Option.some.inj h1
end Tp
namespace K18
open PySem PySem.Spec PyProof.Rows L2 He Tp ClX LiI

def top (i : Nat) : Stmt := PySem.Challenge.pw_tiredpots_k18_whole_order.main.body.getD i (.Pass ⟨0, 0, 0, 0⟩)
abbrev s_DyeError___init__ : Stmt := inClass (top 2) 0
abbrev n_DyeError___init__ : List Str := ["self", "thing"]
theorem sc_DyeError___init__ : FnScope n_DyeError___init__ ["self", "thing"] (defScope s_DyeError___init__) := ⟨rfl, rfl, rfl, by decide +kernel, rfl, by decide +kernel, by decide +kernel⟩

abbrev s_is_whole : Stmt := top 12
abbrev n_is_whole : List Str := ["value"]
theorem sc_is_whole : FnScope n_is_whole ["value"] (defScope s_is_whole) := ⟨rfl, rfl, rfl, by decide +kernel, rfl, by decide +kernel, by decide +kernel⟩

abbrev s_is_amount : Stmt := top 13
abbrev n_is_amount : List Str := ["value"]
theorem sc_is_amount : FnScope n_is_amount ["value"] (defScope s_is_amount) := ⟨rfl, rfl, rfl, by decide +kernel, rfl, by decide +kernel, by decide +kernel⟩

abbrev s_check_between : Stmt := top 14
abbrev n_check_between : List Str := ["value", "least", "most"]
theorem sc_check_between : FnScope n_check_between ["value", "least", "most"] (defScope s_check_between) := ⟨rfl, rfl, rfl, by decide +kernel, rfl, by decide +kernel, by decide +kernel⟩

abbrev s_steps_of : Stmt := top 16
abbrev n_steps_of : List Str := ["couples", "steps", "first", "second"]
theorem sc_steps_of : FnScope n_steps_of ["couples"] (defScope s_steps_of) := ⟨rfl, rfl, rfl, by decide +kernel, rfl, by decide +kernel, by decide +kernel⟩

abbrev s_walk : Stmt := top 17
abbrev n_walk : List Str := ["starts", "steps", "before", "layer", "found", "here", "there", "start"]
theorem sc_walk : FnScope n_walk ["starts", "steps"] (defScope s_walk) := ⟨rfl, rfl, rfl, by decide +kernel, rfl, by decide +kernel, by decide +kernel⟩

abbrev s_path_to : Stmt := top 18
abbrev n_path_to : List Str := ["end", "before", "path"]
theorem sc_path_to : FnScope n_path_to ["end", "before"] (defScope s_path_to) := ⟨rfl, rfl, rfl, by decide +kernel, rfl, by decide +kernel, by decide +kernel⟩

abbrev s_pairs : Stmt := top 20
abbrev n_pairs : List Str := ["book", "dips", "own", "found", "number", "told", "fact"]
theorem sc_pairs : FnScope n_pairs ["book"] (defScope s_pairs) := ⟨rfl, rfl, rfl, by decide +kernel, rfl, by decide +kernel, by decide +kernel⟩

abbrev s__falls : Stmt := top 21
abbrev n__falls : List Str := ["book", "dips", "late", "cloth", "pot", "kind", "early"]
theorem sc__falls : FnScope n__falls ["book", "dips", "late"] (defScope s__falls) := ⟨rfl, rfl, rfl, by decide +kernel, rfl, by decide +kernel, by decide +kernel⟩

abbrev s_told_there : Stmt := top 22
abbrev n_told_there : List Str := ["book", "dips", "some", "fact", "amount"]
theorem sc_told_there : FnScope n_told_there ["book"] (defScope s_told_there) := ⟨rfl, rfl, rfl, by decide +kernel, rfl, by decide +kernel, by decide +kernel⟩

abbrev s__is_loose : Stmt := top 23
abbrev n__is_loose : List Str := ["book", "dips", "amount", "word", "number"]
theorem sc__is_loose : FnScope n__is_loose ["book", "dips", "amount"] (defScope s__is_loose) := ⟨rfl, rfl, rfl, by decide +kernel, rfl, by decide +kernel, by decide +kernel⟩

abbrev s_Order___init__ : Stmt := inClass (top 24) 0
abbrev n_Order___init__ : List Str := ["self", "book", "steps", "amount"]
theorem sc_Order___init__ : FnScope n_Order___init__ ["self", "book"] (defScope s_Order___init__) := ⟨rfl, rfl, rfl, by decide +kernel, rfl, by decide +kernel, by decide +kernel⟩

abbrev s_Order___contains__ : Stmt := inClass (top 24) 1
abbrev n_Order___contains__ : List Str := ["self", "couple", "more", "less"]
theorem sc_Order___contains__ : FnScope n_Order___contains__ ["self", "couple"] (defScope s_Order___contains__) := ⟨rfl, rfl, rfl, by decide +kernel, rfl, by decide +kernel, by decide +kernel⟩

abbrev s_Order_chain : Stmt := inClass (top 24) 2
abbrev n_Order_chain : List Str := ["self", "more", "less"]
theorem sc_Order_chain : FnScope n_Order_chain ["self", "more", "less"] (defScope s_Order_chain) := ⟨rfl, rfl, rfl, by decide +kernel, rfl, by decide +kernel, by decide +kernel⟩

abbrev s_Order_above : Stmt := inClass (top 24) 3
abbrev n_Order_above : List Str := ["self", "amounts", "amount", "more", "less"]
theorem sc_Order_above : FnScope n_Order_above ["self", "amounts"] (defScope s_Order_above) := ⟨rfl, rfl, rfl, by decide +kernel, rfl, by decide +kernel, by decide +kernel⟩

abbrev s_Order_there : Stmt := inClass (top 24) 4
abbrev n_Order_there : List Str := ["self"]
theorem sc_Order_there : FnScope n_Order_there ["self"] (defScope s_Order_there) := ⟨rfl, rfl, rfl, by decide +kernel, rfl, by decide +kernel, by decide +kernel⟩

abbrev s_Order__has : Stmt := inClass (top 24) 5
abbrev n_Order__has : List Str := ["self", "amount"]
theorem sc_Order__has : FnScope n_Order__has ["self", "amount"] (defScope s_Order__has) := ⟨rfl, rfl, rfl, by decide +kernel, rfl, by decide +kernel, by decide +kernel⟩

abbrev s_Order__check_own : Stmt := inClass (top 24) 6
abbrev n_Order__check_own : List Str := ["self", "amount"]
theorem sc_Order__check_own : FnScope n_Order__check_own ["self", "amount"] (defScope s_Order__check_own) := ⟨rfl, rfl, rfl, by decide +kernel, rfl, by decide +kernel, by decide +kernel⟩

abbrev s__is_name : Stmt := top 29
abbrev n__is_name : List Str := ["value", "letter"]
theorem sc__is_name : FnScope n__is_name ["value"] (defScope s__is_name) := ⟨rfl, rfl, rfl, by decide +kernel, rfl, by decide +kernel, by decide +kernel⟩

abbrev s__check_new : Stmt := top 30
abbrev n__check_new : List Str := ["name", "known"]
theorem sc__check_new : FnScope n__check_new ["name", "known"] (defScope s__check_new) := ⟨rfl, rfl, rfl, by decide +kernel, rfl, by decide +kernel, by decide +kernel⟩

abbrev s__check_known : Stmt := top 31
abbrev n__check_known : List Str := ["name", "known"]
theorem sc__check_known : FnScope n__check_known ["name", "known"] (defScope s__check_known) := ⟨rfl, rfl, rfl, by decide +kernel, rfl, by decide +kernel, by decide +kernel⟩

abbrev s__check_room : Stmt := top 32
abbrev n__check_room : List Str := ["things", "most"]
theorem sc__check_room : FnScope n__check_room ["things", "most"] (defScope s__check_room) := ⟨rfl, rfl, rfl, by decide +kernel, rfl, by decide +kernel, by decide +kernel⟩

abbrev s_Book_bound : Stmt := inClass (top 33) 5
abbrev s_Book_bound_set : Stmt := inClass (top 33) 6
abbrev s_Book___init__ : Stmt := inClass (top 33) 4
abbrev n_Book___init__ : List Str := ["self", "bound"]
theorem sc_Book___init__ : FnScope n_Book___init__ ["self", "bound"] (defScope s_Book___init__) := ⟨rfl, rfl, rfl, by decide +kernel, rfl, by decide +kernel, by decide +kernel⟩

abbrev s_Book_add_kind : Stmt := inClass (top 33) 8
abbrev n_Book_add_kind : List Str := ["self", "name", "hold"]
theorem sc_Book_add_kind : FnScope n_Book_add_kind ["self", "name", "hold"] (defScope s_Book_add_kind) := ⟨rfl, rfl, rfl, by decide +kernel, rfl, by decide +kernel, by decide +kernel⟩

abbrev s_Book_add_thirst : Stmt := inClass (top 33) 9
abbrev n_Book_add_thirst : List Str := ["self", "more", "less"]
theorem sc_Book_add_thirst : FnScope n_Book_add_thirst ["self", "more", "less"] (defScope s_Book_add_thirst) := ⟨rfl, rfl, rfl, by decide +kernel, rfl, by decide +kernel, by decide +kernel⟩

abbrev s_Book_add_pot : Stmt := inClass (top 33) 10
abbrev n_Book_add_pot : List Str := ["self", "name"]
theorem sc_Book_add_pot : FnScope n_Book_add_pot ["self", "name"] (defScope s_Book_add_pot) := ⟨rfl, rfl, rfl, by decide +kernel, rfl, by decide +kernel, by decide +kernel⟩

abbrev s_Book_add_cloth : Stmt := inClass (top 33) 11
abbrev n_Book_add_cloth : List Str := ["self", "name", "kind"]
theorem sc_Book_add_cloth : FnScope n_Book_add_cloth ["self", "name", "kind"] (defScope s_Book_add_cloth) := ⟨rfl, rfl, rfl, by decide +kernel, rfl, by decide +kernel, by decide +kernel⟩

abbrev s_Book_dip : Stmt := inClass (top 33) 12
abbrev n_Book_dip : List Str := ["self", "cloth", "pot"]
theorem sc_Book_dip : FnScope n_Book_dip ["self", "cloth", "pot"] (defScope s_Book_dip) := ⟨rfl, rfl, rfl, by decide +kernel, rfl, by decide +kernel, by decide +kernel⟩

abbrev s_Book_tell : Stmt := inClass (top 33) 13
abbrev n_Book_tell : List Str := ["self", "more", "less"]
theorem sc_Book_tell : FnScope n_Book_tell ["self", "more", "less"] (defScope s_Book_tell) := ⟨rfl, rfl, rfl, by decide +kernel, rfl, by decide +kernel, by decide +kernel⟩

abbrev s_Book_tell_some : Stmt := inClass (top 33) 14
abbrev n_Book_tell_some : List Str := ["self", "amount"]
theorem sc_Book_tell_some : FnScope n_Book_tell_some ["self", "amount"] (defScope s_Book_tell_some) := ⟨rfl, rfl, rfl, by decide +kernel, rfl, by decide +kernel, by decide +kernel⟩

abbrev s_Book_facts : Stmt := inClass (top 33) 19
abbrev n_Book_facts : List Str := ["self"]
theorem sc_Book_facts : FnScope n_Book_facts ["self"] (defScope s_Book_facts) := ⟨rfl, rfl, rfl, by decide +kernel, rfl, by decide +kernel, by decide +kernel⟩

abbrev s_Book___len__ : Stmt := inClass (top 33) 20
abbrev n_Book___len__ : List Str := ["self"]
theorem sc_Book___len__ : FnScope n_Book___len__ ["self"] (defScope s_Book___len__) := ⟨rfl, rfl, rfl, by decide +kernel, rfl, by decide +kernel, by decide +kernel⟩

abbrev s_Book___iter__ : Stmt := inClass (top 33) 21
abbrev n_Book___iter__ : List Str := ["self"]
theorem sc_Book___iter__ : FnScope n_Book___iter__ ["self"] (defScope s_Book___iter__) := ⟨rfl, rfl, rfl, by decide +kernel, rfl, by decide +kernel, by decide +kernel⟩

abbrev s_Book_kind_of : Stmt := inClass (top 33) 22
abbrev n_Book_kind_of : List Str := ["self", "cloth"]
theorem sc_Book_kind_of : FnScope n_Book_kind_of ["self", "cloth"] (defScope s_Book_kind_of) := ⟨rfl, rfl, rfl, by decide +kernel, rfl, by decide +kernel, by decide +kernel⟩

abbrev s_Book_hold_of : Stmt := inClass (top 33) 23
abbrev n_Book_hold_of : List Str := ["self", "kind"]
theorem sc_Book_hold_of : FnScope n_Book_hold_of ["self", "kind"] (defScope s_Book_hold_of) := ⟨rfl, rfl, rfl, by decide +kernel, rfl, by decide +kernel, by decide +kernel⟩

abbrev s_Book_thirstier : Stmt := inClass (top 33) 24
abbrev n_Book_thirstier : List Str := ["self", "first", "second"]
theorem sc_Book_thirstier : FnScope n_Book_thirstier ["self", "first", "second"] (defScope s_Book_thirstier) := ⟨rfl, rfl, rfl, by decide +kernel, rfl, by decide +kernel, by decide +kernel⟩

abbrev s_Book_previous : Stmt := inClass (top 33) 25
abbrev n_Book_previous : List Str := ["self", "number", "cloth", "_", "dip"]
theorem sc_Book_previous : FnScope n_Book_previous ["self", "number"] (defScope s_Book_previous) := ⟨rfl, rfl, rfl, by decide +kernel, rfl, by decide +kernel, by decide +kernel⟩

abbrev s_Book_amounts : Stmt := inClass (top 33) 26
abbrev n_Book_amounts : List Str := ["self", "found", "number"]
theorem sc_Book_amounts : FnScope n_Book_amounts ["self"] (defScope s_Book_amounts) := ⟨rfl, rfl, rfl, by decide +kernel, rfl, by decide +kernel, by decide +kernel⟩

abbrev s_Book__check_own : Stmt := inClass (top 33) 32
abbrev n_Book__check_own : List Str := ["self", "amount"]
theorem sc_Book__check_own : FnScope n_Book__check_own ["self", "amount"] (defScope s_Book__check_own) := ⟨rfl, rfl, rfl, by decide +kernel, rfl, by decide +kernel, by decide +kernel⟩

abbrev s_Book__has_leave : Stmt := inClass (top 33) 33
abbrev n_Book__has_leave : List Str := ["self", "number", "cloth", "pot", "previous"]
theorem sc_Book__has_leave : FnScope n_Book__has_leave ["self", "number"] (defScope s_Book__has_leave) := ⟨rfl, rfl, rfl, by decide +kernel, rfl, by decide +kernel, by decide +kernel⟩

abbrev s__law_is_whole : Stmt := top 35
abbrev n__law_is_whole : List Str := ["_law_value"]
theorem sc__law_is_whole : FnScope n__law_is_whole ["_law_value"] (defScope s__law_is_whole) := ⟨rfl, rfl, rfl, by decide +kernel, rfl, by decide +kernel, by decide +kernel⟩

abbrev s__law_source : Stmt := top 36
abbrev n__law_source : List Str := ["_law_script", "_law_cell"]
theorem sc__law_source : FnScope n__law_source ["_law_script"] (defScope s__law_source) := ⟨rfl, rfl, rfl, by decide +kernel, rfl, by decide +kernel, by decide +kernel⟩

abbrev s__law_draw : Stmt := top 37
abbrev n__law_draw : List Str := ["_law_source_here", "_law_many", "_law_cell", "_law_great", "_law_number", "_law_shift", "_law_mixed"]
theorem sc__law_draw : FnScope n__law_draw ["_law_source_here", "_law_many"] (defScope s__law_draw) := ⟨rfl, rfl, rfl, by decide +kernel, rfl, by decide +kernel, by decide +kernel⟩

abbrev s__law_word : Stmt := top 38
abbrev n__law_word : List Str := ["_law_number", "_law_letters", "_law_word_here", "_law_k"]
theorem sc__law_word : FnScope n__law_word ["_law_number"] (defScope s__law_word) := ⟨rfl, rfl, rfl, by decide +kernel, rfl, by decide +kernel, by decide +kernel⟩

abbrev s__law_name : Stmt := top 39
abbrev n__law_name : List Str := ["_law_source_here", "_law_k", "_law_size"]
theorem sc__law_name : FnScope n__law_name ["_law_source_here", "_law_k"] (defScope s__law_name) := ⟨rfl, rfl, rfl, by decide +kernel, rfl, by decide +kernel, by decide +kernel⟩

abbrev s__law_names : Stmt := top 40
abbrev n__law_names : List Str := ["_law_source_here", "_law_many", "_law_word_here", "_law_place", "_law_turn", "_law_k"]
theorem sc__law_names : FnScope n__law_names ["_law_source_here", "_law_many"] (defScope s__law_names) := ⟨rfl, rfl, rfl, by decide +kernel, rfl, by decide +kernel, by decide +kernel⟩

abbrev s__law_model : Stmt := top 41
abbrev n__law_model : List Str := ["_law_source_here", "_law_most", "_law_grips", "_law_many", "_law_model_here", "_law_name_here", "_law_k", "_law_first", "_law_garment"]
theorem sc__law_model : FnScope n__law_model ["_law_source_here", "_law_most"] (defScope s__law_model) := ⟨rfl, rfl, rfl, by decide +kernel, rfl, by decide +kernel, by decide +kernel⟩

abbrev s__law_facts : Stmt := top 42
abbrev n__law_facts : List Str := ["_law_source_here", "_law_model_here", "_law_amounts_here", "_law_k", "_law_first", "_law_second"]
theorem sc__law_facts : FnScope n__law_facts ["_law_source_here", "_law_model_here"] (defScope s__law_facts) := ⟨rfl, rfl, rfl, by decide +kernel, rfl, by decide +kernel, by decide +kernel⟩

abbrev s__law_sort : Stmt := top 43
abbrev n__law_sort : List Str := ["_law_model_here", "_law_garment", "_law_row"]
theorem sc__law_sort : FnScope n__law_sort ["_law_model_here", "_law_garment"] (defScope s__law_sort) := ⟨rfl, rfl, rfl, by decide +kernel, rfl, by decide +kernel, by decide +kernel⟩

abbrev s__law_grip : Stmt := top 44
abbrev n__law_grip : List Str := ["_law_model_here", "_law_garment", "_law_sort_here", "_law_row"]
theorem sc__law_grip : FnScope n__law_grip ["_law_model_here", "_law_garment"] (defScope s__law_grip) := ⟨rfl, rfl, rfl, by decide +kernel, rfl, by decide +kernel, by decide +kernel⟩

abbrev s__law_before : Stmt := top 45
abbrev n__law_before : List Str := ["_law_model_here", "_law_i", "_law_k"]
theorem sc__law_before : FnScope n__law_before ["_law_model_here", "_law_i"] (defScope s__law_before) := ⟨rfl, rfl, rfl, by decide +kernel, rfl, by decide +kernel, by decide +kernel⟩

abbrev s__law_leaves : Stmt := top 46
abbrev n__law_leaves : List Str := ["_law_model_here", "_law_i", "_law_k"]
theorem sc__law_leaves : FnScope n__law_leaves ["_law_model_here", "_law_i"] (defScope s__law_leaves) := ⟨rfl, rfl, rfl, by decide +kernel, rfl, by decide +kernel, by decide +kernel⟩

abbrev s__law_amounts : Stmt := top 47
abbrev n__law_amounts : List Str := ["_law_model_here", "_law_found", "_law_i"]
theorem sc__law_amounts : FnScope n__law_amounts ["_law_model_here"] (defScope s__law_amounts) := ⟨rfl, rfl, rfl, by decide +kernel, rfl, by decide +kernel, by decide +kernel⟩

abbrev s__law_thirsty : Stmt := top 48
abbrev n__law_thirsty : List Str := ["_law_model_here", "_law_first", "_law_second", "_law_reached", "_law_k", "_law_thirst"]
theorem sc__law_thirsty : FnScope n__law_thirsty ["_law_model_here", "_law_first", "_law_second"] (defScope s__law_thirsty) := ⟨rfl, rfl, rfl, by decide +kernel, rfl, by decide +kernel, by decide +kernel⟩

abbrev s__law_steps : Stmt := top 49
abbrev n__law_steps : List Str := ["_law_model_here", "_law_found", "_law_sorts", "_law_vats", "_law_j", "_law_i", "_law_fact", "_law_dip"]
theorem sc__law_steps : FnScope n__law_steps ["_law_model_here"] (defScope s__law_steps) := ⟨rfl, rfl, rfl, by decide +kernel, rfl, by decide +kernel, by decide +kernel⟩

abbrev s__law_below : Stmt := top 50
abbrev n__law_below : List Str := ["_law_amounts_here", "_law_steps_here", "_law_below_here", "_law_amount", "_law_lower", "_law_k", "_law_known", "_law_step"]
theorem sc__law_below : FnScope n__law_below ["_law_amounts_here", "_law_steps_here"] (defScope s__law_below) := ⟨rfl, rfl, rfl, by decide +kernel, rfl, by decide +kernel, by decide +kernel⟩

abbrev s__law_there : Stmt := top 51
abbrev n__law_there : List Str := ["_law_model_here", "_law_found", "_law_amount", "_law_loose"]
theorem sc__law_there : FnScope n__law_there ["_law_model_here"] (defScope s__law_there) := ⟨rfl, rfl, rfl, by decide +kernel, rfl, by decide +kernel, by decide +kernel⟩

abbrev s__law_build : Stmt := top 52
abbrev n__law_build : List Str := ["_law_model_here", "_law_book", "_law_name_here", "_law_grip_here", "_law_more", "_law_less", "_law_sort_here", "_law_garment", "_law_vat", "_law_fact"]
theorem sc__law_build : FnScope n__law_build ["_law_model_here"] (defScope s__law_build) := ⟨rfl, rfl, rfl, by decide +kernel, rfl, by decide +kernel, by decide +kernel⟩

abbrev s__law_lists : Stmt := top 53
abbrev n__law_lists : List Str := ["_law_answer", "_law_due", "_law_k", "_law_amount"]
theorem sc__law_lists : FnScope n__law_lists ["_law_answer", "_law_due"] (defScope s__law_lists) := ⟨rfl, rfl, rfl, by decide +kernel, rfl, by decide +kernel, by decide +kernel⟩

abbrev s__law_refused : Stmt := top 54
abbrev n__law_refused : List Str := ["_law_order", "_law_amounts_here", "_law_thing", "e"]
theorem sc__law_refused : FnScope n__law_refused ["_law_order", "_law_amounts_here", "_law_thing"] (defScope s__law_refused) := ⟨rfl, rfl, rfl, by decide +kernel, rfl, by decide +kernel, by decide +kernel⟩

abbrev s__law_looks : Stmt := top 55
abbrev n__law_looks : List Str := ["_law_order", "_law_amounts_here", "_law_below_here", "_law_there_here", "_law_more", "_law_less", "_law_surely", "_law_low"]
theorem sc__law_looks : FnScope n__law_looks ["_law_order", "_law_amounts_here", "_law_below_here", "_law_there_here"] (defScope s__law_looks) := ⟨rfl, rfl, rfl, by decide +kernel, rfl, by decide +kernel, by decide +kernel⟩

abbrev s__law_leads : Stmt := top 56
abbrev n__law_leads : List Str := ["_law_source_here", "_law_order", "_law_amounts_here", "_law_below_here", "_law_steps_here", "_law_more", "_law_less", "_law_answer", "_law_k"]
theorem sc__law_leads : FnScope n__law_leads ["_law_source_here", "_law_order", "_law_amounts_here", "_law_below_here", "_law_steps_here"] (defScope s__law_leads) := ⟨rfl, rfl, rfl, by decide +kernel, rfl, by decide +kernel, by decide +kernel⟩

abbrev s__law_above : Stmt := top 57
abbrev n__law_above : List Str := ["_law_source_here", "_law_order", "_law_amounts_here", "_law_below_here", "_law_chosen", "_law_k", "_law_handed", "_law_due", "_law_many", "_law_bads", "_law_bad", "_law_more", "_law_amount", "_law_i", "_law_low"]
theorem sc__law_above : FnScope n__law_above ["_law_source_here", "_law_order", "_law_amounts_here", "_law_below_here"] (defScope s__law_above) := ⟨rfl, rfl, rfl, by decide +kernel, rfl, by decide +kernel, by decide +kernel⟩

abbrev s_law : Stmt := top 58
abbrev n_law : List Str := ["_law_script", "_law_source_here", "_law_model_here", "_law_book", "_law_orders", "_law_k", "_law_amounts_here", "_law_steps_here", "_law_garment", "_law_more", "_law_less", "_law_row"]
theorem sc_law : FnScope n_law ["_law_script"] (defScope s_law) := ⟨rfl, rfl, rfl, by decide +kernel, rfl, by decide +kernel, by decide +kernel⟩

abbrev fI (K : PySem.W.Frag) : Addr := ma K (ga K "DyeError") "__init__"
abbrev cB (K : PySem.W.Frag) : Addr := ga K "Book"
abbrev FnM (K : PySem.W.Frag) (c m qual : Str) (st : Stmt) (kws : List (Str × V)) (fd : FuncData) : Prop := FunD K m qual (defArgs st) (defBody st) (defScope st) [] kws (ma K (ga K c) m) fd
def raised : List Str := ["BadName", "Known", "BadHold", "Unknown", "Full", "BadNumber", "BadAmount"]
def exAll : List Str := ["DyeError", "BadName", "BadHold", "BadNumber", "BadAmount", "Known", "Unknown", "Full"]
structure Txt (K : PySem.W.Frag) (mg : Str → Option Value) : Prop where
  blen : mg "len" = none
  babs : mg "abs" = none
  bint : mg "int" = none
  bisinstance : mg "isinstance" = none
  ball : mg "all" = none
  brange : mg "range" = none
  blist : mg "list" = none
  bstr : mg "str" = none
  bbool : mg "bool" = none
  bValueError : mg "ValueError" = none
  btuple : mg "tuple" = none
  bmin : mg "min" = none
  bmax : mg "max" = none
  bsum : mg "sum" = none
  bsorted : mg "sorted" = none
  benumerate : mg "enumerate" = none
  bany : mg "any" = none
  bzip : mg "zip" = none
  bset : mg "set" = none
  bdict : mg "dict" = none
  biter : mg "iter" = none
  gDyeError : mg "DyeError" = some (.ref (ga K "DyeError"))
  xDyeError : ExB K (ga K "DyeError") (fI K)
  fDye : ∃ fd, FunD K "__init__" "DyeError.__init__" (defArgs s_DyeError___init__) (defBody s_DyeError___init__) (defScope s_DyeError___init__) [] [] (fI K) fd
  gBadName : mg "BadName" = some (.ref (ga K "BadName"))
  xBadName : ExB K (ga K "BadName") (fI K)
  gBadHold : mg "BadHold" = some (.ref (ga K "BadHold"))
  xBadHold : ExB K (ga K "BadHold") (fI K)
  gBadNumber : mg "BadNumber" = some (.ref (ga K "BadNumber"))
  xBadNumber : ExB K (ga K "BadNumber") (fI K)
  gBadAmount : mg "BadAmount" = some (.ref (ga K "BadAmount"))
  xBadAmount : ExB K (ga K "BadAmount") (fI K)
  gKnown : mg "Known" = some (.ref (ga K "Known"))
  xKnown : ExB K (ga K "Known") (fI K)
  gUnknown : mg "Unknown" = some (.ref (ga K "Unknown"))
  xUnknown : ExB K (ga K "Unknown") (fI K)
  gFull : mg "Full" = some (.ref (ga K "Full"))
  xFull : ExB K (ga K "Full") (fI K)
  gis_whole : mg "is_whole" = some (.ref (ga K "is_whole"))
  fis_whole : ∃ fd, FnP K "is_whole" s_is_whole fd
  gis_amount : mg "is_amount" = some (.ref (ga K "is_amount"))
  fis_amount : ∃ fd, FnP K "is_amount" s_is_amount fd
  gcheck_between : mg "check_between" = some (.ref (ga K "check_between"))
  fcheck_between : ∃ fd, FnP K "check_between" s_check_between fd
  gsteps_of : mg "steps_of" = some (.ref (ga K "steps_of"))
  fsteps_of : ∃ fd, FnP K "steps_of" s_steps_of fd
  gwalk : mg "walk" = some (.ref (ga K "walk"))
  fwalk : ∃ fd, FnP K "walk" s_walk fd
  gpath_to : mg "path_to" = some (.ref (ga K "path_to"))
  fpath_to : ∃ fd, FnP K "path_to" s_path_to fd
  gpairs : mg "pairs" = some (.ref (ga K "pairs"))
  fpairs : ∃ fd, FnP K "pairs" s_pairs fd
  g_falls : mg "_falls" = some (.ref (ga K "_falls"))
  f_falls : ∃ fd, FnP K "_falls" s__falls fd
  gtold_there : mg "told_there" = some (.ref (ga K "told_there"))
  ftold_there : ∃ fd, FnP K "told_there" s_told_there fd
  g_is_loose : mg "_is_loose" = some (.ref (ga K "_is_loose"))
  f_is_loose : ∃ fd, FnP K "_is_loose" s__is_loose fd
  gOrder : mg "Order" = some (.ref (ga K "Order"))
  clOrder : Cls K (ga K "Order")
  mk_Order : Mk K (ga K "Order") (ma K (ga K "Order") "__init__")
  nOrder_below : NoAttr K (ga K "Order") "_below"
  nOrder_told : NoAttr K (ga K "Order") "_told"
  fOrderInit : ∃ fd, FnM K "Order" "__init__" "Order.__init__" s_Order___init__ [] fd
  mOrder__contains__ : Meth K (ga K "Order") "__contains__" (ma K (ga K "Order") "__contains__")
  fOrder__contains__ : ∃ fd, FnM K "Order" "__contains__" "Order.__contains__" s_Order___contains__ [] fd
  mOrderchain : Meth K (ga K "Order") "chain" (ma K (ga K "Order") "chain")
  fOrderchain : ∃ fd, FnM K "Order" "chain" "Order.chain" s_Order_chain [] fd
  mOrderabove : Meth K (ga K "Order") "above" (ma K (ga K "Order") "above")
  fOrderabove : ∃ fd, FnM K "Order" "above" "Order.above" s_Order_above [] fd
  mOrderthere : Meth K (ga K "Order") "there" (ma K (ga K "Order") "there")
  fOrderthere : ∃ fd, FnM K "Order" "there" "Order.there" s_Order_there [] fd
  mOrder_has : Meth K (ga K "Order") "_has" (ma K (ga K "Order") "_has")
  fOrder_has : ∃ fd, FnM K "Order" "_has" "Order._has" s_Order__has [] fd
  mOrder_check_own : Meth K (ga K "Order") "_check_own" (ma K (ga K "Order") "_check_own")
  fOrder_check_own : ∃ fd, FnM K "Order" "_check_own" "Order._check_own" s_Order__check_own [] fd
  g_is_name : mg "_is_name" = some (.ref (ga K "_is_name"))
  f_is_name : ∃ fd, FnP K "_is_name" s__is_name fd
  g_check_new : mg "_check_new" = some (.ref (ga K "_check_new"))
  f_check_new : ∃ fd, FnP K "_check_new" s__check_new fd
  g_check_known : mg "_check_known" = some (.ref (ga K "_check_known"))
  f_check_known : ∃ fd, FnP K "_check_known" s__check_known fd
  g_check_room : mg "_check_room" = some (.ref (ga K "_check_room"))
  f_check_room : ∃ fd, FnP K "_check_room" s__check_room fd
  gBook : mg "Book" = some (.ref (ga K "Book"))
  cl : Cls K (ga K "Book")
  mk_ : Mk K (ga K "Book") (ma K (ga K "Book") "__init__")
  n_bound : NoAttr K (ga K "Book") "_bound"
  n_cloths : NoAttr K (ga K "Book") "_cloths"
  n_dips : NoAttr K (ga K "Book") "_dips"
  n_facts : NoAttr K (ga K "Book") "_facts"
  n_kinds : NoAttr K (ga K "Book") "_kinds"
  n_pots : NoAttr K (ga K "Book") "_pots"
  n_thirsts : NoAttr K (ga K "Book") "_thirsts"
  pget_bound : ∃ p g fd, PropOf K (ga K "Book") "bound" p g ∧ FunD K "bound" "Book.bound" (defArgs s_Book_bound) (defBody s_Book_bound) (defScope s_Book_bound) [] [] g fd
  pset_bound : ∃ p g fd, PropSet K (ga K "Book") "bound" p g ∧ FunD K "bound" "Book.bound" (defArgs s_Book_bound_set) (defBody s_Book_bound_set) (defScope s_Book_bound_set) [] [] g fd
  fInit : ∃ fd, FnM K "Book" "__init__" "Book.__init__" s_Book___init__ [("bound", .int 24)] fd
  madd_kind : Meth K (ga K "Book") "add_kind" (ma K (ga K "Book") "add_kind")
  fadd_kind : ∃ fd, FnM K "Book" "add_kind" "Book.add_kind" s_Book_add_kind [("hold", .str "unsure")] fd
  madd_thirst : Meth K (ga K "Book") "add_thirst" (ma K (ga K "Book") "add_thirst")
  fadd_thirst : ∃ fd, FnM K "Book" "add_thirst" "Book.add_thirst" s_Book_add_thirst [] fd
  madd_pot : Meth K (ga K "Book") "add_pot" (ma K (ga K "Book") "add_pot")
  fadd_pot : ∃ fd, FnM K "Book" "add_pot" "Book.add_pot" s_Book_add_pot [] fd
  madd_cloth : Meth K (ga K "Book") "add_cloth" (ma K (ga K "Book") "add_cloth")
  fadd_cloth : ∃ fd, FnM K "Book" "add_cloth" "Book.add_cloth" s_Book_add_cloth [] fd
  mdip : Meth K (ga K "Book") "dip" (ma K (ga K "Book") "dip")
  fdip : ∃ fd, FnM K "Book" "dip" "Book.dip" s_Book_dip [] fd
  mtell : Meth K (ga K "Book") "tell" (ma K (ga K "Book") "tell")
  ftell : ∃ fd, FnM K "Book" "tell" "Book.tell" s_Book_tell [] fd
  mtell_some : Meth K (ga K "Book") "tell_some" (ma K (ga K "Book") "tell_some")
  ftell_some : ∃ fd, FnM K "Book" "tell_some" "Book.tell_some" s_Book_tell_some [] fd
  mfacts : Meth K (ga K "Book") "facts" (ma K (ga K "Book") "facts")
  ffacts : ∃ fd, FnM K "Book" "facts" "Book.facts" s_Book_facts [] fd
  m__len__ : Meth K (ga K "Book") "__len__" (ma K (ga K "Book") "__len__")
  f__len__ : ∃ fd, FnM K "Book" "__len__" "Book.__len__" s_Book___len__ [] fd
  m__iter__ : Meth K (ga K "Book") "__iter__" (ma K (ga K "Book") "__iter__")
  f__iter__ : ∃ fd, FnM K "Book" "__iter__" "Book.__iter__" s_Book___iter__ [] fd
  mkind_of : Meth K (ga K "Book") "kind_of" (ma K (ga K "Book") "kind_of")
  fkind_of : ∃ fd, FnM K "Book" "kind_of" "Book.kind_of" s_Book_kind_of [] fd
  mhold_of : Meth K (ga K "Book") "hold_of" (ma K (ga K "Book") "hold_of")
  fhold_of : ∃ fd, FnM K "Book" "hold_of" "Book.hold_of" s_Book_hold_of [] fd
  mthirstier : Meth K (ga K "Book") "thirstier" (ma K (ga K "Book") "thirstier")
  fthirstier : ∃ fd, FnM K "Book" "thirstier" "Book.thirstier" s_Book_thirstier [] fd
  mprevious : Meth K (ga K "Book") "previous" (ma K (ga K "Book") "previous")
  fprevious : ∃ fd, FnM K "Book" "previous" "Book.previous" s_Book_previous [] fd
  mamounts : Meth K (ga K "Book") "amounts" (ma K (ga K "Book") "amounts")
  famounts : ∃ fd, FnM K "Book" "amounts" "Book.amounts" s_Book_amounts [] fd
  m_check_own : Meth K (ga K "Book") "_check_own" (ma K (ga K "Book") "_check_own")
  f_check_own : ∃ fd, FnM K "Book" "_check_own" "Book._check_own" s_Book__check_own [] fd
  m_has_leave : Meth K (ga K "Book") "_has_leave" (ma K (ga K "Book") "_has_leave")
  f_has_leave : ∃ fd, FnM K "Book" "_has_leave" "Book._has_leave" s_Book__has_leave [] fd
  g_law_is_whole : mg "_law_is_whole" = some (.ref (ga K "_law_is_whole"))
  f_law_is_whole : ∃ fd, FnP K "_law_is_whole" s__law_is_whole fd
  g_law_source : mg "_law_source" = some (.ref (ga K "_law_source"))
  f_law_source : ∃ fd, FnP K "_law_source" s__law_source fd
  g_law_draw : mg "_law_draw" = some (.ref (ga K "_law_draw"))
  f_law_draw : ∃ fd, FnP K "_law_draw" s__law_draw fd
  g_law_word : mg "_law_word" = some (.ref (ga K "_law_word"))
  f_law_word : ∃ fd, FnP K "_law_word" s__law_word fd
  g_law_name : mg "_law_name" = some (.ref (ga K "_law_name"))
  f_law_name : ∃ fd, FnP K "_law_name" s__law_name fd
  g_law_names : mg "_law_names" = some (.ref (ga K "_law_names"))
  f_law_names : ∃ fd, FnP K "_law_names" s__law_names fd
  g_law_model : mg "_law_model" = some (.ref (ga K "_law_model"))
  f_law_model : ∃ fd, FnP K "_law_model" s__law_model fd
  g_law_facts : mg "_law_facts" = some (.ref (ga K "_law_facts"))
  f_law_facts : ∃ fd, FnP K "_law_facts" s__law_facts fd
  g_law_sort : mg "_law_sort" = some (.ref (ga K "_law_sort"))
  f_law_sort : ∃ fd, FnP K "_law_sort" s__law_sort fd
  g_law_grip : mg "_law_grip" = some (.ref (ga K "_law_grip"))
  f_law_grip : ∃ fd, FnP K "_law_grip" s__law_grip fd
  g_law_before : mg "_law_before" = some (.ref (ga K "_law_before"))
  f_law_before : ∃ fd, FnP K "_law_before" s__law_before fd
  g_law_leaves : mg "_law_leaves" = some (.ref (ga K "_law_leaves"))
  f_law_leaves : ∃ fd, FnP K "_law_leaves" s__law_leaves fd
  g_law_amounts : mg "_law_amounts" = some (.ref (ga K "_law_amounts"))
  f_law_amounts : ∃ fd, FnP K "_law_amounts" s__law_amounts fd
  g_law_thirsty : mg "_law_thirsty" = some (.ref (ga K "_law_thirsty"))
  f_law_thirsty : ∃ fd, FnP K "_law_thirsty" s__law_thirsty fd
  g_law_steps : mg "_law_steps" = some (.ref (ga K "_law_steps"))
  f_law_steps : ∃ fd, FnP K "_law_steps" s__law_steps fd
  g_law_below : mg "_law_below" = some (.ref (ga K "_law_below"))
  f_law_below : ∃ fd, FnP K "_law_below" s__law_below fd
  g_law_there : mg "_law_there" = some (.ref (ga K "_law_there"))
  f_law_there : ∃ fd, FnP K "_law_there" s__law_there fd
  g_law_build : mg "_law_build" = some (.ref (ga K "_law_build"))
  f_law_build : ∃ fd, FnP K "_law_build" s__law_build fd
  g_law_lists : mg "_law_lists" = some (.ref (ga K "_law_lists"))
  f_law_lists : ∃ fd, FnP K "_law_lists" s__law_lists fd
  g_law_refused : mg "_law_refused" = some (.ref (ga K "_law_refused"))
  f_law_refused : ∃ fd, FnP K "_law_refused" s__law_refused fd
  g_law_looks : mg "_law_looks" = some (.ref (ga K "_law_looks"))
  f_law_looks : ∃ fd, FnP K "_law_looks" s__law_looks fd
  g_law_leads : mg "_law_leads" = some (.ref (ga K "_law_leads"))
  f_law_leads : ∃ fd, FnP K "_law_leads" s__law_leads fd
  g_law_above : mg "_law_above" = some (.ref (ga K "_law_above"))
  f_law_above : ∃ fd, FnP K "_law_above" s__law_above fd
  gWORDS : mg "WORDS" = some (.ref (ga K "WORDS"))
  tWORDS : ∀ H, SqT K H (ga K "WORDS") [.str "take", .str "leave"]
  gHOLDS : mg "HOLDS" = some (.ref (ga K "HOLDS"))
  tHOLDS : ∀ H, SqT K H (ga K "HOLDS") [.str "fast", .str "loose", .str "unsure"]
  cLETTERS : ∃ t, mg "LETTERS" = some (.str "abcdefghijklmnopqrstuvwxyz" t)
  cLONGEST_NAME : ∃ t, mg "LONGEST_NAME" = some (.int 12 t)
  crd : CRead K (ga K "Book") (.type "type")
  vNAMES : ∃ u, CVal K (ga K "Book") (.type "type") "NAMES" (.int 8) u
  vTHIRSTS : ∃ u, CVal K (ga K "Book") (.type "type") "THIRSTS" (.int 32) u
  vFACTS : ∃ u, CVal K (ga K "Book") (.type "type") "FACTS" (.int 32) u
  vDIPS : ∃ u, CVal K (ga K "Book") (.type "type") "DIPS" (.int 24) u
  kit : ∀ x ∈ raised, ∀ y ∈ exAll, PySem.W.kitOne K (.ref (ga K x)) (.ref (ga K y)) = some (x == y || y == "DyeError")
  kitV : ∀ x ∈ raised, PySem.W.kitOne K (.ref (ga K x)) (.type "ValueError") = some true
  exm : ∀ x ∈ raised, ∀ y ∈ exAll, PySem.W.exmOne K (.ref (ga K x)) (.ref (ga K y)) = some (x == y || y == "DyeError")
theorem Txt.rd {K : PySem.W.Frag} {mg : Str → Option Value} (T : Txt K mg) : ∃ mc, CRead K (cB K) mc ∧ (∃ u, CVal K (cB K) mc "NAMES" (.int 8) u) ∧ ∃ u, CVal K (cB K) mc "DIPS" (.int 24) u := ⟨_, T.crd, T.vNAMES, T.vDIPS⟩


end K18
namespace K18.Hd
open PySem PySem.Spec PyProof.Rows L2 He Tp ClX LiI
def d_DyeError___init__ : He.DefD := ⟨("DyeError", some "__init__"), "__init__", "DyeError.__init__", defArgs s_DyeError___init__, defBody s_DyeError___init__, defScope s_DyeError___init__, [], []⟩
def d_is_whole : He.DefD := ⟨("is_whole", none), "is_whole", "is_whole", defArgs s_is_whole, defBody s_is_whole, defScope s_is_whole, [], []⟩
def d_is_amount : He.DefD := ⟨("is_amount", none), "is_amount", "is_amount", defArgs s_is_amount, defBody s_is_amount, defScope s_is_amount, [], []⟩
def d_check_between : He.DefD := ⟨("check_between", none), "check_between", "check_between", defArgs s_check_between, defBody s_check_between, defScope s_check_between, [], []⟩
def d_steps_of : He.DefD := ⟨("steps_of", none), "steps_of", "steps_of", defArgs s_steps_of, defBody s_steps_of, defScope s_steps_of, [], []⟩
def d_walk : He.DefD := ⟨("walk", none), "walk", "walk", defArgs s_walk, defBody s_walk, defScope s_walk, [], []⟩
def d_path_to : He.DefD := ⟨("path_to", none), "path_to", "path_to", defArgs s_path_to, defBody s_path_to, defScope s_path_to, [], []⟩
def d_pairs : He.DefD := ⟨("pairs", none), "pairs", "pairs", defArgs s_pairs, defBody s_pairs, defScope s_pairs, [], []⟩
def d__falls : He.DefD := ⟨("_falls", none), "_falls", "_falls", defArgs s__falls, defBody s__falls, defScope s__falls, [], []⟩
def d_told_there : He.DefD := ⟨("told_there", none), "told_there", "told_there", defArgs s_told_there, defBody s_told_there, defScope s_told_there, [], []⟩
def d__is_loose : He.DefD := ⟨("_is_loose", none), "_is_loose", "_is_loose", defArgs s__is_loose, defBody s__is_loose, defScope s__is_loose, [], []⟩
def d_Order___init__ : He.DefD := ⟨("Order", some "__init__"), "__init__", "Order.__init__", defArgs s_Order___init__, defBody s_Order___init__, defScope s_Order___init__, [], []⟩
def d_Order___contains__ : He.DefD := ⟨("Order", some "__contains__"), "__contains__", "Order.__contains__", defArgs s_Order___contains__, defBody s_Order___contains__, defScope s_Order___contains__, [], []⟩
def d_Order_chain : He.DefD := ⟨("Order", some "chain"), "chain", "Order.chain", defArgs s_Order_chain, defBody s_Order_chain, defScope s_Order_chain, [], []⟩
def d_Order_above : He.DefD := ⟨("Order", some "above"), "above", "Order.above", defArgs s_Order_above, defBody s_Order_above, defScope s_Order_above, [], []⟩
def d_Order_there : He.DefD := ⟨("Order", some "there"), "there", "Order.there", defArgs s_Order_there, defBody s_Order_there, defScope s_Order_there, [], []⟩
def d_Order__has : He.DefD := ⟨("Order", some "_has"), "_has", "Order._has", defArgs s_Order__has, defBody s_Order__has, defScope s_Order__has, [], []⟩
def d_Order__check_own : He.DefD := ⟨("Order", some "_check_own"), "_check_own", "Order._check_own", defArgs s_Order__check_own, defBody s_Order__check_own, defScope s_Order__check_own, [], []⟩
def d__is_name : He.DefD := ⟨("_is_name", none), "_is_name", "_is_name", defArgs s__is_name, defBody s__is_name, defScope s__is_name, [], []⟩
def d__check_new : He.DefD := ⟨("_check_new", none), "_check_new", "_check_new", defArgs s__check_new, defBody s__check_new, defScope s__check_new, [], []⟩
def d__check_known : He.DefD := ⟨("_check_known", none), "_check_known", "_check_known", defArgs s__check_known, defBody s__check_known, defScope s__check_known, [], []⟩
def d__check_room : He.DefD := ⟨("_check_room", none), "_check_room", "_check_room", defArgs s__check_room, defBody s__check_room, defScope s__check_room, [], []⟩
def d_Book___init__ : He.DefD := ⟨("Book", some "__init__"), "__init__", "Book.__init__", defArgs s_Book___init__, defBody s_Book___init__, defScope s_Book___init__, [], [("bound", .int 24)]⟩
def d_Book_add_kind : He.DefD := ⟨("Book", some "add_kind"), "add_kind", "Book.add_kind", defArgs s_Book_add_kind, defBody s_Book_add_kind, defScope s_Book_add_kind, [], [("hold", .str "unsure")]⟩
def d_Book_add_thirst : He.DefD := ⟨("Book", some "add_thirst"), "add_thirst", "Book.add_thirst", defArgs s_Book_add_thirst, defBody s_Book_add_thirst, defScope s_Book_add_thirst, [], []⟩
def d_Book_add_pot : He.DefD := ⟨("Book", some "add_pot"), "add_pot", "Book.add_pot", defArgs s_Book_add_pot, defBody s_Book_add_pot, defScope s_Book_add_pot, [], []⟩
def d_Book_add_cloth : He.DefD := ⟨("Book", some "add_cloth"), "add_cloth", "Book.add_cloth", defArgs s_Book_add_cloth, defBody s_Book_add_cloth, defScope s_Book_add_cloth, [], []⟩
def d_Book_dip : He.DefD := ⟨("Book", some "dip"), "dip", "Book.dip", defArgs s_Book_dip, defBody s_Book_dip, defScope s_Book_dip, [], []⟩
def d_Book_tell : He.DefD := ⟨("Book", some "tell"), "tell", "Book.tell", defArgs s_Book_tell, defBody s_Book_tell, defScope s_Book_tell, [], []⟩
def d_Book_tell_some : He.DefD := ⟨("Book", some "tell_some"), "tell_some", "Book.tell_some", defArgs s_Book_tell_some, defBody s_Book_tell_some, defScope s_Book_tell_some, [], []⟩
def d_Book_facts : He.DefD := ⟨("Book", some "facts"), "facts", "Book.facts", defArgs s_Book_facts, defBody s_Book_facts, defScope s_Book_facts, [], []⟩
def d_Book___len__ : He.DefD := ⟨("Book", some "__len__"), "__len__", "Book.__len__", defArgs s_Book___len__, defBody s_Book___len__, defScope s_Book___len__, [], []⟩
def d_Book___iter__ : He.DefD := ⟨("Book", some "__iter__"), "__iter__", "Book.__iter__", defArgs s_Book___iter__, defBody s_Book___iter__, defScope s_Book___iter__, [], []⟩
def d_Book_kind_of : He.DefD := ⟨("Book", some "kind_of"), "kind_of", "Book.kind_of", defArgs s_Book_kind_of, defBody s_Book_kind_of, defScope s_Book_kind_of, [], []⟩
def d_Book_hold_of : He.DefD := ⟨("Book", some "hold_of"), "hold_of", "Book.hold_of", defArgs s_Book_hold_of, defBody s_Book_hold_of, defScope s_Book_hold_of, [], []⟩
def d_Book_thirstier : He.DefD := ⟨("Book", some "thirstier"), "thirstier", "Book.thirstier", defArgs s_Book_thirstier, defBody s_Book_thirstier, defScope s_Book_thirstier, [], []⟩
def d_Book_previous : He.DefD := ⟨("Book", some "previous"), "previous", "Book.previous", defArgs s_Book_previous, defBody s_Book_previous, defScope s_Book_previous, [], []⟩
def d_Book_amounts : He.DefD := ⟨("Book", some "amounts"), "amounts", "Book.amounts", defArgs s_Book_amounts, defBody s_Book_amounts, defScope s_Book_amounts, [], []⟩
def d_Book__check_own : He.DefD := ⟨("Book", some "_check_own"), "_check_own", "Book._check_own", defArgs s_Book__check_own, defBody s_Book__check_own, defScope s_Book__check_own, [], []⟩
def d_Book__has_leave : He.DefD := ⟨("Book", some "_has_leave"), "_has_leave", "Book._has_leave", defArgs s_Book__has_leave, defBody s_Book__has_leave, defScope s_Book__has_leave, [], []⟩
def d__law_is_whole : He.DefD := ⟨("_law_is_whole", none), "_law_is_whole", "_law_is_whole", defArgs s__law_is_whole, defBody s__law_is_whole, defScope s__law_is_whole, [], []⟩
def d__law_source : He.DefD := ⟨("_law_source", none), "_law_source", "_law_source", defArgs s__law_source, defBody s__law_source, defScope s__law_source, [], []⟩
def d__law_draw : He.DefD := ⟨("_law_draw", none), "_law_draw", "_law_draw", defArgs s__law_draw, defBody s__law_draw, defScope s__law_draw, [], []⟩
def d__law_word : He.DefD := ⟨("_law_word", none), "_law_word", "_law_word", defArgs s__law_word, defBody s__law_word, defScope s__law_word, [], []⟩
def d__law_name : He.DefD := ⟨("_law_name", none), "_law_name", "_law_name", defArgs s__law_name, defBody s__law_name, defScope s__law_name, [], []⟩
def d__law_names : He.DefD := ⟨("_law_names", none), "_law_names", "_law_names", defArgs s__law_names, defBody s__law_names, defScope s__law_names, [], []⟩
def d__law_model : He.DefD := ⟨("_law_model", none), "_law_model", "_law_model", defArgs s__law_model, defBody s__law_model, defScope s__law_model, [], []⟩
def d__law_facts : He.DefD := ⟨("_law_facts", none), "_law_facts", "_law_facts", defArgs s__law_facts, defBody s__law_facts, defScope s__law_facts, [], []⟩
def d__law_sort : He.DefD := ⟨("_law_sort", none), "_law_sort", "_law_sort", defArgs s__law_sort, defBody s__law_sort, defScope s__law_sort, [], []⟩
def d__law_grip : He.DefD := ⟨("_law_grip", none), "_law_grip", "_law_grip", defArgs s__law_grip, defBody s__law_grip, defScope s__law_grip, [], []⟩
def d__law_before : He.DefD := ⟨("_law_before", none), "_law_before", "_law_before", defArgs s__law_before, defBody s__law_before, defScope s__law_before, [], []⟩
def d__law_leaves : He.DefD := ⟨("_law_leaves", none), "_law_leaves", "_law_leaves", defArgs s__law_leaves, defBody s__law_leaves, defScope s__law_leaves, [], []⟩
def d__law_amounts : He.DefD := ⟨("_law_amounts", none), "_law_amounts", "_law_amounts", defArgs s__law_amounts, defBody s__law_amounts, defScope s__law_amounts, [], []⟩
def d__law_thirsty : He.DefD := ⟨("_law_thirsty", none), "_law_thirsty", "_law_thirsty", defArgs s__law_thirsty, defBody s__law_thirsty, defScope s__law_thirsty, [], []⟩
def d__law_steps : He.DefD := ⟨("_law_steps", none), "_law_steps", "_law_steps", defArgs s__law_steps, defBody s__law_steps, defScope s__law_steps, [], []⟩
def d__law_below : He.DefD := ⟨("_law_below", none), "_law_below", "_law_below", defArgs s__law_below, defBody s__law_below, defScope s__law_below, [], []⟩
def d__law_there : He.DefD := ⟨("_law_there", none), "_law_there", "_law_there", defArgs s__law_there, defBody s__law_there, defScope s__law_there, [], []⟩
def d__law_build : He.DefD := ⟨("_law_build", none), "_law_build", "_law_build", defArgs s__law_build, defBody s__law_build, defScope s__law_build, [], []⟩
def d__law_lists : He.DefD := ⟨("_law_lists", none), "_law_lists", "_law_lists", defArgs s__law_lists, defBody s__law_lists, defScope s__law_lists, [], []⟩
def d__law_refused : He.DefD := ⟨("_law_refused", none), "_law_refused", "_law_refused", defArgs s__law_refused, defBody s__law_refused, defScope s__law_refused, [], []⟩
def d__law_looks : He.DefD := ⟨("_law_looks", none), "_law_looks", "_law_looks", defArgs s__law_looks, defBody s__law_looks, defScope s__law_looks, [], []⟩
def d__law_leads : He.DefD := ⟨("_law_leads", none), "_law_leads", "_law_leads", defArgs s__law_leads, defBody s__law_leads, defScope s__law_leads, [], []⟩
def d__law_above : He.DefD := ⟨("_law_above", none), "_law_above", "_law_above", defArgs s__law_above, defBody s__law_above, defScope s__law_above, [], []⟩
def d_law : He.DefD := ⟨("law", none), "law", "law", defArgs s_law, defBody s_law, defScope s_law, [], []⟩
def dx_Of_bound : He.DefD := ⟨("", none), "bound", "Book.bound", defArgs s_Book_bound, defBody s_Book_bound, defScope s_Book_bound, [], []⟩
def dx_Set_bound : He.DefD := ⟨("", none), "bound", "Book.bound", defArgs s_Book_bound_set, defBody s_Book_bound_set, defScope s_Book_bound_set, [], []⟩
def fn : List He.DefD := [d_DyeError___init__, d_is_whole, d_is_amount, d_check_between, d_steps_of, d_walk, d_path_to, d_pairs, d__falls, d_told_there, d__is_loose, d_Order___init__, d_Order___contains__, d_Order_chain, d_Order_above, d_Order_there, d_Order__has, d_Order__check_own, d__is_name, d__check_new, d__check_known, d__check_room, d_Book___init__, d_Book_add_kind, d_Book_add_thirst, d_Book_add_pot, d_Book_add_cloth, d_Book_dip, d_Book_tell, d_Book_tell_some, d_Book_facts, d_Book___len__, d_Book___iter__, d_Book_kind_of, d_Book_hold_of, d_Book_thirstier, d_Book_previous, d_Book_amounts, d_Book__check_own, d_Book__has_leave, d__law_is_whole, d__law_source, d__law_draw, d__law_word, d__law_name, d__law_names, d__law_model, d__law_facts, d__law_sort, d__law_grip, d__law_before, d__law_leaves, d__law_amounts, d__law_thirsty, d__law_steps, d__law_below, d__law_there, d__law_build, d__law_lists, d__law_refused, d__law_looks, d__law_leads, d__law_above, d_law]
def fa : List He.Fa := [.free "len", .free "abs", .free "int", .free "isinstance", .free "all", .free "range", .free "list", .free "str", .free "bool", .free "ValueError", .free "tuple", .free "min", .free "max", .free "sum", .free "sorted", .free "enumerate", .free "any", .free "zip", .free "set", .free "dict", .free "iter", .glo "DyeError", .glo "BadName", .glo "BadHold", .glo "BadNumber", .glo "BadAmount", .glo "Known", .glo "Unknown", .glo "Full", .glo "is_whole", .glo "is_amount", .glo "check_between", .glo "steps_of", .glo "walk", .glo "path_to", .glo "pairs", .glo "_falls", .glo "told_there", .glo "_is_loose", .glo "Order", .cls "Order", .mkr "Order", .noat "Order" "_below", .noat "Order" "_told", .meth "Order" "__contains__", .meth "Order" "chain", .meth "Order" "above", .meth "Order" "there", .meth "Order" "_has", .meth "Order" "_check_own", .glo "_is_name", .glo "_check_new", .glo "_check_known", .glo "_check_room", .glo "Book", .cls "Book", .mkr "Book", .noat "Book" "_bound", .noat "Book" "_cloths", .noat "Book" "_dips", .noat "Book" "_facts", .noat "Book" "_kinds", .noat "Book" "_pots", .noat "Book" "_thirsts", .meth "Book" "add_kind", .meth "Book" "add_thirst", .meth "Book" "add_pot", .meth "Book" "add_cloth", .meth "Book" "dip", .meth "Book" "tell", .meth "Book" "tell_some", .meth "Book" "facts", .meth "Book" "__len__", .meth "Book" "__iter__", .meth "Book" "kind_of", .meth "Book" "hold_of", .meth "Book" "thirstier", .meth "Book" "previous", .meth "Book" "amounts", .meth "Book" "_check_own", .meth "Book" "_has_leave", .glo "_law_is_whole", .glo "_law_source", .glo "_law_draw", .glo "_law_word", .glo "_law_name", .glo "_law_names", .glo "_law_model", .glo "_law_facts", .glo "_law_sort", .glo "_law_grip", .glo "_law_before", .glo "_law_leaves", .glo "_law_amounts", .glo "_law_thirsty", .glo "_law_steps", .glo "_law_below", .glo "_law_there", .glo "_law_build", .glo "_law_lists", .glo "_law_refused", .glo "_law_looks", .glo "_law_leads", .glo "_law_above", .glo "WORDS", .glo "HOLDS", .str "LETTERS" "abcdefghijklmnopqrstuvwxyz", .int "LONGEST_NAME" 12, .glo "law"]
def fx : FxL := [(pgetA "Book" "bound", dx_Of_bound), (psetA "Book" "bound", dx_Set_bound)]
abbrev loose : List Str := ("_wall" : Str) :: ("DyeError" : Str) :: ("BadName" : Str) :: ("BadHold" : Str) :: ("BadNumber" : Str) :: ("BadAmount" : Str) :: ("Known" : Str) :: ("Unknown" : Str) :: ("Full" : Str) :: ("WORDS" : Str) :: ("is_whole" : Str) :: ("is_amount" : Str) :: ("check_between" : Str) :: ("steps_of" : Str) :: ("walk" : Str) :: ("path_to" : Str) :: ("pairs" : Str) :: ("_falls" : Str) :: ("told_there" : Str) :: ("_is_loose" : Str) :: ("Order" : Str) :: ("HOLDS" : Str) :: ("LETTERS" : Str) :: ("LONGEST_NAME" : Str) :: ("_is_name" : Str) :: ("_check_new" : Str) :: ("_check_known" : Str) :: ("_check_room" : Str) :: ("Book" : Str) :: ("_law_is_whole" : Str) :: ("_law_source" : Str) :: ("_law_draw" : Str) :: ("_law_word" : Str) :: ("_law_name" : Str) :: ("_law_names" : Str) :: ("_law_model" : Str) :: ("_law_facts" : Str) :: ("_law_sort" : Str) :: ("_law_grip" : Str) :: ("_law_before" : Str) :: ("_law_leaves" : Str) :: ("_law_amounts" : Str) :: ("_law_thirsty" : Str) :: ("_law_steps" : Str) :: ("_law_below" : Str) :: ("_law_there" : Str) :: ("_law_build" : Str) :: ("_law_lists" : Str) :: ("_law_refused" : Str) :: ("_law_looks" : Str) :: ("_law_leads" : Str) :: ("_law_above" : Str) :: []
def xB (K : PySem.W.Frag) : Bool := exBB K "DyeError" "DyeError" && (exBB K "DyeError" "BadName" && (exBB K "DyeError" "BadHold" && (exBB K "DyeError" "BadNumber" && (exBB K "DyeError" "BadAmount" && (exBB K "DyeError" "Known" && (exBB K "DyeError" "Unknown" && (exBB K "DyeError" "Full" && (pgetB "Book" "bound" K && (okA K (pgetA "Book" "bound" K) dx_Of_bound && (psetB "Book" "bound" K && (okA K (psetA "Book" "bound" K) dx_Set_bound && (He.tupB K "WORDS" [.str "take", .str "leave"] && (He.tupB K "HOLDS" [.str "fast", .str "loose", .str "unsure"] && (creadB K (ga K "Book") (.type "type") && (cvalB K (ga K "Book") (.type "type") "NAMES" (.int 8) && (cvalB K (ga K "Book") (.type "type") "THIRSTS" (.int 32) && (cvalB K (ga K "Book") (.type "type") "FACTS" (.int 32) && (cvalB K (ga K "Book") (.type "type") "DIPS" (.int 24) && ((raised.all fun x => exAll.all fun y => decide (PySem.W.kitOne K (.ref (ga K x)) (.ref (ga K y)) = some (x == y || y == "DyeError"))) && ((raised.all fun x => decide (PySem.W.kitOne K (.ref (ga K x)) (.type "ValueError") = some true)) && ((raised.all fun x => exAll.all fun y => decide (PySem.W.exmOne K (.ref (ga K x)) (.ref (ga K y)) = some (x == y || y == "DyeError"))))))))))))))))))))))))
abbrev R : PySem.W.OpenRow := PySem.W.OpenLaw.row PySem.Challenge.rw_tiredpots_k18_whole_order
abbrev hk : PySem.W.Hook := hookY 5 fa fn fx xB
def ob (s : PySem.W.SharedT) : AlY := obsY 5 fa fn fx xB (HandSHeadRun.getT s)
theorem ob_eq (s : PySem.W.SharedT) : ob s = hk.obs s.abs := obsY_eq (HandSHeadRun.getT_eq s)
theorem run (w : World) : HandSHeadRun.RunEq R (PySem.W.view R.prog [58]) hk ob 6000 K18.Hd.loose w := by
  intro os
  kernel_rfl
end K18.Hd
namespace K18
open PySem PySem.Spec PyProof.Rows L2 He Tp ClX LiI

section
variable {P : Program} {w : World} {K : PySem.W.Frag} {mg : Str → Option Value} {base : Heap}
theorem dye (T : Txt K mg) : Dye P w K mg base (fI K) := by
  obtain ⟨fd, F⟩ := T.fDye
  refine ⟨fd, F.ok sc_DyeError___init__ (fun vs H Q E h => ?_) (fun cdv A outer s H vs Q E hr h => ?_), F.bindsN fun _ _ _ _ _ _ us hl => match us, hl with | [_, _], _ => rfl⟩
  · obtain ⟨a, C, v, rfl, _⟩ := h
    rfl
  · obtain ⟨a, C, v, rfl, T, hn, ha, k⟩ := h
    refine ⟨_, PSs.nox (pss_one (ps_ost (pv 0) (pv 1))), ?_⟩
    exact ⟨_, rfl, _, rfl, a, C, rfl, T, hn, .inl ⟨ha, fun dx h1 h2 => k dx h1 h2⟩⟩
theorem ok_is_whole (T : Txt K mg) : Df P w K mg base CX0 1 "is_whole" ["value"] (spWhole K) := by
  refine Df.mk' T.gis_whole T.fis_whole (fun _ _ _ _ _ _ us hl => match us, hl with | [_], _ => rfl) fun fd F => F.ok sc_is_whole (fun vs H Q E h => ?_) (fun cdv A outer s H vs Q E hr h => ?_)
  · obtain ⟨v, rfl, _⟩ := h
    rfl
  · obtain ⟨v, rfl, p, q⟩ := h
    refine ⟨_, PSs.nox
   (pss_one (ps_ret (pe_and (pe_callB (call_isi) (by rfl) T.bisinstance (by decide +kernel) (pa_cons (pv 0) (pa_cons (pe_bltn (v := .ty "int") (u := .type "int") (by rfl) T.bint (by decide +kernel) rfl) pa_nil))) (pe_one (pe_not (pe_callB (call_isi) (by rfl) T.bisinstance (by decide +kernel) (pa_cons (pv 0) (pa_cons (pe_bltn (v := .ty "bool") (u := .type "bool") (by rfl) T.bbool (by decide +kernel) rfl) pa_nil)))))))), ?_⟩
    refine st_ret (val_andV (val_isi (val_var rfl) p.ty (p.kit (.inl rfl))) (val_notV (val_isi (val_var rfl) p.ty (p.kit (.inr (.inl rfl)))))) ?_
    rw [whole_eq p]
    exact q
end

end K18
namespace K18
open PySem PySem.Spec PyProof.Rows L2 He Tp ClX LiI

section
variable {P : Program} {w : World} {K : PySem.W.Frag} {mg : Str → Option Value} {base : Heap}
theorem ok_is_name (T : Txt K mg) : Df P w K mg base CX0 1 "_is_name" ["value"] (spIsName K) := by
  refine Df.mk' T.g_is_name T.f_is_name (fun _ _ _ _ _ _ us hl => match us, hl with | [_], _ => rfl) fun fd F => F.ok sc__is_name (fun vs H Q E h => ?_) (fun cdv A outer s H vs Q E hr h => ?_)
  · obtain ⟨v, rfl, _⟩ := h
    rfl
  · obtain ⟨v, rfl, p, q⟩ := h
    have nd := sc__is_name.nd
    obtain ⟨t1, c_LETTERS⟩ := T.cLETTERS
    obtain ⟨t2, c_LONGEST_NAME⟩ := T.cLONGEST_NAME
    refine ⟨_, PSs.nox
   (pss_one (ps_ret (pe_and (pe_callB (call_isi) (by rfl) T.bisinstance (by decide +kernel) (pa_cons (pv 0) (pa_cons (pe_bltn (v := .ty "str") (u := .type "str") (by rfl) T.bstr (by decide +kernel) rfl) pa_nil))) (pe_and (pe_chain op_le op_le pe_int (pe_callB call_len_str (by rfl) T.blen PySem.boot_len (pa_cons (pv 0) pa_nil)) (pe_glob (v := .int 12) (by rfl) c_LONGEST_NAME ⟨_, rfl⟩)) (pe_one (pe_callB (cr_all rfl) (by rfl) T.ball (by decide +kernel) (pa_cons (pe_lc (own := [("letter", 1)]) (g := gName 1) (tt := tYes) (by rfl) nd (pi_str (pv 0)) (blkOk_by (own := [("letter", 1)]) (N := n__is_name) (sc := defScope s__is_name) (by decide +kernel)) (fun _ _ _ _ _ => pg_name (i := 1) nd rfl (by first | exact Or.inl rfl | exact Or.inr rfl)) (fun _ _ _ _ _ => pts_nil) (fun _ _ _ _ _ => (pe_cmpR op_in_sign (pv 1) (pe_glob (v := .str "abcdefghijklmnopqrstuvwxyz") (by rfl) c_LETTERS ⟨_, rfl⟩) (by rfl)))) pa_nil))))))), ?_⟩
    refine val_isi (val_var rfl) p.ty (p.kit (.inr (.inr (.inl rfl)))) _ ⟨_, rfl, ?_⟩
    rw [str_eq p]
    cases p with
    | @str z hz =>
      refine iteT ?_
      refine val_chain val_c (val_lenS (val_var rfl) (by omega)) val_c (fun _ q => ⟨1, _, rfl, rfl, q⟩) (fun _ q => ⟨_, 12, rfl, rfl, q⟩) _ ⟨_, rfl, ?_⟩
      have e : isNm (.str z) = ((decide ((1 : Int) ≤ (z.length : Int)) && decide ((z.length : Int) ≤ 12)) && allL Lz z) := by
        rw [Bool.and_assoc]
        rfl
      rw [e] at q
      refine ifb (fun h1 => ?_) (fun h1 => ?_)
      · rw [h1] at q
        exact rd_all (L := Lz) (by show 1 < 2; decide) (val_var rfl) (by omega) (fun _ _ => val_c) fun D bs hD => q _ (Ext.new hD)
      · rw [h1] at q
        exact q _ Ext.refl
    | _ => exact iteF (q _ Ext.refl)
end

end K18
namespace K18
open PySem PySem.Spec PyProof.Rows L2 He Tp ClX LiI

section
variable {P : Program} {w : World} {K : PySem.W.Frag} {mg : Str → Option Value} {base : Heap}
theorem ok_check_newD (T : Txt K mg) : Df P w K mg base (L2.CX P w) 3 "_check_new" ["name", "known"] (spCheckNew K (ga K "BadName") (ga K "Known") knD) := by
  have D__is_name := ok_is_name (P := P) (w := w) (base := base) T
  have D_dye := dye (P := P) (w := w) (base := base) T
  refine Df.mk' T.g_check_new T.f_check_new (fun _ _ _ _ _ _ us hl => match us, hl with | [_, _], _ => rfl) fun fd F => F.ok sc__check_new (fun vs H Q E h => ?_) (fun cdv A outer s H vs Q E hr h => ?_)
  · obtain ⟨v, k, hit, rfl, _⟩ := h
    rfl
  · obtain ⟨v, k, hit, rfl, p, ⟨d, kvs, rfl, hd, hh⟩, kB, kK, kN⟩ := h
    have hu := hu_of hr
    have hr__is_name := hr.mono (show 1 ≤ 2 by decide)
    refine ⟨_, (pss_cons (ps_if (pt_not (pt_val (pe_cd D__is_name hr__is_name (by rfl) pass0 (pa_cons (pv 0) pa_nil)))) (pss_one (ps_raiseX rfl T.xBadName D_dye (hr.mono (by decide)) (takes_of rfl rfl rfl rfl) (by rfl) T.gBadName (pv 0))) pss_nil)
   (pss_one (ps_if (pt_cmp (pc_din hu (pv 0) (pv 1))) (pss_one (ps_raiseX rfl T.xKnown D_dye (hr.mono (by decide)) (takes_of rfl rfl rfl rfl) (by rfl) T.gKnown (pv 0))) pss_nil))), ?_⟩
    refine ⟨_, rfl, v, rfl, p, fun H1 e1 => ⟨_, rfl, ?_⟩⟩
    refine ifb (fun h1 => ?_) (fun h1 => ?_)
    · exact ⟨v, rfl, leaves_now T.xBadName (kB (by simpa using h1)) e1⟩
    · have hn : isNm v = true := by simpa using h1
      cases v with
      | str z =>
        refine ⟨_, rfl, _, rfl, d, _, rfl, DGet.k (k := Sum.inr z) (e1.same d _ hd), _, rfl, ?_⟩
        refine ifb (fun h2 => ?_) (fun h2 => ?_)
        · exact ⟨_, rfl, leaves_now T.xKnown (kK z rfl hn (by rw [hh]; exact h2)) e1⟩
        · exact kN z rfl hn (by rw [hh]; exact h2) H1 e1
      | _ => exact absurd (show false = true from hn) Bool.false_ne_true
theorem ok_check_newL (T : Txt K mg) : Df P w K mg base (L2.CX P w) 3 "_check_new" ["name", "known"] (spCheckNew K (ga K "BadName") (ga K "Known") (knL K)) := by
  have D__is_name := ok_is_name (P := P) (w := w) (base := base) T
  have D_dye := dye (P := P) (w := w) (base := base) T
  refine Df.mk' T.g_check_new T.f_check_new (fun _ _ _ _ _ _ us hl => match us, hl with | [_, _], _ => rfl) fun fd F => F.ok sc__check_new (fun vs H Q E h => ?_) (fun cdv A outer s H vs Q E hr h => ?_)
  · obtain ⟨v, k, hit, rfl, _⟩ := h
    rfl
  · obtain ⟨v, k, hit, rfl, p, ⟨d, zs, rfl, hd, hh⟩, kB, kK, kN⟩ := h
    have hu := hu_of hr
    have hr__is_name := hr.mono (show 1 ≤ 2 by decide)
    refine ⟨_, (pss_cons (ps_if (pt_not (pt_val (pe_cd D__is_name hr__is_name (by rfl) pass0 (pa_cons (pv 0) pa_nil)))) (pss_one (ps_raiseX rfl T.xBadName D_dye (hr.mono (by decide)) (takes_of rfl rfl rfl rfl) (by rfl) T.gBadName (pv 0))) pss_nil)
   (pss_one (ps_if (pt_cmpR op_in_seq (pv 0) (pv 1) (by rfl)) (pss_one (ps_raiseX rfl T.xKnown D_dye (hr.mono (by decide)) (takes_of rfl rfl rfl rfl) (by rfl) T.gKnown (pv 0))) pss_nil))), ?_⟩
    refine ⟨_, rfl, v, rfl, p, fun H1 e1 => ⟨_, rfl, ?_⟩⟩
    refine ifb (fun h1 => ?_) (fun h1 => ?_)
    · exact ⟨v, rfl, leaves_now T.xBadName (kB (by simpa using h1)) e1⟩
    · have hn : isNm v = true := by simpa using h1
      cases v with
      | str z =>
        refine ⟨_, rfl, _, rfl, d, _, rfl, .inl (SqL.of (e1.same d _ hd)), rfl, (by simp [flatV]), _, rfl, ?_⟩
        refine ifb (fun h2 => ?_) (fun h2 => ?_)
        · exact ⟨_, rfl, leaves_now T.xKnown (kK z rfl hn (by rw [hh]; exact h2)) e1⟩
        · exact kN z rfl hn (by rw [hh]; exact h2) H1 e1
      | _ => exact absurd (show false = true from hn) Bool.false_ne_true
theorem ok_check_knownD (T : Txt K mg) : Df P w K mg base (L2.CX P w) 3 "_check_known" ["name", "known"] (spCheckKnown K (ga K "Unknown") knD) := by
  have D_dye := dye (P := P) (w := w) (base := base) T
  refine Df.mk' T.g_check_known T.f_check_known (fun _ _ _ _ _ _ us hl => match us, hl with | [_, _], _ => rfl) fun fd F => F.ok sc__check_known (fun vs H Q E h => ?_) (fun cdv A outer s H vs Q E hr h => ?_)
  · obtain ⟨v, k, hit, rfl, _⟩ := h
    rfl
  · obtain ⟨v, k, hit, rfl, p, ⟨d, kvs, rfl, hd, hh⟩, kU, kN⟩ := h
    have hu := hu_of hr
    refine ⟨_, (pss_one (ps_if (PW.pt (pw_or (pt_not (pt_val (pe_callB (call_isi) (by rfl) T.bisinstance (by decide +kernel) (pa_cons (pv 0) (pa_cons (pe_bltn (v := .ty "str") (u := .type "str") (by rfl) T.bstr (by decide +kernel) rfl) pa_nil))))) (pw_or1 (pt_cmp (pc_dnotin hu (pv 0) (pv 1)))))) (pss_one (ps_raiseX rfl T.xUnknown D_dye (hr.mono (by decide)) (takes_of rfl rfl rfl rfl) (by rfl) T.gUnknown (pv 0))) pss_nil)), ?_⟩
    refine val_isi (val_var rfl) p.ty (p.kit (.inr (.inr (.inl rfl)))) _ ⟨_, rfl, ?_⟩
    rw [str_eq p]
    cases p with
    | @str z hz =>
      refine iteF ?_
      refine ⟨_, rfl, _, rfl, d, _, rfl, DGet.k (k := Sum.inr z) hd, _, rfl, ?_⟩
      refine ifb (fun h2 => ?_) (fun h2 => ?_)
      · exact ⟨_, rfl, leaves_now T.xUnknown (kU fun z' e => by cases e; rw [hh]; simpa using h2) Ext.refl⟩
      · exact kN z rfl (by rw [hh]; simpa using h2)
    | _ => exact iteT ⟨_, rfl, leaves_now T.xUnknown (kU fun z' e => nomatch e) Ext.refl⟩
theorem ok_check_roomD (T : Txt K mg) : Df P w K mg base (L2.CX P w) 3 "_check_room" ["things", "most"] (spCheckRoom K (ga K "Full") szD) := by
  have D_dye := dye (P := P) (w := w) (base := base) T
  refine Df.mk' T.g_check_room T.f_check_room (fun _ _ _ _ _ _ us hl => match us, hl with | [_, _], _ => rfl) fun fd F => F.ok sc__check_room (fun vs H Q E h => ?_) (fun cdv A outer s H vs Q E hr h => ?_)
  · obtain ⟨k, n, most, rfl, _⟩ := h
    rfl
  · obtain ⟨k, n, most, rfl, ⟨d, kvs, rfl, hd, rfl⟩, kF, kN⟩ := h
    refine ⟨_, (pss_one (ps_if (pt_cmpR op_ge (pe_callB call_lenD (by rfl) T.blen PySem.boot_len (pa_cons (pv 0) pa_nil)) (pv 1) (nomark _)) (pss_one (ps_raiseX rfl T.xFull D_dye (hr.mono (by decide)) (takes_of rfl rfl rfl rfl) (by rfl) T.gFull (pv 1))) pss_nil)), ?_⟩
    refine ⟨_, rfl, d, kvs, rfl, hd, _, rfl, _, _, rfl, rfl, _, rfl, ?_⟩
    refine ifd (fun h2 => ?_) (fun h2 => ?_)
    · exact ⟨_, rfl, leaves_now T.xFull (kF h2) Ext.refl⟩
    · exact kN (by omega)
theorem ok_check_roomL (T : Txt K mg) : Df P w K mg base (L2.CX P w) 3 "_check_room" ["things", "most"] (spCheckRoom K (ga K "Full") szL) := by
  have D_dye := dye (P := P) (w := w) (base := base) T
  refine Df.mk' T.g_check_room T.f_check_room (fun _ _ _ _ _ _ us hl => match us, hl with | [_, _], _ => rfl) fun fd F => F.ok sc__check_room (fun vs H Q E h => ?_) (fun cdv A outer s H vs Q E hr h => ?_)
  · obtain ⟨k, n, most, rfl, _⟩ := h
    rfl
  · obtain ⟨k, n, most, rfl, ⟨d, xs, rfl, hd, rfl⟩, kF, kN⟩ := h
    refine ⟨_, (pss_one (ps_if (pt_cmpR op_ge (pe_callB call_len_seq (by rfl) T.blen PySem.boot_len (pa_cons (pv 0) pa_nil)) (pv 1) (nomark _)) (pss_one (ps_raiseX rfl T.xFull D_dye (hr.mono (by decide)) (takes_of rfl rfl rfl rfl) (by rfl) T.gFull (pv 1))) pss_nil)), ?_⟩
    refine ⟨_, rfl, d, xs, rfl, .inl (SqL.of hd), _, rfl, _, _, rfl, rfl, _, rfl, ?_⟩
    refine ifd (fun h2 => ?_) (fun h2 => ?_)
    · exact ⟨_, rfl, leaves_now T.xFull (kF h2) Ext.refl⟩
    · exact kN (by omega)
end

end K18
namespace K18
open PySem PySem.Spec PyProof.Rows L2 He Tp ClX LiI

section
variable {P : Program} {w : World} {K : PySem.W.Frag} {mg : Str → Option Value} {base : Heap}
theorem ok_check_between (T : Txt K mg) : Df P w K mg base (L2.CX P w) 3 "check_between" ["value", "least", "most"] (spBetween K (ga K "BadNumber")) := by
  have D_is_whole := ok_is_whole (P := P) (w := w) (base := base) T
  have D_dye := dye (P := P) (w := w) (base := base) T
  refine Df.mk' T.gcheck_between T.fcheck_between (fun _ _ _ _ _ _ us hl => match us, hl with | [_, _, _], _ => rfl) fun fd F => F.ok sc_check_between (fun vs H Q E h => ?_) (fun cdv A outer s H vs Q E hr h => ?_)
  · obtain ⟨v, lo, hi, rfl, _⟩ := h
    rfl
  · obtain ⟨v, lo, hi, rfl, p, kY, kN⟩ := h
    have hr_is_whole := hr.mono (show 1 ≤ 2 by decide)
    refine ⟨_, (pss_one (ps_if (PW.pt (pw_or (pt_not (pt_val (pe_cd D_is_whole hr_is_whole (by rfl) pass0 (pa_cons (pv 0) pa_nil)))) (pw_or1 (pt_not (pt_chain op_le op_le (pv 1) (pv 0) (pv 2)))))) (pss_one (ps_raiseX rfl T.xBadNumber D_dye (hr.mono (by decide)) (takes_of rfl rfl rfl rfl) (by rfl) T.gBadNumber (pv 0))) pss_nil)), ?_⟩
    refine ⟨_, rfl, v, rfl, p, _, rfl, ?_⟩
    cases p with
    | int i =>
      refine iteF ?_
      refine val_chain (val_var rfl) (val_var rfl) (val_var rfl) (fun _ q => ⟨lo, i, rfl, rfl, q⟩) (fun _ q => ⟨i, hi, rfl, rfl, q⟩) _ ⟨_, rfl, ?_⟩
      refine ifb (fun h => ?_) (fun h => ?_)
      · refine ⟨_, rfl, leaves_now T.xBadNumber (kN fun z => ?_) Ext.refl⟩
        rw [decide_eq_true z.1, decide_eq_true z.2] at h
        cases h
      · have h' : (decide (lo ≤ i) && decide (i ≤ hi)) = true := by simpa using h
        rw [Bool.and_eq_true] at h'
        exact kY ⟨of_decide_eq_true h'.1, of_decide_eq_true h'.2⟩
    | _ => exact iteT ⟨_, rfl, leaves_now T.xBadNumber (kN fun z => z) Ext.refl⟩
theorem ok_init (T : Txt K mg) {fd : FuncData} (F : FnM K "Book" "__init__" "Book.__init__" s_Book___init__ [("bound", .int 24)] fd) : FnOk P w K mg base (L2.CX P w) 4 (ma K (cB K) "__init__") fd ["self", "bound"] (spBookInit K (cB K) (ga K "BadNumber")) := by
  have D_check_between := ok_check_between (P := P) (w := w) (base := base) T
  refine F.ok sc_Book___init__ (fun vs H Q E h => ?_) (fun cdv A outer s H vs Q E hr h => ?_)
  · obtain ⟨p, dx, v, rfl, _⟩ := h
    rfl
  · obtain ⟨p, dx, v, rfl, pv_, hp, kN, kY⟩ := h
    have hr_check_between := hr.mono (show 3 ≤ 3 by decide)
    obtain ⟨mc, rd, ⟨u1, c1⟩, u2, c2⟩ := T.rd
    refine ⟨_, (pss_cons (ps_expr (pe_cd D_check_between hr_check_between (by rfl) (passes_call (takes_of rfl rfl rfl rfl) (fun _ _ _ _ z => z)) (pa_cons (pv 1) (pa_cons pe_int (pa_cons (pe_cval (pe_glob (v := .ref (ga K "Book")) (by rfl) T.gBook rfl)) pa_nil)))))
   (pss_cons (ps_fld (pv 0) (pv 1) rfl)
   (pss_cons (ps_fld (pv 0) pe_dnewK rfl)
   (pss_cons (ps_fld (pv 0) (pe_lst pa_nil) rfl)
   (pss_cons (ps_fld (pv 0) (pe_lst pa_nil) rfl)
   (pss_cons (ps_fld (pv 0) pe_dnewK rfl)
   (pss_cons (ps_fld (pv 0) (pe_lst pa_nil) rfl)
   (pss_one (ps_fld (pv 0) (pe_lst pa_nil) rfl))))))))), ?_⟩
    refine ⟨_, rfl, cB K, mc, .int 24, u2, rfl, rd, c2, ?_⟩
    refine ⟨v, 0, 24, rfl, pv_, fun hb => ?_, kN⟩
    obtain ⟨i, rfl, h0, h1⟩ : ∃ i, v = .int i ∧ 0 ≤ i ∧ i ≤ 24 := by
      cases v with
      | int i => exact ⟨i, rfl, hb⟩
      | _ => exact hb.elim
    -- the seven fields, one after the other
    refine ⟨_, rfl, _, rfl, p, cB K, dx, [], rfl, hp, T.cl, T.n_bound, (by show 0 < 1000; decide), ?_⟩
    refine fun dk hdk => ?_
    simp only [upd_none_iff] at hdk
    refine ⟨_, rfl, p, cB K, dx, _, rfl, by rw [upd_ne (Ne.symm hdk.1)]; exact upd_same, T.cl, T.n_kinds, (by show 1 < 1000; decide), ?_⟩
    refine ⟨(by show 0 ≤ sizeLine; decide), fun lt hlt => ?_⟩
    simp only [upd_none_iff] at hlt
    refine ⟨_, rfl, p, cB K, dx, _, rfl, by rw [upd_ne (Ne.symm hlt.1)]; exact upd_same, T.cl, T.n_thirsts, (by show 2 < 1000; decide), ?_⟩
    refine ⟨(by show 0 ≤ sizeLine; decide), fun lp hlp => ?_⟩
    simp only [upd_none_iff] at hlp
    refine ⟨_, rfl, p, cB K, dx, _, rfl, by rw [upd_ne (Ne.symm hlp.1)]; exact upd_same, T.cl, T.n_pots, (by show 3 < 1000; decide), ?_⟩
    refine fun dc hdc => ?_
    simp only [upd_none_iff] at hdc
    refine ⟨_, rfl, p, cB K, dx, _, rfl, by rw [upd_ne (Ne.symm hdc.1)]; exact upd_same, T.cl, T.n_cloths, (by show 4 < 1000; decide), ?_⟩
    refine ⟨(by show 0 ≤ sizeLine; decide), fun ld hld => ?_⟩
    simp only [upd_none_iff] at hld
    refine ⟨_, rfl, p, cB K, dx, _, rfl, by rw [upd_ne (Ne.symm hld.1)]; exact upd_same, T.cl, T.n_dips, (by show 5 < 1000; decide), ?_⟩
    refine ⟨(by show 0 ≤ sizeLine; decide), fun lf hlf => ?_⟩
    simp only [upd_none_iff] at hlf
    refine ⟨_, rfl, p, cB K, dx, _, rfl, by rw [upd_ne (Ne.symm hlf.1)]; exact upd_same, T.cl, T.n_facts, (by show 6 < 1000; decide), ?_⟩
    obtain ⟨k1, k2⟩ := hdk
    obtain ⟨l1, l2, _, l3⟩ := hlt
    obtain ⟨p1, p2, _, p3, _, p4⟩ := hlp
    obtain ⟨c1', c2', _, c3, _, c4, _, c5⟩ := hdc
    obtain ⟨d1, d2, _, d3, _, d4, _, d5, _, d6⟩ := hld
    obtain ⟨f1, f2, _, f3, _, f4, _, f5, _, f6, _, f7⟩ := hlf
    refine kY i ⟨dx, dk, lt, lp, dc, ld, lf⟩ _ rfl h0 h1 ?_ ?_ rfl ?_
    · have k1' := k1.symm; have l1' := l1.symm; have l2' := l2.symm; have p1' := p1.symm; have p2' := p2.symm; have p3' := p3.symm
      have c1'' := c1'.symm; have c2'' := c2'.symm; have c3' := c3.symm; have c4' := c4.symm; have d1' := d1.symm; have d2' := d2.symm; have d3' := d3.symm; have d4' := d4.symm; have d5' := d5.symm
      have f1' := f1.symm; have f2' := f2.symm; have f3' := f3.symm; have f4' := f4.symm; have f5' := f5.symm; have f6' := f6.symm
      refine ⟨Eq.trans upd_same (congrArg (fun l => some (HO.ins (cB K) dx l)) (fsB_make (b := i) (A := ⟨dx, dk, lt, lp, dc, ld, lf⟩))), ?_, ?_, ?_, ?_, ?_, ?_, ?_, ?_, ?_, ?_, ?_, ?_, ?_⟩ <;>
        first | assumption | simp [upd_ne, upd_same, kvB, *]
    · intro a ha
      simp only [List.mem_cons, List.not_mem_nil, or_false] at ha
      rcases ha with rfl | rfl | rfl | rfl | rfl | rfl <;> assumption
    · refine ⟨fun b o q n => ?_, fun b xs q => ?_⟩
      · have hb : b ≠ p := fun e => n (by rw [e]; simp)
        simp [upd_ne, hb, ne_of_none q, *]
      · have hb : b ≠ p := fun e => by rw [e, hp] at q; cases q
        simp [upd_ne, hb, ne_of_none q, *]
end

end K18
namespace K18
open PySem PySem.Spec PyProof.Rows L2 He Tp ClX LiI

section
variable {P : Program} {w : World} {K : PySem.W.Frag} {mg : Str → Option Value} {base : Heap}
theorem dpHOLDS (T : Txt K mg) (H : Hp) : Dp K H (.ref (ga K "HOLDS")) (.tuple [.str "fast", .str "loose", .str "unsure"]) := .tup (T.tHOLDS H) (.cons (.str _) (.cons (.str _) (.cons (.str _) .nil)))
theorem ok_add_kind (T : Txt K mg) {fd : FuncData} (F : FnM K "Book" "add_kind" "Book.add_kind" s_Book_add_kind [("hold", .str "unsure")] fd) : FnOk P w K mg base (L2.CX P w) 4 (ma K (cB K) "add_kind") fd ["self", "name", "hold"] (spAddKind K (cB K)) := by
  have D__check_new := ok_check_newD (P := P) (w := w) (base := base) T
  have D__check_room := ok_check_roomD (P := P) (w := w) (base := base) T
  have D_dye := dye (P := P) (w := w) (base := base) T
  refine F.ok sc_Book_add_kind (fun vs H Q E h => ?_) (fun cdv A outer s H vs Q E hr h => ?_)
  · obtain ⟨p, v, h, d, i, A, ks, ts, ps, cs, ds, fs, rfl, _⟩ := h
    rfl
  · obtain ⟨p, v, h, d, i, A, ks, ts, ps, cs, ds, fs, rfl, pv_, hh, okd, B, hl, kX, kN⟩ := h
    have hu := hu_of hr
    have hu65 := hu65_of hr
    have hr__check_new := hr
    have hr__check_room := hr
    obtain ⟨mc, rd, ⟨u1, c1⟩, u2, c2⟩ := T.rd
    refine ⟨_, (pss_cons (ps_expr (pe_cd D__check_new hr__check_new (by rfl) (passes_call (takes_of rfl rfl rfl rfl) (fun _ _ _ _ z => z)) (pa_cons (pv 1) (pa_cons (pe_fld (pv 0) rfl) pa_nil))))
   (pss_cons (ps_if (pt_cmpR (op_notInT hu65) (pv 2) (pe_glob (v := .ref (ga K "HOLDS")) (by rfl) T.gHOLDS rfl) (by rfl)) (pss_one (ps_raiseX rfl T.xBadHold D_dye (hr.mono (by decide)) (takes_of rfl rfl rfl rfl) (by rfl) T.gBadHold (pv 2))) pss_nil)
   (pss_cons (ps_expr (pe_cd D__check_room hr__check_room (by rfl) (passes_call (takes_of rfl rfl rfl rfl) (fun _ _ _ _ z => z)) (pa_cons (pe_fld (pv 0) rfl) (pa_cons (pe_cval (pe_glob (v := .ref (ga K "Book")) (by rfl) T.gBook rfl)) pa_nil))))
   (pss_one (ps_dput hu (pe_fld (pv 0) rfl) (pv 1) (pv 2) rfl))))), ?_⟩
    refine ⟨_, rfl, _, rfl, p, cB K, A.dx, _, _, rfl, B.ob, T.cl, T.n_kinds, fsB_kinds, ?_⟩
    refine ⟨v, _, fun z => decide (z ∈ ks.map (·.1)), rfl, pv_, ⟨A.dk, kvB ks, rfl, B.dk, fun z => valV_kvB.symm⟩, fun e => kX _ _ (refK_name e), fun z ev hn hit => ?_, fun z ev hn hit H1 e1 => ?_⟩
    · subst ev
      refine kX _ _ ?_
      show (if nmS z = false then _ else _) = _
      rw [if_neg (by rw [hn]; decide), if_pos (of_decide_eq_true hit)]
    · subst ev
      have hz : z ∉ ks.map (·.1) := of_decide_eq_false hit
      have hk : refK ks (.str z) h (holdD d) = if holdD d = false then some (("BadHold" : Str), h) else if 8 ≤ ks.length then some (("Full" : Str), V.int 8) else none := by
        show (if nmS z = false then _ else _) = _
        rw [if_neg (by rw [hn]; decide), if_neg hz]
      have B1 := B.ext e1 (fun _ _ => by simp)
      refine ⟨_, rfl, d, _, (hh.ext e1).dp, dpHOLDS T H1, okd.shaped, (by decide +kernel), _, rfl, ?_⟩
      refine ifb (fun h1 => ?_) (fun h1 => ?_)
      · have h1' : holdD d = false := by
          have h2 : (!holdD d) = true := h1
          simpa using h2
        exact ⟨_, rfl, leaves_now T.xBadHold (kX _ _ (by rw [hk, if_pos h1'])) e1⟩
      · have h1' : holdD d = true := by
          have h2 : (!holdD d) = false := h1
          simpa using h2
        rw [if_neg (by rw [h1']; decide)] at hk
        refine ⟨_, rfl, p, cB K, A.dx, _, _, rfl, B1.ob, T.cl, T.n_kinds, fsB_kinds, cB K, mc, .int 8, u1, rfl, rd, c1, ?_⟩
        refine ⟨_, ks.length, 8, rfl, ⟨A.dk, _, rfl, B1.dk, by rw [List.length_map]⟩, fun h2 => (kX _ _ (by rw [hk, if_pos (by omega)])).ext e1, fun h2 => ?_⟩
        rw [if_neg (by omega)] at hk
        refine ⟨_, rfl, _, rfl, p, cB K, A.dx, _, _, rfl, B1.ob, T.cl, T.n_kinds, fsB_kinds, _, rfl, A.dk, _, rfl, DPut.k (k := Sum.inr z) B1.dk (by rw [List.length_map]; exact small1000 hl), ?_⟩
        rw [putK_kvB hz]
        refine kN hk _ ((e1.nil).mut (by simp) (fun xs z => by rw [B.dk] at z; cases z)) (B1.setK _)
end

end K18
namespace K18
open PySem PySem.Spec PyProof.Rows L2 He Tp ClX LiI

section
variable {P : Program} {w : World} {K : PySem.W.Frag} {mg : Str → Option Value} {base : Heap}
theorem ok_add_pot (T : Txt K mg) {fd : FuncData} (F : FnM K "Book" "add_pot" "Book.add_pot" s_Book_add_pot [] fd) : FnOk P w K mg base (L2.CX P w) 4 (ma K (cB K) "add_pot") fd ["self", "name"] (spAddPot K (cB K)) := by
  have D__check_new := ok_check_newL (P := P) (w := w) (base := base) T
  have D__check_room := ok_check_roomL (P := P) (w := w) (base := base) T
  refine F.ok sc_Book_add_pot (fun vs H Q E h => ?_) (fun cdv A outer s H vs Q E hr h => ?_)
  · obtain ⟨p, v, i, A, ks, ts, ps, cs, ds, fs, rfl, _⟩ := h
    rfl
  · obtain ⟨p, v, i, A, ks, ts, ps, cs, ds, fs, rfl, pv_, B, hl, kX, kN⟩ := h
    have hr__check_new := hr
    have hr__check_room := hr
    obtain ⟨mc, rd, ⟨u1, c1⟩, u2, c2⟩ := T.rd
    refine ⟨_, (pss_cons (ps_expr (pe_cd D__check_new hr__check_new (by rfl) (passes_call (takes_of rfl rfl rfl rfl) (fun _ _ _ _ z => z)) (pa_cons (pv 1) (pa_cons (pe_fld (pv 0) rfl) pa_nil))))
   (pss_cons (ps_expr (pe_cd D__check_room hr__check_room (by rfl) (passes_call (takes_of rfl rfl rfl rfl) (fun _ _ _ _ z => z)) (pa_cons (pe_fld (pv 0) rfl) (pa_cons (pe_cval (pe_glob (v := .ref (ga K "Book")) (by rfl) T.gBook rfl)) pa_nil))))
   (pss_one (ps_expr (pe_bm PySem.F.plainAttrs_list PySem.F.slot_list_append PySem.F.type_list_append mt_append (pe_fld (pv 0) rfl) (pa_cons (pv 1) pa_nil)))))), ?_⟩
    refine ⟨_, rfl, _, rfl, p, cB K, A.dx, _, _, rfl, B.ob, T.cl, T.n_pots, fsB_pots, ?_⟩
    refine ⟨v, _, fun z => decide (z ∈ ps), rfl, pv_, ⟨A.lp, ps, rfl, B.lp, fun z => inV_strs.symm⟩, fun e => kX _ _ (refP_name e), fun z ev hn hit => ?_, fun z ev hn hit H1 e1 => ?_⟩
    · subst ev
      refine kX _ _ ?_
      show (if nmS z = false then _ else _) = _
      rw [if_neg (by rw [hn]; decide), if_pos (of_decide_eq_true hit)]
    · subst ev
      have hz : z ∉ ps := of_decide_eq_false hit
      have hk : refP ps (.str z) = if 8 ≤ ps.length then some (("Full" : Str), V.int 8) else none := by
        show (if nmS z = false then _ else _) = _
        rw [if_neg (by rw [hn]; decide), if_neg hz]
      have B1 := B.ext e1 (fun _ _ => by simp)
      refine ⟨_, rfl, p, cB K, A.dx, _, _, rfl, B1.ob, T.cl, T.n_pots, fsB_pots, cB K, mc, .int 8, u1, rfl, rd, c1, ?_⟩
      refine ⟨_, ps.length, 8, rfl, ⟨A.lp, _, rfl, B1.lp, by rw [List.length_map]⟩, fun h2 => (kX _ _ (by rw [hk, if_pos (by omega)])).ext e1, fun h2 => ?_⟩
      rw [if_neg (by omega)] at hk
      refine ⟨_, rfl, p, cB K, A.dx, _, _, rfl, B1.ob, T.cl, T.n_pots, fsB_pots, .inl ⟨rfl, _, SqL.of B1.lp⟩, _, rfl, A.lp, _, _, rfl, rfl, B1.lp, (by rw [List.length_map]; exact small1000 hl), ?_⟩
      have e : ps.map V.str ++ [V.str z] = (ps ++ [z]).map V.str := by rw [List.map_append] <;> rfl
      rw [e]
      exact kN hk _ ((e1.nil).mut (by simp) (fun xs z => by rw [B.lp] at z; cases z)) (B1.setP _)
end

end K18
namespace K18
open PySem PySem.Spec PyProof.Rows L2 He Tp ClX LiI

section
variable {P : Program} {w : World} {K : PySem.W.Frag} {mg : Str → Option Value} {base : Heap}
theorem ok_add_cloth (T : Txt K mg) {fd : FuncData} (F : FnM K "Book" "add_cloth" "Book.add_cloth" s_Book_add_cloth [] fd) : FnOk P w K mg base (L2.CX P w) 4 (ma K (cB K) "add_cloth") fd ["self", "name", "kind"] (spAddCloth K (cB K)) := by
  have D__check_new := ok_check_newD (P := P) (w := w) (base := base) T
  have D__check_known := ok_check_knownD (P := P) (w := w) (base := base) T
  have D__check_room := ok_check_roomD (P := P) (w := w) (base := base) T
  refine F.ok sc_Book_add_cloth (fun vs H Q E h => ?_) (fun cdv A outer s H vs Q E hr h => ?_)
  · obtain ⟨p, v, k, i, A, ks, ts, ps, cs, ds, fs, rfl, _⟩ := h
    rfl
  · obtain ⟨p, v, k, i, A, ks, ts, ps, cs, ds, fs, rfl, pv_, pk0, pk, B, hl, kX, kN⟩ := h
    have hu := hu_of hr
    have hr__check_new := hr
    have hr__check_known := hr
    have hr__check_room := hr
    obtain ⟨mc, rd, ⟨u1, c1⟩, u2, c2⟩ := T.rd
    refine ⟨_, (pss_cons (ps_expr (pe_cd D__check_new hr__check_new (by rfl) (passes_call (takes_of rfl rfl rfl rfl) (fun _ _ _ _ z => z)) (pa_cons (pv 1) (pa_cons (pe_fld (pv 0) rfl) pa_nil))))
   (pss_cons (ps_expr (pe_cd D__check_known hr__check_known (by rfl) (passes_call (takes_of rfl rfl rfl rfl) (fun _ _ _ _ z => z)) (pa_cons (pv 2) (pa_cons (pe_fld (pv 0) rfl) pa_nil))))
   (pss_cons (ps_expr (pe_cd D__check_room hr__check_room (by rfl) (passes_call (takes_of rfl rfl rfl rfl) (fun _ _ _ _ z => z)) (pa_cons (pe_fld (pv 0) rfl) (pa_cons (pe_cval (pe_glob (v := .ref (ga K "Book")) (by rfl) T.gBook rfl)) pa_nil))))
   (pss_one (ps_dput hu (pe_fld (pv 0) rfl) (pv 1) (pv 2) rfl))))), ?_⟩
    refine ⟨_, rfl, _, rfl, p, cB K, A.dx, _, _, rfl, B.ob, T.cl, T.n_cloths, fsB_cloths, ?_⟩
    refine ⟨v, _, fun z => decide (z ∈ cs.map (·.1)), rfl, pv_, ⟨A.dc, kvB cs, rfl, B.dc, fun z => valV_kvB.symm⟩, fun e => kX _ _ (refC_name e), fun z ev hn hit => ?_, fun z ev hn hit H1 e1 => ?_⟩
    · subst ev
      refine kX _ _ ?_
      show (if nmS z = false then _ else _) = _
      rw [if_neg (by rw [hn]; decide), if_pos (of_decide_eq_true hit)]
    · subst ev
      have hz : z ∉ cs.map (·.1) := of_decide_eq_false hit
      have hk : refC cs ks (.str z) k = refC2 cs ks k := by
        show (if nmS z = false then _ else _) = _
        rw [if_neg (by rw [hn]; decide), if_neg hz]
      have B1 := B.ext e1 (fun _ _ => by simp)
      refine ⟨_, rfl, _, rfl, p, cB K, A.dx, _, _, rfl, B1.ob, T.cl, T.n_kinds, fsB_kinds, ?_⟩
      refine ⟨k, _, fun z => decide (z ∈ ks.map (·.1)), rfl, pk H1 e1, ⟨A.dk, kvB ks, rfl, B1.dk, fun z => valV_kvB.symm⟩, fun e => (kX _ _ ?_).ext e1, fun y ey hit => ?_⟩
      · rw [hk]
        cases k with
        | str y => exact if_neg (of_decide_eq_false (e y rfl))
        | _ => rfl
      subst ey
      have hy : y ∈ ks.map (·.1) := of_decide_eq_true hit
      have hk2 : refC cs ks (.str z) (.str y) = if 8 ≤ cs.length then some (("Full" : Str), V.int 8) else none := by
        rw [hk]
        exact if_pos hy
      refine ⟨_, rfl, p, cB K, A.dx, _, _, rfl, B1.ob, T.cl, T.n_cloths, fsB_cloths, cB K, mc, .int 8, u1, rfl, rd, c1, ?_⟩
      refine ⟨_, cs.length, 8, rfl, ⟨A.dc, _, rfl, B1.dc, by rw [List.length_map]⟩, fun h2 => (kX _ _ (by rw [hk2, if_pos (by omega)])).ext e1, fun h2 => ?_⟩
      rw [if_neg (by omega)] at hk2
      refine ⟨_, rfl, _, rfl, p, cB K, A.dx, _, _, rfl, B1.ob, T.cl, T.n_cloths, fsB_cloths, _, rfl, A.dc, _, rfl, DPut.k (k := Sum.inr z) B1.dc (by rw [List.length_map]; exact small1000 hl), ?_⟩
      rw [putK_kvB hz]
      refine kN hk2 _ ((e1.nil).mut (by simp) (fun xs z => by rw [B.dc] at z; cases z)) (B1.setC _)
end

end K18
namespace K18
open PySem PySem.Spec PyProof.Rows L2 He Tp ClX LiI

section
variable {P : Program} {w : World} {K : PySem.W.Frag} {mg : Str → Option Value} {base : Heap}
theorem ok_draw (T : Txt K mg) : Df P w K mg base CX0 1 "_law_draw" ["_law_source_here", "_law_many"] spDraw := by
  refine Df.mk' T.g_law_draw T.f_law_draw (fun _ _ _ _ _ _ us hl => match us, hl with | [_, _], _ => rfl) fun fd F => F.ok sc__law_draw (fun vs H Q E h => ?_) (fun cdv A outer s H vs Q E hr h => ?_)
  · obtain ⟨S, L, cells, i, k, g, many, rfl, _⟩ := h
    rfl
  · obtain ⟨S, L, cells, i, k, g, many, rfl, hS, hL, ok, hm, hm2, kont⟩ := h
    have nd := sc__law_draw.nd
    have SL : S ≠ L := by
      intro e; rw [e, hL] at hS
      have z := Option.some.inj hS
      injection z with z
      cases cells <;> simp at z
    refine ⟨_, PSs.nox
   (pss_cons (ps_if (pt_cmpR op_ge (pe_ix ix_list (pv 0) pe_int (fun _ _ => rfl)) (pe_callB call_len_seq (by rfl) T.blen PySem.boot_len (pa_cons (pe_ix ix_list (pv 0) pe_int (fun _ _ => rfl)) pa_nil)) (nomark _)) (pss_one (ps_ret pe_int)) pss_nil)
   (pss_cons (ps_set (i := 2) nd rfl (by first | exact Or.inl rfl | exact Or.inr rfl) (pe_ix ix_list (pe_ix ix_list (pv 0) pe_int (fun _ _ => rfl)) (pe_ix ix_list (pv 0) pe_int (fun _ _ => rfl)) (fun _ _ => rfl)))
   (pss_cons (ps_set (i := 3) nd rfl (by first | exact Or.inl rfl | exact Or.inr rfl) (pe_or (pe_cmpR op_ge (pv 2) (pe_op op_pow pe_int pe_int) (nomark _)) (pe_one (pe_cmpR op_le (pv 2) (pe_op op_sub pe_int (pe_op op_pow pe_int pe_int)) (nomark _)))))
   (Evl.pss_cut (ps_if (PW.pt (pw_and (pt_val (pv 3)) (pw_and1 (pt_cmpR op_eq (pe_ix ix_list (pv 0) pe_int (fun _ _ => rfl)) pe_int (nomark _))))) (pss_one (ps_asg (pe_callB (call_abs) (by rfl) T.babs (by decide +kernel) (pa_cons (pv 2) pa_nil)) (pg_sub (pv 0) pe_int set_list))) pss_nil)
   (Evl.pss_cut (ps_if (pt_val (pv 3)) (pss_cons (ps_set (i := 4) nd rfl (by first | exact Or.inl rfl | exact Or.inr rfl) (pe_op op_mod (pe_callTy call_int1 (by rfl) T.bint (by decide +kernel) (pa_cons (pe_ix ix_list (pv 0) pe_int (fun _ _ => rfl)) pa_nil)) (pv 1)))
   (pss_one (ps_asg (pe_op op_fdivW (pe_ix ix_list (pv 0) pe_int (fun _ _ => rfl)) (pv 1)) (pg_sub (pv 0) pe_int set_list)))) (pss_cons (ps_set (i := 5) nd rfl (by first | exact Or.inl rfl | exact Or.inr rfl) (pe_op op_add (pe_op op_add (pe_op op_mul (pe_ix ix_list (pv 0) pe_int (fun _ _ => rfl)) pe_int) (pe_op op_mul (pe_ix ix_list (pv 0) pe_int (fun _ _ => rfl)) pe_int)) pe_int))
   (pss_cons (ps_set (i := 6) nd rfl (by first | exact Or.inl rfl | exact Or.inr rfl) (pe_op op_mod (pe_callTy call_int1 (by rfl) T.bint (by decide +kernel) (pa_cons (pe_op op_add (pe_op op_mul (pv 2) pe_int) (pv 5)) pa_nil)) pe_int))
   (pss_cons (ps_set (i := 6) nd rfl (by first | exact Or.inl rfl | exact Or.inr rfl) (pe_op op_mod (pe_callTy call_int1 (by rfl) T.bint (by decide +kernel) (pa_cons (pe_op op_add (pe_op op_add (pe_op op_mul (pv 6) (pv 6)) (pe_op op_mul (pv 2) pe_int)) (pe_ix ix_list (pv 0) pe_int (fun _ _ => rfl))) pa_nil)) pe_int))
   (pss_one (ps_set (i := 4) nd rfl (by first | exact Or.inl rfl | exact Or.inr rfl) (pe_op op_mod (pe_callTy call_int1 (by rfl) T.bint (by decide +kernel) (pa_cons (pv 6) pa_nil)) (pv 1))))))))
   (pss_cons (ps_asg (pe_op op_add (pe_ix ix_list (pv 0) pe_int (fun _ _ => rfl)) pe_int) (pg_sub (pv 0) pe_int set_list))
   (pss_cons (ps_if (PW.pt (pw_or (pt_cmpR op_ge (pe_ix ix_list (pv 0) pe_int (fun _ _ => rfl)) pe_int (nomark _)) (pw_or (PW.pt (pw_and (pt_not (pt_val (pv 3))) (pw_and1 (pt_cmpR op_ge (pe_ix ix_list (pv 0) pe_int (fun _ _ => rfl)) pe_int (nomark _))))) (pw_or1 (PW.pt (pw_and (pt_val (pv 3)) (pw_and1 (pt_cmpR op_eq (pe_ix ix_list (pv 0) pe_int (fun _ _ => rfl)) pe_int (nomark _))))))))) (pss_cons (ps_asg (pe_op op_add (pe_ix ix_list (pv 0) pe_int (fun _ _ => rfl)) pe_int) (pg_sub (pv 0) pe_int set_list))
   (pss_one (ps_asg pe_int (pg_sub (pv 0) pe_int set_list)))) pss_nil)
   (pss_one (ps_ret (pv 4)))))))))), ?_⟩
    have p18 : CPow 10 18 := ⟨by decide, by decide, by decide⟩
    have si : ∀ {σ : L2.St} {k' g' : Int} {j : Int} {v : V}, σ[0]? = some (some (.ref S)) → atI [V.ref L, .int i, .int k', .int g'] j = some v → Val (tOp (rIxL K) (tVar 0) (tC (.int j))) σ (upd H S (srcO L i k' g')) v := fun e a => val_ixL (val_var e) val_c (SqL.of upd_same) a
    have s0 : ∀ {σ : L2.St} {j : Int} {v : V}, σ[0]? = some (some (.ref S)) → atI [V.ref L, .int i, .int k, .int g] j = some v → Val (tOp (rIxL K) (tVar 0) (tC (.int j))) σ H v := fun e a => val_ixL (val_var e) val_c (SqL.of hS) a
    refine sq_when (ans_int (s0 rfl rfl) (val_len (s0 rfl rfl) (SqL.of hL))) (fun _ => ?_) (fun hi => ?_)
    · have := kont 0 i k g (Int.le_refl 0) hm ok
      rw [upd_self hS] at this
      exact this
    rw [List.length_map] at hi
    have hi' : i < (cells.length : Int) := by have := of_decide_eq_false hi; omega
    obtain ⟨c, hc⟩ := cell_at ok.i0 hi'
    refine sq_set (val_ixL (s0 rfl rfl) (s0 rfl rfl) (SqL.of hL) hc) ?_
    -- great
    refine sq_set (val_orV (val_int (val_var rfl) (val_intC val_c val_c p18)) (val_int (val_var rfl) (val_int val_c (val_intC val_c val_c p18)))) ?_
    rw [pow18]
    generalize eb : (decide ((1000000000000000000 : Int) ≤ c) || decide (c ≤ 0 - (1000000000000000000 : Int))) = b
    -- the first number of a great cell
    refine Evl.q_cut (M := fun σ' H' => σ' = [some (.ref S), some (.int many), some (.int c), some (.bl b), none, none, none] ∧ ∃ g', 0 ≤ g' ∧ H' = upd H S (srcO L i k g')) ?_ ?_
    · refine st_if (ans_and2 (ans_val (val_var rfl)) (ans_eq (s0 rfl rfl) val_c rfl rfl)) (fun _ => ?_) (fun _ => ?_)
      · exact st_setL hS (val_abs (val_var rfl)) (val_var rfl) val_c rfl ⟨rfl, _, by split <;> omega, rfl⟩
      · exact ⟨rfl, g, ok.g0, (upd_self hS).symm⟩
    rintro σ1 H1 ⟨rfl, g1, hg1, rfl⟩
    -- the number
    refine Evl.q_cut (M := fun σ' H' => ∃ n x5 x6 g', σ' = [some (.ref S), some (.int many), some (.int c), some (.bl b), some (.int n), x5, x6] ∧ 0 ≤ n ∧ n < many ∧ 0 ≤ g' ∧ H' = upd H S (srcO L i k g')) ?_ ?_
    · refine st_if (ans_val (val_var rfl)) (fun _ => ?_) (fun h => ?_)
      · refine sq_set (val_intC (val_toInt (si rfl rfl)) (val_var rfl) hm) ?_
        refine st_setL upd_same (val_intC (si rfl rfl) (val_var rfl) (wide_div (b := 200) hm (by omega) (by decide) (by decide))) (val_var rfl) val_c rfl ?_
        rw [upd_upd]
        exact ⟨_, _, _, _, rfl, Int.emod_nonneg _ (by omega), Int.emod_lt_of_pos _ hm, Int.ediv_nonneg hg1 (by omega), rfl⟩
      · have hc1 : -(2 ^ 64) < c ∧ c < 2 ^ 64 := by
          rw [h] at eb
          have e := Bool.or_eq_false_iff.mp eb
          have e1 := of_decide_eq_false e.1
          have e2 := of_decide_eq_false e.2
          omega
        have m1 : ∀ x : Int, -(2 ^ 64) < x % 2147483647 ∧ x % 2147483647 < 2 ^ 64 := fun x => by
          have a1 := Int.emod_nonneg x (show (2147483647 : Int) ≠ 0 by decide)
          have a2 := Int.emod_lt_of_pos x (show (0 : Int) < 2147483647 by decide)
          omega
        refine sq_set (val_int (val_int (val_intC (si rfl rfl) val_c (.inr (by decide))) (val_intC (si rfl rfl) val_c (.inr (by decide)))) val_c) ?_
        refine sq_set (val_intC (val_toInt (val_int (val_intC (val_var rfl) val_c (.inl hc1)) (val_var rfl))) val_c (by decide)) ?_
        refine sq_set (val_intC (val_toInt (val_int (val_int (val_intC (val_var rfl) (val_var rfl) (.inl (m1 _))) (val_intC (val_var rfl) val_c (.inl hc1))) (si rfl rfl))) val_c (by decide)) ?_
        refine st_set (val_intC (val_toInt (val_var rfl)) (val_var rfl) hm) ?_
        exact ⟨_, _, _, g1, rfl, Int.emod_nonneg _ (by omega), Int.emod_lt_of_pos _ hm, hg1, rfl⟩
    rintro σ2 H2 ⟨n, x5, x6, g2, rfl, n0, n1, hg2, rfl⟩
    -- one more draw out of this cell
    refine sq_setL upd_same (val_int (si rfl rfl) val_c) (val_var rfl) val_c rfl ?_
    rw [upd_upd]
    refine sq_when (ans_or2 (ans_int (si rfl rfl) val_c) (ans_or2 (ans_and2 (ans_not (ans_val (val_var rfl))) (ans_int (si rfl rfl) val_c)) (ans_and2 (ans_val (val_var rfl)) (ans_eq (si rfl rfl) val_c rfl rfl)))) (fun _ => ?_) (fun _ => ?_)
    · refine sq_setL upd_same (val_int (si rfl rfl) val_c) (val_var rfl) val_c rfl ?_
      refine st_setL upd_same val_c (val_var rfl) val_c rfl ?_
      rw [upd_upd, upd_upd]
      exact st_ret (val_var rfl) (kont n (i + 1) 0 g2 n0 n1 ⟨by have := ok.i0; omega, Int.le_refl 0, hg2, ok.len⟩)
    · exact st_ret (val_var rfl) (kont n i (k + 1) g2 n0 n1 ⟨ok.i0, by have := ok.k0; omega, hg2, ok.len⟩)

theorem ok_drawE (T : Txt K mg) : Df P w K mg base CX0 1 "_law_draw" ["_law_source_here", "_law_many"] spDrawE := by
  obtain ⟨a, b, fd, F, bb⟩ := ok_draw (P := P) (w := w) (base := base) T
  exact ⟨a, b, fd, F.imp draw_imp, bb⟩
end

end K18
namespace K18
open PySem PySem.Spec PyProof.Rows L2 He Tp ClX LiI

section
variable {P : Program} {w : World} {K : PySem.W.Frag} {mg : Str → Option Value} {base : Heap}
theorem ok_source (T : Txt K mg) : Df P w K mg base CX0 1 "_law_source" ["_law_script"] (spSource K) := by
  refine Df.mk' T.g_law_source T.f_law_source (fun _ _ _ _ _ _ us hl => match us, hl with | [_], _ => rfl) fun fd F => F.ok sc__law_source (fun vs H Q E h => ?_) (fun cdv A outer s H vs Q E hr h => ?_)
  · obtain ⟨a, ns, rfl, _⟩ := h
    rfl
  · obtain ⟨a, ns, rfl, hS, hl, q⟩ := h
    have nd := sc__law_source.nd
    refine ⟨_, PSs.nox
   (pss_one (ps_ret (pe_lst (pa_cons (pe_lc (own := [("_law_cell", 1)]) (g := gName 1) (tt := tYes) (by rfl) nd (pi_list (pe_slice sl_list (pv 0) po_none (po_some pe_int))) (blkOk_by (own := [("_law_cell", 1)]) (N := n__law_source) (sc := defScope s__law_source) (by decide +kernel)) (fun _ _ _ _ _ => pg_name (i := 1) nd rfl (by first | exact Or.inl rfl | exact Or.inr rfl)) (fun _ _ _ _ _ => pts_nil) (fun _ _ _ _ _ => (pe_callTy call_int1 (by rfl) T.bint (by decide +kernel) (pa_cons (pv 1) pa_nil)))) (pa_cons pe_int (pa_cons pe_int (pa_cons pe_int pa_nil))))))), ?_⟩
    refine ⟨_, rfl, _, rfl, a, _, rfl, hS, fun c hc => ?_⟩
    have hlen : (cutV (ns.map V.int) none (some 63)).length ≤ 63 := by
      have := cutV_length (ns.map V.int) none (some 63)
      rw [List.length_map] at this
      omega
    have hint : ∀ x ∈ cutV (ns.map V.int) none (some 63), ∃ z, x = V.int z := by
      intro x hx
      have h1 : x ∈ ns.map V.int := by
        unfold cutV at hx
        exact List.mem_of_mem_drop (List.mem_of_mem_take hx)
      obtain ⟨z, _, e⟩ := List.mem_map.mp h1
      exact ⟨z, e.symm⟩
    refine ⟨c, rfl, ⟨_, SqL.of upd_same⟩, fun D hD => ?_⟩
    refine lc_list (K := K) (a := c) (xs := cutV (ns.map V.int) none (some 63)) (fun i H' => ∃ acc : List Int, H' = upd (upd H c (.lst (cutV (ns.map V.int) none (some 63)))) D (.lst (acc.map V.int)) ∧ acc.length = i) ⟨[], rfl, rfl⟩ ?_ ?_ ?_
    · rintro i H' _ ⟨acc, rfl, _⟩
      exact SqL.of (by rw [upd_ne (ne_of_none upd_same hD)]; exact upd_same)
    · rintro i x H' hx ⟨acc, rfl, hacc⟩
      obtain ⟨z, rfl⟩ := hint x (List.mem_of_getElem? hx)
      have hi := (List.getElem?_eq_some_iff.mp hx).1
      refine ⟨wipe1, ?_⟩
      refine tyes ?_
      refine val_toInt (x := z) (val_var rfl) _ ⟨acc.map V.int, upd_same, by rw [List.length_map]; exact small1000 (by omega), acc ++ [z], ?_, by rw [List.length_append, hacc]; rfl⟩
      rw [upd_upd, List.map_append]
      rfl
    · rintro H' ⟨acc, rfl, hacc⟩
      refine ⟨(by show 4 ≤ sizeLine; decide), fun S hS2 => ?_⟩
      simp only [upd_none_iff] at hS2 hD
      refine q S D _ hS2.2.2 hD.2 ⟨fun b o z n => ?_, fun b xs z => ?_⟩ ⟨acc, 0, 0, 0, upd_same, ?_, ⟨Int.le_refl 0, Int.le_refl 0, Int.le_refl 0, by omega⟩⟩
      · rw [upd_ne (ne_of_none z hS2.2.2), upd_ne (ne_of_none z hD.2), upd_ne (ne_of_none z hc)]; exact z
      · rw [upd_ne (ne_of_none z hS2.2.2), upd_ne (ne_of_none z hD.2), upd_ne (ne_of_none z hc)]; exact z
      · rw [upd_ne (Ne.symm hS2.1)]; exact upd_same
end

end K18
namespace K18
open PySem PySem.Spec PyProof.Rows L2 He Tp ClX LiI

section
variable {P : Program} {w : World} {K : PySem.W.Frag} {mg : Str → Option Value} {base : Heap}
theorem ok_wordX (T : Txt K mg) : Df P w K mg base CX0 1 "_law_word" ["_law_number"] spWordX := by
  refine Df.mk' T.g_law_word T.f_law_word (fun _ _ _ _ _ _ us hl => match us, hl with | [_], _ => rfl) fun fd F => F.ok sc__law_word (fun vs H Q E h => ?_) (fun cdv A outer s H vs Q E hr h => ?_)
  · obtain ⟨n, rfl, _⟩ := h
    rfl
  · obtain ⟨n, rfl, q⟩ := h
    have nd := sc__law_word.nd
    refine ⟨_, PSs.nox
   (pss_cons (ps_set (i := 1) nd rfl (by first | exact Or.inl rfl | exact Or.inr rfl) pe_str)
   (pss_cons (ps_set (i := 2) nd rfl (by first | exact Or.inl rfl | exact Or.inr rfl) pe_str)
   (pss_cons (ps_for PassesOwn.never rfl (pi_range1 (by rfl) T.brange (pa_cons pe_int pa_nil)) (pg_name (i := 3) nd rfl (by first | exact Or.inl rfl | exact Or.inr rfl))
   (pss_cons (ps_set (i := 2) nd rfl (by first | exact Or.inl rfl | exact Or.inr rfl) (pe_op op_add_str (pe_ix ix_str (pv 1) (pe_op op_mod (pe_callTy call_int1 (by rfl) T.bint (by decide +kernel) (pa_cons (pv 0) pa_nil)) pe_int) (fun _ _ => rfl)) (pv 2)))
   (pss_cons (ps_set (i := 0) nd rfl (by first | exact Or.inl rfl | exact Or.inr rfl) (pe_op op_sub (pe_op op_fdiv (pv 0) pe_int) pe_int))
   (pss_one (ps_if (pt_cmpR op_lt (pv 0) pe_int (nomark _)) (pss_one ps_break) pss_nil)))))
   (pss_one (ps_ret (pv 2)))))), ?_⟩
    refine sq_set val_c (sq_set val_c ?_)
    refine ⟨12, rfl, by decide, by decide, for_range (n := 12) (fun i σ H' => H' = H ∧ i ≤ 12 ∧ ∃ (m : Nat) (lo : List Nat) (kv : Option V), σ = [some (.int (m : Int)), some (.str Lz), some (.str (txtD lo)), kv] ∧ lo.length = i ∧ dig 12 n = lo ++ dig (12 - i) m) ⟨rfl, by decide, n, [], none, rfl, rfl, rfl⟩ ?_ ?_⟩
    · rintro i σ H' hi ⟨rfl, _, m, lo, kv, rfl, hll, hd⟩
      obtain ⟨f, hf⟩ : ∃ f, 12 - i = f + 1 := ⟨12 - i - 1, by omega⟩
      have hf2 : 12 - (i + 1) = f := by omega
      have hm : m % 26 < 26 := Nat.mod_lt _ (by decide)
      have hc : atI Lz.cps.toList ((m : Int) % 26) = some (m % 26 + 97) := by
        have e : (m : Int) % 26 = ((m % 26 : Nat) : Int) := by omega
        rw [e]
        exact atI_nat (lz_at hm)
      have hlo : (txtD lo).length ≤ 12 := by rw [txtD_len]; omega
      refine sq_set (val_addS (x := ⟨#[m % 26 + 97]⟩) (y := txtD lo) (val_ixS (val_var rfl) (val_intC (val_toInt (val_var rfl)) val_c (by decide)) (by decide +kernel) hc) (val_var rfl) (by have h1 : (⟨#[m % 26 + 97]⟩ : Str).length = 1 := rfl; omega)) ?_
      have hz : (⟨#[m % 26 + 97]⟩ : Str) ++ txtD lo = txtD (lo ++ [m % 26]) := by rw [txtD_app]; rfl
      rw [hz]
      have hdg : dig (12 - i) m = m % 26 :: (if m / 26 = 0 then [] else dig f (m / 26 - 1)) := by rw [hf]; rfl
      refine sq_set (val_int (val_intC (val_var rfl) val_c ⟨by decide, by decide⟩) val_c) ?_
      refine st_if (ans_int (val_var rfl) val_c) (fun h => ?_) (fun h => ?_)
      · have h0 : m / 26 = 0 := by have := of_decide_eq_true h; omega
        refine st_ret (val_var rfl) ?_
        have e : wordOf n = txtD (lo ++ [m % 26]) := by
          unfold wordOf
          rw [hd, hdg, if_pos h0]
        rw [← e]
        exact q
      · have h0 : ¬ m / 26 = 0 := by have := of_decide_eq_false h; omega
        refine ⟨rfl, by omega, m / 26 - 1, lo ++ [m % 26], some (.int (0 + (i : Int))), ?_, by rw [List.length_append, hll]; rfl, ?_⟩
        · have e : (m : Int) / 26 - 1 = ((m / 26 - 1 : Nat) : Int) := by omega
          show [some (V.int ((m : Int) / 26 - 1)), some (V.str Lz), some (V.str (txtD (lo ++ [m % 26]))), some (.int (0 + (i : Int)))] = _
          rw [e]
        · rw [hd, hdg, if_neg h0, hf2, List.append_assoc]
          rfl
    · rintro σ H' ⟨rfl, _, m, lo, kv, rfl, hll, hd⟩
      refine st_ret (val_var rfl) ?_
      have e : wordOf n = txtD lo := by
        unfold wordOf
        rw [hd]
        show txtD (lo ++ []) = _
        rw [List.append_nil]
      rw [← e]
      exact q
end

end K18
namespace K18
open PySem PySem.Spec PyProof.Rows L2 He Tp ClX LiI

section
variable {P : Program} {w : World} {K : PySem.W.Frag} {mg : Str → Option Value} {base : Heap}
theorem ok_nameX (T : Txt K mg) : Df P w K mg base CX0 2 "_law_name" ["_law_source_here", "_law_k"] spNameX := by
  have D__law_draw := ok_drawE (P := P) (w := w) (base := base) T
  have D__law_word := ok_wordX (P := P) (w := w) (base := base) T
  refine Df.mk' T.g_law_name T.f_law_name (fun _ _ _ _ _ _ us hl => match us, hl with | [_, _], _ => rfl) fun fd F => F.ok sc__law_name (fun vs H Q E h => ?_) (fun cdv A outer s H vs Q E hr h => ?_)
  · obtain ⟨S, L, k, rfl, _⟩ := h
    rfl
  · obtain ⟨S, L, k, rfl, hS, q⟩ := h
    have nd := sc__law_name.nd
    have hr__law_draw := hr
    have hr__law_word := hr
    refine ⟨_, PSs.nox
   (pss_cons (ps_set (i := 2) nd rfl (by first | exact Or.inl rfl | exact Or.inr rfl) (pe_ix ix_list (pe_lst (pa_cons pe_int (pa_cons pe_int (pa_cons (pe_op op_pow pe_int pe_int) pa_nil)))) (pe_cd D__law_draw hr__law_draw (by rfl) pass0 (pa_cons (pv 0) (pa_cons pe_int pa_nil))) (fun _ _ => rfl)))
   (pss_one (ps_ret (pe_cd D__law_word hr__law_word (by rfl) pass0 (pa_cons (pe_op op_add (pe_op op_mul (pe_cd D__law_draw hr__law_draw (by rfl) pass0 (pa_cons (pv 0) (pa_cons (pv 2) pa_nil))) pe_int) (pv 1)) pa_nil))))), ?_⟩
    have p15 : CPow 10 15 := ⟨by decide, by decide, by decide⟩
    refine ⟨10, 15, rfl, rfl, p15, ?_⟩
    refine ⟨(by show 3 ≤ sizeLine; decide), fun a ha => ?_⟩
    have S1 : SrcAt (upd H a (.lst [.int 3, .int 1000, .int ((10 : Int) ^ (15 : Int).toNat)])) S L := hS.new ha
    refine draw_ex (i := 0) rfl S1 (by decide) (by decide) val_c (fun n H1 n0 n1 e1 S2 => ?_)
    have aS : a ≠ S := (src_ne_new hS ha).1
    have hL : H1 a = some (.lst [.int 3, .int 1000, .int ((10 : Int) ^ (15 : Int).toNat)]) := e1.keep _ _ upd_same (by simp [aS])
    obtain ⟨m, hm, m0, m1⟩ : ∃ m : Int, atI [V.int 3, .int 1000, .int ((10 : Int) ^ (15 : Int).toNat)] n = some (.int m) ∧ 0 < m ∧ m ≤ 10 ^ 15 := by
      have : n = 0 ∨ n = 1 ∨ n = 2 := by omega
      rcases this with rfl | rfl | rfl
      · exact ⟨3, rfl, by decide, by decide⟩
      · exact ⟨1000, rfl, by decide, by decide⟩
      · exact ⟨_, rfl, by decide, by decide⟩
    refine ⟨a, _, n, _, rfl, rfl, SqL.of hL, hm, ?_⟩
    refine draw_ex (i := 0) rfl S2 m0 (Int.lt_of_le_of_lt m1 (by decide)) (val_var rfl) (fun n' H2 n0' n1' e2 S3 => ?_)
    obtain ⟨a', rfl⟩ := Int.eq_ofNat_of_zero_le n0'
    have hmul : CMul (a' : Int) 8 := .inr (by decide)
    refine ⟨_, 8, rfl, rfl, hmul, ?_⟩
    refine ⟨_, rfl, _, _, rfl, rfl, ?_⟩
    refine ⟨8 * a' + k, ?_, q a' H2 (by omega) (((Ext.new ha).trans e1).trans e2) S3⟩
    show [V.int ((a' : Int) * 8 + (k : Int))] = [V.int ((8 * a' + k : Nat) : Int)]
    have e : (a' : Int) * 8 + (k : Int) = ((8 * a' + k : Nat) : Int) := by omega
    rw [e]
end

end K18
namespace K18
open PySem PySem.Spec PyProof.Rows L2 He Tp ClX LiI

section
variable {P : Program} {w : World} {K : PySem.W.Frag} {mg : Str → Option Value} {base : Heap}
theorem ok_names (T : Txt K mg) : Df P w K mg base CX0 3 "_law_names" ["_law_source_here", "_law_many"] spNames := by
  have D__law_draw := ok_drawE (P := P) (w := w) (base := base) T
  have D__law_word := ok_wordX (P := P) (w := w) (base := base) T
  have D__law_name := ok_nameX (P := P) (w := w) (base := base) T
  refine Df.mk' T.g_law_names T.f_law_names (fun _ _ _ _ _ _ us hl => match us, hl with | [_, _], _ => rfl) fun fd F => F.ok sc__law_names (fun vs H Q E h => ?_) (fun cdv A outer s H vs Q E hr h => ?_)
  · obtain ⟨S, L, many, rfl, _⟩ := h
    rfl
  · obtain ⟨S, L, many, rfl, h8, hS, q⟩ := h
    have nd := sc__law_names.nd
    have hr__law_draw := hr.mono (show 1 ≤ 2 by decide)
    have hr__law_word := hr.mono (show 1 ≤ 2 by decide)
    have hr__law_name := hr
    refine ⟨_, PSs.nox
   (pss_cons (ps_if (pt_cmpR op_eq (pe_cd D__law_draw hr__law_draw (by rfl) pass0 (pa_cons (pv 0) (pa_cons pe_int pa_nil))) pe_int (nomark _)) (pss_one (ps_ret (pe_lc (own := [("_law_k", 5)]) (g := gName 5) (tt := tYes) (by rfl) nd (pi_range1 (by rfl) T.brange (pa_cons (pv 1) pa_nil)) (blkOk_by (own := [("_law_k", 5)]) (N := n__law_names) (sc := defScope s__law_names) (by decide +kernel)) (fun _ _ _ _ _ => pg_name (i := 5) nd rfl (by first | exact Or.inl rfl | exact Or.inr rfl)) (fun _ _ _ _ _ => pts_nil) (fun _ _ _ _ _ => (pe_cd D__law_name hr__law_name (by rfl) pass0 (pa_cons (pv 0) (pa_cons (pv 5) pa_nil))))))) pss_nil)
   (pss_cons (ps_set (i := 2) nd rfl (by first | exact Or.inl rfl | exact Or.inr rfl) (pe_cd D__law_word hr__law_word (by rfl) pass0 (pa_cons (pe_cd D__law_draw hr__law_draw (by rfl) pass0 (pa_cons (pv 0) (pa_cons (pe_ix ix_list (pe_lst (pa_cons pe_int (pa_cons (pe_op op_pow pe_int pe_int) pa_nil))) (pe_cd D__law_draw hr__law_draw (by rfl) pass0 (pa_cons (pv 0) (pa_cons pe_int pa_nil))) (fun _ _ => rfl)) pa_nil))) pa_nil)))
   (pss_cons (ps_set (i := 3) nd rfl (by first | exact Or.inl rfl | exact Or.inr rfl) (pe_cd D__law_draw hr__law_draw (by rfl) pass0 (pa_cons (pv 0) (pa_cons (pe_op op_add (pe_callB call_len_str (by rfl) T.blen PySem.boot_len (pa_cons (pv 2) pa_nil)) pe_int) pa_nil))))
   (pss_cons (ps_set (i := 4) nd rfl (by first | exact Or.inl rfl | exact Or.inr rfl) (pe_cd D__law_draw hr__law_draw (by rfl) pass0 (pa_cons (pv 0) (pa_cons pe_int pa_nil))))
   (pss_one (ps_ret (pe_lc (own := [("_law_k", 5)]) (g := gName 5) (tt := tYes) (by rfl) nd (pi_range1 (by rfl) T.brange (pa_cons (pv 1) pa_nil)) (blkOk_by (own := [("_law_k", 5)]) (N := n__law_names) (sc := defScope s__law_names) (by decide +kernel)) (fun _ _ _ _ _ => pg_name (i := 5) nd rfl (by first | exact Or.inl rfl | exact Or.inr rfl)) (fun _ _ _ _ _ => pts_nil) (fun _ _ _ _ _ => (pe_op op_add_str (pe_op op_add_str (pe_slice sl_str (pv 2) po_none (po_some (pv 3))) (pe_cd D__law_word hr__law_word (by rfl) pass0 (pa_cons (pe_op op_mod (pe_callTy call_int1 (by rfl) T.bint (by decide +kernel) (pa_cons (pe_op op_add (pv 5) (pv 4)) pa_nil)) pe_int) pa_nil))) (pe_slice sl_str (pv 2) (po_some (pv 3)) po_none)))))))))), ?_⟩
    refine draw_ex (i := 0) rfl hS (by decide) (by decide) val_c (fun n H1 n0 n1 e1 S1 => ⟨rfl, _, rfl, ?_⟩)
    refine ifb (fun _ => ?_) (fun _ => ?_)
    · refine ⟨_, rfl, (many : Int), rfl, by omega, by omega, fun D hD => lc_range (lo := 0) (n := (many : Int).toNat) (fun i H' => ∃ f : Nat → Nat, (∀ j, f j < 10 ^ 15) ∧ Ext [S] H1 H' ∧ SrcAt H' S L ∧ H' D = some (.lst (((List.range i).map fun j => wordOf (8 * f j + j)).map V.str))) ⟨fun _ => 0, (fun _ => (by decide : (0 : Nat) < 10 ^ 15)), Ext.new hD, S1.new hD, upd_same⟩ ?_ ?_⟩
      · rintro i H' hi ⟨f, hf, e, s, hA⟩
        refine ⟨wipe1, ?_⟩
        refine tyes ?_
        have DS : D ≠ S := (src_ne_new S1 hD).1
        have DL : D ≠ L := (src_ne_new S1 hD).2
        refine ⟨_, rfl, _, rfl, S, L, i, (by rw [Int.zero_add]; rfl), s, fun a H2 ha e2 s2 => ⟨_, e2.keep _ _ hA (by simpa using DS), ?_, fun j => if j = i then a else f j, fun j => ?_, ?_, s2.keepM (ms := [D]) (Ext.refl.mut (by simp) fun xs z => ?_) (by simpa using DS.symm) ?_, ?_⟩⟩
        · rw [List.length_map, List.length_map, List.length_range]
          exact Evl.sz_lt (by omega)
        · show (if j = i then a else f j) < 10 ^ 15
          split
          · exact ha
          · exact hf j
        · exact (e.trans e2).fresh hD
        · rw [e2.keep _ _ hA (by simpa using DS)] at z
          cases z
        · simpa using DL.symm
        · rw [upd_same, List.range_succ, List.map_append, List.map_append]
          have h1 : (List.range i).map (fun j => wordOf (8 * (if j = i then a else f j) + j)) = (List.range i).map (fun j => wordOf (8 * f j + j)) := List.map_congr_left fun j hj => by rw [if_neg (by have := List.mem_range.mp hj; omega)]
          rw [h1]
          show _ = some (HO.lst (_ ++ [V.str (wordOf (8 * (if i = i then a else f i) + i))]))
          rw [if_pos rfl]
      · rintro H' ⟨f, hf, e, s, hA⟩
        have em : (many : Int).toNat = many := by simp
        rw [em] at hA
        have c12 := cap12
        have key : ∀ j, j < many → 8 * f j + j + 1 ≤ cap 12 := fun j hj => by have := hf j; omega
        exact q _ D H' (by rw [List.length_map, List.length_range]) (names_of (f := fun j => wordOf (8 * f j + j)) (fun i j hi hj e => by
          have := word_inj (key i hi) (key j hj) e
          omega) (fun i _ => nm_word _) (fun i _ => okS_word _)) (e1.none hD (by simpa using (src_ne_new S1 hD).1)) (e1.trans e) s hA
    · have p13 : CPow 10 13 := ⟨by decide, by decide, by decide⟩
      refine ⟨_, rfl, 10, 13, rfl, rfl, p13, (by show 2 ≤ sizeLine; decide), fun l hl => ?_⟩
      have lS := (src_ne_new S1 hl).1
      refine draw_ex (i := 0) rfl (S1.new hl) (by decide) (by decide) val_c (fun n2 H2 n20 n21 e2 S2 => ?_)
      have hL2 : H2 l = some (.lst [.int 3, .int ((10 : Int) ^ (13 : Int).toNat)]) := e2.keep _ _ upd_same (by simpa using lS)
      obtain ⟨m, hm, m0, m1⟩ : ∃ m : Int, atI [V.int 3, .int ((10 : Int) ^ (13 : Int).toNat)] n2 = some (.int m) ∧ 0 < m ∧ m ≤ 10 ^ 13 := by
        have : n2 = 0 ∨ n2 = 1 := by omega
        rcases this with rfl | rfl
        · exact ⟨3, rfl, by decide, by decide⟩
        · exact ⟨_, rfl, by decide, by decide⟩
      refine ⟨l, _, n2, _, rfl, rfl, SqL.of hL2, hm, S, L, m, rfl, S2, m0, Int.lt_of_le_of_lt m1 (by decide), fun n3 H3 n30 n31 e3 S3 => ?_⟩
      obtain ⟨u, rfl⟩ := Int.eq_ofNat_of_zero_le n30
      refine ⟨u, rfl, ?_⟩
      have c10 := cap10
      have hw10 : (wordOf u).length ≤ 10 := word_len (by omega)
      have hwl := ltrs_word u
      generalize wordOf u = wd at hw10 hwl
      have eA : Ext [S] H1 H3 := ((Ext.new (ms := []) hl).nil.trans e2).trans e3
      refine gset ?_
      dsimp only
      refine draw_ex (i := 0) rfl S3 (by omega) (Int.lt_of_le_of_lt (show ((wd.length : Int) + 1) ≤ 11 by omega) (by decide)) (val_int (val_lenS (val_var rfl) (by omega)) val_c) (fun p H4 p0 p1 e4 S4 => ?_)
      obtain ⟨p, rfl⟩ := Int.eq_ofNat_of_zero_le p0
      refine gset ?_
      dsimp only
      refine draw_ex (i := 0) rfl S4 (by decide) (by decide) val_c (fun t H5 t0 t1 e5 S5 => ?_)
      obtain ⟨t, rfl⟩ := Int.eq_ofNat_of_zero_le t0
      have e15 : Ext [S] H1 H5 := eA.trans (e4.trans e5)
      have hcut := cut_len (z := wd) (p := p) (by omega)
      have hone : ∀ k, (wordOf ((k + t) % 8)).length = 1 := fun k => one_len (Nat.mod_lt _ (by decide))
      refine ⟨_, rfl, (many : Int), rfl, by omega, by omega, fun D hD => lc_range (lo := 0) (n := (many : Int).toNat) (fun i H' => H' = upd H5 D (.lst (((List.range i).map fun j => (cutS wd none (some (p : Int)) ++ wordOf ((j + t) % 8)) ++ cutS wd (some (p : Int)) none).map V.str))) rfl ?_ ?_⟩
      · rintro i H' hi rfl
        refine ⟨wipe1, ?_⟩
        refine tyes ?_
        refine ⟨_, rfl, _, rfl, (p : Int), rfl, wd, rfl, Evl.sz_of (by omega), ?_⟩
        refine val_intC (val_toInt (val_int (val_var rfl) (val_var rfl))) val_c (by decide) _ ?_
        refine ⟨(i + t) % 8, ?_, _, _, rfl, rfl, Evl.sz_of (by rw [hone]; omega), _, rfl, _, rfl, (p : Int), rfl, wd, rfl, Evl.sz_of (by omega), _, _, rfl, rfl, Evl.sz_of (by rw [len_append, hone]; omega), _, upd_same, ?_, ?_⟩
        · show [V.int (((0 : Int) + (i : Int) + (t : Int)) % 8)] = [V.int (((i + t) % 8 : Nat) : Int)]
          have e : ((0 : Int) + (i : Int) + (t : Int)) % 8 = (((i + t) % 8 : Nat) : Int) := by omega
          rw [e]
        · rw [List.length_map, List.length_map, List.length_range]
          exact Evl.sz_lt (by omega)
        · rw [upd_upd, List.range_succ, List.map_append, List.map_append]
          rfl
      · rintro H' rfl
        have em : (many : Int).toNat = many := by simp
        rw [em]
        have hlt : ∀ j, ltrs ((cutS wd none (some (p : Int)) ++ wordOf ((j + t) % 8)) ++ cutS wd (some (p : Int)) none) := fun j => ltrs_app (ltrs_app (ltrs_cut hwl) (ltrs_word _)) (ltrs_cut hwl)
        refine q _ D _ (by rw [List.length_map, List.length_range]) (names_of (f := fun j => (cutS wd none (some (p : Int)) ++ wordOf ((j + t) % 8)) ++ cutS wd (some (p : Int)) none) (fun i j hi hj e => ?_) (fun i _ => ltrs_nm (hlt i) (by rw [len_append, len_append, hone]; omega) (by rw [len_append, len_append, hone]; omega)) (fun i _ => ltrs_ok (hlt i)))
          (e1.none (e15.none hD (by simpa using (src_ne_new S5 hD).1)) (by simpa using (src_ne_new S5 hD).1)) ((e1.trans e15).trans ((Ext.new hD).nil)) (S5.new hD) upd_same
        have c12 := cap12
        have := word_inj (n := (i + t) % 8) (m := (j + t) % 8) (by have := Nat.mod_lt (i + t) (show 0 < 8 by decide); omega) (by have := Nat.mod_lt (j + t) (show 0 < 8 by decide); omega) (mid_inj e)
        omega
end

end K18
namespace K18
open PySem PySem.Spec PyProof.Rows L2 He Tp ClX LiI

section
variable {P : Program} {w : World} {K : PySem.W.Frag} {mg : Str → Option Value} {base : Heap}
theorem ok_model (T : Txt K mg) : Df P w K mg base CX0 4 "_law_model" ["_law_source_here", "_law_most"] spModel := by
  have D__law_draw := ok_drawE (P := P) (w := w) (base := base) T
  have D__law_names := ok_names (P := P) (w := w) (base := base) T
  refine Df.mk' T.g_law_model T.f_law_model (fun _ _ _ _ _ _ us hl => match us, hl with | [_, _], _ => rfl) fun fd F => F.ok sc__law_model (fun vs H Q E h => ?_) (fun cdv A outer s H vs Q E hr h => ?_)
  · obtain ⟨S, L, most, rfl, _⟩ := h
    rfl
  · obtain ⟨S, L, most, rfl, hmost, hS, q⟩ := h
    have nd := sc__law_model.nd
    have hr__law_draw := hr.mono (show 1 ≤ 3 by decide)
    have hr__law_names := hr
    refine ⟨_, PSs.nox
   (pss_cons (ps_set (i := 2) nd rfl (by first | exact Or.inl rfl | exact Or.inr rfl) (pe_lst (pa_cons pe_str (pa_cons pe_str (pa_cons pe_str pa_nil)))))
   (pss_cons (ps_set (i := 3) nd rfl (by first | exact Or.inl rfl | exact Or.inr rfl) (pe_ix ix_list (pe_lst (pa_cons pe_int (pa_cons pe_int (pa_cons pe_int pa_nil)))) (pe_cd D__law_draw hr__law_draw (by rfl) pass0 (pa_cons (pv 0) (pa_cons pe_int pa_nil))) (fun _ _ => rfl)))
   (pss_cons (ps_set (i := 4) nd rfl (by first | exact Or.inl rfl | exact Or.inr rfl) (pe_lst (pa_cons (pe_lst pa_nil) (pa_cons (pe_lst pa_nil) (pa_cons (pe_lst pa_nil) (pa_cons (pe_lst pa_nil) (pa_cons (pe_lst pa_nil) (pa_cons (pe_lst pa_nil) pa_nil))))))))
   (pss_cons (ps_for PassesOwn.never rfl (pi_list (pe_cd D__law_names hr__law_names (by rfl) pass0 (pa_cons (pv 0) (pa_cons (pe_op op_add pe_int (pe_cd D__law_draw hr__law_draw (by rfl) pass0 (pa_cons (pv 0) (pa_cons (pv 3) pa_nil)))) pa_nil)))) (pg_name (i := 5) nd rfl (by first | exact Or.inl rfl | exact Or.inr rfl))
   (pss_one (ps_expr (pe_bm PySem.F.plainAttrs_list PySem.F.slot_list_append PySem.F.type_list_append mt_append (pe_ix ix_list (pv 4) pe_int (fun _ _ => rfl)) (pa_cons (pe_tup (pa_cons (pv 5) (pa_cons (pe_ix ix_list (pv 2) (pe_cd D__law_draw hr__law_draw (by rfl) pass0 (pa_cons (pv 0) (pa_cons pe_int pa_nil))) (fun _ _ => rfl)) pa_nil))) pa_nil)))))
   (pss_cons (ps_for PassesOwn.never rfl (pi_range1 (by rfl) T.brange (pa_cons (pe_cd D__law_draw hr__law_draw (by rfl) pass0 (pa_cons (pv 0) (pa_cons pe_int pa_nil))) pa_nil)) (pg_name (i := 6) nd rfl (by first | exact Or.inl rfl | exact Or.inr rfl))
   (pss_cons (ps_set (i := 7) nd rfl (by first | exact Or.inl rfl | exact Or.inr rfl) (pe_ix ix_tup (pe_ix ix_list (pe_ix ix_list (pv 4) pe_int (fun _ _ => rfl)) (pe_cd D__law_draw hr__law_draw (by rfl) pass0 (pa_cons (pv 0) (pa_cons (pe_callB call_len_seq (by rfl) T.blen PySem.boot_len (pa_cons (pe_ix ix_list (pv 4) pe_int (fun _ _ => rfl)) pa_nil)) pa_nil))) (fun _ _ => rfl)) pe_int (fun _ _ => rfl)))
   (pss_one (ps_expr (pe_bm PySem.F.plainAttrs_list PySem.F.slot_list_append PySem.F.type_list_append mt_append (pe_ix ix_list (pv 4) pe_int (fun _ _ => rfl)) (pa_cons (pe_tup (pa_cons (pv 7) (pa_cons (pe_ix ix_tup (pe_ix ix_list (pe_ix ix_list (pv 4) pe_int (fun _ _ => rfl)) (pe_cd D__law_draw hr__law_draw (by rfl) pass0 (pa_cons (pv 0) (pa_cons (pe_callB call_len_seq (by rfl) T.blen PySem.boot_len (pa_cons (pe_ix ix_list (pv 4) pe_int (fun _ _ => rfl)) pa_nil)) pa_nil))) (fun _ _ => rfl)) pe_int (fun _ _ => rfl)) pa_nil))) pa_nil))))))
   (pss_cons (ps_asg (pe_cd D__law_names hr__law_names (by rfl) pass0 (pa_cons (pv 0) (pa_cons (pe_op op_add pe_int (pe_op op_mod (pe_op op_add pe_int (pe_cd D__law_draw hr__law_draw (by rfl) pass0 (pa_cons (pv 0) (pa_cons (pv 3) pa_nil)))) (pv 3))) pa_nil))) (pg_sub (pv 4) pe_int set_list))
   (pss_cons (ps_for PassesOwn.never rfl (pi_list (pe_cd D__law_names hr__law_names (by rfl) pass0 (pa_cons (pv 0) (pa_cons (pe_op op_add pe_int (pe_cd D__law_draw hr__law_draw (by rfl) pass0 (pa_cons (pv 0) (pa_cons (pe_callB (call_min2 rfl) (by rfl) T.bmin (by decide +kernel) (pa_cons (pv 3) (pa_cons pe_int pa_nil))) pa_nil)))) pa_nil)))) (pg_name (i := 5) nd rfl (by first | exact Or.inl rfl | exact Or.inr rfl))
   (pss_one (ps_expr (pe_bm PySem.F.plainAttrs_list PySem.F.slot_list_append PySem.F.type_list_append mt_append (pe_ix ix_list (pv 4) pe_int (fun _ _ => rfl)) (pa_cons (pe_tup (pa_cons (pv 5) (pa_cons (pe_ix ix_tup (pe_ix ix_list (pe_ix ix_list (pv 4) pe_int (fun _ _ => rfl)) (pe_cd D__law_draw hr__law_draw (by rfl) pass0 (pa_cons (pv 0) (pa_cons (pe_callB call_len_seq (by rfl) T.blen PySem.boot_len (pa_cons (pe_ix ix_list (pv 4) pe_int (fun _ _ => rfl)) pa_nil)) pa_nil))) (fun _ _ => rfl)) pe_int (fun _ _ => rfl)) pa_nil))) pa_nil)))))
   (pss_cons (ps_for PassesOwn.never rfl (pi_range1 (by rfl) T.brange (pa_cons (pe_op op_mod (pe_op op_add pe_int (pe_cd D__law_draw hr__law_draw (by rfl) pass0 (pa_cons (pv 0) (pa_cons (pe_op op_add (pv 1) pe_int) pa_nil)))) (pe_op op_add (pv 1) pe_int)) pa_nil)) (pg_name (i := 6) nd rfl (by first | exact Or.inl rfl | exact Or.inr rfl))
   (pss_cons (ps_set (i := 8) nd rfl (by first | exact Or.inl rfl | exact Or.inr rfl) (pe_ix ix_tup (pe_ix ix_list (pe_ix ix_list (pv 4) pe_int (fun _ _ => rfl)) (pe_op op_mod (pe_op op_add (pe_cd D__law_draw hr__law_draw (by rfl) pass0 (pa_cons (pv 0) (pa_cons (pe_callB call_len_seq (by rfl) T.blen PySem.boot_len (pa_cons (pe_ix ix_list (pv 4) pe_int (fun _ _ => rfl)) pa_nil)) pa_nil))) (pv 6)) (pe_callB call_len_seq (by rfl) T.blen PySem.boot_len (pa_cons (pe_ix ix_list (pv 4) pe_int (fun _ _ => rfl)) pa_nil))) (fun _ _ => rfl)) pe_int (fun _ _ => rfl)))
   (pss_one (ps_expr (pe_bm PySem.F.plainAttrs_list PySem.F.slot_list_append PySem.F.type_list_append mt_append (pe_ix ix_list (pv 4) pe_int (fun _ _ => rfl)) (pa_cons (pe_tup (pa_cons (pv 8) (pa_cons (pe_ix ix_list (pe_ix ix_list (pv 4) pe_int (fun _ _ => rfl)) (pe_op op_mod (pe_op op_add (pe_cd D__law_draw hr__law_draw (by rfl) pass0 (pa_cons (pv 0) (pa_cons (pe_callB call_len_seq (by rfl) T.blen PySem.boot_len (pa_cons (pe_ix ix_list (pv 4) pe_int (fun _ _ => rfl)) pa_nil)) pa_nil))) (pe_op op_fdiv (pv 6) pe_int)) (pe_callB call_len_seq (by rfl) T.blen PySem.boot_len (pa_cons (pe_ix ix_list (pv 4) pe_int (fun _ _ => rfl)) pa_nil))) (fun _ _ => rfl)) pa_nil))) pa_nil))))))
   (pss_one (ps_ret (pv 4))))))))))), ?_⟩
    refine ⟨by show 3 ≤ sizeLine; decide, fun g hg => ⟨by show 3 ≤ sizeLine; decide, fun l hl => ?_⟩⟩
    have e1 := (Ext.new (ms := []) (o := .lst [.str "loose", .str "fast", .str "unsure"]) hg).trans (Ext.new (o := .lst [.int 2, .int 3, .int 8]) hl)
    have hg1 := (Ext.new (ms := []) (o := .lst [.int 2, .int 3, .int 8]) hl).keep _ _ upd_same (by simp)
    have gS := src_ne_new hS hg
    have lS := (src_ne_new (hS.new hg) hl).1
    refine draw_ex (i := 0) rfl (hS.ext e1) (by decide) (by decide) val_c (fun n H1 n0 n1 e2 s2 => ?_)
    have hl1 := e2.keep _ _ upd_same (show l ∉ [S] by simpa using lS)
    have hg1 := e2.keep _ _ hg1 (show g ∉ [S] by simpa using gS.1)
    obtain ⟨many, hmy, m0, m8⟩ : ∃ m : Nat, atI [V.int 2, .int 3, .int 8] n = some (.int (m : Int)) ∧ 2 ≤ m ∧ m ≤ 8 := by
      have : n = 0 ∨ n = 1 ∨ n = 2 := by omega
      rcases this with rfl | rfl | rfl
      · exact ⟨2, rfl, by decide, by decide⟩
      · exact ⟨3, rfl, by decide, by decide⟩
      · exact ⟨8, rfl, by decide, by decide⟩
    refine ⟨l, _, n, _, rfl, rfl, SqL.of hl1, hmy, ?_⟩
    have eH : Ext [S] H H1 := e1.nil.trans e2
    refine ⟨by show 0 ≤ sizeLine; decide, fun r0 h0 => ⟨by show 0 ≤ sizeLine; decide, fun r1 h1 => ⟨by show 0 ≤ sizeLine; decide, fun r2 h2 => ⟨by show 0 ≤ sizeLine; decide, fun r3 h3 => ⟨by show 0 ≤ sizeLine; decide, fun r4 h4 => ⟨by show 0 ≤ sizeLine; decide, fun r5 h5 => ⟨by show 6 ≤ sizeLine; decide, fun R hR => ?_⟩⟩⟩⟩⟩⟩⟩
    obtain ⟨Hb, a, hHb, hab, mi, hgb⟩ : ∃ (Hb : Hp) (a : Mad), Hb = upd (upd (upd (upd (upd (upd (upd H1 r0 (.lst [])) r1 (.lst [])) r2 (.lst [])) r3 (.lst [])) r4 (.lst [])) r5 (.lst [])) R (.lst [.ref r0, .ref r1, .ref r2, .ref r3, .ref r4, .ref r5]) ∧ a.M = R ∧ MI H1 S L Hb a [] [] [] [] [] ∧ Hb g = some (.lst [.str "loose", .str "fast", .str "unsure"]) := by
      obtain ⟨ef, m⟩ := mi_start (Ext.refl (H := H1)) s2 s2 h0 h1 h2 h3 h4 h5 hR
      exact ⟨_, _, rfl, rfl, m, ef.keep _ _ hg1 (by simp)⟩
    rw [← hHb, ← hab]
    clear hHb hab h0 h1 h2 h3 h4 h5 hR hl1 e2 e1 lS hl hmy n0 n1
    have gne : ∀ x ∈ a.all, g ≠ x := fun x hx => ne_of_none hg1 (mi.f x hx)
    -- kinds
    have stS : ∀ {X Y : Hp} {b : Addr} {o : HO}, b ≠ S → Ext [S] X Y → X b = some o → Y b = some o := fun hb e h => e.keep _ _ h (by simpa using hb)
    refine ⟨_, rfl, ?_⟩
    refine draw_ex (i := 0) rfl mi.s (by omega) (Int.lt_of_le_of_lt (show (many : Int) ≤ 8 by omega) (by decide)) (val_var rfl) (fun n1 H2 n10 n11 e2 s2 => ?_)
    obtain ⟨n1, rfl⟩ := Int.eq_ofNat_of_zero_le n10
    have m2 := mi.draw e2 s2
    have g2 := stS gS.1 e2 hgb
    refine ⟨1, _, rfl, rfl, S, L, 1 + n1, rfl, by omega, s2, fun zs l H3 hzl hzn hl e3 s3 h3 => ?_⟩
    have m3 := m2.draw e3 s3
    have g3 := stS gS.1 e3 g2
    have lS := (src_ne_new s2 hl).1
    have lne := m2.v.new hl
    refine ⟨l, rfl, ⟨_, SqL.of h3⟩, for_list (xs := zs.map V.str) (fun i σ' H' => ∃ ks x5, σ' = [some (.ref S), some (.int (most : Int)), some (.ref g), some (.int (many : Int)), some (.ref a.M), x5, none, none, none] ∧ MI H1 S L H' a ks [] [] [] [] ∧ H' l = some (.lst (zs.map V.str)) ∧
      H' g = some (.lst [.str "loose", .str "fast", .str "unsure"]) ∧ ks.map (·.1) = zs.take i ∧ ∀ q ∈ ks, q.2 = "loose" ∨ q.2 = "fast" ∨ q.2 = "unsure") ⟨[], none, rfl, m3, h3, g3, by simp, by simp⟩ ?_ ?_ ?_⟩
    · rintro i σ' H' _ ⟨ks, x5, rfl, m, h, _⟩
      exact SqL.of h
    · rintro i x σ' H' hx ⟨ks, x5, rfl, m, hl', hg', hks, hh⟩
      rw [List.getElem?_map] at hx
      obtain ⟨z, hz, rfl⟩ := Option.map_eq_some_iff.mp hx
      obtain ⟨xs, hxs, hxl⟩ := row_len m.v.r0
      refine ⟨_, rfl, a.M, _, 0, .ref a.m0, rfl, rfl, SqL.of m.v.M, rfl, .inl ⟨rfl, xs, SqL.of hxs⟩, _, rfl, _, rfl, ?_⟩
      refine draw_ex (i := 0) rfl m.s (by decide) (by decide) val_c (fun n H4 n0 n1 e4 s4 => ?_)
      have m4 := m.draw e4 s4
      have g4 := stS gS.1 e4 hg'
      have l4 := stS lS e4 hl'
      have hxs4 := stS (m.ne a.m0 (by simp)).1 e4 hxs
      obtain ⟨y, hy, hyh⟩ : ∃ y : Str, atI [V.str "loose", .str "fast", .str "unsure"] n = some (.str y) ∧ (y = "loose" ∨ y = "fast" ∨ y = "unsure") := by
        have : n = 0 ∨ n = 1 ∨ n = 2 := by omega
        rcases this with rfl | rfl | rfl
        · exact ⟨_, rfl, .inl rfl⟩
        · exact ⟨_, rfl, .inr (.inl rfl)⟩
        · exact ⟨_, rfl, .inr (.inr rfl)⟩
      have hi := (List.getElem?_eq_some_iff.mp hz).1
      refine ⟨g, _, n, _, rfl, rfl, SqL.of g4, hy, by show 2 ≤ sizeLine; decide, fun u hu => ⟨a.m0, xs, _, rfl, rfl, (by rw [upd_ne (ne_of_none hxs4 hu)]; exact hxs4), ?_, ks ++ [(z, y)], _, rfl, m4.push0 hxs4 hu, ?_, ?_, ?_, ?_⟩⟩
      · have h1 := congrArg List.length hks
        rw [List.length_map, List.length_take] at h1
        exact Evl.sz_lt (by omega)
      · rw [upd_ne (lne a.m0 (by simp)), upd_ne (ne_of_none l4 hu)]
        exact l4
      · rw [upd_ne (gne a.m0 (by simp)), upd_ne (ne_of_none g4 hu)]
        exact g4
      · rw [List.map_append, hks, List.take_add_one, hz]
        rfl
      · intro q hq
        rcases List.mem_append.mp hq with h | h
        · exact hh q h
        · simp at h
          subst h
          exact hyh
    · rintro σ' H4 ⟨k, x5, rfl, m4, _, _, hks, kh⟩
      have hk : k.map (·.1) = zs := by rw [hks, List.length_map, List.take_of_length_le (Nat.le_refl _)]
      have hkl : k.length = 1 + n1 := by rw [← hzl, ← hk, List.length_map]
      rw [← hk] at hzn
      have hkn := hzn
      clear h3 g3 lne lS hks hzl hl m3 m2 g2
      have hk8 : k.length ≤ 8 := by omega
      have hk1 : 1 ≤ k.length := by omega
      -- thirsts
      refine draw_ex (i := 0) rfl m4.s (by decide) (by decide) val_c (fun nt H5 t0 t1 e5 s5 => ?_)
      have m5 := m4.draw e5 s5
      refine ⟨nt, rfl, by omega, by omega, for_range (n := nt.toNat) (fun i σ' H' => ∃ t x5 x6 x7, σ' = [some (.ref S), some (.int (most : Int)), some (.ref g), some (.int (many : Int)), some (.ref a.M), x5, x6, x7, none] ∧ MI H1 S L H' a k t [] [] [] ∧ t.length = i ∧
        ∀ q ∈ t, q.1 ∈ k.map (·.1) ∧ q.2 ∈ k.map (·.1)) ⟨[], _, _, _, rfl, m5, rfl, by simp⟩ ?_ ?_⟩
      · rintro i σ' H' hi ⟨t, x5, x6, x7, rfl, m, ht, htk⟩
        obtain ⟨xs0, hx0, hx0l⟩ := row_len m.v.r0
        refine ⟨_, rfl, a.M, _, 0, .ref a.m0, rfl, rfl, SqL.of m.v.M, rfl, ?_⟩
        refine draw_ex (i := 0) (many := (xs0.length : Int)) rfl m.s (by omega) (Int.lt_of_le_of_lt (show (xs0.length : Int) ≤ 8 by omega) (by decide)) (val_len (val_ixL (val_var rfl) val_c (SqL.of m.v.M) rfl) (SqL.of hx0)) (fun n H6 n0 n1 e6 s6 => ?_)
        have m6 := m.draw e6 s6
        obtain ⟨xs1, t1, q1, p1, p2, p3, p4, p5⟩ := row_pick (K := K) m6.v.r0 n0 (by omega)
        refine ⟨_, _, n, _, rfl, rfl, SqL.of p1, p2, t1, _, 0, _, rfl, rfl, .inl (.inl p4), rfl, ?_⟩
        refine gset ?_
        dsimp only
        obtain ⟨xt, hxt, hxtl⟩ := row_len m6.v.r1
        refine ⟨_, rfl, a.M, _, 1, .ref a.m1, rfl, rfl, SqL.of m6.v.M, rfl, .inl ⟨rfl, _, SqL.of hxt⟩, _, rfl, _, rfl, a.M, _, 0, .ref a.m0, rfl, rfl, SqL.of m6.v.M, rfl, ?_⟩
        refine draw_ex (i := 0) (many := (xs1.length : Int)) rfl m6.s (by omega) (Int.lt_of_le_of_lt (show (xs1.length : Int) ≤ 8 by omega) (by decide)) (val_len (val_ixL (val_var rfl) val_c (SqL.of m6.v.M) rfl) (SqL.of p1)) (fun n' H7 n0' n1' e7 s7 => ?_)
        have m7 := m6.draw e7 s7
        obtain ⟨xs2, t2, q2, r1, r2, r3, r4, r5⟩ := row_pick (K := K) m7.v.r0 n0' (by omega)
        have hxt7 := stS (m6.ne a.m1 (by simp)).1 e7 hxt
        refine ⟨_, _, n', _, rfl, rfl, SqL.of r1, r2, t2, _, 0, _, rfl, rfl, .inl (.inl r4), rfl, by show 2 ≤ sizeLine; decide, fun u hu => ⟨a.m1, xt, _, rfl, rfl, (by rw [upd_ne (ne_of_none hxt7 hu)]; exact hxt7), Evl.sz_lt (by omega), t ++ [(q1.1, q2.1)], _, _, _, rfl, m7.push1 hxt7 hu, by rw [List.length_append, ht]; rfl, fun q hq => ?_⟩⟩
        rcases List.mem_append.mp hq with h | h
        · exact htk q h
        · simp at h
          subst h
          exact ⟨List.mem_map.mpr ⟨q1, p3, rfl⟩, List.mem_map.mpr ⟨q2, r3, rfl⟩⟩
      · rintro σ' H6 ⟨t, x5, x6, x7, rfl, m6, ht, htk⟩
        have ht3 : t.length ≤ 3 := by omega
        clear ht m5 e5 s5 t0 t1 m4
        -- pots
        refine ⟨_, rfl, ?_⟩
        refine draw_ex (i := 0) rfl m6.s (by omega) (Int.lt_of_le_of_lt (show (many : Int) ≤ 8 by omega) (by decide)) (val_var rfl) (fun n2 H7 n20 n21 e7 s7 => ?_)
        obtain ⟨n2, rfl⟩ := Int.eq_ofNat_of_zero_le n20
        have m7 := m6.draw e7 s7
        have hlt : (1 + n2) % many < many := Nat.mod_lt _ (by omega)
        refine ⟨1, _, rfl, rfl, _, rfl, _, _, rfl, rfl, (show (0 : Int) < (many : Int) by omega), 1, _, rfl, rfl, S, L, 1 + (1 + n2) % many, ?_, by omega, s7, fun p l H8 hpl hpn hl e8 s8 h8 => ?_⟩
        · have e : (1 : Int) + (1 + (n2 : Int)) % (many : Int) = ((1 + (1 + n2) % many : Nat) : Int) := by push_cast; rfl
          show [V.ref S, V.int ((1 : Int) + (1 + (n2 : Int)) % (many : Int))] = _
          rw [e]
        have m8 := m7.draw e8 s8
        have hl0 := m7.fresh hl
        have hln := m7.v.new hl
        refine ⟨_, rfl, a.M, _, 2, 2, rfl, rfl, m8.v.M, rfl, ?_⟩
        have m9 := m8.set2 hl0 h8 hln
        show tSeq _ _ _ _ (upd H8 a.M (.lst [.ref a.m0, .ref a.m1, .ref l, .ref a.m3, .ref a.m4, .ref a.m5]))
        generalize upd H8 a.M (.lst [.ref a.m0, .ref a.m1, .ref l, .ref a.m3, .ref a.m4, .ref a.m5]) = H9 at m9
        obtain ⟨b, hbM, hb⟩ : ∃ b : Mad, b.M = a.M ∧ b = { a with m2 := l } := ⟨{ a with m2 := l }, rfl, rfl⟩
        rw [← hb] at m9
        rw [← hbM]
        clear hb hbM m8 m7 m6 h8 hln hl0 gne mi
        have hp8 : p.length ≤ 8 := by omega
        have hp1 : 1 ≤ p.length := by omega
        -- cloths
        refine ⟨_, rfl, ?_⟩
        refine draw_ex (i := 0) (many := if (7 : Int) < (many : Int) then 7 else (many : Int)) rfl m9.s (by split <;> omega) (Int.lt_of_le_of_lt (show (if (7 : Int) < (many : Int) then (7 : Int) else (many : Int)) ≤ 8 by split <;> omega) (by decide)) (fun Q' q' => ⟨_, rfl, _, _, rfl, q'⟩) (fun n3 H10 n30 n31 e10 s10 => ?_)
        obtain ⟨n3, rfl⟩ := Int.eq_ofNat_of_zero_le n30
        have n3b : n3 < 7 ∧ n3 < many := by split at n31 <;> omega
        have m10 := m9.draw e10 s10
        refine ⟨2, _, rfl, rfl, S, L, 2 + n3, rfl, by omega, s10, fun zs lc H11 hzl hzn hlc e11 s11 h11 => ?_⟩
        have m11 := m10.draw e11 s11
        have lS := (src_ne_new s10 hlc).1
        have lne := m10.v.new hlc
        refine ⟨lc, rfl, ⟨_, SqL.of h11⟩, for_list (xs := zs.map V.str) (fun i σ' H' => ∃ c x5 x6 x7, σ' = [some (.ref S), some (.int (most : Int)), some (.ref g), some (.int (many : Int)), some (.ref b.M), x5, x6, x7, none] ∧ MI H1 S L H' b k t p c [] ∧ H' lc = some (.lst (zs.map V.str)) ∧
          c.map (·.1) = zs.take i ∧ ∀ q ∈ c, q.2 ∈ k.map (·.1)) ⟨[], _, _, _, rfl, m11, h11, by simp, by simp⟩ ?_ ?_ ?_⟩
        · rintro i σ' H' _ ⟨c, x5, x6, x7, rfl, m, h, _⟩
          exact SqL.of h
        · rintro i x σ' H' hx ⟨c, x5, x6, x7, rfl, m, hl', hcs, hh⟩
          rw [List.getElem?_map] at hx
          obtain ⟨z, hz, rfl⟩ := Option.map_eq_some_iff.mp hx
          obtain ⟨xs, hxs, hxl⟩ := row_len m.v.r3
          obtain ⟨xs0, hx0, hx0l⟩ := row_len m.v.r0
          refine ⟨_, rfl, b.M, _, 3, .ref b.m3, rfl, rfl, SqL.of m.v.M, rfl, .inl ⟨rfl, xs, SqL.of hxs⟩, _, rfl, _, rfl, b.M, _, 0, .ref b.m0, rfl, rfl, SqL.of m.v.M, rfl, ?_⟩
          refine draw_ex (i := 0) (many := (xs0.length : Int)) rfl m.s (by omega) (Int.lt_of_le_of_lt (show (xs0.length : Int) ≤ 8 by omega) (by decide)) (val_len (val_ixL (val_var rfl) val_c (SqL.of m.v.M) rfl) (SqL.of hx0)) (fun n H12 n0 n1 e12 s12 => ?_)
          have m12 := m.draw e12 s12
          obtain ⟨xs1, t1, q1, p1, p2, p3, p4, p5⟩ := row_pick (K := K) m12.v.r0 n0 (by omega)
          have l12 := stS lS e12 hl'
          have hxs12 := stS (m.ne b.m3 (by simp)).1 e12 hxs
          have hi := (List.getElem?_eq_some_iff.mp hz).1
          refine ⟨_, _, n, _, rfl, rfl, SqL.of p1, p2, t1, _, 0, _, rfl, rfl, .inl (.inl p4), rfl, by show 2 ≤ sizeLine; decide, fun u hu => ⟨b.m3, xs, _, rfl, rfl, (by rw [upd_ne (ne_of_none hxs12 hu)]; exact hxs12), ?_, c ++ [(z, q1.1)], _, _, _, rfl, m12.push3 hxs12 hu, ?_, ?_, ?_⟩⟩
          · have h1 := congrArg List.length hcs
            rw [List.length_map, List.length_take] at h1
            exact Evl.sz_lt (by omega)
          · rw [upd_ne (lne b.m3 (by simp)), upd_ne (ne_of_none l12 hu)]
            exact l12
          · rw [List.map_append, hcs, List.take_add_one, hz]
            rfl
          · intro q hq
            rcases List.mem_append.mp hq with h | h
            · exact hh q h
            · simp at h
              subst h
              exact List.mem_map.mpr ⟨q1, p3, rfl⟩
        · rintro σ' H12 ⟨c, x5, x6, x7, rfl, m12, _, hcs, ck⟩
          have hc : c.map (·.1) = zs := by rw [hcs, List.length_map, List.take_of_length_le (Nat.le_refl _)]
          have hcl : c.length = 2 + n3 := by rw [← hzl, ← hc, List.length_map]
          rw [← hc] at hzn
          have hc8 : c.length ≤ 8 := by omega
          have hc2 : 2 ≤ c.length := by omega
          clear hcs hcl hzl hlc lne lS m11 m10 m9 h11
          -- dips
          refine draw_ex (i := 0) (many := (most : Int) + 1) rfl m12.s (by omega) (Int.lt_of_le_of_lt (show (most : Int) + 1 ≤ 101 by omega) (by decide)) (val_int (val_var rfl) val_c) (fun nd' H13 nd0 nd1 e13 s13 => ?_)
          have m13 := m12.draw e13 s13
          have hb0 := Int.emod_nonneg (3 + nd') (show (most : Int) + 1 ≠ 0 by omega)
          have hb1 := Int.emod_lt_of_pos (3 + nd') (show (0 : Int) < (most : Int) + 1 by omega)
          refine ⟨3, _, rfl, rfl, _, rfl, _, 1, rfl, rfl, _, _, rfl, rfl, (show (0 : Int) < (most : Int) + 1 by omega), (3 + nd') % ((most : Int) + 1), rfl, by omega, by omega, for_range (n := ((3 + nd') % ((most : Int) + 1)).toNat)
            (fun i σ' H' => ∃ d x5 x6 x7 x8, σ' = [some (.ref S), some (.int (most : Int)), some (.ref g), some (.int (many : Int)), some (.ref b.M), x5, x6, x7, x8] ∧ MI H1 S L H' b k t p c d ∧ d.length = i ∧ ∀ q ∈ d, q.1 ∈ c.map (·.1) ∧ q.2 ∈ p) ⟨[], _, _, _, _, rfl, m13, rfl, by simp⟩ ?_ ?_⟩
          · rintro i σ' H' hi ⟨d, x5, x6, x7, x8, rfl, m, hd, hdk⟩
            obtain ⟨xs3, hx3, hx3l⟩ := row_len m.v.r3
            refine ⟨_, rfl, b.M, _, 3, .ref b.m3, rfl, rfl, SqL.of m.v.M, rfl, ?_⟩
            refine draw_ex (i := 0) (many := (xs3.length : Int)) rfl m.s (by omega) (Int.lt_of_le_of_lt (show (xs3.length : Int) ≤ 8 by omega) (by decide)) (val_len (val_ixL (val_var rfl) val_c (SqL.of m.v.M) rfl) (SqL.of hx3)) (fun n H14 n0 n1 e14 s14 => ?_)
            have m14 := m.draw e14 s14
            obtain ⟨xs4, hx4, hx4l⟩ := row_len m14.v.r3
            have i0 := Int.emod_nonneg (n + (0 + (i : Int))) (show (xs4.length : Int) ≠ 0 by omega)
            have i1 := Int.emod_lt_of_pos (n + (0 + (i : Int))) (show (0 : Int) < (xs4.length : Int) by omega)
            obtain ⟨ys, t1, q1, p1, p2, p3, p4, p5⟩ := row_pick (K := K) m14.v.r3 i0 (by omega)
            refine ⟨_, rfl, _, _, rfl, rfl, ?_⟩
            refine val_len (val_ixL (val_var rfl) val_c (SqL.of m14.v.M) rfl) (SqL.of hx4) _ ?_
            refine ⟨_, _, rfl, rfl, (show (0 : Int) < (xs4.length : Int) by omega), _, _, _, _, rfl, rfl, SqL.of p1, p2, t1, _, 0, _, rfl, rfl, .inl (.inl p4), rfl, ?_⟩
            refine gset ?_
            dsimp only
            obtain ⟨xt, hxt, hxtl⟩ := row_len m14.v.r4
            have hpl : (p.map V.str).length = p.length := List.length_map ..
            refine ⟨_, rfl, b.M, _, 4, .ref b.m4, rfl, rfl, SqL.of m14.v.M, rfl, .inl ⟨rfl, _, SqL.of hxt⟩, _, rfl, _, rfl, b.M, _, 2, .ref b.m2, rfl, rfl, SqL.of m14.v.M, rfl, ?_⟩
            refine draw_ex (i := 0) (many := ((p.map V.str).length : Int)) rfl m14.s (by omega) (Int.lt_of_le_of_lt (show ((p.map V.str).length : Int) ≤ 8 by omega) (by decide)) (val_len (val_ixL (val_var rfl) val_c (SqL.of m14.v.M) rfl) (SqL.of m14.v.r2)) (fun n' H15 n0' n1' e15 s15 => ?_)
            have m15 := m14.draw e15 s15
            have hxt15 := stS (m14.ne b.m4 (by simp)).1 e15 hxt
            have j0 := Int.emod_nonneg (n' + (0 + (i : Int)) / 2) (show ((p.map V.str).length : Int) ≠ 0 by omega)
            have j1 := Int.emod_lt_of_pos (n' + (0 + (i : Int)) / 2) (show (0 : Int) < ((p.map V.str).length : Int) by omega)
            obtain ⟨w1, hw1, hwm⟩ := atI_some (xs := p.map V.str) j0 j1
            obtain ⟨y, hy, rfl⟩ := List.mem_map.mp hwm
            refine ⟨_, rfl, _, 2, rfl, rfl, ⟨by decide, by decide⟩, _, _, rfl, rfl, ?_⟩
            refine val_len (val_ixL (val_var rfl) val_c (SqL.of m15.v.M) rfl) (SqL.of m15.v.r2) _ ?_
            refine ⟨_, _, rfl, rfl, (show (0 : Int) < ((p.map V.str).length : Int) by omega), _, _, _, _, rfl, rfl, SqL.of m15.v.r2, hw1, by show 2 ≤ sizeLine; decide, fun u hu => ⟨b.m4, xt, _, rfl, rfl, (by rw [upd_ne (ne_of_none hxt15 hu)]; exact hxt15), Evl.sz_lt (by omega), d ++ [(q1.1, y)], _, _, _, _, rfl, m15.push4 hxt15 hu, by rw [List.length_append, hd]; rfl, fun q hq => ?_⟩⟩
            rcases List.mem_append.mp hq with h | h
            · exact hdk q h
            · simp at h
              subst h
              exact ⟨List.mem_map.mpr ⟨q1, p3, rfl⟩, hy⟩
          · rintro σ' H' ⟨d, x5, x6, x7, x8, rfl, m, hd, hdk⟩
            exact ⟨_, rfl, q b k t p c d H' ⟨hkn, kh, hk1, hk8, htk, ht3, hpn, hp1, hp8, hzn, ck, hc2, hc8, hdk, by omega⟩ (fun x hx => eH.none (m.f x hx) (by simpa using (m.ne x hx).1)) (eH.trans m.e) m.s m.v⟩
end

end K18
namespace K18
open PySem PySem.Spec PyProof.Rows L2 He Tp ClX LiI

section
variable {P : Program} {w : World} {K : PySem.W.Frag} {mg : Str → Option Value} {base : Heap}
theorem ok_check_knownL (T : Txt K mg) : Df P w K mg base (L2.CX P w) 3 "_check_known" ["name", "known"] (spCheckKnown K (ga K "Unknown") (knL K)) := by
  have D_dye := dye (P := P) (w := w) (base := base) T
  refine Df.mk' T.g_check_known T.f_check_known (fun _ _ _ _ _ _ us hl => match us, hl with | [_, _], _ => rfl) fun fd F => F.ok sc__check_known (fun vs H Q E h => ?_) (fun cdv A outer s H vs Q E hr h => ?_)
  · obtain ⟨v, k, hit, rfl, _⟩ := h
    rfl
  · obtain ⟨v, k, hit, rfl, p, ⟨a, zs, rfl, hd, hh⟩, kU, kN⟩ := h
    have hu := hu_of hr
    refine ⟨_, (pss_one (ps_if (PW.pt (pw_or (pt_not (pt_val (pe_callB (call_isi) (by rfl) T.bisinstance (by decide +kernel) (pa_cons (pv 0) (pa_cons (pe_bltn (v := .ty "str") (u := .type "str") (by rfl) T.bstr (by decide +kernel) rfl) pa_nil))))) (pw_or1 (pt_cmpR op_notIn_seq (pv 0) (pv 1) (by rfl))))) (pss_one (ps_raiseX rfl T.xUnknown D_dye (hr.mono (by decide)) (takes_of rfl rfl rfl rfl) (by rfl) T.gUnknown (pv 0))) pss_nil)), ?_⟩
    refine val_isi (val_var rfl) p.ty (p.kit (.inr (.inr (.inl rfl)))) _ ⟨_, rfl, ?_⟩
    rw [str_eq p]
    cases p with
    | @str z hz =>
      refine iteF ?_
      refine ⟨_, rfl, _, rfl, a, zs.map V.str, rfl, .inl (SqL.of hd), rfl, by rw [List.all_map]; exact List.all_eq_true.mpr fun _ _ => rfl, _, rfl, ?_⟩
      refine ifb (fun h2 => ?_) (fun h2 => ?_)
      · exact ⟨_, rfl, leaves_now T.xUnknown (kU fun z' e => by cases e; rw [hh]; simpa using h2) Ext.refl⟩
      · exact kN z rfl (by rw [hh]; simpa using h2)
    | _ => exact iteT ⟨_, rfl, leaves_now T.xUnknown (kU fun z' e => nomatch e) Ext.refl⟩
end

end K18
namespace K18
open PySem PySem.Spec PyProof.Rows L2 He Tp ClX LiI

section
variable {P : Program} {w : World} {K : PySem.W.Frag} {mg : Str → Option Value} {base : Heap}
theorem ok_add_thirst (T : Txt K mg) {fd : FuncData} (F : FnM K "Book" "add_thirst" "Book.add_thirst" s_Book_add_thirst [] fd) : FnOk P w K mg base (L2.CX P w) 4 (ma K (cB K) "add_thirst") fd ["self", "more", "less"] (spAddThirst K (cB K)) := by
  have D__check_known := ok_check_knownD (P := P) (w := w) (base := base) T
  have D__check_room := ok_check_roomL (P := P) (w := w) (base := base) T
  refine F.ok sc_Book_add_thirst (fun vs H Q E h => ?_) (fun cdv A outer s H vs Q E hr h => ?_)
  · obtain ⟨p, v, g, i, A, ks, ts, ps, cs, ds, fs, rfl, _⟩ := h
    rfl
  · obtain ⟨p, v, g, i, A, ks, ts, ps, cs, ds, fs, rfl, pv0, pg, B, hl, kX, kN⟩ := h
    have hr__check_known := hr
    have hr__check_room := hr
    refine ⟨_, (pss_cons (ps_expr (pe_cd D__check_known hr__check_known (by rfl) (passes_call (takes_of rfl rfl rfl rfl) (fun _ _ _ _ z => z)) (pa_cons (pv 1) (pa_cons (pe_fld (pv 0) rfl) pa_nil))))
   (pss_cons (ps_expr (pe_cd D__check_known hr__check_known (by rfl) (passes_call (takes_of rfl rfl rfl rfl) (fun _ _ _ _ z => z)) (pa_cons (pv 2) (pa_cons (pe_fld (pv 0) rfl) pa_nil))))
   (pss_cons (ps_expr (pe_cd D__check_room hr__check_room (by rfl) (passes_call (takes_of rfl rfl rfl rfl) (fun _ _ _ _ z => z)) (pa_cons (pe_fld (pv 0) rfl) (pa_cons (pe_cval (pe_glob (v := .ref (ga K "Book")) (by rfl) T.gBook rfl)) pa_nil))))
   (pss_one (ps_expr (pe_bm PySem.F.plainAttrs_list PySem.F.slot_list_append PySem.F.type_list_append mt_append (pe_fld (pv 0) rfl) (pa_cons (pe_tup (pa_cons (pv 1) (pa_cons (pv 2) pa_nil))) pa_nil))))))), ?_⟩
    refine ⟨_, rfl, _, rfl, p, cB K, A.dx, _, _, rfl, B.ob, T.cl, T.n_kinds, fsB_kinds, ?_⟩
    refine ⟨v, _, fun z => decide (z ∈ ks.map (·.1)), rfl, pv0, ⟨A.dk, kvB ks, rfl, B.dk, fun z => valV_kvB.symm⟩, fun e => kX _ _ (refT_1 (knownK_no e)), fun y ey hit => ?_⟩
    subst ey
    refine ⟨_, rfl, _, rfl, p, cB K, A.dx, _, _, rfl, B.ob, T.cl, T.n_kinds, fsB_kinds, ?_⟩
    refine ⟨g, _, fun z => decide (z ∈ ks.map (·.1)), rfl, pg H Ext.refl, ⟨A.dk, kvB ks, rfl, B.dk, fun z => valV_kvB.symm⟩, fun e => kX _ _ (refT_2 hit (knownK_no e)), fun x ex hit2 => ?_⟩
    subst ex
    have hk := refT_3 (n := ts.length) (ks := ks) (v := .str y) (g := .str x) hit hit2
    obtain ⟨u1, c1⟩ := T.vTHIRSTS
    refine ⟨_, rfl, p, cB K, A.dx, _, _, rfl, B.ob, T.cl, T.n_thirsts, fsB_thirsts, cB K, _, .int 32, u1, rfl, T.crd, c1, ?_⟩
    refine ⟨_, ts.length, 32, rfl, ⟨A.lt, _, rfl, B.lt, rfl⟩, fun h2 => kX _ _ (by rw [hk, if_pos (by omega)]), fun h2 => ?_⟩
    rw [if_neg (by omega)] at hk
    refine ⟨_, rfl, p, cB K, A.dx, _, _, rfl, B.ob, T.cl, T.n_thirsts, fsB_thirsts, .inl ⟨rfl, _, SqL.of B.lt⟩, _, rfl, _, rfl, by show 2 ≤ sizeLine; decide, fun t ht => ⟨A.lt, ts, _, rfl, rfl, (by rw [upd_ne (ne_of_none B.lt ht)]; exact B.lt), small1000 hl, ?_⟩⟩
    have e1 := Ext.new (ms := []) (o := .tup [.str y, .str x]) ht
    refine kN hk _ t (e1.nil.mut (by simp) fun xs z => by rw [B.lt] at z; cases z) ht ?_ ((B.ext e1 (fun _ _ => by simp)).setT _)
    rw [upd_ne (ne_of_none B.lt ht).symm]
    exact upd_same
end

end K18
namespace K18
open PySem PySem.Spec PyProof.Rows L2 He Tp ClX LiI

section
variable {P : Program} {w : World} {K : PySem.W.Frag} {mg : Str → Option Value} {base : Heap}
theorem ok_dip (T : Txt K mg) {fd : FuncData} (F : FnM K "Book" "dip" "Book.dip" s_Book_dip [] fd) : FnOk P w K mg base (L2.CX P w) 4 (ma K (cB K) "dip") fd ["self", "cloth", "pot"] (spDip K (cB K)) := by
  have D__check_known := ok_check_knownD (P := P) (w := w) (base := base) T
  have D__check_knownL := ok_check_knownL (P := P) (w := w) (base := base) T
  have D__check_room := ok_check_roomL (P := P) (w := w) (base := base) T
  refine F.ok sc_Book_dip (fun vs H Q E h => ?_) (fun cdv A outer s H vs Q E hr h => ?_)
  · obtain ⟨p, v, g, i, A, ks, ts, ps, cs, ds, fs, rfl, _⟩ := h
    rfl
  · obtain ⟨p, v, g, i, A, ks, ts, ps, cs, ds, fs, rfl, pv0, pg, B, hl, hpl, kX, kN⟩ := h
    have hr__check_known := hr
    have hr__check_room := hr
    refine ⟨_, (pss_cons (ps_expr (pe_cd D__check_known hr__check_known (by rfl) (passes_call (takes_of rfl rfl rfl rfl) (fun _ _ _ _ z => z)) (pa_cons (pv 1) (pa_cons (pe_fld (pv 0) rfl) pa_nil))))
   (pss_cons (ps_expr (pe_cd D__check_knownL hr__check_known (by rfl) (passes_call (takes_of rfl rfl rfl rfl) (fun _ _ _ _ z => z)) (pa_cons (pv 2) (pa_cons (pe_fld (pv 0) rfl) pa_nil))))
   (pss_cons (ps_expr (pe_cd D__check_room hr__check_room (by rfl) (passes_call (takes_of rfl rfl rfl rfl) (fun _ _ _ _ z => z)) (pa_cons (pe_fld (pv 0) rfl) (pa_cons (pe_fld (pv 0) rfl) pa_nil))))
   (pss_cons (ps_fld (pv 0) (pe_lst (StX.pa_star (pe_fld (pv 0) rfl) (pa_cons (pe_tup (pa_cons (pv 1) (pa_cons (pv 2) pa_nil))) pa_nil))) rfl)
   (pss_one (ps_ret (pe_op op_sub (pe_callB call_len_seq (by rfl) T.blen PySem.boot_len (pa_cons (pe_fld (pv 0) rfl) pa_nil)) pe_int))))))), ?_⟩
    refine ⟨_, rfl, _, rfl, p, cB K, A.dx, _, _, rfl, B.ob, T.cl, T.n_cloths, fsB_cloths, ?_⟩
    refine ⟨v, _, fun z => decide (z ∈ cs.map (·.1)), rfl, pv0, ⟨A.dc, kvB cs, rfl, B.dc, fun z => valV_kvB.symm⟩, fun e => kX _ _ (refDip_1 (knownK_no e)), fun y ey hit => ?_⟩
    subst ey
    refine ⟨_, rfl, _, rfl, p, cB K, A.dx, _, _, rfl, B.ob, T.cl, T.n_pots, fsB_pots, ?_⟩
    refine ⟨g, _, fun z => decide (z ∈ ps), rfl, pg H Ext.refl, ⟨A.lp, ps, rfl, B.lp, fun z => inV_strs.symm⟩, fun e => kX _ _ (refDip_2 hit (knownP_no e)), fun x ex hit2 => ?_⟩
    subst ex
    have hk := refDip_3 (n := ds.length) (b := i) (cs := cs) (ps := ps) (v := .str y) (g := .str x) hit hit2
    refine ⟨_, rfl, p, cB K, A.dx, _, _, rfl, B.ob, T.cl, T.n_dips, fsB_dips, _, rfl, p, cB K, A.dx, _, _, rfl, B.ob, T.cl, T.n_bound, fsB_bound, ?_⟩
    refine ⟨_, ds.length, i, rfl, ⟨A.ld, _, rfl, B.ld, rfl⟩, fun h2 => kX _ _ (by rw [hk, if_pos h2]), fun h2 => ?_⟩
    rw [if_neg (by omega)] at hk
    refine ⟨_, rfl, p, cB K, A.dx, _, _, rfl, B.ob, T.cl, T.n_dips, fsB_dips, A.ld, ds, rfl, .inr (SqL.of B.ld), _, rfl, _, rfl, by show 2 ≤ sizeLine; decide, fun t ht => ⟨Nat.le_trans (show (ds ++ [V.ref t]).length ≤ 1001 by rw [List.length_append]; show ds.length + 1 ≤ 1001; omega) (by decide), fun l hl0 => ?_⟩⟩
    have e1 := Ext.new (ms := []) (o := .tup [.str y, .str x]) ht
    have e2 := Ext.new (ms := []) (o := .lst (ds ++ [.ref t])) hl0
    have B2 := (B.ext e1 (fun _ _ => by simp)).ext e2 (fun _ _ => by simp)
    have hl1 : H l = none := e1.none hl0 (by simp)
    have n1 := (ne_of_none B.lt hl1).symm
    have n2 := (ne_of_none B.lp hl1).symm
    have n3 := (ne_of_none B.lf hl1).symm
    refine ⟨_, rfl, p, cB K, A.dx, _, rfl, B2.ob, T.cl, T.n_dips, (by show 7 < 1000; decide), ?_⟩
    rw [fsB_dips']
    have B3 := B2.setD (l := l) (ds' := ds ++ [.ref t]) upd_same n1 n2 n3
    refine ⟨_, rfl, p, cB K, A.dx, _, _, rfl, B3.ob, T.cl, T.n_dips, fsB_dips, l, ds ++ [.ref t], rfl, .inl (SqL.of B3.ld), _, 1, rfl, rfl, ?_⟩
    have e : (((ds ++ [V.ref t]).length : Nat) : Int) - 1 = (ds.length : Int) := by rw [List.length_append]; show ((ds.length + 1 : Nat) : Int) - 1 = _; omega
    show Q (V.int ((((ds ++ [V.ref t]).length : Nat) : Int) - 1)) _
    rw [e]
    refine kN hk _ t l ((e1.trans e2).nil.mut (by simp) fun xs z => by rw [B.ob] at z; cases z) ht hl1 ?_ B3
    rw [upd_ne (ne_of_none B.ob ht).symm]
    exact e2.keep _ _ upd_same (by simp)
end

end K18
namespace K18
open PySem PySem.Spec PyProof.Rows L2 He Tp ClX LiI

section
variable {P : Program} {w : World} {K : PySem.W.Frag} {mg : Str → Option Value} {base : Heap}
theorem ok_sort (T : Txt K mg) : Df P w K mg base CX0 1 "_law_sort" ["_law_model_here", "_law_garment"] spSort := by
  refine Df.mk' T.g_law_sort T.f_law_sort (fun _ _ _ _ _ _ us hl => match us, hl with | [_, _], _ => rfl) fun fd F => F.ok sc__law_sort (fun vs H Q E h => ?_) (fun cdv A outer s H vs Q E hr h => ?_)
  · obtain ⟨a, k, t, p, c, d, fs, x, y, rfl, _⟩ := h
    rfl
  · obtain ⟨a, k, t, p, c, d, fs, x, y, rfl, M, cn, c8, hm, q⟩ := h
    have nd := sc__law_sort.nd
    refine ⟨_, PSs.nox
   (pss_one (ps_ret (pe_ix ix_list (pe_lc (own := [("_law_row", 2)]) (g := gName 2) (by rfl) nd (pi_list (pe_ix ix_list (pv 0) pe_int (fun _ _ => rfl))) (blkOk_by (own := [("_law_row", 2)]) (N := n__law_sort) (sc := defScope s__law_sort) (by decide +kernel)) (fun _ _ _ _ _ => pg_name (i := 2) nd rfl (by first | exact Or.inl rfl | exact Or.inr rfl)) (fun _ _ _ _ _ => (pts_one (pt_cmpR op_eq (pe_ix (show IxR _ (rIxT K) from ix_tup) (pv 2) pe_int (fun _ _ => rfl)) (pv 1) (nomark _)))) (fun _ _ _ _ _ => (pe_ix (show IxR _ (rIxT K) from ix_tup) (pv 2) pe_int (fun _ _ => rfl)))) pe_int (fun _ _ => rfl)))), ?_⟩
    refine ret_ex (op_ex ?_)
    refine rd_sel (l := c) (x := x) (by show 2 < 3; decide) (val_ixL (val_var rfl) val_c (SqL.of M.M) rfl) M.r3 (by omega) (fun _ _ => val_var rfl) fun D H' hD e hd => ?_
    rw [selL_one cn hm] at hd
    exact ⟨D, _, 0, _, rfl, rfl, SqL.of hd, rfl, q H' e⟩
end

end K18
namespace K18
open PySem PySem.Spec PyProof.Rows L2 He Tp ClX LiI

section
variable {P : Program} {w : World} {K : PySem.W.Frag} {mg : Str → Option Value} {base : Heap}
theorem ok_grip (T : Txt K mg) : Df P w K mg base CX0 2 "_law_grip" ["_law_model_here", "_law_garment"] spGrip := by
  have D__law_sort := ok_sort (P := P) (w := w) (base := base) T
  refine Df.mk' T.g_law_grip T.f_law_grip (fun _ _ _ _ _ _ us hl => match us, hl with | [_, _], _ => rfl) fun fd F => F.ok sc__law_grip (fun vs H Q E h => ?_) (fun cdv A outer s H vs Q E hr h => ?_)
  · obtain ⟨a, k, t, p, c, d, fs, x, y, z, rfl, _⟩ := h
    rfl
  · obtain ⟨a, k, t, p, c, d, fs, x, y, z, rfl, M, cn, c8, kn, k8, hm, hk, q⟩ := h
    have nd := sc__law_grip.nd
    have hr__law_sort := hr
    refine ⟨_, PSs.nox
   (pss_cons (ps_set (i := 2) nd rfl (by first | exact Or.inl rfl | exact Or.inr rfl) (pe_cd D__law_sort hr__law_sort (by rfl) pass0 (pa_cons (pv 0) (pa_cons (pv 1) pa_nil))))
   (pss_one (ps_ret (pe_ix ix_list (pe_lc (own := [("_law_row", 3)]) (g := gName 3) (by rfl) nd (pi_list (pe_ix ix_list (pv 0) pe_int (fun _ _ => rfl))) (blkOk_by (own := [("_law_row", 3)]) (N := n__law_grip) (sc := defScope s__law_grip) (by decide +kernel)) (fun _ _ _ _ _ => pg_name (i := 3) nd rfl (by first | exact Or.inl rfl | exact Or.inr rfl)) (fun _ _ _ _ _ => (pts_one (pt_cmpR op_eq (pe_ix (show IxR _ (rIxT K) from ix_tup) (pv 3) pe_int (fun _ _ => rfl)) (pv 2) (nomark _)))) (fun _ _ _ _ _ => (pe_ix (show IxR _ (rIxT K) from ix_tup) (pv 3) pe_int (fun _ _ => rfl)))) pe_int (fun _ _ => rfl))))), ?_⟩
    refine ⟨_, rfl, _, rfl, a, k, t, p, c, d, fs, x, y, rfl, M, cn, c8, hm, fun H1 e1 => ?_⟩
    have M1 := M.ext e1 fun _ _ => by simp
    refine gset ?_
    dsimp only
    refine ret_ex (op_ex ?_)
    refine rd_sel (l := k) (x := y) (by show 3 < 4; decide) (val_ixL (val_var rfl) val_c (SqL.of M1.M) rfl) M1.r0 (by omega) (fun _ _ => val_var rfl) fun D H' hD e hd => ?_
    rw [selL_one kn hk] at hd
    exact ⟨D, _, 0, _, rfl, rfl, SqL.of hd, rfl, q H' (e1.trans e)⟩
end

end K18
namespace K18
open PySem PySem.Spec PyProof.Rows L2 He Tp ClX LiI

section
variable {P : Program} {w : World} {K : PySem.W.Frag} {mg : Str → Option Value} {base : Heap}
theorem ok_before (T : Txt K mg) : Df P w K mg base CX0 1 "_law_before" ["_law_model_here", "_law_i"] spBefore := by
  refine Df.mk' T.g_law_before T.f_law_before (fun _ _ _ _ _ _ us hl => match us, hl with | [_, _], _ => rfl) fun fd F => F.ok sc__law_before (fun vs H Q E h => ?_) (fun cdv A outer s H vs Q E hr h => ?_)
  · obtain ⟨a, k, t, p, c, d, fs, i, qq, rfl, _⟩ := h
    rfl
  · obtain ⟨a, k, t, p, c, d, fs, i, qq, rfl, M, hd, hi, q⟩ := h
    have nd := sc__law_before.nd
    refine ⟨_, PSs.nox
   (pss_cons (ps_for PassesOwn.never rfl (pi_range1 (by rfl) T.brange (pa_cons (pv 1) pa_nil)) (pg_name (i := 2) nd rfl (by first | exact Or.inl rfl | exact Or.inr rfl))
   (pss_one (ps_if (pt_cmpR op_eq (pe_ix ix_tup (pe_ix ix_list (pe_ix ix_list (pv 0) pe_int (fun _ _ => rfl)) (pe_op op_sub (pe_op op_sub (pv 1) pe_int) (pv 2)) (fun _ _ => rfl)) pe_int (fun _ _ => rfl)) (pe_ix ix_tup (pe_ix ix_list (pe_ix ix_list (pv 0) pe_int (fun _ _ => rfl)) (pv 1) (fun _ _ => rfl)) pe_int (fun _ _ => rfl)) (nomark _)) (pss_one (ps_ret (pe_op op_sub (pe_op op_sub (pv 1) pe_int) (pv 2)))) pss_nil)))
   (pss_one (ps_ret pe_non))), ?_⟩
    have hil := (List.getElem?_eq_some_iff.mp hi).1
    obtain ⟨as, ha, hp⟩ := M.r4
    have hal := paired_len hp
    have at_ : ∀ {m : Nat} {z : Str × Str}, d[m]? = some z → ∃ u, atI (as.map V.ref) (m : Int) = some (.ref u) ∧ H u = some (.tup [.str z.1, .str z.2]) := fun {m z} hm => by
      have hml := (List.getElem?_eq_some_iff.mp hm).1
      obtain ⟨z', hz', hT⟩ := paired_at hp (List.getElem?_eq_getElem (by omega : m < as.length))
      rw [hm] at hz'
      cases hz'
      exact ⟨_, atI_nat (by rw [List.getElem?_map, List.getElem?_eq_getElem (by omega : m < as.length)]; rfl), hT⟩
    refine ⟨_, rfl, (i : Int), rfl, by omega, by omega, for_range (n := (i : Int).toNat) (fun j σ' H' => H' = H ∧ j ≤ i ∧ (∃ x2, σ' = [some (.ref a.M), some (.int (i : Int)), x2]) ∧ prevD d qq.1 i = prevD d qq.1 (i - j)) ⟨rfl, Nat.zero_le _, ⟨none, rfl⟩, rfl⟩ ?_ ?_⟩
    · rintro j σ' H' hj ⟨rfl, hji, ⟨x2, rfl⟩, he⟩
      have hj' : j < i := by omega
      obtain ⟨m, hm⟩ : ∃ m, i - j = m + 1 := ⟨i - j - 1, by omega⟩
      have hm2 : i - (j + 1) = m := by omega
      have hmi : ((i : Int) - 1) - (0 + (j : Int)) = (m : Int) := by omega
      obtain ⟨z, hz⟩ : ∃ z, d[m]? = some z := ⟨_, List.getElem?_eq_getElem (by omega)⟩
      obtain ⟨u, hu, hT⟩ := at_ hz
      obtain ⟨u2, hu2, hT2⟩ := at_ hi
      have hpd : prevD d qq.1 (m + 1) = if z.1 = qq.1 then some m else prevD d qq.1 m := by
        show (if (d[m]?.map (·.1)) = some qq.1 then _ else _) = _
        rw [hz]
        show (if some z.1 = some qq.1 then _ else _) = _
        by_cases h : z.1 = qq.1
        · rw [if_pos h, if_pos (by rw [h])]
        · rw [if_neg h, if_neg (fun e => h (Option.some.inj e))]
      rw [hm, hpd] at he
      refine ⟨_, rfl, a.M, _, 4, .ref a.m4, rfl, rfl, SqL.of M.M, rfl, _, rfl, _, 1, rfl, rfl, _, rfl, _, _, rfl, rfl, _, _, _, _, rfl, rfl, SqL.of ha, (by rw [hmi]; exact hu), u, _, 0, _, rfl, rfl, .inl (.inl hT), rfl, ?_⟩
      refine ⟨_, rfl, a.M, _, 4, .ref a.m4, rfl, rfl, SqL.of M.M, rfl, _, rfl, _, _, _, _, rfl, rfl, SqL.of ha, hu2, u2, _, 0, _, rfl, rfl, .inl (.inl hT2), rfl, rfl, _, rfl, ?_⟩
      refine ifd (fun h => ?_) (fun h => ?_)
      · have h' : z.1 = qq.1 := by injection h
        rw [if_pos h'] at he
        refine ⟨_, rfl, _, 1, rfl, rfl, _, rfl, _, _, rfl, rfl, ?_⟩
        rw [he] at q
        show Q (V.int (((i : Int) - 1) - (0 + (j : Int)))) H'
        rw [hmi]
        exact q
      · have h' : ¬ z.1 = qq.1 := fun e => h (by rw [e])
        rw [if_neg h'] at he
        exact ⟨rfl, by omega, ⟨_, rfl⟩, by rw [he, hm2]⟩
    · rintro σ' H' ⟨rfl, _, ⟨x2, rfl⟩, he⟩
      have e0 : i - (i : Int).toNat = 0 := by omega
      rw [e0] at he
      rw [he] at q
      exact q
end

end K18
namespace K18
open PySem PySem.Spec PyProof.Rows L2 He Tp ClX LiI

section
variable {P : Program} {w : World} {K : PySem.W.Frag} {mg : Str → Option Value} {base : Heap}
theorem ok_leaves (T : Txt K mg) : Df P w K mg base CX0 3 "_law_leaves" ["_law_model_here", "_law_i"] spLeaves := by
  have D__law_before := ok_before (P := P) (w := w) (base := base) T
  have D__law_grip := ok_grip (P := P) (w := w) (base := base) T
  refine Df.mk' T.g_law_leaves T.f_law_leaves (fun _ _ _ _ _ _ us hl => match us, hl with | [_, _], _ => rfl) fun fd F => F.ok sc__law_leaves (fun vs H Q E h => ?_) (fun cdv A outer s H vs Q E hr h => ?_)
  · obtain ⟨a, k, t, p, c, d, fs, i, rfl, _⟩ := h
    rfl
  · obtain ⟨a, k, t, p, c, d, fs, i, rfl, M, G, hi, q⟩ := h
    have nd := sc__law_leaves.nd
    have hr__law_before := hr.mono (show 1 ≤ 2 by decide)
    have hr__law_grip := hr
    refine ⟨_, PSs.nox
   (pss_cons (ps_set (i := 2) nd rfl (by first | exact Or.inl rfl | exact Or.inr rfl) (pe_cd D__law_before hr__law_before (by rfl) pass0 (pa_cons (pv 0) (pa_cons (pv 1) pa_nil))))
   (pss_cons (ps_if (PW.pt (pw_or (pt_cmpR op_isN (pv 2) pe_non (nomark _)) (pw_or1 (pt_cmpR op_eq (pe_ix ix_tup (pe_ix ix_list (pe_ix ix_list (pv 0) pe_int (fun _ _ => rfl)) (pv 2) (fun _ _ => rfl)) pe_int (fun _ _ => rfl)) (pe_ix ix_tup (pe_ix ix_list (pe_ix ix_list (pv 0) pe_int (fun _ _ => rfl)) (pv 1) (fun _ _ => rfl)) pe_int (fun _ _ => rfl)) (nomark _))))) (pss_one (ps_ret pe_bl)) pss_nil)
   (pss_one (ps_ret (pe_cmpR op_ne (pe_cd D__law_grip hr__law_grip (by rfl) pass0 (pa_cons (pv 0) (pa_cons (pe_ix ix_tup (pe_ix ix_list (pe_ix ix_list (pv 0) pe_int (fun _ _ => rfl)) (pv 1) (fun _ _ => rfl)) pe_int (fun _ _ => rfl)) pa_nil))) pe_str (nomark _)))))), ?_⟩
    obtain ⟨qq, hq⟩ : ∃ qq, d[i]? = some qq := ⟨_, List.getElem?_eq_getElem hi⟩
    obtain ⟨as, ha, hp⟩ := M.r4
    have hal := paired_len hp
    have at_ : ∀ {m : Nat} {z : Str × Str}, d[m]? = some z → ∃ u, atI (as.map V.ref) (m : Int) = some (.ref u) ∧ H u = some (.tup [.str z.1, .str z.2]) := fun {m z} hm => by
      have hml := (List.getElem?_eq_some_iff.mp hm).1
      obtain ⟨z', hz', hT⟩ := paired_at hp (List.getElem?_eq_getElem (by omega : m < as.length))
      rw [hm] at hz'
      cases hz'
      exact ⟨_, atI_nat (by rw [List.getElem?_map, List.getElem?_eq_getElem (by omega : m < as.length)]; rfl), hT⟩
    refine ⟨_, rfl, _, rfl, a, k, t, p, c, d, fs, i, qq, rfl, M, G.dl, hq, ?_⟩
    have hL : leaveD k c d i = (match prevD d qq.1 i with | some j => (match d[j]? with | some r => !decide (r.2 = qq.2) && !decide (holdOf k c qq.1 = "fast") | none => false) | none => false) := by
      unfold leaveD
      rw [hq] <;> rfl
    rw [hL] at q
    cases hpv : prevD d qq.1 i with
    | none =>
      rw [hpv] at q
      exact ⟨_, rfl, rfl, _, rfl, iteT (iteT (q H Ext.refl))⟩
    | some j =>
      obtain ⟨hj, r, hr2, _⟩ := prevD_lt hpv
      rw [hpv] at q
      dsimp only at q
      rw [hr2] at q
      dsimp only at q
      obtain ⟨u1, b1, T1⟩ := at_ hr2
      obtain ⟨u2, b2, T2⟩ := at_ hq
      refine ⟨_, rfl, rfl, _, rfl, ?_⟩
      refine ifd (fun h => by cases h) (fun _ => ?_)
      refine ⟨_, rfl, a.M, _, 4, .ref a.m4, rfl, rfl, SqL.of M.M, rfl, _, rfl, _, _, _, _, rfl, rfl, SqL.of ha, b1, u1, _, 1, _, rfl, rfl, .inl (.inl T1), rfl, ?_⟩
      refine ⟨_, rfl, a.M, _, 4, .ref a.m4, rfl, rfl, SqL.of M.M, rfl, _, rfl, _, _, _, _, rfl, rfl, SqL.of ha, b2, u2, _, 1, _, rfl, rfl, .inl (.inl T2), rfl, rfl, _, rfl, ?_⟩
      refine ifd (fun h => ?_) (fun h => ?_)
      · have h' : r.2 = qq.2 := by injection h
        rw [decide_eq_true h'] at q
        exact q H Ext.refl
      · have h' : ¬ r.2 = qq.2 := fun e => h (by rw [e])
        rw [decide_eq_false h'] at q
        obtain ⟨y, z, g1, g2, g3⟩ := G.hold (List.mem_of_getElem? hq)
        refine ⟨_, rfl, _, rfl, a.M, _, 4, .ref a.m4, rfl, rfl, SqL.of M.M, rfl, _, rfl, _, _, _, _, rfl, rfl, SqL.of ha, b2, u2, _, 0, _, rfl, rfl, .inl (.inl T2), rfl, ?_⟩
        refine ⟨a, k, t, p, c, d, fs, qq.1, y, z, rfl, M, G.cn, G.c8, G.kn, G.k8, g1, g2, fun H1 e1 => ⟨rfl, ?_⟩⟩
        have q1 := q H1 e1
        rw [g3] at q1
        have e : decide (V.str z = V.str "fast") = decide (z = "fast") := by
          by_cases hz : z = "fast"
          · rw [decide_eq_true hz, decide_eq_true (by rw [hz])]
          · rw [decide_eq_false hz, decide_eq_false (fun e => hz (by injection e))]
        show Q (V.bl (!decide (V.str z = V.str "fast"))) H1
        rw [e]
        exact q1
end

end K18
namespace K18
open PySem PySem.Spec PyProof.Rows L2 He Tp ClX LiI

section
variable {P : Program} {w : World} {K : PySem.W.Frag} {mg : Str → Option Value} {base : Heap}
theorem ok_amts (T : Txt K mg) : Df P w K mg base CX0 4 "_law_amounts" ["_law_model_here"] spAmts := by
  have D__law_leaves := ok_leaves (P := P) (w := w) (base := base) T
  refine Df.mk' T.g_law_amounts T.f_law_amounts (fun _ _ _ _ _ _ us hl => match us, hl with | [_], _ => rfl) fun fd F => F.ok sc__law_amounts (fun vs H Q E h => ?_) (fun cdv A outer s H vs Q E hr h => ?_)
  · obtain ⟨a, k, t, p, c, d, fs, rfl, _⟩ := h
    rfl
  · obtain ⟨a, k, t, p, c, d, fs, rfl, M, G, q⟩ := h
    have nd := sc__law_amounts.nd
    have hr__law_leaves := hr
    refine ⟨_, PSs.nox
   (pss_cons (ps_set (i := 1) nd rfl (by first | exact Or.inl rfl | exact Or.inr rfl) (pe_lst pa_nil))
   (pss_cons (ps_for PassesOwn.never rfl (pi_range1 (by rfl) T.brange (pa_cons (pe_callB call_len_seq (by rfl) T.blen PySem.boot_len (pa_cons (pe_ix ix_list (pv 0) pe_int (fun _ _ => rfl)) pa_nil)) pa_nil)) (pg_name (i := 2) nd rfl (by first | exact Or.inl rfl | exact Or.inr rfl))
   (pss_cons (ps_expr (pe_bm PySem.F.plainAttrs_list PySem.F.slot_list_append PySem.F.type_list_append mt_append (pv 1) (pa_cons (pe_tup (pa_cons pe_str (pa_cons (pv 2) pa_nil))) pa_nil)))
   (pss_one (ps_if (pt_val (pe_cd D__law_leaves hr__law_leaves (by rfl) pass0 (pa_cons (pv 0) (pa_cons (pv 2) pa_nil)))) (pss_one (ps_expr (pe_bm PySem.F.plainAttrs_list PySem.F.slot_list_append PySem.F.type_list_append mt_append (pv 1) (pa_cons (pe_tup (pa_cons pe_str (pa_cons (pv 2) pa_nil))) pa_nil)))) pss_nil))))
   (pss_one (ps_ret (pv 1))))), ?_⟩
    refine ⟨by show 0 ≤ sizeLine; decide, fun l hl => ?_⟩
    have e0 := Ext.new (ms := []) (o := .lst []) hl
    have M0 := M.ext e0 fun _ _ => by simp
    obtain ⟨xs4, hx4, hx4l⟩ := row_len M0.r4
    have hdl := G.dl
    refine ⟨_, rfl, a.M, _, 4, .ref a.m4, rfl, rfl, SqL.of M0.M, rfl, a.m4, xs4, rfl, .inl (SqL.of hx4), ?_⟩
    refine ⟨(xs4.length : Int), rfl, by omega, by omega, for_range (n := (xs4.length : Int).toNat) (fun i σ' H' => (∃ x2, σ' = [some (.ref a.M), some (.ref l), x2]) ∧ Ext [] H H' ∧ AmtAt H' l (amtD k c d i)) ⟨⟨none, rfl⟩, e0, [], upd_same, .nil⟩ ?_ ?_⟩
    · rintro i σ' H' hi ⟨⟨x2, rfl⟩, e, am⟩
      have hid : i < d.length := by omega
      obtain ⟨xs, hxs, hxl⟩ := am.lst
      have hb := amtD_len (k := k) (c := c) (d := d) i
      refine ⟨_, rfl, .inl ⟨rfl, _, SqL.of hxs⟩, _, rfl, by show 2 ≤ sizeLine; decide, fun u hu => ⟨l, xs, _, rfl, rfl, (by rw [upd_ne (ne_of_none hxs hu)]; exact hxs), Evl.sz_lt (by omega), ?_⟩⟩
      have ei : (0 : Int) + (i : Int) = (i : Int) := Int.zero_add _
      rw [ei]
      have am1 := am.push (q := (("take" : Str), i)) hxs hu
      have e1 : Ext [] H (upd (upd H' u (.tup [.str "take", .int (i : Int)])) l (.lst (xs ++ [.ref u]))) := (e.fresh (e.none hu (by simp))).fresh hl
      generalize upd (upd H' u (.tup [.str "take", .int (i : Int)])) l (.lst (xs ++ [.ref u])) = H1 at am1 e1
      refine ⟨_, rfl, _, rfl, a, k, t, p, c, d, fs, i, rfl, M.ext e1 fun _ _ => by simp, G, hid, fun H2 e2 => ⟨_, rfl, ?_⟩⟩
      have am2 := am1.ext e2 (by simp)
      have hamt : amtD k c d (i + 1) = (amtD k c d i ++ [(("take" : Str), i)]) ++ (if leaveD k c d i = true then [(("leave" : Str), i)] else []) := rfl
      refine ifb (fun h => ?_) (fun h => ?_)
      · rw [if_pos h] at hamt
        obtain ⟨ys, hys, hyl⟩ := am2.lst
        rw [List.length_append] at hyl
        have hyl2 : ys.length = (amtD k c d i).length + 1 := hyl
        refine ⟨_, rfl, .inl ⟨rfl, _, SqL.of hys⟩, _, rfl, by show 2 ≤ sizeLine; decide, fun v hv => ⟨l, ys, _, rfl, rfl, (by rw [upd_ne (ne_of_none hys hv)]; exact hys), Evl.sz_lt (by omega), ⟨_, rfl⟩, ((e1.trans e2).fresh ((e1.trans e2).none hv (by simp))).fresh hl, ?_⟩⟩
        rw [hamt]
        exact am2.push (q := (("leave" : Str), i)) hys hv
      · rw [if_neg (by rw [h]; decide), List.append_nil] at hamt
        refine ⟨⟨_, rfl⟩, e1.trans e2, ?_⟩
        rw [hamt]
        exact am2
    · rintro σ' H' ⟨⟨x2, rfl⟩, e, am⟩
      have en : (xs4.length : Int).toNat = d.length := by omega
      rw [en] at am
      exact ⟨_, rfl, q l H' hl e am⟩
end

end K18
namespace K18
open PySem PySem.Spec PyProof.Rows L2 He Tp ClX LiI

section
variable {P : Program} {w : World} {K : PySem.W.Frag} {mg : Str → Option Value} {base : Heap}
theorem known_some {L : List (Str × V)} {z : Str} (h : decide (z ∈ L.map (·.1)) = true) : ∃ y, valV (kvB L) (Sum.inr z : Key) = some y := by
  have e := valV_kvB (z := z) (ks := L)
  rw [h] at e
  exact Option.isSome_iff_exists.mp e
theorem ok_kind_of (T : Txt K mg) {fd : FuncData} (F : FnM K "Book" "kind_of" "Book.kind_of" s_Book_kind_of [] fd) : FnOk P w K mg base (L2.CX P w) 4 (ma K (cB K) "kind_of") fd ["self", "cloth"] (spLook K (cB K) true) := by
  have D__check_known := ok_check_knownD (P := P) (w := w) (base := base) T
  refine F.ok sc_Book_kind_of (fun vs H Q E h => ?_) (fun cdv A outer s H vs Q E hr h => ?_)
  · obtain ⟨p, v, i, A, ks, ts, ps, cs, ds, fs, rfl, _⟩ := h
    rfl
  · obtain ⟨p, v, i, A, ks, ts, ps, cs, ds, fs, rfl, hv, B, kX, kY⟩ := h
    have hu := hu_of hr
    have hr__check_known := hr
    refine ⟨_, (pss_cons (ps_expr (pe_cd D__check_known hr__check_known (by rfl) (passes_call (takes_of rfl rfl rfl rfl) (fun _ _ _ _ z => z)) (pa_cons (pv 1) (pa_cons (pe_fld (pv 0) rfl) pa_nil))))
   (pss_one (ps_ret (pe_dget hu (pe_fld (pv 0) rfl) (pv 1) (fun _ _ => rfl))))), ?_⟩
    refine ⟨_, rfl, _, rfl, p, cB K, A.dx, _, _, rfl, B.ob, T.cl, T.n_cloths, fsB_cloths, ?_⟩
    refine ⟨v, _, fun z => decide (z ∈ cs.map (·.1)), rfl, hv, ⟨A.dc, kvB cs, rfl, B.dc, fun z => valV_kvB.symm⟩, fun e => kX (knownK_no e), fun y ey hit => ?_⟩
    subst ey
    obtain ⟨x, hx⟩ := known_some hit
    exact ⟨_, rfl, p, cB K, A.dx, _, _, rfl, B.ob, T.cl, T.n_cloths, fsB_cloths, _, rfl, A.dc, _, rfl, by rw [← hx]; exact DGet.k (k := Sum.inr y) B.dc, kY y x rfl hx⟩
theorem ok_hold_of (T : Txt K mg) {fd : FuncData} (F : FnM K "Book" "hold_of" "Book.hold_of" s_Book_hold_of [] fd) : FnOk P w K mg base (L2.CX P w) 4 (ma K (cB K) "hold_of") fd ["self", "kind"] (spLook K (cB K) false) := by
  have D__check_known := ok_check_knownD (P := P) (w := w) (base := base) T
  refine F.ok sc_Book_hold_of (fun vs H Q E h => ?_) (fun cdv A outer s H vs Q E hr h => ?_)
  · obtain ⟨p, v, i, A, ks, ts, ps, cs, ds, fs, rfl, _⟩ := h
    rfl
  · obtain ⟨p, v, i, A, ks, ts, ps, cs, ds, fs, rfl, hv, B, kX, kY⟩ := h
    have hu := hu_of hr
    have hr__check_known := hr
    refine ⟨_, (pss_cons (ps_expr (pe_cd D__check_known hr__check_known (by rfl) (passes_call (takes_of rfl rfl rfl rfl) (fun _ _ _ _ z => z)) (pa_cons (pv 1) (pa_cons (pe_fld (pv 0) rfl) pa_nil))))
   (pss_one (ps_ret (pe_dget hu (pe_fld (pv 0) rfl) (pv 1) (fun _ _ => rfl))))), ?_⟩
    refine ⟨_, rfl, _, rfl, p, cB K, A.dx, _, _, rfl, B.ob, T.cl, T.n_kinds, fsB_kinds, ?_⟩
    refine ⟨v, _, fun z => decide (z ∈ ks.map (·.1)), rfl, hv, ⟨A.dk, kvB ks, rfl, B.dk, fun z => valV_kvB.symm⟩, fun e => kX (knownK_no e), fun y ey hit => ?_⟩
    subst ey
    obtain ⟨x, hx⟩ := known_some hit
    exact ⟨_, rfl, p, cB K, A.dx, _, _, rfl, B.ob, T.cl, T.n_kinds, fsB_kinds, _, rfl, A.dk, _, rfl, by rw [← hx]; exact DGet.k (k := Sum.inr y) B.dk, kY y x rfl hx⟩
end

end K18
namespace K18
open PySem PySem.Spec PyProof.Rows L2 He Tp ClX LiI

section
variable {P : Program} {w : World} {K : PySem.W.Frag} {mg : Str → Option Value} {base : Heap}
theorem ok_previous (T : Txt K mg) {fd : FuncData} (F : FnM K "Book" "previous" "Book.previous" s_Book_previous [] fd) : FnOk P w K mg base (L2.CX P w) 4 (ma K (cB K) "previous") fd ["self", "number"] (spPrevious K (cB K)) := by
  have D_check_between := ok_check_between (P := P) (w := w) (base := base) T
  refine F.ok sc_Book_previous (fun vs H Q E h => ?_) (fun cdv A outer s H vs Q E hr h => ?_)
  · obtain ⟨p, v, i, A, ks, ts, ps, cs, ds, fs, d, rfl, _⟩ := h
    rfl
  · obtain ⟨p, v, i, A, ks, ts, ps, cs, ds, fs, d, rfl, hv, B, D, hd, kX, kY⟩ := h
    have nd := sc_Book_previous.nd
    have hr_check_between := hr
    have hu1 := hu1_of hr
    refine ⟨_, (pss_cons (ps_expr (pe_cd D_check_between hr_check_between (by rfl) (passes_call (takes_of rfl rfl rfl rfl) (fun _ _ _ _ z => z)) (pa_cons (pv 1) (pa_cons pe_int (pa_cons (pe_op op_sub (pe_callB call_len_seq (by rfl) T.blen PySem.boot_len (pa_cons (pe_fld (pv 0) rfl) pa_nil)) pe_int) pa_nil)))))
   (pss_cons (ps_asg (pe_ix ix_list (pe_fld (pv 0) rfl) (pv 1) (fun _ _ => rfl)) (pg_tup (by rfl) (pgs_cons (pg_name (i := 2) nd rfl (by first | exact Or.inl rfl | exact Or.inr rfl)) (pgs_cons (pg_name (i := 3) nd rfl (by first | exact Or.inl rfl | exact Or.inr rfl)) pgs_nil))))
   (pss_one (ps_ret (pe_callBK (ck_maxDf rfl hu1) (by rfl) T.bmax (by decide +kernel) (pa_cons (pe_lc (own := [("dip", 4)]) (g := gName 4) (by rfl) nd (pi_range1 (by rfl) T.brange (pa_cons (pv 1) pa_nil)) (blkOk_by (own := [("dip", 4)]) (N := n_Book_previous) (sc := defScope s_Book_previous) (by decide +kernel)) (fun _ _ _ _ _ => pg_name (i := 4) nd rfl (by first | exact Or.inl rfl | exact Or.inr rfl)) (fun _ _ _ _ _ => (pts_one (pt_cmpR op_eq (pe_ix (show IxR _ (rIxT K) from ix_tup) (pe_ix (show IxR _ (rIxL K) from ix_list) (show PE _ _ (tFld K _ _) from pe_fld (pv 0) rfl) (pv 4) (fun _ _ => rfl)) pe_int (fun _ _ => rfl)) (pv 2) (nomark _)))) (fun _ _ _ _ _ => (pv 4))) pa_nil) (pk_cons pe_non pk_nil)))))), ?_⟩
    have hdl := D.len
    refine ⟨_, rfl, _, rfl, p, cB K, A.dx, _, _, rfl, B.ob, T.cl, T.n_dips, fsB_dips, A.ld, ds, rfl, .inl (SqL.of B.ld), _, 1, rfl, rfl, ?_⟩
    refine ⟨v, 0, (ds.length : Int) - 1, rfl, hv, fun hb => ?_, fun hb => kX (by rw [← hdl]; exact hb)⟩
    obtain ⟨j, rfl, h0, h1⟩ : ∃ j, v = .int j ∧ 0 ≤ j ∧ j ≤ (ds.length : Int) - 1 := by
      cases v with
      | int j => exact ⟨j, rfl, hb⟩
      | _ => exact hb.elim
    obtain ⟨n, rfl⟩ := Int.eq_ofNat_of_zero_le h0
    have hn : n < d.length := by omega
    obtain ⟨q, hq⟩ : ∃ q, d[n]? = some q := ⟨_, List.getElem?_eq_getElem hn⟩
    obtain ⟨u, hu, hT⟩ := D.get hq
    refine ⟨_, rfl, p, cB K, A.dx, _, _, rfl, B.ob, T.cl, T.n_dips, fsB_dips, _, rfl, _, _, _, _, rfl, rfl, SqL.of B.ld, hu, ?_⟩
    refine ⟨u, _, rfl, .inl (.inl hT), rfl, _, _, rfl, _, _, rfl, rfl, ?_⟩
    refine ⟨_, rfl, (n : Int), rfl, by omega, by omega, fun l hl => lc_range (lo := 0) (n := (n : Int).toNat) (fun i H' => H' = upd H l (.lst ((hitsD d q.1 i).map V.int))) rfl ?_ ?_⟩
    · rintro m H' hm rfl
      have hm' : m < n := by omega
      refine ⟨wipe1, ?_⟩
      obtain ⟨r, hr2⟩ : ∃ r, d[m]? = some r := ⟨_, List.getElem?_eq_getElem (by omega)⟩
      obtain ⟨u2, hu2, hT2⟩ := D.get hr2
      have e1 := Ext.new (ms := []) (o := .lst ((hitsD d q.1 m).map V.int)) hl
      have B1 := B.ext e1 (fun _ _ => by simp)
      have em : (0 : Int) + (m : Int) = (m : Int) := Int.zero_add _
      have e2 : hitsD d q.1 (m + 1) = if r.1 = q.1 then hitsD d q.1 m ++ [(m : Int)] else hitsD d q.1 m := by
        show (if (d[m]?.map (·.1)) = some q.1 then _ else _) = _
        rw [hr2]
        show (if some r.1 = some q.1 then _ else _) = _
        by_cases h : r.1 = q.1
        · rw [if_pos h, if_pos (by rw [h])]
        · rw [if_neg h, if_neg (fun e => h (Option.some.inj e))]
      refine ⟨_, rfl, p, cB K, A.dx, _, _, rfl, B1.ob, T.cl, T.n_dips, fsB_dips, _, rfl, _, _, _, _, rfl, rfl, SqL.of B1.ld, (by rw [em]; exact hu2), u2, _, 0, _, rfl, rfl, .inl (.inl (e1.tups _ _ hT2)), rfl, _, rfl, rfl, _, rfl, ?_⟩
      refine ifd (fun h => ?_) (fun h => ?_)
      · have h' : r.1 = q.1 := by injection h
        rw [if_pos h'] at e2
        refine ⟨_, rfl, _, upd_same, ?_, ?_⟩
        · rw [List.length_map]
          have := hitsD_len (d := d) (x := q.1) m
          exact Evl.sz_lt (by omega)
        · rw [upd_upd, e2, List.map_append, em]
          rfl
      · have h' : ¬ r.1 = q.1 := fun e => h (by rw [e])
        rw [if_neg h'] at e2
        show _ = _
        rw [e2]
    · rintro H' rfl
      have en : (n : Int).toNat = n := by simp
      rw [en]
      obtain ⟨h1, h2⟩ := hitsD_max (d := d) (x := q.1) n
      refine ⟨l, _, .non, rfl, rfl, SqL.of upd_same, fun h => ?_, fun m hm hx => ?_⟩
      · have := kY n q rfl hq (upd H l (.lst ((hitsD d q.1 n).map V.int))) (Ext.new hl)
        rw [h1 h] at this
        exact this
      · have := kY n q rfl hq (upd H l (.lst ((hitsD d q.1 n).map V.int))) (Ext.new hl)
        rw [h2 m hm hx] at this
        exact this
end

end K18
namespace K18
open PySem PySem.Spec PyProof.Rows L2 He Tp ClX LiI

section
variable {P : Program} {w : World} {K : PySem.W.Frag} {mg : Str → Option Value} {base : Heap}
theorem valV_tv {z y : Str} : ∀ {l : List (Str × Str)}, (l.map (·.1)).Nodup → (z, y) ∈ l → valV (kvB (l.map tv)) (Sum.inr z : Key) = some (.str y)
  | [], _, h => by cases h
  | q :: l, nd, h => by
    rw [List.map_cons, List.nodup_cons] at nd
    rcases List.mem_cons.mp h with rfl | h2
    · exact valV_pos (p := (Sum.inr z, V.str y)) rfl
    · have hne : ¬ q.1 = z := fun e => nd.1 (e ▸ List.mem_map.mpr ⟨(z, y), h2, rfl⟩)
      exact (valV_neg (p := (Sum.inr q.1, V.str q.2)) (fun x => hne (Sum.inr.inj x))).trans (valV_tv nd.2 h2)
theorem ok_has_leave (T : Txt K mg) {fd : FuncData} (F : FnM K "Book" "_has_leave" "Book._has_leave" s_Book__has_leave [] fd) : FnOk P w K mg base (L2.CX P w) 5 (ma K (cB K) "_has_leave") fd ["self", "number"] (spHasLeave (cB K)) := by
  obtain ⟨fv, fv_⟩ := T.fprevious
  have Fv := ok_previous (P := P) (w := w) (base := base) T fv_
  have bv : Binds K fv ["self", "number"] [] := fv_.bindsN (fun _ _ _ _ _ _ us hl => match us, hl with | [_, _], _ => rfl)
  refine F.ok sc_Book__has_leave (fun vs H Q E h => ?_) (fun cdv A outer s H vs Q E hr h => ?_)
  · obtain ⟨p, i, A, k, c, ts, ps, ds, fs, d, n, rfl, _⟩ := h
    rfl
  · obtain ⟨p, i, A, k, c, ts, ps, ds, fs, d, n, rfl, B, D, G, hn, q⟩ := h
    have nd := sc_Book__has_leave.nd
    have hrv := hr
    have hu := hu_of hr
    refine ⟨_, (pss_cons (ps_asg (pe_ix ix_list (pe_fld (pv 0) rfl) (pv 1) (fun _ _ => rfl)) (pg_tup (by rfl) (pgs_cons (pg_name (i := 2) nd rfl (by first | exact Or.inl rfl | exact Or.inr rfl)) (pgs_cons (pg_name (i := 3) nd rfl (by first | exact Or.inl rfl | exact Or.inr rfl)) pgs_nil))))
   (pss_cons (ps_set (i := 4) nd rfl (by first | exact Or.inl rfl | exact Or.inr rfl) (pe_meth (pv 0) T.cl T.mprevious Fv hrv bv .nil (passes_call (takes_of rfl rfl rfl rfl) (fun _ _ _ _ z => z)) (pa_cons (pv 1) pa_nil)))
   (pss_one (ps_ret (pe_and (pe_cmpR op_notN (pv 4) pe_non (nomark _)) (pe_and (pe_cmpR op_ne (pe_ix ix_tup (pe_ix ix_list (pe_fld (pv 0) rfl) (pv 4) (fun _ _ => rfl)) pe_int (fun _ _ => rfl)) (pv 3) (nomark _)) (pe_one (pe_cmpR op_ne (pe_dget hu (pe_fld (pv 0) rfl) (pe_dget hu (pe_fld (pv 0) rfl) (pv 2) (fun _ _ => rfl)) (fun _ _ => rfl)) pe_str (nomark _))))))))), ?_⟩
    obtain ⟨qq, hq⟩ : ∃ qq, d[n]? = some qq := ⟨_, List.getElem?_eq_getElem hn⟩
    obtain ⟨u, hu1, hT⟩ := D.get hq
    refine ⟨_, rfl, p, cB K, A.dx, _, _, rfl, B.ob, T.cl, T.n_dips, fsB_dips, _, rfl, _, _, _, _, rfl, rfl, SqL.of B.ld, hu1, ?_⟩
    refine ⟨u, _, rfl, .inl (.inl hT), rfl, _, _, rfl, _, _, rfl, rfl, ?_⟩
    refine ⟨_, rfl, p, A.dx, _, rfl, B.ob, fsB_no2 (.inl rfl), _, rfl, ?_⟩
    refine ⟨p, .int (n : Int), i, A, _, _, _, _, _, _, d, rfl, .int _, B, D, G.dl, fun hb => absurd (show (0 : Int) ≤ (n : Int) ∧ (n : Int) ≤ (d.length : Int) - 1 by omega) hb, fun n' q' en hq' H1 e1 => ?_⟩
    have en' : (n : Int) = (n' : Int) := by injection en
    have en2 : n' = n := by omega
    subst en2
    rw [hq] at hq'
    cases hq'
    have hL : leaveD k c d n' = (match prevD d qq.1 n' with | some j => (match d[j]? with | some r => !decide (r.2 = qq.2) && !decide (holdOf k c qq.1 = "fast") | none => false) | none => false) := by
      unfold leaveD
      rw [hq] <;> rfl
    rw [hL] at q
    refine gset ?_
    dsimp only
    have B1 := B.ext e1 (fun _ _ => by simp)
    have D1 := D.ext e1
    cases hpv : prevD d qq.1 n' with
    | none =>
      rw [hpv] at q
      exact ⟨_, rfl, rfl, _, rfl, iteF (q H1 e1)⟩
    | some j =>
      obtain ⟨hj, r, hr2, _⟩ := prevD_lt hpv
      rw [hpv] at q
      dsimp only at q
      rw [hr2] at q
      dsimp only at q
      obtain ⟨u1, b1, T1⟩ := D1.get hr2
      refine ⟨_, rfl, rfl, _, rfl, iteT ?_⟩
      refine ⟨_, rfl, p, cB K, A.dx, _, _, rfl, B1.ob, T.cl, T.n_dips, fsB_dips, _, rfl, _, _, _, _, rfl, rfl, SqL.of B1.ld, b1, u1, _, 1, _, rfl, rfl, .inl (.inl T1), rfl, _, rfl, rfl, _, rfl, ?_⟩
      refine ifb (fun h => ?_) (fun h => ?_)
      · have h' : ¬ r.2 = qq.2 := fun e => by rw [e] at h; simp at h
        rw [decide_eq_false h'] at q
        obtain ⟨y, z, g1, g2, g3⟩ := G.hold (List.mem_of_getElem? hq)
        rw [g3] at q
        refine ⟨_, rfl, p, cB K, A.dx, _, _, rfl, B1.ob, T.cl, T.n_kinds, fsB_kinds, _, rfl, p, cB K, A.dx, _, _, rfl, B1.ob, T.cl, T.n_cloths, fsB_cloths, _, rfl, A.dc, _, rfl, by rw [← valV_tv G.cn g1]; exact DGet.k (k := Sum.inr qq.1) B1.dc, A.dk, _, rfl, by rw [← valV_tv G.kn g2]; exact DGet.k (k := Sum.inr y) B1.dk, rfl, ?_⟩
        have e : decide (V.str z = V.str "fast") = decide (z = "fast") := by
          by_cases hz : z = "fast"
          · rw [decide_eq_true hz, decide_eq_true (by rw [hz])]
          · rw [decide_eq_false hz, decide_eq_false (fun e => hz (by injection e))]
        show Q (V.bl (!decide (V.str z = V.str "fast"))) H1
        rw [e]
        exact q H1 e1
      · have h' : r.2 = qq.2 := by
          have h2 : decide (V.str r.2 = V.str qq.2) = true := by simpa using h
          have h3 := of_decide_eq_true h2
          injection h3
        rw [decide_eq_true h'] at q
        exact q H1 e1
end

end K18
namespace K18
open PySem PySem.Spec PyProof.Rows L2 He Tp ClX LiI

section
variable {P : Program} {w : World} {K : PySem.W.Frag} {mg : Str → Option Value} {base : Heap}
theorem ok_amounts (T : Txt K mg) {fd : FuncData} (F : FnM K "Book" "amounts" "Book.amounts" s_Book_amounts [] fd) : FnOk P w K mg base CX0 6 (ma K (cB K) "amounts") fd ["self"] (spAmounts (cB K)) := by
  obtain ⟨fl, fl_⟩ := T.f_has_leave
  have Fl := ok_has_leave (P := P) (w := w) (base := base) T fl_
  have bl : Binds K fl ["self", "number"] [] := fl_.bindsN (fun _ _ _ _ _ _ us hl => match us, hl with | [_, _], _ => rfl)
  refine F.ok sc_Book_amounts (fun vs H Q E h => ?_) (fun cdv A outer s H vs Q E hr h => ?_)
  · obtain ⟨p, i, A, k, c, ts, ps, ds, fs, d, rfl, _⟩ := h
    rfl
  · obtain ⟨p, i, A, k, c, ts, ps, ds, fs, d, rfl, B, D, G, q⟩ := h
    have nd := sc_Book_amounts.nd
    have hrl := hr
    refine ⟨_, PSs.nox (pss_cons (ps_set (i := 1) nd rfl (by first | exact Or.inl rfl | exact Or.inr rfl) (pe_lst pa_nil))
   (pss_cons (ps_for PassesOwn.never rfl (pi_range1 (by rfl) T.brange (pa_cons (pe_callB call_len_seq (by rfl) T.blen PySem.boot_len (pa_cons (pe_fld (pv 0) rfl) pa_nil)) pa_nil)) (pg_name (i := 2) nd rfl (by first | exact Or.inl rfl | exact Or.inr rfl))
   (pss_cons (ps_expr (pe_bm PySem.F.plainAttrs_list PySem.F.slot_list_append PySem.F.type_list_append mt_append (pv 1) (pa_cons (pe_tup (pa_cons pe_str (pa_cons (pv 2) pa_nil))) pa_nil)))
   (pss_one (ps_if (pt_val (pe_meth (pv 0) T.cl T.m_has_leave Fl hrl bl .nil passL (pa_cons (pv 2) pa_nil))) (pss_one (ps_expr (pe_bm PySem.F.plainAttrs_list PySem.F.slot_list_append PySem.F.type_list_append mt_append (pv 1) (pa_cons (pe_tup (pa_cons pe_str (pa_cons (pv 2) pa_nil))) pa_nil)))) pss_nil))))
   (pss_one (ps_ret (pv 1))))), ?_⟩
    refine ⟨by show 0 ≤ sizeLine; decide, fun l hl => ?_⟩
    have e0 := Ext.new (ms := []) (o := .lst []) hl
    have B0 := B.ext e0 fun _ _ => by simp
    have hdl := D.len
    have hd1 := G.dl
    refine ⟨_, rfl, p, cB K, A.dx, _, _, rfl, B0.ob, T.cl, T.n_dips, fsB_dips, A.ld, ds, rfl, .inl (SqL.of B0.ld), ?_⟩
    refine ⟨(ds.length : Int), rfl, by omega, by omega, for_range (n := (ds.length : Int).toNat) (fun i σ' H' => (∃ x2, σ' = [some (.ref p), some (.ref l), x2]) ∧ Ext [] H H' ∧ AmtAt H' l (amtD k c d i)) ⟨⟨none, rfl⟩, e0, [], upd_same, .nil⟩ ?_ ?_⟩
    · rintro i σ' H' hi ⟨⟨x2, rfl⟩, e, am⟩
      have hid : i < d.length := by omega
      obtain ⟨xs, hxs, hxl⟩ := am.lst
      have hb := amtD_len (k := k) (c := c) (d := d) i
      refine ⟨_, rfl, .inl ⟨rfl, _, SqL.of hxs⟩, _, rfl, by show 2 ≤ sizeLine; decide, fun u hu => ⟨l, xs, _, rfl, rfl, (by rw [upd_ne (ne_of_none hxs hu)]; exact hxs), Evl.sz_lt (by omega), ?_⟩⟩
      have ei : (0 : Int) + (i : Int) = (i : Int) := Int.zero_add _
      rw [ei]
      have am1 := am.push (q := (("take" : Str), i)) hxs hu
      have e1 : Ext [] H (upd (upd H' u (.tup [.str "take", .int (i : Int)])) l (.lst (xs ++ [.ref u]))) := (e.fresh (e.none hu (by simp))).fresh hl
      generalize upd (upd H' u (.tup [.str "take", .int (i : Int)])) l (.lst (xs ++ [.ref u])) = H1 at am1 e1
      have B1 := B.ext e1 fun _ _ => by simp
      refine ⟨_, rfl, p, A.dx, _, rfl, B1.ob, fsB_no2 (.inr (.inl rfl)), _, rfl, p, _, A, k, c, _, _, _, _, d, i, rfl, B1, D.ext e1, G, hid, fun H2 e2 => ⟨_, rfl, ?_⟩⟩
      have am2 := am1.ext e2 (by simp)
      have hamt : amtD k c d (i + 1) = (amtD k c d i ++ [(("take" : Str), i)]) ++ (if leaveD k c d i = true then [(("leave" : Str), i)] else []) := rfl
      refine ifb (fun h => ?_) (fun h => ?_)
      · rw [if_pos h] at hamt
        obtain ⟨ys, hys, hyl⟩ := am2.lst
        rw [List.length_append] at hyl
        have hyl2 : ys.length = (amtD k c d i).length + 1 := hyl
        refine ⟨_, rfl, .inl ⟨rfl, _, SqL.of hys⟩, _, rfl, by show 2 ≤ sizeLine; decide, fun v hv => ⟨l, ys, _, rfl, rfl, (by rw [upd_ne (ne_of_none hys hv)]; exact hys), Evl.sz_lt (by omega), ⟨_, rfl⟩, ((e1.trans e2).fresh ((e1.trans e2).none hv (by simp))).fresh hl, ?_⟩⟩
        rw [hamt]
        exact am2.push (q := (("leave" : Str), i)) hys hv
      · rw [if_neg (by rw [h]; decide), List.append_nil] at hamt
        refine ⟨⟨_, rfl⟩, e1.trans e2, ?_⟩
        rw [hamt]
        exact am2
    · rintro σ' H' ⟨⟨x2, rfl⟩, e, am⟩
      have en : (ds.length : Int).toNat = d.length := by omega
      rw [en] at am
      exact ⟨_, rfl, q l H' hl e am⟩
end

end K18
namespace K18
open PySem PySem.Spec PyProof.Rows L2 He Tp ClX LiI

section
variable {P : Program} {w : World} {K : PySem.W.Frag} {mg : Str → Option Value} {base : Heap}
def spSteps : Sp := fun vs H Q _ => ∃ (a : Addr) (t : List (Str × Str)), vs = [.ref a] ∧ RowAt H a t ∧ t.length ≤ 1000 ∧ ∀ D ks H', Ext [] H H' → StepsAt H' D ks t → Q (.ref D) H'
theorem ok_steps (T : Txt K mg) : Df P w K mg base CX0 1 "steps_of" ["couples"] spSteps := by
  refine Df.mk' T.gsteps_of T.fsteps_of (fun _ _ _ _ _ _ us hl => match us, hl with | [_], _ => rfl) fun fd F => F.ok sc_steps_of (fun vs H Q E h => ?_) (fun cdv A outer s H vs Q E hr h => ?_)
  · obtain ⟨a, t, rfl, _⟩ := h
    rfl
  · obtain ⟨a, t, rfl, hR, hn, q⟩ := h
    have nd := sc_steps_of.nd
    obtain ⟨as, ha, hp⟩ := hR
    have hal := paired_len hp
    refine ⟨_, PSs.nox (pss_cons (ps_set (i := 1) nd rfl (by first | exact Or.inl rfl | exact Or.inr rfl) pe_dnewK)
   (pss_cons (ps_for PassesOwn.never rfl (pi_list (pv 0)) (pg_tup (by rfl) (pgs_cons (pg_name (i := 2) nd rfl (by first | exact Or.inl rfl | exact Or.inr rfl)) (pgs_cons (pg_name (i := 3) nd rfl (by first | exact Or.inl rfl | exact Or.inr rfl)) pgs_nil)))
   (pss_one (ps_expr (pe_bm PySem.F.plainAttrs_list PySem.F.slot_list_append PySem.F.type_list_append mt_append (pe_dsetd (pv 1) (pv 2) (pe_lst pa_nil) ⟨by rfl, by rfl, by rfl, by rfl⟩) (pa_cons (pv 3) pa_nil)))))
   (pss_one (ps_ret (pv 1))))), ?_⟩
    intro D hD
    refine gset ?_
    dsimp only
    have e0 : Ext [] H (upd H D (.dK [])) := Ext.new hD
    have S0 : StepsAt (upd H D (.dK [])) D [] [] := ⟨upd_same, List.nodup_nil, List.nodup_nil, by simp, by simp⟩
    refine ⟨_, rfl, a, rfl, ⟨_, SqL.of (e0.keep _ _ ha (by simp))⟩, for_list (xs := as.map V.ref) (fun i σ' H' => (∃ x2 x3, σ' = [some (.ref a), some (.ref D), x2, x3]) ∧ Ext [] H H' ∧ ∃ ks, StepsAt H' D ks (t.take i) ∧ (∀ q ∈ ks, H q.2 = none) ∧ ks.length ≤ i) ⟨⟨none, none, rfl⟩, e0, [], by simpa using S0, by simp, Nat.le_refl _⟩ ?_ ?_ ?_⟩
    · rintro i σ' H' _ ⟨_, e, _⟩
      exact SqL.of (e.keep _ _ ha (by simp))
    · rintro i x σ' H' hx ⟨⟨x2, x3, rfl⟩, e, ks, S, hf, hkl⟩
      rw [List.getElem?_map] at hx
      obtain ⟨u, hu, rfl⟩ := Option.map_eq_some_iff.mp hx
      obtain ⟨r, hr', hT⟩ := paired_at hp hu
      have hi := (List.getElem?_eq_some_iff.mp hr').1
      refine ⟨u, _, rfl, .inl (.inl (e.tups _ _ hT)), rfl, _, _, rfl, _, _, rfl, rfl, ?_⟩
      refine ⟨_, rfl, D, rfl, .inl ⟨_, .inl S.top⟩, _, rfl, (by show 0 ≤ sizeLine; decide), fun l hl => ?_⟩
      have e1 : Ext [] H' (upd H' l (.lst [])) := Ext.new hl
      have S1 := S.ext e1
      have hlH : H l = none := e.none hl (by simp)
      have hsl := selL_len (x := r.1) (l := t.take i)
      rw [List.length_take] at hsl
      have htk : t.take (i + 1) = t.take i ++ [r] := take_snoc hr'
      refine ⟨_, Sum.inr r.1, S1.top, rfl, ?_, fun v hv => ?_, fun hn' => ?_⟩
      · show (kvB _).length < sizeLine
        rw [kvB, List.length_map, List.length_map]
        exact Evl.sz_lt (by omega)
      · have hk : r.1 ∈ ks.map (·.1) := by
          cases hd : decide (r.1 ∈ ks.map (·.1)) with
          | true => exact of_decide_eq_true hd
          | false =>
            rw [valV_ks_none (of_decide_eq_false hd)] at hv
            cases hv
        obtain ⟨qk, hqk, hq1⟩ := List.mem_map.mp hk
        have hqk' : (r.1, qk.2) ∈ ks := by rw [← hq1]; exact hqk
        rw [valV_ks S.kn hqk'] at hv
        cases hv
        have hrow := S1.row _ hqk'
        refine ⟨.inl ⟨rfl, _, SqL.of hrow⟩, _, rfl, qk.2, _, _, rfl, rfl, hrow, by rw [List.length_map]; exact (show (selL r.1 (t.take i)).length < sizeLine from Evl.sz_lt (by omega)), ⟨_, _, rfl⟩, (e.trans e1).fresh (hf _ hqk), ks, ?_, hf, by omega⟩
        rw [htk]
        exact S1.push (y := r.2) hqk'
      · have hk : r.1 ∉ ks.map (·.1) := fun hk => by
          obtain ⟨qk, hqk, hq1⟩ := List.mem_map.mp hk
          have hqk' : (r.1, qk.2) ∈ ks := by rw [← hq1]; exact hqk
          rw [valV_ks S.kn hqk'] at hn'
          cases hn'
        rw [putK_ks hk]
        have S2 := S.add hk hl
        have hrow := S2.row (r.1, l) (by simp)
        have hDn : H D = none := by
          cases hh : H D with
          | none => rfl
          | some o => rw [hD] at hh; cases hh
        refine ⟨.inl ⟨rfl, _, SqL.of hrow⟩, _, rfl, l, _, _, rfl, rfl, hrow, by rw [List.length_map]; exact (show (selL r.1 (t.take i)).length < sizeLine from Evl.sz_lt (by omega)), ⟨_, _, rfl⟩, ((e.trans e1).fresh hDn).fresh hlH, ks ++ [(r.1, l)], ?_, ?_, by rw [List.length_append]; show ks.length + 1 ≤ _; omega⟩
        · rw [htk]
          exact S2.push (y := r.2) (by simp)
        · intro q hq
          rcases List.mem_append.mp hq with hq | hq
          · exact hf q hq
          · rw [List.mem_singleton.mp hq]
            exact hlH
    · rintro σ' H' ⟨⟨x2, x3, rfl⟩, e, ks, S, hf, hkl⟩
      have e3 : t.take (as.map V.ref).length = t := List.take_of_length_le (by rw [List.length_map]; omega)
      rw [e3] at S
      exact ⟨_, rfl, q D ks H' e S⟩
end

end K18
namespace K18
open PySem PySem.Spec PyProof.Rows L2 He Tp ClX LiI

section
variable {P : Program} {w : World} {K : PySem.W.Frag} {mg : Str → Option Value} {base : Heap}
theorem ok_walk (T : Txt K mg) : Df P w K mg base CX0 1 "walk" ["starts", "steps"] spWalk := by
  refine Df.mk' T.gwalk T.fwalk (fun _ _ _ _ _ _ us hl => match us, hl with | [_, _], _ => rfl) fun fd F => F.ok sc_walk (fun vs H Q E h => ?_) (fun cdv A outer s' H vs Q E hr h => ?_)
  · obtain ⟨s, D, x, ks, t, rfl, _⟩ := h
    rfl
  · obtain ⟨s, D, x, ks, t, rfl, hs, S, hn, q⟩ := h
    have nd := sc_walk.nd
    have hu := hu1_of hr
    refine ⟨_, PSs.nox (pss_cons (ps_setDc (n := 2) (own := [("start", 7)]) (g := gName 7) (tt := tYes) (by rfl) nd rfl rfl (sw_dc (elts := (_, _)) rfl rfl rfl (by decide +kernel)) (pi_list (pv 0)) (blkOk_by (own := [("start", 7)]) (N := n_walk) (sc := defScope s_walk) (by decide +kernel)) (fun _ _ _ _ _ => pg_name (i := 7) nd rfl (by first | exact Or.inl rfl | exact Or.inr rfl)) (fun _ _ _ _ _ => pts_nil) (fun _ _ _ _ _ => (pv 7)) (fun _ _ _ _ _ => pe_non))
   (pss_cons (ps_set (i := 3) nd rfl (by first | exact Or.inl rfl | exact Or.inr rfl) (pe_callTy (call_listD rfl) (by rfl) T.blist (by decide +kernel) (pa_cons (pv 2) pa_nil)))
   (pss_cons (ps_while PassesOwn.never (pt_truth (pv 3) (by intro _; rfl)) (pss_cons (ps_set (i := 4) nd rfl (by first | exact Or.inl rfl | exact Or.inr rfl) (pe_lst pa_nil))
   (pss_cons (ps_for PassesOwn.never rfl (pi_list (pe_callTy call_list_of (by rfl) T.blist (by decide +kernel) (pa_cons (pv 3) pa_nil))) (pg_name (i := 5) nd rfl (by first | exact Or.inl rfl | exact Or.inr rfl))
   (pss_one (ps_for PassesOwn.never rfl (pi_list (pe_dget2 hu (pv 1) (pv 5) (pe_lst pa_nil) ⟨by rfl, by rfl, by rfl, by rfl⟩)) (pg_name (i := 6) nd rfl (by first | exact Or.inl rfl | exact Or.inr rfl))
   (pss_one (ps_if (pt_cmp (pc_dnotin hu (pv 6) (pv 2))) (pss_cons (ps_dput hu (pv 2) (pv 6) (pv 5) rfl)
   (pss_one (ps_expr (pe_bm PySem.F.plainAttrs_list PySem.F.slot_list_append PySem.F.type_list_append mt_append (pv 4) (pa_cons (pv 6) pa_nil))))) pss_nil)))))
   (pss_one (ps_set (i := 3) nd rfl (by first | exact Or.inl rfl | exact Or.inr rfl) (pv 4))))))
   (pss_one (ps_ret (pv 2)))))), ?_⟩
    refine ⟨_, rfl, s, rfl, ⟨_, SqL.of hs⟩, fun B hB => dc_list (ys := [V.str x]) (fun i H' => H' = upd H B (.dK (kvB (if i = 0 then [] else [(x, V.non)])))) rfl ?_ ?_ ?_⟩
    · rintro i H' _ rfl
      exact SqL.of (by rw [upd_ne (ne_of_none hs hB)]; exact hs)
    · rintro i y H' hy rfl
      have hi : i = 0 := by
        have := (List.getElem?_eq_some_iff.mp hy).1
        have h1 : ([V.str x] : List V).length = 1 := rfl
        omega
      subst hi
      have hy' : V.str x = y := by simpa using hy
      subst hy'
      refine ⟨wipe1, ?_⟩
      refine tyes ?_
      refine ⟨_, rfl, _, Sum.inr x, rfl, upd_same, (by show 0 < sizeLine; decide), ?_⟩
      rw [upd_upd]
      rfl
    · rintro H' rfl
      have e0 : Ext [] H (upd H B (.dK (kvB [(x, V.non)]))) := Ext.new hB
      have hB0 : (upd H B (.dK (kvB [(x, V.non)]))) B = some (.dK (kvB [(x, V.non)])) := upd_same
      show tSeq _ _ _ _ (upd H B (.dK (kvB [(x, V.non)])))
      generalize upd H B (.dK (kvB [(x, V.non)])) = H0 at e0 hB0
      refine ⟨_, rfl, B, _, rfl, .inl hB0, fun L hL => ?_⟩
      refine gset ?_
      dsimp only
      have e1 : Ext [] H0 (upd H0 L (.lst ((kvB [(x, V.non)]).map fun kv => kV kv.1))) := Ext.new hL
      have hL1 : (upd H0 L (.lst ((kvB [(x, V.non)]).map fun kv => kV kv.1))) L = some (.lst (([x] : List Str).map V.str)) := upd_same
      have hB1 := e1.keep _ _ hB0 (by simp)
      have hLn : H L = none := e0.none hL (by simp)
      generalize upd H0 L (.lst ((kvB [(x, V.non)]).map fun kv => kV kv.1)) = H1 at e1 hL1 hB1
      refine ⟨fun m σ' H' => ∃ bs layer L x4 x5 x6, σ' = [some (.ref s), some (.ref D), some (.ref B), some (.ref L), x4, x5, x6, none] ∧ Ext [] H H' ∧ H' B = some (.dK (kvB bs)) ∧ H' L = some (.lst (layer.map V.str)) ∧ H L = none ∧ WkI t x bs ∧ (∀ y ∈ layer, y ∈ bs.map (·.1)) ∧ (∀ y ∈ bs.map (·.1), y ∈ layer ∨ ∀ z, (y, z) ∈ t → z ∈ bs.map (·.1)) ∧
        m = 2 * (t.length + 1 - bs.length) + (if layer = [] then 0 else 1), ⟨_, [(x, V.non)], [x], L, none, none, none, rfl, e0.trans e1, hB1, hL1, hLn, ⟨by simp, fun y hy => by simp at hy; rw [hy]; exact .refl _, by simp⟩, by simp, by simp, rfl⟩, ?_⟩
      rintro m σ' H' ⟨bs, layer, L, x4, x5, x6, rfl, e, hB', hL', hLn, wk, lay, dn, rfl⟩
      refine ⟨_, rfl, _, .inl ⟨_, SqL.of hL', rfl⟩, ?_⟩
      cases layer with
      | nil =>
        refine iteF ?_
        refine ⟨_, rfl, q B bs H' e hB' fun y => ⟨wk.sub y, reach_in wk.hx fun y hy z hz => ?_⟩⟩
        rcases dn y hy with h | h
        · cases h
        · exact h z hz
      | cons l0 ls =>
        refine iteT ?_
        have hlen : ((l0 :: ls).map V.str).length = (l0 :: ls).length := List.length_map ..
        generalize hlay : l0 :: ls = layer at *
        have hne : layer ≠ [] := by rw [← hlay]; simp
        have hDB : D ≠ B := fun h => by
          have := S.top
          rw [h, hB] at this
          cases this
        refine ⟨_, fun _ _ h => h, ?_⟩
        refine ⟨by show 0 ≤ sizeLine; decide, fun F hF => ?_⟩
        refine gset ?_
        dsimp only
        have e2 : Ext [] H' (upd H' F (.lst [])) := Ext.new hF
        have hF2 : (upd H' F (.lst [])) F = some (.lst (([] : List Str).map V.str)) := upd_same
        have hFn : H F = none := e.none hF (by simp)
        have hLF : L ≠ F := ne_of_none hL' hF
        have hBF : B ≠ F := ne_of_none hB' hF
        have hLB : L ≠ B := fun h => by rw [h, hB'] at hL'; cases hL'
        replace hB' := e2.keep _ _ hB' (by simp)
        replace hL' := e2.keep _ _ hL' (by simp)
        replace e := e.trans e2
        generalize upd H' F (.lst []) = H2 at e hF2 hB' hL'
        clear e2 hF
        refine ⟨_, rfl, L, _, rfl, .inl (SqL.of hL'), fun Lw hLw => ?_⟩
        have e2 : Ext [] H2 (upd H2 Lw (.lst (layer.map V.str))) := Ext.new hLw
        have hLwF : Lw ≠ F := (ne_of_none hF2 hLw).symm
        have hLwB : Lw ≠ B := (ne_of_none hB' hLw).symm
        have hW : (upd H2 Lw (.lst (layer.map V.str))) Lw = some (.lst (layer.map V.str)) := upd_same
        replace hB' := e2.keep _ _ hB' (by simp)
        replace hF2 := e2.keep _ _ hF2 (by simp)
        replace e := e.trans e2
        generalize upd H2 Lw (.lst (layer.map V.str)) = Hw at e hF2 hB' hW
        clear e2 hLw
        refine ⟨Lw, rfl, ⟨_, SqL.of hW⟩, for_list (xs := layer.map V.str) (fun i σ' H' => ∃ bs' fd x5 x6, σ' = [some (.ref s), some (.ref D), some (.ref B), some (.ref L), some (.ref F), x5, x6, none] ∧ Ext [] H H' ∧ H' B = some (.dK (kvB bs')) ∧ H' Lw = some (.lst (layer.map V.str)) ∧ H' F = some (.lst (fd.map V.str)) ∧ WkI t x bs' ∧ (∀ y ∈ bs.map (·.1), y ∈ bs'.map (·.1)) ∧ (∀ y ∈ fd, y ∈ bs'.map (·.1)) ∧ (∀ y ∈ bs'.map (·.1), y ∈ layer.drop i ∨ y ∈ fd ∨ ∀ z, (y, z) ∈ t → z ∈ bs'.map (·.1)) ∧ bs'.length = bs.length + fd.length) ⟨bs, [], _, _, rfl, e, hB', hW, hF2, wk, fun _ h => h, by simp, fun y hy => (dn y hy).elim (fun h => .inl h) (fun h => .inr (.inr h)), rfl⟩ ?_ ?_ ?_⟩
        · rintro i σ' H' _ ⟨bs', fd, x5, x6, rfl, _, _, hL3, _⟩
          exact SqL.of hL3
        · rintro i y σ' H' hy ⟨bs', fd, x5, x6, rfl, e3, hB3, hL3, hF3, wk3, s1, s2, s3, s4⟩
          rw [List.getElem?_map] at hy
          obtain ⟨here, hh, rfl⟩ := Option.map_eq_some_iff.mp hy
          have hmem : here ∈ bs'.map (·.1) := s1 _ (lay _ (List.mem_of_getElem? hh))
          refine gset ?_
          dsimp only
          have S3 := S.ext e3
          refine ⟨_, rfl, D, rfl, .inl ⟨_, .inl S3.top⟩, _, rfl, (by show 0 ≤ sizeLine; decide), fun l hl => ?_⟩
          have e4 : Ext [] H' (upd H' l (.lst [])) := Ext.new hl
          have S4 := S3.ext e4
          have hl4 : (upd H' l (.lst [])) l = some (.lst []) := upd_same
          refine ⟨_, DGet.k (k := Sum.inr here) S4.top, ?_⟩
          replace hB3 := e4.keep _ _ hB3 (by simp)
          replace hL3 := e4.keep _ _ hL3 (by simp)
          have hlF : l ≠ F := fun h => by rw [h, hF3] at hl; cases hl
          replace hF3 := e4.keep _ _ hF3 (by simp)
          replace e3 := e3.trans e4
          generalize upd H' l (.lst []) = H4 at S4 hl4 hB3 hL3 hF3 e3
          obtain ⟨lx, hx1, hx2, hxF⟩ : ∃ lx, (valV (kvB (ks.map fun q => (q.1, V.ref q.2))) (Sum.inr here : Key)).getD (V.ref l) = V.ref lx ∧ H4 lx = some (.lst ((selL here t).map V.str)) ∧ lx ≠ F := by
            by_cases hk : here ∈ ks.map (·.1)
            · obtain ⟨qk, hqk, rfl⟩ := List.mem_map.mp hk
              refine ⟨qk.2, by rw [valV_ks (l := qk.2) S.kn hqk]; rfl, S4.row _ hqk, fun h => ?_⟩
              have := S.row _ hqk
              rw [h, hFn] at this
              cases this
            · refine ⟨l, by rw [valV_ks_none hk]; rfl, ?_, hlF⟩
              have : selL here t = [] := by
                unfold selL
                rw [List.map_eq_nil_iff, List.filter_eq_nil_iff]
                intro p hp hc
                exact hk (by rw [← of_decide_eq_true hc]; exact S.all p hp)
              rw [this]
              exact hl4
          have hxB : lx ≠ B := fun h => by rw [h, hB3] at hx2; cases hx2
          rw [hx1]
          refine ⟨lx, rfl, ⟨_, SqL.of hx2⟩, for_list (xs := (selL here t).map V.str) (fun j σ' H' => ∃ bs' fd x6, σ' = [some (.ref s), some (.ref D), some (.ref B), some (.ref L), some (.ref F), some (.str here), x6, none] ∧ Ext [] H H' ∧ H' B = some (.dK (kvB bs')) ∧ H' Lw = some (.lst (layer.map V.str)) ∧ H' F = some (.lst (fd.map V.str)) ∧ H' lx = some (.lst ((selL here t).map V.str)) ∧ WkI t x bs' ∧ (∀ y ∈ bs.map (·.1), y ∈ bs'.map (·.1)) ∧ (∀ y ∈ fd, y ∈ bs'.map (·.1)) ∧ (∀ y ∈ bs'.map (·.1), y ∈ layer.drop i ∨ y ∈ fd ∨ ∀ z, (y, z) ∈ t → z ∈ bs'.map (·.1)) ∧ bs'.length = bs.length + fd.length ∧ ∀ z ∈ (selL here t).take j, z ∈ bs'.map (·.1)) ⟨bs', fd, _, rfl, e3, hB3, hL3, hF3, hx2, wk3, s1, s2, s3, s4, by simp⟩ ?_ ?_ ?_⟩
          · rintro j σ' H' _ ⟨_, _, _, _, _, _, _, _, h, _⟩
            exact SqL.of h
          · rintro j y σ' H' hy ⟨bs', fd, x6, rfl, e3, hB3, hL3, hF3, hx3, wk3, s1, s2, s3, s4, s5⟩
            rw [List.getElem?_map] at hy
            obtain ⟨there, ht, rfl⟩ := Option.map_eq_some_iff.mp hy
            have hpair : (here, there) ∈ t := mem_selL.mp (List.mem_of_getElem? ht)
            have hmem : here ∈ bs'.map (·.1) := s1 _ (lay _ (List.mem_of_getElem? hh))
            have hle := wk3.le
            refine gset ?_
            dsimp only
            refine ⟨_, rfl, _, rfl, B, _, rfl, DGet.k (k := Sum.inr there) hB3, _, rfl, ?_⟩
            rw [valV_kvB]
            refine ifb (fun hc => ?_) (fun hc => ?_)
            · have hnew : there ∉ bs'.map (·.1) := by simpa using hc
              refine ⟨_, rfl, _, rfl, _, rfl, B, _, rfl, DPut.k (k := Sum.inr there) hB3 (by rw [List.length_map]; exact Evl.sz_lt (by omega)), ?_⟩
              rw [putK_kv hnew]
              have hF5 : (upd H' B (.dK (kvB (bs' ++ [(there, V.str here)])))) F = some (.lst (fd.map V.str)) := by rw [upd_ne (Ne.symm hBF)]; exact hF3
              refine ⟨_, rfl, .inl ⟨rfl, _, SqL.of hF5⟩, _, rfl, F, _, _, rfl, rfl, hF5, by rw [List.length_map]; exact Evl.sz_lt (by omega), ?_⟩
              refine ⟨bs' ++ [(there, V.str here)], fd ++ [there], _, rfl, (e3.fresh hB).fresh hFn, by rw [upd_ne hBF]; exact upd_same, ?_, by rw [upd_same, List.map_append]; rfl, ?_, wk3.add hmem hpair hnew, fun y hy => ?_, fun y hy => ?_, fun y hy => ?_, by rw [List.length_append, List.length_append, s4]; show _ + 1 = _ + (_ + 1); omega, fun z hz => ?_⟩
              · rw [upd_ne hLwF, upd_ne hLwB]
                exact hL3
              · rw [upd_ne hxF, upd_ne hxB]
                exact hx3
              · rw [List.map_append]
                exact List.mem_append_left _ (s1 y hy)
              · rw [List.map_append]
                rcases List.mem_append.mp hy with hy | hy
                · exact List.mem_append_left _ (s2 y hy)
                · exact List.mem_append_right _ (by simpa using hy)
              · rw [List.map_append] at hy
                rcases List.mem_append.mp hy with hy | hy
                · rcases s3 y hy with h | h | h
                  · exact .inl h
                  · exact .inr (.inl (List.mem_append_left _ h))
                  · exact .inr (.inr fun z hz => by rw [List.map_append]; exact List.mem_append_left _ (h z hz))
                · exact .inr (.inl (List.mem_append_right _ (by simpa using hy)))
              · rw [take_snoc ht] at hz
                rw [List.map_append]
                rcases List.mem_append.mp hz with hz | hz
                · exact List.mem_append_left _ (s5 z hz)
                · exact List.mem_append_right _ (by simpa using hz)
            · have hold : there ∈ bs'.map (·.1) := by simpa using hc
              refine ⟨bs', fd, _, rfl, e3, hB3, hL3, hF3, hx3, wk3, s1, s2, s3, s4, fun z hz => ?_⟩
              rw [take_snoc ht] at hz
              rcases List.mem_append.mp hz with hz | hz
              · exact s5 z hz
              · rw [List.mem_singleton.mp hz]
                exact hold
          · rintro σ' H' ⟨bs', fd, x6, rfl, e3, hB3, hL3, hF3, hx3, wk3, s1, s2, s3, s4, s5⟩
            rw [List.length_map, List.take_of_length_le (Nat.le_refl _)] at s5
            refine ⟨bs', fd, _, _, rfl, e3, hB3, hL3, hF3, wk3, s1, s2, fun y hy => ?_, s4⟩
            rcases s3 y hy with h | h
            · rw [List.drop_eq_getElem_cons (List.getElem?_eq_some_iff.mp hh).1] at h
              rcases List.mem_cons.mp h with h | h
              · have : y = here := by rw [h]; exact (List.getElem?_eq_some_iff.mp hh).2
                exact .inr (.inr fun z hz => s5 z (mem_selL.mpr (by rw [← this]; exact hz)))
              · exact .inl h
            · exact .inr h
        · rintro σ' H' ⟨bs', fd, x5, x6, rfl, e3, hB3, hL3, hF3, wk3, s1, s2, s3, s4⟩
          rw [hlen] at s3
          refine ⟨_, rfl, ?_⟩
          refine gset ?_
          dsimp only
          have hle := wk3.le
          refine ⟨_, ?_, bs', fd, F, _, _, _, rfl, e3, hB3, hF3, hFn, wk3, s2, fun y hy => ?_, rfl⟩
          · rw [if_neg hne]
            cases fd with
            | nil =>
              rw [if_pos rfl]
              have : bs'.length = bs.length := s4
              omega
            | cons f0 fs =>
              rw [if_neg (by simp)]
              have : bs'.length = bs.length + (fs.length + 1) := s4
              omega
          · rcases s3 y hy with h | h | h
            · rw [List.drop_eq_nil_of_le (Nat.le_refl _)] at h
              cases h
            · exact .inl h
            · exact .inr h
end

end K18
namespace K18
open PySem PySem.Spec PyProof.Rows L2 He Tp ClX LiI

section
variable {P : Program} {w : World} {K : PySem.W.Frag} {mg : Str → Option Value} {base : Heap}
def spThirstier (K : PySem.W.Frag) (C : Addr) : Sp := fun vs H Q E => ∃ p v g i A ks ts ps cs ds fs t, vs = [.ref p, v, g] ∧ Ptv K H v ∧ Ptv K H g ∧ BookAt C H p i A ks ts ps cs ds fs ∧ PT H ts t ∧ t.length ≤ 1000 ∧ (knownK ks v = false → Leaves K E (ga K "Unknown") v H) ∧
  (knownK ks v = true → knownK ks g = false → Leaves K E (ga K "Unknown") g H) ∧ (∀ x y, v = .str x → g = .str y → x ∈ ks.map (·.1) → y ∈ ks.map (·.1) → ∀ b H', (b = true ↔ Reach t x y) → Ext [] H H' → Q (.bl b) H')
theorem ok_thirstier (T : Txt K mg) {fd : FuncData} (F : FnM K "Book" "thirstier" "Book.thirstier" s_Book_thirstier [] fd) : FnOk P w K mg base (L2.CX P w) 4 (ma K (cB K) "thirstier") fd ["self", "first", "second"] (spThirstier K (cB K)) := by
  have D__check_known := ok_check_knownD (P := P) (w := w) (base := base) T
  have D_steps_of := ok_steps (P := P) (w := w) (base := base) T
  have D_walk := ok_walk (P := P) (w := w) (base := base) T
  refine F.ok sc_Book_thirstier (fun vs H Q E h => ?_) (fun cdv A outer s H vs Q E hr h => ?_)
  · obtain ⟨p, v, g, i, A, ks, ts, ps, cs, ds, fs, t, rfl, _⟩ := h
    rfl
  · obtain ⟨p, v, g, i, A, ks, ts, ps, cs, ds, fs, t, rfl, pv0, pg0, B, D, ht, kX, kY, kQ⟩ := h
    have hu := hu_of hr
    have hr__check_known := hr
    have hr_steps_of := hr.mono (show 1 ≤ 3 by decide)
    have hr_walk := hr.mono (show 1 ≤ 3 by decide)
    refine ⟨_, (pss_cons (ps_expr (pe_cd D__check_known hr__check_known (by rfl) (passes_call (takes_of rfl rfl rfl rfl) (fun _ _ _ _ z => z)) (pa_cons (pv 1) (pa_cons (pe_fld (pv 0) rfl) pa_nil))))
   (pss_cons (ps_expr (pe_cd D__check_known hr__check_known (by rfl) (passes_call (takes_of rfl rfl rfl rfl) (fun _ _ _ _ z => z)) (pa_cons (pv 2) (pa_cons (pe_fld (pv 0) rfl) pa_nil))))
   (pss_one (ps_ret (pe_cmp (pc_din hu (pv 2) (pe_cd D_walk hr_walk (by rfl) pass0 (pa_cons (pe_lst (pa_cons (pv 1) pa_nil)) (pa_cons (pe_cd D_steps_of hr_steps_of (by rfl) pass0 (pa_cons (pe_fld (pv 0) rfl) pa_nil)) pa_nil)))) rfl))))), ?_⟩
    refine ⟨_, rfl, _, rfl, p, cB K, A.dx, _, _, rfl, B.ob, T.cl, T.n_kinds, fsB_kinds, ?_⟩
    refine ⟨v, _, fun z => decide (z ∈ ks.map (·.1)), rfl, pv0, ⟨A.dk, kvB ks, rfl, B.dk, fun z => valV_kvB.symm⟩, fun e => kX (knownK_no e), fun x ex hit => ?_⟩
    subst ex
    refine ⟨_, rfl, _, rfl, p, cB K, A.dx, _, _, rfl, B.ob, T.cl, T.n_kinds, fsB_kinds, ?_⟩
    refine ⟨g, _, fun z => decide (z ∈ ks.map (·.1)), rfl, pg0, ⟨A.dk, kvB ks, rfl, B.dk, fun z => valV_kvB.symm⟩, fun e => kY hit (knownK_no e), fun y ey hit2 => ?_⟩
    subst ey
    obtain ⟨as, h1, h2⟩ := D
    refine ⟨_, rfl, _, rfl, by show 1 ≤ sizeLine; decide, fun l hl => ?_⟩
    have e1 : Ext [] H (upd H l (.lst [.str x])) := Ext.new hl
    have B1 := B.ext e1 fun _ _ => by simp
    have hl1 : (upd H l (.lst [.str x])) l = some (.lst [.str x]) := upd_same
    generalize upd H l (.lst [.str x]) = H1 at e1 B1 hl1
    refine ⟨_, rfl, p, cB K, A.dx, _, _, rfl, B1.ob, T.cl, T.n_thirsts, fsB_thirsts, A.lt, t, rfl, ⟨as, by rw [B1.lt, h1], paired_ext e1 h2⟩, ht, fun Dd kk H2 e2 S => ?_⟩
    refine ⟨l, Dd, x, kk, t, rfl, e2.keep _ _ hl1 (by simp), S, ht, fun Bb bs H3 e3 hB hR => ?_⟩
    refine ⟨Bb, _, rfl, DGet.k (k := Sum.inr y) hB, ?_⟩
    rw [valV_kvB]
    exact kQ x y rfl rfl (of_decide_eq_true hit) (of_decide_eq_true hit2) _ H3 (by rw [decide_eq_true_eq]; exact hR y) (e1.trans (e2.trans e3))
end

end K18
namespace K18
open PySem PySem.Spec PyProof.Rows L2 He Tp ClX LiI

section
variable {P : Program} {w : World} {K : PySem.W.Frag} {mg : Str → Option Value} {base : Heap}
theorem ok_blen (T : Txt K mg) {fd : FuncData} (F : FnM K "Book" "__len__" "Book.__len__" s_Book___len__ [] fd) : FnOk P w K mg base CX0 1 (ma K (cB K) "__len__") fd ["self"] (spBLen (cB K)) := by
  refine F.ok sc_Book___len__ (fun vs H Q E h => ?_) (fun cdv A outer s H vs Q E hr h => ?_)
  · obtain ⟨p, i, A, ks, ts, ps, cs, ds, fs, rfl, _⟩ := h
    rfl
  · obtain ⟨p, i, A, ks, ts, ps, cs, ds, fs, rfl, B, q⟩ := h
    refine ⟨_, PSs.nox (pss_one (ps_ret (pe_callB call_len_seq (by rfl) T.blen PySem.boot_len (pa_cons (pe_fld (pv 0) rfl) pa_nil)))), ?_⟩
    exact ⟨_, rfl, p, cB K, A.dx, _, _, rfl, B.ob, T.cl, T.n_dips, fsB_dips, A.ld, ds, rfl, .inl (SqL.of B.ld), q⟩
theorem ok_biter (T : Txt K mg) {fd : FuncData} (F : FnM K "Book" "__iter__" "Book.__iter__" s_Book___iter__ [] fd) : FnN P w K mg base CX0 1 (ma K (cB K) "__iter__") fd ["self"] (spBIter (cB K)) := by
  refine FunD.okN F sc_Book___iter__ (fun n vs H Q E h => ?_) (fun cdv A outer s H vs Q E hr h => ?_)
  · obtain ⟨p, i, A, ks, ts, ps, cs, ds, fs, rfl, _⟩ := h
    rfl
  · obtain ⟨p, i, A, ks, ts, ps, cs, ds, fs, rfl, B, q⟩ := h
    refine ⟨_, PSs.nox (pss_one (ps_ret (pe_callB ItX.call_iterN (by rfl) T.biter (by decide +kernel) (pa_cons (pe_fld (pv 0) rfl) pa_nil)))), ?_⟩
    exact ⟨_, rfl, p, cB K, A.dx, _, _, rfl, B.ob, T.cl, T.n_dips, fsB_dips, A.ld, ds, rfl, SqL.of B.ld, q⟩
end

end K18
namespace K18
open PySem PySem.Spec PyProof.Rows L2 He Tp ClX LiI

section
variable {P : Program} {w : World} {K : PySem.W.Frag} {mg : Str → Option Value} {base : Heap}
def spThirsty : Sp := fun vs H Q _ => ∃ (a : Mad) (k t : List (Str × Str)) (p : List Str) (c d : List (Str × Str)) (fs : List V) (x y : Str), vs = [.ref a.M, .str x, .str y] ∧ MdAt H a k t p c d fs ∧ k.length ≤ 1000 ∧ x ∈ k.map (·.1) ∧ (∀ q ∈ t, q.1 ∈ k.map (·.1) ∧ q.2 ∈ k.map (·.1)) ∧ ∀ H', Ext [] H H' → Q (.bl (thB t x y)) H'
theorem ok_thirsty (T : Txt K mg) : Df P w K mg base CX0 1 "_law_thirsty" ["_law_model_here", "_law_first", "_law_second"] spThirsty := by
  refine Df.mk' T.g_law_thirsty T.f_law_thirsty (fun _ _ _ _ _ _ us hl => match us, hl with | [_, _, _], _ => rfl) fun fd F => F.ok sc__law_thirsty (fun vs H Q E h => ?_) (fun cdv A outer s H vs Q E hr h => ?_)
  · obtain ⟨a, k, t, p, c, d, fs, x, y, rfl, _⟩ := h
    rfl
  · obtain ⟨a, k, t, p, c, d, fs, x, y, rfl, M, hk, hx, ht, q⟩ := h
    have nd := sc__law_thirsty.nd
    refine ⟨_, PSs.nox (pss_cons (ps_set (i := 3) nd rfl (by first | exact Or.inl rfl | exact Or.inr rfl) (pe_lst (pa_cons (pv 1) pa_nil)))
   (pss_cons (ps_for PassesOwn.never rfl (pi_range1 (by rfl) T.brange (pa_cons (pe_callB call_len_seq (by rfl) T.blen PySem.boot_len (pa_cons (pe_ix ix_list (pv 0) pe_int (fun _ _ => rfl)) pa_nil)) pa_nil)) (pg_name (i := 4) nd rfl (by first | exact Or.inl rfl | exact Or.inr rfl))
   (pss_one (ps_for PassesOwn.never rfl (pi_list (pe_ix ix_list (pv 0) pe_int (fun _ _ => rfl))) (pg_name (i := 5) nd rfl (by first | exact Or.inl rfl | exact Or.inr rfl))
   (pss_one (ps_if (PW.pt (pw_and (pt_cmpR op_in_seq (pe_ix ix_tup (pv 5) pe_int (fun _ _ => rfl)) (pv 3) (by rfl)) (pw_and1 (pt_cmpR op_notIn_seq (pe_ix ix_tup (pv 5) pe_int (fun _ _ => rfl)) (pv 3) (by rfl))))) (pss_one (ps_expr (pe_bm PySem.F.plainAttrs_list PySem.F.slot_list_append PySem.F.type_list_append mt_append (pv 3) (pa_cons (pe_ix ix_tup (pv 5) pe_int (fun _ _ => rfl)) pa_nil)))) pss_nil)))))
   (pss_one (ps_ret (pe_cmpR op_in_seq (pv 2) (pv 3) (by rfl)))))), ?_⟩
    refine ⟨_, rfl, by show 1 ≤ sizeLine; decide, fun l hl => ?_⟩
    have e0 := Ext.new (ms := []) (o := .lst [.str x]) hl
    have M0 := M.ext e0 fun _ _ => by simp
    obtain ⟨xs0, hx0, hx0l⟩ := row_len M0.r0
    obtain ⟨as, ha, hp⟩ := M.r1
    have hal := paired_len hp
    refine ⟨_, rfl, a.M, _, 0, .ref a.m0, rfl, rfl, SqL.of M0.M, rfl, a.m0, xs0, rfl, .inl (SqL.of hx0), (xs0.length : Int), rfl, by omega, by omega, for_range (n := (xs0.length : Int).toNat) (fun i σ' H' => ∃ x4 x5 rs, σ' = [some (.ref a.M), some (.str x), some (.str y), some (.ref l), x4, x5] ∧ Ext [] H H' ∧ H' l = some (.lst (rs.map V.str)) ∧ RchI k t x rs ∧ (RchC t rs ∨ i + 1 ≤ rs.length)) ⟨_, _, [x], rfl, e0, upd_same, RchI.start hx, .inr (Nat.le_refl _)⟩ ?_ ?_⟩
    · rintro i σ' H' hi ⟨x4, x5, rs, rfl, e, hL, R, hc⟩
      have M1 := M.ext e fun _ _ => by simp
      refine gset ?_
      dsimp only
      refine ⟨_, rfl, a.M, _, 1, .ref a.m1, rfl, rfl, SqL.of M1.M, rfl, a.m1, rfl, ⟨_, SqL.of (e.keep _ _ ha (by simp))⟩, for_list (xs := as.map V.ref) (fun j σ' H' => ∃ x5 ws, σ' = [some (.ref a.M), some (.str x), some (.str y), some (.ref l), some (.int (0 + (i : Int))), x5] ∧ Ext [] H H' ∧ H' l = some (.lst (ws.map V.str)) ∧ RchI k t x ws ∧ RchJ t rs ws j) ⟨_, rs, rfl, e, hL, R, .inl ⟨rfl, by simp⟩⟩ ?_ ?_ ?_⟩
      · rintro j σ' H' _ ⟨x5, ws, rfl, e, _⟩
        exact SqL.of (e.keep _ _ ha (by simp))
      · rintro j v σ' H' hv ⟨x5, ws, rfl, e, hL, R, J⟩
        rw [List.getElem?_map] at hv
        obtain ⟨u, hu, rfl⟩ := Option.map_eq_some_iff.mp hv
        obtain ⟨qq, hq, hT⟩ := paired_at hp hu
        have hT1 := e.tups _ _ hT
        have hmem := List.mem_of_getElem? hq
        have hwl := R.le
        refine gset ?_
        dsimp only
        refine st_if (ans_and2 (ans_inS (K := K) (val_ixT (val_var rfl) hT1 rfl) (val_var rfl) hL) (ans_ninS (K := K) (val_ixT (val_var rfl) hT1 rfl) (val_var rfl) hL)) (fun hb => ?_) (fun hb => ?_)
        · rw [Bool.and_eq_true] at hb
          have h1 := of_decide_eq_true hb.1
          have h2 : qq.2 ∉ ws := by simpa using hb.2
          refine ⟨_, rfl, .inl ⟨rfl, _, SqL.of hL⟩, _, rfl, u, _, 1, _, rfl, rfl, .inl (.inl hT1), rfl, l, _, _, rfl, rfl, hL, by rw [List.length_map]; exact Evl.sz_lt (by omega), ?_⟩
          exact ⟨_, ws ++ [qq.2], rfl, e.fresh hl, by rw [upd_same, List.map_append]; rfl, R.add hmem h1 h2 (ht _ hmem).2, J.add hmem h1 h2⟩
        · refine ⟨_, ws, rfl, e, hL, R, J.skip hq fun h1 => ?_⟩
          cases h2 : decide (qq.2 ∈ ws) with
          | true => exact of_decide_eq_true h2
          | false =>
            rw [h2, decide_eq_true h1] at hb
            cases hb
      · rintro σ' H' ⟨x5, ws, rfl, e, hL, R, J⟩
        exact ⟨_, _, ws, rfl, e, hL, R, RchJ.done (by rw [List.length_map, hal] at J; exact J) hc⟩
    · rintro σ' H' ⟨x4, x5, rs, rfl, e, hL, R, hc⟩
      have hxk : xs0.length = k.length := hx0l
      have hcc : RchC t rs ∨ k.length + 1 ≤ rs.length := by
        rcases hc with h | h
        · exact .inl h
        · exact .inr (by omega)
      refine st_ret (val_inS (K := K) (val_var rfl) (val_var rfl) hL) ?_
      have e1 : decide (y ∈ rs) = thB t x y := by
        rw [Bool.eq_iff_iff, decide_eq_true_eq]
        exact R.fin hcc y
      rw [e1]
      exact q H' e
end

end K18
namespace K18
open PySem PySem.Spec PyProof.Rows L2 He Tp ClX LiI

section
variable {P : Program} {w : World} {K : PySem.W.Frag} {mg : Str → Option Value} {base : Heap}
def spLSteps : Sp := fun vs H Q _ => ∃ (a : Mad) (k t : List (Str × Str)) (p : List Str) (c d : List (Str × Str)) (us : List V) (fs : List Fk), vs = [.ref a.M] ∧ MdAt H a k t p c d us ∧ FL H us fs ∧ Kept k c d ∧ d.length ≤ 100 ∧ fs.length ≤ 1000 ∧ (∀ q ∈ t, q.1 ∈ k.map (·.1) ∧ q.2 ∈ k.map (·.1)) ∧
  ∀ l H', H l = none → Ext [] H H' → PrAt H' l (pairsD k t c d fs) → Q (.ref l) H'
theorem ok_lsteps (T : Txt K mg) : Df P w K mg base CX0 4 "_law_steps" ["_law_model_here"] spLSteps := by
  have D__law_sort := ok_sort (P := P) (w := w) (base := base) T
  have D__law_thirsty := ok_thirsty (P := P) (w := w) (base := base) T
  have D__law_leaves := ok_leaves (P := P) (w := w) (base := base) T
  have D__law_before := ok_before (P := P) (w := w) (base := base) T
  refine Df.mk' T.g_law_steps T.f_law_steps (fun _ _ _ _ _ _ us hl => match us, hl with | [_], _ => rfl) fun fd F => F.ok sc__law_steps (fun vs H Q E h => ?_) (fun cdv A outer s H vs Q E hr h => ?_)
  · obtain ⟨a, k, t, p, c, d, us, fs, rfl, _⟩ := h
    rfl
  · obtain ⟨a, k, t, p, c, d, us, fs, rfl, M, hF, G, hd, hf, ht, q⟩ := h
    have nd := sc__law_steps.nd
    have hr__law_sort := hr.mono (show 1 ≤ 3 by decide)
    have hr__law_thirsty := hr.mono (show 1 ≤ 3 by decide)
    have hr__law_before := hr.mono (show 1 ≤ 3 by decide)
    have hr__law_leaves := hr
    refine ⟨_, PSs.nox (pss_cons (ps_set (i := 1) nd rfl (by first | exact Or.inl rfl | exact Or.inr rfl) (pe_lst pa_nil))
   (pss_cons (ps_setLc (i := 2) (own := [("_law_dip", 7)]) (g := gName 7) (tt := tYes) (by rfl) nd rfl rfl (sw_true rfl rfl rfl (by decide +kernel)) (pi_list (pe_ix ix_list (pv 0) pe_int (fun _ _ => rfl))) (blkOk_by (own := [("_law_dip", 7)]) (N := n__law_steps) (sc := defScope s__law_steps) (by decide +kernel)) (fun _ _ _ _ _ => pg_name (i := 7) nd rfl (by first | exact Or.inl rfl | exact Or.inr rfl)) (fun _ _ _ _ _ => pts_nil) (fun _ _ _ _ _ => (pe_cd D__law_sort hr__law_sort (by rfl) pass0 (pa_cons (pv 0) (pa_cons (pe_ix (show IxR _ (rIxT K) from ix_tup) (pv 7) pe_int (fun _ _ => rfl)) pa_nil)))))
   (pss_cons (ps_setLc (i := 3) (own := [("_law_dip", 7)]) (g := gName 7) (tt := tYes) (by rfl) nd rfl rfl (sw_true rfl rfl rfl (by decide +kernel)) (pi_list (pe_ix ix_list (pv 0) pe_int (fun _ _ => rfl))) (blkOk_by (own := [("_law_dip", 7)]) (N := n__law_steps) (sc := defScope s__law_steps) (by decide +kernel)) (fun _ _ _ _ _ => pg_name (i := 7) nd rfl (by first | exact Or.inl rfl | exact Or.inr rfl)) (fun _ _ _ _ _ => pts_nil) (fun _ _ _ _ _ => (pe_ix (show IxR _ (rIxT K) from ix_tup) (pv 7) pe_int (fun _ _ => rfl))))
   (pss_cons (ps_for PassesOwn.never rfl (pi_range1 (by rfl) T.brange (pa_cons (pe_callB call_len_seq (by rfl) T.blen PySem.boot_len (pa_cons (pv 3) pa_nil)) pa_nil)) (pg_name (i := 4) nd rfl (by first | exact Or.inl rfl | exact Or.inr rfl))
   (pss_cons (ps_for PassesOwn.never rfl (pi_range1 (by rfl) T.brange (pa_cons (pv 4) pa_nil)) (pg_name (i := 5) nd rfl (by first | exact Or.inl rfl | exact Or.inr rfl))
   (pss_one (ps_if (PW.pt (pw_and (pt_cmpR op_eq (pe_ix ix_list (pv 3) (pv 5) (fun _ _ => rfl)) (pe_ix ix_list (pv 3) (pv 4) (fun _ _ => rfl)) (nomark _)) (pw_and1 (pt_val (pe_cd D__law_thirsty hr__law_thirsty (by rfl) pass0 (pa_cons (pv 0) (pa_cons (pe_ix ix_list (pv 2) (pv 5) (fun _ _ => rfl)) (pa_cons (pe_ix ix_list (pv 2) (pv 4) (fun _ _ => rfl)) pa_nil)))))))) (pss_one (ps_expr (pe_bm PySem.F.plainAttrs_list PySem.F.slot_list_append PySem.F.type_list_append mt_append (pv 1) (pa_cons (pe_tup (pa_cons (pe_tup (pa_cons pe_str (pa_cons (pv 5) pa_nil))) (pa_cons (pe_tup (pa_cons pe_str (pa_cons (pv 4) pa_nil))) pa_nil))) pa_nil)))) pss_nil)))
   (pss_one (ps_if (pt_val (pe_cd D__law_leaves hr__law_leaves (by rfl) pass0 (pa_cons (pv 0) (pa_cons (pv 4) pa_nil)))) (pss_one (ps_expr (pe_bm PySem.F.plainAttrs_list PySem.F.slot_list_append PySem.F.type_list_append mt_append (pv 1) (pa_cons (pe_tup (pa_cons (pe_tup (pa_cons pe_str (pa_cons (pe_cd D__law_before hr__law_before (by rfl) pass0 (pa_cons (pv 0) (pa_cons (pv 4) pa_nil))) pa_nil))) (pa_cons (pe_tup (pa_cons pe_str (pa_cons (pv 4) pa_nil))) pa_nil))) pa_nil)))) pss_nil))))
   (pss_cons (ps_for PassesOwn.never rfl (pi_list (pe_ix ix_list (pv 0) pe_int (fun _ _ => rfl))) (pg_name (i := 6) nd rfl (by first | exact Or.inl rfl | exact Or.inr rfl))
   (pss_one (ps_if (pt_cmpR op_eq (pe_ix ix_tup (pv 6) pe_int (fun _ _ => rfl)) pe_str (nomark _)) (pss_one (ps_expr (pe_bm PySem.F.plainAttrs_list PySem.F.slot_list_append PySem.F.type_list_append mt_append (pv 1) (pa_cons (pe_tup (pa_cons (pe_ix ix_tup (pv 6) pe_int (fun _ _ => rfl)) (pa_cons (pe_ix ix_tup (pv 6) pe_int (fun _ _ => rfl)) pa_nil))) pa_nil)))) pss_nil)))
   (pss_one (ps_ret (pv 1)))))))), ?_⟩
    refine ⟨by show 0 ≤ sizeLine; decide, fun Fo hFo => ?_⟩
    have e0 := Ext.new (ms := []) (o := .lst []) hFo
    have M0 := M.ext e0 fun _ _ => by simp
    have hFo1 : (upd H Fo (.lst [])) Fo = some (.lst []) := upd_same
    show tSeq _ _ _ _ (upd H Fo (.lst []))
    generalize upd H Fo (.lst []) = H0 at e0 M0 hFo1
    obtain ⟨as, ha, hp⟩ := M0.r4
    have hal := paired_len hp
    -- the kinds of the dips
    refine ⟨_, rfl, a.M, _, 4, .ref a.m4, rfl, rfl, SqL.of M0.M, rfl, a.m4, rfl, ⟨_, SqL.of ha⟩, fun So hSo => lc_list (xs := as.map V.ref) (fun i H' => Ext [] H0 H' ∧ H' So = some (.lst ((d.take i).map fun q => V.str (kindD c q.1)))) ⟨Ext.new hSo, upd_same⟩ ?_ ?_ ?_⟩
    · rintro i H' _ ⟨e, _⟩
      exact SqL.of (e.keep _ _ ha (by simp))
    · rintro i x H' hx ⟨e, hS⟩
      rw [List.getElem?_map] at hx
      obtain ⟨u, hu, rfl⟩ := Option.map_eq_some_iff.mp hx
      obtain ⟨qq, hq, hT⟩ := paired_at hp hu
      have hi := (List.getElem?_eq_some_iff.mp hq).1
      refine ⟨wipe1, ?_⟩
      refine tyes ?_
      obtain ⟨y, z, g1, g2, g3⟩ := G.hold (List.mem_of_getElem? hq)
      refine ⟨_, rfl, _, rfl, u, _, 0, _, rfl, rfl, .inl (.inl (e.tups _ _ hT)), rfl, a, k, t, p, c, d, us, qq.1, y, rfl, M0.ext e fun _ _ => by simp, G.cn, G.c8, g1, fun H2 e2 => ?_⟩
      refine ⟨_, e2.keep _ _ hS (by simp), by rw [List.length_map, List.length_take]; exact Evl.sz_lt (by omega), (e.trans e2).fresh hSo, ?_⟩
      rw [upd_same, List.take_add_one, hq, List.map_append, ← kindD_eq G.cn g1]
      rfl
    rintro H1 ⟨e1, hS⟩
    rw [List.length_map, hal, List.take_of_length_le (Nat.le_refl _)] at hS
    have M1 := M0.ext e1 fun _ _ => by simp
    have hFo2 := e1.keep _ _ hFo1 (by simp)
    replace e1 := e0.trans e1
    obtain ⟨as, ha, hp⟩ := M1.r4
    have hal := paired_len hp
    -- their pots
    refine ⟨_, rfl, a.M, _, 4, .ref a.m4, rfl, rfl, SqL.of M1.M, rfl, a.m4, rfl, ⟨_, SqL.of ha⟩, fun Vo hVo => lc_list (xs := as.map V.ref) (fun i H' => Ext [] H1 H' ∧ H' Vo = some (.lst ((d.take i).map fun q => V.str q.2))) ⟨Ext.new hVo, upd_same⟩ ?_ ?_ ?_⟩
    · rintro i H' _ ⟨e, _⟩
      exact SqL.of (e.keep _ _ ha (by simp))
    · rintro i x H' hx ⟨e, hV⟩
      rw [List.getElem?_map] at hx
      obtain ⟨u, hu, rfl⟩ := Option.map_eq_some_iff.mp hx
      obtain ⟨qq, hq, hT⟩ := paired_at hp hu
      have hi := (List.getElem?_eq_some_iff.mp hq).1
      refine ⟨wipe1, ?_⟩
      refine tyes ?_
      refine ⟨_, rfl, u, _, 1, _, rfl, rfl, .inl (.inl (e.tups _ _ hT)), rfl, ?_⟩
      refine ⟨_, hV, by rw [List.length_map, List.length_take]; exact Evl.sz_lt (by omega), e.fresh hVo, ?_⟩
      rw [upd_same, List.take_add_one, hq, List.map_append]
      rfl
    rintro H2 ⟨e2, hV⟩
    rw [List.length_map, hal, List.take_of_length_le (Nat.le_refl _)] at hV
    have M2 := M1.ext e2 fun _ _ => by simp
    have hFo3 := e2.keep _ _ hFo2 (by simp)
    have hSF : So ≠ Fo := (ne_of_none hFo1 hSo).symm
    have hVF : Vo ≠ Fo := (ne_of_none hFo2 hVo).symm
    have hS2 := e2.keep _ _ hS (by simp)
    replace e2 := e1.trans e2
    clear hS hFo1 hFo2 M0 M1 e0 e1 hSo hVo ha hp hal as
    obtain ⟨vl, hvl⟩ : ∃ vl : List V, vl = d.map fun q => V.str q.2 := ⟨_, rfl⟩
    rw [← hvl] at hV
    have hVl : vl.length = d.length := by rw [hvl]; exact List.length_map ..
    have ok2 : ∀ {j : Nat} {r : Str × Str}, d[j]? = some r → atI (d.map fun q => V.str (kindD c q.1)) (j : Int) = some (.str (kindD c r.1)) ∧ atI vl (j : Int) = some (.str r.2) := fun h =>
      ⟨atI_nat (by rw [List.getElem?_map, h]; rfl), atI_nat (by rw [hvl, List.getElem?_map, h]; rfl)⟩
    have kin : ∀ {j : Nat} {r : Str × Str}, d[j]? = some r → kindD c r.1 ∈ k.map (·.1) := fun h => by
      obtain ⟨y, z, g1, g2, _⟩ := G.hold (List.mem_of_getElem? h)
      rw [kindD_eq G.cn g1]
      exact List.mem_map.mpr ⟨_, g2, rfl⟩
    have e2' := e2
    have MM : ∀ {X : Hp}, Ext [Fo] H2 X → MdAt X a k t p c d us := fun e => M.ext (e2.over e hFo) fun _ _ => by simp
    have MS : ∀ {X : Hp}, Ext [Fo] H2 X → X So = some (.lst (d.map fun q => V.str (kindD c q.1))) := fun e => e.keep _ _ hS2 (by simpa using hSF)
    have MV : ∀ {X : Hp}, Ext [Fo] H2 X → X Vo = some (.lst vl) := fun e => e.keep _ _ hV (by simpa using hVF)
    have sz : ∀ {vs : List V} {xs : List Pa} {X : Hp}, PrL X vs xs → xs.length ≤ 20000 → vs.length < sizeLine := fun h hl => Evl.sz_lt (by rw [h.len]; omega)
    have bnd : ∀ n, n ≤ 100 → n * (n + 1) ≤ 10100 := fun n hn => Nat.mul_le_mul hn (Nat.succ_le_succ hn)
    refine ⟨_, rfl, Vo, _, rfl, .inl (SqL.of hV), (vl.length : Int), rfl, by omega, by omega, for_range (n := (vl.length : Int).toNat) (fun j σ' H' => ∃ x4 x5 vs, σ' = [some (.ref a.M), some (.ref Fo), some (.ref So), some (.ref Vo), x4, x5, none, none] ∧ Ext [Fo] H2 H' ∧ H' Fo = some (.lst vs) ∧ PrL H' vs (stepsD k t c d j)) ⟨none, none, [], rfl, Ext.refl, hFo3, PrL.nil⟩ ?_ ?_⟩
    · rintro j σ' H' hj ⟨x4, x5, vs, rfl, e, hFv, PL⟩
      have hj' : j < d.length := by omega
      obtain ⟨rj, hrj⟩ : ∃ r, d[j]? = some r := ⟨_, List.getElem?_eq_getElem hj'⟩
      have hb1 := stepsD_len (k := k) (t := t) (c := c) (d := d) j
      have hb2 := bnd j (by omega)
      refine gset ?_
      dsimp only
      rw [show (0 : Int) + (j : Int) = (j : Int) from Int.zero_add _]
      refine ⟨_, rfl, (j : Int), rfl, by omega, by omega, for_range (n := (j : Int).toNat) (fun i σ' H' => ∃ x5 vs, σ' = [some (.ref a.M), some (.ref Fo), some (.ref So), some (.ref Vo), some (.int (j : Int)), x5, none, none] ∧ Ext [Fo] H2 H' ∧ H' Fo = some (.lst vs) ∧ PrL H' vs (stepsD k t c d j ++ fallsD t c d j i)) ⟨_, vs, rfl, e, hFv, by rw [show fallsD t c d j 0 = [] from rfl, List.append_nil]; exact PL⟩ ?_ ?_⟩
      · rintro i σ' H' hi ⟨x5, vs, rfl, e, hFv, PL⟩
        have hi' : i < d.length := by omega
        obtain ⟨ri, hri⟩ : ∃ r, d[i]? = some r := ⟨_, List.getElem?_eq_getElem hi'⟩
        have hb3 := fallsD_len (t := t) (c := c) (d := d) (j := j) i
        have hfb : fallB t c d j i = (decide (ri.2 = rj.2) && thB t (kindD c ri.1) (kindD c rj.1)) := by
          unfold fallB
          rw [hri, hrj]
        have hfs : fallsD t c d j (i + 1) = fallsD t c d j i ++ (if fallB t c d j i = true then [((("take" : Str), i), (("take" : Str), j))] else []) := rfl
        refine gset ?_
        dsimp only
        rw [show (0 : Int) + (i : Int) = (i : Int) from Int.zero_add _]
        refine ⟨_, rfl, _, rfl, Vo, _, _, _, rfl, rfl, SqL.of (MV e), (ok2 hri).2, _, rfl, _, rfl, Vo, _, _, _, rfl, rfl, SqL.of (MV e), (ok2 hrj).2, rfl, _, rfl, ?_⟩
        refine ifd (fun h => ?_) (fun h => ?_)
        · have h' : ri.2 = rj.2 := by injection h
          refine ⟨_, rfl, _, rfl, _, rfl, So, _, _, _, rfl, rfl, SqL.of (MS e), (ok2 hri).1, _, rfl, _, rfl, So, _, _, _, rfl, rfl, SqL.of (MS e), (ok2 hrj).1, ?_⟩
          refine ⟨a, k, t, p, c, d, us, _, _, rfl, MM e, by have := G.k8; omega, kin hri, ht, fun H3 e3 => ⟨_, rfl, ?_⟩⟩
          have e4 := e.trans e3.nil
          have hFv3 := e3.keep _ _ hFv (by simp)
          rw [decide_eq_true h', Bool.true_and] at hfb
          refine ifb (fun hb => ?_) (fun hb => ?_)
          · rw [hb] at hfb
            rw [hfb, if_pos rfl] at hfs
            refine ⟨_, rfl, .inl ⟨rfl, _, SqL.of hFv3⟩, _, rfl, by show 2 ≤ sizeLine; decide, fun u1 h1 => ⟨_, rfl, by show 2 ≤ sizeLine; decide, fun u2 h2 => ⟨by show 2 ≤ sizeLine; decide, fun u3 h3 => ?_⟩⟩⟩
            obtain ⟨e5, hp5⟩ := new_pr (q := ((("take" : Str), i), (("take" : Str), j))) h1 h2 h3
            have hFv5 := e5.keep _ _ hFv3 (by simp)
            refine ⟨Fo, vs, _, rfl, rfl, hFv5, sz PL (by rw [List.length_append]; omega), _, _, rfl, (e4.trans e5.nil).trans (ext_lst hFv5), upd_same, ?_⟩
            rw [hfs, ← List.append_assoc]
            exact ((PL.ext e3).ext e5).push hFv5 hp5
          · rw [hb] at hfb
            rw [hfb, if_neg Bool.false_ne_true, List.append_nil] at hfs
            exact ⟨_, vs, rfl, e4, hFv3, by rw [hfs]; exact PL.ext e3⟩
        · have h' : ¬ ri.2 = rj.2 := fun e => h (by rw [e])
          rw [decide_eq_false h', Bool.false_and] at hfb
          rw [hfb, if_neg Bool.false_ne_true, List.append_nil] at hfs
          exact ⟨_, vs, rfl, e, hFv, by rw [hfs]; exact PL⟩
      · rintro σ' H' ⟨x5, vs, rfl, e, hFv, PL⟩
        rw [show (j : Int).toNat = j from Int.toNat_natCast j] at PL
        have hb3 := fallsD_len (t := t) (c := c) (d := d) (j := j) j
        have hst : stepsD k t c d (j + 1) = (stepsD k t c d j ++ fallsD t c d j j) ++ bleedD k c d j := rfl
        refine ⟨_, rfl, _, rfl, a, k, t, p, c, d, us, j, rfl, MM e, G, hj', fun H3 e3 => ⟨_, rfl, ?_⟩⟩
        have e4 := e.trans e3.nil
        have hFv3 := e3.keep _ _ hFv (by simp)
        refine ifb (fun hb => ?_) (fun hb => ?_)
        · obtain ⟨qq, m, hq1, hm⟩ := leave_prev hb
          have hbl : bleedD k c d j = [((("take" : Str), m), (("leave" : Str), j))] := by
            unfold bleedD
            rw [if_pos hb, hq1]
            show (match prevD d qq.1 j with | some m => [((("take" : Str), m), (("leave" : Str), j))] | none => []) = _
            rw [hm]
          refine ⟨_, rfl, .inl ⟨rfl, _, SqL.of hFv3⟩, _, rfl, _, rfl, a, k, t, p, c, d, us, j, qq, rfl, MM e4, by omega, hq1, ?_⟩
          rw [hm]
          refine ⟨by show 2 ≤ sizeLine; decide, fun u1 h1 => ⟨_, rfl, by show 2 ≤ sizeLine; decide, fun u2 h2 => ⟨by show 2 ≤ sizeLine; decide, fun u3 h3 => ?_⟩⟩⟩
          obtain ⟨e5, hp5⟩ := new_pr (q := ((("take" : Str), m), (("leave" : Str), j))) h1 h2 h3
          have hFv5 := e5.keep _ _ hFv3 (by simp)
          refine ⟨Fo, vs, _, rfl, rfl, hFv5, sz PL (by rw [List.length_append]; omega), _, _, _, rfl, (e4.trans e5.nil).trans (ext_lst hFv5), upd_same, ?_⟩
          rw [hst, hbl]
          exact ((PL.ext e3).ext e5).push hFv5 hp5
        · have hbl : bleedD k c d j = [] := by
            unfold bleedD
            rw [hb, if_neg Bool.false_ne_true]
          exact ⟨_, _, vs, rfl, e4, hFv3, by rw [hst, hbl, List.append_nil]; exact PL.ext e3⟩
    rintro σ' H3 ⟨x4, x5, vs, rfl, e3, hFv, PL⟩
    rw [show (vl.length : Int).toNat = d.length by rw [hVl]; simp] at PL
    have M3 := MM e3
    have hF3 := hF.ext (e2.over e3 hFo)
    have hfl := hF3.len
    have hb1 := stepsD_len (k := k) (t := t) (c := c) (d := d) d.length
    have hb2 := bnd d.length hd
    -- the told ones
    have F5 : Fo ≠ a.m5 := fun h => by
      have := M.r5
      rw [← h, hFo] at this
      cases this
    refine ⟨_, rfl, a.M, _, 5, .ref a.m5, rfl, rfl, SqL.of M3.M, rfl, a.m5, rfl, ⟨_, SqL.of M3.r5⟩, for_list (xs := us) (fun i σ' H' => ∃ x6 vs, σ' = [some (.ref a.M), some (.ref Fo), some (.ref So), some (.ref Vo), x4, x5, x6, none] ∧ Ext [Fo] H2 H' ∧ H' Fo = some (.lst vs) ∧ PrL H' vs (stepsD k t c d d.length ++ toldD (fs.take i))) ⟨_, vs, rfl, e3, hFv, by rw [List.take_zero]; exact (by rw [show toldD [] = [] from rfl, List.append_nil]; exact PL)⟩ ?_ ?_ ?_⟩
    · rintro i σ' H' _ ⟨x6, vs, rfl, e, _⟩
      exact SqL.of (MM e).r5
    · rintro i v σ' H' hv ⟨x6, vs, rfl, e, hFv, PL⟩
      obtain ⟨u, f, rfl, hfi, hfu⟩ := (hF.ext (e2.over e hFo)).get hv
      have htk := take_snoc hfi
      have hb4 := toldD_len (fs := fs.take i)
      rw [List.length_take] at hb4
      refine gset ?_
      dsimp only
      cases f with
      | tell x y =>
        obtain ⟨ax, ay, f1, f2, f3⟩ := hfu
        refine ⟨_, rfl, u, _, 0, _, rfl, rfl, .inl (.inl f1), rfl, rfl, _, rfl, ?_⟩
        refine ifd (fun _ => ?_) (fun h => absurd rfl h)
        refine ⟨_, rfl, .inl ⟨rfl, _, SqL.of hFv⟩, _, rfl, u, _, 1, _, rfl, rfl, .inl (.inl f1), rfl, _, rfl, u, _, 2, _, rfl, rfl, .inl (.inl f1), rfl, by show 2 ≤ sizeLine; decide, fun w hw => ?_⟩
        have e5 : Ext [] H' (upd H' w (.tup [.ref ax, .ref ay])) := Ext.new hw
        have hFv5 := e5.keep _ _ hFv (by simp)
        refine ⟨Fo, vs, _, rfl, rfl, hFv5, sz PL (by rw [List.length_append]; omega), _, _, rfl, (e.trans e5.nil).trans (ext_lst hFv5), upd_same, ?_⟩
        rw [htk, toldD_app, ← List.append_assoc]
        exact (PL.ext e5).push (q := (x, y)) hFv5 ⟨ax, ay, upd_same, e5.tups _ _ f2, e5.tups _ _ f3⟩
      | some x =>
        obtain ⟨ax, f1, f2⟩ := hfu
        refine ⟨_, rfl, u, _, 0, _, rfl, rfl, .inl (.inl f1), rfl, rfl, _, rfl, ?_⟩
        refine ifd (fun h => absurd h (by decide +kernel)) (fun _ => ?_)
        refine ⟨_, vs, rfl, e, hFv, ?_⟩
        rw [htk, toldD_app, show toldD [Fk.some x] = [] from rfl, List.append_nil]
        exact PL
    · rintro σ' H' ⟨x6, vs, rfl, e, hFv, PL⟩
      rw [hF.len, List.take_of_length_le (Nat.le_refl _)] at PL
      exact ⟨_, rfl, q Fo H' hFo (e2.over e hFo) ⟨vs, hFv, PL⟩⟩
end

end K18
namespace K18
open PySem PySem.Spec PyProof.Rows L2 He Tp ClX LiI

section
variable {P : Program} {w : World} {K : PySem.W.Frag} {mg : Str → Option Value} {base : Heap}
def spLThere : Sp := fun vs H Q _ => ∃ (a : Mad) (k t : List (Str × Str)) (p : List Str) (c d : List (Str × Str)) (us : List V) (fs : List Fk), vs = [.ref a.M] ∧ MdAt H a k t p c d us ∧ FL H us fs ∧ Kept k c d ∧ (∀ f ∈ fs, okF f) ∧
  ∀ l H', H l = none → Ext [] H H' → AmtAt H' l (thereD k c d fs) → Q (.ref l) H'
theorem ok_lthere (T : Txt K mg) : Df P w K mg base CX0 5 "_law_there" ["_law_model_here"] spLThere := by
  have D__law_amounts := ok_amts (P := P) (w := w) (base := base) T
  have D__law_grip := ok_grip (P := P) (w := w) (base := base) T
  refine Df.mk' T.g_law_there T.f_law_there (fun _ _ _ _ _ _ us hl => match us, hl with | [_], _ => rfl) fun fd F => F.ok sc__law_there (fun vs H Q E h => ?_) (fun cdv A outer s H vs Q E hr h => ?_)
  · obtain ⟨a, k, t, p, c, d, us, fs, rfl, _⟩ := h
    rfl
  · obtain ⟨a, k, t, p, c, d, us, fs, rfl, M, hF, G, hf, q⟩ := h
    have nd := sc__law_there.nd
    have hu65 := hu65_of hr
    have hr__law_amounts := hr
    have hr__law_grip := hr.mono (show 2 ≤ 4 by decide)
    refine ⟨_, PSs.nox (pss_cons (ps_set (i := 1) nd rfl (by first | exact Or.inl rfl | exact Or.inr rfl) (pe_lst pa_nil))
   (pss_cons (ps_for PassesOwn.never rfl (pi_list (pe_cd D__law_amounts hr__law_amounts (by rfl) pass0 (pa_cons (pv 0) pa_nil))) (pg_name (i := 2) nd rfl (by first | exact Or.inl rfl | exact Or.inr rfl))
   (pss_cons (ps_set (i := 3) nd rfl (by first | exact Or.inl rfl | exact Or.inr rfl) (pe_cmpR op_eq (pe_cd D__law_grip hr__law_grip (by rfl) pass0 (pa_cons (pv 0) (pa_cons (pe_ix ix_tup (pe_ix ix_list (pe_ix ix_list (pv 0) pe_int (fun _ _ => rfl)) (pe_ix ix_tup (pv 2) pe_int (fun _ _ => rfl)) (fun _ _ => rfl)) pe_int (fun _ _ => rfl)) pa_nil))) pe_str (nomark _)))
   (pss_one (ps_if (PW.pt (pw_or (pt_cmpR (op_inD hu65) (pe_tup (pa_cons pe_str (pa_cons (pv 2) pa_nil))) (pe_ix ix_list (pv 0) pe_int (fun _ _ => rfl)) (by rfl)) (pw_or1 (PW.pt (pw_and (pt_cmpR op_eq (pe_ix ix_tup (pv 2) pe_int (fun _ _ => rfl)) pe_str (nomark _)) (pw_and1 (pt_val (pv 3)))))))) (pss_one (ps_expr (pe_bm PySem.F.plainAttrs_list PySem.F.slot_list_append PySem.F.type_list_append mt_append (pv 1) (pa_cons (pv 2) pa_nil)))) pss_nil))))
   (pss_one (ps_ret (pv 1))))), ?_⟩
    refine ⟨by show 0 ≤ sizeLine; decide, fun Fo hFo => ?_⟩
    have e0 := Ext.new (ms := []) (o := .lst []) hFo
    have M0 := M.ext e0 fun _ _ => by simp
    have hFo1 : (upd H Fo (.lst [])) Fo = some (.lst []) := upd_same
    refine ⟨_, rfl, a, k, t, p, c, d, us, rfl, M0, G, fun lo H1 hlo e1 am => ?_⟩
    have hFo2 := e1.keep _ _ hFo1 (by simp)
    replace e1 := e0.trans e1
    have hloF : lo ≠ Fo := (ne_of_none hFo1 hlo).symm
    clear hlo e0 M0 hFo1
    obtain ⟨as, ha, hp⟩ := am
    have hal := amt_len hp
    have hdl := G.dl
    have hb := amtD_len (k := k) (c := c) (d := d) d.length
    refine ⟨lo, rfl, ⟨_, SqL.of ha⟩, for_list (xs := as.map V.ref) (fun i σ' H' => ∃ x2 x3, σ' = [some (.ref a.M), some (.ref Fo), x2, x3] ∧ Ext [Fo] H1 H' ∧ AmtAt H' Fo (((amtD k c d d.length).take i).filter (thereB k c d fs))) ⟨none, none, rfl, Ext.refl, [], hFo2, .nil⟩ ?_ ?_ ?_⟩
    · rintro i σ' H' _ ⟨_, _, _, e, _⟩
      exact SqL.of (e.keep _ _ ha (by simpa using hloF))
    · rintro i v σ' H' hv ⟨x2, x3, rfl, e, am⟩
      rw [List.getElem?_map] at hv
      obtain ⟨u, hu, rfl⟩ := Option.map_eq_some_iff.mp hv
      obtain ⟨q0, hq, hT⟩ := amt_at hp hu
      have hT1 := e.tups _ _ hT
      have hmem := List.mem_of_getElem? hq
      have hlt := amtD_lt _ _ hmem
      have hok := amtD_ok _ _ hmem
      obtain ⟨r, hr2⟩ : ∃ r, d[q0.2]? = some r := ⟨_, List.getElem?_eq_getElem hlt⟩
      have M2 := M.ext (e1.over e hFo) fun _ _ => by simp
      have hF2 := hF.ext (e1.over e hFo)
      obtain ⟨y, z, g1, g2, g3⟩ := G.hold (List.mem_of_getElem? hr2)
      have hlo : looseB k c d q0 = (decide (q0.1 = "leave") && decide (holdOf k c r.1 = "loose")) := by
        unfold looseB
        rw [hr2]
      rw [g3] at hlo
      have htk : ((amtD k c d d.length).take (i + 1)).filter (thereB k c d fs) = ((amtD k c d d.length).take i).filter (thereB k c d fs) ++ (if thereB k c d fs q0 = true then [q0] else []) := by
        rw [take_snoc hq, filter_snoc]
      obtain ⟨as4, ha4, hp4⟩ := M2.r4
      obtain ⟨u4, hu4, hT4⟩ := paired_atX hp4 hr2
      refine gset ?_
      dsimp only
      refine ⟨_, rfl, _, rfl, a.M, _, 4, .ref a.m4, rfl, rfl, SqL.of M2.M, rfl, _, rfl, u, _, 1, _, rfl, rfl, .inl (.inl hT1), rfl, a.m4, _, _, _, rfl, rfl, SqL.of ha4, hu4, u4, _, 0, _, rfl, rfl, .inl (.inl hT4), rfl, ?_⟩
      refine ⟨a, k, t, p, c, d, us, r.1, y, z, rfl, M2, G.cn, G.c8, G.kn, G.k8, g1, g2, fun H2 e2 => ⟨rfl, ?_⟩⟩
      refine gset ?_
      dsimp only
      have e3 := e.trans e2.nil
      have M3 := M2.ext e2 fun _ _ => by simp
      have am3 := am.ext e2 (by simp)
      refine ⟨_, rfl, by show 2 ≤ sizeLine; decide, fun w hw => ?_⟩
      have e4 : Ext [] H2 (upd H2 w (.tup [.str "some", .ref u])) := Ext.new hw
      have M4 := M3.ext e4 fun _ _ => by simp
      have am4 := am3.ext e4 (by simp)
      have F4 := (hF2.ext e2).ext e4
      have hT4 := (e2.trans e4).tups _ _ hT1
      have hw4 : isFk (upd H2 w (.tup [.str "some", .ref u])) w (.some q0) := ⟨u, upd_same, hT4⟩
      replace e4 := e3.trans e4.nil
      generalize upd H2 w (.tup [.str "some", .ref u]) = H4 at e4 M4 am4 F4 hT4 hw4
      refine ⟨_, rfl, a.M, _, 5, .ref a.m5, rfl, rfl, SqL.of M4.M, rfl, dFk (.some q0), fs.map dFk, hw4.im.dp, F4.dp M4.r5, okD_fk1 hok, sh_fk hf, _, rfl, ?_⟩
      rw [any_fk1]
      obtain ⟨xs, hFx, hxl⟩ := am4.lst
      have hfl := List.length_filter_le (thereB k c d fs) ((amtD k c d d.length).take i)
      rw [List.length_take] at hfl
      have hsz : xs.length < sizeLine := Evl.sz_lt (by omega)
      have yes : thereB k c d fs q0 = true → AmtAt (upd H4 Fo (.lst (xs ++ [.ref u]))) Fo (((amtD k c d d.length).take (i + 1)).filter (thereB k c d fs)) := fun hb => by
        rw [htk, if_pos hb]
        exact am4.pushU hFx hT4
      have no : thereB k c d fs q0 = false → AmtAt H4 Fo (((amtD k c d d.length).take (i + 1)).filter (thereB k c d fs)) := fun hb => by
        rw [htk, hb, if_neg Bool.false_ne_true, List.append_nil]
        exact am4
      have hth : thereB k c d fs q0 = (decide (Fk.some q0 ∈ fs) || looseB k c d q0) := rfl
      refine ifd (fun h1 => ?_) (fun h1 => ?_)
      · refine iteT ?_
        exact ⟨_, rfl, .inl ⟨rfl, _, SqL.of hFx⟩, _, rfl, Fo, xs, _, rfl, rfl, hFx, hsz, _, _, rfl, e4.trans (ext_lst hFx), yes (by rw [hth, decide_eq_true h1, Bool.true_or])⟩
      · rw [decide_eq_false h1, Bool.false_or, hlo] at hth
        refine ⟨_, rfl, u, _, 0, _, rfl, rfl, .inl (.inl hT4), rfl, rfl, _, rfl, ?_⟩
        refine ifd (fun h2 => ?_) (fun h2 => ?_)
        · have h2' : q0.1 = "leave" := by injection h2
          rw [decide_eq_true h2', Bool.true_and] at hth
          refine ⟨_, rfl, _, rfl, ?_⟩
          refine ifd (fun h3 => ?_) (fun h3 => ?_)
          · have h3' : z = "loose" := by injection h3
            exact ⟨_, rfl, .inl ⟨rfl, _, SqL.of hFx⟩, _, rfl, Fo, xs, _, rfl, rfl, hFx, hsz, _, _, rfl, e4.trans (ext_lst hFx), yes (by rw [hth, decide_eq_true h3'])⟩
          · have h3' : ¬ z = "loose" := fun e => h3 (by rw [e])
            exact ⟨_, _, rfl, e4, no (by rw [hth, decide_eq_false h3'])⟩
        · have h2' : ¬ q0.1 = "leave" := fun e => h2 (by rw [e])
          rw [decide_eq_false h2', Bool.false_and] at hth
          refine iteF ?_
          exact ⟨_, _, rfl, e4, no hth⟩
    · rintro σ' H' ⟨x2, x3, rfl, e, am⟩
      rw [List.length_map, hal, List.take_of_length_le (Nat.le_refl _)] at am
      exact ⟨_, rfl, q Fo H' hFo (e1.over e hFo) am⟩
end

end K18
namespace K18
open PySem PySem.Spec PyProof.Rows L2 He Tp ClX LiI

section
variable {P : Program} {w : World} {K : PySem.W.Frag} {mg : Str → Option Value} {base : Heap}
def spIsAmt (K : PySem.W.Frag) : Sp := fun vs H Q _ => ∃ v d, vs = [v] ∧ Av H v d ∧ Q (.bl (amtB d)) H
theorem ok_is_amount (T : Txt K mg) : Df P w K mg base CX0 2 "is_amount" ["value"] (spIsAmt K) := by
  have D_is_whole := ok_is_whole (P := P) (w := w) (base := base) T
  refine Df.mk' T.gis_amount T.fis_amount (fun _ _ _ _ _ _ us hl => match us, hl with | [_], _ => rfl) fun fd F => F.ok sc_is_amount (fun vs H Q E h => ?_) (fun cdv A outer s H vs Q E hr h => ?_)
  · obtain ⟨v, d, rfl, _⟩ := h
    rfl
  · obtain ⟨v, d, rfl, av, q⟩ := h
    have hu65 := hu65_of hr
    have hr_is_whole := hr
    have p := av.wv.ptv (K := K)
    refine ⟨_, PSs.nox (pss_one (ps_ret (pe_and (pe_callB (call_isi) (by rfl) T.bisinstance (by decide +kernel) (pa_cons (pv 0) (pa_cons (pe_bltn (v := .ty "tuple") (u := .type "tuple") (by rfl) T.btuple (by decide +kernel) rfl) pa_nil))) (pe_and (pe_cmpR op_eq (pe_callB call_len_seq (by rfl) T.blen PySem.boot_len (pa_cons (pv 0) pa_nil)) pe_int (nomark _)) (pe_and (pe_cmpR (op_inT hu65) (pe_ix ix_tup (pv 0) pe_int (fun _ _ => rfl)) (pe_glob (v := .ref (ga K "WORDS")) (by rfl) T.gWORDS rfl) (by rfl)) (pe_and (pe_cd D_is_whole hr_is_whole (by rfl) pass0 (pa_cons (pe_ix ix_tup (pv 0) pe_int (fun _ _ => rfl)) pa_nil)) (pe_one (pe_cmpR op_ge (pe_ix ix_tup (pv 0) pe_int (fun _ _ => rfl)) pe_int (nomark _))))))))), ?_⟩
    refine val_isi (val_var rfl) p.ty (p.kit (.inr (.inr (.inr rfl)))) _ ⟨_, rfl, ?_⟩
    obtain ⟨im, ok, sh, it⟩ := av
    cases im with
    | non => exact iteF q
    | bl b => exact iteF q
    | int i => exact iteF q
    | str z => exact iteF q
    | @tup u xs ds hx hi =>
      refine iteT ?_
      refine ⟨_, rfl, u, xs, rfl, .inr (SqT.of hx), ?_⟩
      have hin : ∀ (x : V) (d : PyData), Im H x d → okD d → atI xs 0 = some x → ∀ R : VK, R (.bl (wordV x)) H → tOp (rInT K) (tOp (rIxT K) (tVar 0) (tC (.int 0))) (tC (.ref (ga K "WORDS"))) (L2.start n_is_amount [V.ref u]) H R := fun x d hd hok hat R hR => by
        refine ⟨_, rfl, u, _, 0, x, rfl, rfl, .inl (.inl hx), hat, d, _, hd.dp, .tup (T.tWORDS H) (.cons (.str _) (.cons (.str _) .nil)), hok.shaped, by decide +kernel, ?_⟩
        rw [words_any hd]
        exact hR
      match xs, ds, hx, hi, ok, q, it, hin with
      | [], [], _, _, _, q, _, _ => exact ⟨rfl, _, rfl, iteF q⟩
      | [_], [_], _, _, _, q, _, _ =>
        rw [amtB_ne (by simp)] at q
        exact ⟨rfl, _, rfl, iteF q⟩
      | _ :: _ :: _ :: r, _ :: _ :: _ :: r', _, _, _, q, _, _ =>
        refine ⟨rfl, _, rfl, ?_⟩
        rw [if_neg (fun h => by
          have h1 := of_decide_eq_true h
          have h2 : (((r.length + 1 + 1 + 1 : Nat) : Int)) = 2 := by injection h1
          omega)]
        rw [amtB_ne (by simp)] at q
        exact q
      | [x, y], [d1, d2], hx, .cons i1 (.cons i2 .nil), ok, q, it, hin =>
        refine ⟨rfl, _, rfl, iteT ?_⟩
        refine hin x d1 i1 (item_ok ok (by simp)) rfl _ ⟨_, rfl, ?_⟩
        have sx := it u _ rfl hx x (by simp)
        have sy := it u _ rfl hx y (by simp)
        have av2 : Wv H y := ⟨d2, i2, item_ok ok (by simp), sy⟩
        cases i1 with
        | non => exact iteF q
        | bl b => exact iteF q
        | int i => exact iteF q
        | tup _ _ => exact iteF q
        | str w =>
          refine ifb (fun hw => ?_) (fun hw => ?_)
          · refine ⟨_, rfl, u, _, 1, y, rfl, rfl, .inl (.inl hx), rfl, y, rfl, av2.ptv, _, rfl, ?_⟩
            cases i2 with
            | non => exact iteF q
            | bl b => exact iteF q
            | str z => exact iteF q
            | tup _ _ => exact iteF q
            | int n =>
              refine iteT ?_
              refine ⟨_, rfl, u, _, 1, .int n, rfl, rfl, .inl (.inl hx), rfl, n, 0, rfl, rfl, ?_⟩
              have e : amtB (.tuple [.str w, .int n]) = decide (0 ≤ n) := by
                show ((decide (w = "take") || decide (w = "leave")) && decide (0 ≤ n)) = _
                rw [show (decide (w = "take") || decide (w = "leave")) = true from hw, Bool.true_and]
              rw [e] at q
              exact q
          · have e : amtB (.tuple [.str w, d2]) = false := by
              unfold amtB
              split
              · rename_i w' n heq
                have hww : w' = w := by
                  injection heq with h1
                  injection h1 with h2
                  injection h2 with h3
                  exact h3.symm
                rw [hww, show (decide (w = "take") || decide (w = "leave")) = false from hw, Bool.false_and]
              · rfl
            rw [e] at q
            exact q
end

end K18
namespace K18
open PySem PySem.Spec PyProof.Rows L2 He Tp ClX LiI

section
variable {P : Program} {w : World} {K : PySem.W.Frag} {mg : Str → Option Value} {base : Heap}
def spFacts (C : Addr) : Sp := fun vs H Q _ => ∃ p i A ks ts ps cs ds fs, vs = [.ref p] ∧ BookAt C H p i A ks ts ps cs ds fs ∧ ∀ l, H l = none → Q (.ref l) (upd H l (.lst fs))
theorem ok_facts (T : Txt K mg) {fd : FuncData} (F : FnM K "Book" "facts" "Book.facts" s_Book_facts [] fd) : FnOk P w K mg base CX0 1 (ma K (cB K) "facts") fd ["self"] (spFacts (cB K)) := by
  refine F.ok sc_Book_facts (fun vs H Q E h => ?_) (fun cdv A outer s H vs Q E hr h => ?_)
  · obtain ⟨p, i, A, ks, ts, ps, cs, ds, fs, rfl, _⟩ := h
    rfl
  · obtain ⟨p, i, A, ks, ts, ps, cs, ds, fs, rfl, B, q⟩ := h
    refine ⟨_, PSs.nox (pss_one (ps_ret (pe_callTy call_list_of (by rfl) T.blist (by decide +kernel) (pa_cons (pe_fld (pv 0) rfl) pa_nil)))), ?_⟩
    exact ⟨_, rfl, p, cB K, A.dx, _, _, rfl, B.ob, T.cl, T.n_facts, fsB_facts, A.lf, fs, rfl, .inl (SqL.of B.lf), fun l hl => q l hl⟩
end

end K18
namespace K18
open PySem PySem.Spec PyProof.Rows L2 He Tp ClX LiI

section
variable {P : Program} {w : World} {K : PySem.W.Frag} {mg : Str → Option Value} {base : Heap}
def spCheckOwn (K : PySem.W.Frag) (C : Addr) : Sp := fun vs H Q E => ∃ p v dv i A k c ts ps ds fs d, vs = [.ref p, v] ∧ Av H v dv ∧ BookAt C H p i A (k.map tv) ts ps (c.map tv) ds fs ∧ PT H ds d ∧ Kept k c d ∧
  (ownD (amtD k c d d.length) dv = false → Leaves K E (ga K "BadAmount") v H) ∧ (ownD (amtD k c d d.length) dv = true → ∀ H', Ext [] H H' → Q .non H')
theorem ok_check_own (T : Txt K mg) {fd : FuncData} (F : FnM K "Book" "_check_own" "Book._check_own" s_Book__check_own [] fd) : FnOk P w K mg base (L2.CX P w) 7 (ma K (cB K) "_check_own") fd ["self", "amount"] (spCheckOwn K (cB K)) := by
  have D_is_amount := ok_is_amount (P := P) (w := w) (base := base) T
  have D_dye := dye (P := P) (w := w) (base := base) T
  obtain ⟨fa, fa_⟩ := T.famounts
  have Fa := ok_amounts (P := P) (w := w) (base := base) T fa_
  have ba : Binds K fa ["self"] [] := fa_.bindsN (fun _ _ _ _ _ _ us hl => match us, hl with | [_], _ => rfl)
  refine F.ok sc_Book__check_own (fun vs H Q E h => ?_) (fun cdv A outer s H vs Q E hr h => ?_)
  · obtain ⟨p, v, dv, i, A, k, c, ts, ps, ds, fs, d, rfl, _⟩ := h
    rfl
  · obtain ⟨p, v, dv, i, A, k, c, ts, ps, ds, fs, d, rfl, av, B, D, G, kN, kY⟩ := h
    have hu65 := hu65_of hr
    have hr_is_amount := hr.mono (show 2 ≤ 6 by decide)
    have hra := hr
    refine ⟨_, (pss_one (ps_if (PW.pt (pw_or (pt_not (pt_val (pe_cd D_is_amount hr_is_amount (by rfl) pass0 (pa_cons (pv 1) pa_nil)))) (pw_or1 (pt_cmpR (op_notInD hu65) (pv 1) (pe_meth0 (pv 0) T.cl T.mamounts Fa hra ba .nil pass0) (by rfl))))) (pss_one (ps_raiseX rfl T.xBadAmount D_dye (hr.mono (by decide)) (takes_of rfl rfl rfl rfl) (by rfl) T.gBadAmount (pv 1))) pss_nil)), ?_⟩
    have hw := fun q hq => amtD_word (k := k) (c := c) (d := d) d.length q hq
    have ho := ownD_eq (d := dv) hw
    refine ⟨_, rfl, v, dv, rfl, av, _, rfl, ?_⟩
    refine ifb (fun h1 => ?_) (fun h1 => ?_)
    · have h1' : amtB dv = false := by simpa using h1
      rw [h1', Bool.false_and] at ho
      exact iteT ⟨v, rfl, leaves_now T.xBadAmount (kN ho) Ext.refl⟩
    · have h1' : amtB dv = true := by simpa using h1
      rw [h1', Bool.true_and] at ho
      refine ⟨_, rfl, _, rfl, p, A.dx, _, rfl, B.ob, fsB_no2 (.inr (.inr (.inl rfl))), p, i, A, k, c, ts, ps, ds, fs, d, rfl, B, D, G, fun l H1 hl e1 am => ?_⟩
      refine ⟨dv, _, (av.1.ext e1).dp, am.dp, av.2.1.shaped, sh_amts (fun q hq => okS_wd (hw q hq)), _, rfl, ?_⟩
      rw [← ho]
      refine ifb (fun h2 => ?_) (fun h2 => ?_)
      · exact ⟨v, rfl, leaves_now T.xBadAmount (kN (by simpa using h2)) e1⟩
      · exact kY (by simpa using h2) H1 e1
def spTell (K : PySem.W.Frag) (C : Addr) : Sp := fun vs H Q E => ∃ p v g dv dg i A k c ts ps ds fs d, vs = [.ref p, v, g] ∧ Av H v dv ∧ Av H g dg ∧ BookAt C H p i A (k.map tv) ts ps (c.map tv) ds fs ∧ PT H ds d ∧ Kept k c d ∧ fs.length ≤ 1000 ∧
  (ownD (amtD k c d d.length) dv = false → Leaves K E (ga K "BadAmount") v H) ∧ (ownD (amtD k c d d.length) dv = true → ownD (amtD k c d d.length) dg = false → Leaves K E (ga K "BadAmount") g H) ∧
  (ownD (amtD k c d d.length) dv = true → ownD (amtD k c d d.length) dg = true → 32 ≤ fs.length → Leaves K E (ga K "Full") (.int 32) H) ∧
  (ownD (amtD k c d d.length) dv = true → ownD (amtD k c d d.length) dg = true → fs.length < 32 → ∀ H' u, Ext [A.lf] H H' → H u = none → H' u = some (.tup [.str "tell", v, g]) → BookAt C H' p i A (k.map tv) ts ps (c.map tv) ds (fs ++ [.ref u]) → Q .non H')
theorem ok_tell (T : Txt K mg) {fd : FuncData} (F : FnM K "Book" "tell" "Book.tell" s_Book_tell [] fd) : FnOk P w K mg base (L2.CX P w) 8 (ma K (cB K) "tell") fd ["self", "more", "less"] (spTell K (cB K)) := by
  have D__check_room := ok_check_roomL (P := P) (w := w) (base := base) T
  obtain ⟨fo, fo_⟩ := T.f_check_own
  have Fo := ok_check_own (P := P) (w := w) (base := base) T fo_
  have bo : Binds K fo ["self", "amount"] [] := fo_.bindsN (fun _ _ _ _ _ _ us hl => match us, hl with | [_, _], _ => rfl)
  refine F.ok sc_Book_tell (fun vs H Q E h => ?_) (fun cdv A outer s H vs Q E hr h => ?_)
  · obtain ⟨p, v, g, dv, dg, i, A, k, c, ts, ps, ds, fs, d, rfl, _⟩ := h
    rfl
  · obtain ⟨p, v, g, dv, dg, i, A, k, c, ts, ps, ds, fs, d, rfl, av, ag, B, D, G, hfl, k1, k2, k3, k4⟩ := h
    have hro := hr
    have hr__check_room := hr.mono (show 3 ≤ 7 by decide)
    obtain ⟨u1, c1⟩ := T.vFACTS
    refine ⟨_, (pss_cons (ps_expr (pe_meth (pv 0) T.cl T.m_check_own Fo hro bo .nil (passes_call (takes_of rfl rfl rfl rfl) (fun _ _ _ _ z => z)) (pa_cons (pv 1) pa_nil)))
   (pss_cons (ps_expr (pe_meth (pv 0) T.cl T.m_check_own Fo hro bo .nil (passes_call (takes_of rfl rfl rfl rfl) (fun _ _ _ _ z => z)) (pa_cons (pv 2) pa_nil)))
   (pss_cons (ps_expr (pe_cd D__check_room hr__check_room (by rfl) (passes_call (takes_of rfl rfl rfl rfl) (fun _ _ _ _ z => z)) (pa_cons (pe_fld (pv 0) rfl) (pa_cons (pe_cval (pe_glob (v := .ref (ga K "Book")) (by rfl) T.gBook rfl)) pa_nil))))
   (pss_one (ps_expr (pe_bm PySem.F.plainAttrs_list PySem.F.slot_list_append PySem.F.type_list_append mt_append (pe_fld (pv 0) rfl) (pa_cons (pe_tup (pa_cons pe_str (pa_cons (pv 1) (pa_cons (pv 2) pa_nil)))) pa_nil))))))), ?_⟩
    refine ⟨_, rfl, p, A.dx, _, rfl, B.ob, fsB_no3 (.inr (.inr (.inr (.inl rfl)))), _, rfl, p, v, dv, i, A, k, c, ts, ps, ds, fs, d, rfl, av, B, D, G, k1, fun h1 H1 e1 => ?_⟩
    have B1 := B.ext e1 fun _ _ => by simp
    refine ⟨_, rfl, p, A.dx, _, rfl, B1.ob, fsB_no3 (.inr (.inr (.inr (.inl rfl)))), _, rfl, p, g, dg, i, A, k, c, ts, ps, ds, fs, d, rfl, ag.ext e1, B1, D.ext e1, G, fun h2 => (k2 h1 h2).grow e1, fun h2 H2 e2 => ?_⟩
    have B2 := B1.ext e2 fun _ _ => by simp
    have e12 := e1.trans e2
    refine ⟨_, rfl, p, cB K, A.dx, _, _, rfl, B2.ob, T.cl, T.n_facts, fsB_facts, cB K, _, .int 32, u1, rfl, T.crd, c1, ?_⟩
    refine ⟨_, fs.length, 32, rfl, ⟨A.lf, _, rfl, B2.lf, rfl⟩, fun h3 => (k3 h1 h2 (by omega)).grow e12, fun h3 => ?_⟩
    refine ⟨_, rfl, p, cB K, A.dx, _, _, rfl, B2.ob, T.cl, T.n_facts, fsB_facts, .inl ⟨rfl, _, SqL.of B2.lf⟩, _, rfl, _, rfl, by show 3 ≤ sizeLine; decide, fun t ht => ⟨A.lf, fs, _, rfl, rfl, (by rw [upd_ne (ne_of_none B2.lf ht)]; exact B2.lf), small1000 hfl, ?_⟩⟩
    have e3 := Ext.new (ms := []) (o := .tup [.str "tell", v, g]) ht
    refine k4 h1 h2 (by omega) _ t ((e12.trans e3).nil.mut (by simp) fun xs z => by rw [B.lf] at z; cases z) (e12.none ht (by simp)) ?_ ((B2.ext e3 (fun _ _ => by simp)).setF _)
    rw [upd_ne (ne_of_none B2.lf ht).symm]
    exact upd_same
def spTellSome (K : PySem.W.Frag) (C : Addr) : Sp := fun vs H Q E => ∃ p v dv i A k c ts ps ds fs d, vs = [.ref p, v] ∧ Av H v dv ∧ BookAt C H p i A (k.map tv) ts ps (c.map tv) ds fs ∧ PT H ds d ∧ Kept k c d ∧ fs.length ≤ 1000 ∧
  (ownD (amtD k c d d.length) dv = false → Leaves K E (ga K "BadAmount") v H) ∧ (ownD (amtD k c d d.length) dv = true → 32 ≤ fs.length → Leaves K E (ga K "Full") (.int 32) H) ∧
  (ownD (amtD k c d d.length) dv = true → fs.length < 32 → ∀ H' u, Ext [A.lf] H H' → H u = none → H' u = some (.tup [.str "some", v]) → BookAt C H' p i A (k.map tv) ts ps (c.map tv) ds (fs ++ [.ref u]) → Q .non H')
theorem ok_tell_some (T : Txt K mg) {fd : FuncData} (F : FnM K "Book" "tell_some" "Book.tell_some" s_Book_tell_some [] fd) : FnOk P w K mg base (L2.CX P w) 8 (ma K (cB K) "tell_some") fd ["self", "amount"] (spTellSome K (cB K)) := by
  have D__check_room := ok_check_roomL (P := P) (w := w) (base := base) T
  obtain ⟨fo, fo_⟩ := T.f_check_own
  have Fo := ok_check_own (P := P) (w := w) (base := base) T fo_
  have bo : Binds K fo ["self", "amount"] [] := fo_.bindsN (fun _ _ _ _ _ _ us hl => match us, hl with | [_, _], _ => rfl)
  refine F.ok sc_Book_tell_some (fun vs H Q E h => ?_) (fun cdv A outer s H vs Q E hr h => ?_)
  · obtain ⟨p, v, dv, i, A, k, c, ts, ps, ds, fs, d, rfl, _⟩ := h
    rfl
  · obtain ⟨p, v, dv, i, A, k, c, ts, ps, ds, fs, d, rfl, av, B, D, G, hfl, k1, k3, k4⟩ := h
    have hro := hr
    have hr__check_room := hr.mono (show 3 ≤ 7 by decide)
    obtain ⟨u1, c1⟩ := T.vFACTS
    refine ⟨_, (pss_cons (ps_expr (pe_meth (pv 0) T.cl T.m_check_own Fo hro bo .nil (passes_call (takes_of rfl rfl rfl rfl) (fun _ _ _ _ z => z)) (pa_cons (pv 1) pa_nil)))
   (pss_cons (ps_expr (pe_cd D__check_room hr__check_room (by rfl) (passes_call (takes_of rfl rfl rfl rfl) (fun _ _ _ _ z => z)) (pa_cons (pe_fld (pv 0) rfl) (pa_cons (pe_cval (pe_glob (v := .ref (ga K "Book")) (by rfl) T.gBook rfl)) pa_nil))))
   (pss_one (ps_expr (pe_bm PySem.F.plainAttrs_list PySem.F.slot_list_append PySem.F.type_list_append mt_append (pe_fld (pv 0) rfl) (pa_cons (pe_tup (pa_cons pe_str (pa_cons (pv 1) pa_nil))) pa_nil)))))), ?_⟩
    refine ⟨_, rfl, p, A.dx, _, rfl, B.ob, fsB_no3 (.inr (.inr (.inr (.inl rfl)))), _, rfl, p, v, dv, i, A, k, c, ts, ps, ds, fs, d, rfl, av, B, D, G, k1, fun h1 H1 e12 => ?_⟩
    have B2 := B.ext e12 fun _ _ => by simp
    refine ⟨_, rfl, p, cB K, A.dx, _, _, rfl, B2.ob, T.cl, T.n_facts, fsB_facts, cB K, _, .int 32, u1, rfl, T.crd, c1, ?_⟩
    refine ⟨_, fs.length, 32, rfl, ⟨A.lf, _, rfl, B2.lf, rfl⟩, fun h3 => (k3 h1 (by omega)).grow e12, fun h3 => ?_⟩
    refine ⟨_, rfl, p, cB K, A.dx, _, _, rfl, B2.ob, T.cl, T.n_facts, fsB_facts, .inl ⟨rfl, _, SqL.of B2.lf⟩, _, rfl, by show 2 ≤ sizeLine; decide, fun t ht => ⟨A.lf, fs, _, rfl, rfl, (by rw [upd_ne (ne_of_none B2.lf ht)]; exact B2.lf), small1000 hfl, ?_⟩⟩
    have e3 := Ext.new (ms := []) (o := .tup [.str "some", v]) ht
    refine k4 h1 (by omega) _ t ((e12.trans e3).nil.mut (by simp) fun xs z => by rw [B.lf] at z; cases z) (e12.none ht (by simp)) ?_ ((B2.ext e3 (fun _ _ => by simp)).setF _)
    rw [upd_ne (ne_of_none B2.lf ht).symm]
    exact upd_same
end

end K18
namespace K18
open PySem PySem.Spec PyProof.Rows L2 He Tp ClX LiI

section
variable {K : PySem.W.Frag} {X : Hp} {p : Addr} {i : Int} {A : Bk} {k c : List (Str × Str)} {ts : List V} {ps : List Str} {ds fs : List V} {x y : Str} {R : VK}
theorem lkC (nd : (c.map (·.1)).Nodup) (hx : x.length ≤ 1000) (g : (x, y) ∈ c) (B : BookAt (cB K) X p i A (k.map tv) ts ps (c.map tv) ds fs) (hR : R (.str y) X) : spLook K (cB K) true [.ref p, .str x] X R E0 := by
  refine ⟨p, .str x, i, A, _, _, _, _, _, _, rfl, .str hx, B, fun hb => ?_, fun z' y' ez hy => ?_⟩
  · have hb' : knownK (c.map tv) (.str x) = false := hb
    rw [show knownK (c.map tv) (.str x) = true from decide_eq_true (mem_tv.mpr (List.mem_map.mpr ⟨_, g, rfl⟩))] at hb'
    cases hb'
  · cases ez
    have hy' : valV (kvB (c.map tv)) (Sum.inr x : Key) = some y' := hy
    rw [valV_tv nd g] at hy'
    cases hy'
    exact hR
theorem lkK (nd : (k.map (·.1)).Nodup) (hx : x.length ≤ 1000) (g : (x, y) ∈ k) (B : BookAt (cB K) X p i A (k.map tv) ts ps (c.map tv) ds fs) (hR : R (.str y) X) : spLook K (cB K) false [.ref p, .str x] X R E0 := by
  refine ⟨p, .str x, i, A, _, _, _, _, _, _, rfl, .str hx, B, fun hb => ?_, fun z' y' ez hy => ?_⟩
  · have hb' : knownK (k.map tv) (.str x) = false := hb
    rw [show knownK (k.map tv) (.str x) = true from decide_eq_true (mem_tv.mpr (List.mem_map.mpr ⟨_, g, rfl⟩))] at hb'
    cases hb'
  · cases ez
    have hy' : valV (kvB (k.map tv)) (Sum.inr x : Key) = some y' := hy
    rw [valV_tv nd g] at hy'
    cases hy'
    exact hR
end

end K18
namespace K18
open PySem PySem.Spec PyProof.Rows L2 He Tp ClX LiI

section
variable {P : Program} {w : World} {K : PySem.W.Frag} {mg : Str → Option Value} {base : Heap}
def spLoose (C : Addr) : Sp := fun vs H Q _ => ∃ p L u q0 i A k c ts ps ds fs d, vs = [.ref p, .ref L, .ref u] ∧ BookAt C H p i A (k.map tv) ts ps (c.map tv) ds fs ∧ H L = some (.lst ds) ∧ PT H ds d ∧ Kept k c d ∧ (∀ z, z ∈ k.map (·.1) ∨ z ∈ c.map (·.1) → z.length ≤ 1000) ∧ isAmt H u q0 ∧ q0.2 < d.length ∧ Q (.bl (looseB k c d q0)) H
theorem ok_is_loose (T : Txt K mg) : Df P w K mg base CX0 5 "_is_loose" ["book", "dips", "amount"] (spLoose (cB K)) := by
  obtain ⟨fk, fk_⟩ := T.fkind_of
  obtain ⟨fh, fh_⟩ := T.fhold_of
  have Fk := ok_kind_of (P := P) (w := w) (base := base) T fk_
  have Fh := ok_hold_of (P := P) (w := w) (base := base) T fh_
  have bk : Binds K fk ["self", "cloth"] [] := fk_.bindsN (fun _ _ _ _ _ _ us hl => match us, hl with | [_, _], _ => rfl)
  have bh : Binds K fh ["self", "kind"] [] := fh_.bindsN (fun _ _ _ _ _ _ us hl => match us, hl with | [_, _], _ => rfl)
  refine Df.mk' T.g_is_loose T.f_is_loose (fun _ _ _ _ _ _ us hl => match us, hl with | [_, _, _], _ => rfl) fun fd F => F.ok sc__is_loose (fun vs H Q E h => ?_) (fun cdv A outer s H vs Q E hr h => ?_)
  · obtain ⟨p, L, u, q0, i, A, k, c, ts, ps, ds, fs, d, rfl, _⟩ := h
    rfl
  · obtain ⟨p, L, u, q0, i, A, k, c, ts, ps, ds, fs, d, rfl, B, hL, D, G, hn, hu, hlt, q⟩ := h
    have nd := sc__is_loose.nd
    have hrk := hr
    have hrh := hr
    refine ⟨_, PSs.nox (pss_cons (ps_asg (pv 2) (pg_tup (by rfl) (pgs_cons (pg_name (i := 3) nd rfl (by first | exact Or.inl rfl | exact Or.inr rfl)) (pgs_cons (pg_name (i := 4) nd rfl (by first | exact Or.inl rfl | exact Or.inr rfl)) pgs_nil))))
   (pss_one (ps_ret (pe_and (pe_cmpR op_eq (pv 3) pe_str (nomark _)) (pe_one (pe_cmpR op_eq (pe_meth (pv 0) T.cl T.mhold_of Fh hrh bh .nil passL (pa_cons (pe_meth (pv 0) T.cl T.mkind_of Fk hrk bk .nil passL (pa_cons (pe_ix ix_tup (pe_ix ix_list (pv 1) (pv 4) (fun _ _ => rfl)) pe_int (fun _ _ => rfl)) pa_nil)) pa_nil)) pe_str (nomark _))))))), ?_⟩
    obtain ⟨r, hr2⟩ : ∃ r, d[q0.2]? = some r := ⟨_, List.getElem?_eq_getElem hlt⟩
    obtain ⟨u2, hu2, hT⟩ := D.get hr2
    obtain ⟨y, z, g1, g2, g3⟩ := G.hold (List.mem_of_getElem? hr2)
    have hlo : looseB k c d q0 = (decide (q0.1 = "leave") && decide (holdOf k c r.1 = "loose")) := by
      unfold looseB
      rw [hr2]
    rw [hlo, g3] at q
    have hc1 := hn r.1 (.inr (List.mem_map.mpr ⟨_, g1, rfl⟩))
    have hk1 := hn y (.inl (List.mem_map.mpr ⟨_, g2, rfl⟩))
    refine ⟨_, rfl, u, _, rfl, .inl (.inl hu), rfl, _, _, rfl, _, _, rfl, rfl, ?_⟩
    refine ⟨_, rfl, rfl, _, rfl, ?_⟩
    refine ifd (fun h => ?_) (fun h => ?_)
    · have h' : q0.1 = "leave" := by injection h
      rw [decide_eq_true h', Bool.true_and] at q
      refine ⟨_, rfl, p, A.dx, _, rfl, B.ob, fsB_no2 (.inr (.inr (.inr (.inr (.inl rfl))))), ?_⟩
      refine ⟨_, rfl, p, A.dx, _, rfl, B.ob, fsB_no2 (.inr (.inr (.inr (.inl rfl)))), _, rfl, _, rfl, L, _, _, _, rfl, rfl, SqL.of hL, hu2, u2, _, 0, _, rfl, rfl, .inl (.inl hT), rfl, ?_⟩
      refine lkC G.cn hc1 g1 B ?_
      refine lkK G.kn hk1 g2 B ?_
      refine ⟨rfl, ?_⟩
      have e : decide (V.str z = V.str "loose") = decide (z = "loose") := by
        by_cases hz : z = "loose"
        · rw [decide_eq_true hz, decide_eq_true (by rw [hz])]
        · rw [decide_eq_false hz, decide_eq_false (fun e => hz (by injection e))]
      show Q (V.bl (decide (V.str z = V.str "loose"))) H
      rw [e]
      exact q
    · have h' : ¬ q0.1 = "leave" := fun e => h (by rw [e])
      rw [decide_eq_false h', Bool.false_and] at q
      exact q
end

end K18
namespace K18
open PySem PySem.Spec PyProof.Rows L2 He Tp ClX LiI

section
variable {P : Program} {w : World} {K : PySem.W.Frag} {mg : Str → Option Value} {base : Heap}
def spFalls (C : Addr) : Sp := fun vs H Q _ => ∃ p L i A k t c ts ps ds fs d, ∃ j : Nat, vs = [.ref p, .ref L, .int (j : Int)] ∧ BookAt C H p i A (k.map tv) ts ps (c.map tv) ds fs ∧ H L = some (.lst ds) ∧ PT H ts t ∧ t.length ≤ 1000 ∧ PT H ds d ∧ Kept k c d ∧ (∀ z, z ∈ k.map (·.1) ∨ z ∈ c.map (·.1) → z.length ≤ 1000) ∧ j < d.length ∧ d.length ≤ 100 ∧
  ∀ l H' ws, H l = none → Ext [] H H' → H' l = some (.lst ws) → PrL H' ws (fallsD t c d j j) → Q (.ref l) H'
theorem ok_falls (T : Txt K mg) : Df P w K mg base CX0 5 "_falls" ["book", "dips", "late"] (spFalls (cB K)) := by
  obtain ⟨fk, fk_⟩ := T.fkind_of
  obtain ⟨fq, fq_⟩ := T.fthirstier
  have Fk := ok_kind_of (P := P) (w := w) (base := base) T fk_
  have Fq := ok_thirstier (P := P) (w := w) (base := base) T fq_
  have bk : Binds K fk ["self", "cloth"] [] := fk_.bindsN (fun _ _ _ _ _ _ us hl => match us, hl with | [_, _], _ => rfl)
  have bq : Binds K fq ["self", "first", "second"] [] := fq_.bindsN (fun _ _ _ _ _ _ us hl => match us, hl with | [_, _, _], _ => rfl)
  refine Df.mk' T.g_falls T.f_falls (fun _ _ _ _ _ _ us hl => match us, hl with | [_, _, _], _ => rfl) fun fd F => F.ok sc__falls (fun vs H Q E h => ?_) (fun cdv A outer s H vs Q E hr h => ?_)
  · obtain ⟨p, L, i, A, k, t, c, ts, ps, ds, fs, d, j, rfl, _⟩ := h
    rfl
  · obtain ⟨p, L, i, A, k, t, c, ts, ps, ds, fs, d, j, rfl, B, hL, Tt, ht, D, G, hn, hj, hd, q⟩ := h
    have nd := sc__falls.nd
    have hrk := hr
    have hrq := hr
    refine ⟨_, PSs.nox (pss_cons (ps_asg (pe_ix ix_list (pv 1) (pv 2) (fun _ _ => rfl)) (pg_tup (by rfl) (pgs_cons (pg_name (i := 3) nd rfl (by first | exact Or.inl rfl | exact Or.inr rfl)) (pgs_cons (pg_name (i := 4) nd rfl (by first | exact Or.inl rfl | exact Or.inr rfl)) pgs_nil))))
   (pss_cons (ps_set (i := 5) nd rfl (by first | exact Or.inl rfl | exact Or.inr rfl) (pe_meth (pv 0) T.cl T.mkind_of Fk hrk bk .nil passL (pa_cons (pv 3) pa_nil)))
   (pss_one (ps_ret (pe_lc (own := [("early", 6)]) (g := gName 6) (by rfl) nd (pi_range1 (by rfl) T.brange (pa_cons (pv 2) pa_nil)) (blkOk_by (own := [("early", 6)]) (N := n__falls) (sc := defScope s__falls) (by decide +kernel)) (fun _ _ _ _ _ => pg_name (i := 6) nd rfl (by first | exact Or.inl rfl | exact Or.inr rfl)) (fun _ _ _ _ _ => (pts_one (PW.pt (pw_and (pt_cmpR op_eq (pe_ix (show IxR _ (rIxT K) from ix_tup) (pe_ix (show IxR _ (rIxL K) from ix_list) (pv 1) (pv 6) (fun _ _ => rfl)) pe_int (fun _ _ => rfl)) (pv 4) (nomark _)) (pw_and1 (pt_val (show PE _ _ (tMeth (cB K) "thirstier" (spThirstier K (cB K)) [] _ _ _) from pe_meth (pv 0) T.cl T.mthirstier Fq hrq bq .nil passL (pa_cons (show PE _ _ (tMeth (cB K) "kind_of" (spLook K (cB K) true) [] _ _ _) from pe_meth (pv 0) T.cl T.mkind_of Fk hrk bk .nil passL (pa_cons (pe_ix (show IxR _ (rIxT K) from ix_tup) (pe_ix (show IxR _ (rIxL K) from ix_list) (pv 1) (pv 6) (fun _ _ => rfl)) pe_int (fun _ _ => rfl)) pa_nil)) (pa_cons (pv 5) pa_nil))))))))) (fun _ _ _ _ _ => (pe_tup (pa_cons (pe_tup (pa_cons pe_str (pa_cons (pv 6) pa_nil))) (pa_cons (pe_tup (pa_cons pe_str (pa_cons (pv 2) pa_nil))) pa_nil))))))))), ?_⟩
    obtain ⟨rj, hrj⟩ : ∃ r, d[j]? = some r := ⟨_, List.getElem?_eq_getElem hj⟩
    obtain ⟨uj, huj, hTj⟩ := D.get hrj
    obtain ⟨yj, zj, g1, g2, g3⟩ := G.hold (List.mem_of_getElem? hrj)
    have hn1 : ∀ {x y : Str}, (x, y) ∈ c → x.length ≤ 1000 := fun g => hn _ (.inr (List.mem_map.mpr ⟨_, g, rfl⟩))
    refine ⟨_, rfl, _, rfl, L, _, _, _, rfl, rfl, SqL.of hL, huj, uj, _, rfl, .inl (.inl hTj), rfl, _, _, rfl, _, _, rfl, rfl, ?_⟩
    refine ⟨_, rfl, p, A.dx, _, rfl, B.ob, fsB_no2 (.inr (.inr (.inr (.inl rfl)))), _, rfl, lkC G.cn (hn1 g1) g1 B ?_⟩
    refine gset ?_
    dsimp only
    refine ⟨_, rfl, (j : Int), rfl, by omega, by omega, fun l hl => lc_range (lo := 0) (n := (j : Int).toNat) (fun m H' => Ext [] H H' ∧ ∃ ws, H' l = some (.lst ws) ∧ PrL H' ws (fallsD t c d j m)) ⟨Ext.new hl, [], upd_same, PrL.nil⟩ ?_ ?_⟩
    · rintro m H' hm ⟨e, ws, hw, PL⟩
      have hm' : m < d.length := by omega
      obtain ⟨r, hr2⟩ : ∃ r, d[m]? = some r := ⟨_, List.getElem?_eq_getElem hm'⟩
      obtain ⟨u2, hu2, hT2⟩ := D.get hr2
      obtain ⟨ym, zm, f1, f2, f3⟩ := G.hold (List.mem_of_getElem? hr2)
      have hb3 := fallsD_len (t := t) (c := c) (d := d) (j := j) m
      have hfb : fallB t c d j m = (decide (r.2 = rj.2) && thB t (kindD c r.1) (kindD c rj.1)) := by
        unfold fallB
        rw [hr2, hrj]
      rw [kindD_eq G.cn g1, kindD_eq G.cn f1] at hfb
      have hfs : fallsD t c d j (m + 1) = fallsD t c d j m ++ (if fallB t c d j m = true then [((("take" : Str), m), (("take" : Str), j))] else []) := rfl
      have B1 := B.ext e fun _ _ => by simp
      have hL1 := e.keep _ _ hL (by simp)
      refine ⟨wipe1, ?_⟩
      rw [show (0 : Int) + (m : Int) = (m : Int) from Int.zero_add _]
      refine ⟨_, rfl, _, rfl, L, _, _, _, rfl, rfl, SqL.of hL1, hu2, u2, _, 1, _, rfl, rfl, .inl (.inl (e.tups _ _ hT2)), rfl, _, rfl, rfl, _, rfl, ?_⟩
      refine ifd (fun h => ?_) (fun h => ?_)
      · have h' : r.2 = rj.2 := by injection h
        rw [decide_eq_true h', Bool.true_and] at hfb
        refine ⟨_, rfl, p, A.dx, _, rfl, B1.ob, fsB_no2 (.inr (.inr (.inr (.inr (.inr (.inr (.inr rfl))))))), _, rfl, p, A.dx, _, rfl, B1.ob, fsB_no2 (.inr (.inr (.inr (.inl rfl)))), _, rfl, _, rfl, L, _, _, _, rfl, rfl, SqL.of hL1, hu2, u2, _, 0, _, rfl, rfl, .inl (.inl (e.tups _ _ hT2)), rfl, ?_⟩
        dsimp only [tNil, List.cons_append, List.nil_append]
        refine lkC G.cn (hn1 f1) f1 B1 ?_
        refine ⟨_, rfl, p, .str ym, .str yj, i, A, _, ts, _, _, _, _, t, rfl, .str (hn _ (.inl (List.mem_map.mpr ⟨_, f2, rfl⟩))), .str (hn _ (.inl (List.mem_map.mpr ⟨_, g2, rfl⟩))), B1, Tt.ext e, ht, fun hb => ?_, fun _ hb => ?_, fun x y ex ey hx hy b H2 hb e2 => ?_⟩
        · rw [show knownK (k.map tv) (.str ym) = true from decide_eq_true (mem_tv.mpr (List.mem_map.mpr ⟨_, f2, rfl⟩))] at hb
          cases hb
        · rw [show knownK (k.map tv) (.str yj) = true from decide_eq_true (mem_tv.mpr (List.mem_map.mpr ⟨_, g2, rfl⟩))] at hb
          cases hb
        · cases ex
          cases ey
          rw [← thB_eq hb] at hfb
          have hw2 := e2.keep _ _ hw (by simp)
          refine ⟨_, rfl, ?_⟩
          refine ifb (fun hb => ?_) (fun hb => ?_)
          · rw [hb] at hfb
            rw [hfb, if_pos rfl] at hfs
            refine ⟨_, rfl, by show 2 ≤ sizeLine; decide, fun u1 h1 => ⟨_, rfl, by show 2 ≤ sizeLine; decide, fun u2 h2 => ⟨by show 2 ≤ sizeLine; decide, fun u3 h3 => ?_⟩⟩⟩
            obtain ⟨e5, hp5⟩ := new_pr (q := ((("take" : Str), m), (("take" : Str), j))) h1 h2 h3
            have hw5 := e5.keep _ _ hw2 (by simp)
            refine ⟨ws, hw5, Evl.sz_lt (by rw [PL.len]; omega), (e.trans (e2.trans e5)).fresh hl, _, upd_same, ?_⟩
            rw [hfs]
            exact ((PL.ext e2).ext e5).push hw5 hp5
          · rw [hb] at hfb
            rw [hfb, if_neg Bool.false_ne_true, List.append_nil] at hfs
            exact ⟨e.trans e2, ws, hw2, by rw [hfs]; exact PL.ext e2⟩
      · have h' : ¬ r.2 = rj.2 := fun e => h (by rw [e])
        rw [decide_eq_false h', Bool.false_and] at hfb
        rw [hfb, if_neg Bool.false_ne_true, List.append_nil] at hfs
        exact ⟨e, ws, hw, by rw [hfs]; exact PL⟩
    · rintro H' ⟨e, ws, hw, PL⟩
      rw [show (j : Int).toNat = j from Int.toNat_natCast j] at PL
      exact q l H' ws hl e hw PL
end

end K18
namespace K18
open PySem PySem.Spec PyProof.Rows L2 He Tp ClX LiI

section
variable {P : Program} {w : World} {K : PySem.W.Frag} {mg : Str → Option Value} {base : Heap}
def spPairs (C : Addr) : Sp := fun vs H Q _ => ∃ p i A k t ps c d fs ts ds us, vs = [.ref p] ∧ BkI C H p i A k t ps c d fs ts ds us ∧ ∀ l H', H l = none → Ext [] H H' → PrAt H' l (pairsD k t c d fs) → Q (.ref l) H'
theorem ok_pairs (T : Txt K mg) : Df P w K mg base CX0 7 "pairs" ["book"] (spPairs (cB K)) := by
  have D__falls := ok_falls (P := P) (w := w) (base := base) T
  obtain ⟨fa, fa_⟩ := T.famounts
  obtain ⟨fv, fv_⟩ := T.fprevious
  obtain ⟨ff, ff_⟩ := T.ffacts
  obtain ⟨fl, fl_⟩ := T.f__len__
  obtain ⟨ft, ft_⟩ := T.f__iter__
  have Fa := ok_amounts (P := P) (w := w) (base := base) T fa_
  have Fv := ok_previous (P := P) (w := w) (base := base) T fv_
  have Ff := ok_facts (P := P) (w := w) (base := base) T ff_
  have Fl0 := ok_blen (P := P) (w := w) (base := base) T fl_
  have Fit0 := ok_biter (P := P) (w := w) (base := base) T ft_
  have ba : Binds K fa ["self"] [] := fa_.bindsN (fun _ _ _ _ _ _ us hl => match us, hl with | [_], _ => rfl)
  have bv : Binds K fv ["self", "number"] [] := fv_.bindsN (fun _ _ _ _ _ _ us hl => match us, hl with | [_, _], _ => rfl)
  have bf : Binds K ff ["self"] [] := ff_.bindsN (fun _ _ _ _ _ _ us hl => match us, hl with | [_], _ => rfl)
  have bl : Binds K fl ["self"] [] := fl_.bindsN (fun _ _ _ _ _ _ us hl => match us, hl with | [_], _ => rfl)
  have bit : Binds K ft ["self"] [] := ft_.bindsN (fun _ _ _ _ _ _ us hl => match us, hl with | [_], _ => rfl)
  have ol : OwnLn K (cB K) (ma K (cB K) "__len__") := ⟨T.m__len__.at_, T.m__len__.fn⟩
  have oi : OwnIt K (cB K) (ma K (cB K) "__iter__") := ⟨T.m__iter__.at_, T.m__iter__.fn⟩
  refine Df.mk' T.gpairs T.fpairs (fun _ _ _ _ _ _ us hl => match us, hl with | [_], _ => rfl) fun fd F => F.ok sc_pairs (fun vs H Q E h => ?_) (fun cdv A outer s H vs Q E hr h => ?_)
  · obtain ⟨p, i, A, k, t, ps, c, d, fs, ts, ds, us, rfl, _⟩ := h
    rfl
  · obtain ⟨p, i, A, k, t, ps, c, d, fs, ts, ds, us, rfl, b, q⟩ := h
    have nd := sc_pairs.nd
    have hu65 := hu65_of hr
    have hra := hr
    have hrv := hr.mono (show 4 ≤ 6 by decide)
    have hrf := hr.mono (show 1 ≤ 6 by decide)
    have hrl := hr.mono (show 1 + 3 ≤ 6 by decide)
    have hr__falls := hr.mono (show 5 ≤ 6 by decide)
    refine ⟨_, PSs.nox (pss_cons (ps_set (i := 1) nd rfl (by first | exact Or.inl rfl | exact Or.inr rfl) (pe_callTy (call_listIt rfl oi ol Fit0 Fl0 bit bl hrl) (by rfl) T.blist (by decide +kernel) (pa_cons (pv 0) pa_nil)))
   (pss_cons (ps_set (i := 2) nd rfl (by first | exact Or.inl rfl | exact Or.inr rfl) (pe_meth0 (pv 0) T.cl T.mamounts Fa hra ba .nil pass0))
   (pss_cons (ps_set (i := 3) nd rfl (by first | exact Or.inl rfl | exact Or.inr rfl) (pe_lst pa_nil))
   (pss_cons (ps_for PassesOwn.never rfl (pi_range1 (by rfl) T.brange (pa_cons (pe_callB call_len_seq (by rfl) T.blen PySem.boot_len (pa_cons (pv 1) pa_nil)) pa_nil)) (pg_name (i := 4) nd rfl (by first | exact Or.inl rfl | exact Or.inr rfl))
   (pss_cons (ps_expr (pe_bm PySem.F.plainAttrs_list PySem.F.slot_list_extend PySem.F.type_list_extend mt_extend (pv 3) (pa_cons (pe_cd D__falls hr__falls (by rfl) pass0 (pa_cons (pv 0) (pa_cons (pv 1) (pa_cons (pv 4) pa_nil)))) pa_nil)))
   (pss_one (ps_if (pt_cmpR (op_inD hu65) (pe_tup (pa_cons pe_str (pa_cons (pv 4) pa_nil))) (pv 2) (by rfl)) (pss_one (ps_expr (pe_bm PySem.F.plainAttrs_list PySem.F.slot_list_append PySem.F.type_list_append mt_append (pv 3) (pa_cons (pe_tup (pa_cons (pe_tup (pa_cons pe_str (pa_cons (pe_meth (pv 0) T.cl T.mprevious Fv hrv bv .nil passL (pa_cons (pv 4) pa_nil)) pa_nil))) (pa_cons (pe_tup (pa_cons pe_str (pa_cons (pv 4) pa_nil))) pa_nil))) pa_nil)))) pss_nil))))
   (pss_cons (ps_setLc (i := 5) (own := [("fact", 6)]) (g := gName 6) (by rfl) nd rfl rfl (sw_true rfl rfl rfl (by decide +kernel)) (pi_list (pe_meth0 (pv 0) T.cl T.mfacts Ff hrf bf .nil pass0)) (blkOk_by (own := [("fact", 6)]) (N := n_pairs) (sc := defScope s_pairs) (by decide +kernel)) (fun _ _ _ _ _ => pg_name (i := 6) nd rfl (by first | exact Or.inl rfl | exact Or.inr rfl)) (fun _ _ _ _ _ => (pts_one (pt_cmpR op_eq (pe_ix (show IxR _ (rIxT K) from ix_tup) (pv 6) pe_int (fun _ _ => rfl)) pe_str (nomark _)))) (fun _ _ _ _ _ => (pe_tup (pa_cons (pe_ix (show IxR _ (rIxT K) from ix_tup) (pv 6) pe_int (fun _ _ => rfl)) (pa_cons (pe_ix (show IxR _ (rIxT K) from ix_tup) (pv 6) pe_int (fun _ _ => rfl)) pa_nil)))))
   (pss_one (ps_ret (pe_lst (StX.pa_star (pv 3) (StX.pa_star (pv 5) pa_nil)))))))))), ?_⟩
    have hdl := b.D.len
    have hd := b.dl
    have bnd : ∀ n, n ≤ 100 → n * (n + 1) ≤ 10100 := fun n hn => Nat.mul_le_mul hn (Nat.succ_le_succ hn)
    have sz : ∀ {vs : List V} {xs : List Pa} {X : Hp}, PrL X vs xs → xs.length ≤ 20000 → vs.length < sizeLine := fun h hl => Evl.sz_lt (by rw [h.len]; omega)
    -- the dips
    refine ⟨_, rfl, ?_⟩
    dsimp only [tNil]
    refine list_book b.B (by omega) fun Lo hLo => ?_
    refine gset ?_
    have e1 : Ext [] H (upd H Lo (.lst ds)) := Ext.new hLo
    have hL1 : (upd H Lo (.lst ds)) Lo = some (.lst ds) := upd_same
    have b1 := b.ext e1
    generalize upd H Lo (.lst ds) = H1 at e1 hL1 b1
    -- the amounts
    refine ⟨_, rfl, p, A.dx, _, rfl, b1.B.ob, fsB_no2 (.inr (.inr (.inl rfl))), p, i, A, k, c, ts, ps, ds, us, d, rfl, b1.B, b1.D, b1.G, fun Oo H2 hOo e2 am => ?_⟩
    refine gset ?_
    dsimp only
    have hL2 := e2.keep _ _ hL1 (by simp)
    have b2 := b1.ext e2
    replace e2 := e1.trans e2
    clear e1 b1 hL1 hOo hLo
    refine ⟨by show 0 ≤ sizeLine; decide, fun Fo hFo => ?_⟩
    refine gset ?_
    dsimp only
    have e3 : Ext [] H2 (upd H2 Fo (.lst [])) := Ext.new hFo
    have hF3 : (upd H2 Fo (.lst [])) Fo = some (.lst []) := upd_same
    have hFH : H Fo = none := e2.none hFo (by simp)
    have hLF : Lo ≠ Fo := ne_of_none hL2 hFo
    have hOF : Oo ≠ Fo := by
      obtain ⟨_, h1, _⟩ := am
      exact ne_of_none h1 hFo
    have am3 := am.ext e3 (by simp)
    have b3 := b2.ext e3
    have hL3 := e3.keep _ _ hL2 (by simp)
    replace e3 := e2.trans e3
    generalize upd H2 Fo (.lst []) = H3 at e3 hF3 am3 b3 hL3
    clear e2 b2 hL2 am hFo
    have nF : ∀ x ∈ A.all p, x ≠ Fo := fun x hx h => by
      have : H x ≠ none := by
        have B := b.B
        simp only [Bk.all, List.mem_cons, List.not_mem_nil, or_false] at hx
        rcases hx with rfl | rfl | rfl | rfl | rfl | rfl | rfl
        · rw [B.ob]; simp
        · rw [B.dk]; simp
        · rw [B.lt]; simp
        · rw [B.lp]; simp
        · rw [B.dc]; simp
        · rw [B.ld]; simp
        · rw [B.lf]; simp
      exact this (by rw [h]; exact hFH)
    have BB : ∀ {X : Hp}, Ext [Fo] H3 X → BkI (cB K) X p i A k t ps c d fs ts ds us := fun e =>
      ⟨b3.B.ext e fun x hx => by simpa using nF x hx, b3.T.ext e, b3.D.ext e, b3.F.ext e, b.G, b.nl, b.dl, b.fl, b.tl, b.fo⟩
    refine ⟨_, rfl, Lo, _, rfl, .inl (SqL.of hL3), (ds.length : Int), rfl, by omega, by omega, for_range (n := (ds.length : Int).toNat) (fun j σ' H' => ∃ x4, σ' = [some (.ref p), some (.ref Lo), some (.ref Oo), some (.ref Fo), x4, none, none] ∧ Ext [Fo] H3 H' ∧ ∃ vs, H' Fo = some (.lst vs) ∧ PrL H' vs (stepsD k t c d j)) ⟨none, rfl, Ext.refl, [], hF3, PrL.nil⟩ ?_ ?_⟩
    · rintro j σ' H' hj ⟨x4, rfl, e, vs, hFv, PL⟩
      have hj' : j < d.length := by omega
      obtain ⟨rj, hrj⟩ : ∃ r, d[j]? = some r := ⟨_, List.getElem?_eq_getElem hj'⟩
      have hb1 := stepsD_len (k := k) (t := t) (c := c) (d := d) j
      have hb2 := bnd j (by omega)
      have hb3 := fallsD_len (t := t) (c := c) (d := d) (j := j) j
      have hst : stepsD k t c d (j + 1) = (stepsD k t c d j ++ fallsD t c d j j) ++ bleedD k c d j := rfl
      have b4 := BB e
      refine gset ?_
      dsimp only
      rw [show (0 : Int) + (j : Int) = (j : Int) from Int.zero_add _]
      refine ⟨_, rfl, .inl ⟨rfl, _, SqL.of hFv⟩, _, rfl, _, rfl, _, rfl, p, Lo, i, A, k, t, c, ts, ps, ds, us, d, j, rfl, b4.B, e.keep _ _ hL3 (by simpa using hLF), b4.T, b.tl, b4.D, b.G, b.nl, hj', hd, fun l H4 ws hl e4 hw PLw => ?_⟩
      have hFv4 := e4.keep _ _ hFv (by simp)
      have sz1 : vs.length + ws.length ≤ sizeLine := by
        have h1 := PL.len
        have h2 := PLw.len
        have := Evl.sz_lt (show vs.length + ws.length < 100000 by omega)
        omega
      refine ⟨Fo, l, vs, ws, rfl, rfl, hFv4, hw, sz1, ?_⟩
      have e5 := (e.trans e4.nil).trans (ext_lst (ws := vs ++ ws) hFv4)
      have hF5 : (upd H4 Fo (.lst (vs ++ ws))) Fo = some (.lst (vs ++ ws)) := upd_same
      have P5 : PrL (upd H4 Fo (.lst (vs ++ ws))) (vs ++ ws) (stepsD k t c d j ++ fallsD t c d j j) := ((PL.ext e4).ext (ext_lst hFv4)).app (PLw.ext (ext_lst hFv4))
      generalize upd H4 Fo (.lst (vs ++ ws)) = H5 at e5 hF5 P5
      have am5 := am3.ext e5 (by simpa using hOF)
      -- is there a leave
      refine ⟨_, rfl, by show 2 ≤ sizeLine; decide, fun u hu => ?_⟩
      have e6 : Ext [] H5 (upd H5 u (.tup [.str "leave", .int (j : Int)])) := Ext.new hu
      have am6 := am5.ext e6 (by simp)
      have hu6 : isAmt (upd H5 u (.tup [.str "leave", .int (j : Int)])) u (("leave" : Str), j) := upd_same
      have hF6 := e6.keep _ _ hF5 (by simp)
      have P6 := P5.ext e6
      replace e6 := e5.trans e6.nil
      generalize upd H5 u (.tup [.str "leave", .int (j : Int)]) = H6 at e6 am6 hu6 hF6 P6
      have hw6 := fun q hq => amtD_word (k := k) (c := c) (d := d) d.length q hq
      refine ⟨_, rfl, dAmt (("leave" : Str), j), _, (isAmt.im hu6).dp, am6.dp, (okD_amt okS_leave).shaped, sh_amts (fun q hq => okS_wd (hw6 q hq)), _, rfl, ?_⟩
      rw [any_amt]
      refine ifd (fun hm => ?_) (fun hm => ?_)
      · have hb := (leave_mem d.length hj').mp hm
        obtain ⟨qq, m, hq1, hpm⟩ := leave_prev hb
        have hbl : bleedD k c d j = [((("take" : Str), m), (("leave" : Str), j))] := by
          unfold bleedD
          rw [if_pos hb, hq1]
          show (match prevD d qq.1 j with | some m => [((("take" : Str), m), (("leave" : Str), j))] | none => []) = _
          rw [hpm]
        have b6 := BB e6
        refine ⟨_, rfl, .inl ⟨rfl, _, SqL.of hF6⟩, _, rfl, p, A.dx, _, rfl, b6.B.ob, fsB_no2 (.inl rfl), _, rfl, p, .int (j : Int), i, A, _, _, _, _, _, _, d, rfl, .int _, b6.B, b6.D, by omega, fun hb => absurd (show (0 : Int) ≤ (j : Int) ∧ (j : Int) ≤ (d.length : Int) - 1 by omega) hb, fun n' q' en hq' H7 e7 => ?_⟩
        have en' : (j : Int) = (n' : Int) := by injection en
        have en2 : n' = j := by omega
        subst en2
        rw [hq1] at hq'
        cases hq'
        rw [hpm]
        refine ⟨by show 2 ≤ sizeLine; decide, fun u1 h1 => ⟨_, rfl, by show 2 ≤ sizeLine; decide, fun u2 h2 => ⟨by show 2 ≤ sizeLine; decide, fun u3 h3 => ?_⟩⟩⟩
        obtain ⟨e8, hp8⟩ := new_pr (q := ((("take" : Str), m), (("leave" : Str), n'))) h1 h2 h3
        have hF8 := e8.keep _ _ (e7.keep _ _ hF6 (by simp)) (by simp)
        refine ⟨Fo, _, _, rfl, rfl, hF8, sz P6 (by rw [List.length_append]; omega), _, rfl, ((e6.trans e7.nil).trans e8.nil).trans (ext_lst hF8), _, upd_same, ?_⟩
        rw [hst, hbl]
        exact ((P6.ext e7).ext e8).push hF8 hp8
      · have hb : leaveD k c d j = false := by
          cases hb : leaveD k c d j with
          | false => rfl
          | true => exact absurd ((leave_mem d.length hj').mpr hb) hm
        have hbl : bleedD k c d j = [] := by
          unfold bleedD
          rw [hb, if_neg Bool.false_ne_true]
        exact ⟨_, rfl, e6, _, hF6, by rw [hst, hbl, List.append_nil]; exact P6⟩
    rintro σ' H4 ⟨x4, rfl, e4, vs, hFv, PL⟩
    rw [show (ds.length : Int).toNat = d.length by omega] at PL
    have b4 := BB e4
    have e4' := e3.over e4 hFH
    have hb1 := stepsD_len (k := k) (t := t) (c := c) (d := d) d.length
    have hb2 := bnd d.length hd
    have hbt := toldD_len (fs := fs)
    have hfl := b.fl
    -- the told ones
    refine ⟨_, rfl, p, A.dx, _, rfl, b4.B.ob, fsB_no3 (.inl rfl), p, i, A, _, _, _, _, _, _, rfl, b4.B, fun fo hfo => ?_⟩
    have e5 : Ext [] H4 (upd H4 fo (.lst us)) := Ext.new hfo
    have hfo5 : (upd H4 fo (.lst us)) fo = some (.lst us) := upd_same
    have hF5 := e5.keep _ _ hFv (by simp)
    have P5 := PL.ext e5
    have U5 := b4.F.ext e5
    replace e5 := e4'.trans e5
    generalize upd H4 fo (.lst us) = H5 at e5 hfo5 hF5 P5 U5
    refine ⟨fo, rfl, ⟨_, SqL.of hfo5⟩, fun To hTo => lc_list (xs := us) (fun i H' => Ext [] H5 H' ∧ ∃ ws, H' To = some (.lst ws) ∧ PrL H' ws (toldD (fs.take i))) ⟨Ext.new hTo, [], upd_same, by rw [List.take_zero]; exact PrL.nil⟩ ?_ ?_ ?_⟩
    · rintro i H' _ ⟨e, _⟩
      exact SqL.of (e.keep _ _ hfo5 (by simp))
    · rintro i v H' hv ⟨e, ws, hW, PW⟩
      obtain ⟨u, f, rfl, hfi, hfu⟩ := (U5.ext e).get hv
      have htk := take_snoc hfi
      have hb4 := toldD_len (fs := fs.take i)
      rw [List.length_take] at hb4
      refine ⟨wipe1, ?_⟩
      cases f with
      | tell x y =>
        obtain ⟨ax, ay, f1, f2, f3⟩ := hfu
        refine ⟨_, rfl, u, _, 0, _, rfl, rfl, .inl (.inl f1), rfl, rfl, _, rfl, ?_⟩
        refine ifd (fun _ => ?_) (fun h => absurd rfl h)
        refine ⟨_, rfl, u, _, 1, _, rfl, rfl, .inl (.inl f1), rfl, _, rfl, u, _, 2, _, rfl, rfl, .inl (.inl f1), rfl, by show 2 ≤ sizeLine; decide, fun w hw => ?_⟩
        have e6 : Ext [] H' (upd H' w (.tup [.ref ax, .ref ay])) := Ext.new hw
        have hW6 := e6.keep _ _ hW (by simp)
        refine ⟨ws, hW6, sz PW (by omega), (e.trans e6).fresh hTo, _, upd_same, ?_⟩
        rw [htk, toldD_app]
        exact (PW.ext e6).push (q := (x, y)) hW6 ⟨ax, ay, upd_same, e6.tups _ _ f2, e6.tups _ _ f3⟩
      | some x =>
        obtain ⟨ax, f1, f2⟩ := hfu
        refine ⟨_, rfl, u, _, 0, _, rfl, rfl, .inl (.inl f1), rfl, rfl, _, rfl, ?_⟩
        refine ifd (fun h => absurd h (by decide +kernel)) (fun _ => ?_)
        refine ⟨e, ws, hW, ?_⟩
        rw [htk, toldD_app, show toldD [Fk.some x] = [] from rfl, List.append_nil]
        exact PW
    · rintro H6 ⟨e6, ws, hW, PW⟩
      rw [b.F.len, List.take_of_length_le (Nat.le_refl _)] at PW
      have hF6 := e6.keep _ _ hF5 (by simp)
      have P6 := P5.ext e6
      have hfin : (vs ++ (ws ++ [])).length ≤ sizeLine := by
        rw [List.append_nil, List.length_append, P6.len, PW.len]
        have := Evl.sz_lt (show (stepsD k t c d d.length).length + (toldD fs).length < 100000 by omega)
        omega
      refine ⟨_, rfl, Fo, vs, rfl, .inr (SqL.of hF6), _, rfl, To, ws, rfl, .inr (SqL.of hW), hfin, fun l hl => ?_⟩
      have e7 : Ext [] H6 (upd H6 l (.lst (vs ++ (ws ++ [])))) := Ext.new hl
      refine q l _ ((e5.trans e6).none hl (by simp)) ((e5.trans e6).trans e7) ⟨_, upd_same, ?_⟩
      rw [List.append_nil] at e7 ⊢
      exact (P6.app PW).ext e7
end

end K18
namespace K18
open PySem PySem.Spec PyProof.Rows L2 He Tp ClX LiI

section
variable {P : Program} {w : World} {K : PySem.W.Frag} {mg : Str → Option Value} {base : Heap}
def spToldThere (C : Addr) : Sp := fun vs H Q _ => ∃ p i A k t ps c d fs ts ds us, vs = [.ref p] ∧ BkI C H p i A k t ps c d fs ts ds us ∧ ∀ l H', H l = none → Ext [] H H' → AmtAt H' l (thereD k c d fs) → Q (.ref l) H'
theorem ok_told_there (T : Txt K mg) : Df P w K mg base CX0 7 "told_there" ["book"] (spToldThere (cB K)) := by
  have D__is_loose := ok_is_loose (P := P) (w := w) (base := base) T
  obtain ⟨fa, fa_⟩ := T.famounts
  obtain ⟨ff, ff_⟩ := T.ffacts
  obtain ⟨fl, fl_⟩ := T.f__len__
  obtain ⟨ft, ft_⟩ := T.f__iter__
  have Fa := ok_amounts (P := P) (w := w) (base := base) T fa_
  have Ff := ok_facts (P := P) (w := w) (base := base) T ff_
  have Fl0 := ok_blen (P := P) (w := w) (base := base) T fl_
  have Fit0 := ok_biter (P := P) (w := w) (base := base) T ft_
  have ba : Binds K fa ["self"] [] := fa_.bindsN (fun _ _ _ _ _ _ us hl => match us, hl with | [_], _ => rfl)
  have bf : Binds K ff ["self"] [] := ff_.bindsN (fun _ _ _ _ _ _ us hl => match us, hl with | [_], _ => rfl)
  have bl : Binds K fl ["self"] [] := fl_.bindsN (fun _ _ _ _ _ _ us hl => match us, hl with | [_], _ => rfl)
  have bit : Binds K ft ["self"] [] := ft_.bindsN (fun _ _ _ _ _ _ us hl => match us, hl with | [_], _ => rfl)
  have ol : OwnLn K (cB K) (ma K (cB K) "__len__") := ⟨T.m__len__.at_, T.m__len__.fn⟩
  have oi : OwnIt K (cB K) (ma K (cB K) "__iter__") := ⟨T.m__iter__.at_, T.m__iter__.fn⟩
  refine Df.mk' T.gtold_there T.ftold_there (fun _ _ _ _ _ _ us hl => match us, hl with | [_], _ => rfl) fun fd F => F.ok sc_told_there (fun vs H Q E h => ?_) (fun cdv A outer s H vs Q E hr h => ?_)
  · obtain ⟨p, i, A, k, t, ps, c, d, fs, ts, ds, us, rfl, _⟩ := h
    rfl
  · obtain ⟨p, i, A, k, t, ps, c, d, fs, ts, ds, us, rfl, b, q⟩ := h
    have nd := sc_told_there.nd
    have hu65 := hu65_of hr
    have hra := hr
    have hrf := hr.mono (show 1 ≤ 6 by decide)
    have hrl := hr.mono (show 1 + 3 ≤ 6 by decide)
    have hr__is_loose := hr.mono (show 5 ≤ 6 by decide)
    refine ⟨_, PSs.nox (pss_cons (ps_set (i := 1) nd rfl (by first | exact Or.inl rfl | exact Or.inr rfl) (pe_callTy (call_listIt rfl oi ol Fit0 Fl0 bit bl hrl) (by rfl) T.blist (by decide +kernel) (pa_cons (pv 0) pa_nil)))
   (pss_cons (ps_set (i := 2) nd rfl (by first | exact Or.inl rfl | exact Or.inr rfl) (pe_lc (own := [("fact", 3)]) (g := gName 3) (by rfl) nd (pi_list (pe_meth0 (pv 0) T.cl T.mfacts Ff hrf bf .nil pass0)) (blkOk_by (own := [("fact", 3)]) (N := n_told_there) (sc := defScope s_told_there) (by decide +kernel)) (fun _ _ _ _ _ => pg_name (i := 3) nd rfl (by first | exact Or.inl rfl | exact Or.inr rfl)) (fun _ _ _ _ _ => (pts_one (pt_cmpR op_eq (pe_ix (show IxR _ (rIxT K) from ix_tup) (pv 3) pe_int (fun _ _ => rfl)) pe_str (nomark _)))) (fun _ _ _ _ _ => (pe_ix (show IxR _ (rIxT K) from ix_tup) (pv 3) pe_int (fun _ _ => rfl)))))
   (pss_one (ps_ret (pe_lc (own := [("amount", 4)]) (g := gName 4) (by rfl) nd (pi_list (pe_meth0 (pv 0) T.cl T.mamounts Fa hra ba .nil pass0)) (blkOk_by (own := [("amount", 4)]) (N := n_told_there) (sc := defScope s_told_there) (by decide +kernel)) (fun _ _ _ _ _ => pg_name (i := 4) nd rfl (by first | exact Or.inl rfl | exact Or.inr rfl)) (fun _ _ _ _ _ => (pts_one (PW.pt (pw_or (pt_cmpR (show OpR _ (compareOp .In) (rInD K) from op_inD hu65) (pv 4) (pv 2) (by rfl)) (pw_or1 (pt_val (show PE _ _ (tCall (spLoose (cB K)) [] _ _) from pe_cd D__is_loose hr__is_loose (by rfl) pass0 (pa_cons (pv 0) (pa_cons (pv 1) (pa_cons (pv 4) pa_nil)))))))))) (fun _ _ _ _ _ => (pv 4))))))), ?_⟩
    have hdl := b.D.len
    have hd := b.dl
    have hfl := b.fl
    -- the dips
    refine ⟨_, rfl, ?_⟩
    dsimp only [tNil]
    refine list_book b.B (by omega) fun Lo hLo => ?_
    refine gset ?_
    have e1 : Ext [] H (upd H Lo (.lst ds)) := Ext.new hLo
    have hL1 : (upd H Lo (.lst ds)) Lo = some (.lst ds) := upd_same
    have b1 := b.ext e1
    generalize upd H Lo (.lst ds) = H1 at e1 hL1 b1
    -- those told to be there
    refine ⟨_, rfl, p, A.dx, _, rfl, b1.B.ob, fsB_no3 (.inl rfl), p, i, A, _, _, _, _, _, _, rfl, b1.B, fun fo hfo => ?_⟩
    have e2 : Ext [] H1 (upd H1 fo (.lst us)) := Ext.new hfo
    have hfo2 : (upd H1 fo (.lst us)) fo = some (.lst us) := upd_same
    have b2 := b1.ext e2
    have hL2 := e2.keep _ _ hL1 (by simp)
    replace e2 := e1.trans e2
    generalize upd H1 fo (.lst us) = H2 at e2 hfo2 b2 hL2
    clear e1 b1 hL1 hLo hfo
    refine ⟨fo, rfl, ⟨_, SqL.of hfo2⟩, fun So hSo => lc_list (xs := us) (fun i H' => Ext [] H2 H' ∧ AmtAt H' So (someD (fs.take i))) ⟨Ext.new hSo, [], upd_same, by rw [List.take_zero]; exact .nil⟩ ?_ ?_ ?_⟩
    · rintro i H' _ ⟨e, _⟩
      exact SqL.of (e.keep _ _ hfo2 (by simp))
    · rintro i v H' hv ⟨e, am⟩
      obtain ⟨u, f, rfl, hfi, hfu⟩ := (b2.F.ext e).get hv
      have htk := take_snoc hfi
      have hb4 := someD_len (fs := fs.take i)
      rw [List.length_take] at hb4
      refine ⟨wipe1, ?_⟩
      cases f with
      | some x =>
        obtain ⟨ax, f1, f2⟩ := hfu
        obtain ⟨xs, hxs, hxl⟩ := am.lst
        refine ⟨_, rfl, u, _, 0, _, rfl, rfl, .inl (.inl f1), rfl, rfl, _, rfl, ?_⟩
        refine ifd (fun _ => ?_) (fun h => absurd rfl h)
        refine ⟨_, rfl, u, _, 1, _, rfl, rfl, .inl (.inl f1), rfl, xs, hxs, Evl.sz_lt (by omega), e.fresh hSo, ?_⟩
        rw [htk, someD_app]
        exact am.pushU (q := x) hxs f2
      | tell x y =>
        obtain ⟨ax, ay, f1, f2, f3⟩ := hfu
        refine ⟨_, rfl, u, _, 0, _, rfl, rfl, .inl (.inl f1), rfl, rfl, _, rfl, ?_⟩
        refine ifd (fun h => absurd h (by decide +kernel)) (fun _ => ?_)
        refine ⟨e, ?_⟩
        rw [htk, someD_app, show someD [Fk.tell x y] = [] from rfl, List.append_nil]
        exact am
    rintro H3 ⟨e3, sm⟩
    rw [b.F.len, List.take_of_length_le (Nat.le_refl _)] at sm
    have b3 := b2.ext e3
    have hL3 := e3.keep _ _ hL2 (by simp)
    replace e3 := e2.trans e3
    clear e2 b2 hL2 hSo hfo2
    -- the amounts
    refine ⟨_, rfl, p, A.dx, _, rfl, b3.B.ob, fsB_no2 (.inr (.inr (.inl rfl))), p, i, A, k, c, ts, ps, ds, us, d, rfl, b3.B, b3.D, b3.G, fun Oo H4 hOo e4 am => ?_⟩
    have sm4 := sm.ext e4 (by simp)
    have b4 := b3.ext e4
    have hL4 := e4.keep _ _ hL3 (by simp)
    replace e4 := e3.trans e4
    clear e3 b3 hL3 sm hOo
    obtain ⟨as, ha, hp⟩ := am
    have hal := amt_len hp
    have hb := amtD_len (k := k) (c := c) (d := d) d.length
    have hw6 := fun q hq => amtD_word (k := k) (c := c) (d := d) d.length q hq
    refine ⟨Oo, rfl, ⟨_, SqL.of ha⟩, fun Fo hFo => lc_list (xs := as.map V.ref) (fun i H' => Ext [] H4 H' ∧ AmtAt H' Fo (((amtD k c d d.length).take i).filter (thereB k c d fs))) ⟨Ext.new hFo, [], upd_same, by rw [List.take_zero]; exact .nil⟩ ?_ ?_ ?_⟩
    · rintro i H' _ ⟨e, _⟩
      exact SqL.of (e.keep _ _ ha (by simp))
    · rintro m v H' hv ⟨e, am⟩
      rw [List.getElem?_map] at hv
      obtain ⟨u, hu, rfl⟩ := Option.map_eq_some_iff.mp hv
      obtain ⟨q0, hq, hT⟩ := amt_at hp hu
      have hT1 := e.tups _ _ hT
      have hmem := List.mem_of_getElem? hq
      have hlt := amtD_lt _ _ hmem
      have hok := amtD_ok _ _ hmem
      have b5 := b4.ext e
      have htk : ((amtD k c d d.length).take (m + 1)).filter (thereB k c d fs) = ((amtD k c d d.length).take m).filter (thereB k c d fs) ++ (if thereB k c d fs q0 = true then [q0] else []) := by
        rw [take_snoc hq, filter_snoc]
      obtain ⟨xs, hFx, hxl⟩ := am.lst
      have hfl := List.length_filter_le (thereB k c d fs) ((amtD k c d d.length).take m)
      rw [List.length_take] at hfl
      have hsz : xs.length < sizeLine := Evl.sz_lt (by omega)
      have yes : thereB k c d fs q0 = true → AmtAt (upd H' Fo (.lst (xs ++ [.ref u]))) Fo (((amtD k c d d.length).take (m + 1)).filter (thereB k c d fs)) := fun hb => by
        rw [htk, if_pos hb]
        exact am.pushU hFx hT1
      have no : thereB k c d fs q0 = false → AmtAt H' Fo (((amtD k c d d.length).take (m + 1)).filter (thereB k c d fs)) := fun hb => by
        rw [htk, hb, if_neg Bool.false_ne_true, List.append_nil]
        exact am
      have hth : thereB k c d fs q0 = (decide (Fk.some q0 ∈ fs) || looseB k c d q0) := rfl
      have hsm : decide (q0 ∈ someD fs) = decide (Fk.some q0 ∈ fs) := by
        rw [Bool.eq_iff_iff, decide_eq_true_eq, decide_eq_true_eq]
        exact someD_mem
      refine ⟨wipe1, ?_⟩
      refine ⟨_, rfl, _, rfl, dAmt q0, (someD fs).map dAmt, (isAmt.im hT1).dp, (sm4.ext e (by simp)).dp, (okD_amt hok).shaped, sh_amts (someD_ok b.fo), _, rfl, ?_⟩
      rw [any_amt, hsm]
      refine ifd (fun h1 => ?_) (fun h1 => ?_)
      · refine iteT ?_
        exact ⟨_, rfl, xs, hFx, hsz, e.fresh hFo, yes (by rw [hth, decide_eq_true h1, Bool.true_or])⟩
      · rw [decide_eq_false h1, Bool.false_or] at hth
        refine ⟨_, rfl, _, rfl, _, rfl, p, Lo, u, q0, i, A, k, c, ts, ps, ds, us, d, rfl, b5.B, e.keep _ _ hL4 (by simp), b5.D, b5.G, b5.nl, hT1, hlt, _, rfl, ?_⟩
        refine ifb (fun h2 => ?_) (fun h2 => ?_)
        · exact ⟨_, rfl, xs, hFx, hsz, e.fresh hFo, yes (by rw [hth, h2])⟩
        · exact ⟨e, no (by rw [hth, h2])⟩
    · rintro H' ⟨e, am⟩
      rw [List.length_map, hal, List.take_of_length_le (Nat.le_refl _)] at am
      exact q Fo H' (e4.none hFo (by simp)) (e4.trans e) am
end

end K18
namespace K18
open PySem PySem.Spec PyProof.Rows L2 He Tp ClX LiI

section
variable {P : Program} {w : World} {K : PySem.W.Frag} {mg : Str → Option Value} {base : Heap}
theorem b_add_kind0 {fd : FuncData} (F : FnM K "Book" "add_kind" "Book.add_kind" s_Book_add_kind [("hold", .str "unsure")] fd) : ∃ ds, Vals [V.str "unsure"] ds ∧ Binds K fd ["self", "name", "hold"] ds :=
  F.binds0 2 (by simp) rfl (fun D doc pm an cdv ct us ks h1 h2 => match us, ks, h1, h2 with | [_, _], [_], _, _ => ⟨_, _, _, _, _, _, rfl, rfl, rfl⟩)
theorem b_add_kindK {fd : FuncData} (F : FnM K "Book" "add_kind" "Book.add_kind" s_Book_add_kind [("hold", .str "unsure")] fd) : ∃ mv : List Value, KBn K fd ["self", "name", "hold"] 2 ["hold"] (fun us ws => us ++ ws) (fun vs zs => vs ++ zs) :=
  F.kbinds0 2 ["hold"] [] (fun us mv ws => us ++ ws) (by simp) (by simp) (fun r1 r2 r3 => r1.append r3) (fun D doc pm an cdv ct us mv ws h1 h2 h3 => match us, ws, h1, h3 with | [_, _], [_], _, _ => rfl)
theorem b_init {fd : FuncData} (F : FnM K "Book" "__init__" "Book.__init__" s_Book___init__ [("bound", .int 24)] fd) : ∃ ds, Vals [V.int 24] ds ∧ Binds K fd ["self", "bound"] ds :=
  F.binds0 1 (by simp) rfl (fun D doc pm an cdv ct us ks h1 h2 => match us, ks, h1, h2 with | [_], [_], _, _ => ⟨_, _, _, _, _, _, rfl, rfl, rfl⟩)
def spBuild2 (K : PySem.W.Frag) (C : Addr) : Sp := fun vs H Q _ => ∃ (a : Mad) (most : Nat) (k t : List (Str × Str)) (p : List Str) (c d : List (Str × Str)) (us : List V) (fs : List Fk), vs = [.ref a.M] ∧ most ≤ 24 ∧ Good most k t p c d ∧ MdAt H a k t p c d us ∧ FL H us fs ∧ (∀ f ∈ fs, inA (amtD k c d d.length) f) ∧ fs.length ≤ 32 ∧
  ∀ b A ts ds us' H', Ext [] H H' → (∀ x ∈ A.all b, H x = none) → BkI C H' b 24 A k t p c d fs ts ds us' → Q (.ref b) H'
theorem ok_build2 (T : Txt K mg) : Df P w K mg base CX0 9 "_law_build" ["_law_model_here"] (spBuild2 K (cB K)) := by
  obtain ⟨ftl, ftl_⟩ := T.ftell
  obtain ⟨fts, fts_⟩ := T.ftell_some
  have Ftl := ok_tell (P := P) (w := w) (base := base) T ftl_
  have Fts := ok_tell_some (P := P) (w := w) (base := base) T fts_
  have btl : Binds K ftl ["self", "more", "less"] [] := ftl_.bindsN (fun _ _ _ _ _ _ us hl => match us, hl with | [_, _, _], _ => rfl)
  have bts : Binds K fts ["self", "amount"] [] := fts_.bindsN (fun _ _ _ _ _ _ us hl => match us, hl with | [_, _], _ => rfl)
  obtain ⟨fi, fi_⟩ := T.fInit
  obtain ⟨fk, fk_⟩ := T.fadd_kind
  obtain ⟨ft, ft_⟩ := T.fadd_thirst
  obtain ⟨fp, fp_⟩ := T.fadd_pot
  obtain ⟨fc, fc_⟩ := T.fadd_cloth
  obtain ⟨fd', fd_⟩ := T.fdip
  have Fi := ok_init (P := P) (w := w) (base := base) T fi_
  have Fk := ok_add_kind (P := P) (w := w) (base := base) T fk_
  have Ft := ok_add_thirst (P := P) (w := w) (base := base) T ft_
  have Fp := ok_add_pot (P := P) (w := w) (base := base) T fp_
  have Fc := ok_add_cloth (P := P) (w := w) (base := base) T fc_
  have Fd := ok_dip (P := P) (w := w) (base := base) T fd_
  obtain ⟨dsi, bi⟩ := b_init fi_
  obtain ⟨dsk, bk0⟩ := b_add_kind0 fk_
  obtain ⟨_, bkK⟩ := b_add_kindK fk_
  have bt : Binds K ft ["self", "more", "less"] [] := ft_.bindsN (fun _ _ _ _ _ _ us hl => match us, hl with | [_, _, _], _ => rfl)
  have bp : Binds K fp ["self", "name"] [] := fp_.bindsN (fun _ _ _ _ _ _ us hl => match us, hl with | [_, _], _ => rfl)
  have bc : Binds K fc ["self", "name", "kind"] [] := fc_.bindsN (fun _ _ _ _ _ _ us hl => match us, hl with | [_, _, _], _ => rfl)
  have bd : Binds K fd' ["self", "cloth", "pot"] [] := fd_.bindsN (fun _ _ _ _ _ _ us hl => match us, hl with | [_, _, _], _ => rfl)
  refine Df.mk' T.g_law_build T.f_law_build (fun _ _ _ _ _ _ us hl => match us, hl with | [_], _ => rfl) fun fd F => F.ok sc__law_build (fun vs H Q E h => ?_) (fun cdv A outer s H vs Q E hr h => ?_)
  · obtain ⟨a, most, k, t, p, c, d, us, fs, rfl, _⟩ := h
    rfl
  · obtain ⟨a, most, k, t, p, c, d, us, fs, rfl, hm, G, M, hF, hin, hf32, q⟩ := h
    have nd := sc__law_build.nd
    have hrm := hr.mono (show 4 ≤ 8 by decide)
    have hri := hr.mono (show 5 ≤ 8 by decide)
    refine ⟨_, PSs.nox
   (pss_cons (ps_set (i := 1) nd rfl (by first | exact Or.inl rfl | exact Or.inr rfl) (pe_make0 T.mk_ Fi hri (by rfl) T.gBook bi.2 bi.1 passL))
   (pss_cons (ps_for PassesOwn.never rfl (pi_list (pe_ix ix_list (pv 0) pe_int (fun _ _ => rfl))) (pg_tup (by rfl) (pgs_cons (pg_name (i := 2) nd rfl (by first | exact Or.inl rfl | exact Or.inr rfl)) (pgs_cons (pg_name (i := 3) nd rfl (by first | exact Or.inl rfl | exact Or.inr rfl)) pgs_nil)))
   (pss_one (ps_if (pt_cmpR op_eq (pv 3) pe_str (nomark _)) (pss_one (ps_expr (pe_meth (pv 1) T.cl T.madd_kind Fk hrm bk0.2 bk0.1 passL (pa_cons (pv 2) pa_nil)))) (pss_one (ps_expr (pe_methKw (n := 1) (pv 1) T.cl T.madd_kind Fk hrm bkK passL (pa_cons (pv 2) pa_nil) (pk_cons (pv 3) pk_nil)))))))
   (pss_cons (ps_for PassesOwn.never rfl (pi_list (pe_ix ix_list (pv 0) pe_int (fun _ _ => rfl))) (pg_tup (by rfl) (pgs_cons (pg_name (i := 4) nd rfl (by first | exact Or.inl rfl | exact Or.inr rfl)) (pgs_cons (pg_name (i := 5) nd rfl (by first | exact Or.inl rfl | exact Or.inr rfl)) pgs_nil)))
   (pss_one (ps_expr (pe_meth (pv 1) T.cl T.madd_thirst Ft hrm bt .nil passL (pa_cons (pv 4) (pa_cons (pv 5) pa_nil))))))
   (pss_cons (ps_for PassesOwn.never rfl (pi_list (pe_ix ix_list (pv 0) pe_int (fun _ _ => rfl))) (pg_name (i := 2) nd rfl (by first | exact Or.inl rfl | exact Or.inr rfl))
   (pss_one (ps_expr (pe_meth (pv 1) T.cl T.madd_pot Fp hrm bp .nil passL (pa_cons (pv 2) pa_nil)))))
   (pss_cons (ps_for PassesOwn.never rfl (pi_list (pe_ix ix_list (pv 0) pe_int (fun _ _ => rfl))) (pg_tup (by rfl) (pgs_cons (pg_name (i := 2) nd rfl (by first | exact Or.inl rfl | exact Or.inr rfl)) (pgs_cons (pg_name (i := 6) nd rfl (by first | exact Or.inl rfl | exact Or.inr rfl)) pgs_nil)))
   (pss_one (ps_expr (pe_meth (pv 1) T.cl T.madd_cloth Fc hrm bc .nil passL (pa_cons (pv 2) (pa_cons (pv 6) pa_nil))))))
   (pss_cons (ps_for PassesOwn.never rfl (pi_list (pe_ix ix_list (pv 0) pe_int (fun _ _ => rfl))) (pg_tup (by rfl) (pgs_cons (pg_name (i := 7) nd rfl (by first | exact Or.inl rfl | exact Or.inr rfl)) (pgs_cons (pg_name (i := 8) nd rfl (by first | exact Or.inl rfl | exact Or.inr rfl)) pgs_nil)))
   (pss_one (ps_expr (pe_meth (pv 1) T.cl T.mdip Fd hrm bd .nil passL (pa_cons (pv 7) (pa_cons (pv 8) pa_nil))))))
   (pss_cons (ps_for PassesOwn.never rfl (pi_list (pe_ix ix_list (pv 0) pe_int (fun _ _ => rfl))) (pg_name (i := 9) nd rfl (by first | exact Or.inl rfl | exact Or.inr rfl))
   (pss_one (ps_if (pt_cmpR op_eq (pe_ix ix_tup (pv 9) pe_int (fun _ _ => rfl)) pe_str (nomark _)) (pss_one (ps_expr (pe_meth (pv 1) T.cl T.mtell Ftl hr btl .nil passL (pa_cons (pe_ix ix_tup (pv 9) pe_int (fun _ _ => rfl)) (pa_cons (pe_ix ix_tup (pv 9) pe_int (fun _ _ => rfl)) pa_nil))))) (pss_one (ps_expr (pe_meth (pv 1) T.cl T.mtell_some Fts hr bts .nil passL (pa_cons (pe_ix ix_tup (pv 9) pe_int (fun _ _ => rfl)) pa_nil)))))))
   (pss_one (ps_ret (pv 1)))))))))), ?_⟩
    intro b dx hb hdx hne
    refine ⟨b, dx, .int 24, rfl, .int 24, upd_same, fun hx => absurd (show (0 : Int) ≤ 24 ∧ (24 : Int) ≤ 24 by decide) hx, fun i A H2 hi h0 h24 B hA hAdx e2 => ⟨rfl, ?_⟩⟩
    cases hi
    have em : Ext [] H (upd (upd H dx (.own b)) b (.ins (cB K) dx [])) := (Ext.new hdx).trans (Ext.new (by rw [upd_ne hne.symm]; exact hb))
    have bi0 : BI (cB K) H H2 b A [] [] [] [] [] [] [] := ⟨em.over e2 hb, fun x hx => by
      rcases List.mem_cons.mp hx with rfl | hx
      · exact hb
      · exact em.none (hA x hx) (by simp), B, .nil, .nil⟩
    clear B e2 em hA hAdx h0 h24 hne hdx hb
    have MM : ∀ {X : Hp}, Ext [] H X → MdAt X a k t p c d us := fun e => M.ext e fun _ _ => by simp
    -- kinds
    obtain ⟨as0, ha0, hp0⟩ := M.r0
    have hl0 := paired_len hp0
    have M2 := MM bi0.e
    refine ⟨_, rfl, a.M, _, 0, .ref a.m0, rfl, rfl, SqL.of M2.M, rfl, a.m0, rfl, ⟨_, SqL.of (bi0.e.keep _ _ ha0 (by simp))⟩, for_list (xs := as0.map V.ref) (fun i σ' H' => ∃ x2 x3, σ' = [some (.ref a.M), some (.ref b), x2, x3, none, none, none, none, none, none] ∧ BI (cB K) H H' b A (k.take i) [] [] [] [] [] []) ⟨_, _, rfl, bi0⟩ ?_ ?_ ?_⟩
    · rintro i σ' H' _ ⟨x2, x3, rfl, bi⟩
      exact SqL.of (bi.e.keep _ _ ha0 (by simp))
    · rintro i x σ' H' hx ⟨x2, x3, rfl, bi⟩
      rw [List.getElem?_map] at hx
      obtain ⟨u, hu, rfl⟩ := Option.map_eq_some_iff.mp hx
      obtain ⟨qq, hq, hT⟩ := paired_at hp0 hu
      have hi := (List.getElem?_eq_some_iff.mp hq).1
      have hk8 := G.k8
      have hmem := List.mem_of_getElem? hq
      have hnm := G.kn.nm qq.1 (List.mem_map.mpr ⟨qq, hmem, rfl⟩)
      have hok := G.kn.ok qq.1 (List.mem_map.mpr ⟨qq, hmem, rfl⟩)
      have hho := G.kh qq hmem
      have hnb : qq.1 ∉ ((k.take i).map tv).map (·.1) := by
        rw [mem_tv, List.map_take]
        exact not_before G.kn.nd (by rw [List.getElem?_map, hq]; rfl)
      have hno : refK ((k.take i).map tv) (.str qq.1) (.str qq.2) (holdD (.str qq.2)) = none := by
        rw [hold_yes hho]
        exact refK_ok hnm hnb (by rw [List.length_map, List.length_take]; omega)
      have hlen : ((k.take i).map tv).length ≤ 1000 := by rw [List.length_map, List.length_take]; omega
      have okh : okD (.str qq.2) := okD.str (by rcases hho with h | h | h <;> rw [h] <;> decide +kernel)
      have hp : Ptv K H' (.str qq.1) := .str (by have := nm_len hnm; omega)
      have fin : ∀ H'', Ext [A.dk] H' H'' → BookAt (cB K) H'' b 24 A ((k.take i).map tv ++ [(qq.1, .str qq.2)]) [] [] [] [] [] → BI (cB K) H H'' b A (k.take (i + 1)) [] [] [] [] [] [] := fun H'' e B' => by
        refine ⟨bi.e.over e (bi.f A.dk (by simp)), bi.f, ?_, .nil, .nil⟩
        rw [take_snoc hq, List.map_append]
        exact B'
      refine ⟨u, _, rfl, .inl (.inl (bi.e.tups _ _ hT)), rfl, _, _, rfl, _, _, rfl, rfl, ?_⟩
      refine st_if (ans_eq (val_var rfl) val_c rfl rfl) (fun hb => ?_) (fun hb => ?_)
      · have hq2 : qq.2 = "unsure" := by simpa using hb
        refine ⟨_, rfl, b, A.dx, _, rfl, bi.B.ob, fsB_no (.inl rfl), _, rfl, ?_⟩
        rw [hq2] at hno okh fin
        exact ⟨b, .str qq.1, .str "unsure", .str "unsure", 24, A, _, _, _, _, _, _, rfl, hp, .str _, okh, bi.B, hlen, (fun c t hc => by rw [hno] at hc; cases hc), fun _ H'' e B' => ⟨_, _, rfl, fin H'' e B'⟩⟩
      · refine ⟨_, rfl, b, A.dx, _, rfl, bi.B.ob, fsB_no (.inl rfl), _, rfl, _, rfl, rfl, rfl, ?_⟩
        exact ⟨b, .str qq.1, .str qq.2, .str qq.2, 24, A, _, _, _, _, _, _, rfl, hp, .str _, okh, bi.B, hlen, (fun c t hc => by rw [hno] at hc; cases hc), fun _ H'' e B' => ⟨_, _, rfl, fin H'' e B'⟩⟩
    rintro σ' H3 ⟨x2, x3, rfl, bi1⟩
    rw [List.length_map, hl0, List.take_of_length_le (Nat.le_refl _)] at bi1
    -- thirsts
    obtain ⟨as1, ha1, hp1⟩ := M.r1
    have hl1 := paired_len hp1
    refine ⟨_, rfl, a.M, _, 1, .ref a.m1, rfl, rfl, SqL.of (MM bi1.e).M, rfl, a.m1, rfl, ⟨_, SqL.of (bi1.e.keep _ _ ha1 (by simp))⟩, for_list (xs := as1.map V.ref) (fun i σ' H' => ∃ ts x4 x5, σ' = [some (.ref a.M), some (.ref b), x2, x3, x4, x5, none, none, none, none] ∧ BI (cB K) H H' b A k (t.take i) [] [] [] ts []) ⟨[], _, _, rfl, bi1⟩ ?_ ?_ ?_⟩
    · rintro i σ' H' _ ⟨ts, x4, x5, rfl, bi⟩
      exact SqL.of (bi.e.keep _ _ ha1 (by simp))
    · rintro i x σ' H' hx ⟨ts, x4, x5, rfl, bi⟩
      rw [List.getElem?_map] at hx
      obtain ⟨u, hu, rfl⟩ := Option.map_eq_some_iff.mp hx
      obtain ⟨qq, hq, hT⟩ := paired_at hp1 hu
      have hi := (List.getElem?_eq_some_iff.mp hq).1
      have ht3 := G.t3
      have hmem := G.tk qq (List.mem_of_getElem? hq)
      have hts : ts.length ≤ 3 := by rw [bi.T.len, List.length_take]; omega
      have hk1 : knownK (k.map tv) (.str qq.1) = true := decide_eq_true (mem_tv.mpr hmem.1)
      have hk2 : knownK (k.map tv) (.str qq.2) = true := decide_eq_true (mem_tv.mpr hmem.2)
      have hno : refT (k.map tv) ts.length (.str qq.1) (.str qq.2) = none := by rw [refT_3 hk1 hk2, if_neg (by omega)]
      have lens : ∀ z ∈ k.map (·.1), z.length ≤ 1000 := fun z hz => by have := nm_len (G.kn.nm z hz); omega
      refine ⟨u, _, rfl, .inl (.inl (bi.e.tups _ _ hT)), rfl, _, _, rfl, _, _, rfl, rfl, ?_⟩
      refine ⟨_, rfl, b, A.dx, _, rfl, bi.B.ob, fsB_no (.inr (.inr (.inr (.inr (.inr (.inr (.inr (.inr rfl)))))))), _, rfl, _, rfl, ?_⟩
      refine ⟨b, .str qq.1, .str qq.2, 24, A, _, _, _, _, _, _, rfl, .str (lens _ hmem.1), fun _ _ => .str (lens _ hmem.2), bi.B, by omega, (fun c t hc => by rw [hno] at hc; cases hc), fun _ H'' w e hw hT' B' => ⟨_, _, _, rfl, bi.e.over e (bi.f A.lt (by simp)), bi.f, B', ?_, .nil⟩⟩
      rw [take_snoc hq]
      exact (bi.T.ext e).snoc hT'
    rintro σ' H4 ⟨ts, x4, x5, rfl, bi2⟩
    rw [List.length_map, hl1, List.take_of_length_le (Nat.le_refl _)] at bi2
    -- pots
    have ha2 := M.r2
    refine ⟨_, rfl, a.M, _, 2, .ref a.m2, rfl, rfl, SqL.of (MM bi2.e).M, rfl, a.m2, rfl, ⟨_, SqL.of (bi2.e.keep _ _ ha2 (by simp))⟩, for_list (xs := p.map V.str) (fun i σ' H' => ∃ x2, σ' = [some (.ref a.M), some (.ref b), x2, x3, x4, x5, none, none, none, none] ∧ BI (cB K) H H' b A k t (p.take i) [] [] ts []) ⟨_, rfl, bi2⟩ ?_ ?_ ?_⟩
    · rintro i σ' H' _ ⟨x2, rfl, bi⟩
      exact SqL.of (bi.e.keep _ _ ha2 (by simp))
    · rintro i x σ' H' hx ⟨x2, rfl, bi⟩
      rw [List.getElem?_map] at hx
      obtain ⟨z, hz, rfl⟩ := Option.map_eq_some_iff.mp hx
      have hi := (List.getElem?_eq_some_iff.mp hz).1
      have hp8 := G.p8
      have hnm := G.pn.nm z (List.mem_of_getElem? hz)
      have hno : refP (p.take i) (.str z) = none := refP_ok hnm (not_before G.pn.nd hz) (by rw [List.length_take]; omega)
      refine ⟨_, rfl, b, A.dx, _, rfl, bi.B.ob, fsB_no (.inr (.inl rfl)), _, rfl, ?_⟩
      refine ⟨b, .str z, 24, A, _, _, _, _, _, _, rfl, .str (by have := nm_len hnm; omega), bi.B, (by rw [List.length_take]; omega), (fun c t hc => by rw [hno] at hc; cases hc), fun _ H'' e B' => ⟨_, rfl, bi.e.over e (bi.f A.lp (by simp)), bi.f, ?_, bi.T.ext e, .nil⟩⟩
      rw [take_snoc hz]
      exact B'
    rintro σ' H5 ⟨x2, rfl, bi3⟩
    rw [List.length_map, List.take_of_length_le (Nat.le_refl _)] at bi3
    -- cloths
    obtain ⟨as3, ha3, hp3⟩ := M.r3
    have hl3 := paired_len hp3
    refine ⟨_, rfl, a.M, _, 3, .ref a.m3, rfl, rfl, SqL.of (MM bi3.e).M, rfl, a.m3, rfl, ⟨_, SqL.of (bi3.e.keep _ _ ha3 (by simp))⟩, for_list (xs := as3.map V.ref) (fun i σ' H' => ∃ x2 x6, σ' = [some (.ref a.M), some (.ref b), x2, x3, x4, x5, x6, none, none, none] ∧ BI (cB K) H H' b A k t p (c.take i) [] ts []) ⟨_, _, rfl, bi3⟩ ?_ ?_ ?_⟩
    · rintro i σ' H' _ ⟨x2, x6, rfl, bi⟩
      exact SqL.of (bi.e.keep _ _ ha3 (by simp))
    · rintro i x σ' H' hx ⟨x2, x6, rfl, bi⟩
      rw [List.getElem?_map] at hx
      obtain ⟨u, hu, rfl⟩ := Option.map_eq_some_iff.mp hx
      obtain ⟨qq, hq, hT⟩ := paired_at hp3 hu
      have hi := (List.getElem?_eq_some_iff.mp hq).1
      have hc8 := G.c8
      have hmem := List.mem_of_getElem? hq
      have hnm := G.cn.nm qq.1 (List.mem_map.mpr ⟨qq, hmem, rfl⟩)
      have hkn := G.ck qq hmem
      have hkl := nm_len (G.kn.nm _ hkn)
      have hnb : qq.1 ∉ ((c.take i).map tv).map (·.1) := by
        rw [mem_tv, List.map_take]
        exact not_before G.cn.nd (by rw [List.getElem?_map, hq]; rfl)
      have hno : refC ((c.take i).map tv) (k.map tv) (.str qq.1) (.str qq.2) = none := refC_ok hnm hnb (by rw [List.length_map, List.length_take]; omega) (mem_tv.mpr hkn)
      refine ⟨u, _, rfl, .inl (.inl (bi.e.tups _ _ hT)), rfl, _, _, rfl, _, _, rfl, rfl, ?_⟩
      refine ⟨_, rfl, b, A.dx, _, rfl, bi.B.ob, fsB_no (.inr (.inr (.inl rfl))), _, rfl, _, rfl, ?_⟩
      refine ⟨b, .str qq.1, .str qq.2, 24, A, _, _, _, _, _, _, rfl, .str (by have := nm_len hnm; omega), .str (by omega), fun _ _ => .str (by omega), bi.B, (by rw [List.length_map, List.length_take]; omega), (fun c t hc => by rw [hno] at hc; cases hc), fun _ H'' e B' => ⟨_, _, rfl, bi.e.over e (bi.f A.dc (by simp)), bi.f, ?_, bi.T.ext e, .nil⟩⟩
      rw [take_snoc hq, List.map_append]
      exact B'
    rintro σ' H6 ⟨x2, x6, rfl, bi4⟩
    rw [List.length_map, hl3, List.take_of_length_le (Nat.le_refl _)] at bi4
    -- dips
    obtain ⟨as4, ha4, hp4⟩ := M.r4
    have hl4 := paired_len hp4
    refine ⟨_, rfl, a.M, _, 4, .ref a.m4, rfl, rfl, SqL.of (MM bi4.e).M, rfl, a.m4, rfl, ⟨_, SqL.of (bi4.e.keep _ _ ha4 (by simp))⟩, for_list (xs := as4.map V.ref) (fun i σ' H' => ∃ A ds x7 x8, σ' = [some (.ref a.M), some (.ref b), x2, x3, x4, x5, x6, x7, x8, none] ∧ BI (cB K) H H' b A k t p c (d.take i) ts ds) ⟨A, [], _, _, rfl, bi4⟩ ?_ ?_ ?_⟩
    · rintro i σ' H' _ ⟨A, ds, x7, x8, rfl, bi⟩
      exact SqL.of (bi.e.keep _ _ ha4 (by simp))
    · rintro i x σ' H' hx ⟨A, ds, x7, x8, rfl, bi⟩
      rw [List.getElem?_map] at hx
      obtain ⟨u, hu, rfl⟩ := Option.map_eq_some_iff.mp hx
      obtain ⟨qq, hq, hT⟩ := paired_at hp4 hu
      have hi := (List.getElem?_eq_some_iff.mp hq).1
      have hdm := G.dm
      have hp8 := G.p8
      have hmem := G.dc qq (List.mem_of_getElem? hq)
      have hds : ds.length = i := by rw [bi.D.len, List.length_take]; omega
      have hk1 : knownK (c.map tv) (.str qq.1) = true := decide_eq_true (mem_tv.mpr hmem.1)
      have hk2 : knownP p (.str qq.2) = true := decide_eq_true hmem.2
      have hno : refDip (c.map tv) p ds.length 24 (.str qq.1) (.str qq.2) = none := by rw [refDip_3 hk1 hk2, if_neg (by omega)]
      have h1 := nm_len (G.cn.nm _ hmem.1)
      have h2 := nm_len (G.pn.nm _ hmem.2)
      refine ⟨u, _, rfl, .inl (.inl (bi.e.tups _ _ hT)), rfl, _, _, rfl, _, _, rfl, rfl, ?_⟩
      refine ⟨_, rfl, b, A.dx, _, rfl, bi.B.ob, fsB_no (.inr (.inr (.inr (.inr (.inr (.inr (.inl rfl))))))), _, rfl, _, rfl, ?_⟩
      refine ⟨b, .str qq.1, .str qq.2, 24, A, _, _, _, _, _, _, rfl, .str (by omega), fun _ _ => .str (by omega), bi.B, by omega, by omega, (fun c t hc => by rw [hno] at hc; cases hc), fun _ H'' w l e hw hl hT' B' => ⟨{ A with ld := l }, _, _, _, rfl, bi.e.over e (bi.f b (by simp)), fun x hx => ?_, B', bi.T.ext e, ?_⟩⟩
      · have f := bi.f
        simp only [Bk.all, List.mem_cons, List.not_mem_nil, or_false] at hx f
        rcases hx with rfl | rfl | rfl | rfl | rfl | rfl | rfl
        · exact f _ (by simp)
        · exact f _ (by simp)
        · exact f _ (by simp)
        · exact f _ (by simp)
        · exact f _ (by simp)
        · exact bi.e.none hl (by simp)
        · exact f _ (by simp)
      · rw [take_snoc hq]
        exact (bi.D.ext e).snoc hT'
    rintro σ' H7 ⟨A, ds, x7, x8, rfl, bi5⟩
    rw [List.length_map, hl4, List.take_of_length_le (Nat.le_refl _)] at bi5
    -- the facts
    have ha5 := M.r5
    have hnl : ∀ z, z ∈ k.map (·.1) ∨ z ∈ c.map (·.1) → z.length ≤ 1000 := fun z hz => by
      rcases hz with hz | hz
      · have := nm_len (G.kn.nm z hz); omega
      · have := nm_len (G.cn.nm z hz); omega
    have hdm := G.dm
    have ht3 := G.t3
    have kp : Kept k c d := ⟨G.kn.nd, G.k8, G.cn.nd, G.c8, G.ck, fun q hq => (G.dc q hq).1, by omega⟩
    have hw6 := fun q hq => amtD_word (k := k) (c := c) (d := d) d.length q hq
    have b5 : BkI (cB K) H7 b 24 A k t p c d [] ts ds [] := ⟨bi5.B, bi5.T, bi5.D, FL.nil, kp, hnl, by omega, Nat.zero_le _, by omega, by simp⟩
    have e5 := bi5.e
    have f5 := bi5.f
    refine ⟨_, rfl, a.M, _, 5, .ref a.m5, rfl, rfl, SqL.of (MM bi5.e).M, rfl, a.m5, rfl, ⟨_, SqL.of (bi5.e.keep _ _ ha5 (by simp))⟩, for_list (xs := us) (fun i σ' H' => ∃ us' x9, σ' = [some (.ref a.M), some (.ref b), x2, x3, x4, x5, x6, x7, x8, x9] ∧ Ext [] H H' ∧ BkI (cB K) H' b 24 A k t p c d (fs.take i) ts ds us') ⟨[], _, rfl, e5, by rw [List.take_zero]; exact b5⟩ ?_ ?_ ?_⟩
    · rintro i σ' H' _ ⟨us', x9, rfl, e, _⟩
      exact SqL.of (e.keep _ _ ha5 (by simp))
    · rintro i v σ' H' hv ⟨us', x9, rfl, e, bb⟩
      obtain ⟨u, f, rfl, hfi, hfu⟩ := (hF.ext e).get hv
      have hi := (List.getElem?_eq_some_iff.mp hfi).1
      have htk := take_snoc hfi
      have hmem := hin f (List.mem_of_getElem? hfi)
      have hul := bb.F.len
      rw [List.length_take] at hul
      have hus : us'.length < 32 := by omega
      have fin : ∀ H'' x, Ext [A.lf] H' H'' → isFk H'' x f → BookAt (cB K) H'' b 24 A (k.map tv) ts p (c.map tv) ds (us' ++ [.ref x]) → Ext [] H H'' ∧ BkI (cB K) H'' b 24 A k t p c d (fs.take (i + 1)) ts ds (us' ++ [.ref x]) := fun H'' x e2 hx B' => by
        refine ⟨e.over e2 (f5 A.lf (by simp)), B', bb.T.ext e2, bb.D.ext e2, ?_, kp, hnl, bb.dl, by rw [List.length_take]; omega, bb.tl, fun g hg => (hin g (List.mem_of_mem_take hg)).ok fun q hq => okS_wd (hw6 q hq)⟩
        rw [htk]
        exact (bb.F.ext e2).snoc hx
      refine gset ?_
      dsimp only
      cases f with
      | tell x y =>
        obtain ⟨ax, ay, f1, f2, f3⟩ := hfu
        have av1 := Av.amt f2 (hw6 _ hmem.1)
        have av2 := Av.amt f3 (hw6 _ hmem.2)
        have o1 : ownD (amtD k c d d.length) (dAmt x) = true := ownD_amt.trans (decide_eq_true hmem.1)
        have o2 : ownD (amtD k c d d.length) (dAmt y) = true := ownD_amt.trans (decide_eq_true hmem.2)
        refine ⟨_, rfl, u, _, 0, _, rfl, rfl, .inl (.inl f1), rfl, rfl, _, rfl, ?_⟩
        refine ifd (fun _ => ?_) (fun h => absurd rfl h)
        refine ⟨_, rfl, b, A.dx, _, rfl, bb.B.ob, fsB_no3 (.inr (.inl rfl)), _, rfl, u, _, 1, _, rfl, rfl, .inl (.inl f1), rfl, _, rfl, u, _, 2, _, rfl, rfl, .inl (.inl f1), rfl, ?_⟩
        refine ⟨b, .ref ax, .ref ay, _, _, 24, A, k, c, ts, p, ds, us', d, rfl, av1, av2, bb.B, bb.D, kp, by omega, (fun h => by rw [o1] at h; cases h), (fun _ h => by rw [o2] at h; cases h), (fun _ _ h => absurd h (by omega)), fun _ _ _ H'' z e2 hz hzT B' => ?_⟩
        obtain ⟨g1, g2⟩ := fin H'' z e2 ⟨ax, ay, hzT, e2.tups _ _ f2, e2.tups _ _ f3⟩ B'
        exact ⟨_, _, rfl, g1, g2⟩
      | some x =>
        obtain ⟨ax, f1, f2⟩ := hfu
        have av1 := Av.amt f2 (hw6 _ hmem)
        have o1 : ownD (amtD k c d d.length) (dAmt x) = true := ownD_amt.trans (decide_eq_true hmem)
        refine ⟨_, rfl, u, _, 0, _, rfl, rfl, .inl (.inl f1), rfl, rfl, _, rfl, ?_⟩
        refine ifd (fun h => absurd h (by decide +kernel)) (fun _ => ?_)
        refine ⟨_, rfl, b, A.dx, _, rfl, bb.B.ob, fsB_no3 (.inr (.inr (.inl rfl))), _, rfl, u, _, 1, _, rfl, rfl, .inl (.inl f1), rfl, ?_⟩
        refine ⟨b, .ref ax, _, 24, A, k, c, ts, p, ds, us', d, rfl, av1, bb.B, bb.D, kp, by omega, (fun h => by rw [o1] at h; cases h), (fun _ h => absurd h (by omega)), fun _ _ H'' z e2 hz hzT B' => ?_⟩
        obtain ⟨g1, g2⟩ := fin H'' z e2 ⟨ax, hzT, e2.tups _ _ f2⟩ B'
        exact ⟨_, _, rfl, g1, g2⟩
    · rintro σ' H8 ⟨us', x9, rfl, e8, b8⟩
      rw [hF.len, List.take_of_length_le (Nat.le_refl _)] at b8
      exact ⟨_, rfl, q b A ts ds us' H8 e8 f5 b8⟩
end


end K18
namespace K18
open PySem PySem.Spec PyProof.Rows L2 He Tp ClX LiI

section
variable {P : Program} {w : World} {K : PySem.W.Frag} {mg : Str → Option Value} {base : Heap}
theorem ok_law_is_whole (T : Txt K mg) : Df P w K mg base CX0 1 "_law_is_whole" ["_law_value"] (spWhole K) := by
  refine Df.mk' T.g_law_is_whole T.f_law_is_whole (fun _ _ _ _ _ _ us hl => match us, hl with | [_], _ => rfl) fun fd F => F.ok sc__law_is_whole (fun vs H Q E h => ?_) (fun cdv A outer s H vs Q E hr h => ?_)
  · obtain ⟨v, rfl, _⟩ := h
    rfl
  · obtain ⟨v, rfl, p, q⟩ := h
    refine ⟨_, PSs.nox
   (pss_one (ps_ret (pe_and (pe_callB (call_isi) (by rfl) T.bisinstance (by decide +kernel) (pa_cons (pv 0) (pa_cons (pe_bltn (v := .ty "int") (u := .type "int") (by rfl) T.bint (by decide +kernel) rfl) pa_nil))) (pe_one (pe_not (pe_callB (call_isi) (by rfl) T.bisinstance (by decide +kernel) (pa_cons (pv 0) (pa_cons (pe_bltn (v := .ty "bool") (u := .type "bool") (by rfl) T.bbool (by decide +kernel) rfl) pa_nil)))))))), ?_⟩
    refine st_ret (val_andV (val_isi (val_var rfl) p.ty (p.kit (.inl rfl))) (val_notV (val_isi (val_var rfl) p.ty (p.kit (.inr (.inl rfl)))))) ?_
    rw [whole_eq p]
    exact q
end

end K18
namespace K18
open PySem PySem.Spec PyProof.Rows L2 He Tp ClX LiI

section
variable {P : Program} {w : World} {K : PySem.W.Frag} {mg : Str → Option Value} {base : Heap}
theorem ok_lists (T : Txt K mg) : Df P w K mg base CX0 2 "_law_lists" ["_law_answer", "_law_due"] spLists := by
  have D__law_is_whole := ok_law_is_whole (P := P) (w := w) (base := base) T
  refine Df.mk' T.g_law_lists T.f_law_lists (fun _ _ _ _ _ _ us hl => match us, hl with | [_, _], _ => rfl) fun fd F => F.ok sc__law_lists (fun vs H Q E h => ?_) (fun cdv A outer s H vs Q E hr h => ?_)
  · obtain ⟨a, b, xs, rfl, _⟩ := h
    rfl
  · obtain ⟨a, b, xs, rfl, ha, hb, hl, hok, q⟩ := h
    have nd := sc__law_lists.nd
    have hr__law_is_whole := hr
    have hu64 := hr.units
    refine ⟨_, PSs.nox
   (pss_cons (ps_if (PW.pt (pw_or (pt_not (pt_val (pe_callB (call_isi) (by rfl) T.bisinstance (by decide +kernel) (pa_cons (pv 0) (pa_cons (pe_bltn (v := .ty "list") (u := .type "list") (by rfl) T.blist (by decide +kernel) rfl) pa_nil))))) (pw_or1 (pt_cmpR op_ne (pe_callB call_len_seq (by rfl) T.blen PySem.boot_len (pa_cons (pv 0) pa_nil)) (pe_callB call_len_seq (by rfl) T.blen PySem.boot_len (pa_cons (pv 1) pa_nil)) (nomark _))))) (pss_one (ps_ret pe_bl)) pss_nil)
   (pss_cons (ps_for PassesOwn.never rfl (pi_range1 (by rfl) T.brange (pa_cons (pe_callB call_len_seq (by rfl) T.blen PySem.boot_len (pa_cons (pv 1) pa_nil)) pa_nil)) (pg_name (i := 2) nd rfl (by first | exact Or.inl rfl | exact Or.inr rfl))
   (pss_cons (ps_set (i := 3) nd rfl (by first | exact Or.inl rfl | exact Or.inr rfl) (pe_ix ix_list (pv 0) (pv 2) (fun _ _ => rfl)))
   (pss_cons (ps_if (PW.pt (pw_or (pt_not (pt_val (pe_callB (call_isi) (by rfl) T.bisinstance (by decide +kernel) (pa_cons (pv 3) (pa_cons (pe_bltn (v := .ty "tuple") (u := .type "tuple") (by rfl) T.btuple (by decide +kernel) rfl) pa_nil))))) (pw_or (pt_cmpR op_ne (pe_callB call_len_seq (by rfl) T.blen PySem.boot_len (pa_cons (pv 3) pa_nil)) pe_int (nomark _)) (pw_or1 (pt_cmpR (op_neD hu64) (pv 3) (pe_ix ix_list (pv 1) (pv 2) (fun _ _ => rfl)) (nomark _)))))) (pss_one (ps_ret pe_bl)) pss_nil)
   (pss_one (ps_if (PW.pt (pw_or (pt_not (pt_val (pe_callB (call_isi) (by rfl) T.bisinstance (by decide +kernel) (pa_cons (pe_ix ix_tup (pv 3) pe_int (fun _ _ => rfl)) (pa_cons (pe_bltn (v := .ty "str") (u := .type "str") (by rfl) T.bstr (by decide +kernel) rfl) pa_nil))))) (pw_or1 (pt_not (pt_val (pe_cd D__law_is_whole hr__law_is_whole (by rfl) pass0 (pa_cons (pe_ix ix_tup (pv 3) pe_int (fun _ _ => rfl)) pa_nil))))))) (pss_one (ps_ret pe_bl)) pss_nil)))))
   (pss_one (ps_ret pe_bl)))), ?_⟩
    obtain ⟨us, hus, hul, hug⟩ := ha.get
    obtain ⟨ws, hws, hwl, hwg⟩ := hb.get
    refine sq_when (b := false) (or_no (ans_not (ans_val (val_isi (b := true) (val_var rfl) (.base (.lst hus)) (kit_ty (by decide +kernel))))) (ans_cmp (b := false) (val_len (val_var rfl) (SqL.of hus)) (val_len (val_var rfl) (SqL.of hws)) fun Q' q' => ⟨rfl, ?_⟩)) (fun h => nomatch h) (fun _ => ?_)
    · rw [hul, hwl]
      have : (!decide (V.int (xs.length : Int) = V.int (xs.length : Int))) = false := by simp
      rw [this]
      exact q'
    refine ⟨_, rfl, b, ws, rfl, .inl (SqL.of hws), ?_⟩
    refine ⟨(ws.length : Int), rfl, by omega, by omega, for_range (n := (ws.length : Int).toNat) (fun i σ' H' => (∃ x2 x3, σ' = [some (.ref a), some (.ref b), x2, x3]) ∧ H' = H) ⟨⟨none, none, rfl⟩, rfl⟩ ?_ ?_⟩
    · rintro i σ' H' hi ⟨⟨x2, x3, rfl⟩, rfl⟩
      have hix : i < xs.length := by omega
      obtain ⟨p, hp⟩ : ∃ p, xs[i]? = some p := ⟨_, List.getElem?_eq_getElem hix⟩
      obtain ⟨u, hu, hT⟩ := hug i p hp
      obtain ⟨v, hv, hV⟩ := hwg i p hp
      have ei : (0 : Int) + (i : Int) = (i : Int) := Int.zero_add _
      rw [ei]
      refine ⟨_, rfl, _, rfl, a, us, _, _, rfl, rfl, SqL.of hus, hu, ?_⟩
      refine gset ?_
      dsimp only
      have okp := okD_amt (hok p (List.mem_of_getElem? hp))
      refine sq_when (b := false) (or_no (ans_not (ans_val (val_isi (b := true) (val_var rfl) (.base (.tup hT)) (kit_ty (by decide +kernel))))) (or_no (ans_cmp (b := false) (x := .int 2) (y := .int 2) (fun Q' q' => ⟨_, rfl, u, _, rfl, .inr (.inl (.inl hT)), q'⟩) val_c fun Q' q' => ⟨rfl, by simpa using q'⟩) (ans_cmp (b := false) (val_var rfl) (val_ixL (val_var rfl) (val_var rfl) (SqL.of hws) hv) fun Q' q' => ⟨dAmt p, dAmt p, hT.im.dp, hV.im.dp, okp.shaped, okp.shaped, by rw [okp.eqv]; exact q'⟩))) (fun h => nomatch h) (fun _ => ?_)
      have at0 : Val (tOp (rIxT K) (tVar 3) (tC (.int 0))) [some (V.ref a), some (.ref b), some (.int (i : Int)), some (.ref u)] H' (.str p.1) := fun Q' q' => ⟨_, rfl, u, _, _, _, rfl, rfl, .inl (.inl hT), rfl, q'⟩
      refine st_if (b := false) (or_no (ans_not (ans_val (val_isi (b := true) at0 (.base (.str _)) (kit_ty (by decide +kernel))))) (ans_not (b := true) (ans_val fun Q' q' => ⟨_, rfl, u, _, _, _, rfl, rfl, .inl (.inl hT), rfl, .int (p.2 : Int), rfl, .int _, q'⟩))) (fun h => nomatch h) (fun _ => ?_)
      exact ⟨⟨_, _, rfl⟩, rfl⟩
    · rintro σ' H' ⟨⟨x2, x3, rfl⟩, rfl⟩
      exact q
end

end K18
namespace K18
open PySem PySem.Spec PyProof.Rows L2 He Tp ClX LiI

section
variable {P : Program} {w : World} {K : PySem.W.Frag} {mg : Str → Option Value} {base : Heap}
theorem ok_stepsA (T : Txt K mg) : Df P w K mg base CX0 1 "steps_of" ["couples"] spStepsA := by
  refine Df.mk' T.gsteps_of T.fsteps_of (fun _ _ _ _ _ _ us hl => match us, hl with | [_], _ => rfl) fun fd F => F.ok sc_steps_of (fun vs H Q E h => ?_) (fun cdv A outer s H vs Q E hr h => ?_)
  · obtain ⟨a, t, rfl, _⟩ := h
    rfl
  · obtain ⟨a, t, rfl, hR, hn, q⟩ := h
    have nd := sc_steps_of.nd
    have hu := hu1_of hr
    obtain ⟨vs, ha, as, rfl, hp⟩ := hR
    have hal := pairedG_len hp
    refine ⟨_, PSs.nox (pss_cons (ps_set (i := 1) nd rfl (by first | exact Or.inl rfl | exact Or.inr rfl) pe_dnewT)
   (pss_cons (ps_for PassesOwn.never rfl (pi_list (pv 0)) (pg_tup (by rfl) (pgs_cons (pg_name (i := 2) nd rfl (by first | exact Or.inl rfl | exact Or.inr rfl)) (pgs_cons (pg_name (i := 3) nd rfl (by first | exact Or.inl rfl | exact Or.inr rfl)) pgs_nil)))
   (pss_one (ps_expr (pe_bm PySem.F.plainAttrs_list PySem.F.slot_list_append PySem.F.type_list_append mt_append (pe_dsetdT hu (pv 1) (pv 2) (pe_lst pa_nil) ⟨by rfl, by rfl, by rfl, by rfl⟩) (pa_cons (pv 3) pa_nil)))))
   (pss_one (ps_ret (pv 1))))), ?_⟩
    intro D hD
    refine gset ?_
    dsimp only
    have e0 : Ext [] H (upd H D (.dT [])) := Ext.new hD
    have S0 : StepsA (upd H D (.dT [])) D [] [] := ⟨upd_same, List.nodup_nil, List.nodup_nil, by simp, by simp⟩
    refine ⟨_, rfl, a, rfl, ⟨_, SqL.of (e0.keep _ _ ha (by simp))⟩, for_list (xs := as.map V.ref) (fun i σ' H' => (∃ x2 x3, σ' = [some (.ref a), some (.ref D), x2, x3]) ∧ Ext [] H H' ∧ ∃ ks, StepsA H' D ks (t.take i) ∧ (∀ q ∈ ks, H q.2 = none) ∧ ks.length ≤ i) ⟨⟨none, none, rfl⟩, e0, [], by simpa using S0, by simp, Nat.le_refl _⟩ ?_ ?_ ?_⟩
    · rintro i σ' H' _ ⟨_, e, _⟩
      exact SqL.of (e.keep _ _ ha (by simp))
    · rintro i x σ' H' hx ⟨⟨x2, x3, rfl⟩, e, ks, S, hf, hkl⟩
      rw [List.getElem?_map] at hx
      obtain ⟨u, hu2, rfl⟩ := Option.map_eq_some_iff.mp hx
      obtain ⟨r, hr', hT⟩ := paired_atG hp hu2
      have hi := (List.getElem?_eq_some_iff.mp hr').1
      obtain ⟨c, d, h1, h2, h3⟩ := hT.ext e
      refine ⟨u, _, rfl, .inl (.inl h1), rfl, _, _, rfl, _, _, rfl, rfl, ?_⟩
      refine ⟨_, rfl, D, rfl, .inr ⟨_, .inl S.top⟩, _, rfl, (by show 0 ≤ sizeLine; decide), fun l hl => ?_⟩
      have e1 : Ext [] H' (upd H' l (.lst [])) := Ext.new hl
      have S1 := S.ext e1 (by simp) (by simp)
      have hlH : H l = none := e.none hl (by simp)
      have hsl := selA_len (x := r.1) (t := t.take i)
      rw [List.length_take] at hsl
      have htk : t.take (i + 1) = t.take i ++ [r] := take_snoc hr'
      have hDn : H D = none := hD
      refine ⟨_, amK r.1, c, S1.top, rfl, e1.tups _ _ h2, ?_, fun v hv => ?_, fun hn' => ?_⟩
      · rw [dA_len, List.length_map]
        exact Evl.sz_lt (by omega)
      · have hk : r.1 ∈ ks.map (·.1) := by
          cases hd : decide (r.1 ∈ ks.map (·.1)) with
          | true => exact of_decide_eq_true hd
          | false =>
            rw [StepsA.no (of_decide_eq_false hd)] at hv
            cases hv
        obtain ⟨lx, hqk⟩ := StepsA.pick hk
        rw [S.at hqk] at hv
        cases hv
        obtain ⟨us, hus, hpp⟩ := S1.row _ hqk
        have hul : us.length = (selA r.1 (t.take i)).length := amt_len hpp
        have hus' : upd H' l (.lst []) lx = some (.lst (us.map V.ref)) := hus
        refine ⟨.inl ⟨rfl, _, SqL.of hus'⟩, _, rfl, lx, _, _, rfl, rfl, hus', by rw [List.length_map]; exact Evl.sz_lt (by omega), ⟨_, _, rfl⟩, (e.trans e1).fresh (hf _ hqk), ks, ?_, hf, by omega⟩
        rw [htk]
        exact S1.push hqk hus' (e1.tups _ _ h3)
      · have hk : r.1 ∉ ks.map (·.1) := fun hk => by
          obtain ⟨lx, hqk⟩ := StepsA.pick hk
          rw [S.at hqk] at hn'
          cases hn'
        rw [putK_dA (by rw [keysA]; exact hk), show dA (ks.map (fun q => (q.1, V.ref q.2)) ++ [(r.1, V.ref l)]) = dA ((ks ++ [(r.1, l)]).map fun q => (q.1, V.ref q.2)) by rw [List.map_append]; rfl]
        have S2 := S.add hk hl
        have e2 := (e.trans e1).fresh (o := .dT (dA ((ks ++ [(r.1, l)]).map fun q => (q.1, V.ref q.2)))) hDn
        have hlD : l ≠ D := fun h => by rw [h, S.top] at hl; cases hl
        have hrow : upd (upd H' l (.lst [])) D (.dT (dA ((ks ++ [(r.1, l)]).map fun q => (q.1, V.ref q.2)))) l = some (.lst []) := by rw [upd_ne hlD]; exact upd_same
        have h3' : isAmt (upd (upd H' l (.lst [])) D (.dT (dA ((ks ++ [(r.1, l)]).map fun q => (q.1, V.ref q.2))))) d r.2 := (ext_at (not_tup_dT S1.top)).tups _ _ (e1.tups _ _ h3)
        refine ⟨.inl ⟨rfl, _, SqL.of hrow⟩, _, rfl, l, _, _, rfl, rfl, hrow, by show 0 < sizeLine; decide, ⟨_, _, rfl⟩, e2.fresh hlH, ks ++ [(r.1, l)], ?_, ?_, by rw [List.length_append]; show ks.length + 1 ≤ _; omega⟩
        · rw [htk]
          exact S2.push (x := r.1) (y := r.2) (by simp) hrow h3'
        · intro q hq
          rcases List.mem_append.mp hq with hq | hq
          · exact hf q hq
          · rw [List.mem_singleton.mp hq]
            exact hlH
    · rintro σ' H' ⟨⟨x2, x3, rfl⟩, e, ks, S, hf, hkl⟩
      have e3 : t.take (as.map V.ref).length = t := List.take_of_length_le (by rw [List.length_map]; omega)
      rw [e3] at S
      exact ⟨_, rfl, q D ks H' e S⟩
end


end K18
namespace K18
open PySem PySem.Spec PyProof.Rows L2 He Tp ClX LiI

section
variable {P : Program} {w : World} {K : PySem.W.Frag} {mg : Str → Option Value} {base : Heap}
theorem ok_walkA (T : Txt K mg) : Df P w K mg base CX0 1 "walk" ["starts", "steps"] spWalkA := by
  refine Df.mk' T.gwalk T.fwalk (fun _ _ _ _ _ _ us hl => match us, hl with | [_, _], _ => rfl) fun fd F => F.ok sc_walk (fun vs H Q E h => ?_) (fun cdv A outer s' H vs Q E hr h => ?_)
  · obtain ⟨s, D, u, x, ks, t, rfl, _⟩ := h
    rfl
  · obtain ⟨s, D, u, x, ks, t, rfl, hs, hux, S, hn, q⟩ := h
    have nd := sc_walk.nd
    have hu := hu1_of hr
    refine ⟨_, PSs.nox (pss_cons (ps_setDcT (n := 2) (own := [("start", 7)]) (g := gName 7) (tt := tYes) ⟨(by rfl), (Nat.lt_of_succ_lt hu), nd, (pi_list (pv 0)), (blkOk_by (own := [("start", 7)]) (N := n_walk) (sc := defScope s_walk) (by decide +kernel)), (fun _ _ _ _ _ => pg_name (i := 7) nd rfl (by first | exact Or.inl rfl | exact Or.inr rfl)), (fun _ _ _ _ _ => pts_nil), (fun _ _ _ _ _ => (pv 7)), (fun _ _ _ _ _ => pe_non), (by intro _; rfl)⟩ rfl rfl (sw_dc (elts := (_, _)) rfl rfl rfl (by decide +kernel)))
   (pss_cons (ps_set (i := 3) nd rfl (by first | exact Or.inl rfl | exact Or.inr rfl) (pe_callTy (call_list_dT rfl) (by rfl) T.blist (by decide +kernel) (pa_cons (pv 2) pa_nil)))
   (pss_cons (ps_while PassesOwn.never (pt_truth (pv 3) (by intro _; rfl)) (pss_cons (ps_set (i := 4) nd rfl (by first | exact Or.inl rfl | exact Or.inr rfl) (pe_lst pa_nil))
   (pss_cons (ps_for PassesOwn.never rfl (pi_list (pe_callTy call_list_of (by rfl) T.blist (by decide +kernel) (pa_cons (pv 3) pa_nil))) (pg_name (i := 5) nd rfl (by first | exact Or.inl rfl | exact Or.inr rfl))
   (pss_one (ps_for PassesOwn.never rfl (pi_list (pe_dget2 hu (pv 1) (pv 5) (pe_lst pa_nil) ⟨by rfl, by rfl, by rfl, by rfl⟩)) (pg_name (i := 6) nd rfl (by first | exact Or.inl rfl | exact Or.inr rfl))
   (pss_one (ps_if (pt_cmp (pc_dnotin hu (pv 6) (pv 2))) (pss_cons (ps_dput hu (pv 2) (pv 6) (pv 5) rfl)
   (pss_one (ps_expr (pe_bm PySem.F.plainAttrs_list PySem.F.slot_list_append PySem.F.type_list_append mt_append (pv 4) (pa_cons (pv 6) pa_nil))))) pss_nil)))))
   (pss_one (ps_set (i := 3) nd rfl (by first | exact Or.inl rfl | exact Or.inr rfl) (pv 4))))))
   (pss_one (ps_ret (pv 2)))))), ?_⟩
    refine ⟨_, rfl, s, rfl, ⟨_, SqL.of hs⟩, fun B hB => dcT_list (ys := [V.ref u]) (fun i H' => H' = upd H B (.dT (dA (if i = 0 then [] else [(x, V.non)])))) rfl ?_ ?_ ?_⟩
    · rintro i H' _ rfl
      exact SqL.of (by rw [upd_ne (ne_of_none hs hB)]; exact hs)
    · rintro i y H' hy rfl
      have hi : i = 0 := by
        have := (List.getElem?_eq_some_iff.mp hy).1
        have h1 : ([V.ref u] : List V).length = 1 := rfl
        omega
      subst hi
      have hy' : V.ref u = y := by simpa using hy
      subst hy'
      refine ⟨wipe1, ?_⟩
      refine tyes ?_
      refine ⟨_, rfl, _, amK x, u, rfl, upd_same, (Ext.new hB : Ext [] H _).tups _ _ hux, (by show 0 < sizeLine; decide), ?_⟩
      show upd (upd H B _) B _ = _
      rw [upd_upd]
      rfl
    · rintro H' rfl
      have e0 : Ext [] H (upd H B (.dT (dA [(x, V.non)]))) := Ext.new hB
      have hB0 : (upd H B (.dT (dA [(x, V.non)]))) B = some (.dT (dA [(x, V.non)])) := upd_same
      show tSeq _ _ _ _ (upd H B (.dT (dA [(x, V.non)])))
      generalize upd H B (.dT (dA [(x, V.non)])) = H0 at e0 hB0
      refine ⟨_, rfl, B, _, rfl, .inl hB0, fun L as0 hL hk => ?_⟩
      refine gset ?_
      dsimp only
      have e1 : Ext [] H0 (upd H0 L (.lst (as0.map V.ref))) := Ext.new hL
      have hL1 : AmtAt (upd H0 L (.lst (as0.map V.ref))) L [x] := ⟨as0, upd_same, amt_ext e1 (keys_amt hk)⟩
      have hB1 := e1.keep _ _ hB0 (by simp)
      have hLn : H L = none := e0.none hL (by simp)
      have e01 := e0.trans e1
      generalize upd H0 L (.lst (as0.map V.ref)) = H1 at e01 hL1 hB1
      clear e0 e1 hB0 hL hk
      refine ⟨fun m σ' H' => ∃ bs layer L x4 x5 x6, σ' = [some (.ref s), some (.ref D), some (.ref B), some (.ref L), x4, x5, x6, none] ∧ Ext [] H H' ∧ H' B = some (.dT (dA bs)) ∧ AmtAt H' L layer ∧ H L = none ∧ BwI t x H' bs ∧ (∀ y ∈ layer, y ∈ bs.map (·.1)) ∧ (∀ y ∈ bs.map (·.1), y ∈ layer ∨ ∀ z, (y, z) ∈ t → z ∈ bs.map (·.1)) ∧
        m = 2 * (t.length + 1 - bs.length) + (if layer = [] then 0 else 1), ⟨_, [(x, V.non)], [x], L, none, none, none, rfl, e01, hB1, hL1, hLn, BwI.one, by simp, by simp, rfl⟩, ?_⟩
      rintro m σ' H' ⟨bs, layer, L, x4, x5, x6, rfl, e, hB', ⟨as1, hL', hp1⟩, hLn, wk, lay, dn, rfl⟩
      refine ⟨_, rfl, _, .inl ⟨_, SqL.of hL', rfl⟩, ?_⟩
      cases layer with
      | nil =>
        cases hp1
        refine iteF ?_
        refine ⟨_, rfl, q B H' hB e ⟨bs, hB', wk, fun y => wk.fin (fun y hy z hz => ?_) y⟩⟩
        rcases dn y hy with h | h
        · cases h
        · exact h z hz
      | cons l0 ls =>
        obtain ⟨a0, ar, rfl⟩ : ∃ a0 ar, as1 = a0 :: ar := by cases hp1; exact ⟨_, _, rfl⟩
        refine iteT ?_
        generalize a0 :: ar = as1 at *
        have hlen : (as1.map V.ref).length = (l0 :: ls).length := by rw [List.length_map, amt_len hp1]
        generalize hlay : l0 :: ls = layer at *
        have hne : layer ≠ [] := by rw [← hlay]; simp
        have hDB : D ≠ B := fun h => by
          have := S.top
          rw [h, hB] at this
          cases this
        refine ⟨_, fun _ _ h => h, ?_⟩
        refine ⟨by show 0 ≤ sizeLine; decide, fun F hF => ?_⟩
        refine gset ?_
        dsimp only
        have e2 : Ext [] H' (upd H' F (.lst [])) := Ext.new hF
        have hF2 : AmtAt (upd H' F (.lst [])) F [] := ⟨[], upd_same, .nil⟩
        have hFn : H F = none := e.none hF (by simp)
        have hLF : L ≠ F := ne_of_none hL' hF
        have hBF : B ≠ F := ne_of_none hB' hF
        have hLB : L ≠ B := fun h => by rw [h, hB'] at hL'; cases hL'
        replace hB' := e2.keep _ _ hB' (by simp)
        replace hL' := e2.keep _ _ hL' (by simp)
        replace wk := wk.ext e2
        replace hp1 := amt_ext e2 hp1
        replace e := e.trans e2
        generalize upd H' F (.lst []) = H2 at e hF2 hB' hL' wk hp1
        clear e2 hF
        refine ⟨_, rfl, L, _, rfl, .inl (SqL.of hL'), fun Lw hLw => ?_⟩
        have e2 : Ext [] H2 (upd H2 Lw (.lst (as1.map V.ref))) := Ext.new hLw
        have hLwF : Lw ≠ F := by
          obtain ⟨_, hF3, _⟩ := hF2
          exact (ne_of_none hF3 hLw).symm
        have hLwB : Lw ≠ B := (ne_of_none hB' hLw).symm
        have hW : (upd H2 Lw (.lst (as1.map V.ref))) Lw = some (.lst (as1.map V.ref)) := upd_same
        replace hB' := e2.keep _ _ hB' (by simp)
        replace hF2 := hF2.ext e2 (by simp)
        replace wk := wk.ext e2
        replace hp1 := amt_ext e2 hp1
        replace e := e.trans e2
        generalize upd H2 Lw (.lst (as1.map V.ref)) = Hw at e hF2 hB' hW wk hp1
        clear e2 hLw
        refine ⟨Lw, rfl, ⟨_, SqL.of hW⟩, for_list (xs := as1.map V.ref) (fun i σ' H' => ∃ bs' fd x5 x6, σ' = [some (.ref s), some (.ref D), some (.ref B), some (.ref L), some (.ref F), x5, x6, none] ∧ Ext [] H H' ∧ (∀ b ys, Hw b = some (.tup ys) → H' b = some (.tup ys)) ∧ H' B = some (.dT (dA bs')) ∧ H' Lw = some (.lst (as1.map V.ref)) ∧ AmtAt H' F fd ∧ BwI t x H' bs' ∧ (∀ y ∈ bs.map (·.1), y ∈ bs'.map (·.1)) ∧ (∀ y ∈ fd, y ∈ bs'.map (·.1)) ∧ (∀ y ∈ bs'.map (·.1), y ∈ layer.drop i ∨ y ∈ fd ∨ ∀ z, (y, z) ∈ t → z ∈ bs'.map (·.1)) ∧ bs'.length = bs.length + fd.length) ⟨bs, [], _, _, rfl, e, fun _ _ h => h, hB', hW, hF2, wk, fun _ h => h, by simp, fun y hy => (dn y hy).elim (fun h => .inl h) (fun h => .inr (.inr h)), rfl⟩ ?_ ?_ ?_⟩
        · rintro i σ' H' _ ⟨bs', fd, x5, x6, rfl, _, _, _, hL3, _⟩
          exact SqL.of hL3
        · rintro i y σ' H' hy ⟨bs', fd, x5, x6, rfl, e3, tk3, hB3, hL3, hF3, wk3, s1, s2, s3, s4⟩
          rw [List.getElem?_map] at hy
          obtain ⟨hr1, hh1, rfl⟩ := Option.map_eq_some_iff.mp hy
          obtain ⟨here, hh, hiw⟩ := amt_at hp1 hh1
          have hih : isAmt H' hr1 here := tk3 _ _ hiw
          have hmem : here ∈ bs'.map (·.1) := s1 _ (lay _ (List.mem_of_getElem? hh))
          refine gset ?_
          dsimp only
          have S3 := S.ext e3 (by simp) (by simp)
          refine ⟨_, rfl, D, rfl, .inr ⟨_, .inl S3.top⟩, _, rfl, (by show 0 ≤ sizeLine; decide), fun l hl => ?_⟩
          have e4 : Ext [] H' (upd H' l (.lst [])) := Ext.new hl
          have S4 := S3.ext e4 (by simp) (by simp)
          have hl4 : AmtAt (upd H' l (.lst [])) l [] := ⟨[], upd_same, .nil⟩
          refine ⟨_, DGet.t (k := amK here) S4.top (e4.tups _ _ hih), ?_⟩
          replace hB3 := e4.keep _ _ hB3 (by simp)
          replace hL3 := e4.keep _ _ hL3 (by simp)
          have hlF : l ≠ F := fun h => by
            obtain ⟨_, hF4, _⟩ := hF3
            rw [h, hF4] at hl
            cases hl
          replace hF3 := hF3.ext e4 (by simp)
          replace wk3 := wk3.ext e4
          replace hih := e4.tups _ _ hih
          replace tk3 : ∀ b ys, Hw b = some (.tup ys) → (upd H' l (.lst [])) b = some (.tup ys) := fun b ys h => e4.tups _ _ (tk3 b ys h)
          replace e3 := e3.trans e4
          generalize upd H' l (.lst []) = H4 at S4 hl4 hB3 hL3 hF3 e3 wk3 tk3 hih
          obtain ⟨lx, hx1, hx2, hxF⟩ : ∃ lx, (valV (dA (ks.map fun q => (q.1, V.ref q.2))) (amK here)).getD (V.ref l) = V.ref lx ∧ AmtAt H4 lx (selA here t) ∧ lx ≠ F := by
            by_cases hk : here ∈ ks.map (·.1)
            · obtain ⟨l2, hqk⟩ := StepsA.pick hk
              refine ⟨l2, by rw [S.at hqk]; rfl, S4.row _ hqk, fun h => ?_⟩
              obtain ⟨_, this, _⟩ := S.row _ hqk
              rw [h, hFn] at this
              cases this
            · refine ⟨l, by rw [StepsA.no hk]; rfl, ?_, hlF⟩
              rw [S.sel_none hk]
              exact hl4
          have hxB : lx ≠ B := hx2.ne_dT hB3
          obtain ⟨as2, hx2, hp2⟩ := hx2
          have hal2 := amt_len hp2
          rw [hx1]
          refine ⟨lx, rfl, ⟨_, SqL.of hx2⟩, for_list (xs := as2.map V.ref) (fun j σ' H' => ∃ bs' fd x6, σ' = [some (.ref s), some (.ref D), some (.ref B), some (.ref L), some (.ref F), some (.ref hr1), x6, none] ∧ Ext [] H H' ∧ (∀ b ys, H4 b = some (.tup ys) → H' b = some (.tup ys)) ∧ H' B = some (.dT (dA bs')) ∧ H' Lw = some (.lst (as1.map V.ref)) ∧ AmtAt H' F fd ∧ H' lx = some (.lst (as2.map V.ref)) ∧ BwI t x H' bs' ∧ (∀ y ∈ bs.map (·.1), y ∈ bs'.map (·.1)) ∧ (∀ y ∈ fd, y ∈ bs'.map (·.1)) ∧ (∀ y ∈ bs'.map (·.1), y ∈ layer.drop i ∨ y ∈ fd ∨ ∀ z, (y, z) ∈ t → z ∈ bs'.map (·.1)) ∧ bs'.length = bs.length + fd.length ∧ ∀ z ∈ (selA here t).take j, z ∈ bs'.map (·.1)) ⟨bs', fd, _, rfl, e3, fun _ _ h => h, hB3, hL3, hF3, hx2, wk3, s1, s2, s3, s4, by simp⟩ ?_ ?_ ?_⟩
          · rintro j σ' H' _ ⟨_, _, _, _, _, _, _, _, _, h, _⟩
            exact SqL.of h
          · rintro j y σ' H' hy ⟨bs', fd, x6, rfl, e3, tk5, hB3, hL3, hF3, hx3, wk3, s1, s2, s3, s4, s5⟩
            rw [List.getElem?_map] at hy
            obtain ⟨th1, ht1, rfl⟩ := Option.map_eq_some_iff.mp hy
            obtain ⟨there, ht, hit⟩ := amt_at hp2 ht1
            have hit' : isAmt H' th1 there := tk5 _ _ hit
            have hih' : isAmt H' hr1 here := tk5 _ _ hih
            have hpair : (here, there) ∈ t := mem_selA.mp (List.mem_of_getElem? ht)
            have hmem : here ∈ bs'.map (·.1) := s1 _ (lay _ (List.mem_of_getElem? hh))
            have hle := wk3.le
            refine gset ?_
            dsimp only
            refine ⟨_, rfl, _, rfl, B, _, rfl, DGet.t (k := amK there) hB3 hit', _, rfl, ?_⟩
            rw [isSome_dA]
            refine ifb (fun hc => ?_) (fun hc => ?_)
            · have hnew : there ∉ bs'.map (·.1) := by simpa using hc
              refine ⟨_, rfl, _, rfl, _, rfl, B, _, rfl, DPut.t (k := amK there) hB3 hit' (by rw [dA_len]; exact Evl.sz_lt (by omega)), ?_⟩
              rw [putK_dA hnew]
              have eB : Ext [B] H' (upd H' B (.dT (dA (bs' ++ [(there, V.ref hr1)])))) := ext_at (not_tup_dT hB3)
              have hF5 : AmtAt (upd H' B (.dT (dA (bs' ++ [(there, V.ref hr1)])))) F fd := hF3.off (not_tup_dT hB3) (Ne.symm hBF)
              have hB5 : (upd H' B (.dT (dA (bs' ++ [(there, V.ref hr1)])))) B = some (.dT (dA (bs' ++ [(there, V.ref hr1)]))) := upd_same
              have wk5 := (wk3.add hmem hih' hpair hnew).ext eB
              have e5 := e3.fresh (o := .dT (dA (bs' ++ [(there, V.ref hr1)]))) hB
              have hL5 := eB.keep _ _ hL3 (by simpa using hLwB)
              have hx5 := eB.keep _ _ hx3 (by simpa using hxB)
              have hit5 := eB.tups _ _ hit'
              have tk6 : ∀ b ys, H4 b = some (.tup ys) → (upd H' B (.dT (dA (bs' ++ [(there, V.ref hr1)])))) b = some (.tup ys) := fun b ys h => eB.tups _ _ (tk5 b ys h)
              generalize upd H' B (.dT (dA (bs' ++ [(there, V.ref hr1)]))) = H5 at eB hF5 hB5 wk5 e5 hL5 hx5 hit5 tk6
              obtain ⟨as5, hF6, hp5⟩ := id hF5
              have hal5 := amt_len hp5
              have eF : Ext [F] H5 (upd H5 F (.lst (as5.map V.ref ++ [.ref th1]))) := ext_lst hF6
              refine ⟨_, rfl, .inl ⟨rfl, _, SqL.of hF6⟩, _, rfl, F, _, _, rfl, rfl, hF6, by rw [List.length_map]; exact Evl.sz_lt (by omega), ?_⟩
              refine ⟨bs' ++ [(there, V.ref hr1)], fd ++ [there], _, rfl, e5.fresh hFn, fun b ys h => eF.tups _ _ (tk6 b ys h), eF.keep _ _ hB5 (by simpa using hBF), eF.keep _ _ hL5 (by simpa using hLwF), hF5.pushU hF6 hit5, eF.keep _ _ hx5 (by simpa using hxF), wk5.ext eF, fun y hy => ?_, fun y hy => ?_, fun y hy => ?_, by rw [List.length_append, List.length_append, s4]; show _ + 1 = _ + (_ + 1); omega, fun z hz => ?_⟩
              · rw [List.map_append]
                exact List.mem_append_left _ (s1 y hy)
              · rw [List.map_append]
                rcases List.mem_append.mp hy with hy | hy
                · exact List.mem_append_left _ (s2 y hy)
                · exact List.mem_append_right _ (by simpa using hy)
              · rw [List.map_append] at hy
                rcases List.mem_append.mp hy with hy | hy
                · rcases s3 y hy with h | h | h
                  · exact .inl h
                  · exact .inr (.inl (List.mem_append_left _ h))
                  · exact .inr (.inr fun z hz => by rw [List.map_append]; exact List.mem_append_left _ (h z hz))
                · exact .inr (.inl (List.mem_append_right _ (by simpa using hy)))
              · rw [take_snoc ht] at hz
                rw [List.map_append]
                rcases List.mem_append.mp hz with hz | hz
                · exact List.mem_append_left _ (s5 z hz)
                · exact List.mem_append_right _ (by simpa using hz)
            · have hold : there ∈ bs'.map (·.1) := by simpa using hc
              refine ⟨bs', fd, _, rfl, e3, tk5, hB3, hL3, hF3, hx3, wk3, s1, s2, s3, s4, fun z hz => ?_⟩
              rw [take_snoc ht] at hz
              rcases List.mem_append.mp hz with hz | hz
              · exact s5 z hz
              · rw [List.mem_singleton.mp hz]
                exact hold
          · rintro σ' H' ⟨bs', fd, x6, rfl, e3, tk5, hB3, hL3, hF3, hx3, wk3, s1, s2, s3, s4, s5⟩
            rw [List.length_map, hal2, List.take_of_length_le (Nat.le_refl _)] at s5
            refine ⟨bs', fd, _, _, rfl, e3, fun b ys h => tk5 b ys (tk3 b ys h), hB3, hL3, hF3, wk3, s1, s2, fun y hy => ?_, s4⟩
            rcases s3 y hy with h | h
            · rw [List.drop_eq_getElem_cons (List.getElem?_eq_some_iff.mp hh).1] at h
              rcases List.mem_cons.mp h with h | h
              · have : y = here := by rw [h]; exact (List.getElem?_eq_some_iff.mp hh).2
                exact .inr (.inr fun z hz => s5 z (mem_selA.mpr (by rw [← this]; exact hz)))
              · exact .inl h
            · exact .inr h
        · rintro σ' H' ⟨bs', fd, x5, x6, rfl, e3, tk3, hB3, hL3, hF3, wk3, s1, s2, s3, s4⟩
          rw [hlen] at s3
          refine ⟨_, rfl, ?_⟩
          refine gset ?_
          dsimp only
          have hle := wk3.le
          refine ⟨_, ?_, bs', fd, F, _, _, _, rfl, e3, hB3, hF3, hFn, wk3, s2, fun y hy => ?_, rfl⟩
          · rw [if_neg hne]
            cases fd with
            | nil =>
              rw [if_pos rfl]
              have : bs'.length = bs.length := s4
              omega
            | cons f0 fs =>
              rw [if_neg (by simp)]
              have : bs'.length = bs.length + (fs.length + 1) := s4
              omega
          · rcases s3 y hy with h | h | h
            · rw [List.drop_eq_nil_of_le (Nat.le_refl _)] at h
              cases h
            · exact .inl h
            · exact .inr h
end


end K18
namespace K18
open PySem PySem.Spec PyProof.Rows L2 He Tp ClX LiI

section
variable {P : Program} {w : World} {K : PySem.W.Frag} {mg : Str → Option Value} {base : Heap}
theorem ok_path (T : Txt K mg) : Df P w K mg base CX0 1 "path_to" ["end", "before"] spPath := by
  refine Df.mk' T.gpath_to T.fpath_to (fun _ _ _ _ _ _ us hl => match us, hl with | [_, _], _ => rfl) fun fd F => F.ok sc_path_to (fun vs H Q E h => ?_) (fun cdv A outer s' H vs Q E hr h => ?_)
  · obtain ⟨e, B, t, x, y, n, rfl, _⟩ := h
    rfl
  · obtain ⟨e, B, t, x, y, n, rfl, he, ⟨bs, hB, bw, hbs⟩, hn, hrc, hcard, q⟩ := h
    have hbn : bs.length ≤ n := by
      have := hcard _ bw.nd bw.sub
      rwa [List.length_map] at this
    have nd := sc_path_to.nd
    have hu := hu1_of hr
    have hle := bw.le
    have hB1 := hB
    refine ⟨_, PSs.nox (pss_cons (ps_set (i := 2) nd rfl (by first | exact Or.inl rfl | exact Or.inr rfl) (pe_lst (pa_cons (pv 0) pa_nil)))
   (pss_cons (ps_while PassesOwn.never (pt_cmpR op_notN (pe_dget hu (pv 1) (pe_ix ix_list (pv 2) (pe_un un_neg pe_int) (fun _ _ => rfl)) (fun _ _ => rfl)) pe_non (nomark _)) (pss_one (ps_expr (pe_bm PySem.F.plainAttrs_list PySem.F.slot_list_append PySem.F.type_list_append mt_append (pv 2) (pa_cons (pe_dget hu (pv 1) (pe_ix ix_list (pv 2) (pe_un un_neg pe_int) (fun _ _ => rfl)) (fun _ _ => rfl)) pa_nil)))))
   (pss_one (ps_ret (pe_revL (pv 2)))))), ?_⟩
    refine ⟨_, rfl, by show 1 ≤ sizeLine; decide, fun L hL => ?_⟩
    refine gset ?_
    dsimp only
    have e1 : Ext [] H (upd H L (.lst [.ref e])) := Ext.new hL
    have hL1 : (upd H L (.lst [.ref e])) L = some (.lst ([e].map V.ref)) := upd_same
    have hp1 : Paired (isAmt (upd H L (.lst [.ref e]))) [e] [y] := .cons (e1.tups _ _ he) .nil
    have hB1 := e1.keep _ _ hB (by simp)
    have hLB : L ≠ B := (ne_of_none hB hL).symm
    have bw1 := bw.ext e1
    generalize upd H L (.lst [.ref e]) = H1 at e1 hL1 hp1 hB1 bw1
    obtain ⟨v0, hv0⟩ := mem_keys ((hbs y).mpr hrc)
    obtain ⟨i0, hi0⟩ := List.mem_iff_getElem?.mp hv0
    have hi0' := (List.getElem?_eq_some_iff.mp hi0).1
    refine ⟨fun m σ' H' => ∃ (as : List Addr) (a : Addr) (ps : List Am) (p : Am) (v : V), σ' = [some (.ref e), some (.ref B), some (.ref L)] ∧ Ext [] H H' ∧ H' L = some (.lst ((as ++ [a]).map V.ref)) ∧ Paired (isAmt H') (as ++ [a]) (ps ++ [p]) ∧ H' B = some (.dT (dA bs)) ∧ BwI t x H' bs ∧
      bs[m]? = some (p, v) ∧ (ps ++ [p]).head? = some y ∧ (∀ (i : Nat) (c d : Am), (ps ++ [p])[i]? = some c → (ps ++ [p])[i + 1]? = some d → (d, c) ∈ t) ∧ ps.length + m < bs.length ∧ (x = y → ps = []), ⟨i0, [], e, [], y, v0, rfl, e1, hL1, hp1, hB1, bw1, hi0, rfl, fun i c d h1 h2 => by simp at h2, by simpa using hi0', fun _ => rfl⟩, ?_⟩
    rintro m σ' H' ⟨as, a, ps, p, v, rfl, e2, hL2, hp2, hB2, bw2, hm, hh, hc, hl, hxy⟩
    have hal := amt_len hp2
    have hat : atI ((as ++ [a]).map V.ref) (-1) = some (.ref a) := by
      rw [List.map_append]
      exact atI_last _ _
    have hia : isAmt H' a p := by
      obtain ⟨p', h1, h2⟩ := amt_at (i := as.length) (t := a) hp2 (by simp)
      rw [List.length_append, List.length_append] at hal
      have : as.length = ps.length := by simpa using hal
      rw [this] at h1
      have : p = p' := by simpa using h1
      rw [this]
      exact h2
    have hget : valV (dA bs) (amK p) = some v := valV_dA bw2.nd (List.mem_of_getElem? hm)
    have val1 : Val (tDGet (tVar 1) (tOp (rIxL K) (tVar 2) (tUn (rU fun i => .int (-i)) (tC (.int 1))))) [some (.ref e), some (.ref B), some (.ref L)] H' v := by
      intro Q hQ
      exact ⟨_, rfl, _, rfl, ⟨_, rfl, _, _, _, _, rfl, rfl, SqL.of hL2, hat, B, _, rfl, by rw [← hget]; exact DGet.t (k := amK p) hB2 hia, hQ⟩⟩
    have hvd : v = .non ∨ ∃ u, v = .ref u := (bw2.val m p v hm).elim (fun h => .inl h.2) fun ⟨u, _, _, _, h, _⟩ => .inr ⟨u, h⟩
    rcases hvd with rfl | ⟨u, rfl⟩
    · refine ans_notN val1 rfl _ ?_
      refine iteF ?_
      refine ⟨_, rfl, _, _, rfl, SqL.of hL2, fun R hR => ?_⟩
      have e3 : Ext [] H' (upd H' R (.lst (((as ++ [a]).map V.ref).reverse))) := Ext.new hR
      have hpx : p = x := by
        rcases bw2.val m p _ hm with h | ⟨_, _, _, _, h, _⟩
        · exact h.1
        · cases h
      refine q R (ps ++ [p]).reverse _ (e2.none hR (by simp)) (e2.trans e3) ⟨(as ++ [a]).reverse, by rw [upd_same, List.map_reverse], amt_rev (amt_ext e3 hp2)⟩ ⟨?_, ?_, fun i c d h1 h2 => ?_, fun hxy2 => by rw [hxy hxy2, hpx]; rfl⟩ ?_
      · rw [List.head?_reverse]
        simp [hpx]
      · rw [List.getLast?_reverse]
        exact hh
      · exact rev_pairs hc h1 h2
      · rw [List.length_reverse, List.length_append]
        show ps.length + 1 ≤ _
        omega
    · refine ans_notN val1 rfl _ ?_
      refine iteT ?_
      refine ⟨_, fun _ _ h => h, ?_⟩
      obtain ⟨pu, j, w2, hu2, hpt, hjm, hbj⟩ : ∃ pu j w2, isAmt H' u pu ∧ (pu, p) ∈ t ∧ j < m ∧ bs[j]? = some (pu, w2) := by
        rcases bw2.val m p _ hm with h | ⟨u', pu, j, w2, h1, h2, h3, h4, h5⟩
        · cases h.2
        · cases h1
          exact ⟨pu, j, w2, h2, h3, h4, h5⟩
      have hL3 : H' L = some (.lst ((as ++ [a]).map V.ref)) := hL2
      have eL : Ext [L] H' (upd H' L (.lst ((as ++ [a]).map V.ref ++ [.ref u]))) := ext_lst hL2
      refine ⟨_, rfl, .inl ⟨rfl, _, SqL.of hL2⟩, ?_⟩
      refine val1 _ ⟨L, _, _, rfl, rfl, hL2, by rw [List.length_map, hal, List.length_append]; exact Evl.sz_lt (by show ps.length + 1 < _; omega), ?_⟩
      refine ⟨j, hjm, as ++ [a], u, ps ++ [p], pu, w2, rfl, e2.fresh hL, by rw [upd_same, List.map_append (l₁ := as ++ [a])]; rfl, amt_snoc (eL.tups _ _ hu2) (amt_ext eL hp2), eL.keep _ _ hB2 (by simpa using Ne.symm hLB), bw2.ext eL, hbj, ?_, fun i c d h1 h2 => ?_, by rw [List.length_append]; show ps.length + 1 + j < _; omega, fun hxy2 => ?_⟩
      · rw [List.head?_append, hh]
        rfl
      · by_cases hi : i + 1 < (ps ++ [p]).length
        · rw [List.getElem?_append_left (by omega)] at h1
          rw [List.getElem?_append_left hi] at h2
          exact hc i c d h1 h2
        · have hi2 := (List.getElem?_eq_some_iff.mp h2).1
          have hi3 : i = ps.length := by
            simp at hi hi2
            omega
          subst hi3
          have e1 : p = c := by simpa using h1
          have e2 : pu = d := by simpa using h2
          rw [← e1, ← e2]
          exact hpt
      · exfalso
        have hps := hxy hxy2
        subst hps
        have hpy : p = y := by simpa using hh
        rw [hpy, ← hxy2] at hm
        cases bw2.root hm
end


end K18
namespace K18
open PySem PySem.Spec PyProof.Rows L2 He Tp ClX LiI

section
variable {P : Program} {w : World} {K : PySem.W.Frag} {mg : Str → Option Value} {base : Heap}
abbrev cO (K : PySem.W.Frag) : Addr := ga K "Order"
def spHas (C : Addr) : Sp := fun vs H Q _ => ∃ p v dv dx D L ws t th, vs = [.ref p, v] ∧ Av H v dv ∧ OrdAt C H p dx D L ws t th ∧ Q (.bl (ownD (ws.map (·.1)) dv)) H
theorem ok_has (T : Txt K mg) {fd : FuncData} (F : FnM K "Order" "_has" "Order._has" s_Order__has [] fd) : FnOk P w K mg base CX0 3 (ma K (cO K) "_has") fd ["self", "amount"] (spHas (cO K)) := by
  have D_is_amount := ok_is_amount (P := P) (w := w) (base := base) T
  refine F.ok sc_Order__has (fun vs H Q E h => ?_) (fun cdv A outer s H vs Q E hr h => ?_)
  · obtain ⟨p, v, dv, dx, D, L, ws, t, th, rfl, _⟩ := h
    rfl
  · obtain ⟨p, v, dv, dx, D, L, ws, t, th, rfl, av, o, q⟩ := h
    have hu := hu1_of hr
    have hr_is_amount := hr.mono (show 2 ≤ 2 by decide)
    refine ⟨_, PSs.nox (pss_one (ps_ret (pe_and (pe_cd D_is_amount hr_is_amount (by rfl) pass0 (pa_cons (pv 1) pa_nil)) (pe_one (pe_cmp (pc_din hu (pv 1) (pe_fld (pv 0) rfl)) rfl))))), ?_⟩
    have hown : ownD (ws.map (·.1)) dv = (amtB dv && ((ws.map (·.1)).map dAmt).any fun z => PyData.eqv z dv) := ownD_eq o.wd
    refine ⟨_, rfl, v, dv, rfl, av, _, rfl, ?_⟩
    cases hb : amtB dv with
    | false =>
      rw [hb, Bool.false_and] at hown
      refine iteF ?_
      rw [hown] at q
      exact q
    | true =>
      refine iteT ?_
      obtain ⟨u, x, rfl, hx, rfl⟩ := amt_of av hb
      refine ⟨_, rfl, _, rfl, p, cO K, dx, _, _, rfl, o.ob, T.clOrder, T.nOrder_below, rfl, D, _, rfl, DGet.t (k := amK x) o.dt hx, ?_⟩
      rw [isSome_dA]
      rw [ownD_amt] at q
      exact q
def spCheckOrd (K : PySem.W.Frag) (C : Addr) : Sp := fun vs H Q E => ∃ p v dv dx D L ws t th, vs = [.ref p, v] ∧ Av H v dv ∧ OrdAt C H p dx D L ws t th ∧ (ownD (ws.map (·.1)) dv = false → Leaves K E (ga K "BadAmount") v H) ∧ (ownD (ws.map (·.1)) dv = true → Q .non H)
theorem ok_check_ord (T : Txt K mg) {fd : FuncData} (F : FnM K "Order" "_check_own" "Order._check_own" s_Order__check_own [] fd) : FnOk P w K mg base (L2.CX P w) 5 (ma K (cO K) "_check_own") fd ["self", "amount"] (spCheckOrd K (cO K)) := by
  have D_dye := dye (P := P) (w := w) (base := base) T
  obtain ⟨fh, fh_⟩ := T.fOrder_has
  have Fh := ok_has (P := P) (w := w) (base := base) T fh_
  have bh : Binds K fh ["self", "amount"] [] := fh_.bindsN (fun _ _ _ _ _ _ us hl => match us, hl with | [_, _], _ => rfl)
  refine F.ok sc_Order__check_own (fun vs H Q E h => ?_) (fun cdv A outer s H vs Q E hr h => ?_)
  · obtain ⟨p, v, dv, dx, D, L, ws, t, th, rfl, _⟩ := h
    rfl
  · obtain ⟨p, v, dv, dx, D, L, ws, t, th, rfl, av, o, kN, kY⟩ := h
    have hrh := hr.mono (show 3 ≤ 4 by decide)
    refine ⟨_, (pss_one (ps_if (pt_not (pt_val (pe_meth (pv 0) T.clOrder T.mOrder_has Fh hrh bh .nil pass0 (pa_cons (pv 1) pa_nil)))) (pss_one (ps_raiseX rfl T.xBadAmount D_dye (hr.mono (by decide)) (takes_of rfl rfl rfl rfl) (by rfl) T.gBadAmount (pv 1))) pss_nil)), ?_⟩
    refine ⟨_, rfl, p, dx, _, rfl, o.ob, rfl, _, rfl, p, v, dv, dx, D, L, ws, t, th, rfl, av, o, _, rfl, ?_⟩
    cases hb : ownD (ws.map (·.1)) dv with
    | false => exact iteT ⟨v, rfl, leaves_now T.xBadAmount (kN hb) Ext.refl⟩
    | true => exact iteF (kY hb)
/-- order.chain(more, less) -/
def spChain (K : PySem.W.Frag) (C : Addr) : Sp := fun vs H Q E => ∃ p v g dv dg dx D L ws t th, vs = [.ref p, v, g] ∧ Av H v dv ∧ Av H g dg ∧ OrdAt C H p dx D L ws t th ∧
  (ownD (ws.map (·.1)) dv = false → Leaves K E (ga K "BadAmount") v H) ∧ (ownD (ws.map (·.1)) dv = true → ownD (ws.map (·.1)) dg = false → Leaves K E (ga K "BadAmount") g H) ∧
  (∀ x y, dv = dAmt x → dg = dAmt y → x ∈ ws.map (·.1) → y ∈ ws.map (·.1) → ¬ Rc t x y → Q .non H) ∧
  (∀ x y, dv = dAmt x → dg = dAmt y → x ∈ ws.map (·.1) → y ∈ ws.map (·.1) → Rc t x y → ∀ l ps H', H l = none → Ext [] H H' → AmtAt H' l ps → Pth t x y ps → ps.length ≤ ws.length → Q (.ref l) H')
theorem ok_chain (T : Txt K mg) {fd : FuncData} (F : FnM K "Order" "chain" "Order.chain" s_Order_chain [] fd) : FnOk P w K mg base (L2.CX P w) 6 (ma K (cO K) "chain") fd ["self", "more", "less"] (spChain K (cO K)) := by
  have D_path_to := ok_path (P := P) (w := w) (base := base) T
  obtain ⟨fo, fo_⟩ := T.fOrder_check_own
  have Fo := ok_check_ord (P := P) (w := w) (base := base) T fo_
  have bo : Binds K fo ["self", "amount"] [] := fo_.bindsN (fun _ _ _ _ _ _ us hl => match us, hl with | [_, _], _ => rfl)
  refine F.ok sc_Order_chain (fun vs H Q E h => ?_) (fun cdv A outer s H vs Q E hr h => ?_)
  · obtain ⟨p, v, g, dv, dg, dx, D, L, ws, t, th, rfl, _⟩ := h
    rfl
  · obtain ⟨p, v, g, dv, dg, dx, D, L, ws, t, th, rfl, av, ag, o, k1, k2, k3, k4⟩ := h
    have hu := hu1_of hr
    have hro := hr.mono (show 5 ≤ 5 by decide)
    have hr_path_to := hr.mono (show 1 ≤ 5 by decide)
    refine ⟨_, (pss_cons (ps_expr (pe_meth (pv 0) T.clOrder T.mOrder_check_own Fo hro bo .nil (passes_call (takes_of rfl rfl rfl rfl) (fun _ _ _ _ z => z)) (pa_cons (pv 1) pa_nil)))
   (pss_cons (ps_expr (pe_meth (pv 0) T.clOrder T.mOrder_check_own Fo hro bo .nil (passes_call (takes_of rfl rfl rfl rfl) (fun _ _ _ _ z => z)) (pa_cons (pv 2) pa_nil)))
   (pss_one (ps_ret (pe_ifExp (pt_cmp (pc_din hu (pv 2) (pe_dget hu (pe_fld (pv 0) rfl) (pv 1) (fun _ _ => rfl)))) (pe_cd D_path_to hr_path_to (by rfl) pass0 (pa_cons (pv 2) (pa_cons (pe_dget hu (pe_fld (pv 0) rfl) (pv 1) (fun _ _ => rfl)) pa_nil))) pe_non))))), ?_⟩
    refine ⟨_, rfl, p, dx, _, rfl, o.ob, rfl, _, rfl, p, v, dv, dx, D, L, ws, t, th, rfl, av, o, k1, fun h1 => ?_⟩
    refine ⟨_, rfl, p, dx, _, rfl, o.ob, rfl, _, rfl, p, g, dg, dx, D, L, ws, t, th, rfl, ag, o, k2 h1, fun h2 => ?_⟩
    have hb1 : amtB dv = true := by
      rw [ownD_eq o.wd, Bool.and_eq_true] at h1
      exact h1.1
    have hb2 : amtB dg = true := by
      rw [ownD_eq o.wd, Bool.and_eq_true] at h2
      exact h2.1
    obtain ⟨a, x, rfl, hx, rfl⟩ := amt_of av hb1
    obtain ⟨b, y, rfl, hy, rfl⟩ := amt_of ag hb2
    rw [ownD_amt] at h1 h2
    have hx1 := of_decide_eq_true h1
    have hy1 := of_decide_eq_true h2
    obtain ⟨bv, hbv⟩ := mem_keys hx1
    obtain ⟨B, hB, wk⟩ := o.wk _ hbv
    have hB : bv = .ref B := hB
    subst hB
    have hget : DGet H D (.ref a) (some (.ref B)) := by
      rw [← valV_dA o.nd hbv]
      exact DGet.t (k := amK x) o.dt hx
    obtain ⟨bs, hbs, bw, hiff⟩ := id wk
    refine ⟨_, rfl, _, rfl, p, cO K, dx, _, _, rfl, o.ob, T.clOrder, T.nOrder_below, rfl, _, rfl, D, _, rfl, hget, B, _, rfl, DGet.t (k := amK y) hbs hy, _, rfl, ?_⟩
    rw [isSome_dA]
    refine ifb (fun h => ?_) (fun h => ?_)
    · have hr1 : Rc t x y := (hiff y).mp (of_decide_eq_true h)
      refine ⟨_, rfl, _, rfl, p, cO K, dx, _, _, rfl, o.ob, T.clOrder, T.nOrder_below, rfl, _, rfl, D, _, rfl, hget, b, B, t, x, y, ws.length, rfl, hy, wk, o.tn, hr1, fun zs hz1 hz2 => ?_, fun l ps H' hl e am pt hn => ?_⟩
      · have := nodup_le hz1 (m := ws.map (·.1)) fun z hz => by
          rcases List.mem_cons.mp (rc_end (hz2 z hz)) with rfl | h3
          · exact hx1
          · obtain ⟨q, hq, rfl⟩ := List.mem_map.mp h3
            exact (o.cl q hq).2
        rwa [List.length_map] at this
      exact k4 x y rfl rfl hx1 hy1 hr1 l ps H' hl e am pt hn
    · exact k3 x y rfl rfl hx1 hy1 fun hc => of_decide_eq_false h ((hiff y).mpr hc)
end


end K18
namespace K18
open PySem PySem.Spec PyProof.Rows L2 He Tp ClX LiI

section
variable {P : Program} {w : World} {K : PySem.W.Frag} {mg : Str → Option Value} {base : Heap}
def spOrdInit (C O : Addr) : Sp := fun vs H Q _ => ∃ o dx p i A k t ps c d fs ts ds us, vs = [.ref o, .ref p] ∧ H o = some (.ins O dx []) ∧ BkI C H p i A k t ps c d fs ts ds us ∧ (∀ f ∈ fs, inA (amtD k c d d.length) f) ∧
  ∀ D L ws H', H L = none → Ext [o] H H' → OrdAt O H' o dx D L ws (pairsD k t c d fs) (thereD k c d fs) → ws.map (·.1) = amtD k c d d.length → Q .non H'
theorem ok_ordInit (T : Txt K mg) {fd : FuncData} (F : FnM K "Order" "__init__" "Order.__init__" s_Order___init__ [] fd) : FnOk P w K mg base CX0 8 (ma K (cO K) "__init__") fd ["self", "book"] (spOrdInit (cB K) (cO K)) := by
  have D_pairs := ok_pairs (P := P) (w := w) (base := base) T
  have D_steps_of := ok_stepsA (P := P) (w := w) (base := base) T
  have D_walk := ok_walkA (P := P) (w := w) (base := base) T
  have D_told_there := ok_told_there (P := P) (w := w) (base := base) T
  obtain ⟨fa, fa_⟩ := T.famounts
  have Fa := ok_amounts (P := P) (w := w) (base := base) T fa_
  have ba : Binds K fa ["self"] [] := fa_.bindsN (fun _ _ _ _ _ _ us hl => match us, hl with | [_], _ => rfl)
  refine F.ok sc_Order___init__ (fun vs H Q E h => ?_) (fun cdv A outer s H vs Q E hr h => ?_)
  · obtain ⟨o, dx, p, i, A, k, t, ps, c, d, fs, ts, ds, us, rfl, _⟩ := h
    rfl
  · obtain ⟨o, dx, p, i, A', k, t, ps, c, d, fs, ts, ds, us, rfl, ho, b, hfs, q⟩ := h
    have nd := sc_Order___init__.nd
    have hu := hu1_of hr
    have hr_pairs := hr.mono (show 7 ≤ 7 by decide)
    have hr_told_there := hr.mono (show 7 ≤ 7 by decide)
    have hra := hr.mono (show 6 ≤ 7 by decide)
    have hr_steps_of := hr.mono (show 1 ≤ 7 by decide)
    have hr_walk := hr.mono (show 1 ≤ 7 by decide)
    have hin : (pairsD k t c d fs).length ≤ 20000 := pairsD_len b.dl b.fl
    refine ⟨_, PSs.nox (pss_cons (ps_set (i := 2) nd rfl (by first | exact Or.inl rfl | exact Or.inr rfl) (pe_cd D_steps_of hr_steps_of (by rfl) pass0 (pa_cons (pe_cd D_pairs hr_pairs (by rfl) pass0 (pa_cons (pv 1) pa_nil)) pa_nil)))
   (pss_cons (ps_fld (pv 0) (pe_dcT (own := [("amount", 3)]) (g := gName 3) (tt := tYes) ⟨(by rfl), (Nat.lt_of_succ_lt hu), nd, (pi_list (pe_meth0 (pv 1) T.cl T.mamounts Fa hra ba .nil pass0)), (blkOk_by (own := [("amount", 3)]) (N := n_Order___init__) (sc := defScope s_Order___init__) (by decide +kernel)), (fun _ _ _ _ _ => pg_name (i := 3) nd rfl (by first | exact Or.inl rfl | exact Or.inr rfl)), (fun _ _ _ _ _ => pts_nil), (fun _ _ _ _ _ => (pv 3)), (fun _ _ _ _ _ => (pe_cd D_walk hr_walk (by rfl) pass0 (pa_cons (pe_lst (pa_cons (pv 3) pa_nil)) (pa_cons (pv 2) pa_nil)))), (by intro _; rfl)⟩) rfl)
   (pss_one (ps_fld (pv 0) (pe_cd D_told_there hr_told_there (by rfl) pass0 (pa_cons (pv 1) pa_nil)) rfl)))), ?_⟩
    refine ⟨_, rfl, p, i, A', k, t, ps, c, d, fs, ts, ds, us, rfl, b, fun l1 H1 hl1 e1 pr => ?_⟩
    refine ⟨l1, _, rfl, pr, hin, fun SD ks H2 e2 S2 => ?_⟩
    refine gset ?_
    dsimp only
    have b2 := b.ext (e1.trans e2)
    have ho2 := (e1.trans e2).keep _ _ ho (by simp)
    have e02 := e1.trans e2
    clear pr e1 e2 hl1
    -- what each amount leads to
    refine ⟨_, rfl, p, A'.dx, _, rfl, b2.B.ob, fsB_no2 (.inr (.inr (.inl rfl))), p, i, A', k, c, ts, ps, ds, us, d, rfl, b2.B, b2.D, b2.G, fun lo H3 hlo e3 am => ?_⟩
    obtain ⟨as, hlo3, hp3⟩ := am
    have hal := amt_len hp3
    have S3 := S2.ext e3 (by simp) (by simp)
    have b3 := b2.ext e3
    have ho3 := e3.keep _ _ ho2 (by simp)
    have e03 := e02.trans e3
    clear S2 b2 ho2 e02 e3 hlo
    refine ⟨lo, rfl, ⟨_, SqL.of hlo3⟩, fun D hD => ?_⟩
    have hDo : D ≠ o := (ne_of_none ho3 hD).symm
    have hDn : H D = none := e03.none hD (by simp)
    refine dcT_list (ys := as.map V.ref) (fun i H' => Ext [] H3 H' ∧ ∃ ws, H' D = some (.dT (dA ws)) ∧ ws.map (·.1) = (amtD k c d d.length).take i ∧ ∀ q ∈ ws, ∃ B, q.2 = .ref B ∧ B ≠ D ∧ WalkAt H' B (pairsD k t c d fs) q.1) ⟨Ext.new hD, [], upd_same, rfl, by simp⟩ ?_ ?_ ?_
    · rintro i' H' _ ⟨e, _⟩
      exact SqL.of (e.keep _ _ hlo3 (by simp))
    · rintro i' y H' hy ⟨e, ws, hDw, hws, hwk⟩
      rw [List.getElem?_map] at hy
      obtain ⟨u, hu1, rfl⟩ := Option.map_eq_some_iff.mp hy
      obtain ⟨x, hx, hux⟩ := amt_at hp3 hu1
      have hi := (List.getElem?_eq_some_iff.mp hx).1
      refine ⟨wipe1, ?_⟩
      refine tyes ?_
      refine ⟨_, rfl, _, rfl, by show 1 ≤ sizeLine; decide, fun s hs => ⟨_, rfl, ?_⟩⟩
      have e1 : Ext [] H' (upd H' s (.lst [.ref u])) := Ext.new hs
      refine ⟨s, SD, u, x, ks, _, rfl, upd_same, (e.trans e1).tups _ _ hux, (S3.ext e (by simp) (by simp)).ext e1 (by simp) (by simp), hin, fun B H4 hBn e4 wk => ?_⟩
      have e14 := e1.trans e4
      have hDw4 := e14.keep _ _ hDw (by simp)
      have hBD : B ≠ D := fun h => by
        have := e1.keep _ _ hDw (by simp)
        rw [← h, hBn] at this
        cases this
      have hnew : x ∉ ws.map (·.1) := by
        rw [hws]
        intro hc
        obtain ⟨j, hj⟩ := List.mem_iff_getElem?.mp hc
        have hj2 := (List.getElem?_eq_some_iff.mp hj).1
        rw [List.length_take] at hj2
        rw [List.getElem?_take_of_lt (by omega)] at hj
        have := (List.getElem?_inj hi (amtD_nodup (k := k) (c := c) (d := d) d.length)).mp (hx.trans hj.symm)
        omega
      have hwl : ws.length ≤ 2 * d.length := by
        have h1 := congrArg List.length hws
        rw [List.length_map, List.length_take] at h1
        have h2 := amtD_len (k := k) (c := c) (d := d) d.length
        omega
      have hd := b.dl
      refine ⟨_, amK x, u, rfl, hDw4, (e.trans e14).tups _ _ hux, by rw [dA_len]; exact Evl.sz_lt (by omega), ?_⟩
      rw [putK_dA hnew]
      have eD : Ext [D] H4 (upd H4 D (.dT (dA (ws ++ [(x, V.ref B)])))) := ext_at (not_tup_dT hDw4)
      refine ⟨(e.trans e14).fresh hD, ws ++ [(x, V.ref B)], upd_same, ?_, fun q hq => ?_⟩
      · rw [List.map_append, hws, take_snoc hx]
        rfl
      · rcases List.mem_append.mp hq with hq | hq
        · obtain ⟨B', h1, h2, h3⟩ := hwk q hq
          exact ⟨B', h1, h2, (h3.ext e14 (by simp)).ext eD (by simpa using h2)⟩
        · rw [List.mem_singleton.mp hq]
          exact ⟨B, rfl, hBD, wk.ext eD (by simpa using hBD)⟩
    · rintro H' ⟨e, ws, hDw, hws, hwk⟩
      rw [List.take_of_length_le (by rw [List.length_map, hal]; exact Nat.le_refl _)] at hws
      have ho4 := e.keep _ _ ho3 (by simp)
      have b4 := b3.ext e
      refine ⟨_, rfl, o, cO K, dx, [], rfl, ho4, T.clOrder, T.nOrder_below, (by show 0 < 1000; decide), ?_⟩
      rw [show putF ("_below" : Str) (V.ref D) [] = [(("_below" : Str), V.ref D)] from rfl]
      have eo : Ext [o] H' (upd H' o (.ins (cO K) dx [("_below", .ref D)])) := ext_at fun xs z => by rw [ho4] at z; cases z
      have b5 := b4.extM eo (b4.B.off_ins ho4)
      have hD5 := eo.keep _ _ hDw (by simpa using hDo)
      have hw5 : ∀ q ∈ ws, ∃ B, q.2 = .ref B ∧ WalkAt (upd H' o (.ins (cO K) dx [("_below", .ref D)])) B (pairsD k t c d fs) q.1 := fun q hq => by
        obtain ⟨B, h1, _, h3⟩ := hwk q hq
        refine ⟨B, h1, h3.ext eo ?_⟩
        intro hm
        have := List.mem_singleton.mp hm
        obtain ⟨bs, hb, _⟩ := h3
        rw [this, ho4] at hb
        cases hb
      have ho5 : (upd H' o (.ins (cO K) dx [("_below", .ref D)])) o = some (.ins (cO K) dx [("_below", .ref D)]) := upd_same
      have e5 : Ext [o] H (upd H' o (.ins (cO K) dx [("_below", .ref D)])) := (e03.trans e).nil.trans eo
      generalize upd H' o (.ins (cO K) dx [("_below", .ref D)]) = H5 at b5 hD5 hw5 ho5 e5
      refine ⟨_, rfl, p, i, A', k, t, ps, c, d, fs, ts, ds, us, rfl, b5, fun L H6 hL e6 am => ?_⟩
      have ho6 := e6.keep _ _ ho5 (by simp)
      refine ⟨_, rfl, o, cO K, dx, _, rfl, ho6, T.clOrder, T.nOrder_told, (by show 1 < 1000; decide), ?_⟩
      rw [show putF ("_told" : Str) (V.ref L) [(("_below" : Str), V.ref D)] = [(("_below" : Str), V.ref D), (("_told" : Str), V.ref L)] from rfl]
      have eo6 : Ext [o] H6 (upd H6 o (.ins (cO K) dx [("_below", .ref D), ("_told", .ref L)])) := ext_at fun xs z => by rw [ho6] at z; cases z
      have hLo : L ≠ o := fun h => by rw [h, ho5] at hL; cases hL
      refine q D L ws _ (e5.none hL (by simpa using hLo)) ((e5.trans e6.nil).trans eo6) ⟨upd_same, eo6.keep _ _ (e6.keep _ _ hD5 (by simp)) (by simpa using hDo), by rw [hws]; exact amtD_nodup _, fun q hq => ?_, am.ext eo6 (by simpa using hLo), hin, by rw [hws]; exact amtD_word _, by rw [hws]; exact pairsD_in hfs⟩ hws
      obtain ⟨B, h1, h3⟩ := hw5 q hq
      refine ⟨B, h1, (h3.ext e6 (by simp)).ext eo6 ?_⟩
      intro hm
      have := List.mem_singleton.mp hm
      obtain ⟨bs, hb, _⟩ := h3
      rw [this, ho5] at hb
      cases hb
end


end K18
namespace K18
open PySem PySem.Spec PyProof.Rows L2 He Tp ClX LiI

section
variable {P : Program} {w : World} {K : PySem.W.Frag} {mg : Str → Option Value} {base : Heap}
theorem ok_below (T : Txt K mg) : Df P w K mg base CX0 1 "_law_below" ["_law_amounts_here", "_law_steps_here"] spBelow := by
  refine Df.mk' T.g_law_below T.f_law_below (fun _ _ _ _ _ _ us hl => match us, hl with | [_, _], _ => rfl) fun fd F => F.ok sc__law_below (fun vs H Q E h => ?_) (fun cdv A outer s H vs Q E hr h => ?_)
  · obtain ⟨a, s, as, t, rfl, _⟩ := h
    rfl
  · obtain ⟨a, s', as, t, rfl, ⟨ads, ha, hp⟩, ⟨vs, hs, prs, rfl, hpr⟩, nda, hn, hin, q⟩ := h
    have nd := sc__law_below.nd
    have hu := hu1_of hr
    have hal := amt_len hp
    have hsl := pairedG_len hpr
    refine ⟨_, PSs.nox (pss_cons (ps_set (i := 2) nd rfl (by first | exact Or.inl rfl | exact Or.inr rfl) pe_dnewT)
   (pss_cons (ps_for PassesOwn.never rfl (pi_list (pv 0)) (pg_name (i := 3) nd rfl (by first | exact Or.inl rfl | exact Or.inr rfl))
   (pss_cons (ps_set (i := 4) nd rfl (by first | exact Or.inl rfl | exact Or.inr rfl) (pe_dispT (Nat.lt_of_succ_lt hu) (pps_cons (pv 3) pe_bl pps_nil) (by rfl) (by rfl) (fun z => nomatch z) (by decide)))
   (pss_cons (ps_for PassesOwn.never rfl (pi_range1 (by rfl) T.brange (pa_cons (pe_callB call_len_seq (by rfl) T.blen PySem.boot_len (pa_cons (pv 0) pa_nil)) pa_nil)) (pg_name (i := 5) nd rfl (by first | exact Or.inl rfl | exact Or.inr rfl))
   (pss_cons (ps_set (i := 6) nd rfl (by first | exact Or.inl rfl | exact Or.inr rfl) (pe_callB call_len_dT (by rfl) T.blen PySem.boot_len (pa_cons (pv 4) pa_nil)))
   (pss_cons (ps_for PassesOwn.never rfl (pi_list (pv 1)) (pg_name (i := 7) nd rfl (by first | exact Or.inl rfl | exact Or.inr rfl))
   (pss_one (ps_if (pt_cmp (pc_din hu (pe_ix ix_tup (pv 7) pe_int (fun _ _ => rfl)) (pv 4))) (pss_one (ps_dput hu (pv 4) (pe_ix ix_tup (pv 7) pe_int (fun _ _ => rfl)) pe_bl rfl)) pss_nil)))
   (pss_one (ps_if (pt_cmpR op_eq (pe_callB call_len_dT (by rfl) T.blen PySem.boot_len (pa_cons (pv 4) pa_nil)) (pv 6) (nomark _)) (pss_one ps_break) pss_nil)))))
   (pss_one (ps_dput hu (pv 2) (pv 3) (pe_callTy (call_list_dT rfl) (by rfl) T.blist (by decide +kernel) (pa_cons (pv 4) pa_nil)) rfl)))))
   (pss_one (ps_ret (pv 2))))), ?_⟩
    intro D hD
    refine gset ?_
    dsimp only
    have e0 : Ext [] H (upd H D (.dT [])) := Ext.new hD
    refine ⟨_, rfl, a, rfl, ⟨_, SqL.of (e0.keep _ _ ha (by simp))⟩, for_list (xs := ads.map V.ref) (fun i σ' H' => ∃ x3 x4 x5 x6 x7 ws, σ' = [some (.ref a), some (.ref s'), some (.ref D), x3, x4, x5, x6, x7] ∧ Ext [] H H' ∧ H' D = some (.dT (dA ws)) ∧ ws.map (·.1) = as.take i ∧ ∀ q ∈ ws, ∃ l rs, q.2 = .ref l ∧ l ≠ D ∧ AmtAt H' l rs ∧ rs.length ≤ as.length ∧ (∀ y ∈ rs, y ∈ as) ∧ ∀ y, y ∈ rs ↔ Rc t q.1 y) ⟨none, none, none, none, none, [], rfl, e0, upd_same, rfl, by simp⟩ ?_ ?_ ?_⟩
    · rintro i σ' H' _ ⟨_, _, _, _, _, _, _, e, _⟩
      exact SqL.of (e.keep _ _ ha (by simp))
    · rintro i y σ' H' hy ⟨x3, x4, x5, x6, x7, ws, rfl, e, hDw, hws, hwk⟩
      rw [List.getElem?_map] at hy
      obtain ⟨u, hu1, rfl⟩ := Option.map_eq_some_iff.mp hy
      obtain ⟨x, hx, hux⟩ := amt_at hp hu1
      have hxa := List.mem_of_getElem? hx
      refine gset ?_
      dsimp only
      -- the first mark
      intro L hL
      have eL : Ext [] H' (upd H' L (.dT [])) := Ext.new hL
      refine ⟨_, rfl, upd_same, [(amK x, .bl true)], .cons ⟨⟨u, rfl, (e.trans eL).tups _ _ hux⟩, rfl⟩ .nil, by show 1 ≤ 15; decide, ?_⟩
      rw [upd_upd]
      refine gset ?_
      dsimp only
      have hm : mergeT [] [(amK x, V.bl true)] = dA (mkT [x]) := rfl
      rw [hm]
      have hDL : L ≠ D := (ne_of_none hDw hL).symm
      have e1 : Ext [] H' (upd H' L (.dT (dA (mkT [x])))) := Ext.new hL
      have hL1 : (upd H' L (.dT (dA (mkT [x])))) L = some (.dT (dA (mkT [x]))) := upd_same
      have hD1 := e1.keep _ _ hDw (by simp)
      have hwk1 : ∀ q ∈ ws, ∃ l rs, q.2 = .ref l ∧ l ≠ D ∧ AmtAt (upd H' L (.dT (dA (mkT [x])))) l rs ∧ rs.length ≤ as.length ∧ (∀ y ∈ rs, y ∈ as) ∧ ∀ y, y ∈ rs ↔ Rc t q.1 y := fun q hq => by
        obtain ⟨l, rs, h1, h2, h3, h4⟩ := hwk q hq
        exact ⟨l, rs, h1, h2, h3.ext e1 (by simp), h4⟩
      have hLn : H L = none := e.none hL (by simp)
      have ee := e.trans e1
      generalize upd H' L (.dT (dA (mkT [x]))) = H1 at e1 hL1 hD1 hwk1 ee
      have hux1 := ee.tups _ _ hux
      have ha1 := ee.keep _ _ ha (by simp)
      clear eL e hDw hwk
      have hll : (ads.map V.ref).length = as.length := by rw [List.length_map, hal]
      -- what is known of the marks
      refine ⟨_, rfl, a, _, rfl, .inl (SqL.of ha1), _, rfl, by omega, by omega, for_rangeB (n := ((ads.map V.ref).length : Int).toNat)
        (fun σ' H' => ∃ x5 x6 x7 rs, σ' = [some (.ref a), some (.ref s'), some (.ref D), some (.ref u), some (.ref L), x5, x6, x7] ∧ Ext [L] H1 H' ∧ H' L = some (.dT (dA (mkT rs))) ∧ RbI as t x rs ∧ RbC t rs)
        (fun i σ' H' => ∃ x5 x6 x7 rs, σ' = [some (.ref a), some (.ref s'), some (.ref D), some (.ref u), some (.ref L), x5, x6, x7] ∧ Ext [L] H1 H' ∧ H' L = some (.dT (dA (mkT rs))) ∧ RbI as t x rs ∧ i + 1 ≤ rs.length)
        ⟨_, _, _, [x], rfl, Ext.refl, hL1, RbI.one hxa, Nat.le_refl _⟩ ?_ ?_ ?_⟩
      · rintro D' hD' i2 σ' H' hi2 ⟨x5, x6, x7, rs, rfl, e2, hL2, R, hlen⟩
        have hle := R.le
        refine gset ?_
        refine ⟨_, rfl, L, _, rfl, hL2, ?_⟩
        refine gset ?_
        rw [mkT_len]
        have hs2 := e2.keep _ _ (ee.keep _ _ hs (by simp)) (by simpa using (ne_of_none hs hLn))
        refine ⟨_, rfl, s', rfl, ⟨_, SqL.of hs2⟩, for_list (xs := prs.map V.ref) (fun j σ' H' => ∃ x7 ws', σ' = [some (.ref a), some (.ref s'), some (.ref D), some (.ref u), some (.ref L), some (.int (0 + (i2 : Int))), some (.int ((rs.length : Nat) : Int)), x7] ∧ Ext [L] H1 H' ∧ H' L = some (.dT (dA (mkT ws'))) ∧ RbI as t x ws' ∧ RbJ t rs ws' j) ⟨_, rs, rfl, e2, hL2, R, .inl ⟨rfl, by simp⟩⟩ ?_ ?_ ?_⟩
        · rintro j σ' H' _ ⟨_, _, _, e3, _⟩
          exact SqL.of (e3.keep _ _ (ee.keep _ _ hs (by simp)) (by simpa using (ne_of_none hs hLn)))
        · rintro j y σ' H' hy ⟨x7, ws', rfl, e3, hL3, R3, J⟩
          rw [List.getElem?_map] at hy
          obtain ⟨z, hz, rfl⟩ := Option.map_eq_some_iff.mp hy
          obtain ⟨pq, hpq, hT⟩ := paired_atG hpr hz
          obtain ⟨c1, c2, h1, h2, h3⟩ := hT
          have t1 := e3.tups _ _ (ee.tups _ _ h1)
          have t2 := e3.tups _ _ (ee.tups _ _ h2)
          have t3 := e3.tups _ _ (ee.tups _ _ h3)
          have hmem := List.mem_of_getElem? hpq
          have hle3 := R3.le
          refine gset ?_
          dsimp only
          refine ⟨_, rfl, z, _, 0, .ref c1, rfl, rfl, .inl (.inl t1), rfl, _, rfl, L, _, rfl, DGet.t (k := amK pq.1) hL3 t2, _, rfl, ?_⟩
          rw [mkT_in]
          refine ifb (fun hb => ?_) (fun hb => ?_)
          · have hb1 := of_decide_eq_true hb
            refine ⟨_, rfl, _, rfl, z, _, 1, .ref c2, rfl, rfl, .inl (.inl t1), rfl, L, _, rfl, DPut.t (k := amK pq.2) hL3 t3 (by rw [mkT_len]; exact Evl.sz_lt (by omega)), ?_⟩
            by_cases hc : pq.2 ∈ ws'
            · rw [mkT_old hc]
              exact ⟨_, ws', rfl, e3.mut (by simp) (fun xs zz => by rw [hL1] at zz; cases zz), upd_same, R3, J.skip hpq fun _ => hc⟩
            · rw [mkT_snoc hc]
              exact ⟨_, ws' ++ [pq.2], rfl, e3.mut (by simp) (fun xs zz => by rw [hL1] at zz; cases zz), upd_same, R3.add hmem hb1 hc (hin _ hmem).2, J.add⟩
          · exact ⟨_, ws', rfl, e3, hL3, R3, J.skip hpq fun h => absurd h (of_decide_eq_false hb)⟩
        · rintro σ' H' ⟨x7, ws', rfl, e3, hL3, R3, J⟩
          rw [List.length_map, hsl, RbJ, List.take_of_length_le (Nat.le_refl _)] at J
          refine ⟨_, rfl, L, _, rfl, hL3, _, rfl, rfl, _, rfl, ?_⟩
          rw [mkT_len]
          refine ifd (fun hb => ?_) (fun hb => ?_)
          · have hb' : ws'.length = rs.length := Int.ofNat.inj (V.int.inj hb)
            rcases J with ⟨rfl, hc⟩ | h1
            · exact hD' _ _ ⟨_, _, _, ws', rfl, e3, hL3, R3, hc⟩
            · omega
          · have hb' : ws'.length ≠ rs.length := fun z => hb (by rw [z])
            rcases J with ⟨rfl, hc⟩ | h1
            · exact absurd rfl hb'
            · exact ⟨_, _, _, ws', rfl, e3, hL3, R3, by omega⟩
      · rintro σ' H' ⟨x5, x6, x7, rs, rfl, e2, hL2, R, hlen⟩
        have := R.le
        have h1 : ((ads.map V.ref).length : Int).toNat = as.length := by rw [List.length_map, hal]; rfl
        omega
      · rintro σ' H' ⟨x5, x6, x7, rs, rfl, e2, hL2, R, hC⟩
        have hDL2 : D ∉ [L] := by simpa using Ne.symm hDL
        have hD2 := e2.keep _ _ hD1 hDL2
        have hiff := R.fin hC
        have hle := R.le
        refine ⟨_, rfl, L, _, rfl, .inl hL2, fun l bs hl hk => ?_⟩
        have hk2 := keys_amt hk
        rw [mkT_keys] at hk2
        have e4 : Ext [] H' (upd H' l (.lst (bs.map V.ref))) := Ext.new hl
        have hlD : l ≠ D := (ne_of_none hD2 hl).symm
        have hD4 := e4.keep _ _ hD2 (by simp)
        have am : AmtAt (upd H' l (.lst (bs.map V.ref))) l rs := ⟨bs, upd_same, amt_ext e4 hk2⟩
        have hux4 := e4.tups _ _ (e2.tups _ _ hux1)
        have e04 : Ext [L] H1 (upd H' l (.lst (bs.map V.ref))) := e2.trans e4.nil
        have hwk4 : ∀ q ∈ ws, ∃ l' rs, q.2 = .ref l' ∧ l' ≠ D ∧ AmtAt (upd H' l (.lst (bs.map V.ref))) l' rs ∧ rs.length ≤ as.length ∧ (∀ y ∈ rs, y ∈ as) ∧ ∀ y, y ∈ rs ↔ Rc t q.1 y := fun q hq => by
          obtain ⟨l', rs', h1, h2, h3, h4⟩ := hwk1 q hq
          exact ⟨l', rs', h1, h2, h3.ext e04 (by simpa using h3.ne_dT hL1), h4⟩
        have eH : Ext [] H (upd H' l (.lst (bs.map V.ref))) := ee.over e04 hLn
        generalize upd H' l (.lst (bs.map V.ref)) = H4 at hD4 am hux4 hwk4 eH
        have hnew : x ∉ ws.map (·.1) := by
          rw [hws]
          intro hc
          obtain ⟨j, hj⟩ := List.mem_iff_getElem?.mp hc
          have hj2 := (List.getElem?_eq_some_iff.mp hj).1
          rw [List.length_take] at hj2
          rw [List.getElem?_take_of_lt (by omega)] at hj
          have := (List.getElem?_inj (List.getElem?_eq_some_iff.mp hx).1 nda).mp (hx.trans hj.symm)
          omega
        have hwl : ws.length ≤ as.length := by
          have h1 := congrArg List.length hws
          rw [List.length_map, List.length_take] at h1
          omega
        refine ⟨_, rfl, _, rfl, D, _, rfl, DPut.t (k := amK x) hD4 hux4 (by rw [dA_len]; exact Evl.sz_lt (by omega)), ?_⟩
        rw [putK_dA hnew]
        have eD : Ext [D] H4 (upd H4 D (.dT (dA (ws ++ [(x, V.ref l)])))) := ext_at (not_tup_dT hD4)
        refine ⟨_, _, _, _, _, ws ++ [(x, V.ref l)], rfl, eH.fresh hD, upd_same, ?_, fun q hq => ?_⟩
        · rw [List.map_append, hws, take_snoc hx]
          rfl
        · rcases List.mem_append.mp hq with hq | hq
          · obtain ⟨l', rs', h1, h2, h3, h4⟩ := hwk4 q hq
            exact ⟨l', rs', h1, h2, h3.ext eD (by simpa using h2), h4⟩
          · rw [List.mem_singleton.mp hq]
            exact ⟨l, rs, rfl, hlD, am.ext eD (by simpa using hlD), hle, R.sub, hiff⟩
    · rintro σ' H' ⟨x3, x4, x5, x6, x7, ws, rfl, e, hDw, hws, hwk⟩
      rw [List.take_of_length_le (by rw [List.length_map, hal]; exact Nat.le_refl _)] at hws
      exact ⟨_, rfl, q D H' hD e ⟨ws, hDw, hws, hwk⟩⟩
end

end K18
namespace K18
open PySem PySem.Spec PyProof.Rows L2 He Tp ClX LiI

section
variable {P : Program} {w : World} {K : PySem.W.Frag} {mg : Str → Option Value} {base : Heap}
theorem ok_lfacts (T : Txt K mg) : Df P w K mg base CX0 5 "_law_facts" ["_law_source_here", "_law_model_here"] (spMore 3) := by
  have D__law_amounts := ok_amts (P := P) (w := w) (base := base) T
  have D__law_draw := ok_drawE (P := P) (w := w) (base := base) T
  refine Df.mk' T.g_law_facts T.f_law_facts (fun _ _ _ _ _ _ us hl => match us, hl with | [_, _], _ => rfl) fun fd F => F.ok sc__law_facts (fun vs H Q E h => ?_) (fun cdv A outer s H vs Q E hr h => ?_)
  · obtain ⟨S, L, a, k, t, p, c, d, ms, fs, rfl, _⟩ := h
    rfl
  · obtain ⟨S, L, a, k, t, p, c, d, ms, fs, rfl, hS, M, W, G, hd, hin, hg, hf, q⟩ := h
    have nd := sc__law_facts.nd
    have hu64 := hr.units
    have hr__law_amounts := hr
    have hr__law_draw := hr.mono (show 1 ≤ 4 by decide)
    refine ⟨_, PSs.nox (pss_cons (ps_set (i := 2) nd rfl (by first | exact Or.inl rfl | exact Or.inr rfl) (pe_cd D__law_amounts hr__law_amounts (by rfl) pass0 (pa_cons (pv 1) pa_nil)))
   (pss_one (ps_for PassesOwn.never rfl (pi_range1 (by rfl) T.brange (pa_cons (pe_op op_mod (pe_op op_add pe_int (pe_cd D__law_draw hr__law_draw (by rfl) pass0 (pa_cons (pv 0) (pa_cons pe_int pa_nil)))) pe_int) pa_nil)) (pg_name (i := 3) nd rfl (by first | exact Or.inl rfl | exact Or.inr rfl))
   (pss_cons (ps_if (pt_cmpR (op_eqD hu64) (pv 2) (pe_lst pa_nil) (nomark _)) (pss_one ps_break) pss_nil)
   (pss_cons (ps_set (i := 4) nd rfl (by first | exact Or.inl rfl | exact Or.inr rfl) (pe_ix ix_list (pv 2) (pe_cd D__law_draw hr__law_draw (by rfl) pass0 (pa_cons (pv 0) (pa_cons (pe_callB call_len_seq (by rfl) T.blen PySem.boot_len (pa_cons (pv 2) pa_nil)) pa_nil))) (fun _ _ => rfl)))
   (pss_cons (ps_set (i := 5) nd rfl (by first | exact Or.inl rfl | exact Or.inr rfl) (pe_ix ix_list (pv 2) (pe_op op_mod (pe_op op_add (pe_op op_add (pe_cd D__law_draw hr__law_draw (by rfl) pass0 (pa_cons (pv 0) (pa_cons (pe_callB call_len_seq (by rfl) T.blen PySem.boot_len (pa_cons (pv 2) pa_nil)) pa_nil))) (pv 3)) pe_int) (pe_callB call_len_seq (by rfl) T.blen PySem.boot_len (pa_cons (pv 2) pa_nil))) (fun _ _ => rfl)))
   (pss_one (ps_if (pt_cmpR op_eq (pe_cd D__law_draw hr__law_draw (by rfl) pass0 (pa_cons (pv 0) (pa_cons pe_int pa_nil))) pe_int (nomark _)) (pss_one (ps_expr (pe_bm PySem.F.plainAttrs_list PySem.F.slot_list_append PySem.F.type_list_append mt_append (pe_ix ix_list (pv 1) pe_int (fun _ _ => rfl)) (pa_cons (pe_tup (pa_cons pe_str (pa_cons (pv 4) pa_nil))) pa_nil)))) (pss_one (ps_expr (pe_bm PySem.F.plainAttrs_list PySem.F.slot_list_append PySem.F.type_list_append mt_append (pe_ix ix_list (pv 1) pe_int (fun _ _ => rfl)) (pa_cons (pe_tup (pa_cons pe_str (pa_cons (pv 4) (pa_cons (pv 5) pa_nil)))) pa_nil)))))))))))), ?_⟩
    refine ⟨_, rfl, a, k, t, p, c, d, ms, rfl, M, G, fun lo H1 hlo e1 am => ?_⟩
    refine gset ?_
    dsimp only
    have n1 : Nt H H1 S L a k t p c d ms fs := ⟨e1.nil, hS.ext e1, M.ext e1 fun _ _ => by simp, W.ext e1, hin, hg⟩
    have loS : lo ≠ S := (src_ne_new hS hlo).1
    have lo5 : lo ≠ a.m5 := fun h => by
      have := M.r5
      rw [← h, hlo] at this
      cases this
    obtain ⟨as, ha, hp⟩ := am
    have hal := amt_len hp
    have hb := amtD_len (k := k) (c := c) (d := d) d.length
    have hw6 := fun q hq => amtD_word (k := k) (c := c) (d := d) d.length q hq
    have n1' : Nt H1 H1 S L a k t p c d ms fs := ⟨Ext.refl, n1.s, n1.M, n1.W, n1.i, n1.g⟩
    clear n1
    refine draw_ex (i := 0) rfl n1'.s (by decide) (by decide) val_c (fun m H2 m0 m1 e2 s2 => ?_)
    have n2 := n1'.draw e2 s2
    have hm1 := Int.emod_nonneg (1 + m) (show (4 : Int) ≠ 0 by decide)
    have hm2 := Int.emod_lt_of_pos (1 + m) (show (0 : Int) < 4 by decide)
    refine ⟨1, _, rfl, rfl, _, 4, rfl, rfl, (by show (0 : Int) < 4; decide), (1 + m) % 4, rfl, by omega, by omega, for_range (n := ((1 + m) % 4).toNat) (fun i σ' H' => ∃ x3 x4 x5 ms' fs', σ' = [some (.ref S), some (.ref a.M), some (.ref lo), x3, x4, x5] ∧ Nt H1 H' S L a k t p c d ms' fs' ∧ fs'.length ≤ fs.length + i) ⟨none, none, none, ms, fs, rfl, n2, Nat.le_refl _⟩ ?_ ?_⟩
    · rintro i σ' H' hi ⟨x3, x4, x5, ms', fs', rfl, j, hl⟩
      have keep : ∀ {X : Hp}, Ext [S, a.m5] H1 X → X lo = some (.lst (as.map V.ref)) := fun e => e.keep _ _ ha (by simp [loS, lo5])
      refine gset ?_
      dsimp only
      refine ⟨_, rfl, by show 0 ≤ sizeLine; decide, fun z hz => ?_⟩
      have e3 : Ext [] H' (upd H' z (.lst [])) := Ext.new hz
      have j3 := j.grow e3
      have hz3 : (upd H' z (.lst [])) z = some (.lst []) := upd_same
      generalize upd H' z (.lst []) = H3 at e3 j3 hz3
      have am3 : AmtAt H3 lo (amtD k c d d.length) := ⟨as, keep j3.x, amt_ext j3.x hp⟩
      refine ⟨.list ((amtD k c d d.length).map dAmt), .list [], am3.dp, .lst (SqL.of hz3) ImAll.nil.dp, sh_amts (fun q hq => okS_wd (hw6 q hq)), by decide +kernel, _, rfl, ?_⟩
      rw [eqv_nil]
      refine ifd (fun h => ?_) (fun h => ?_)
      · have hfin : fs'.length ≤ fs.length + 3 := by omega
        exact q H3 ms' fs' (e1.nil.trans j3.x) j3.s j3.M j3.W j3.i hfin
      have hpos : 0 < as.length := by
        rw [hal]
        rcases Nat.eq_zero_or_pos (amtD k c d d.length).length with h0 | h0
        · exact absurd (by rw [List.length_eq_zero_iff.mp h0]; rfl) h
        · exact h0
      have hlen : (as.map V.ref).length = as.length := List.length_map ..
      refine ⟨_, rfl, ?_⟩
      refine draw_ex (i := 0) (many := ((as.map V.ref).length : Int)) rfl j3.s (by omega) (Int.lt_of_le_of_lt (show ((as.map V.ref).length : Int) ≤ 200 by omega) (by decide)) (val_len (val_var rfl) (SqL.of (keep j3.x))) (fun n H4 n0 n1 e4 s4 => ?_)
      have j4 := j3.draw e4 s4
      obtain ⟨u1, q1, b1, b2, b3⟩ := am_pick (amt_ext j4.x hp) n0 (by rw [← hlen]; exact n1)
      refine ⟨lo, _, n, _, rfl, rfl, SqL.of (keep j4.x), b1, ?_⟩
      refine gset ?_
      dsimp only
      refine ⟨_, rfl, ?_⟩
      refine draw_ex (i := 0) (many := ((as.map V.ref).length : Int)) rfl j4.s (by omega) (Int.lt_of_le_of_lt (show ((as.map V.ref).length : Int) ≤ 200 by omega) (by decide)) (val_len (val_var rfl) (SqL.of (keep j4.x))) (fun n' H5 n0' n1' e5 s5 => ?_)
      have j5 := j4.draw e5 s5
      have i0 := Int.emod_nonneg ((n' + (0 + (i : Int))) + 1) (show ((as.map V.ref).length : Int) ≠ 0 by omega)
      have i1 := Int.emod_lt_of_pos ((n' + (0 + (i : Int))) + 1) (show (0 : Int) < ((as.map V.ref).length : Int) by omega)
      obtain ⟨u2, q2, c1, c2, c3⟩ := am_pick (amt_ext j5.x hp) i0 (by rw [← hlen]; exact i1)
      refine ⟨_, rfl, _, _, rfl, rfl, _, 1, rfl, rfl, _, rfl, lo, _, rfl, .inl (SqL.of (keep j5.x)), _, _, rfl, rfl, (show (0 : Int) < ((as.map V.ref).length : Int) by omega), lo, _, _, _, rfl, rfl, SqL.of (keep j5.x), c1, ?_⟩
      refine gset ?_
      dsimp only
      have hml := j5.W.len
      have b5 := e5.tups _ _ b3
      refine draw_ex (i := 0) rfl j5.s (by decide) (by decide) val_c (fun m' H6 m0' m1' e6 s6 => ?_)
      have j6 := j5.draw e6 s6
      have b6 := e6.tups _ _ b5
      have c6 := e6.tups _ _ c3
      refine ⟨rfl, _, rfl, ?_⟩
      refine ifd (fun _ => ?_) (fun _ => ?_)
      · refine ⟨_, rfl, a.M, _, 5, .ref a.m5, rfl, rfl, SqL.of j6.M.M, rfl, .inl ⟨rfl, _, SqL.of j6.M.r5⟩, _, rfl, by show 2 ≤ sizeLine; decide, fun u hu => ?_⟩
        have e7 : Ext [] H6 (upd H6 u (.tup [.str "some", .ref u1])) := Ext.new hu
        have j7 := j6.grow e7
        have f7 : isFk (upd H6 u (.tup [.str "some", .ref u1])) u (.some q1) := ⟨u1, upd_same, e7.tups _ _ b6⟩
        refine ⟨a.m5, ms', _, rfl, rfl, j7.M.r5, Evl.sz_lt (by omega), ?_⟩
        exact ⟨_, _, _, _, _, rfl, j7.note f7 b2, by rw [List.length_append]; show fs'.length + 1 ≤ fs.length + (i + 1); omega⟩
      · refine ⟨_, rfl, a.M, _, 5, .ref a.m5, rfl, rfl, SqL.of j6.M.M, rfl, .inl ⟨rfl, _, SqL.of j6.M.r5⟩, _, rfl, _, rfl, by show 3 ≤ sizeLine; decide, fun u hu => ?_⟩
        have e7 : Ext [] H6 (upd H6 u (.tup [.str "tell", .ref u1, .ref u2])) := Ext.new hu
        have j7 := j6.grow e7
        have f7 : isFk (upd H6 u (.tup [.str "tell", .ref u1, .ref u2])) u (.tell q1 q2) := ⟨u1, u2, upd_same, e7.tups _ _ b6, e7.tups _ _ c6⟩
        refine ⟨a.m5, ms', _, rfl, rfl, j7.M.r5, Evl.sz_lt (by omega), ?_⟩
        exact ⟨_, _, _, _, _, rfl, j7.note f7 ⟨b2, c2⟩, by rw [List.length_append]; show fs'.length + 1 ≤ fs.length + (i + 1); omega⟩
    · rintro σ' H' ⟨x3, x4, x5, ms', fs', rfl, j, hl⟩
      exact q H' ms' fs' (e1.nil.trans j.x) j.s j.M j.W j.i (by omega)
end


end K18
namespace K18
open PySem PySem.Spec PyProof.Rows L2 He Tp ClX LiI

section
variable {P : Program} {w : World} {K : PySem.W.Frag} {mg : Str → Option Value} {base : Heap}
theorem ok_ordCt (T : Txt K mg) {fd : FuncData} (F : FnM K "Order" "__contains__" "Order.__contains__" s_Order___contains__ [] fd) : FnOk P w K mg base CX0 4 (ma K (cO K) "__contains__") fd ["self", "couple"] (spOrdCt (cO K)) := by
  obtain ⟨fh, fh_⟩ := T.fOrder_has
  have Fh := ok_has (P := P) (w := w) (base := base) T fh_
  have bh : Binds K fh ["self", "amount"] [] := fh_.bindsN (fun _ _ _ _ _ _ us hl => match us, hl with | [_, _], _ => rfl)
  refine F.ok sc_Order___contains__ (fun vs H Q E h => ?_) (fun cdv A outer s H vs Q E hr h => ?_)
  · obtain ⟨p, c, v, g, dv, dg, dx, D, L, ws, t, th, rfl, _⟩ := h
    rfl
  · obtain ⟨p, c, v, g, dv, dg, dx, D, L, ws, t, th, rfl, hc, av, ag, o, k1, k2⟩ := h
    have nd := sc_Order___contains__.nd
    have hu := hu1_of hr
    have hrh := hr.mono (show 3 ≤ 3 by decide)
    refine ⟨_, PSs.nox (pss_cons (ps_asg (pv 1) (pg_tup (by rfl) (pgs_cons (pg_name (i := 2) nd rfl (by first | exact Or.inl rfl | exact Or.inr rfl)) (pgs_cons (pg_name (i := 3) nd rfl (by first | exact Or.inl rfl | exact Or.inr rfl)) pgs_nil))))
   (pss_one (ps_ret (pe_and (pe_meth (pv 0) T.clOrder T.mOrder_has Fh hrh bh .nil pass0 (pa_cons (pv 2) pa_nil)) (pe_and (pe_meth (pv 0) T.clOrder T.mOrder_has Fh hrh bh .nil pass0 (pa_cons (pv 3) pa_nil)) (pe_one (pe_cmp (pc_din hu (pv 3) (pe_dget hu (pe_fld (pv 0) rfl) (pv 2) (fun _ _ => rfl))) rfl))))))), ?_⟩
    refine ⟨_, rfl, c, _, rfl, .inl (.inl hc), rfl, _, _, rfl, _, _, rfl, rfl, ?_⟩
    refine ⟨_, rfl, p, dx, _, rfl, o.ob, rfl, _, rfl, p, v, dv, dx, D, L, ws, t, th, rfl, av, o, _, rfl, ?_⟩
    cases hb : ownD (ws.map (·.1)) dv with
    | false => exact iteF (k1 (.inl hb))
    | true =>
      refine iteT ?_
      refine ⟨_, rfl, p, dx, _, rfl, o.ob, rfl, _, rfl, p, g, dg, dx, D, L, ws, t, th, rfl, ag, o, _, rfl, ?_⟩
      cases hb2 : ownD (ws.map (·.1)) dg with
      | false => exact iteF (k1 (.inr hb2))
      | true =>
        refine iteT ?_
        have z1 := hb
        have z2 := hb2
        rw [ownD_eq o.wd, Bool.and_eq_true] at z1 z2
        obtain ⟨a, x, rfl, hx, rfl⟩ := amt_of av z1.1
        obtain ⟨b, y, rfl, hy, rfl⟩ := amt_of ag z2.1
        rw [ownD_amt] at hb hb2
        have hx1 := of_decide_eq_true hb
        have hy1 := of_decide_eq_true hb2
        obtain ⟨B, r, g1, g2, g3⟩ := o.rd.get hx1 hx hy
        refine ⟨_, rfl, _, rfl, p, cO K, dx, _, _, rfl, o.ob, T.clOrder, T.nOrder_below, rfl, _, rfl, D, _, rfl, g1, B, _, rfl, g2, ?_⟩
        rw [g3]
        exact k2 x y rfl rfl hx1 hy1
end

end K18
namespace K18
open PySem PySem.Spec PyProof.Rows L2 He Tp ClX LiI

section
variable {P : Program} {w : World} {K : PySem.W.Frag} {mg : Str → Option Value} {base : Heap}
theorem ok_above (T : Txt K mg) {fd : FuncData} (F : FnM K "Order" "above" "Order.above" s_Order_above [] fd) : FnOk P w K mg base (L2.CX P w) 6 (ma K (cO K) "above") fd ["self", "amounts"] (spAbove K (cO K)) := by
  obtain ⟨fo, fo_⟩ := T.fOrder_check_own
  have Fo := ok_check_ord (P := P) (w := w) (base := base) T fo_
  have bo : Binds K fo ["self", "amount"] [] := fo_.bindsN (fun _ _ _ _ _ _ us hl => match us, hl with | [_, _], _ => rfl)
  refine F.ok sc_Order_above (fun vs H Q E h => ?_) (fun cdv A outer s H vs Q E hr h => ?_)
  · obtain ⟨p, l, dx, D, L, ws, t, th, xs, ds, rfl, _⟩ := h
    rfl
  · obtain ⟨p, l, dx, D, L, ws, t, th, xs, ds, rfl, hl, av, hn, hwn, o, kN, kY⟩ := h
    have nd := sc_Order_above.nd
    have hu := hu1_of hr
    have hro := hr.mono (show 5 ≤ 5 by decide)
    refine ⟨_, (pss_cons (ps_for (passes_of rfl) rfl (pi_list (pv 1)) (pg_name (i := 2) nd rfl (by first | exact Or.inl rfl | exact Or.inr rfl))
   (pss_one (ps_expr (pe_meth (pv 0) T.clOrder T.mOrder_check_own Fo hro bo .nil (passes_call (takes_of rfl rfl rfl rfl) (fun _ _ _ _ z => z)) (pa_cons (pv 2) pa_nil)))))
   (pss_one (ps_lock (ps_ret (pe_lc (own := [("more", 3)]) (g := gName 3) (by rfl) nd (pi_keys (pe_fld (pv 0) rfl)) (blkOk_by (own := [("more", 3)]) (N := n_Order_above) (sc := defScope s_Order_above) (by decide +kernel)) (fun _ _ _ _ _ => pg_name (i := 3) nd rfl (by first | exact Or.inl rfl | exact Or.inr rfl)) (fun _ _ _ _ _ => (pts_one (pt_val (pe_callB (show CallR _ (.builtin "any") (rAny K) from cr_any rfl) (by rfl) T.bany (by decide +kernel) (pa_cons (show PE _ _ (tLc (iList K (tVar 1)) (gName 4) tYes _ [4]) from (pe_lc (own := [("less", 4)]) (g := gName 4) (tt := tYes) (by rfl) nd (pi_list (pv 1)) (blkOk_by (own := [("less", 4)]) (N := n_Order_above) (sc := relS (rcSc ((defBody s_Order_above).getD 1 (.Pass ⟨0, 0, 0, 0⟩))) (defScope s_Order_above)) (by decide +kernel)) (fun _ _ _ _ _ => pg_name (i := 4) nd rfl (by first | exact Or.inl rfl | exact Or.inr rfl)) (fun _ _ _ _ _ => pts_nil) (fun _ _ _ _ _ => (pe_cmp (pc_din hu (pv 4) (pe_dget hu (show PE _ _ (tFld K _ _) from pe_fld (pv 0) rfl) (pv 3) (fun _ _ => rfl))) rfl)))) pa_nil))))) (fun _ _ _ _ _ => (pv 3))))))), ?_⟩
    refine ⟨_, rfl, l, rfl, ⟨_, SqL.of hl⟩, for_list (xs := xs) (fun i σ' H' => ∃ x2, σ' = [some (.ref p), some (.ref l), x2, none, none] ∧ H' = H ∧ ∀ j e, j < i → ds[j]? = some e → ownD (ws.map (·.1)) e = true) ⟨none, rfl, rfl, by omega⟩ ?_ ?_ ?_⟩
    · rintro i σ' H' _ ⟨_, _, rfl, _⟩
      exact SqL.of hl
    · rintro i v σ' H' hv ⟨x2, rfl, rfl, hj⟩
      obtain ⟨d, hd, hav⟩ := paired_getX av hv
      refine gset ?_
      dsimp only
      refine ⟨_, rfl, p, dx, _, rfl, o.ob, rfl, _, rfl, p, v, d, dx, D, L, ws, t, th, rfl, hav, o, fun h => ?_, fun h => ?_⟩
      · exact kN i v d hv hd h hj
      · refine ⟨_, rfl, rfl, fun j e hj' he => ?_⟩
        by_cases hji : j < i
        · exact hj j e hji he
        · have : j = i := by omega
          rw [this, hd] at he
          cases he
          exact h
    · rintro σ' H' ⟨x2, rfl, rfl, hj⟩
      have hlen := av.length
      obtain ⟨us, qs, rfl, hus, rfl, hin⟩ := own_all o.wd av fun e he => by
        obtain ⟨j, hj2⟩ := List.mem_iff_getElem?.mp he
        have := (List.getElem?_eq_some_iff.mp hj2).1
        exact hj j e (by omega) hj2
      clear hj av kN hlen
      refine ⟨D, _, o.dt, trivial, fun od => ?_⟩
      have oR := o.lock od
      have hlD : l ≠ D := fun h => by rw [h, o.dt] at hl; cases hl
      have hlL : (upd H' D (.frz od (.dT (dA ws)))) l = some (.lst (us.map V.ref)) := by rw [upd_ne hlD]; exact hl
      have usL := amt_tk (fun b ys => tup_lock (od := od) o.dt) hus
      have hDL : (upd H' D (.frz od (.dT (dA ws)))) D = some (.frz od (.dT (dA ws))) := upd_same
      have eU : ∀ G, Ext [] (upd H' D (.frz od (.dT (dA ws)))) G → Ext [] H' (upd G D (.dT (dA ws))) := fun G e => ext_unlock o.dt e
      have nU : ∀ r, (upd H' D (.frz od (.dT (dA ws)))) r = none → H' r = none ∧ r ≠ D := fun r hr => by
        have hn : r ≠ D := fun h => by rw [h, upd_same] at hr; cases hr
        rw [upd_ne hn] at hr
        exact ⟨hr, hn⟩
      generalize upd H' D (.frz od (.dT (dA ws))) = HL at oR hlL usL hDL eU nU ⊢
      refine ⟨_, rfl, p, cO K, dx, _, _, rfl, oR.ob, T.clOrder, T.nOrder_below, rfl, D, od, rfl, .inr ⟨dA ws, hDL, fun R hR => lc_keysT (fun i G => Ext [] HL G ∧ AmtAt G R (aboveD ((ws.map (·.1)).take i) t qs)) ⟨Ext.new hR, [], upd_same, .nil⟩ ?_ ?_ ?_⟩⟩
      · rintro i G _ ⟨e, _⟩
        exact e.keep _ _ hDL (by simp)
      · rintro i k v q G hk hq ⟨e, am⟩
        refine ⟨wipe1, ?_⟩
        obtain ⟨x, v', hx, rfl⟩ := dA_at hk
        have hxm : x ∈ ws.map (·.1) := List.mem_map.mpr ⟨_, List.mem_of_getElem? hx, rfl⟩
        have hxi : (ws.map (·.1))[i]? = some x := by rw [List.getElem?_map, hx]; rfl
        have hqa : isAmt G q x := hq
        have hql := amt_len hus
        have hul : us.length ≤ 1000 := by rwa [List.length_map] at hn
        refine ⟨_, rfl, l, rfl, ⟨_, SqL.of (e.keep _ _ hlL (by simp))⟩, fun R2 hR2 => lc_list (xs := us.map V.ref) (fun j G2 => Ext [] G G2 ∧ G2 R2 = some (.lst ((qs.take j).map fun y => V.bl (Rc' t x y)))) ⟨Ext.new hR2, upd_same⟩ ?_ ?_ ?_⟩
        · rintro j G2 _ ⟨e2, _⟩
          exact SqL.of ((e.trans e2).keep _ _ hlL (by simp))
        · rintro j y G2 hy ⟨e2, hr2⟩
          rw [List.getElem?_map] at hy
          obtain ⟨u, hu1, rfl⟩ := Option.map_eq_some_iff.mp hy
          obtain ⟨y, hy, huy⟩ := amt_at usL hu1
          refine ⟨wipe1, ?_⟩
          refine tyes ?_
          have e12 := e.trans e2
          obtain ⟨B, r, g1, g2, g3⟩ := (oR.ext e12).get hxm (e2.tups _ _ hqa) (e12.tups _ _ huy)
          refine ⟨_, rfl, _, rfl, p, cO K, dx, _, _, rfl, (oR.ext e12).ob, T.clOrder, T.nOrder_below, rfl, _, rfl, D, _, rfl, g1, B, _, rfl, g2, ?_⟩
          rw [g3]
          refine ⟨_, hr2, by rw [List.length_map, List.length_take]; exact Evl.sz_lt (by omega), e2.fresh hR2, ?_⟩
          rw [upd_same, take_snoc hy, List.map_append]
          rfl
        · rintro G2 ⟨e2, hr2⟩
          rw [List.take_of_length_le (by rw [List.length_map, hql]; exact Nat.le_refl _)] at hr2
          refine ⟨R2, qs.map (Rc' t x), rfl, SqL.of (by rw [List.map_map]; exact hr2), _, rfl, ?_⟩
          have ha : (qs.map (Rc' t x)).any id = qs.any fun y => Rc' t x y := by rw [List.any_map]; rfl
          rw [ha]
          have hab : aboveD ((ws.map (·.1)).take (i + 1)) t qs = aboveD ((ws.map (·.1)).take i) t qs ++ (if (qs.any fun y => Rc' t x y) = true then [x] else []) := by
            unfold aboveD
            rw [take_snoc hxi, filter_snoc]
          have am2 := am.ext e2 (by simp)
          obtain ⟨zs, hzs, hzl⟩ := am2.lst
          have hfl : (aboveD ((ws.map (·.1)).take i) t qs).length ≤ ((ws.map (·.1)).take i).length := List.length_filter_le _ _
          rw [List.length_take, List.length_map] at hfl
          refine ifb (fun hb => ?_) (fun hb => ?_)
          · refine ⟨_, rfl, zs, hzs, ?_, (e.trans e2).fresh hR, ?_⟩
            · exact Evl.sz_lt (by omega)
            · rw [hab, if_pos hb]
              exact am2.pushU hzs (e2.tups _ _ hqa)
          · refine ⟨e.trans e2, ?_⟩
            rw [hab, hb, if_neg Bool.false_ne_true, List.append_nil]
            exact am2
      · rintro G ⟨e, am⟩
        rw [dA_len, List.take_of_length_le (by rw [List.length_map]; exact Nat.le_refl _)] at am
        obtain ⟨h1, h2⟩ := nU R hR
        refine ⟨e.keep _ _ hDL (by simp), ?_⟩
        exact kY us qs rfl hus rfl hin R _ h1 (eU G e) (am.ext (ms := [D]) (ext_at fun xs z => by rw [e.keep _ _ hDL (by simp)] at z; cases z) (by simpa using h2))
end

end K18
namespace K18
open PySem PySem.Spec PyProof.Rows L2 He Tp ClX LiI

section
variable {P : Program} {w : World} {K : PySem.W.Frag} {mg : Str → Option Value} {base : Heap}
theorem ok_there (T : Txt K mg) {fd : FuncData} (F : FnM K "Order" "there" "Order.there" s_Order_there [] fd) : FnOk P w K mg base CX0 7 (ma K (cO K) "there") fd ["self"] (spThere (cO K)) := by
  obtain ⟨fa, fa_⟩ := T.fOrderabove
  have Fa := ok_above (P := P) (w := w) (base := base) T fa_
  have ba : Binds K fa ["self", "amounts"] [] := fa_.bindsN (fun _ _ _ _ _ _ us hl => match us, hl with | [_, _], _ => rfl)
  refine F.ok sc_Order_there (fun vs H Q E h => ?_) (fun cdv A outer s H vs Q E hr h => ?_)
  · obtain ⟨p, dx, D, L, ws, t, th, rfl, _⟩ := h
    rfl
  · obtain ⟨p, dx, D, L, ws, t, th, rfl, o, hin, hn, hwn, q⟩ := h
    have hra := hr.mono (show 6 ≤ 6 by decide)
    refine ⟨_, PSs.nox (pss_one (ps_ret (pe_meth (pv 0) T.clOrder T.mOrderabove Fa hra ba .nil passL (pa_cons (pe_fld (pv 0) rfl) pa_nil)))), ?_⟩
    obtain ⟨us, hus, hpu⟩ := id o.tl
    have hul := amt_len hpu
    have hav := amt_avs o.wd hpu hin
    refine ⟨_, rfl, p, dx, _, rfl, o.ob, rfl, _, rfl, p, cO K, dx, _, _, rfl, o.ob, T.clOrder, T.nOrder_told, rfl, ?_⟩
    refine ⟨p, L, dx, D, L, ws, t, th, _, _, rfl, hus, hav, by rw [List.length_map, hul]; exact hn, hwn, o, fun i v d _ hd h => ?_, fun us' qs h1 h2 h3 h4 r H' hr e am => ?_⟩
    · rw [List.getElem?_map] at hd
      obtain ⟨x, hx, rfl⟩ := Option.map_eq_some_iff.mp hd
      rw [ownD_amt, decide_eq_true (hin x (List.mem_of_getElem? hx))] at h
      cases h
    · have : qs = th := (List.map_inj_right fun x y h => dAmt_inj h).mp h3.symm
      subst this
      exact q r H' hr e am
end


end K18
namespace K18
open PySem PySem.Spec PyProof.Rows L2 He Tp ClX LiI

section
variable {P : Program} {w : World} {K : PySem.W.Frag} {mg : Str → Option Value} {base : Heap}
theorem exm_is (T : Txt K mg) {x y : Str} {b : Bool} (hx : x ∈ raised) (hy : y ∈ exAll) (e : (x == y || y == "DyeError") = b) : PySem.W.exmOne K (.ref (ga K x)) (.ref (ga K y)) = some b := by rw [T.exm x hx y hy, e]
theorem kit_is (T : Txt K mg) {x y : Str} {b : Bool} (hx : x ∈ raised) (hy : y ∈ exAll) (e : (x == y || y == "DyeError") = b) : PySem.W.kitOne K (.ref (ga K x)) (.ref (ga K y)) = some b := by rw [T.kit x hx y hy, e]
theorem ok_refused (T : Txt K mg) : Df P w K mg base CX0 7 "_law_refused" ["_law_order", "_law_amounts_here", "_law_thing"] (spRefusedA (cO K)) := by
  obtain ⟨fa, fa_⟩ := T.fOrderabove
  have Fa := ok_above (P := P) (w := w) (base := base) T fa_
  have ba : Binds K fa ["self", "amounts"] [] := fa_.bindsN (fun _ _ _ _ _ _ us hl => match us, hl with | [_, _], _ => rfl)
  refine Df.mk' T.g_law_refused T.f_law_refused (fun _ _ _ _ _ _ us hl => match us, hl with | [_, _, _], _ => rfl) fun fd F => F.ok sc__law_refused (fun vs H Q E h => ?_) (fun cdv A outer s H vs Q E hr h => ?_)
  · obtain ⟨o, l, g, dx, D, L, ws, t, th, xs, ds, i, v, d, rfl, _⟩ := h
    rfl
  · obtain ⟨o, l, g, dx, D, L, ws, t, th, xs, ds, i, v, d, rfl, hl, av, hn, hwn, O, hv, hd, ho, hj, ag, q⟩ := h
    have nd := sc__law_refused.nd
    have hu64 := hr.units
    have hrm := hr
    refine ⟨_, PSs.nox (pss_cons (ps_try_cls (Wout := fun _ _ _ _ => False) rfl rfl takes0 (fun W pn xe tk own => (pss_one (ps_expr (pe_methS (pv 0) T.clOrder T.mOrderabove Fa hrm ba .nil (fun σ => passAt tk σ) (pa_cons (pv 1) pa_nil)))))
   (ClsOk.as (i := 3) nd rfl rfl ⟨by rfl, by decide, .inl T.gBadAmount⟩ (fun a oe cls d pn hz hf => (pss_one (ps_ret (pe_and (pe_cmpR (show OpR _ (compareOp .Eq) (rEqD K) from op_eqD hu64) (pe_xf T.xBadAmount.xf T.xBadAmount.noT hz hf (pv 3)) (pv 2) (nomark _)) (pe_one (pe_not (pe_callB (call_isXe hz hf) (by rfl) T.bisinstance (by decide +kernel) (pa_cons (pv 3) (pa_cons (pe_glob (v := .ref (ga K "Unknown")) (by rfl) T.gUnknown rfl) pa_nil)))))))))
   (ClsOk.cons ⟨by rfl, by decide, .inl T.gDyeError⟩ (fun a oe cls d pn hz hf => (pss_one (ps_ret pe_bl)))
   .nil)))
   (pss_one (ps_ret pe_bl))), ?_⟩
    refine ⟨_, rfl, o, dx, _, rfl, O.ob, rfl, _, rfl, o, l, dx, D, L, ws, t, th, xs, ds, rfl, hl, av, hn, hwn, O, ?_, ?_⟩
    · intro i' v' d' hv' hd' ho' hj'
      have hii : i' = i := by
        rcases Nat.lt_trichotomy i' i with h | h | h
        · rw [hj i' d' h hd'] at ho'; cases ho'
        · exact h
        · rw [hj' i d h hd] at ho; cases ho
      subst hii
      rw [hv] at hv'
      cases hv'
      rw [hd] at hd'
      cases hd'
      obtain ⟨d2, hd2, hav⟩ := paired_getX av hv
      rw [hd] at hd2
      cases hd2
      intro dd H' hdd e hx
      refine ⟨true, exm_is T (by decide +kernel) (by decide +kernel) (by decide +kernel), fun _ a ha => ?_, fun z => nomatch z⟩
      refine ⟨_, rfl, rfl, rfl, dd, _, v, rfl, hx, rfl, _, rfl, d, d, (hav.ext e).1.dp, (ag.ext e).1.dp, hav.2.1.shaped, hav.2.1.shaped, _, rfl, ?_⟩
      rw [eqv_self hav.2.1.shaped]
      refine iteT ?_
      refine ⟨_, rfl, _, _, false, _, dd, _, rfl, rfl, rfl, T.xBadAmount.ex, hx, .own _, kit_is T (by decide +kernel) (by decide +kernel) (by decide +kernel), ?_⟩
      exact ⟨_, rfl, q H' e⟩
    · intro us qs _ _ h3 h4
      rw [h3, List.getElem?_map] at hd
      obtain ⟨x, hx, rfl⟩ := Option.map_eq_some_iff.mp hd
      rw [ownD_amt, decide_eq_true (h4 x (List.mem_of_getElem? hx))] at ho
      cases ho
end

end K18
namespace K18
open PySem PySem.Spec PyProof.Rows L2 He Tp ClX LiI

section
variable {P : Program} {w : World} {K : PySem.W.Frag} {mg : Str → Option Value} {base : Heap}
/-- _law_looks(order, amounts, below, there) -/
def spLooksO (O : Addr) : Sp := fun vs H Q _ => ∃ o lo Db lt dx D L ws t th as, vs = [.ref o, .ref lo, .ref Db, .ref lt] ∧ OrdAt O H o dx D L ws t th ∧ ws.map (·.1) = as ∧ AmtAt H lo as ∧ BelowAt H Db as t ∧ AmtAt H lt th ∧ as.length ≤ 1000 ∧ (∀ q ∈ th, q ∈ as) ∧ th.length ≤ 1000 ∧ ∀ H', Ext [] H H' → Q (.bl true) H'
theorem ok_looksO (T : Txt K mg) : Df P w K mg base CX0 8 "_law_looks" ["_law_order", "_law_amounts_here", "_law_below_here", "_law_there_here"] (spLooksO (cO K)) := by
  obtain ⟨fc, fc_⟩ := T.fOrder__contains__
  obtain ⟨ft, ft_⟩ := T.fOrderthere
  have Fc := ok_ordCt (P := P) (w := w) (base := base) T fc_
  have Ft := ok_there (P := P) (w := w) (base := base) T ft_
  have bc : Binds K fc ["self", "couple"] [] := fc_.bindsN (fun _ _ _ _ _ _ us hl => match us, hl with | [_, _], _ => rfl)
  have bt : Binds K ft ["self"] [] := ft_.bindsN (fun _ _ _ _ _ _ us hl => match us, hl with | [_], _ => rfl)
  have oc : OwnCt K (cO K) (ma K (cO K) "__contains__") := ⟨T.mOrder__contains__.at_, T.mOrder__contains__.fn⟩
  have D__law_lists := ok_lists (P := P) (w := w) (base := base) T
  refine Df.mk' T.g_law_looks T.f_law_looks (fun _ _ _ _ _ _ us hl => match us, hl with | [_, _, _, _], _ => rfl) fun fd F => F.ok sc__law_looks (fun vs H Q E h => ?_) (fun cdv A outer s H vs Q E hr h => ?_)
  · obtain ⟨o, lo, Db, lt, dx, D, L, ws, t, th, as, rfl, _⟩ := h
    rfl
  · obtain ⟨o, lo, Db, lt, dx, D, L, ws, t, th, as, rfl, O, rfl, am, bl, amt, hal, hth, htl, q⟩ := h
    have nd := sc__law_looks.nd
    have hu := hu1_of hr
    have hu65 := hu65_of hr
    have hrc := hr.mono (show 4 ≤ 7 by decide)
    have hrt := hr.mono (show 7 ≤ 7 by decide)
    have hr__law_lists := hr.mono (show 2 ≤ 7 by decide)
    refine ⟨_, PSs.nox (pss_cons (ps_for PassesOwn.never rfl (pi_list (pv 1)) (pg_name (i := 4) nd rfl (by first | exact Or.inl rfl | exact Or.inr rfl))
   (pss_one (ps_for PassesOwn.never rfl (pi_list (pv 1)) (pg_name (i := 5) nd rfl (by first | exact Or.inl rfl | exact Or.inr rfl))
   (pss_one (ps_if (pt_cmpR op_ne (pe_cmpR (op_inOwn oc Fc hrc bc pass0) (pe_tup (pa_cons (pv 4) (pa_cons (pv 5) pa_nil))) (pv 0) (by rfl)) (pe_cmpR (op_inD hu65) (pv 5) (pe_dget hu (pv 2) (pv 4) (fun _ _ => rfl)) (by rfl)) (nomark _)) (pss_one (ps_ret pe_bl)) pss_nil)))))
   (pss_cons (ps_setLc (i := 6) (own := [("_law_more", 4)]) (g := gName 4) (by rfl) nd rfl rfl (sw_true rfl rfl rfl (by decide +kernel)) (pi_list (pv 1)) (blkOk_by (own := [("_law_more", 4)]) (N := n__law_looks) (sc := defScope s__law_looks) (by decide +kernel)) (fun _ _ _ _ _ => pg_name (i := 4) nd rfl (by first | exact Or.inl rfl | exact Or.inr rfl)) (fun _ _ _ _ _ => (pts_one (pt_val (pe_callB (show CallR _ (.builtin "any") (rAny K) from cr_any rfl) (by rfl) T.bany (by decide +kernel) (pa_cons (show PE _ _ (tLc (iList K (tVar 3)) (gName 7) tYes _ [7]) from (pe_lc (own := [("_law_low", 7)]) (g := gName 7) (tt := tYes) (by rfl) nd (pi_list (pv 3)) (blkOk_by (own := [("_law_low", 7)]) (N := n__law_looks) (sc := relS (lcSc ((defBody s__law_looks).getD 1 (.Pass ⟨0, 0, 0, 0⟩))) (defScope s__law_looks)) (by decide +kernel)) (fun _ _ _ _ _ => pg_name (i := 7) nd rfl (by first | exact Or.inl rfl | exact Or.inr rfl)) (fun _ _ _ _ _ => pts_nil) (fun _ _ _ _ _ => (pe_cmpR (show OpR _ (compareOp .In) (rInD K) from op_inD hu65) (pv 7) (pe_dget hu (pv 2) (pv 4) (fun _ _ => rfl)) (by rfl))))) pa_nil))))) (fun _ _ _ _ _ => (pv 4)))
   (pss_one (ps_ret (pe_cd D__law_lists hr__law_lists (by rfl) pass0 (pa_cons (pe_meth0 (pv 0) T.clOrder T.mOrderthere Ft hrt bt .nil pass0) (pa_cons (pv 6) pa_nil))))))), ?_⟩
    obtain ⟨ads, hlo, hpa⟩ := id am
    have hadl := amt_len hpa
    have wdx : ∀ {x : Am}, x ∈ ws.map (·.1) → okS x.1 := fun h => okS_wd (O.wd _ h)
    refine ⟨_, rfl, lo, rfl, ⟨_, SqL.of hlo⟩, for_list (xs := ads.map V.ref) (fun i σ' H' => ∃ x4 x5, σ' = [some (.ref o), some (.ref lo), some (.ref Db), some (.ref lt), x4, x5, none, none] ∧ Ext [] H H') ⟨none, none, rfl, Ext.refl⟩ ?_ ?_ ?_⟩
    · rintro i σ' H' _ ⟨_, _, _, e⟩
      exact SqL.of (e.keep _ _ hlo (by simp))
    · rintro i v σ' H' hv ⟨x4, x5, rfl, e⟩
      rw [List.getElem?_map] at hv
      obtain ⟨u, hu1, rfl⟩ := Option.map_eq_some_iff.mp hv
      obtain ⟨x, hx, hux⟩ := amt_at hpa hu1
      have hxm := List.mem_of_getElem? hx
      refine gset ?_
      refine ⟨_, rfl, lo, rfl, ⟨_, SqL.of (e.keep _ _ hlo (by simp))⟩, for_list (xs := ads.map V.ref) (fun i σ' H' => ∃ x5, σ' = [some (.ref o), some (.ref lo), some (.ref Db), some (.ref lt), some (.ref u), x5, none, none] ∧ Ext [] H H') ⟨_, rfl, e⟩ ?_ ?_ ?_⟩
      · rintro i σ' H' _ ⟨_, _, e⟩
        exact SqL.of (e.keep _ _ hlo (by simp))
      · rintro j v' σ' H' hv' ⟨x5, rfl, e⟩
        rw [List.getElem?_map] at hv'
        obtain ⟨u', hu2, rfl⟩ := Option.map_eq_some_iff.mp hv'
        obtain ⟨y, hy, huy⟩ := amt_at hpa hu2
        have hym := List.mem_of_getElem? hy
        refine gset ?_
        dsimp only
        refine ⟨_, rfl, _, rfl, by show 2 ≤ sizeLine; decide, fun c hc => ?_⟩
        have e1 : Ext [] H' (upd H' c (.tup [.ref u, .ref u'])) := Ext.new hc
        have e2 := e.trans e1
        have O2 := O.ext e2
        have hux2 := e2.tups _ _ hux
        have huy2 := e2.tups _ _ huy
        refine ⟨_, rfl, o, dx, _, rfl, O2.ob, o, c, .ref u, .ref u', dAmt x, dAmt y, dx, D, L, ws, t, th, rfl, upd_same, Av.amt hux2 (O.wd _ hxm), Av.amt huy2 (O.wd _ hym), O2, fun h => ?_, fun x' y' h1 h2 _ _ => ?_⟩
        · rw [ownD_amt, ownD_amt, decide_eq_true hxm, decide_eq_true hym] at h
          rcases h with h | h <;> cases h
        cases dAmt_inj h1
        cases dAmt_inj h2
        obtain ⟨r, rs, g0, amr, _, rsub, riff⟩ := (bl.ext e2).get O.nd hxm hux2
        refine ⟨_, rfl, _, rfl, _, rfl, _, rfl, Db, _, rfl, g0, dAmt y, rs.map dAmt, (isAmt.im huy2).dp, amr.dp, (okD_amt (wdx hym)).shaped, sh_amts (fun q hq => wdx (rsub q hq)), ?_⟩
        rw [any_amt, rc_mem riff]
        refine ⟨rfl, _, rfl, ?_⟩
        rw [ne_no]
        refine iteF ?_
        exact ⟨_, rfl, e2⟩
      · rintro σ' H' ⟨x5, rfl, e⟩
        exact ⟨_, _, rfl, e⟩
    rintro σ' H1 ⟨x4, x5, rfl, e1⟩
    dsimp only
    refine sq_asg ?_
    have hlo1 := e1.keep _ _ hlo (by simp)
    obtain ⟨ths, hlt, hpt⟩ := id amt
    have htl' := amt_len hpt
    have hlt1 := e1.keep _ _ hlt (by simp)
    have hpt1 := amt_ext e1 hpt
    refine ⟨_, rfl, lo, rfl, ⟨_, SqL.of hlo1⟩, fun R hR => lc_list (xs := ads.map V.ref) (fun i G => Ext [] H1 G ∧ AmtAt G R (aboveD ((ws.map (·.1)).take i) t th)) ⟨Ext.new hR, [], upd_same, .nil⟩ ?_ ?_ ?_⟩
    · rintro i G _ ⟨e, _⟩
      exact SqL.of (e.keep _ _ hlo1 (by simp))
    · rintro i v G hv ⟨e, amR⟩
      rw [List.getElem?_map] at hv
      obtain ⟨u, hu1, rfl⟩ := Option.map_eq_some_iff.mp hv
      obtain ⟨x, hx, hux⟩ := amt_at hpa hu1
      have hxm := List.mem_of_getElem? hx
      have huxG := e.tups _ _ (e1.tups _ _ hux)
      refine ⟨wipe1, ?_⟩
      refine ⟨_, rfl, lt, rfl, ⟨_, SqL.of (e.keep _ _ hlt1 (by simp))⟩, fun R2 hR2 => lc_list (xs := ths.map V.ref) (fun j G2 => Ext [] G G2 ∧ G2 R2 = some (.lst ((th.take j).map fun y => V.bl (Rc' t x y)))) ⟨Ext.new hR2, upd_same⟩ ?_ ?_ ?_⟩
      · rintro j G2 _ ⟨e2, _⟩
        exact SqL.of ((e.trans e2).keep _ _ hlt1 (by simp))
      · rintro j y G2 hy ⟨e2, hr2⟩
        rw [List.getElem?_map] at hy
        obtain ⟨u', hu2, rfl⟩ := Option.map_eq_some_iff.mp hy
        obtain ⟨y, hy, huy⟩ := amt_at hpt1 hu2
        have hym := hth y (List.mem_of_getElem? hy)
        refine ⟨wipe1, ?_⟩
        refine tyes ?_
        have e12 := e.trans e2
        have huy2 := e12.tups _ _ huy
        obtain ⟨r, rs, g0, amr, _, rsub, riff⟩ := ((bl.ext e1).ext e12).get O.nd hxm (e2.tups _ _ huxG)
        refine ⟨_, rfl, _, rfl, _, rfl, Db, _, rfl, g0, dAmt y, rs.map dAmt, (isAmt.im huy2).dp, amr.dp, (okD_amt (wdx hym)).shaped, sh_amts (fun q hq => wdx (rsub q hq)), ?_⟩
        rw [any_amt, rc_mem riff]
        refine ⟨_, hr2, by rw [List.length_map, List.length_take]; exact Evl.sz_lt (by omega), e2.fresh hR2, ?_⟩
        rw [upd_same, take_snoc hy, List.map_append]
        rfl
      · rintro G2 ⟨e2, hr2⟩
        rw [List.take_of_length_le (by rw [List.length_map, htl']; exact Nat.le_refl _)] at hr2
        refine ⟨R2, th.map (Rc' t x), rfl, SqL.of (by rw [List.map_map]; exact hr2), _, rfl, ?_⟩
        have ha : (th.map (Rc' t x)).any id = th.any fun y => Rc' t x y := by rw [List.any_map]; rfl
        rw [ha]
        have hab : aboveD ((ws.map (·.1)).take (i + 1)) t th = aboveD ((ws.map (·.1)).take i) t th ++ (if (th.any fun y => Rc' t x y) = true then [x] else []) := by
          unfold aboveD
          rw [take_snoc hx, filter_snoc]
        have am2 := amR.ext e2 (by simp)
        obtain ⟨zs, hzs, hzl⟩ := am2.lst
        have hfl : (aboveD ((ws.map (·.1)).take i) t th).length ≤ ((ws.map (·.1)).take i).length := List.length_filter_le _ _
        rw [List.length_take] at hfl
        refine ifb (fun hb => ?_) (fun hb => ?_)
        · refine ⟨_, rfl, zs, hzs, Evl.sz_lt (by omega), (e.trans e2).fresh hR, ?_⟩
          rw [hab, if_pos hb]
          exact am2.pushU hzs (e2.tups _ _ huxG)
        · refine ⟨e.trans e2, ?_⟩
          rw [hab, hb, if_neg Bool.false_ne_true, List.append_nil]
          exact am2
    · rintro G ⟨e, amR⟩
      rw [List.take_of_length_le (by rw [List.length_map (f := V.ref), hadl]; exact Nat.le_refl _)] at amR
      dsimp only [List.set]
      have e2 := e1.trans e
      have O2 := O.ext e2
      have hwn : ws.length ≤ 1000 := by rwa [List.length_map] at hal
      refine ⟨_, rfl, o, dx, _, rfl, O2.ob, rfl, o, dx, D, L, ws, t, th, rfl, O2, hth, htl, hwn, fun r G2 _ e3 am3 => ?_⟩
      have hfl : (aboveD (ws.map (·.1)) t th).length ≤ (ws.map (·.1)).length := List.length_filter_le _ _
      refine ⟨_, rfl, r, R, _, rfl, am3, amR.ext e3 (by simp), by omega, fun q hq => wdx ?_, q G2 (e2.trans e3)⟩
      exact (List.mem_filter.mp hq).1
end

end K18
namespace K18
open PySem PySem.Spec PyProof.Rows L2 He Tp ClX LiI

section
variable {P : Program} {w : World} {K : PySem.W.Frag} {mg : Str → Option Value} {base : Heap}
theorem ok_leadsO (T : Txt K mg) : Df P w K mg base CX0 7 "_law_leads" ["_law_source_here", "_law_order", "_law_amounts_here", "_law_below_here", "_law_steps_here"] (spLeadsO (cO K)) := by
  obtain ⟨fc, fc_⟩ := T.fOrderchain
  have Fc := ok_chain (P := P) (w := w) (base := base) T fc_
  have bc : Binds K fc ["self", "more", "less"] [] := fc_.bindsN (fun _ _ _ _ _ _ us hl => match us, hl with | [_, _, _], _ => rfl)
  have D__law_lists := ok_lists (P := P) (w := w) (base := base) T
  have D__law_draw := ok_drawE (P := P) (w := w) (base := base) T
  refine Df.mk' T.g_law_leads T.f_law_leads (fun _ _ _ _ _ _ us hl => match us, hl with | [_, _, _, _, _], _ => rfl) fun fd F => F.ok sc__law_leads (fun vs H Q E h => ?_) (fun cdv A outer s H vs Q E hr h => ?_)
  · obtain ⟨S, L, o, dx, D, Lt, lo, ls, Db, lt, as, t, th, ws, rfl, _⟩ := h
    rfl
  · obtain ⟨S, L, o, dx, D, Lt, lo, ls, Db, lt, as, t, th, ws, rfl, z, q⟩ := h
    have nd := sc__law_leads.nd
    have hu := hu1_of hr
    have hu64 := hr.units
    have hu65 := hu65_of hr
    have hrm := hr
    have hr__law_lists := hr.mono (show 2 ≤ 6 by decide)
    have hr__law_draw := hr.mono (show 1 ≤ 6 by decide)
    refine ⟨_, PSs.nox (pss_cons (ps_if (pt_cmpR (op_eqD hu64) (pv 2) (pe_lst pa_nil) (nomark _)) (pss_one (ps_ret pe_bl)) pss_nil)
   (pss_cons (ps_set (i := 5) nd rfl (by first | exact Or.inl rfl | exact Or.inr rfl) (pe_ix ix_list (pv 2) (pe_cd D__law_draw hr__law_draw (by rfl) pass0 (pa_cons (pv 0) (pa_cons (pe_callB call_len_seq (by rfl) T.blen PySem.boot_len (pa_cons (pv 2) pa_nil)) pa_nil))) (fun _ _ => rfl)))
   (pss_cons (ps_set (i := 6) nd rfl (by first | exact Or.inl rfl | exact Or.inr rfl) (pe_ix ix_list (pv 2) (pe_op op_mod (pe_op op_add (pe_cd D__law_draw hr__law_draw (by rfl) pass0 (pa_cons (pv 0) (pa_cons (pe_callB call_len_seq (by rfl) T.blen PySem.boot_len (pa_cons (pv 2) pa_nil)) pa_nil))) pe_int) (pe_callB call_len_seq (by rfl) T.blen PySem.boot_len (pa_cons (pv 2) pa_nil))) (fun _ _ => rfl)))
   (pss_cons (ps_set (i := 7) nd rfl (by first | exact Or.inl rfl | exact Or.inr rfl) (pe_meth (pv 1) T.clOrder T.mOrderchain Fc hrm bc .nil passL (pa_cons (pv 5) (pa_cons (pv 6) pa_nil))))
   (pss_cons (ps_if (PW.pt (pw_or (pt_cmpR op_isN (pv 7) pe_non (nomark _)) (pw_or1 (pt_cmpR (op_notInD hu65) (pv 6) (pe_dget hu (pv 3) (pv 5) (fun _ _ => rfl)) (by rfl))))) (pss_one (ps_ret (pe_and (pe_cmpR op_isN (pv 7) pe_non (nomark _)) (pe_one (pe_cmpR (op_notInD hu65) (pv 6) (pe_dget hu (pv 3) (pv 5) (fun _ _ => rfl)) (by rfl)))))) pss_nil)
   (pss_cons (ps_if (PW.pt (pw_or (pt_not (pt_val (pe_cd D__law_lists hr__law_lists (by rfl) pass0 (pa_cons (pv 7) (pa_cons (pv 7) pa_nil))))) (pw_or (pt_cmpR (op_neD hu64) (pe_slice sl_list (pv 7) po_none (po_some pe_int)) (pe_lst (pa_cons (pv 5) pa_nil)) (nomark _)) (pw_or1 (pt_cmpR (op_neD hu64) (pe_slice sl_list (pv 7) (po_some (pe_un un_neg pe_int)) po_none) (pe_lst (pa_cons (pv 6) pa_nil)) (nomark _)))))) (pss_one (ps_ret pe_bl)) pss_nil)
   (pss_one (ps_ret (pe_callB (cr_all rfl) (by rfl) T.ball (by decide +kernel) (pa_cons (pe_lc (own := [("_law_k", 8)]) (g := gName 8) (tt := tYes) (by rfl) nd (pi_range1 (by rfl) T.brange (pa_cons (pe_op op_sub (pe_callB call_len_seq (by rfl) T.blen PySem.boot_len (pa_cons (pv 7) pa_nil)) pe_int) pa_nil)) (blkOk_by (own := [("_law_k", 8)]) (N := n__law_leads) (sc := defScope s__law_leads) (by decide +kernel)) (fun _ _ _ _ _ => pg_name (i := 8) nd rfl (by first | exact Or.inl rfl | exact Or.inr rfl)) (fun _ _ _ _ _ => pts_nil) (fun _ _ _ _ _ => (pe_cmpR (show OpR _ (compareOp .In) (rInD K) from op_inD hu65) (pe_tup (pa_cons (pe_ix (show IxR _ (rIxL K) from ix_list) (pv 7) (pv 8) (fun _ _ => rfl)) (pa_cons (pe_ix (show IxR _ (rIxL K) from ix_list) (pv 7) (pe_op op_add (pv 8) pe_int) (fun _ _ => rfl)) pa_nil))) (pv 4) (by rfl)))) pa_nil)))))))))), ?_⟩
    refine ⟨_, rfl, by show 0 ≤ sizeLine; decide, fun ze hze => ?_⟩
    have e1 : Ext [] H (upd H ze (.lst [])) := Ext.new hze
    have z1 := z.ext e1
    have hz1 : (upd H ze (.lst [])) ze = some (.lst []) := upd_same
    generalize upd H ze (.lst []) = H1 at e1 z1 hz1
    have f1 : Ext [S] H H1 := e1.nil
    clear e1 hze z
    refine ⟨.list (as.map dAmt), .list [], z1.am.dp, .lst (SqL.of hz1) ImAll.nil.dp, sh_amts (fun q hq => okS_wd (z1.wd q hq)), by decide +kernel, _, rfl, ?_⟩
    rw [eqv_nil]
    refine ifd (fun h => q H1 f1 z1.s) (fun h => ?_)
    unfold tNext
    dsimp only
    have hpos : 0 < as.length := List.length_pos_iff.mpr fun h0 => h (by rw [h0]; rfl)
    have hal := z1.al
    clear h hz1
    obtain ⟨ad1, ha1, hp1⟩ := z1.am
    have hl1 := amt_len hp1
    have hm1 : (ad1.map V.ref).length = as.length := by rw [List.length_map, hl1]
    refine ⟨_, rfl, ?_⟩
    refine draw_ex (i := 0) (many := ((ad1.map V.ref).length : Int)) rfl z1.s (by omega) (Int.lt_of_le_of_lt (show ((ad1.map V.ref).length : Int) ≤ 200 by omega) (by decide)) (val_len (val_var rfl) (SqL.of ha1)) (fun m H2 m0 m1 e2 s2 => ?_)
    have z2 := z1.draw e2 s2
    have f2 := f1.trans e2
    obtain ⟨ad2, ha2, hp2⟩ := z2.am
    have hl2 := amt_len hp2
    have hm2 : (ad2.map V.ref).length = as.length := by rw [List.length_map, hl2]
    have hlen2 : (ad2.map V.ref).length = ad2.length := List.length_map ..
    obtain ⟨u, x, b1, hxm, hux⟩ := am_pick hp2 m0 (by omega)
    refine ⟨lo, _, _, _, rfl, rfl, SqL.of ha2, b1, ?_⟩
    refine gset ?_
    dsimp only
    clear e2 s2 z1 ha1 hp1 hl1 hm1 b1 f1 m0 m1
    refine ⟨_, rfl, ?_⟩
    refine draw_ex (i := 0) (many := ((ad2.map V.ref).length : Int)) rfl z2.s (by omega) (Int.lt_of_le_of_lt (show ((ad2.map V.ref).length : Int) ≤ 200 by omega) (by decide)) (val_len (val_var rfl) (SqL.of ha2)) (fun m2 H3 m20 m21 e3 s3 => ?_)
    have z3 := z2.draw e3 s3
    have f3 := f2.trans e3
    have hux3 := e3.tups _ _ hux
    obtain ⟨ad3, ha3, hp3⟩ := z3.am
    have hl3 := amt_len hp3
    have hlen3 : (ad3.map V.ref).length = ad3.length := List.length_map ..
    have i0 := Int.emod_nonneg (m2 + 1) (show ((ad3.map V.ref).length : Int) ≠ 0 by omega)
    have i1 := Int.emod_lt_of_pos (m2 + 1) (show (0 : Int) < ((ad3.map V.ref).length : Int) by omega)
    obtain ⟨v, y, b2, hym, hvy⟩ := am_pick hp3 i0 (by rw [← hlen3]; exact i1)
    refine ⟨_, 1, rfl, rfl, _, rfl, lo, _, rfl, .inl (SqL.of ha3), _, _, rfl, rfl, (show (0 : Int) < ((ad3.map V.ref).length : Int) by omega), lo, _, _, _, rfl, rfl, SqL.of ha3, b2, ?_⟩
    refine gset ?_
    dsimp only
    clear e3 s3 z2 ha2 hp2 hl2 hm2 hlen2 hux f2 m20 m21 i0 i1 b2
    have okx := z3.wd x hxm
    have oky := z3.wd y hym
    have hwl : ws.length = as.length := by rw [← z3.hw, List.length_map]
    refine ⟨_, rfl, o, dx, _, rfl, z3.o.ob, rfl, _, rfl, _, rfl, o, .ref u, .ref v, dAmt x, dAmt y, dx, D, Lt, ws, t, th, rfl, Av.amt hux3 okx, Av.amt hvy oky, z3.o, fun h => ?_, fun _ h => ?_, fun x' y' h1 h2 _ _ hn => ?_, fun x' y' h1 h2 _ _ hc l ps H4 hl4 e4 am pt hlen => ?_⟩
    · rw [ownD_amt, z3.hw, decide_eq_true hxm] at h; cases h
    · rw [ownD_amt, z3.hw, decide_eq_true hym] at h; cases h
    · cases dAmt_inj h1
      cases dAmt_inj h2
      refine gset ?_
      dsimp only
      obtain ⟨r, rs, g0, amr, _, rsub, riff⟩ := z3.bl.get z3.nd hxm hux3
      refine ⟨_, rfl, rfl, _, rfl, ?_⟩
      refine iteT ?_
      refine ⟨_, rfl, rfl, _, rfl, ?_⟩
      refine iteT ?_
      refine ⟨_, rfl, _, rfl, _, rfl, Db, _, rfl, g0, dAmt y, rs.map dAmt, (isAmt.im hvy).dp, amr.dp, (okD_amt (okS_wd oky)).shaped, sh_amts (fun q hq => okS_wd (z3.wd q (rsub q hq))), ?_⟩
      rw [any_amt, rc_mem riff, rc_no hn]
      exact q H3 f3 z3.s
    · cases dAmt_inj h1
      cases dAmt_inj h2
      refine gset ?_
      dsimp only
      have z4 := z3.ext e4
      have f4 := f3.trans e4.nil
      have hux4 := e4.tups _ _ hux3
      have hvy4 := e4.tups _ _ hvy
      clear z3 f3 hux3 hvy e4 hl4 hp3 ha3
      obtain ⟨r, rs, g0, amr, _, rsub, riff⟩ := z4.bl.get z4.nd hxm hux4
      refine ⟨_, rfl, rfl, _, rfl, ?_⟩
      refine iteF ?_
      refine ⟨_, rfl, _, rfl, _, rfl, Db, _, rfl, g0, dAmt y, rs.map dAmt, (isAmt.im hvy4).dp, amr.dp, (okD_amt (okS_wd oky)).shaped, sh_amts (fun q hq => okS_wd (z4.wd q (rsub q hq))), _, rfl, ?_⟩
      rw [any_amt, rc_mem riff, rc_yes hc]
      refine iteF ?_
      have hti : ∀ q ∈ t, q.1 ∈ as := fun q hq => by rw [← z4.hw]; exact (z4.o.cl q hq).1
      have hpin := pth_in pt hti hym
      have okps : ∀ q ∈ ps, okS q.1 := fun q hq => okS_wd (z4.wd q (hpin q hq))
      refine ⟨_, rfl, _, rfl, l, l, ps, rfl, am, am, by omega, okps, _, rfl, ?_⟩
      refine iteF ?_
      obtain ⟨p1, p2, p3, _⟩ := pt
      obtain ⟨us, hlu, hpu⟩ := id am
      have hul := amt_len hpu
      have hne : ps ≠ [] := fun h => by rw [h] at p1; cases p1
      obtain ⟨a0, us', hc0, hA0⟩ : ∃ a0 us', us = a0 :: us' ∧ isAmt H4 a0 x := by
        cases hpu with
        | nil => exact absurd rfl hne
        | cons h1 _ =>
          cases p1
          exact ⟨_, _, rfl, h1⟩
      obtain ⟨a1, us'', hc1, hA1⟩ : ∃ a1 us'', us = us'' ++ [a1] ∧ isAmt H4 a1 y := by
        rcases List.eq_nil_or_concat us with h | ⟨as', a1, h⟩
        · rw [h] at hpu
          cases hpu
          exact absurd rfl hne
        · rw [List.concat_eq_append] at h
          subst h
          obtain ⟨q', h1, h2⟩ := amt_at (i := as'.length) (t := a1) hpu (by simp)
          have hl : as'.length = ps.length - 1 := by
            rw [← hul, List.length_append]
            rfl
          rw [hl, ← List.getLast?_eq_getElem?, p2] at h1
          cases h1
          exact ⟨a1, as', rfl, h2⟩
      refine ⟨_, rfl, 1, rfl, l, _, rfl, SqL.of hlu, fun s1 hs1 => ?_⟩
      have g1 : Ext [] H4 (upd H4 s1 (.lst (cutV (us.map V.ref) none (some 1)))) := Ext.new hs1
      have hs1' : (upd H4 s1 (.lst (cutV (us.map V.ref) none (some 1)))) s1 = some (.lst [.ref a0]) := by rw [upd_same, hc0, List.map_cons, cut_first]
      generalize upd H4 s1 (.lst (cutV (us.map V.ref) none (some 1))) = H5 at g1 hs1' ⊢
      refine ⟨_, rfl, by show 1 ≤ sizeLine; decide, fun s2 hs2 => ?_⟩
      have g2 : Ext [] H5 (upd H5 s2 (.lst [.ref u])) := Ext.new hs2
      refine ne_one1 (okS_wd okx) (g2.keep _ _ hs1' (by simp)) ((g1.trans g2).tups _ _ hA0) upd_same ((g1.trans g2).tups _ _ hux4) ⟨_, rfl, ?_⟩
      refine iteF ?_
      replace g2 := g1.trans g2
      generalize upd H5 s2 (.lst [.ref u]) = H6 at g2 ⊢
      clear g1 hs1' hs1 hs2
      have hlu6 := g2.keep _ _ hlu (by simp)
      refine ⟨_, rfl, 1, rfl, -1, rfl, l, _, rfl, SqL.of hlu6, fun s1 hs1 => ?_⟩
      have g3 : Ext [] H6 (upd H6 s1 (.lst (cutV (us.map V.ref) (some (-1)) none))) := Ext.new hs1
      have hs1' : (upd H6 s1 (.lst (cutV (us.map V.ref) (some (-1)) none))) s1 = some (.lst [.ref a1]) := by rw [upd_same, hc1, List.map_append, List.map_cons, List.map_nil, cut_last]
      generalize upd H6 s1 (.lst (cutV (us.map V.ref) (some (-1)) none)) = H7 at g3 hs1' ⊢
      refine ⟨_, rfl, by show 1 ≤ sizeLine; decide, fun s2 hs2 => ?_⟩
      have g4 : Ext [] H7 (upd H7 s2 (.lst [.ref v])) := Ext.new hs2
      refine ne_one1 (okS_wd oky) (g4.keep _ _ hs1' (by simp)) ((g2.trans (g3.trans g4)).tups _ _ hA1) upd_same ((g2.trans (g3.trans g4)).tups _ _ hvy4) ⟨_, rfl, ?_⟩
      refine iteF ?_
      have g5 := g2.trans (g3.trans g4)
      generalize upd H7 s2 (.lst [.ref v]) = H8 at g5 ⊢
      clear g2 g3 g4 hs1' hs1 hs2 hlu6
      dsimp only
      have hlu8 := g5.keep _ _ hlu (by simp)
      have am8 := am.ext g5 (by simp)
      have pr8 := z4.pr.ext g5 (by simp)
      obtain ⟨xs, k1, k2, k3⟩ := am8.get
      have hxs : xs = us.map V.ref := by
        rw [hlu8] at k1
        cases k1
        rfl
      subst hxs
      have hll : (us.map V.ref).length = ps.length := k2
      have hpos2 : 0 < ps.length := List.length_pos_iff.mpr hne
      have hps100 : ps.length ≤ 100 := by omega
      refine ⟨_, rfl, l, _, rfl, .inl (SqL.of hlu8), _, _, rfl, rfl, ((ps.length - 1 : Nat) : Int), (by rw [hll]; show [V.int _] = [V.int _]; rw [Int.ofNat_sub hpos2]; rfl), by omega, by omega, fun R hR => ?_⟩
      refine lc_range (n := (((ps.length - 1 : Nat) : Int)).toNat) (fun i H' => Ext [] H8 H' ∧ H' R = some (.lst ((List.replicate i true).map V.bl))) ⟨Ext.new hR, upd_same⟩ ?_ ?_
      · rintro i H' hi ⟨e4, hR4⟩
        have hi' : i + 1 < ps.length := by omega
        refine ⟨wipe1, ?_⟩
        refine tyes ?_
        have hxs4 := e4.keep _ _ hlu8 (by simp)
        obtain ⟨b0, hb0, hc0⟩ := k3 i _ (List.getElem?_eq_getElem (by omega : i < ps.length))
        obtain ⟨b1, hb1, hc1⟩ := k3 (i + 1) _ (List.getElem?_eq_getElem hi')
        have hin := p3 i _ _ (List.getElem?_eq_getElem (by omega : i < ps.length)) (List.getElem?_eq_getElem hi')
        have z0 : (0 : Int) + (i : Int) = (i : Int) := Int.zero_add _
        refine val_ixL (val_var rfl) (val_var rfl) (SqL.of hxs4) (by rw [z0]; exact hb0) _ ?_
        have z1 : ((0 : Int) + (i : Int)) + 1 = ((i + 1 : Nat) : Int) := by omega
        have vadd : ∀ {σ : L2.St} {G : Hp}, σ[8]? = some (some (.int (0 + (i : Int)))) → Val (tOp (fun x y H Q => ∃ i j, x = .int i ∧ y = .int j ∧ Q (.int (i + j)) H) (tVar 8) (tC (.int 1))) σ G (.int (((0 : Int) + (i : Int)) + 1)) := fun h => val_op (val_var h) val_c fun _ q => ⟨_, _, rfl, rfl, q⟩
        refine val_ixL (val_var rfl) (vadd rfl) (SqL.of hxs4) (by rw [z1]; exact hb1) _ ?_
        refine ⟨by show 2 ≤ sizeLine; decide, fun tp htp => ?_⟩
        have e5 : Ext [] H' (upd H' tp (.tup [.ref b0, .ref b1])) := Ext.new htp
        have pr5 := pr8.ext (e4.trans e5) (by simp)
        have hpr5 : isPr (upd H' tp (.tup [.ref b0, .ref b1])) tp (ps[i]'(by omega), ps[i + 1]'hi') := ⟨b0, b1, upd_same, (e4.trans e5).tups _ _ hc0, (e4.trans e5).tups _ _ hc1⟩
        have hR5 := e5.keep _ _ hR4 (by simp)
        refine ⟨_, rfl, dPr (ps[i]'(by omega), ps[i + 1]'hi'), _, hpr5.im.dp, pr5.dp, (okD_pr (z4.ok _ hin)).shaped, sh_pr z4.ok, _, hR5, by rw [List.length_map, List.length_replicate]; exact Evl.sz_lt (by omega), (e4.trans e5).fresh hR, ?_⟩
        rw [any_pr, decide_eq_true hin, upd_same, List.replicate_succ', List.map_append]
        rfl
      · rintro H' ⟨e4, hR4⟩
        refine ⟨R, List.replicate _ true, rfl, SqL.of hR4, ?_⟩
        have : (List.replicate (((ps.length - 1 : Nat) : Int)).toNat true).all id = true := by simp
        rw [this]
        exact q H' (f4.trans (g5.trans e4).nil) (z4.s.ext (g5.trans e4))
end

end K18
namespace K18
open PySem PySem.Spec PyProof.Rows L2 He Tp ClX LiI

section
variable {P : Program} {w : World} {K : PySem.W.Frag} {mg : Str → Option Value} {base : Heap}
theorem ok_aboveO (T : Txt K mg) : Df P w K mg base CX0 8 "_law_above" ["_law_source_here", "_law_order", "_law_amounts_here", "_law_below_here"] (spAboveO (cO K)) := by
  obtain ⟨fa, fa_⟩ := T.fOrderabove
  obtain ⟨fc, fc_⟩ := T.fOrder__contains__
  have Fa := ok_above (P := P) (w := w) (base := base) T fa_
  have Fc := ok_ordCt (P := P) (w := w) (base := base) T fc_
  have ba : Binds K fa ["self", "amounts"] [] := fa_.bindsN (fun _ _ _ _ _ _ us hl => match us, hl with | [_, _], _ => rfl)
  have bc : Binds K fc ["self", "couple"] [] := fc_.bindsN (fun _ _ _ _ _ _ us hl => match us, hl with | [_, _], _ => rfl)
  have oc : OwnCt K (cO K) (ma K (cO K) "__contains__") := ⟨T.mOrder__contains__.at_, T.mOrder__contains__.fn⟩
  have D__law_lists := ok_lists (P := P) (w := w) (base := base) T
  have D__law_draw := ok_drawE (P := P) (w := w) (base := base) T
  have D__law_refused := ok_refused (P := P) (w := w) (base := base) T
  refine Df.mk' T.g_law_above T.f_law_above (fun _ _ _ _ _ _ us hl => match us, hl with | [_, _, _, _], _ => rfl) fun fd F => F.ok sc__law_above (fun vs H Q E h => ?_) (fun cdv A outer s H vs Q E hr h => ?_)
  · obtain ⟨S, L, o, dx, D, Lt, lo, ls, Db, lt, as, t, th, ws, rfl, _⟩ := h
    rfl
  · obtain ⟨S, L, o, dx, D, Lt, lo, ls, Db, lt, as, t, th, ws, rfl, z, ⟨n, my⟩, q⟩ := h
    have hw0 := z.hw
    subst hw0
    have nd := sc__law_above.nd
    have hu := hu1_of hr
    have hu64 := hr.units
    have hu65 := hu65_of hr
    have hra := hr.mono (show 6 ≤ 7 by decide)
    have hrc := hr.mono (show 4 ≤ 7 by decide)
    have hr__law_lists := hr.mono (show 2 ≤ 7 by decide)
    have hr__law_draw := hr.mono (show 1 ≤ 7 by decide)
    have hr__law_refused := hr.mono (show 7 ≤ 7 by decide)
    refine ⟨_, PSs.nox (pss_cons (ps_set (i := 4) nd rfl (by first | exact Or.inl rfl | exact Or.inr rfl) (pe_lst pa_nil))
   (pss_cons (ps_for PassesOwn.never rfl (pi_range1 (by rfl) T.brange (pa_cons (pe_op op_mod (pe_op op_add pe_int (pe_cd D__law_draw hr__law_draw (by rfl) pass0 (pa_cons (pv 0) (pa_cons pe_int pa_nil)))) pe_int) pa_nil)) (pg_name (i := 5) nd rfl (by first | exact Or.inl rfl | exact Or.inr rfl))
   (pss_one (ps_if (pt_cmpR (op_neD hu64) (pv 2) (pe_lst pa_nil) (nomark _)) (pss_one (ps_expr (pe_bm PySem.F.plainAttrs_list PySem.F.slot_list_append PySem.F.type_list_append mt_append (pv 4) (pa_cons (pe_ix ix_list (pv 2) (pe_cd D__law_draw hr__law_draw (by rfl) pass0 (pa_cons (pv 0) (pa_cons (pe_callB call_len_seq (by rfl) T.blen PySem.boot_len (pa_cons (pv 2) pa_nil)) pa_nil))) (fun _ _ => rfl)) pa_nil)))) pss_nil)))
   (pss_cons (ps_set (i := 6) nd rfl (by first | exact Or.inl rfl | exact Or.inr rfl) (pe_callTy call_list_of (by rfl) T.blist (by decide +kernel) (pa_cons (pv 4) pa_nil)))
   (pss_cons (ps_setLc (i := 7) (own := [("_law_more", 11)]) (g := gName 11) (by rfl) nd rfl rfl (sw_true rfl rfl rfl (by decide +kernel)) (pi_list (pv 2)) (blkOk_by (own := [("_law_more", 11)]) (N := n__law_above) (sc := defScope s__law_above) (by decide +kernel)) (fun _ _ _ _ _ => pg_name (i := 11) nd rfl (by first | exact Or.inl rfl | exact Or.inr rfl)) (fun _ _ _ _ _ => (pts_one (pt_val (pe_callB (show CallR _ (.builtin "any") (rAny K) from cr_any rfl) (by rfl) T.bany (by decide +kernel) (pa_cons (show PE _ _ (tLc (iList K (tVar 4)) (gName 14) tYes _ [14]) from (pe_lc (own := [("_law_low", 14)]) (g := gName 14) (tt := tYes) (by rfl) nd (pi_list (pv 4)) (blkOk_by (own := [("_law_low", 14)]) (N := n__law_above) (sc := relS (lcSc ((defBody s__law_above).getD 3 (.Pass ⟨0, 0, 0, 0⟩))) (defScope s__law_above)) (by decide +kernel)) (fun _ _ _ _ _ => pg_name (i := 14) nd rfl (by first | exact Or.inl rfl | exact Or.inr rfl)) (fun _ _ _ _ _ => pts_nil) (fun _ _ _ _ _ => (pe_cmpR (show OpR _ (compareOp .In) (rInD K) from op_inD hu65) (pv 14) (pe_dget hu (pv 3) (pv 11) (fun _ _ => rfl)) (by rfl))))) pa_nil))))) (fun _ _ _ _ _ => (pv 11)))
   (pss_cons (ps_if (PW.pt (pw_or (pt_not (pt_val (pe_cd D__law_lists hr__law_lists (by rfl) pass0 (pa_cons (pe_meth (pv 1) T.clOrder T.mOrderabove Fa hra ba .nil passL (pa_cons (pv 6) pa_nil)) (pa_cons (pv 7) pa_nil))))) (pw_or1 (pt_cmpR (op_neD hu64) (pv 6) (pv 4) (nomark _))))) (pss_one (ps_ret pe_bl)) pss_nil)
   (pss_cons (ps_set (i := 8) nd rfl (by first | exact Or.inl rfl | exact Or.inr rfl) (pe_callB call_len_seq (by rfl) T.blen PySem.boot_len (pa_cons (pe_lc (own := [("_law_amount", 12)]) (g := gName 12) (by rfl) nd (pi_list (pv 2)) (blkOk_by (own := [("_law_amount", 12)]) (N := n__law_above) (sc := defScope s__law_above) (by decide +kernel)) (fun _ _ _ _ _ => pg_name (i := 12) nd rfl (by first | exact Or.inl rfl | exact Or.inr rfl)) (fun _ _ _ _ _ => (pts_one (pt_cmpR op_eq (pe_ix (show IxR _ (rIxT K) from ix_tup) (pv 12) pe_int (fun _ _ => rfl)) pe_str (nomark _)))) (fun _ _ _ _ _ => (pv 12))) pa_nil)))
   (pss_cons (ps_set (i := 9) nd rfl (by first | exact Or.inl rfl | exact Or.inr rfl) (pe_lst (pa_cons (pe_tup (pa_cons pe_str (pa_cons pe_int pa_nil))) (pa_cons (pe_tup (pa_cons pe_str (pa_cons pe_int pa_nil))) (pa_cons (pe_tup (pa_cons pe_str (pa_cons (pe_op op_sub pe_int pe_int) pa_nil))) (pa_cons pe_str (pa_cons (pe_tup (pa_cons pe_str (pa_cons (pv 8) pa_nil))) (pa_cons (pe_tup (pa_cons pe_str (pa_cons pe_bl pa_nil))) pa_nil))))))))
   (pss_cons (ps_set (i := 9) nd rfl (by first | exact Or.inl rfl | exact Or.inr rfl) (pe_op op_cat (pv 9) (pe_lst (pa_cons pe_non (pa_cons (pe_tup (pa_cons pe_str (pa_cons pe_bl pa_nil))) (pa_cons (pe_tup (pa_cons pe_str pa_nil)) (pa_cons (pe_tup (pa_cons pe_str (pa_cons pe_str pa_nil))) (pa_cons pe_int (pa_cons (pe_tup (pa_cons pe_str (pa_cons pe_int pa_nil))) pa_nil)))))))))
   (pss_cons (ps_set (i := 9) nd rfl (by first | exact Or.inl rfl | exact Or.inr rfl) (pe_op op_cat (pv 9) (pe_lc (own := [("_law_i", 13)]) (g := gName 13) (by rfl) nd (pi_range1 (by rfl) T.brange (pa_cons (pv 8) pa_nil)) (blkOk_by (own := [("_law_i", 13)]) (N := n__law_above) (sc := defScope s__law_above) (by decide +kernel)) (fun _ _ _ _ _ => pg_name (i := 13) nd rfl (by first | exact Or.inl rfl | exact Or.inr rfl)) (fun _ _ _ _ _ => (pts_one (pt_cmpR (show OpR _ (compareOp .NotIn) (rNotInD K) from op_notInD hu65) (pe_tup (pa_cons pe_str (pa_cons (pv 13) pa_nil))) (pv 2) (by rfl)))) (fun _ _ _ _ _ => (pe_tup (pa_cons pe_str (pa_cons (pv 13) pa_nil)))))))
   (pss_cons (ps_set (i := 10) nd rfl (by first | exact Or.inl rfl | exact Or.inr rfl) (pe_ix ix_list (pv 9) (pe_cd D__law_draw hr__law_draw (by rfl) pass0 (pa_cons (pv 0) (pa_cons (pe_callB call_len_seq (by rfl) T.blen PySem.boot_len (pa_cons (pv 9) pa_nil)) pa_nil))) (fun _ _ => rfl)))
   (pss_cons (ps_if (PW.pt (pw_or (pt_cmpR (op_inOwn oc Fc hrc bc pass0) (pe_tup (pa_cons (pv 10) (pa_cons (pv 10) pa_nil))) (pv 1) (by rfl)) (pw_or (pt_cmpR (op_inOwn oc Fc hrc bc pass0) (pe_tup (pa_cons (pv 10) (pa_cons (pe_tup (pa_cons pe_str (pa_cons pe_int pa_nil))) pa_nil))) (pv 1) (by rfl)) (pw_or1 (pt_cmpR (op_inOwn oc Fc hrc bc pass0) (pe_tup (pa_cons (pe_tup (pa_cons pe_str (pa_cons pe_int pa_nil))) (pa_cons (pv 10) pa_nil))) (pv 1) (by rfl)))))) (pss_one (ps_ret pe_bl)) pss_nil)
   (pss_cons (ps_if (PW.pt (pw_or (pt_cmpR (op_inOwn oc Fc hrc bc pass0) (pe_tup (pa_cons (pe_tup (pa_cons pe_str (pa_cons (pv 8) pa_nil))) (pa_cons (pe_tup (pa_cons pe_str (pa_cons (pv 8) pa_nil))) pa_nil))) (pv 1) (by rfl)) (pw_or1 (pt_not (pt_val (pe_cd D__law_refused hr__law_refused (by rfl) pass0 (pa_cons (pv 1) (pa_cons (pe_lst (pa_cons (pe_tup (pa_cons pe_str (pa_cons (pv 8) pa_nil))) pa_nil)) (pa_cons (pe_tup (pa_cons pe_str (pa_cons (pv 8) pa_nil))) pa_nil))))))))) (pss_one (ps_ret pe_bl)) pss_nil)
   (pss_one (ps_ret (pe_cd D__law_refused hr__law_refused (by rfl) pass0 (pa_cons (pv 1) (pa_cons (pe_op op_cat (pe_op op_cat (pe_op op_cat (pv 4) (pe_lst (pa_cons (pv 10) pa_nil))) (pv 4)) (pe_lst (pa_cons (pe_tup (pa_cons pe_str (pa_cons pe_int pa_nil))) pa_nil))) (pa_cons (pv 10) pa_nil)))))))))))))))))), ?_⟩
    -- some of the amounts
    refine ⟨by show 0 ≤ sizeLine; decide, fun lc hlc => ?_⟩
    refine gset ?_
    dsimp only
    obtain ⟨lcS, lcL⟩ := src_ne_new z.s hlc
    have ec : Ext [] H (upd H lc (.lst [])) := Ext.new hlc
    have hc1 : AmtAt (upd H lc (.lst [])) lc [] := ⟨[], upd_same, .nil⟩
    have z1 := z.ext ec
    generalize upd H lc (.lst []) = H1 at ec hc1 z1
    refine draw_ex (i := 0) rfl z1.s (by decide) (by decide) val_c (fun m H2 m0 m1 e2 s2 => ?_)
    have f2 : Ext [S] H H2 := ec.nil.trans e2
    have hc2 := hc1.ext e2 (by simpa using lcS)
    have hm1 := Int.emod_nonneg (2 + m) (show (5 : Int) ≠ 0 by decide)
    have hm2 := Int.emod_lt_of_pos (2 + m) (show (0 : Int) < 5 by decide)
    have z2 := z.draw f2 s2
    clear ec hc1 z1 e2
    refine ⟨2, _, rfl, rfl, _, 5, rfl, rfl, (by show (0 : Int) < 5; decide), (2 + m) % 5, rfl, by omega, by omega, for_range (n := ((2 + m) % 5).toNat) (fun i σ' H' => ∃ x5 cs, σ' = [some (.ref S), some (.ref o), some (.ref lo), some (.ref Db), some (.ref lc), x5, none, none, none, none, none, none, none, none, none] ∧ Ext [S] H H' ∧ SrcAt H' S L ∧ AmtAt H' lc cs ∧ cs.length ≤ i ∧ ∀ q ∈ cs, q ∈ ws.map (·.1)) ⟨none, [], rfl, f2, s2, hc2, Nat.le_refl _, by simp⟩ ?_ ?_⟩
    · clear f2 hc2 z2 s2
      rintro i σ' H' hi ⟨x5, cs, rfl, f, s', hc, hcl, hci⟩
      have zz := z.draw f s'
      refine gset ?_
      dsimp only
      refine ⟨_, rfl, by show 0 ≤ sizeLine; decide, fun ze hze => ?_⟩
      have e3 : Ext [] H' (upd H' ze (.lst [])) := Ext.new hze
      have z3 := zz.ext e3
      have hc3 := hc.ext e3 (by simp)
      have hz3 : (upd H' ze (.lst [])) ze = some (.lst []) := upd_same
      have f3 : Ext [S] H (upd H' ze (.lst [])) := f.trans e3.nil
      generalize upd H' ze (.lst []) = H3 at z3 hc3 hz3 f3
      refine ⟨.list ((ws.map (·.1)).map dAmt), .list [], z3.am.dp, .lst (SqL.of hz3) ImAll.nil.dp, sh_amts (fun q hq => okS_wd (z3.wd q hq)), by decide +kernel, _, rfl, ?_⟩
      rw [eqv_nil]
      refine ifb (fun h => ?_) (fun h => ?_)
      · have hpos : 0 < (ws.map (·.1)).length := List.length_pos_iff.mpr fun h0 => by rw [h0] at h; simp at h
        have hal := z3.al
        obtain ⟨ad, ha, hp⟩ := z3.am
        have hl := amt_len hp
        have hm : (ad.map V.ref).length = (ws.map (·.1)).length := by rw [List.length_map, hl]
        refine ⟨_, rfl, .inl ⟨rfl, ?_⟩, ?_⟩
        · obtain ⟨xs, hxs, _⟩ := hc3.lst
          exact ⟨xs, SqL.of hxs⟩
        refine ⟨_, rfl, ?_⟩
        refine draw_ex (i := 0) (many := ((ad.map V.ref).length : Int)) rfl z3.s (by omega) (Int.lt_of_le_of_lt (show ((ad.map V.ref).length : Int) ≤ 200 by omega) (by decide)) (val_len (val_var rfl) (SqL.of ha)) (fun m H4 m0 m1 e4 s4 => ?_)
        have z4 := z3.draw e4 s4
        have hc4 := hc3.ext e4 (by simpa using lcS)
        have f4 := f3.trans e4
        obtain ⟨ad4, ha4, hp4⟩ := z4.am
        have hl4 := amt_len hp4
        obtain ⟨u, x, b1, hxm, hux⟩ := am_pick hp4 m0 (by omega)
        obtain ⟨xs, hxs, hxl⟩ := hc4.lst
        refine ⟨lo, _, _, _, rfl, rfl, SqL.of ha4, b1, lc, xs, _, rfl, rfl, hxs, Evl.sz_lt (by omega), ?_⟩
        have xl : Ext [lc] H4 (upd H4 lc (.lst (xs ++ [.ref u]))) := ext_lst hxs
        refine ⟨_, cs ++ [x], rfl, f4.fresh hlc, s4.keepM xl (by simpa using Ne.symm lcS) (by simpa using Ne.symm lcL), hc4.pushU hxs hux, by rw [List.length_append]; show cs.length + 1 ≤ i + 1; omega, fun q hq => ?_⟩
        rcases List.mem_append.mp hq with hq | hq
        · exact hci q hq
        · rw [List.mem_singleton.mp hq]
          exact hxm
      · exact ⟨_, cs, rfl, f3, z3.s, hc3, by omega, hci⟩
    clear f2 hc2 z2 s2
    rintro σ' H1 ⟨x5, cs, rfl, f1, s1, hc1, hcl, hci⟩
    have hcl4 : cs.length ≤ 4 := by omega
    dsimp only
    obtain ⟨cus, hlc1, hpc1⟩ := id hc1
    have hcul := amt_len hpc1
    refine ⟨_, rfl, lc, _, rfl, .inl (SqL.of hlc1), fun lh hlh => ?_⟩
    refine gset ?_
    dsimp only
    have e2 : Ext [] H1 (upd H1 lh (.lst (cus.map V.ref))) := Ext.new hlh
    have f2 := f1.trans e2.nil
    have hlc2 := e2.keep _ _ hlc1 (by simp)
    have hpc2 := amt_ext e2 hpc1
    have hlh2 : (upd H1 lh (.lst (cus.map V.ref))) lh = some (.lst (cus.map V.ref)) := upd_same
    have z2 := z.draw f2 (s1.ext e2)
    generalize upd H1 lh (.lst (cus.map V.ref)) = H2 at e2 f2 hlc2 hpc2 hlh2 z2
    clear hlc1 hpc1 hc1 s1 f1 e2 hlh
    -- what is due
    refine sq_asg ?_
    obtain ⟨ads, hlo1, hpa⟩ := z2.am
    have hadl := amt_len hpa
    have wdx : ∀ {x : Am}, x ∈ ws.map (·.1) → okS x.1 := fun h => okS_wd (z2.o.wd _ h)
    have hcw := hci
    have hal := z2.al
    refine ⟨_, rfl, lo, rfl, ⟨_, SqL.of hlo1⟩, fun R hR => lc_list (xs := ads.map V.ref) (fun i G => Ext [] H2 G ∧ AmtAt G R (aboveD ((ws.map (·.1)).take i) t cs)) ⟨Ext.new hR, [], upd_same, .nil⟩ ?_ ?_ ?_⟩
    · rintro i G _ ⟨e, _⟩
      exact SqL.of (e.keep _ _ hlo1 (by simp))
    · rintro i v G hv ⟨e, amR⟩
      rw [List.getElem?_map] at hv
      obtain ⟨u, hu1, rfl⟩ := Option.map_eq_some_iff.mp hv
      obtain ⟨x, hx, hux⟩ := amt_at hpa hu1
      have hxm := List.mem_of_getElem? hx
      have huxG := e.tups _ _ hux
      refine ⟨wipe1, ?_⟩
      refine ⟨_, rfl, lc, rfl, ⟨_, SqL.of (e.keep _ _ hlc2 (by simp))⟩, fun R2 hR2 => lc_list (xs := cus.map V.ref) (fun j G2 => Ext [] G G2 ∧ G2 R2 = some (.lst ((cs.take j).map fun y => V.bl (Rc' t x y)))) ⟨Ext.new hR2, upd_same⟩ ?_ ?_ ?_⟩
      · rintro j G2 _ ⟨e2, _⟩
        exact SqL.of ((e.trans e2).keep _ _ hlc2 (by simp))
      · rintro j y G2 hy ⟨e2, hr2⟩
        rw [List.getElem?_map] at hy
        obtain ⟨u', hu2, rfl⟩ := Option.map_eq_some_iff.mp hy
        obtain ⟨y, hy, huy⟩ := amt_at hpc2 hu2
        have hym := hcw y (List.mem_of_getElem? hy)
        refine ⟨wipe1, ?_⟩
        refine tyes ?_
        have e12 := e.trans e2
        have huy2 := e12.tups _ _ huy
        obtain ⟨r, rs, g0, amr, _, rsub, riff⟩ := (z2.bl.ext e12).get z2.o.nd hxm (e2.tups _ _ huxG)
        refine ⟨_, rfl, _, rfl, _, rfl, Db, _, rfl, g0, dAmt y, rs.map dAmt, (isAmt.im huy2).dp, amr.dp, (okD_amt (wdx hym)).shaped, sh_amts (fun q hq => wdx (rsub q hq)), ?_⟩
        rw [any_amt, rc_mem riff]
        refine ⟨_, hr2, by rw [List.length_map, List.length_take]; exact Evl.sz_lt (by omega), e2.fresh hR2, ?_⟩
        rw [upd_same, take_snoc hy, List.map_append]
        rfl
      · rintro G2 ⟨e2, hr2⟩
        rw [List.take_of_length_le (by rw [List.length_map, hcul]; exact Nat.le_refl _)] at hr2
        refine ⟨R2, cs.map (Rc' t x), rfl, SqL.of (by rw [List.map_map]; exact hr2), _, rfl, ?_⟩
        have ha : (cs.map (Rc' t x)).any id = cs.any fun y => Rc' t x y := by rw [List.any_map]; rfl
        rw [ha]
        have hab : aboveD ((ws.map (·.1)).take (i + 1)) t cs = aboveD ((ws.map (·.1)).take i) t cs ++ (if (cs.any fun y => Rc' t x y) = true then [x] else []) := by
          unfold aboveD
          rw [take_snoc hx, filter_snoc]
        have am2 := amR.ext e2 (by simp)
        obtain ⟨zs, hzs, hzl⟩ := am2.lst
        have hfl : (aboveD ((ws.map (·.1)).take i) t cs).length ≤ ((ws.map (·.1)).take i).length := List.length_filter_le _ _
        rw [List.length_take] at hfl
        refine ifb (fun hb => ?_) (fun hb => ?_)
        · refine ⟨_, rfl, zs, hzs, Evl.sz_lt (by omega), (e.trans e2).fresh hR, ?_⟩
          rw [hab, if_pos hb]
          exact am2.pushU hzs (e2.tups _ _ huxG)
        · refine ⟨e.trans e2, ?_⟩
          rw [hab, hb, if_neg Bool.false_ne_true, List.append_nil]
          exact am2
    rintro H3 ⟨e3, amR⟩
    rw [List.take_of_length_le (by rw [List.length_map (f := V.ref), hadl]; exact Nat.le_refl _)] at amR
    dsimp only [List.set]
    have z3 := z2.ext e3
    have f3 := f2.trans e3.nil
    have hlc3 := e3.keep _ _ hlc2 (by simp)
    have hlh3 := e3.keep _ _ hlh2 (by simp)
    have hpc3 := amt_ext e3 hpc2
    clear z2 f2 hlc2 hlh2 hpc2 e3 hlo1 hpa hadl
    have hwl : ws.length ≤ 100 := by rwa [List.length_map] at hal
    refine ⟨_, rfl, o, dx, _, rfl, z3.o.ob, rfl, _, rfl, o, lh, dx, D, Lt, ws, t, th, _, _, rfl, hlh3, amt_avs z3.wd hpc3 hcw, by rw [List.length_map]; omega, by omega, z3.o, fun i v d _ hd h => ?_, fun us' qs h1 h2 h3 h4 r H4 hr4 e4 am4 => ?_⟩
    · rw [List.getElem?_map] at hd
      obtain ⟨x, hx, rfl⟩ := Option.map_eq_some_iff.mp hd
      rw [ownD_amt, decide_eq_true (hcw x (List.mem_of_getElem? hx))] at h
      cases h
    have hqc : qs = cs := (List.map_inj_right fun x y h => dAmt_inj h).mp h3.symm
    subst hqc
    have hfl : (aboveD (ws.map (·.1)) t qs).length ≤ (ws.map (·.1)).length := List.length_filter_le _ _
    refine ⟨_, rfl, r, R, _, rfl, am4, amR.ext e4 (by simp), by omega, fun q hq => wdx (List.mem_filter.mp hq).1, _, rfl, ?_⟩
    refine iteF ?_
    have shc : SeqAt.shaped (.list (qs.map dAmt)) = true := sh_amts fun q hq => wdx (hcw q hq)
    have amc : AmtAt H4 lc qs := ⟨cus, e4.keep _ _ hlc3 (by simp), amt_ext e4 hpc3⟩
    have amh : AmtAt H4 lh qs := ⟨cus, e4.keep _ _ hlh3 (by simp), amt_ext e4 hpc3⟩
    refine ⟨_, rfl, _, rfl, .list (qs.map dAmt), .list (qs.map dAmt), amh.dp, amc.dp, shc, shc, _, rfl, ?_⟩
    rw [eqv_self shc]
    refine iteF ?_
    unfold tNext
    dsimp only
    have z4 := z3.ext e4
    have f4 := f3.trans e4.nil
    clear z3 f3 hlc3 hlh3 hpc3 amR am4 hr4 e4 h1 h2 h3 h4 amh hfl
    -- how many are taken
    obtain ⟨ads, hlo4, hpa⟩ := z4.am
    have hadl := amt_len hpa
    refine ⟨_, rfl, lo, rfl, ⟨_, SqL.of hlo4⟩, fun R2 hR2 => lc_list (xs := ads.map V.ref) (fun i G => Ext [] H4 G ∧ ∃ vs, G R2 = some (.lst vs) ∧ vs.length = (((ws.map (·.1)).take i).filter fun q => decide (q.1 = ("take" : Str))).length) ⟨Ext.new hR2, [], upd_same, rfl⟩ ?_ ?_ ?_⟩
    · rintro i G _ ⟨e, _⟩
      exact SqL.of (e.keep _ _ hlo4 (by simp))
    · rintro i v G hv ⟨e, vs, hvs, hvl⟩
      rw [List.getElem?_map] at hv
      obtain ⟨u, hu1, rfl⟩ := Option.map_eq_some_iff.mp hv
      obtain ⟨x, hx, hux⟩ := amt_at hpa hu1
      have huxG := e.tups _ _ hux
      have hfl : (((ws.map (·.1)).take i).filter fun q => decide (q.1 = ("take" : Str))).length ≤ ((ws.map (·.1)).take i).length := List.length_filter_le _ _
      rw [List.length_take] at hfl
      refine ⟨wipe1, ?_⟩
      refine ⟨_, rfl, u, _, 0, _, rfl, rfl, .inl (.inl huxG), rfl, rfl, _, rfl, ?_⟩
      refine ifd (fun h => ?_) (fun h => ?_)
      · have h' : x.1 = "take" := by injection h
        refine ⟨_, rfl, vs, hvs, Evl.sz_lt (by omega), e.fresh hR2, _, upd_same, ?_⟩
        rw [take_snoc hx, filter_snoc, if_pos (by simpa using h'), List.length_append, List.length_append, hvl]
        rfl
      · have h' : ¬ x.1 = "take" := fun e => h (by rw [e])
        refine ⟨e, vs, hvs, ?_⟩
        rw [take_snoc hx, filter_snoc, if_neg (by simpa using h'), List.append_nil, hvl]
    rintro H5 ⟨e5, vs5, hvs5, hvl5⟩
    rw [List.take_of_length_le (by rw [List.length_map (f := V.ref), hadl]; exact Nat.le_refl _), my.tk] at hvl5
    refine ⟨R2, vs5, rfl, .inl (SqL.of hvs5), ?_⟩
    rw [hvl5]
    refine gset ?_
    dsimp only
    have z5 := z4.ext e5
    have f5 := f4.trans e5.nil
    have amc5 := amc.ext e5 (by simp)
    clear z4 f4 amc hvs5 hvl5 e5 hlo4 hpa hadl hR2
    have hno : ∀ {w : Str} {i : Int}, (i < 0 ∨ (n : Int) ≤ i) → ownD (ws.map (·.1)) (.tuple [.str w, .int i]) = false := by
      intro w i h
      show (decide (0 ≤ i) && decide ((w, i.toNat) ∈ ws.map (·.1))) = false
      rcases h with h | h
      · rw [decide_eq_false (by omega), Bool.false_and]
      · rw [decide_eq_false (p := (w, i.toNat) ∈ ws.map (·.1)) (fun hm => by have := my.lt _ hm; have : i.toNat < n := this; omega), Bool.and_false]
    have hl0 : ownD (ws.map (·.1)) (.tuple [.str ("leave" : Str), .int 0]) = false := by
      show (decide ((0 : Int) ≤ 0) && decide ((("leave" : Str), (0 : Int).toNat) ∈ ws.map (·.1))) = false
      rw [decide_eq_false (p := (("leave" : Str), (0 : Int).toNat) ∈ ws.map (·.1)) my.l0, Bool.and_false]
    have he0 : ownD (ws.map (·.1)) (.tuple [.str ("" : Str), .int 0]) = false := by
      show (decide ((0 : Int) ≤ 0) && decide ((("" : Str), (0 : Int).toNat) ∈ ws.map (·.1))) = false
      rw [decide_eq_false (p := (("" : Str), (0 : Int).toNat) ∈ ws.map (·.1)) (fun hm => by
        rcases z5.wd _ hm with h | h
        · exact absurd h (by decide +kernel)
        · exact absurd h (by decide +kernel)), Bool.and_false]
    have hle := my.le
    have tf : Fl1 (.str "take") (.str "take") := .str okS_take (by decide +kernel)
    have lf : Fl1 (.str "leave") (.str "leave") := .str (by decide +kernel) (by decide +kernel)
    have zf : Fl1 (.str "0") (.str "0") := .str (by decide +kernel) (by decide +kernel)
    have nf : Fl1 (.str "") (.str "") := .str (by decide +kernel) (by decide +kernel)
    refine ⟨by show 2 ≤ sizeLine; decide, fun u1 h1 => ⟨by show 2 ≤ sizeLine; decide, fun u2 h2 => ⟨_, _, rfl, rfl, by show 2 ≤ sizeLine; decide, fun u3 h3 => ⟨_, rfl, by show 2 ≤ sizeLine; decide, fun u4 h4 => ⟨by show 2 ≤ sizeLine; decide, fun u5 h5 => ⟨by show 6 ≤ sizeLine; decide, fun l1 hl1 => ?_⟩⟩⟩⟩⟩⟩
    have A1 := (BadL.nil (as := ws.map (·.1)) (H := H5)).pushF h1 (.cons tf (.cons (.int 99) .nil)) (hno (.inr (by omega)))
    have A2 := A1.pushF h2 (.cons lf (.cons (.int 0) .nil)) hl0
    have A4 := A2.pushF h3 (.cons tf (.cons (.int (0 - 1)) .nil)) (hno (.inl (by decide)))
    have A5 := A4.flat tf rfl
    have A6 := A5.pushF h4 (.cons tf (.cons (.int (n : Int)) .nil)) (hno (.inr (by omega)))
    have A7 := A6.pushF h5 (.cons tf (.cons (.bl true) .nil)) rfl
    have A8 := A7.ext (ms := []) (Ext.new (o := .lst [.ref u1, .ref u2, .ref u3, .str "take", .ref u4, .ref u5]) hl1)
    have x5 := (((((Ext.new (ms := []) h1).trans (Ext.new h2)).trans (Ext.new h3)).trans (Ext.new h4)).trans (Ext.new h5)).trans (Ext.new (o := .lst [.ref u1, .ref u2, .ref u3, .str "take", .ref u4, .ref u5]) hl1)
    refine gset ?_
    dsimp only
    generalize hH : upd _ l1 (.lst [.ref u1, .ref u2, .ref u3, .str "take", .ref u4, .ref u5]) = Ha at A8 x5 ⊢
    have hla : Ha l1 = some (.lst [.ref u1, .ref u2, .ref u3, .str "take", .ref u4, .ref u5]) := by
      rw [← hH]
      exact upd_same
    clear hH A1 A2 A4 A5 A6 A7 h1 h2 h3 h4 h5 hl1
    refine ⟨_, rfl, by show 2 ≤ sizeLine; decide, fun w1 h1 => ⟨by show 1 ≤ sizeLine; decide, fun w2 h2 => ⟨by show 2 ≤ sizeLine; decide, fun w3 h3 => ⟨by show 2 ≤ sizeLine; decide, fun w4 h4 => ⟨by show 6 ≤ sizeLine; decide, fun l2 hl2 => ?_⟩⟩⟩⟩⟩
    have B1 := (BadL.nil (as := ws.map (·.1)) (H := Ha)).flat (v := .non) .non rfl
    have B2 := B1.pushF h1 (.cons tf (.cons (.bl false) .nil)) rfl
    have B3 := B2.pushF h2 (.cons tf .nil) rfl
    have B4 := B3.pushF h3 (.cons tf (.cons zf .nil)) rfl
    have B5 := B4.flat (.int 7) rfl
    have B6 := B5.pushF h4 (.cons nf (.cons (.int 0) .nil)) he0
    have B7 := B6.ext (ms := []) (Ext.new (o := .lst [.non, .ref w1, .ref w2, .ref w3, .int 7, .ref w4]) hl2)
    have x7 := ((((Ext.new (ms := []) h1).trans (Ext.new h2)).trans (Ext.new h3)).trans (Ext.new h4)).trans (Ext.new (o := .lst [.non, .ref w1, .ref w2, .ref w3, .int 7, .ref w4]) hl2)
    generalize hH : upd _ l2 (.lst [.non, .ref w1, .ref w2, .ref w3, .int 7, .ref w4]) = Hb at B7 x7 ⊢
    have hlb : Hb l2 = some (.lst [.non, .ref w1, .ref w2, .ref w3, .int 7, .ref w4]) := by
      rw [← hH]
      exact upd_same
    clear hH B1 B2 B3 B4 B5 B6 h1 h2 h3 h4 hl2
    have hla2 := x7.keep _ _ hla (by simp)
    refine ⟨l1, l2, _, _, rfl, rfl, hla2, hlb, by show 6 + 6 ≤ sizeLine; decide, fun l3 hl3 => ?_⟩
    have xb := (x5.trans x7).trans (Ext.new (o := .lst ([V.ref u1, .ref u2, .ref u3, .str "take", .ref u4, .ref u5] ++ [V.non, .ref w1, .ref w2, .ref w3, .int 7, .ref w4])) hl3)
    have C8 : BadL (ws.map (·.1)) (upd Hb l3 (.lst ([V.ref u1, .ref u2, .ref u3, .str "take", .ref u4, .ref u5] ++ [V.non, .ref w1, .ref w2, .ref w3, .int 7, .ref w4]))) ([V.ref u1, .ref u2, .ref u3, .str "take", .ref u4, .ref u5] ++ [V.non, .ref w1, .ref w2, .ref w3, .int 7, .ref w4]) := (BadL.app (A8.ext x7) B7).ext (ms := []) (Ext.new hl3)
    refine gset ?_
    dsimp only
    have hlc' : (upd Hb l3 (.lst ([V.ref u1, .ref u2, .ref u3, .str "take", .ref u4, .ref u5] ++ [V.non, .ref w1, .ref w2, .ref w3, .int 7, .ref w4]))) l3 = some (.lst ([V.ref u1, .ref u2, .ref u3, .str "take", .ref u4, .ref u5] ++ [V.non, .ref w1, .ref w2, .ref w3, .int 7, .ref w4])) := upd_same
    have hv12 : ([V.ref u1, .ref u2, .ref u3, .str "take", .ref u4, .ref u5] ++ [V.non, .ref w1, .ref w2, .ref w3, .int 7, .ref w4]).length = 12 := rfl
    generalize upd Hb l3 (.lst ([V.ref u1, .ref u2, .ref u3, .str "take", .ref u4, .ref u5] ++ [V.non, .ref w1, .ref w2, .ref w3, .int 7, .ref w4])) = Hc at xb C8 hlc' ⊢
    generalize [V.ref u1, .ref u2, .ref u3, .str "take", .ref u4, .ref u5] ++ [V.non, .ref w1, .ref w2, .ref w3, .int 7, .ref w4] = bv at C8 hlc' hv12 ⊢
    clear x5 x7 A8 B7 hla hla2 hlb hl3
    have z6 := z5.ext xb
    have f6 := f5.trans xb.nil
    have amc6 := amc5.ext xb (by simp)
    clear z5 f5 amc5 xb
    have oky : okS ("leave" : Str) := by decide +kernel
    refine ⟨_, rfl, _, rfl, (n : Int), rfl, by omega, by omega, fun R hR => ?_⟩
    refine lc_range (n := (n : Int).toNat) (fun i H' => Ext [] Hc H' ∧ ∃ vs, H' R = some (.lst vs) ∧ BadL (ws.map (·.1)) H' vs ∧ vs.length ≤ i) ⟨Ext.new hR, [], upd_same, BadL.nil, Nat.le_refl _⟩ ?_ ?_
    · rintro i H' hi ⟨e, vs, hvs, hbv, hvl⟩
      refine ⟨wipe1, ?_⟩
      refine ⟨_, rfl, by show 2 ≤ sizeLine; decide, fun y1 hy1 => ?_⟩
      have e1 : Ext [] H' (upd H' y1 (.tup [.str "leave", .int (0 + (i : Int))])) := Ext.new hy1
      have hvs1 := e1.keep _ _ hvs (by simp)
      have iy : Im (upd H' y1 (.tup [.str "leave", .int (0 + (i : Int))])) (.ref y1) (dAmt (("leave" : Str), i)) := by
        rw [Int.zero_add]
        exact isAmt.im upd_same
      have am1 := z6.am.ext (e.trans e1) (by simp)
      refine ⟨_, rfl, dAmt (("leave" : Str), i), _, iy.dp, am1.dp, (okD_amt (q := (("leave" : Str), i)) oky).shaped, sh_amts (fun q hq => wdx hq), _, rfl, ?_⟩
      rw [any_amt]
      have hbv1 := hbv.ext e1
      generalize upd H' y1 (.tup [.str "leave", .int (0 + (i : Int))]) = H2 at e1 hvs1 am1 hbv1
      refine ifb (fun hb => ?_) (fun hb => ?_)
      · have hno2 : (("leave" : Str), i) ∉ ws.map (·.1) := by simpa using hb
        refine ⟨_, rfl, by show 2 ≤ sizeLine; decide, fun y2 hy2 => ?_⟩
        have e2 : Ext [] H2 (upd H2 y2 (.tup [.str "leave", .int (0 + (i : Int))])) := Ext.new hy2
        have A := hbv1.pushF hy2 (.cons lf (.cons (.int (0 + (i : Int))) .nil)) (by
          rw [Int.zero_add]
          show ownD (ws.map (·.1)) (dAmt (("leave" : Str), i)) = false
          rw [ownD_amt]
          exact decide_eq_false hno2)
        have hvs2 := e2.keep _ _ hvs1 (by simp)
        refine ⟨vs, hvs2, Evl.sz_lt (by omega), ((e.trans e1).trans e2).fresh hR, _, upd_same, A.ext (ext_lst hvs2), by rw [List.length_append]; show vs.length + 1 ≤ i + 1; omega⟩
      · exact ⟨e.trans e1, vs, hvs1, hbv1, by omega⟩
    rintro H' ⟨e, vs, hvs, hbv, hvl⟩
    refine ⟨l3, R, _, _, rfl, rfl, e.keep _ _ hlc' (by simp), hvs, Nat.le_of_lt (Evl.sz_lt (by omega)), fun l4 hl4 => ?_⟩
    refine gset ?_
    dsimp only
    have e4 : Ext [] H' (upd H' l4 (.lst (bv ++ vs))) := Ext.new hl4
    have hl4S := (src_ne_new (z6.s.ext e) hl4).1
    have hl4' : (upd H' l4 (.lst (bv ++ vs))) l4 = some (.lst (bv ++ vs)) := upd_same
    have D8 : BadL (ws.map (·.1)) (upd H' l4 (.lst (bv ++ vs))) (bv ++ vs) := BadL.ext (ms := []) ((C8.ext e).app hbv) e4
    have z7 := (z6.ext e).ext e4
    have f7 := f6.trans (e.trans e4).nil
    have amc7 := amc6.ext (e.trans e4) (by simp)
    have hb0 : 0 < (bv ++ vs).length := by rw [List.length_append]; omega
    have hb1 : (bv ++ vs).length ≤ 100 := by rw [List.length_append]; omega
    generalize upd H' l4 (.lst (bv ++ vs)) = Hd at hl4' D8 z7 f7 amc7 ⊢
    generalize bv ++ vs = bw at hl4' D8 hb0 hb1 ⊢
    clear z6 f6 amc6 e e4 hl4 hvs hbv hvl hR C8 hlc' hv12
    -- one of them
    refine ⟨_, rfl, ?_⟩
    refine draw_ex (i := 0) (many := (bw.length : Int)) rfl z7.s (by omega) (Int.lt_of_le_of_lt (show (bw.length : Int) ≤ 200 by omega) (by decide)) (val_len (val_var rfl) (SqL.of hl4')) (fun m5 H8 m50 m51 e8 s8 => ?_)
    have z8 := z7.draw e8 s8
    have f8 := f7.trans e8
    have amc8 := amc7.ext e8 (by simpa using lcS)
    have hl48 := e8.keep _ _ hl4' (by simpa using hl4S)
    obtain ⟨bad, hbad, hbm⟩ := atI_some (xs := bw) m50 m51
    obtain ⟨db, avb, ob⟩ := (D8.ext e8) bad hbm
    refine ⟨l4, _, _, _, rfl, rfl, SqL.of hl48, hbad, ?_⟩
    refine gset ?_
    dsimp only
    clear z7 f7 amc7 hl4' e8 s8 D8 hb0 hb1 hl48 hbad hbm m50 m51
    have ctn : ∀ {G : Hp} {c : Addr} {v g : V} {dv dg : PyData} {Q : VK} {E : XK}, OrdAt (cO K) G o dx D Lt ws t th → G c = some (.tup [v, g]) → Av G v dv → Av G g dg → (ownD (ws.map (·.1)) dv = false ∨ ownD (ws.map (·.1)) dg = false) → Q (.bl false) G → rInOwn (cO K) (spOrdCt (cO K)) E (.ref c) (.ref o) G Q := by
      intro G c v g dv dg Q E O hc av ag ho hq
      refine ⟨o, dx, _, rfl, O.ob, o, c, v, g, dv, dg, dx, D, Lt, ws, t, th, rfl, hc, av, ag, O, fun _ => ⟨_, rfl, hq⟩, fun x' y' h1 h2 hx hy => ?_⟩
      rcases ho with h | h
      · rw [h1, ownD_amt, decide_eq_true hx] at h; cases h
      · rw [h2, ownD_amt, decide_eq_true hy] at h; cases h
    have tk0 : ∀ {G : Hp} {u : Addr}, Av (upd G u (.tup [.str "take", .int 0])) (.ref u) (.tuple [.str "take", .int 0]) := fun {G u} => let ⟨a, b, c⟩ := fl_all (.cons tf (.cons (.int 0) .nil)); Av.new a b c
    have tkn : ∀ {G : Hp} {u : Addr}, Av (upd G u (.tup [.str "take", .int (n : Int)])) (.ref u) (.tuple [.str "take", .int (n : Int)]) := fun {G u} => let ⟨a, b, c⟩ := fl_all (.cons tf (.cons (.int (n : Int)) .nil)); Av.new a b c
    have l99 : ∀ {G : Hp} {u : Addr}, Av (upd G u (.tup [.str "leave", .int 99])) (.ref u) (.tuple [.str "leave", .int 99]) := fun {G u} => let ⟨a, b, c⟩ := fl_all (.cons lf (.cons (.int 99) .nil)); Av.new a b c
    have on : ownD (ws.map (·.1)) (.tuple [.str ("take" : Str), .int (n : Int)]) = false := hno (.inr (Int.le_refl _))
    -- no pair of it
    refine ⟨_, rfl, _, rfl, by show 2 ≤ sizeLine; decide, fun c1 hc1 => ⟨_, rfl, ?_⟩⟩
    have g1 : Ext [] H8 (upd H8 c1 (.tup [bad, bad])) := Ext.new hc1
    refine ctn (z8.o.ext g1) upd_same (avb.ext g1) (avb.ext g1) (.inl ob) ⟨_, rfl, ?_⟩
    refine iteF ?_
    have z9 := z8.ext g1
    have f9 := f8.trans g1.nil
    have amc9 := amc8.ext g1 (by simp)
    have av9 := avb.ext g1
    generalize upd H8 c1 (.tup [bad, bad]) = H9 at z9 f9 amc9 av9 ⊢
    clear z8 f8 amc8 g1 hc1 avb
    refine ⟨_, rfl, by show 2 ≤ sizeLine; decide, fun c1 hc1 => ⟨by show 2 ≤ sizeLine; decide, fun c2 hc2 => ⟨_, rfl, ?_⟩⟩⟩
    have g1 : Ext [] H9 (upd H9 c1 (.tup [.str "take", .int 0])) := Ext.new hc1
    have g2 : Ext [] _ (upd (upd H9 c1 (.tup [.str "take", .int 0])) c2 (.tup [bad, .ref c1])) := Ext.new hc2
    refine ctn (z9.o.ext (g1.trans g2)) upd_same (av9.ext (g1.trans g2)) (tk0.ext g2) (.inl ob) ⟨_, rfl, ?_⟩
    refine iteF ?_
    replace g2 := g1.trans g2
    have z10 := z9.ext g2
    have f10 := f9.trans g2.nil
    have amc10 := amc9.ext g2 (by simp)
    have av10 := av9.ext g2
    generalize upd (upd H9 c1 (.tup [.str "take", .int 0])) c2 (.tup [bad, .ref c1]) = H10 at z10 f10 amc10 av10 ⊢
    clear z9 f9 amc9 g1 g2 hc1 hc2 av9
    refine ⟨by show 2 ≤ sizeLine; decide, fun c1 hc1 => ⟨_, rfl, by show 2 ≤ sizeLine; decide, fun c2 hc2 => ⟨_, rfl, ?_⟩⟩⟩
    have g1 : Ext [] H10 (upd H10 c1 (.tup [.str "take", .int 0])) := Ext.new hc1
    have g2 : Ext [] _ (upd (upd H10 c1 (.tup [.str "take", .int 0])) c2 (.tup [.ref c1, bad])) := Ext.new hc2
    refine ctn (z10.o.ext (g1.trans g2)) upd_same (tk0.ext g2) (av10.ext (g1.trans g2)) (.inr ob) ⟨_, rfl, ?_⟩
    refine iteF ?_
    replace g2 := g1.trans g2
    have z11 := z10.ext g2
    have f11 := f10.trans g2.nil
    have amc11 := amc10.ext g2 (by simp)
    have av11 := av10.ext g2
    generalize upd (upd H10 c1 (.tup [.str "take", .int 0])) c2 (.tup [.ref c1, bad]) = H11 at z11 f11 amc11 av11 ⊢
    clear z10 f10 amc10 g1 g2 hc1 hc2 av10
    -- nor of the next number
    dsimp only
    refine ⟨_, rfl, by show 2 ≤ sizeLine; decide, fun c1 hc1 => ⟨_, rfl, by show 2 ≤ sizeLine; decide, fun c2 hc2 => ⟨by show 2 ≤ sizeLine; decide, fun c3 hc3 => ⟨_, rfl, ?_⟩⟩⟩⟩
    have g1 : Ext [] H11 (upd H11 c1 (.tup [.str "take", .int (n : Int)])) := Ext.new hc1
    have g2 : Ext [] _ (upd (upd H11 c1 (.tup [.str "take", .int (n : Int)])) c2 (.tup [.str "take", .int (n : Int)])) := Ext.new hc2
    have g3 : Ext [] _ (upd (upd (upd H11 c1 (.tup [.str "take", .int (n : Int)])) c2 (.tup [.str "take", .int (n : Int)])) c3 (.tup [.ref c1, .ref c2])) := Ext.new hc3
    refine ctn (z11.o.ext ((g1.trans g2).trans g3)) upd_same (tkn.ext (g2.trans g3)) (tkn.ext g3) (.inl on) ⟨_, rfl, ?_⟩
    refine iteF ?_
    replace g3 := (g1.trans g2).trans g3
    have z12 := z11.ext g3
    have f12 := f11.trans g3.nil
    have amc12 := amc11.ext g3 (by simp)
    have av12 := av11.ext g3
    generalize upd (upd (upd H11 c1 (.tup [.str "take", .int (n : Int)])) c2 (.tup [.str "take", .int (n : Int)])) c3 (.tup [.ref c1, .ref c2]) = H12 at z12 f12 amc12 av12 ⊢
    clear z11 f11 amc11 g1 g2 g3 hc1 hc2 hc3 av11
    refine ⟨_, rfl, _, rfl, by show 2 ≤ sizeLine; decide, fun c1 hc1 => ⟨by show 1 ≤ sizeLine; decide, fun c2 hc2 => ⟨_, rfl, by show 2 ≤ sizeLine; decide, fun c3 hc3 => ?_⟩⟩⟩
    have g1 : Ext [] H12 (upd H12 c1 (.tup [.str "take", .int (n : Int)])) := Ext.new hc1
    have g2 : Ext [] _ (upd (upd H12 c1 (.tup [.str "take", .int (n : Int)])) c2 (.lst [.ref c1])) := Ext.new hc2
    have g3 : Ext [] _ (upd (upd (upd H12 c1 (.tup [.str "take", .int (n : Int)])) c2 (.lst [.ref c1])) c3 (.tup [.str "take", .int (n : Int)])) := Ext.new hc3
    dsimp only [tNil, List.nil_append, List.cons_append, List.append_nil]
    refine ⟨o, c2, .ref c3, dx, D, Lt, ws, t, th, [.ref c1], [.tuple [.str "take", .int (n : Int)]], 0, .ref c1, _, rfl, g3.keep _ _ upd_same (by simp), .cons (tkn.ext (g2.trans g3)) .nil, by show 1 ≤ 1000; decide, by omega, z12.o.ext ((g1.trans g2).trans g3), rfl, rfl, on, fun j e h => absurd h (Nat.not_lt_zero _), tkn, fun H13 g4 => ⟨_, rfl, ?_⟩⟩
    refine iteF ?_
    replace g4 := ((g1.trans g2).trans g3).trans g4
    have z13 := z12.ext g4
    have f13 := f12.trans g4.nil
    have amc13 := amc12.ext g4 (by simp)
    have av13 := av12.ext g4
    clear z12 f12 amc12 g1 g2 g3 g4 hc1 hc2 hc3 av12
    -- among the others
    obtain ⟨us, hus, hpu⟩ := id amc13
    have hul := amt_len hpu
    have hum : (us.map V.ref).length = us.length := List.length_map ..
    refine ⟨_, rfl, _, rfl, _, rfl, by show 1 ≤ sizeLine; decide, fun l1 hl1 => ?_⟩
    have g1 : Ext [] H13 (upd H13 l1 (.lst [bad])) := Ext.new hl1
    refine ⟨lc, l1, _, _, rfl, rfl, g1.keep _ _ hus (by simp), upd_same, Nat.le_of_lt (Evl.sz_lt (by show (us.map V.ref).length + 1 < 100000; omega)), fun l2 hl2 => ?_⟩
    have g2 : Ext [] _ (upd (upd H13 l1 (.lst [bad])) l2 (.lst (us.map V.ref ++ [bad]))) := Ext.new hl2
    have g12 := g1.trans g2
    have hl2' : (upd (upd H13 l1 (.lst [bad])) l2 (.lst (us.map V.ref ++ [bad]))) l2 = some (.lst (us.map V.ref ++ [bad])) := upd_same
    generalize upd (upd H13 l1 (.lst [bad])) l2 (.lst (us.map V.ref ++ [bad])) = H14 at g12 hl2' ⊢
    clear g1 g2 hl1 hl2
    refine ⟨_, rfl, l2, lc, _, _, rfl, rfl, hl2', g12.keep _ _ hus (by simp), Nat.le_of_lt (Evl.sz_lt (by rw [List.length_append]; show (us.map V.ref).length + 1 + (us.map V.ref).length < 100000; omega)), fun l3 hl3 => ?_⟩
    have g3 : Ext [] H14 (upd H14 l3 (.lst ((us.map V.ref ++ [bad]) ++ us.map V.ref))) := Ext.new hl3
    have g123 := g12.trans g3
    have hl3' : (upd H14 l3 (.lst ((us.map V.ref ++ [bad]) ++ us.map V.ref))) l3 = some (.lst ((us.map V.ref ++ [bad]) ++ us.map V.ref)) := upd_same
    generalize upd H14 l3 (.lst ((us.map V.ref ++ [bad]) ++ us.map V.ref)) = H15 at g123 hl3' ⊢
    clear g12 g3 hl3 hl2'
    refine ⟨by show 2 ≤ sizeLine; decide, fun c1 hc1 => ⟨by show 1 ≤ sizeLine; decide, fun c2 hc2 => ?_⟩⟩
    have g4 : Ext [] H15 (upd H15 c1 (.tup [.str "leave", .int 99])) := Ext.new hc1
    have g5 : Ext [] _ (upd (upd H15 c1 (.tup [.str "leave", .int 99])) c2 (.lst [.ref c1])) := Ext.new hc2
    have av99 := (l99 (G := H15) (u := c1)).ext g5
    have g45 := g123.trans (g4.trans g5)
    have hl34 := (g4.trans g5).keep _ _ hl3' (by simp)
    have hc2' : (upd (upd H15 c1 (.tup [.str "leave", .int 99])) c2 (.lst [.ref c1])) c2 = some (.lst [.ref c1]) := upd_same
    generalize upd (upd H15 c1 (.tup [.str "leave", .int 99])) c2 (.lst [.ref c1]) = H16 at av99 g45 hl34 hc2' ⊢
    clear g123 g4 g5 hc1 hc2 hl3'
    refine ⟨l3, c2, _, _, rfl, rfl, hl34, hc2', Nat.le_of_lt (Evl.sz_lt (by rw [List.length_append, List.length_append]; show (us.map V.ref).length + 1 + (us.map V.ref).length + 1 < 100000; omega)), fun l5 hl5 => ?_⟩
    have g6 : Ext [] H16 (upd H16 l5 (.lst (((us.map V.ref ++ [bad]) ++ us.map V.ref) ++ [.ref c1]))) := Ext.new hl5
    have g7 := g45.trans g6
    have hav := amt_avs z13.wd hpu hcw
    have hlq : qs.length = us.length := hul.symm
    have hlm : (qs.map dAmt).length = (us.map V.ref).length := by rw [List.length_map, List.length_map, hlq]
    refine ⟨_, rfl, ?_⟩
    dsimp only [tNil, List.nil_append, List.cons_append, List.append_nil]
    refine ⟨o, l5, bad, dx, D, Lt, ws, t, th, _, (((qs.map dAmt ++ [db]) ++ qs.map dAmt) ++ [.tuple [.str "leave", .int 99]]), (us.map V.ref).length, bad, db, rfl, upd_same, paired_app (paired_app (paired_app (av_tk g7 hav) (.cons (av13.ext g7) .nil)) (av_tk g7 hav)) (.cons (av99.ext g6) .nil), ?_, by omega, z13.o.ext g7, mid_at, ?_, ob, ?_, av13.ext g7, fun H17 g8 => ?_⟩
    · rw [List.length_append, List.length_append, List.length_append]
      show (us.map V.ref).length + 1 + (us.map V.ref).length + 1 ≤ 1000
      omega
    · rw [← hlm]
      exact mid_at
    · intro j e hj he
      rw [List.append_assoc, List.append_assoc, List.getElem?_append_left (by omega), List.getElem?_map] at he
      obtain ⟨x, hx, rfl⟩ := Option.map_eq_some_iff.mp he
      rw [ownD_amt]
      exact decide_eq_true (hcw x (List.mem_of_getElem? hx))
    · have g9 := g7.trans g8
      exact q H17 (f13.trans g9.nil) (z13.s.ext g9)
end

end K18
namespace K18
open PySem PySem.Spec PyProof.Rows L2 He Tp ClX LiI

section
variable {P : Program} {w : World} {K : PySem.W.Frag} {mg : Str → Option Value} {base : Heap}
/-- between two rows -/
structure LK (C : Addr) (S L b : Addr) (a : Mad) (n : Nat) (H : Hp) (A : Bk) (k t : List (Str × Str)) (p : List Str) (c d : List (Str × Str)) (fs : List Fk) (ts ds us ms : List V) : Prop where
  j : Lx C H S L b a A k t p c d k t p c d fs fs ts ds us ms
  G : GX k t p c d
  inn : ∀ f ∈ fs, inA (amtD k c d d.length) f
  dl : d.length ≤ 9 + n
  fl : fs.length ≤ 3 + 2 * n
  tl : t.length ≤ 3 + n
def spLaw (K : PySem.W.Frag) : Sp := fun vs H Q _ => ∃ (a : Addr) (ns : List Int), vs = [.ref a] ∧ SqL K H a (ns.map V.int) ∧ ns.length ≤ 63 ∧ ∀ H', Q (.bl true) H'
theorem ok_law (T : Txt K mg) {fd : FuncData} (F : FnP K "law" s_law fd) : FnOk P w K mg base CX0 10 (ga K "law") fd ["_law_script"] (spLaw K) := by
  have D__law_source := ok_source (P := P) (w := w) (base := base) T
  have D__law_draw := ok_drawE (P := P) (w := w) (base := base) T
  have D__law_model := ok_model (P := P) (w := w) (base := base) T
  have D__law_build := ok_build2 (P := P) (w := w) (base := base) T
  have D__law_facts := ok_lfacts (P := P) (w := w) (base := base) T
  have D__law_amounts := ok_amts (P := P) (w := w) (base := base) T
  have D__law_steps := ok_lsteps (P := P) (w := w) (base := base) T
  have D__law_below := ok_below (P := P) (w := w) (base := base) T
  have D__law_there := ok_lthere (P := P) (w := w) (base := base) T
  have D__law_looks := ok_looksO (P := P) (w := w) (base := base) T
  have D__law_above := ok_aboveO (P := P) (w := w) (base := base) T
  have D__law_leads := ok_leadsO (P := P) (w := w) (base := base) T
  obtain ⟨fo, fo_⟩ := T.fOrderInit
  obtain ⟨fth, fth_⟩ := T.fOrderthere
  obtain ⟨fab, fab_⟩ := T.fOrderabove
  obtain ⟨ft, ft_⟩ := T.fadd_thirst
  obtain ⟨fd', fd_⟩ := T.fdip
  obtain ⟨ftl, ftl_⟩ := T.ftell
  obtain ⟨fts, fts_⟩ := T.ftell_some
  have Fo := ok_ordInit (P := P) (w := w) (base := base) T fo_
  have Fth := ok_there (P := P) (w := w) (base := base) T fth_
  have Fab := ok_above (P := P) (w := w) (base := base) T fab_
  have Ft := ok_add_thirst (P := P) (w := w) (base := base) T ft_
  have Fd := ok_dip (P := P) (w := w) (base := base) T fd_
  have Ftl := ok_tell (P := P) (w := w) (base := base) T ftl_
  have Fts := ok_tell_some (P := P) (w := w) (base := base) T fts_
  have bo : Binds K fo ["self", "book"] [] := fo_.bindsN (fun _ _ _ _ _ _ us hl => match us, hl with | [_, _], _ => rfl)
  have bth : Binds K fth ["self"] [] := fth_.bindsN (fun _ _ _ _ _ _ us hl => match us, hl with | [_], _ => rfl)
  have bab : Binds K fab ["self", "amounts"] [] := fab_.bindsN (fun _ _ _ _ _ _ us hl => match us, hl with | [_, _], _ => rfl)
  have bt : Binds K ft ["self", "more", "less"] [] := ft_.bindsN (fun _ _ _ _ _ _ us hl => match us, hl with | [_, _, _], _ => rfl)
  have bd : Binds K fd' ["self", "cloth", "pot"] [] := fd_.bindsN (fun _ _ _ _ _ _ us hl => match us, hl with | [_, _, _], _ => rfl)
  have btl : Binds K ftl ["self", "more", "less"] [] := ftl_.bindsN (fun _ _ _ _ _ _ us hl => match us, hl with | [_, _, _], _ => rfl)
  have bts : Binds K fts ["self", "amount"] [] := fts_.bindsN (fun _ _ _ _ _ _ us hl => match us, hl with | [_, _], _ => rfl)
  refine F.ok sc_law (fun vs H Q E h => ?_) (fun cdv A outer s H vs Q E hr h => ?_)
  · obtain ⟨a, ns, rfl, _⟩ := h
    rfl
  · obtain ⟨sc, ns, rfl, hS, hl, qOk⟩ := h
    have nd := sc_law.nd
    have hu := hu1_of hr
    have hu64 := hr.units
    have hu65 := hu65_of hr
    have hr__law_source := hr.mono (show 1 ≤ 9 by decide)
    have hr__law_draw := hr.mono (show 1 ≤ 9 by decide)
    have hr__law_model := hr.mono (show 4 ≤ 9 by decide)
    have hr__law_build := hr
    have hr__law_facts := hr.mono (show 5 ≤ 9 by decide)
    have hr__law_amounts := hr.mono (show 4 ≤ 9 by decide)
    have hr__law_steps := hr.mono (show 4 ≤ 9 by decide)
    have hr__law_below := hr.mono (show 1 ≤ 9 by decide)
    have hr__law_there := hr.mono (show 5 ≤ 9 by decide)
    have hr__law_looks := hr.mono (show 8 ≤ 9 by decide)
    have hr__law_above := hr.mono (show 8 ≤ 9 by decide)
    have hr__law_leads := hr.mono (show 7 ≤ 9 by decide)
    have hro := hr
    have hrth := hr.mono (show 7 ≤ 9 by decide)
    have hrab := hr.mono (show 6 ≤ 9 by decide)
    have hrm := hr.mono (show 4 ≤ 9 by decide)
    have hrt := hr.mono (show 8 ≤ 9 by decide)
    refine ⟨_, PSs.nox (pss_cons (ps_set (i := 1) nd rfl (by first | exact Or.inl rfl | exact Or.inr rfl) (pe_cd D__law_source hr__law_source (by rfl) pass0 (pa_cons (pv 0) pa_nil)))
   (pss_cons (ps_set (i := 2) nd rfl (by first | exact Or.inl rfl | exact Or.inr rfl) (pe_cd D__law_model hr__law_model (by rfl) pass0 (pa_cons (pv 1) (pa_cons pe_int pa_nil))))
   (pss_cons (ps_expr (pe_cd D__law_facts hr__law_facts (by rfl) pass0 (pa_cons (pv 1) (pa_cons (pv 2) pa_nil))))
   (pss_cons (ps_set (i := 3) nd rfl (by first | exact Or.inl rfl | exact Or.inr rfl) (pe_cd D__law_build hr__law_build (by rfl) pass0 (pa_cons (pv 2) pa_nil)))
   (pss_cons (ps_set (i := 4) nd rfl (by first | exact Or.inl rfl | exact Or.inr rfl) (pe_lst pa_nil))
   (pss_cons (ps_for PassesOwn.never rfl (pi_range1 (by rfl) T.brange (pa_cons pe_int pa_nil)) (pg_name (i := 5) nd rfl (by first | exact Or.inl rfl | exact Or.inr rfl))
   (pss_cons (ps_set (i := 6) nd rfl (by first | exact Or.inl rfl | exact Or.inr rfl) (pe_cd D__law_amounts hr__law_amounts (by rfl) pass0 (pa_cons (pv 2) pa_nil)))
   (pss_cons (ps_set (i := 7) nd rfl (by first | exact Or.inl rfl | exact Or.inr rfl) (pe_cd D__law_steps hr__law_steps (by rfl) pass0 (pa_cons (pv 2) pa_nil)))
   (pss_cons (ps_expr (pe_bm PySem.F.plainAttrs_list PySem.F.slot_list_append PySem.F.type_list_append mt_append (pv 4) (pa_cons (pe_lst (pa_cons (pe_make T.mk_Order Fo hro (by rfl) T.gOrder bo .nil pass0 (pa_cons (pv 3) pa_nil)) (pa_cons (pv 6) (pa_cons (pe_cd D__law_below hr__law_below (by rfl) pass0 (pa_cons (pv 6) (pa_cons (pv 7) pa_nil))) (pa_cons (pe_cd D__law_there hr__law_there (by rfl) pass0 (pa_cons (pv 2) pa_nil)) (pa_cons (pv 7) pa_nil)))))) pa_nil)))
   (pss_cons (ps_set (i := 8) nd rfl (by first | exact Or.inl rfl | exact Or.inr rfl) (pe_ix ix_tup (pe_ix ix_list (pe_ix ix_list (pv 2) pe_int (fun _ _ => rfl)) (pe_cd D__law_draw hr__law_draw (by rfl) pass0 (pa_cons (pv 1) (pa_cons (pe_callB call_len_seq (by rfl) T.blen PySem.boot_len (pa_cons (pe_ix ix_list (pv 2) pe_int (fun _ _ => rfl)) pa_nil)) pa_nil))) (fun _ _ => rfl)) pe_int (fun _ _ => rfl)))
   (pss_cons (ps_expr (pe_bm PySem.F.plainAttrs_list PySem.F.slot_list_append PySem.F.type_list_append mt_append (pe_ix ix_list (pv 2) pe_int (fun _ _ => rfl)) (pa_cons (pe_tup (pa_cons (pv 8) (pa_cons (pe_ix ix_list (pe_ix ix_list (pv 2) pe_int (fun _ _ => rfl)) (pe_cd D__law_draw hr__law_draw (by rfl) pass0 (pa_cons (pv 1) (pa_cons (pe_callB call_len_seq (by rfl) T.blen PySem.boot_len (pa_cons (pe_ix ix_list (pv 2) pe_int (fun _ _ => rfl)) pa_nil)) pa_nil))) (fun _ _ => rfl)) pa_nil))) pa_nil)))
   (pss_cons (ps_expr (pe_meth (pv 3) T.cl T.mdip Fd hrm bd .nil passL (pa_cons (pv 8) (pa_cons (pe_ix ix_tup (pe_ix ix_list (pe_ix ix_list (pv 2) pe_int (fun _ _ => rfl)) (pe_un un_neg pe_int) (fun _ _ => rfl)) pe_int (fun _ _ => rfl)) pa_nil))))
   (pss_cons (ps_set (i := 6) nd rfl (by first | exact Or.inl rfl | exact Or.inr rfl) (pe_cd D__law_amounts hr__law_amounts (by rfl) pass0 (pa_cons (pv 2) pa_nil)))
   (pss_cons (ps_set (i := 9) nd rfl (by first | exact Or.inl rfl | exact Or.inr rfl) (pe_ix ix_list (pv 6) (pe_cd D__law_draw hr__law_draw (by rfl) pass0 (pa_cons (pv 1) (pa_cons (pe_callB call_len_seq (by rfl) T.blen PySem.boot_len (pa_cons (pv 6) pa_nil)) pa_nil))) (fun _ _ => rfl)))
   (pss_cons (ps_set (i := 10) nd rfl (by first | exact Or.inl rfl | exact Or.inr rfl) (pe_ix ix_list (pv 6) (pe_op op_mod (pe_op op_add (pe_cd D__law_draw hr__law_draw (by rfl) pass0 (pa_cons (pv 1) (pa_cons (pe_callB call_len_seq (by rfl) T.blen PySem.boot_len (pa_cons (pv 6) pa_nil)) pa_nil))) pe_int) (pe_callB call_len_seq (by rfl) T.blen PySem.boot_len (pa_cons (pv 6) pa_nil))) (fun _ _ => rfl)))
   (pss_cons (ps_expr (pe_bm PySem.F.plainAttrs_list PySem.F.slot_list_append PySem.F.type_list_append mt_append (pe_ix ix_list (pv 2) pe_int (fun _ _ => rfl)) (pa_cons (pe_tup (pa_cons pe_str (pa_cons (pv 9) (pa_cons (pv 10) pa_nil)))) pa_nil)))
   (pss_cons (ps_expr (pe_meth (pv 3) T.cl T.mtell Ftl hrt btl .nil passL (pa_cons (pv 9) (pa_cons (pv 10) pa_nil))))
   (pss_cons (ps_expr (pe_bm PySem.F.plainAttrs_list PySem.F.slot_list_append PySem.F.type_list_append mt_append (pe_ix ix_list (pv 2) pe_int (fun _ _ => rfl)) (pa_cons (pe_tup (pa_cons pe_str (pa_cons (pv 10) pa_nil))) pa_nil)))
   (pss_cons (ps_expr (pe_meth (pv 3) T.cl T.mtell_some Fts hrt bts .nil passL (pa_cons (pv 10) pa_nil)))
   (pss_cons (ps_expr (pe_bm PySem.F.plainAttrs_list PySem.F.slot_list_append PySem.F.type_list_append mt_append (pe_ix ix_list (pv 2) pe_int (fun _ _ => rfl)) (pa_cons (pe_tup (pa_cons (pe_ix ix_tup (pe_ix ix_list (pe_ix ix_list (pv 2) pe_int (fun _ _ => rfl)) (pe_cd D__law_draw hr__law_draw (by rfl) pass0 (pa_cons (pv 1) (pa_cons (pe_callB call_len_seq (by rfl) T.blen PySem.boot_len (pa_cons (pe_ix ix_list (pv 2) pe_int (fun _ _ => rfl)) pa_nil)) pa_nil))) (fun _ _ => rfl)) pe_int (fun _ _ => rfl)) (pa_cons (pe_ix ix_tup (pe_ix ix_list (pe_ix ix_list (pv 2) pe_int (fun _ _ => rfl)) pe_int (fun _ _ => rfl)) pe_int (fun _ _ => rfl)) pa_nil))) pa_nil)))
   (pss_one (ps_expr (pe_meth (pv 3) T.cl T.madd_thirst Ft hrm bt .nil passL (pa_cons (pe_ix ix_tup (pe_ix ix_list (pe_ix ix_list (pv 2) pe_int (fun _ _ => rfl)) (pe_un un_neg pe_int) (fun _ _ => rfl)) pe_int (fun _ _ => rfl)) (pa_cons (pe_ix ix_tup (pe_ix ix_list (pe_ix ix_list (pv 2) pe_int (fun _ _ => rfl)) (pe_un un_neg pe_int) (fun _ _ => rfl)) pe_int (fun _ _ => rfl)) pa_nil))))))))))))))))))))
   (pss_cons (ps_for PassesOwn.never rfl (pi_list (pv 4)) (pg_name (i := 11) nd rfl (by first | exact Or.inl rfl | exact Or.inr rfl))
   (pss_cons (ps_expr (pe_bm PySem.F.plainAttrs_list PySem.F.slot_list_append PySem.F.type_list_append mt_append (pe_meth0 (pe_ix ix_list (pv 11) pe_int (fun _ _ => rfl)) T.clOrder T.mOrderthere Fth hrth bth .nil pass0) (pa_cons pe_str pa_nil)))
   (pss_cons (ps_expr (pe_bm PySem.F.plainAttrs_list PySem.F.slot_list_append PySem.F.type_list_append mt_append (pe_meth (pe_ix ix_list (pv 11) pe_int (fun _ _ => rfl)) T.clOrder T.mOrderabove Fab hrab bab .nil passL (pa_cons (pe_lst pa_nil) pa_nil)) (pa_cons pe_str pa_nil)))
   (pss_cons (ps_if (PW.pt (pw_or (pt_not (pt_val (pe_cd D__law_looks hr__law_looks (by rfl) pass0 (pa_cons (pe_ix ix_list (pv 11) pe_int (fun _ _ => rfl)) (pa_cons (pe_ix ix_list (pv 11) pe_int (fun _ _ => rfl)) (pa_cons (pe_ix ix_list (pv 11) pe_int (fun _ _ => rfl)) (pa_cons (pe_ix ix_list (pv 11) pe_int (fun _ _ => rfl)) pa_nil))))))) (pw_or1 (pt_not (pt_val (pe_cd D__law_above hr__law_above (by rfl) pass0 (pa_cons (pv 1) (pa_cons (pe_ix ix_list (pv 11) pe_int (fun _ _ => rfl)) (pa_cons (pe_ix ix_list (pv 11) pe_int (fun _ _ => rfl)) (pa_cons (pe_ix ix_list (pv 11) pe_int (fun _ _ => rfl)) pa_nil)))))))))) (pss_one (ps_ret pe_bl)) pss_nil)
   (pss_one (ps_if (pt_not (pt_val (pe_callB (cr_all rfl) (by rfl) T.ball (by decide +kernel) (pa_cons (pe_lc (own := [("_law_k", 5)]) (g := gName 5) (tt := tYes) (by rfl) nd (pi_range1 (by rfl) T.brange (pa_cons pe_int pa_nil)) (blkOk_by (own := [("_law_k", 5)]) (N := n_law) (sc := defScope s_law) (by decide +kernel)) (fun _ _ _ _ _ => pg_name (i := 5) nd rfl (by first | exact Or.inl rfl | exact Or.inr rfl)) (fun _ _ _ _ _ => pts_nil) (fun _ _ _ _ _ => (show PE _ _ (tCall (spLeadsO (cO K)) [] _ _) from pe_cd D__law_leads hr__law_leads (by rfl) pass0 (pa_cons (pv 1) (pa_cons (pe_ix (show IxR _ (rIxL K) from ix_list) (pv 11) pe_int (fun _ _ => rfl)) (pa_cons (pe_ix (show IxR _ (rIxL K) from ix_list) (pv 11) pe_int (fun _ _ => rfl)) (pa_cons (pe_ix (show IxR _ (rIxL K) from ix_list) (pv 11) pe_int (fun _ _ => rfl)) (pa_cons (pe_ix (show IxR _ (rIxL K) from ix_list) (pv 11) pe_int (fun _ _ => rfl)) pa_nil)))))))) pa_nil)))) (pss_one (ps_ret pe_bl)) pss_nil))))))
   (pss_one (ps_ret pe_bl))))))))), ?_⟩
    refine ⟨_, rfl, sc, ns, rfl, hS, hl, fun S L H1 hSn hLn e1 S1 => ?_⟩
    refine gset ?_
    refine ⟨_, rfl, S, L, 9, rfl, by decide, S1, fun a k t p c d H2 G hnew e2 S2 M => ?_⟩
    refine gset ?_
    dsimp only
    have gM : ∀ x ∈ a.all, x ≠ S ∧ x ≠ L := fun x hx => by
      have := hnew x hx
      obtain ⟨cells, i, k', g, h1, h2, _⟩ := S1
      exact ⟨(ne_of_none h1 this).symm, (ne_of_none h2 this).symm⟩
    have hdm := G.dm
    have kp : Kept k c d := G.gx.kept (by omega)
    refine ⟨_, rfl, _, rfl, S, L, a, k, t, p, c, d, [], [], rfl, S2, M, FL.nil, kp, by omega, by simp, gM, by decide, fun H3 ms3 fs3 e3 S3 M3 W3 i3 l3 => ?_⟩
    have l3' : fs3.length ≤ 0 + 3 := l3
    refine ⟨_, rfl, a, 9, k, t, p, c, d, ms3, fs3, rfl, by decide, G, M3, W3, i3, by omega, fun b A ts ds us H4 e4 f4 B4 => ?_⟩
    refine gset ?_
    dsimp only
    have ht3 := G.t3
    have J4 : LK (cB K) S L b a 0 H4 A k t p c d fs3 ts ds us ms3 := ⟨⟨S3.ext e4, M3.ext e4 fun _ _ => by simp, W3.ext e4, B4, fun y hy => by
      have hn := f4 y hy
      obtain ⟨h1, h2⟩ := src_ne_new S3 hn
      exact ⟨h1, h2, fun h => M3.new hn y h rfl⟩, gM⟩, G.gx, i3, by omega, by omega, by omega⟩
    clear e4 f4 B4 e3 S3 M3 W3 i3 l3 l3' e2 S2 M hnew kp
    refine ⟨by show 0 ≤ sizeLine; decide, fun lr hlr => ?_⟩
    refine gset ?_
    dsimp only
    obtain ⟨lrS, lrL⟩ := src_ne_new J4.j.s hlr
    have hM : ∀ y ∈ a.all, y ≠ lr := fun y hy => Ne.symm (J4.j.M.new hlr y hy)
    have hA0 : ∀ y ∈ A.all b, y ≠ lr := fun y hy => by
      obtain ⟨v, hv⟩ := J4.j.B.B.some y hy
      exact ne_of_none hv hlr
    have el : Ext [] H4 (upd H4 lr (.lst [])) := Ext.new hlr
    have hl5 : (upd H4 lr (.lst [])) lr = some (.lst (([] : List Addr).map V.ref)) := upd_same
    have J5 : LK (cB K) S L b a 0 (upd H4 lr (.lst [])) A k t p c d fs3 ts ds us ms3 := ⟨J4.j.grow el, J4.G, J4.inn, J4.dl, J4.fl, J4.tl⟩
    generalize upd H4 lr (.lst []) = H5 at hl5 J5 ⊢
    clear J4 el hlr
    obtain ⟨lf, hlf⟩ : ∃ lf, A.lf = lf := ⟨_, rfl⟩
    obtain ⟨l0, hl0⟩ : ∃ l0, A.lt = l0 := ⟨_, rfl⟩
    refine ⟨2, rfl, by decide, by decide, for_range (n := (2 : Int).toNat) (fun n σ' H' => ∃ x5 x6 x7 x8 x9 x10 A t d fs ts ds us ms, ∃ rs : List Addr, σ' = [some (.ref sc), some (.ref S), some (.ref a.M), some (.ref b), some (.ref lr), x5, x6, x7, x8, x9, x10, none] ∧ LK (cB K) S L b a n H' A k t p c d fs ts ds us ms ∧ A.lf = lf ∧ A.lt = l0 ∧ (∀ y ∈ A.all b, y ≠ lr) ∧ H' lr = some (.lst (rs.map V.ref)) ∧ rs.length = n ∧ ∀ R ∈ rs, Rw (cO K) H' S L R [b, lf, l0, a.m1, a.m4, a.m5, lr]) ⟨none, none, none, none, none, none, A, t, d, fs3, ts, ds, us, ms3, [], rfl, J5, hlf, hl0, hA0, hl5, rfl, fun R h => nomatch h⟩ ?_ ?_⟩
    · clear J5 hl5 hlf hl0 hA0 H5 ts ds us ms3 fs3 G
      rintro n σ' H0 hn ⟨x5, x6, x7, x8, x9, x10, A, t, d, fs, ts, ds, us, ms, rs, rfl, ⟨j, G, inn, hdl, hfl, htl⟩, rfl, rfl, hA, hlr, hrl, hrs⟩
      have hn2 : n < 2 := hn
      have kp : Kept k c d := G.kept (by omega)
      refine gset ?_
      refine ⟨_, rfl, a, k, t, p, c, d, ms, rfl, j.M, kp, fun lo H1 hlo e1 am => ?_⟩
      refine gset ?_
      refine ⟨_, rfl, a, k, t, p, c, d, ms, fs, rfl, j.M.ext e1 fun _ _ => by simp, j.W.ext e1, kp, by omega, by omega, G.tk, fun ls H2 hls e2 pr => ?_⟩
      refine gset ?_
      dsimp only
      have e02 := e1.trans e2
      have j2 := j.grow e02
      have hlr2 := e02.keep _ _ hlr (by simp)
      have am2 := am.ext e2 (by simp)
      have pr2 := pr
      refine ⟨_, rfl, .inl ⟨rfl, _, SqL.of hlr2⟩, _, rfl, fun o dx ho0 hdx0 hne0 => ?_⟩
      have em : Ext [] H2 (upd (upd H2 dx (.own o)) o (.ins (cO K) dx [])) := (Ext.new hdx0).trans (Ext.new (by rw [upd_ne hne0.symm]; exact ho0))
      have B3 := j2.B.ext em
      have ho3 : (upd (upd H2 dx (.own o)) o (.ins (cO K) dx [])) o = some (.ins (cO K) dx []) := upd_same
      generalize upd (upd H2 dx (.own o)) o (.ins (cO K) dx []) = H3 at em B3 ho3
      refine ⟨o, dx, b, 24, A, k, t, p, c, d, fs, ts, ds, us, rfl, ho3, B3, inn, fun D Lt ws H4 hLt e4 O4 hw => ⟨rfl, ?_⟩⟩
      have e24 : Ext [] H2 H4 := em.over e4 ho0
      have am4 := am2.ext e24 (by simp)
      have pr4 := pr2.ext e24 (by simp)
      have j4 := j2.grow e24
      have hlr4 := e24.keep _ _ hlr2 (by simp)
      have hLt2 : H2 Lt = none := em.none hLt (by simp)
      clear em B3 ho3 e4
      have hd2 := amtD_len (k := k) (c := c) (d := d) d.length
      have okas := fun q hq => amtD_word (k := k) (c := c) (d := d) d.length q hq
      have hin := pairsD_in (t := t) inn
      have ndas := amtD_nodup (k := k) (c := c) (d := d) d.length
      refine ⟨_, rfl, _, rfl, _, rfl, lo, ls, _, _, rfl, am4, pr4, ndas, by omega, hin, fun Db H5 hDb e5 bl => ?_⟩
      have j5 := j4.grow e5
      refine ⟨_, rfl, a, k, t, p, c, d, ms, fs, rfl, j5.M, j5.W, kp, j5.B.fo, fun lt H6 hlt e6 th => ?_⟩
      have e46 := e5.trans e6
      have j6 := j4.grow e46
      have O6 := O4.ext e46
      have am6 := am4.ext e46 (by simp)
      have pr6 := pr4.ext e46 (by simp)
      have bl6 := bl.ext e6
      have hlr6 := e46.keep _ _ hlr4 (by simp)
      refine ⟨_, rfl, by show 5 ≤ sizeLine; decide, fun R hR => ?_⟩
      have e7 : Ext [] H6 (upd H6 R (.lst [.ref o, .ref lo, .ref Db, .ref lt, .ref ls])) := Ext.new hR
      have hlr7 := e7.keep _ _ hlr6 (by simp)
      refine ⟨lr, _, _, rfl, rfl, hlr7, by rw [List.length_map]; exact Evl.sz_lt (by omega), ?_⟩
      -- the row
      have j7 := j6.grow e7
      have e07 : Ext [] H0 (upd H6 R (.lst [.ref o, .ref lo, .ref Db, .ref lt, .ref ls])) := ((e02.trans e24).trans e46).trans e7
      have hR7 : (upd H6 R (.lst [.ref o, .ref lo, .ref Db, .ref lt, .ref ls])) R = some (.lst [.ref o, .ref lo, .ref Db, .ref lt, .ref ls]) := upd_same
      have offH := j.offs (.lists hlr fun R' hR' => (hrs R' hR').lst)
      have off7 := j7.offs (.lists hlr7 fun R' hR' => let ⟨vs, h⟩ := (hrs R' hR').lst; ⟨vs, e07.keep _ _ h (by simp)⟩)
      have hsm := j.some ⟨_, hlr⟩
      have fl : (thereD k c d fs).length ≤ (amtD k c d d.length).length := List.length_filter_le _ _
      have rw7 : Rw (cO K) (upd H6 R (.lst [.ref o, .ref lo, .ref Db, .ref lt, .ref ls])) S L R [b, A.lf, A.lt, a.m1, a.m4, a.m5, lr] := by
        refine ⟨o, dx, D, Lt, lo, ls, Db, lt, _, _, _, ws, d.length, hR7, ⟨j7.s, O6.ext e7, hw, am6.ext e7 (by simp), pr6.ext e7 (by simp), bl6.ext e7, th.ext e7 (by simp), ndas, by omega, okas, fun q hq => ⟨okS_wd (okas _ (hin q hq).1), okS_wd (okas _ (hin q hq).2)⟩, thereD_in, by omega⟩, mny_amt (by omega), fun x hx => ?_⟩
        obtain ⟨v, hv⟩ := hsm x hx
        have h1 := e1.keep _ _ hv (by simp)
        have h2 := e02.keep _ _ hv (by simp)
        have h5 := (e02.trans (e24.trans e5)).keep _ _ hv (by simp)
        have h6 := (e02.trans (e24.trans e46)).keep _ _ hv (by simp)
        exact ⟨ne_of_none h6 hR, ne_of_none h2 ho0, ne_of_none h2 hLt2, ne_of_none hv hlo, ne_of_none h1 hls, ne_of_none h5 hlt⟩
      generalize upd H6 R (.lst [.ref o, .ref lo, .ref Db, .ref lt, .ref ls]) = H7 at j7 e07 hlr7 off7 rw7 ⊢
      have hlast : ∀ G, Ext (S :: [b, A.lf, A.lt, a.m1, a.m4, a.m5, lr]) H7 G → SrcAt G S L → ∀ R' ∈ rs ++ [R], Rw (cO K) G S L R' [b, A.lf, A.lt, a.m1, a.m4, a.m5, lr] := fun G e s R' h => by
        rcases List.mem_append.mp h with h | h
        · exact (hrs R' h).keep (e07.nil.trans e) s offH
        · rw [List.mem_singleton.mp h]
          exact rw7.keep e s off7
      have x8 : Ext [lr] H7 (upd H7 lr (.lst (rs.map V.ref ++ [.ref R]))) := ext_lst hlr7
      have mn : ∀ {y : Addr}, y ∈ S :: [b, A.lf, A.lt, a.m1, a.m4, a.m5, lr] → ∀ {G G' : Hp}, Ext [y] G G' → Ext (S :: [b, A.lf, A.lt, a.m1, a.m4, a.m5, lr]) G G' := by
        intro y h G G' e
        exact e.mono fun z hz => by rw [List.mem_singleton.mp hz]; exact h
      have j8 := j7.side hA hM lrS lrL x8
      have X8 := mn (y := lr) (by simp) x8
      have hlr8 : (upd H7 lr (.lst (rs.map V.ref ++ [.ref R]))) lr = some (.lst ((rs ++ [R]).map V.ref)) := by rw [upd_same, List.map_append]; rfl
      dsimp only
      generalize upd H7 lr (.lst (rs.map V.ref ++ [.ref R])) = H8 at j8 X8 hlr8 ⊢
      clear x8 rw7 off7 offH hsm hrs hlr7 hR7 j7 e07 hR hlr6 bl6 pr6 am6 O6 j6 e46 e6 hlt th e5 hDb bl hin okas ndas hd2 hLt2 hlr4 j4 pr4 am4 e24 O4 hLt hw ho0 hdx0 hne0 pr2 pr am2 hlr2 j2 e02 e2 hls e1 hlo am j hlr fl e7 j5
      -- a dip more
      have hc1 := G.c1
      have hc8 := G.c8
      have hp1 := G.p1
      have hp8 := G.p8
      have hpl : (p.map V.str).length = p.length := List.length_map ..
      obtain ⟨xs3, hx3, hx3l⟩ := row_len j8.M.r3
      refine ⟨_, rfl, a.M, _, 3, .ref a.m3, rfl, rfl, SqL.of j8.M.M, rfl, ?_⟩
      refine draw_ex (i := 1) (many := (xs3.length : Int)) rfl j8.s (by omega) (Int.lt_of_le_of_lt (show (xs3.length : Int) ≤ 8 by omega) (by decide)) (val_len (val_ixL (val_var rfl) val_c (SqL.of j8.M.M) rfl) (SqL.of hx3)) (fun m H9 m0 m1 e9 s9 => ?_)
      have j9 := j8.draw e9 s9
      have X9 := X8.trans (mn (by simp) e9)
      have hlr9 := e9.keep _ _ hlr8 (by simpa using lrS)
      obtain ⟨xs2, t1, q1, p1, p2, p3, p4, p5⟩ := row_pick (K := K) j9.M.r3 m0 (by omega)
      refine ⟨_, _, m, _, rfl, rfl, SqL.of p1, p2, t1, _, 0, _, rfl, rfl, .inl (.inl p4), rfl, ?_⟩
      refine gset ?_
      dsimp only
      have mc : q1.1 ∈ c.map (·.1) := List.mem_map.mpr ⟨q1, p3, rfl⟩
      obtain ⟨xs4, hx4, hx4l⟩ := row_len j9.M.r4
      refine ⟨_, rfl, a.M, _, 4, .ref a.m4, rfl, rfl, SqL.of j9.M.M, rfl, .inl ⟨rfl, xs4, SqL.of hx4⟩, _, rfl, _, rfl, a.M, _, 2, .ref a.m2, rfl, rfl, SqL.of j9.M.M, rfl, ?_⟩
      refine draw_ex (i := 1) (many := ((p.map V.str).length : Int)) rfl j9.s (by omega) (Int.lt_of_le_of_lt (show ((p.map V.str).length : Int) ≤ 8 by omega) (by decide)) (val_len (val_ixL (val_var rfl) val_c (SqL.of j9.M.M) rfl) (SqL.of j9.M.r2)) (fun m' H10 m0' m1' e10 s10 => ?_)
      have j10 := j9.draw e10 s10
      have X10 := X9.trans (mn (by simp) e10)
      have hlr10 := e10.keep _ _ hlr9 (by simpa using lrS)
      have hx4' := e10.keep _ _ hx4 (by simpa using (j9.g a.m4 (by simp)).1)
      obtain ⟨w1, hw1, hwm⟩ := atI_some (xs := p.map V.str) m0' m1'
      obtain ⟨vt, hvt, rfl⟩ := List.mem_map.mp hwm
      refine ⟨a.m2, _, m', _, rfl, rfl, SqL.of j10.M.r2, hw1, by show 2 ≤ sizeLine; decide, fun u hu => ⟨a.m4, xs4, _, rfl, rfl, (by rw [upd_ne (ne_of_none hx4' hu)]; exact hx4'), Evl.sz_lt (by omega), ?_⟩⟩
      have x11 : Ext [a.m4] H10 (upd (upd H10 u (.tup [.str q1.1, .str vt])) a.m4 (.lst (xs4 ++ [.ref u]))) := ext_push hx4' hu
      have j11 := j10.md (y := a.m4) (by simp) x11 (j10.M.push4 (z := q1.1) (y := vt) hx4' hu) (j10.W.ext x11)
      have X11 := X10.trans (mn (by simp) x11)
      have hlr11 := x11.keep _ _ hlr10 (by simpa using Ne.symm (hM a.m4 (by simp)))
      have hm11 : (upd (upd H10 u (.tup [.str q1.1, .str vt])) a.m4 (.lst (xs4 ++ [.ref u]))) a.m4 = some (.lst (xs4 ++ [.ref u])) := upd_same
      have hu11 : (upd (upd H10 u (.tup [.str q1.1, .str vt])) a.m4 (.lst (xs4 ++ [.ref u]))) u = some (.tup [.str q1.1, .str vt]) := by
        rw [upd_ne (fun h => by rw [h, hx4'] at hu; cases hu)]
        exact upd_same
      dsimp only
      generalize upd (upd H10 u (.tup [.str q1.1, .str vt])) a.m4 (.lst (xs4 ++ [.ref u])) = H11 at j11 X11 hlr11 hm11 hu11 ⊢
      clear x11 hu hx4' hlr10 X10 j10 e10 s10 hlr9 X9 j9 e9 s9 hlr8 X8 j8 hx3 hx3l hx4
      have hdsl := j11.B.D.len
      have hn1 := nm_len (G.cn.nm _ mc)
      have hn2' := nm_len (G.pn.nm vt hvt)
      have hk1 : knownK (c.map tv) (.str q1.1) = true := decide_eq_true (mem_tv.mpr mc)
      have hk2 : knownP p (.str vt) = true := decide_eq_true hvt
      have hno : refDip (c.map tv) p ds.length 24 (.str q1.1) (.str vt) = none := by rw [refDip_3 hk1 hk2, if_neg (by omega)]
      refine ⟨_, rfl, b, A.dx, _, rfl, j11.B.B.ob, fsB_no (.inr (.inr (.inr (.inr (.inr (.inr (.inl rfl))))))), _, rfl, _, rfl, a.M, _, 4, .ref a.m4, rfl, rfl, SqL.of j11.M.M, rfl, 1, rfl, a.m4, _, -1, .ref u, rfl, rfl, SqL.of hm11, atI_last _ _, u, _, 1, _, rfl, rfl, .inl (.inl hu11), rfl, ?_⟩
      refine ⟨b, .str q1.1, .str vt, 24, A, _, _, _, _, _, _, rfl, .str (by omega), fun _ _ => .str (by omega), j11.B.B, by omega, by omega, (fun c t hc => by rw [hno] at hc; cases hc), fun _ H12 w l e12 hw hl' hT' B' => ?_⟩
      have j12 := j11.dip (q := (q1.1, vt)) e12 hl' hT' mc (by omega) B'
      have X12 := X11.trans (mn (by simp) e12)
      have hlr12 := e12.keep _ _ hlr11 (by simpa using Ne.symm (hA b (by simp)))
      have hA2 : ∀ y ∈ ({ A with ld := l } : Bk).all b, y ≠ lr := fun y hy => by
        simp only [Bk.all, List.mem_cons, List.not_mem_nil, or_false] at hy
        rcases hy with rfl | rfl | rfl | rfl | rfl | rfl | rfl
        · exact hA _ (by simp)
        · exact hA _ (by simp)
        · exact hA _ (by simp)
        · exact hA _ (by simp)
        · exact hA _ (by simp)
        · exact fun h => by rw [h, hlr11] at hl'; cases hl'
        · exact hA _ (by simp)
      have G2 : GX k t p c (d ++ [(q1.1, vt)]) := G.dip mc hvt
      have inn2 : ∀ f ∈ fs, inA (amtD k c (d ++ [(q1.1, vt)]) (d ++ [(q1.1, vt)]).length) f := fun f hf => (inn f hf).more amtD_more
      have hdl2 : (d ++ [(q1.1, vt)]).length = d.length + 1 := by rw [List.length_append]; rfl
      generalize d ++ [(q1.1, vt)] = d2 at j12 G2 inn2 hdl2
      generalize ds ++ [V.ref w] = ds2 at j12
      clear e12 hl' hT' B' X11 hlr11 j11 hm11 hu11 hno hk1 hk2 hw hw1 hwm
      have kp2 : Kept k c d2 := G2.kept (by omega)
      refine ⟨_, rfl, a, k, t, p, c, d2, ms, rfl, j12.M, kp2, fun lo H13 hlo e13 am => ?_⟩
      refine gset ?_
      dsimp only
      have j13 := j12.grow e13
      have X13 := X12.trans e13.nil
      have hlr13 := e13.keep _ _ hlr12 (by simp)
      have loS : lo ≠ S := (src_ne_new j12.s hlo).1
      have loM : ∀ y ∈ a.all, lo ≠ y := j12.M.new hlo
      have loB : ∀ y ∈ ({ A with ld := l } : Bk).all b, lo ≠ y := fun y hy => by
        obtain ⟨v, hv⟩ := j12.B.B.some y hy
        exact (ne_of_none hv hlo).symm
      clear j12 X12 hlr12 e13
      have hw6 := fun q hq => amtD_word (k := k) (c := c) (d := d2) d2.length q hq
      have hb := amtD_len (k := k) (c := c) (d := d2) d2.length
      obtain ⟨as, ha, hp⟩ := am
      have hal := amt_len hp
      have hlen : (as.map V.ref).length = as.length := List.length_map ..
      have hpos : 0 < as.length := by
        rw [hal]
        exact List.length_pos_of_mem (take_mem (k := k) (c := c) (d := d2) (j := 0) d2.length (by omega))
      have hul := j13.B.F.len
      have hml := j13.W.len
      refine ⟨_, rfl, ?_⟩
      refine draw_ex (i := 1) (many := ((as.map V.ref).length : Int)) rfl j13.s (by omega) (Int.lt_of_le_of_lt (show ((as.map V.ref).length : Int) ≤ 200 by omega) (by decide)) (val_len (val_var rfl) (SqL.of ha)) (fun m H14 m0 m1 e14 s14 => ?_)
      have j14 := j13.draw e14 s14
      have X14 := X13.trans (mn (by simp) e14)
      have hlr14 := e14.keep _ _ hlr13 (by simpa using lrS)
      have ha14 := e14.keep _ _ ha (by simpa using loS)
      have hp14 := amt_ext e14 hp
      obtain ⟨u1, x, b1, hxm, hux⟩ := am_pick hp14 m0 (by rw [← hlen]; exact m1)
      refine ⟨lo, _, m, _, rfl, rfl, SqL.of ha14, b1, ?_⟩
      refine gset ?_
      dsimp only
      clear j13 X13 hlr13 ha hp e14 s14 b1
      refine ⟨_, rfl, ?_⟩
      refine draw_ex (i := 1) (many := ((as.map V.ref).length : Int)) rfl j14.s (by omega) (Int.lt_of_le_of_lt (show ((as.map V.ref).length : Int) ≤ 200 by omega) (by decide)) (val_len (val_var rfl) (SqL.of ha14)) (fun m H15 m0 m1 e15 s15 => ?_)
      have j15 := j14.draw e15 s15
      have X15 := X14.trans (mn (by simp) e15)
      have hlr15 := e15.keep _ _ hlr14 (by simpa using lrS)
      have ha15 := e15.keep _ _ ha14 (by simpa using loS)
      have hp15 := amt_ext e15 hp14
      have hux15 := e15.tups _ _ hux
      have i0 := Int.emod_nonneg (m + 1) (show ((as.map V.ref).length : Int) ≠ 0 by omega)
      have i1 := Int.emod_lt_of_pos (m + 1) (show (0 : Int) < ((as.map V.ref).length : Int) by omega)
      obtain ⟨u2, y, b2, hym, huy⟩ := am_pick hp15 i0 (by rw [← hlen]; exact i1)
      refine ⟨_, 1, rfl, rfl, _, rfl, lo, _, rfl, .inl (SqL.of ha15), _, _, rfl, rfl, (show (0 : Int) < ((as.map V.ref).length : Int) by omega), lo, _, _, _, rfl, rfl, SqL.of ha15, b2, ?_⟩
      refine gset ?_
      dsimp only
      clear j14 X14 hlr14 ha14 hp14 e15 s15 b2 hux
      -- two facts
      have okx := hw6 x hxm
      have oky := hw6 y hym
      have ox : ownD (amtD k c d2 d2.length) (dAmt x) = true := ownD_amt.trans (decide_eq_true hxm)
      have oy : ownD (amtD k c d2 d2.length) (dAmt y) = true := ownD_amt.trans (decide_eq_true hym)
      refine ⟨_, rfl, a.M, _, 5, .ref a.m5, rfl, rfl, SqL.of j15.M.M, rfl, .inl ⟨rfl, _, SqL.of j15.M.r5⟩, _, rfl, _, rfl, by show 3 ≤ sizeLine; decide, fun v hv => ?_⟩
      have e16 : Ext [] H15 (upd H15 v (.tup [.str "tell", .ref u1, .ref u2])) := Ext.new hv
      have j16 := j15.grow e16
      have X16 := X15.trans e16.nil
      have hlr16 := e16.keep _ _ hlr15 (by simp)
      have ux16 := e16.tups _ _ hux15
      have uy16 := e16.tups _ _ huy
      have f16 : isFk (upd H15 v (.tup [.str "tell", .ref u1, .ref u2])) v (.tell x y) := ⟨u1, u2, upd_same, ux16, uy16⟩
      refine ⟨a.m5, ms, _, rfl, rfl, j16.M.r5, Evl.sz_lt (by omega), ?_⟩
      have x17 : Ext [a.m5] (upd H15 v (.tup [.str "tell", .ref u1, .ref u2])) (upd (upd H15 v (.tup [.str "tell", .ref u1, .ref u2])) a.m5 (.lst (ms ++ [.ref v]))) := ext_lst j16.M.r5
      have j17 := j16.note f16
      have X17 := X16.trans (mn (by simp) x17)
      have hlr17 := x17.keep _ _ hlr16 (by simpa using Ne.symm (hM a.m5 (by simp)))
      have ux17 := x17.tups _ _ ux16
      have uy17 := x17.tups _ _ uy16
      dsimp only
      generalize upd (upd H15 v (.tup [.str "tell", .ref u1, .ref u2])) a.m5 (.lst (ms ++ [.ref v])) = H17 at j17 X17 hlr17 ux17 uy17 ⊢
      clear x17 f16 ux16 uy16 hlr16 X16 j16 e16 hv hux15 huy hlr15 X15 j15 ha15 hp15
      refine ⟨_, rfl, b, A.dx, _, rfl, j17.B.B.ob, fsB_no3 (.inr (.inl rfl)), _, rfl, _, rfl, ?_⟩
      refine ⟨b, .ref u1, .ref u2, _, _, 24, { A with ld := l }, k, c, ts, p, _, us, d2, rfl, Av.amt ux17 okx, Av.amt uy17 oky, j17.B.B, j17.B.D, kp2, by omega, (fun h => by rw [ox] at h; cases h), (fun _ h => by rw [oy] at h; cases h), (fun _ _ h => absurd h (by omega)), fun _ _ _ H18 z e18 hz hzT B18 => ?_⟩
      have ux18 := e18.tups _ _ ux17
      have uy18 := e18.tups _ _ uy17
      have j18 := j17.told e18 (f := .tell x y) ⟨u1, u2, hzT, ux18, uy18⟩ ⟨okS_wd okx, okS_wd oky⟩ (by omega) B18
      have X18 := X17.trans (mn (y := A.lf) (by simp) e18)
      have hlr18 := e18.keep _ _ hlr17 (by simpa using Ne.symm (hA2 A.lf (by simp)))
      have hul2 : (us ++ [V.ref z]).length = us.length + 1 := by rw [List.length_append]; rfl
      have hml2 : (ms ++ [V.ref v]).length = ms.length + 1 := by rw [List.length_append]; rfl
      clear j17 X17 hlr17 e18 hz hzT B18 ux17 uy17
      generalize us ++ [V.ref z] = us2 at j18 hul2
      generalize ms ++ [V.ref v] = ms2 at j18 hml2
      dsimp only
      refine ⟨_, rfl, a.M, _, 5, .ref a.m5, rfl, rfl, SqL.of j18.M.M, rfl, .inl ⟨rfl, _, SqL.of j18.M.r5⟩, _, rfl, by show 2 ≤ sizeLine; decide, fun v2 hv2 => ?_⟩
      have e19 : Ext [] H18 (upd H18 v2 (.tup [.str "some", .ref u2])) := Ext.new hv2
      have j19 := j18.grow e19
      have X19 := X18.trans e19.nil
      have hlr19 := e19.keep _ _ hlr18 (by simp)
      have uy19 := e19.tups _ _ uy18
      have f19 : isFk (upd H18 v2 (.tup [.str "some", .ref u2])) v2 (.some y) := ⟨u2, upd_same, uy19⟩
      refine ⟨a.m5, ms2, _, rfl, rfl, j19.M.r5, Evl.sz_lt (by omega), ?_⟩
      have x20 : Ext [a.m5] (upd H18 v2 (.tup [.str "some", .ref u2])) (upd (upd H18 v2 (.tup [.str "some", .ref u2])) a.m5 (.lst (ms2 ++ [.ref v2]))) := ext_lst j19.M.r5
      have j20 := j19.note f19
      have X20 := X19.trans (mn (by simp) x20)
      have hlr20 := x20.keep _ _ hlr19 (by simpa using Ne.symm (hM a.m5 (by simp)))
      have uy20 := x20.tups _ _ uy19
      dsimp only
      generalize upd (upd H18 v2 (.tup [.str "some", .ref u2])) a.m5 (.lst (ms2 ++ [.ref v2])) = H20 at j20 X20 hlr20 uy20 ⊢
      clear x20 f19 uy19 hlr19 X19 j19 e19 hv2 ux18 uy18 hlr18 X18 j18
      refine ⟨_, rfl, b, A.dx, _, rfl, j20.B.B.ob, fsB_no3 (.inr (.inr (.inl rfl))), _, rfl, ?_⟩
      refine ⟨b, .ref u2, _, 24, { A with ld := l }, k, c, ts, p, _, us2, d2, rfl, Av.amt uy20 oky, j20.B.B, j20.B.D, kp2, by omega, (fun h => by rw [oy] at h; cases h), (fun _ h => absurd h (by omega)), fun _ _ H21 z2 e21 hz2 hzT2 B21 => ?_⟩
      have uy21 := e21.tups _ _ uy20
      have j21 := j20.told e21 (f := .some y) ⟨u2, hzT2, uy21⟩ (okS_wd oky) (by omega) B21
      have X21 := X20.trans (mn (y := A.lf) (by simp) e21)
      have hlr21 := e21.keep _ _ hlr20 (by simpa using Ne.symm (hA2 A.lf (by simp)))
      clear j20 X20 hlr20 e21 hz2 hzT2 B21 uy20 uy21
      generalize us2 ++ [V.ref z2] = us3 at j21
      generalize ms2 ++ [V.ref v2] = ms3 at j21
      dsimp only
      -- a thirst
      have hk1 := G2.k1
      have hk8 := G2.k8
      obtain ⟨xs1, hx1, hx1l⟩ := row_len j21.M.r1
      obtain ⟨xs0, hx0, hx0l⟩ := row_len j21.M.r0
      refine ⟨_, rfl, a.M, _, 1, .ref a.m1, rfl, rfl, SqL.of j21.M.M, rfl, .inl ⟨rfl, xs1, SqL.of hx1⟩, _, rfl, a.M, _, 0, .ref a.m0, rfl, rfl, SqL.of j21.M.M, rfl, ?_⟩
      refine draw_ex (i := 1) (many := (xs0.length : Int)) rfl j21.s (by omega) (Int.lt_of_le_of_lt (show (xs0.length : Int) ≤ 8 by omega) (by decide)) (val_len (val_ixL (val_var rfl) val_c (SqL.of j21.M.M) rfl) (SqL.of hx0)) (fun m H22 m0 m1 e22 s22 => ?_)
      have j22 := j21.draw e22 s22
      have X22 := X21.trans (mn (by simp) e22)
      have hlr22 := e22.keep _ _ hlr21 (by simpa using lrS)
      have hx1' := e22.keep _ _ hx1 (by simpa using (j21.g a.m1 (by simp)).1)
      obtain ⟨xs2', t1', q1', p1', p2', p3', p4', p5'⟩ := row_pick (K := K) j22.M.r0 m0 (by omega)
      obtain ⟨xs2'', t2, q2, r1, r2, r3, r4, r5⟩ := row_pick (K := K) j22.M.r0 (show (0 : Int) ≤ 0 by decide) (by omega)
      rw [p1'] at r1
      cases r1
      refine ⟨_, _, m, _, rfl, rfl, SqL.of p1', p2', t1', _, 0, _, rfl, rfl, .inl (.inl p4'), rfl, _, rfl, a.M, _, 0, .ref a.m0, rfl, rfl, SqL.of j22.M.M, rfl, _, _, _, _, rfl, rfl, SqL.of p1', r2, t2, _, 0, _, rfl, rfl, .inl (.inl r4), rfl, by show 2 ≤ sizeLine; decide, fun u hu => ⟨a.m1, xs1, _, rfl, rfl, (by rw [upd_ne (ne_of_none hx1' hu)]; exact hx1'), Evl.sz_lt (by omega), ?_⟩⟩
      have x23 : Ext [a.m1] H22 (upd (upd H22 u (.tup [.str q1'.1, .str q2.1])) a.m1 (.lst (xs1 ++ [.ref u]))) := ext_push hx1' hu
      have j23 := j22.md (y := a.m1) (by simp) x23 (j22.M.push1 (z := q1'.1) (y := q2.1) hx1' hu) (j22.W.ext x23)
      have X23 := X22.trans (mn (by simp) x23)
      have hlr23 := x23.keep _ _ hlr22 (by simpa using Ne.symm (hM a.m1 (by simp)))
      have hm23 : (upd (upd H22 u (.tup [.str q1'.1, .str q2.1])) a.m1 (.lst (xs1 ++ [.ref u]))) a.m1 = some (.lst (xs1 ++ [.ref u])) := upd_same
      have hu23 : (upd (upd H22 u (.tup [.str q1'.1, .str q2.1])) a.m1 (.lst (xs1 ++ [.ref u]))) u = some (.tup [.str q1'.1, .str q2.1]) := by
        rw [upd_ne (fun h => by rw [h, hx1'] at hu; cases hu)]
        exact upd_same
      dsimp only
      generalize upd (upd H22 u (.tup [.str q1'.1, .str q2.1])) a.m1 (.lst (xs1 ++ [.ref u])) = H23 at j23 X23 hlr23 hm23 hu23 ⊢
      clear x23 hx1' hlr22 X22 j22 e22 s22 hlr21 X21 j21 hx1 hx1l hx0
      have mk1 : q1'.1 ∈ k.map (·.1) := List.mem_map.mpr ⟨q1', p3', rfl⟩
      have mk2 : q2.1 ∈ k.map (·.1) := List.mem_map.mpr ⟨q2, r3, rfl⟩
      have hkn1 : knownK (k.map tv) (.str q1'.1) = true := decide_eq_true (mem_tv.mpr mk1)
      have hkn2 : knownK (k.map tv) (.str q2.1) = true := decide_eq_true (mem_tv.mpr mk2)
      have htsl := j23.B.T.len
      have hno : refT (k.map tv) ts.length (.str q1'.1) (.str q2.1) = none := by rw [refT_3 hkn1 hkn2, if_neg (by omega)]
      refine ⟨_, rfl, b, A.dx, _, rfl, j23.B.B.ob, fsB_no (.inr (.inr (.inr (.inr (.inr (.inr (.inr (.inr rfl)))))))), _, rfl, a.M, _, 1, .ref a.m1, rfl, rfl, SqL.of j23.M.M, rfl, 1, rfl, a.m1, _, -1, .ref u, rfl, rfl, SqL.of hm23, atI_last _ _, u, _, 0, _, rfl, rfl, .inl (.inl hu23), rfl, _, rfl, a.M, _, 1, .ref a.m1, rfl, rfl, SqL.of j23.M.M, rfl, 1, rfl, a.m1, _, -1, .ref u, rfl, rfl, SqL.of hm23, atI_last _ _, u, _, 1, _, rfl, rfl, .inl (.inl hu23), rfl, ?_⟩
      refine ⟨b, .str q1'.1, .str q2.1, 24, { A with ld := l }, _, _, _, _, _, _, rfl, .str (G2.nl _ (.inl mk1)), fun _ _ => .str (G2.nl _ (.inl mk2)), j23.B.B, by omega, (fun c t hc => by rw [hno] at hc; cases hc), fun _ H24 w e24 hw hT' B' => ?_⟩
      have j24 := j23.thirst (q := (q1'.1, q2.1)) e24 hT' (by omega) B'
      have X24 := X23.trans (mn (y := A.lt) (by simp) e24)
      have hlr24 := e24.keep _ _ hlr23 (by simpa using Ne.symm (hA2 A.lt (by simp)))
      refine ⟨_, _, _, _, _, _, _, _, _, _, _, _, _, _, _, rfl, ⟨j24, G2.thirst mk1 mk2, fun f hf => ?_, by omega, ?_, ?_⟩, rfl, rfl, hA2, hlr24, ?_, hlast H24 X24 j24.s⟩
      · rcases List.mem_append.mp hf with hf | hf
        · rcases List.mem_append.mp hf with hf | hf
          · exact inn2 f hf
          · rw [List.mem_singleton.mp hf]
            exact ⟨hxm, hym⟩
        · rw [List.mem_singleton.mp hf]
          exact hym
      · rw [List.length_append, List.length_append]
        show fs.length + 1 + 1 ≤ 3 + 2 * (n + 1)
        omega
      · rw [List.length_append]
        show t.length + 1 ≤ 3 + (n + 1)
        omega
      · rw [List.length_append]
        show rs.length + 1 = n + 1
        omega
    clear J5 hl5 hlf hl0 hA0 H5 ts ds us ms3 fs3 G
    rintro σ' H1 ⟨x5, x6, x7, x8, x9, x10, A, t, d, fs, ts, ds, us, ms, rs, rfl, ⟨j, _, _, _, _, _⟩, _, _, _, hlr, _, hrs⟩
    have s1 := j.s
    have hrw : ∀ R ∈ rs, Rw (cO K) H1 S L R [] := fun R h => (hrs R h).rest
    clear hrs j
    dsimp only
    refine ⟨_, rfl, lr, rfl, ⟨_, SqL.of hlr⟩, for_list (xs := rs.map V.ref) (fun i σ' H' => ∃ x11, σ' = [some (.ref sc), some (.ref S), some (.ref a.M), some (.ref b), some (.ref lr), x5, x6, x7, x8, x9, x10, x11] ∧ SrcAt H' S L ∧ H' lr = some (.lst (rs.map V.ref)) ∧ ∀ R ∈ rs, Rw (cO K) H' S L R []) ⟨none, rfl, s1, hlr, hrw⟩ ?_ ?_ ?_⟩
    · rintro i σ' H' _ ⟨_, _, _, h, _⟩
      exact SqL.of h
    · clear s1 hrw hlr
      rintro i v σ' H0 hv ⟨x11, rfl, s0, hlr, hrw⟩
      rw [List.getElem?_map] at hv
      obtain ⟨R, hRi, rfl⟩ := Option.map_eq_some_iff.mp hv
      have hRm := List.mem_of_getElem? hRi
      obtain ⟨o, dx, D, Lt, lo, ls, Db, lt, as, tt, th, ws, nn, hR, z, my, _⟩ := hrw R hRm
      have hwl : ws.length ≤ 100 := by
        have h1 := z.al
        rw [← z.hw, List.length_map] at h1
        exact h1
      have hal := z.al
      have htl := z.tl
      have RS : R ≠ S := src_refs z.s hR fun v hv => by
        simp only [List.mem_cons, List.not_mem_nil, or_false] at hv
        rcases hv with rfl | rfl | rfl | rfl | rfl <;> exact ⟨_, rfl⟩
      refine gset ?_
      dsimp only
      refine ⟨_, rfl, R, _, 0, .ref o, rfl, rfl, SqL.of hR, rfl, o, dx, _, rfl, z.o.ob, rfl, o, dx, D, Lt, ws, tt, th, rfl, z.o, fun q hq => by rw [z.hw]; exact z.hn q hq, by omega, by omega, fun r H2 hr e2 am => ?_⟩
      obtain ⟨vs, hvs, hvl⟩ := am.lst
      have hfl : (aboveD (ws.map (·.1)) tt th).length ≤ (ws.map (·.1)).length := List.length_filter_le _ _
      rw [List.length_map] at hfl
      refine ⟨.inl ⟨rfl, _, SqL.of hvs⟩, r, vs, _, rfl, rfl, hvs, Evl.sz_lt (by omega), ?_⟩
      have f2 : Ext [] H0 (upd H2 r (.lst (vs ++ [.str "x"]))) := e2.fresh hr
      dsimp only
      generalize upd H2 r (.lst (vs ++ [.str "x"])) = H3 at f2 ⊢
      clear e2 am hvs hvl hr hfl
      have hR3 := f2.keep _ _ hR (by simp)
      have z3 := z.ext f2
      refine ⟨_, rfl, R, _, 0, .ref o, rfl, rfl, SqL.of hR3, rfl, o, dx, _, rfl, z3.o.ob, rfl, by show 0 ≤ sizeLine; decide, fun l0 hl0 => ?_⟩
      have e4 : Ext [] H3 (upd H3 l0 (.lst [])) := Ext.new hl0
      refine ⟨o, l0, dx, D, Lt, ws, tt, th, [], [], rfl, upd_same, .nil, by show 0 ≤ 1000; decide, by omega, z3.o.ext e4, fun i v d h => by simp at h, fun us qs h1 h2 h3 h4 r H5 hr e5 am => ?_⟩
      obtain ⟨vs, hvs, hvl⟩ := am.lst
      have hfl : (aboveD (ws.map (·.1)) tt qs).length ≤ (ws.map (·.1)).length := List.length_filter_le _ _
      rw [List.length_map] at hfl
      refine ⟨.inl ⟨rfl, _, SqL.of hvs⟩, r, vs, _, rfl, rfl, hvs, Evl.sz_lt (by omega), ?_⟩
      have f5 : Ext [] H0 (upd H5 r (.lst (vs ++ [.str "x"]))) := f2.trans (e4.trans (e5.fresh hr))
      dsimp only
      generalize upd H5 r (.lst (vs ++ [.str "x"])) = H6 at f5 ⊢
      clear e4 e5 am hvs hvl hr hfl f2 hR3 z3 hl0 h1 h2 h3 h4
      have hR6 := f5.keep _ _ hR (by simp)
      have z6 := z.ext f5
      refine ⟨_, rfl, R, _, 0, .ref o, rfl, rfl, SqL.of hR6, rfl, _, rfl, R, _, 1, .ref lo, rfl, rfl, SqL.of hR6, rfl, _, rfl, R, _, 2, .ref Db, rfl, rfl, SqL.of hR6, rfl, _, rfl, R, _, 3, .ref lt, rfl, rfl, SqL.of hR6, rfl, ?_⟩
      refine ⟨o, lo, Db, lt, dx, D, Lt, ws, tt, th, as, rfl, z6.o, z6.hw, z6.am, z6.bl, z6.tt, by omega, z6.hn, by omega, fun H7 e7 => ⟨_, rfl, ?_⟩⟩
      refine iteF ?_
      have f7 := f5.trans e7
      have hR7 := f7.keep _ _ hR (by simp)
      have z7 := z.ext f7
      clear f5 e7 hR6 z6
      refine ⟨_, rfl, _, rfl, R, _, 0, .ref o, rfl, rfl, SqL.of hR7, rfl, _, rfl, R, _, 1, .ref lo, rfl, rfl, SqL.of hR7, rfl, _, rfl, R, _, 2, .ref Db, rfl, rfl, SqL.of hR7, rfl, ?_⟩
      refine ⟨S, L, o, dx, D, Lt, lo, ls, Db, lt, as, tt, th, ws, rfl, z7, ⟨nn, my⟩, fun H8 e8 s8 => ⟨_, rfl, ?_⟩⟩
      refine iteF ?_
      have f8 : Ext [S] H0 H8 := f7.nil.trans e8
      clear f7 hR7 z7 e8
      unfold tNext
      dsimp only
      refine ⟨3, rfl, by decide, by decide, fun R2 hR2 => ?_⟩
      obtain ⟨R2S, R2L⟩ := src_ne_new s8 hR2
      have hR20 : H0 R2 = none := f8.none hR2 (by simpa using R2S)
      refine lc_range (n := (3 : Int).toNat) (fun m G => Ext [S] H0 G ∧ SrcAt G S L ∧ G R2 = some (.lst ((List.replicate m true).map V.bl))) ⟨f8.fresh hR20, s8.ext (Ext.new hR2), upd_same⟩ ?_ ?_
      · rintro m G hm ⟨e, s9, hr2⟩
        have hm3 : m < 3 := hm
        have zG := z.draw e s9
        have hRG := e.keep _ _ hR (by simpa using RS)
        refine ⟨wipe1, ?_⟩
        refine tyes ?_
        refine ⟨_, rfl, _, rfl, R, _, 0, .ref o, rfl, rfl, SqL.of hRG, rfl, _, rfl, R, _, 1, .ref lo, rfl, rfl, SqL.of hRG, rfl, _, rfl, R, _, 2, .ref Db, rfl, rfl, SqL.of hRG, rfl, _, rfl, R, _, 4, .ref ls, rfl, rfl, SqL.of hRG, rfl, ?_⟩
        refine ⟨S, L, o, dx, D, Lt, lo, ls, Db, lt, as, tt, th, ws, rfl, zG, fun G2 e2 s2 => ?_⟩
        have hr3 := e2.keep _ _ hr2 (by simpa using R2S)
        have x3 : Ext [R2] G2 (upd G2 R2 (.lst ((List.replicate m true).map V.bl ++ [.bl true]))) := ext_lst hr3
        refine ⟨_, hr3, by rw [List.length_map, List.length_replicate]; exact Evl.sz_lt (by omega), (e.trans e2).fresh hR20, s2.keepM x3 (by simpa using Ne.symm R2S) (by simpa using Ne.symm R2L), ?_⟩
        rw [upd_same, List.replicate_succ', List.map_append]
        rfl
      · rintro G ⟨e, s9, hr2⟩
        refine ⟨R2, List.replicate _ true, rfl, SqL.of hr2, _, rfl, ?_⟩
        have : (List.replicate (3 : Int).toNat true).all id = true := by decide
        rw [this]
        refine iteF ?_
        exact ⟨_, rfl, s9, e.keep _ _ hlr (by simpa using lrS), fun R' h => (hrw R' h).draw e s9⟩
    · rintro σ' H' ⟨x11, rfl, _⟩
      exact qOk _
end

end K18
namespace K18
open PySem PySem.Spec PyProof.Rows L2 He Tp ClX LiI
open Hd
theorem txt {K : PySem.W.Frag} {h : Heap} {mg : Str → Option Value} (X : K.In h) (G : h.Ns mainGlobals mg) (c : He.SaysD fa fn K) (x : xB K = true) (y : fxO fx K = fxV fx) : Txt K mg := by
  obtain ⟨X1, x⟩ := ba x
  obtain ⟨X2, x⟩ := ba x
  obtain ⟨X3, x⟩ := ba x
  obtain ⟨X4, x⟩ := ba x
  obtain ⟨X5, x⟩ := ba x
  obtain ⟨X6, x⟩ := ba x
  obtain ⟨X7, x⟩ := ba x
  obtain ⟨X8, x⟩ := ba x
  obtain ⟨X9, x⟩ := ba x
  obtain ⟨X10, x⟩ := ba x
  obtain ⟨X11, x⟩ := ba x
  obtain ⟨X12, x⟩ := ba x
  obtain ⟨X13, x⟩ := ba x
  obtain ⟨X14, x⟩ := ba x
  obtain ⟨X15, x⟩ := ba x
  obtain ⟨X16, x⟩ := ba x
  obtain ⟨X17, x⟩ := ba x
  obtain ⟨X18, x⟩ := ba x
  obtain ⟨X19, x⟩ := ba x
  obtain ⟨X20, x⟩ := ba x
  obtain ⟨X21, X22⟩ := ba x
  exact {
    blen := He.free_ok X G (c.facts (f := .free "len") (by simp [fa]))
    babs := He.free_ok X G (c.facts (f := .free "abs") (by simp [fa]))
    bint := He.free_ok X G (c.facts (f := .free "int") (by simp [fa]))
    bisinstance := He.free_ok X G (c.facts (f := .free "isinstance") (by simp [fa]))
    ball := He.free_ok X G (c.facts (f := .free "all") (by simp [fa]))
    brange := He.free_ok X G (c.facts (f := .free "range") (by simp [fa]))
    blist := He.free_ok X G (c.facts (f := .free "list") (by simp [fa]))
    bstr := He.free_ok X G (c.facts (f := .free "str") (by simp [fa]))
    bbool := He.free_ok X G (c.facts (f := .free "bool") (by simp [fa]))
    bValueError := He.free_ok X G (c.facts (f := .free "ValueError") (by simp [fa]))
    btuple := He.free_ok X G (c.facts (f := .free "tuple") (by simp [fa]))
    bmin := He.free_ok X G (c.facts (f := .free "min") (by simp [fa]))
    bmax := He.free_ok X G (c.facts (f := .free "max") (by simp [fa]))
    bsum := He.free_ok X G (c.facts (f := .free "sum") (by simp [fa]))
    bsorted := He.free_ok X G (c.facts (f := .free "sorted") (by simp [fa]))
    benumerate := He.free_ok X G (c.facts (f := .free "enumerate") (by simp [fa]))
    bany := He.free_ok X G (c.facts (f := .free "any") (by simp [fa]))
    bzip := He.free_ok X G (c.facts (f := .free "zip") (by simp [fa]))
    bset := He.free_ok X G (c.facts (f := .free "set") (by simp [fa]))
    bdict := He.free_ok X G (c.facts (f := .free "dict") (by simp [fa]))
    biter := He.free_ok X G (c.facts (f := .free "iter") (by simp [fa]))
    gDyeError := He.glo_ok X G (c.facts (f := .glo "DyeError") (by simp [fa]))
    xDyeError := exBB_ok X1
    fDye := c.def_ 0 (d := d_DyeError___init__) rfl
    gBadName := He.glo_ok X G (c.facts (f := .glo "BadName") (by simp [fa]))
    xBadName := exBB_ok X2
    gBadHold := He.glo_ok X G (c.facts (f := .glo "BadHold") (by simp [fa]))
    xBadHold := exBB_ok X3
    gBadNumber := He.glo_ok X G (c.facts (f := .glo "BadNumber") (by simp [fa]))
    xBadNumber := exBB_ok X4
    gBadAmount := He.glo_ok X G (c.facts (f := .glo "BadAmount") (by simp [fa]))
    xBadAmount := exBB_ok X5
    gKnown := He.glo_ok X G (c.facts (f := .glo "Known") (by simp [fa]))
    xKnown := exBB_ok X6
    gUnknown := He.glo_ok X G (c.facts (f := .glo "Unknown") (by simp [fa]))
    xUnknown := exBB_ok X7
    gFull := He.glo_ok X G (c.facts (f := .glo "Full") (by simp [fa]))
    xFull := exBB_ok X8
    gis_whole := He.glo_ok X G (c.facts (f := .glo "is_whole") (by simp [fa]))
    fis_whole := c.def_ 1 (d := d_is_whole) rfl
    gis_amount := He.glo_ok X G (c.facts (f := .glo "is_amount") (by simp [fa]))
    fis_amount := c.def_ 2 (d := d_is_amount) rfl
    gcheck_between := He.glo_ok X G (c.facts (f := .glo "check_between") (by simp [fa]))
    fcheck_between := c.def_ 3 (d := d_check_between) rfl
    gsteps_of := He.glo_ok X G (c.facts (f := .glo "steps_of") (by simp [fa]))
    fsteps_of := c.def_ 4 (d := d_steps_of) rfl
    gwalk := He.glo_ok X G (c.facts (f := .glo "walk") (by simp [fa]))
    fwalk := c.def_ 5 (d := d_walk) rfl
    gpath_to := He.glo_ok X G (c.facts (f := .glo "path_to") (by simp [fa]))
    fpath_to := c.def_ 6 (d := d_path_to) rfl
    gpairs := He.glo_ok X G (c.facts (f := .glo "pairs") (by simp [fa]))
    fpairs := c.def_ 7 (d := d_pairs) rfl
    g_falls := He.glo_ok X G (c.facts (f := .glo "_falls") (by simp [fa]))
    f_falls := c.def_ 8 (d := d__falls) rfl
    gtold_there := He.glo_ok X G (c.facts (f := .glo "told_there") (by simp [fa]))
    ftold_there := c.def_ 9 (d := d_told_there) rfl
    g_is_loose := He.glo_ok X G (c.facts (f := .glo "_is_loose") (by simp [fa]))
    f_is_loose := c.def_ 10 (d := d__is_loose) rfl
    gOrder := He.glo_ok X G (c.facts (f := .glo "Order") (by simp [fa]))
    clOrder := He.cls_ok (c.facts (f := .cls "Order") (by simp [fa]))
    mk_Order := He.mkr_ok (c.facts (f := .mkr "Order") (by simp [fa]))
    nOrder_below := He.noat_ok (c.facts (f := .noat "Order" "_below") (by simp [fa]))
    nOrder_told := He.noat_ok (c.facts (f := .noat "Order" "_told") (by simp [fa]))
    fOrderInit := c.def_ 11 (d := d_Order___init__) rfl
    mOrder__contains__ := He.meth_ok (c.facts (f := .meth "Order" "__contains__") (by simp [fa]))
    fOrder__contains__ := c.def_ 12 (d := d_Order___contains__) rfl
    mOrderchain := He.meth_ok (c.facts (f := .meth "Order" "chain") (by simp [fa]))
    fOrderchain := c.def_ 13 (d := d_Order_chain) rfl
    mOrderabove := He.meth_ok (c.facts (f := .meth "Order" "above") (by simp [fa]))
    fOrderabove := c.def_ 14 (d := d_Order_above) rfl
    mOrderthere := He.meth_ok (c.facts (f := .meth "Order" "there") (by simp [fa]))
    fOrderthere := c.def_ 15 (d := d_Order_there) rfl
    mOrder_has := He.meth_ok (c.facts (f := .meth "Order" "_has") (by simp [fa]))
    fOrder_has := c.def_ 16 (d := d_Order__has) rfl
    mOrder_check_own := He.meth_ok (c.facts (f := .meth "Order" "_check_own") (by simp [fa]))
    fOrder_check_own := c.def_ 17 (d := d_Order__check_own) rfl
    g_is_name := He.glo_ok X G (c.facts (f := .glo "_is_name") (by simp [fa]))
    f_is_name := c.def_ 18 (d := d__is_name) rfl
    g_check_new := He.glo_ok X G (c.facts (f := .glo "_check_new") (by simp [fa]))
    f_check_new := c.def_ 19 (d := d__check_new) rfl
    g_check_known := He.glo_ok X G (c.facts (f := .glo "_check_known") (by simp [fa]))
    f_check_known := c.def_ 20 (d := d__check_known) rfl
    g_check_room := He.glo_ok X G (c.facts (f := .glo "_check_room") (by simp [fa]))
    f_check_room := c.def_ 21 (d := d__check_room) rfl
    gBook := He.glo_ok X G (c.facts (f := .glo "Book") (by simp [fa]))
    cl := He.cls_ok (c.facts (f := .cls "Book") (by simp [fa]))
    mk_ := He.mkr_ok (c.facts (f := .mkr "Book") (by simp [fa]))
    n_bound := He.noat_ok (c.facts (f := .noat "Book" "_bound") (by simp [fa]))
    n_cloths := He.noat_ok (c.facts (f := .noat "Book" "_cloths") (by simp [fa]))
    n_dips := He.noat_ok (c.facts (f := .noat "Book" "_dips") (by simp [fa]))
    n_facts := He.noat_ok (c.facts (f := .noat "Book" "_facts") (by simp [fa]))
    n_kinds := He.noat_ok (c.facts (f := .noat "Book" "_kinds") (by simp [fa]))
    n_pots := He.noat_ok (c.facts (f := .noat "Book" "_pots") (by simp [fa]))
    n_thirsts := He.noat_ok (c.facts (f := .noat "Book" "_thirsts") (by simp [fa]))
    pget_bound := by obtain ⟨fd, F⟩ := okA_funD (d := dx_Of_bound) (fx_at y (i := 0) rfl) X10; exact ⟨_, _, fd, pgetB_ok X9, F⟩
    pset_bound := by obtain ⟨fd, F⟩ := okA_funD (d := dx_Set_bound) (fx_at y (i := 1) rfl) X12; exact ⟨_, _, fd, psetB_ok X11, F⟩
    fInit := c.def_ 22 (d := d_Book___init__) rfl
    madd_kind := He.meth_ok (c.facts (f := .meth "Book" "add_kind") (by simp [fa]))
    fadd_kind := c.def_ 23 (d := d_Book_add_kind) rfl
    madd_thirst := He.meth_ok (c.facts (f := .meth "Book" "add_thirst") (by simp [fa]))
    fadd_thirst := c.def_ 24 (d := d_Book_add_thirst) rfl
    madd_pot := He.meth_ok (c.facts (f := .meth "Book" "add_pot") (by simp [fa]))
    fadd_pot := c.def_ 25 (d := d_Book_add_pot) rfl
    madd_cloth := He.meth_ok (c.facts (f := .meth "Book" "add_cloth") (by simp [fa]))
    fadd_cloth := c.def_ 26 (d := d_Book_add_cloth) rfl
    mdip := He.meth_ok (c.facts (f := .meth "Book" "dip") (by simp [fa]))
    fdip := c.def_ 27 (d := d_Book_dip) rfl
    mtell := He.meth_ok (c.facts (f := .meth "Book" "tell") (by simp [fa]))
    ftell := c.def_ 28 (d := d_Book_tell) rfl
    mtell_some := He.meth_ok (c.facts (f := .meth "Book" "tell_some") (by simp [fa]))
    ftell_some := c.def_ 29 (d := d_Book_tell_some) rfl
    mfacts := He.meth_ok (c.facts (f := .meth "Book" "facts") (by simp [fa]))
    ffacts := c.def_ 30 (d := d_Book_facts) rfl
    m__len__ := He.meth_ok (c.facts (f := .meth "Book" "__len__") (by simp [fa]))
    f__len__ := c.def_ 31 (d := d_Book___len__) rfl
    m__iter__ := He.meth_ok (c.facts (f := .meth "Book" "__iter__") (by simp [fa]))
    f__iter__ := c.def_ 32 (d := d_Book___iter__) rfl
    mkind_of := He.meth_ok (c.facts (f := .meth "Book" "kind_of") (by simp [fa]))
    fkind_of := c.def_ 33 (d := d_Book_kind_of) rfl
    mhold_of := He.meth_ok (c.facts (f := .meth "Book" "hold_of") (by simp [fa]))
    fhold_of := c.def_ 34 (d := d_Book_hold_of) rfl
    mthirstier := He.meth_ok (c.facts (f := .meth "Book" "thirstier") (by simp [fa]))
    fthirstier := c.def_ 35 (d := d_Book_thirstier) rfl
    mprevious := He.meth_ok (c.facts (f := .meth "Book" "previous") (by simp [fa]))
    fprevious := c.def_ 36 (d := d_Book_previous) rfl
    mamounts := He.meth_ok (c.facts (f := .meth "Book" "amounts") (by simp [fa]))
    famounts := c.def_ 37 (d := d_Book_amounts) rfl
    m_check_own := He.meth_ok (c.facts (f := .meth "Book" "_check_own") (by simp [fa]))
    f_check_own := c.def_ 38 (d := d_Book__check_own) rfl
    m_has_leave := He.meth_ok (c.facts (f := .meth "Book" "_has_leave") (by simp [fa]))
    f_has_leave := c.def_ 39 (d := d_Book__has_leave) rfl
    g_law_is_whole := He.glo_ok X G (c.facts (f := .glo "_law_is_whole") (by simp [fa]))
    f_law_is_whole := c.def_ 40 (d := d__law_is_whole) rfl
    g_law_source := He.glo_ok X G (c.facts (f := .glo "_law_source") (by simp [fa]))
    f_law_source := c.def_ 41 (d := d__law_source) rfl
    g_law_draw := He.glo_ok X G (c.facts (f := .glo "_law_draw") (by simp [fa]))
    f_law_draw := c.def_ 42 (d := d__law_draw) rfl
    g_law_word := He.glo_ok X G (c.facts (f := .glo "_law_word") (by simp [fa]))
    f_law_word := c.def_ 43 (d := d__law_word) rfl
    g_law_name := He.glo_ok X G (c.facts (f := .glo "_law_name") (by simp [fa]))
    f_law_name := c.def_ 44 (d := d__law_name) rfl
    g_law_names := He.glo_ok X G (c.facts (f := .glo "_law_names") (by simp [fa]))
    f_law_names := c.def_ 45 (d := d__law_names) rfl
    g_law_model := He.glo_ok X G (c.facts (f := .glo "_law_model") (by simp [fa]))
    f_law_model := c.def_ 46 (d := d__law_model) rfl
    g_law_facts := He.glo_ok X G (c.facts (f := .glo "_law_facts") (by simp [fa]))
    f_law_facts := c.def_ 47 (d := d__law_facts) rfl
    g_law_sort := He.glo_ok X G (c.facts (f := .glo "_law_sort") (by simp [fa]))
    f_law_sort := c.def_ 48 (d := d__law_sort) rfl
    g_law_grip := He.glo_ok X G (c.facts (f := .glo "_law_grip") (by simp [fa]))
    f_law_grip := c.def_ 49 (d := d__law_grip) rfl
    g_law_before := He.glo_ok X G (c.facts (f := .glo "_law_before") (by simp [fa]))
    f_law_before := c.def_ 50 (d := d__law_before) rfl
    g_law_leaves := He.glo_ok X G (c.facts (f := .glo "_law_leaves") (by simp [fa]))
    f_law_leaves := c.def_ 51 (d := d__law_leaves) rfl
    g_law_amounts := He.glo_ok X G (c.facts (f := .glo "_law_amounts") (by simp [fa]))
    f_law_amounts := c.def_ 52 (d := d__law_amounts) rfl
    g_law_thirsty := He.glo_ok X G (c.facts (f := .glo "_law_thirsty") (by simp [fa]))
    f_law_thirsty := c.def_ 53 (d := d__law_thirsty) rfl
    g_law_steps := He.glo_ok X G (c.facts (f := .glo "_law_steps") (by simp [fa]))
    f_law_steps := c.def_ 54 (d := d__law_steps) rfl
    g_law_below := He.glo_ok X G (c.facts (f := .glo "_law_below") (by simp [fa]))
    f_law_below := c.def_ 55 (d := d__law_below) rfl
    g_law_there := He.glo_ok X G (c.facts (f := .glo "_law_there") (by simp [fa]))
    f_law_there := c.def_ 56 (d := d__law_there) rfl
    g_law_build := He.glo_ok X G (c.facts (f := .glo "_law_build") (by simp [fa]))
    f_law_build := c.def_ 57 (d := d__law_build) rfl
    g_law_lists := He.glo_ok X G (c.facts (f := .glo "_law_lists") (by simp [fa]))
    f_law_lists := c.def_ 58 (d := d__law_lists) rfl
    g_law_refused := He.glo_ok X G (c.facts (f := .glo "_law_refused") (by simp [fa]))
    f_law_refused := c.def_ 59 (d := d__law_refused) rfl
    g_law_looks := He.glo_ok X G (c.facts (f := .glo "_law_looks") (by simp [fa]))
    f_law_looks := c.def_ 60 (d := d__law_looks) rfl
    g_law_leads := He.glo_ok X G (c.facts (f := .glo "_law_leads") (by simp [fa]))
    f_law_leads := c.def_ 61 (d := d__law_leads) rfl
    g_law_above := He.glo_ok X G (c.facts (f := .glo "_law_above") (by simp [fa]))
    f_law_above := c.def_ 62 (d := d__law_above) rfl
    gWORDS := He.glo_ok X G (c.facts (f := .glo "WORDS") (by simp [fa]))
    tWORDS := fun H => He.tupB_ok (vs := [.str "take", .str "leave"]) X13 H
    gHOLDS := He.glo_ok X G (c.facts (f := .glo "HOLDS") (by simp [fa]))
    tHOLDS := fun H => He.tupB_ok (vs := [.str "fast", .str "loose", .str "unsure"]) X14 H
    cLETTERS := He.str_ok X G (c.facts (f := .str "LETTERS" "abcdefghijklmnopqrstuvwxyz") (by simp [fa]))
    cLONGEST_NAME := He.int_ok X G (c.facts (f := .int "LONGEST_NAME" 12) (by simp [fa]))
    crd := creadB_ok X15
    vNAMES := cvalB_ok X16
    vTHIRSTS := cvalB_ok X17
    vFACTS := cvalB_ok X18
    vDIPS := cvalB_ok X19
    kit := fun x hx y hy => of_decide_eq_true (List.all_eq_true.mp (List.all_eq_true.mp X20 x hx) y hy)
    kitV := fun x hx => of_decide_eq_true (List.all_eq_true.mp X21 x hx)
    exm := fun x hx y hy => of_decide_eq_true (List.all_eq_true.mp (List.all_eq_true.mp X22 x hx) y hy) }
theorem facts {P : Program} {w : World} {K : PySem.W.Frag} {h : Heap} {mg : Str → Option Value} {f : Addr} (X : K.In h) (G : h.Ns mainGlobals mg) (hfa : mg ("law" : Str) = some (.ref f)) (c : He.SaysD fa fn K) (x : xB K = true) (y : fxO fx K = fxV fx) :
    ∃ fd : FuncData, (∀ (s : Shared) (v : Value), BindsTo s fd ⟨[v], []⟩ [("_law_script", v)]) ∧ ∀ base : Heap, K.In base → base.Ns mainGlobals mg → FnOk P w K mg base CX0 10 f fd ["_law_script"] (spLaw K) := by
  obtain ⟨fd, F⟩ := c.def_ 63 (d := d_law) rfl
  have e := hfa.symm.trans (He.glo_ok X G (c.facts (f := .glo "law") (by simp [fa])))
  cases e
  have b := FunD.bindsA (ps := ["_law_script"]) F fun _ _ _ _ _ _ us hl => match us, hl with | [_], _ => rfl
  exact ⟨fd, fun s v => b s [v] rfl, fun base _ _ => ok_law (txt X G c x y) F⟩
end K18
open PySem PySem.W PySem.Calls PyProof.Rows
theorem PySem.Challenge.cw_tiredpots_k18_whole_order_holds : PySem.Challenge.rw_tiredpots_k18_whole_order.Holds := by
  w_on; o_law
  refine HandSHeadRun.head_any (r := OpenLaw.row PySem.Challenge.rw_tiredpots_k18_whole_order) (q := view (OpenLaw.row PySem.Challenge.rw_tiredpots_k18_whole_order).prog [58]) (H := K18.Hd.hk) (ob := K18.Hd.ob) (M := 6000) (loose := K18.Hd.loose) (d := HandSHeadRun.topDef (OpenLaw.row PySem.Challenge.rw_tiredpots_k18_whole_order).prog 58) (kwd := []) K18.Hd.ob_eq
    (by kernel_rfl) (fun s => by kernel_rfl) K18.Hd.run (by kernel_rfl) (by kernel_rfl) (by kernel_rfl) (by rfl) (by first | assumption | decide +kernel) (by decide +kernel) ⟨rfl, rfl, rfl, rfl, rfl, by decide +kernel⟩ ?hw ?hc
  case hw => w_witness2
  case hc =>
    refine L2.walk_ofE (l := PySem.Challenge.rw_tiredpots_k18_whole_order) (n := 63) (k := 10) (x := "_law_script") (CX := L2.CX0) rfl (by decide) (by kernel_rfl) ⟨rfl, by decide, by decide⟩ ?F (fun _ _ _ _ z => z)
    intro w mg fa h Y G hmg0
    obtain ⟨K, KX, c, x, y⟩ := Y
    have hmg : mg ("law" : PySem.Str) = some (.ref fa) := by
      have e : (HandSHeadRun.topDef (OpenLaw.row PySem.Challenge.rw_tiredpots_k18_whole_order).prog 58).name = ("law" : PySem.Str) := by kernel_rfl
      rw [← e]
      exact hmg0
    obtain ⟨fd, hb, hF⟩ := K18.facts (P := (PySem.Challenge.rw_tiredpots_k18_whole_order).prog) (w := w) KX G hmg c x y
    exact ⟨K, fd, K18.spLaw K, KX, hb, fun H a ns hl _ hS => ⟨a, ns, rfl, hS, hl, fun _ => rfl⟩, hF⟩
