import PyProof.Rows.All
import Wide.All
import OpenK.AllK
import Wide.FinOn
import KE.KStateDown
import HandS.ForMost
import HandS.ForExc
import HandS.Wide
import HandS.Defaults
import HandS.HeadHook1
import HandS.Evl
import HandS.Steps
import HandS.HeadHook2
import HandS.TryMany
import HandS.ExcField
import HandS.ExcIs
import HandS.ExcInit
import HandS.HotCalls
import HandS.IsInst
import HandS.Deep
import HandS.ListItems
import HandS.ClsMeth
import HandS.MakeKwOnly
import HandS.Star
import HandS.Property
import HandS.SortKw
import KE.DatumOrd
import HandS.IterVal
import HandS.IterNext
import KE.KOwnIter
import OpenK.KOps
import KE.KParD
import HandS.Walk
import HandS.SetKeys
import HandS.Style
import HandS.DictComp
import HandS.OwnIter
import HandS.FltList
import KE.KDictDisplayH
import PyProof.DictMoreH
import PyProof.DictFindH
import HandS.Comp
import HandS.Conv
import HandS.TupLen
import OpenK.KMeth
import PyProof.WalksMore
import PyProof.CollectIter
import KE.KUnpackStar
import PyProof.RulesMatchSeq
import PyProof.Rows.MatchSeqLen
import KE.GoesEnum
import HandS.More
import HandS.Dict
import HandS.Text
import HandS.HeadHook3
import HandS.Codes
import KE.SortKeyHeap
import HandS.Lambda
import HandS.DictTup
import KE.KEqDict
import PyProof.CollectWalk
import KE.KOpsOwn
import PyProof.NoPylong
import HandS.WordsExc
import HandS.Head0
import HandS.Head1
import HandS.Head2
import HandS.HeadEnd
import HandS.HeadHook4
import HandS.HeadWalk
import HandS.Strs
import PySem.Challenge.RW_tiredpots_k03_parts_of_forms
set_option Elab.async false
set_option linter.all false
set_option maxRecDepth 100000
set_option maxHeartbeats 0
namespace Tp
open PySem PySem.Spec PyProof.Rows L2 He
/-! ### a def of the module without defaults: its promise, ready to be called -/
structure Df (P : Program) (w : World) (K : PySem.W.Frag) (mg : Str → Option Value) (base : Heap) (CX : CXT) (k : Nat) (x : Str) (ps : List Str) (sp : Sp) : Prop where
  mg_ : mg x = some (.ref (ga K x))
  kp : PySem.W.keepIn K (.ref (ga K x)) = true
  ex : ∃ fd, FnOk P w K mg base CX k (ga K x) fd ps sp ∧ Binds K fd ps []
abbrev FnP (K : PySem.W.Frag) (x : Str) (st : Stmt) (fd : FuncData) : Prop := FunD K x x (defArgs st) (defBody st) (defScope st) [] [] (ga K x) fd
section
variable {P : Program} {w : World} {K : PySem.W.Frag} {mg : Str → Option Value} {base : Heap}
theorem Df.mk' {CX : CXT} {k : Nat} {x : Str} {ps : List Str} {sp : Sp} {st : Stmt} (hm : mg x = some (.ref (ga K x))) (hF : ∃ fd, FnP K x st fd)
    (hb : ∀ (kV doc pm : Value) (an : Option Addr) (cdv ct : Value) (us : List Value), us.length = ps.length → bindArgs (PySem.W.fnOf x x (defArgs st) (defBody st) (defScope st) .none kV doc pm an cdv ct) ⟨us, []⟩ = pure (ps.zip us))
    (h : ∀ fd, FnP K x st fd → FnOk P w K mg base CX k (ga K x) fd ps sp) : Df P w K mg base CX k x ps sp := by
  obtain ⟨fd, F⟩ := hF
  exact ⟨hm, F.kp, fd, h fd F, F.bindsN hb⟩
end
section
variable {X : Cx} {CX : CXT} {k : Nat} {x : Str} {ps : List Str} {sp : Sp} {E : XK} {e : Expr} {es : List Expr} {t : TA} {p pos : Pos}
theorem pe_cd (D : Df X.prog X.w X.K X.mg X.base CX k x ps sp) (hr : Room k X.A) (hg : Gl X x) (hx : Passes CX X E) (ha : PA X (e :: es) t) (hdb : (x == ("__debug__" : Str)) = false := by decide)
    (he : starEach (e :: es) X.env = (false, eval e X.env) :: starEach es X.env := by rfl) (hpl : (backTo pos (starEach es X.env)).any (·.1) = false := by rfl) : PE X (.Call (.Name x p) (e :: es) [] pos) (tCall sp [] E t) := by
  obtain ⟨fd, F, b⟩ := D.ex
  exact pe_call F hr hg D.mg_ D.kp b .nil hx ha hdb he hpl
end
theorem hu65_of {A : Around} {k : Nat} (hr : Room k A) : A.units + 65 < cLine := by have := hr.un; omega
/-! ### heaps -/
theorem upd_self {H : Hp} {a : Addr} {o : HO} (h : H a = some o) : upd H a o = H := by
  funext b; unfold upd; split
  · rename_i e; rw [e, h]
  · rfl
theorem upd_none_iff {H : Hp} {a b : Addr} {o : HO} : upd H a o b = none ↔ b ≠ a ∧ H b = none := by
  constructor
  · intro h
    by_cases e : b = a
    · rw [e, upd_same] at h; cases h
    · rw [upd_ne e] at h; exact ⟨e, h⟩
  · rintro ⟨e, h⟩
    rw [upd_ne e]; exact h
/-- what stands in both is the same -/
theorem Same.upd {H H' : Hp} {a : Addr} {o : HO} (s : Same H H') (h : H a = none) : Same H (L2.upd H' a o) := fun b u e => by
  rw [upd_ne (ne_of_none e h)]
  exact s b u e
/-! ### tests and joins -/
theorem ifd {p : Prop} [Decidable p] {A B : Prop} (h1 : p → A) (h2 : ¬ p → B) : if decide p = true then A else B := by
  by_cases h : p
  · rw [decide_eq_true h, if_pos rfl]; exact h1 h
  · rw [decide_eq_false h, if_neg Bool.false_ne_true]; exact h2 h
theorem ifb {b : Bool} {A B : Prop} (h1 : b = true → A) (h2 : b = false → B) : if b = true then A else B := by
  cases b with
  | true => exact h1 rfl
  | false => rw [if_neg Bool.false_ne_true]; exact h2 rfl
section
variable {σ : L2.St} {H : Hp} {ta tb : TE} {D : Ends} {t1 t2 : TS} {c t u : TT} {a b : Bool} {Q : VK}
theorem val_orV (h1 : Val ta σ H (.bl a)) (h2 : Val tb σ H (.bl b)) : Val (tOrV ta tb) σ H (.bl (a || b)) := by
  intro Q q
  refine h1 _ ⟨a, rfl, ?_⟩
  cases a with
  | true => exact q
  | false => rw [if_neg Bool.false_ne_true]; exact h2 _ q
theorem val_andV (h1 : Val ta σ H (.bl a)) (h2 : Val tb σ H (.bl b)) : Val (tAndV ta tb) σ H (.bl (a && b)) := by
  intro Q q
  refine h1 _ ⟨a, rfl, ?_⟩
  cases a with
  | true => exact h2 _ q
  | false => rw [if_neg Bool.false_ne_true]; exact q
theorem val_notV (h1 : Val ta σ H (.bl a)) : Val (tNotV ta) σ H (.bl (!a)) := fun Q q => h1 _ ⟨a, rfl, q⟩
theorem ans_or2 {b1 b2 : Bool} (h1 : Ans t σ H b1) (h2 : Ans u σ H b2) : Ans (tOr t u) σ H (b1 || b2) := by
  cases b1 with
  | true => exact ans_or1 h1
  | false => exact ans_or h1 h2
theorem st_if {b : Bool} (h : Ans c σ H b) (h1 : b = true → t1 D σ H) (h2 : b = false → t2 D σ H) : tIfS c t1 t2 D σ H := by
  refine h _ ?_
  show (if b = true then t1 D σ H else t2 D σ H)
  exact ifb h1 h2
theorem val_int {f : Int → Int → V} {x y : Int} (ha : Val ta σ H (.int x)) (hb : Val tb σ H (.int y)) : Val (tOp (rI0 f) ta tb) σ H (f x y) := val_op ha hb fun _ q => ⟨_, _, rfl, rfl, q⟩
theorem val_intC {C : Int → Int → Prop} {f : Int → Int → V} {x y : Int} (ha : Val ta σ H (.int x)) (hb : Val tb σ H (.int y)) (h : C x y) : Val (tOp (rI C f) ta tb) σ H (f x y) := val_op ha hb fun _ q => ⟨_, _, rfl, rfl, h, q⟩
theorem val_ixL {K : PySem.W.Frag} {p : Addr} {xs : List V} {i : Int} {v : V} (ha : Val ta σ H (.ref p)) (hb : Val tb σ H (.int i)) (h : SqL K H p xs) (e : atI xs i = some v) : Val (tOp (rIxL K) ta tb) σ H v := val_op ha hb fun _ q => ⟨_, _, _, _, rfl, rfl, h, e, q⟩
theorem val_toInt {x : Int} (ha : Val ta σ H (.int x)) : Val (tCB (fun xs H Q => (∃ i, xs = [V.int i] ∧ Q (V.int i) H) ∨ ∃ k, xs = [V.bl k] ∧ Q (V.int (if k then 1 else 0)) H) (tCons ta tNil)) σ H (.int x) := fun Q q => ha _ (Or.inl ⟨x, rfl, q⟩)
end
section
variable {σ : L2.St} {H : Hp} {ta tb te : TE} {D : Ends} {t1 t2 tz : TS} {c : TT} {b : Bool} {v : V} {i : Nat}
theorem sq_set (h : Val te σ H v) (k : tz D (σ.set i (some v)) H) : tSeq (tAsg te (gName i)) tz D σ H := h _ k
theorem sq_when (h : Ans c σ H b) (h1 : b = true → t1 { D with nx := tz D } σ H) (h2 : b = false → tz D σ H) : tSeq (tIfS c t1 tNext) tz D σ H := st_if (D := { D with nx := tz D }) h h1 h2
theorem sq_setL {l : Addr} {xs : List V} {k : Int} {j : Nat} (hl : H l = some (.lst xs)) (h : Val te σ H v) (ho : Val ta σ H (.ref l)) (hi : Val tb σ H (.int k)) (hj : ixN xs.length k = some j) (q : tz D σ (upd H l (.lst (xs.set j v)))) : tSeq (tAsg te (gSub ta tb rSetL)) tz D σ H :=
  h _ (ho _ (hi _ ⟨l, xs, k, j, rfl, rfl, hl, hj, q⟩))
theorem st_setL {l : Addr} {xs : List V} {k : Int} {j : Nat} (hl : H l = some (.lst xs)) (h : Val te σ H v) (ho : Val ta σ H (.ref l)) (hi : Val tb σ H (.int k)) (hj : ixN xs.length k = some j) (q : D.nx σ (upd H l (.lst (xs.set j v)))) : tAsg te (gSub ta tb rSetL) D σ H :=
  h _ (ho _ (hi _ ⟨l, xs, k, j, rfl, rfl, hl, hj, q⟩))
theorem tyes {A B : Hp → Prop} (h : A H) : tYes σ H fun b H3 => if b = true then A H3 else B H3 := by
  show (if true = true then A H else B H)
  rw [if_pos rfl]; exact h
theorem val_len {K : PySem.W.Frag} {p : Addr} {xs : List V} (ha : Val ta σ H (.ref p)) (h : SqL K H p xs) : Val (tCB (fun xs H Q => ∃ p ys, xs = [.ref p] ∧ (SqL K H p ys ∨ SqT K H p ys) ∧ Q (.int ys.length) H) (tCons ta tNil)) σ H (.int (xs.length : Int)) := fun _ q => ha _ ⟨p, xs, rfl, .inl h, q⟩
theorem val_abs {x : Int} (ha : Val ta σ H (.int x)) : Val (tCB (fun xs H Q => ∃ i, xs = [.int i] ∧ Q (.int (if i < 0 then -i else i)) H) (tCons ta tNil)) σ H (.int (if x < 0 then -x else x)) := fun _ q => ha _ ⟨x, rfl, q⟩
theorem ans_int {f : Int → Int → Bool} {x y : Int} (ha : Val ta σ H (.int x)) (hb : Val tb σ H (.int y)) : Ans (tTest (tOp (rI0 fun i j => .bl (f i j)) ta tb)) σ H (f x y) := ans_cmp ha hb fun _ q => ⟨_, _, rfl, rfl, q⟩
end
/-! ### the source of draws: a list of cells at L, three numbers -/
structure SrcOk (cells : List Int) (i k g : Int) : Prop where
  i0 : 0 ≤ i
  k0 : 0 ≤ k
  g0 : 0 ≤ g
  len : cells.length ≤ 63
/-- the source object -/
abbrev srcO (L : Addr) (i k g : Int) : HO := .lst [.ref L, .int i, .int k, .int g]
/-- _law_draw(source, many): a number below many -/
def spDraw : Sp := fun vs H Q _ => ∃ (S L : Addr) (cells : List Int) (i k g many : Int), vs = [.ref S, .int many] ∧ H S = some (srcO L i k g) ∧ H L = some (.lst (cells.map V.int)) ∧ SrcOk cells i k g ∧ 0 < many ∧ many < 2 ^ 200 ∧
  ∀ n i' k' g', 0 ≤ n → n < many → SrcOk cells i' k' g' → Q (.int n) (upd H S (srcO L i' k' g'))
theorem cell_at {cells : List Int} {i : Int} (h0 : 0 ≤ i) (h : i < (cells.length : Int)) : ∃ c, atI (cells.map V.int) i = some (.int c) := by
  obtain ⟨j, rfl⟩ := Int.eq_ofNat_of_zero_le h0
  have hi : j < cells.length := by omega
  exact ⟨cells[j], atI_nat (by rw [List.getElem?_map, List.getElem?_eq_getElem hi]; rfl)⟩
theorem pow18 : (10 : Int) ^ (18 : Int).toNat = 1000000000000000000 := by decide +kernel
end Tp
namespace Tp
open PySem PySem.Spec PyProof.Rows L2
/-- what the clauses wish of an exception of the body, one after the other; a slot where the clause has a name -/
def wCls (K : PySem.W.Frag) (Wout : WX) (D : Ends) : List (Value × Option Nat × (Addr → Value → Option Addr → TS)) → WX
  | [] => Wout
  | (c, none, ts) :: r => fun cls d σ H => ∃ b, PySem.W.exmOne K cls c = some b ∧ (b = true → ∀ a, H a = none → ts a cls d D σ H) ∧ (b = false → wCls K Wout D r cls d σ H)
  | (c, some i, ts) :: r => fun cls d σ H => ∃ b, PySem.W.exmOne K cls c = some b ∧
      (b = true → ∀ a, H a = none → ts a cls d { nx := fun σ' H' => D.nx (σ'.set i none) H', rt := D.rt, bk := fun σ' H' => D.bk (σ'.set i none) H', ct := fun σ' H' => D.ct (σ'.set i none) H' } (σ.set i (some (.ref a))) H) ∧
      (b = false → wCls K Wout D r cls d σ H)
inductive ClsOk (X : Cx) : List ExceptHandler → List (Value × Option Nat × (Addr → Value → Option Addr → TS)) → Prop
  | nil : ClsOk X [] []
  | cons {x : Str} {c : Value} {ts : Addr → Value → Option Addr → TS} {b₀ : Stmt} {suite : List Stmt} {np pos' : Pos} {hds : List ExceptHandler} {l : List (Value × Option Nat × (Addr → Value → Option Addr → TS))} (hc : Names X x c)
      (hsu : ∀ (a : Addr) (oe : Obj) (cls : Value) (d : Option Addr) (pn : List (Addr × Obj)), Zc cls d oe → (∃ vs, oe.data = .fields vs) → PSs (X.suite a ((a, oe) :: pn)) (b₀ :: suite) (ts a cls d)) (r : ClsOk X hds l) :
      ClsOk X (.ExceptHandler (some (.Name x np)) none (b₀ :: suite) pos' :: hds) ((c, none, ts) :: l)
  | as {x n : Str} {i : Nat} {c : Value} {ts : Addr → Value → Option Addr → TS} {b₀ : Stmt} {suite : List Stmt} {np pos' : Pos} {hds : List ExceptHandler} {l : List (Value × Option Nat × (Addr → Value → Option Addr → TS))} (hN : X.N.Nodup) (hi : X.N[i]? = some n) (hln : X.env.kindOf n = some .local) (hc : Names X x c)
      (hsu : ∀ (a : Addr) (oe : Obj) (cls : Value) (d : Option Addr) (pn : List (Addr × Obj)), Zc cls d oe → (∃ vs, oe.data = .fields vs) → PSs (X.suite a ((a, oe) :: pn)) (b₀ :: suite) (ts a cls d)) (r : ClsOk X hds l) :
      ClsOk X (.ExceptHandler (some (.Name x np)) (some n) (b₀ :: suite) pos' :: hds) ((c, some i, ts) :: l)
section
variable {X : Cx} {body : List Stmt} {h₀ : ExceptHandler} {hds : List ExceptHandler} {l : List (Value × Option Nat × (Addr → Value → Option Addr → TS))} {pos : Pos} {tb : WX → TS} {Wout : WX}
theorem ps_try_cls (hs : X.stack = X.env :: X.outer) (hf : X.env.frame = some X.env.locals) (tk : Takes X Wout)
    (hb : ∀ (W : WX) (pn : List (Addr × Obj)) (xe : Value → Shared → Prop), Takes (X.tr pn xe) W → PassesOwn (model X.prog X.w) X.A X.env xe → PSs (X.tr pn xe) body (tb W))
    (hh : ClsOk X (h₀ :: hds) l) : PS X (.Try body (h₀ :: hds) [] [] pos) (fun D σ H => tb (wCls X.K Wout D l) D σ H) := by
  refine ⟨fun pins s σ H D I h => ?_⟩
  have ok := I.ok
  have hfr : X.A.frames = some (X.env :: X.outer) := by rw [ok.frames, hs]
  refine wpAny_Try_except ?_
  refine wpAny_mono ((hb (wCls X.K Wout D l) (X.pn ++ pins) (fun e s₁ => wpAny (model X.prog X.w) X.A (noteFrame e X.env) (fun _ s₂ => wpAny (model X.prog X.w) X.A (setFlight e none) (fun _ s₃ =>
    wpAny (model X.prog X.w) X.A (handleBy e X.env (h₀ :: hds)) (SP X pins D) X.xe s₃) X.xe s₂) X.xe s₁) (fun u s' xx => ?_) PassesOwn.looking).run [] s σ H D (I.toTry _) h) (fun f s1 hsp => ?_) (fun e s1 he => he)
  · obtain ⟨a, B, sI, pins', σ', H', cls, d, rfl, J', nb, up, sky, na, os, ag, w⟩ := xx
    have J : Inv X pins σ' H' sI := J'.ofTry ok
    have sky' : Sky B (X.env :: X.outer) a (Zc cls d) X.env.locals s'.heap := by rw [← hs]; exact sky
    show wpAny (model X.prog X.w) X.A (noteFrame (.ref a) X.env) _ _ _
    refine Sky.land Zc.steady hfr hf sky' fun h3 fl3 up3 => ?_
    have J3 : Inv X pins σ' H' { s' with heap := h3 } := J.landed nb fl3.1 (up.trans up3) os ag
    obtain ⟨oe3, vs3, he3, hz3, hd3⟩ := fl3.there
    have notFr : ∀ {h : Heap} {o : Obj} {vs : Array Value}, h.FunFrames B (X.env :: X.outer) → h.get? a = some o → o.data = .fields vs → a ∉ frs (X.env :: X.outer) := fun {h o vs} ff e dd hm => by
      obtain ⟨_, o', e', hnf⟩ := ff.mem hm
      rw [e] at e'; cases e'
      exact hnf _ dd
    have nfr := notFr fl3.2.2.1 he3 hd3
    have nL : a ≠ X.env.locals := fun z => nfr (List.mem_filterMap.mpr ⟨X.env, List.mem_cons_self, by rw [hf, z]⟩)
    have nF : a ∉ X.fs := fun hm => by
      obtain ⟨e, he, q⟩ := List.mem_filterMap.mp hm
      exact nfr (List.mem_filterMap.mpr ⟨e, List.mem_cons_of_mem _ he, q⟩)
    have S3 := J3.suite he3 hd3 na nL nF
    have LT : PySem.W.Looks (model X.prog X.w) h3 (typeOf (.ref a)) cls := fun A Q E s k q => wpAny_typeOf_ref (k _ _ he3) (by rw [hz3.1]; exact q)
    have test : ∀ {x : Str} {np : Pos} {c : Value} (hc : Names X x c) {Q : Value → Shared → Prop} {E : Value → Shared → Prop}, Q c { s' with heap := h3 } → wpAny (model X.prog X.w) (X.A.mark (some (.ref a))) (eval (.Name x np) X.env) Q E { s' with heap := h3 } := fun {x np c} hc {Q E} q => by
      obtain ⟨hg, hdbg, hm | ⟨hm, hv, hnn⟩⟩ := hc
      · exact ld_glob (X := X.suite a ((a, oe3) :: (X.pn ++ pins))) S3 hg hm q hdbg
      · exact ld_blt (X := X.suite a ((a, oe3) :: (X.pn ++ pins))) S3 hg hm hv q hnn hdbg
    have go : ∀ {hds' : List ExceptHandler} {l' : List (Value × Option Nat × (Addr → Value → Option Addr → TS))}, ClsOk X hds' l' → wCls X.K Wout D l' cls d σ' H' →
        wpAny (model X.prog X.w) X.A (handleBy (.ref a) X.env hds') (SP X pins D) X.xe { s' with heap := h3 } := by
      intro hds' l' hk
      induction hk with
      | nil =>
        intro w
        refine wpAny_handleBy_nil ?_
        obtain ⟨k1, k2, k3, oe, vs, T, oT, ts', he, hz, hd, h1, hr⟩ := id fl3
        unfold PySem.passOn
        refine wpAny_bind (wpAny_field he hd h1 ?_)
        rw [if_neg (show ¬ ((Value.ref T == Value.none) = true) from by simp)]
        have fin : wpAny (model X.prog X.w) X.A (setFlight (.ref a) X.env.frame) (fun _ s4 => wpAny (model X.prog X.w) X.A (throw (.ref a) : Sem Flow) (SP X pins D) X.xe s4) X.xe { s' with heap := h3 } := by
          rw [hf]
          refine HandSPX.setFlight_upZ fl3 fun h4 hh4 up4 => wpAny_throw (tk _ _ ?_)
          exact ⟨a, B, sI, pins, σ', H', cls, d, rfl, J, nb, (up.trans up3).trans up4, .inr (.inr (by rw [hs]; exact hh4)), na, os, ag, w⟩
        first
          | exact wpAny_bind (wpAny_pure (wpAny_bind fin))
          | exact wpAny_bind fin
      | @cons x c ts b₀ suite np pos' hds2 l2 hc hsu r ih =>
        intro w
        obtain ⟨b, hb1, hyes, hno⟩ := w
        refine wpAny_handleBy_cons (codeAny_handlers_test ?_) (by intro q; cases q)
        have LM := PySem.W.exm_one (M := model X.prog X.w) (J3.kIn) LT hb1
        refine test hc (LM.here ?_)
        cases b with
        | true =>
          refine codeAny_handlers_suite ?_
          refine HandSPX.lands_againZ fl3 fun h4 fl4 up4 => ?_
          have J4 : Inv X pins σ' H' { s' with heap := h4 } := J.landed nb fl4.1 ((up.trans up3).trans up4) os ag
          obtain ⟨oe4, vs4, he4, hz4, hd4⟩ := fl4.there
          have S4 := J4.suite he4 hd4 na nL nF
          refine wpAny_mono ((hsu a oe4 cls d (X.pn ++ pins) hz4 ⟨_, hd4⟩).run [] _ _ H' _ S4 (hyes rfl a na)) (fun f s6 hsp => ?_) (fun _ _ z => False.elim z)
          cases f with
          | next =>
            obtain ⟨σ6, H6, S6, q6⟩ := hsp
            exact ⟨_, _, S6.unsuite ok, q6⟩
          | brk =>
            obtain ⟨σ6, H6, S6, q6⟩ := hsp
            exact ⟨_, _, S6.unsuite ok, q6⟩
          | cont =>
            obtain ⟨σ6, H6, S6, q6⟩ := hsp
            exact ⟨_, _, S6.unsuite ok, q6⟩
          | ret u =>
            obtain ⟨v6, σ6, H6, S6, r6, q6⟩ := hsp
            exact ⟨_, _, _, S6.unsuite ok, r6, q6⟩
        | false =>
          show wpAny _ X.A (handleBy (.ref a) X.env hds2) _ _ _
          exact ih (hno rfl)
      | @as x n i c ts b₀ suite np pos' hds2 l2 hN hi hln hc hsu r ih =>
        intro w
        obtain ⟨b, hb1, hyes, hno⟩ := w
        have hloc : Loc X.env.scope n := .inl hln
        refine wpAny_handleBy_cons (codeAny_handlers_test ?_) (by intro q; cases q)
        have LM := PySem.W.exm_one (M := model X.prog X.w) (J3.kIn) LT hb1
        refine test hc (LM.here ?_)
        cases b with
        | true =>
          refine codeAny_handlers_suite_as ?_
          refine HandSPX.lands_againZ fl3 fun h4 fl4 up4 => ?_
          have J4 : Inv X pins σ' H' { s' with heap := h4 } := J.landed nb fl4.1 ((up.trans up3).trans up4) os ag
          obtain ⟨oe4, vs4, he4, hz4, hd4⟩ := fl4.there
          have S4 := J4.suite he4 hd4 na nL nF
          refine store_ok (X := X.suite a ((a, oe4) :: (X.pn ++ pins))) (v := .ref a) S4 hN hi hloc rfl (fun s5 S5 => ?_) (.inr hln)
          refine wpAny_mono ((hsu a oe4 cls d (X.pn ++ pins) hz4 ⟨_, hd4⟩).run [] s5 _ H' _ S5 (hyes rfl a na)) (fun f s6 hsp => ?_) (fun _ _ z => False.elim z)
          have end_ : ∀ {σ6 : L2.St} {H6 : Hp} {Q : Shared → Prop}, Inv (X.suite a ((a, oe4) :: (X.pn ++ pins))) [] σ6 H6 s6 → (∀ s7, Inv X pins (σ6.set i none) H6 s7 → Q s7) →
              wpAny (model X.prog X.w) X.A (do bindName X.env n .none; unbindBehindTheSuite X.env n pos') (fun _ s7 => Q s7) X.xe s6 := fun {σ6 H6 Q} S6 hq => gone_ok (S6.unsuite ok) hN hi hln hq
          cases f with
          | next =>
            obtain ⟨σ6, H6, S6, q6⟩ := hsp
            exact end_ S6 fun s7 J7 => ⟨_, _, J7, q6⟩
          | brk =>
            obtain ⟨σ6, H6, S6, q6⟩ := hsp
            exact end_ S6 fun s7 J7 => ⟨_, _, J7, q6⟩
          | cont =>
            obtain ⟨σ6, H6, S6, q6⟩ := hsp
            exact end_ S6 fun s7 J7 => ⟨_, _, J7, q6⟩
          | ret u =>
            obtain ⟨v6, σ6, H6, S6, r6, q6⟩ := hsp
            exact end_ S6 fun s7 J7 => ⟨_, _, _, J7, r6, q6⟩
        | false =>
          show wpAny _ X.A (handleBy (.ref a) X.env hds2) _ _ _
          exact ih (hno rfl)
    exact go hh w
  · cases f with
    | next =>
      obtain ⟨σ', H', J', q⟩ := hsp
      exact wpAny_execs_nil ⟨σ', H', J'.ofTry ok, q⟩
    | brk =>
      obtain ⟨σ', H', J', q⟩ := hsp
      exact ⟨σ', H', J'.ofTry ok, q⟩
    | cont =>
      obtain ⟨σ', H', J', q⟩ := hsp
      exact ⟨σ', H', J'.ofTry ok, q⟩
    | ret u =>
      obtain ⟨v, σ', H', J', r, q⟩ := hsp
      exact ⟨v, σ', H', J'.ofTry ok, r, q⟩
end
end Tp
namespace Tp
open PySem PySem.Spec PySem.Calls PyProof.Rows PySem.W
section
variable {prog : Program} {w : World} {A : Around} {E : Value → Shared → Prop} {s : Shared} {K : Frag} {x D : Addr} {ox : Obj} {od : Option Obj}
theorem find_data {C : Addr} {name : Str} {a g : Value} (hc : (clsIn K C).isSome = true) (ha : findIn K (.ref C) name = some (some a)) (hg : specialIn K a "__get__" = some (some g)) (ht : takesIn K a = some true) : findObj K C od name = some (.bind g a) := by
  obtain ⟨cd, hc⟩ := Option.isSome_iff_exists.mp hc
  unfold findObj
  rw [hc, Option.bind_some, ha, Option.bind_some]
  simp [hg, ht]
theorem cls_of_exc {Q : Option Value → Shared → Prop} (hga : findIn K (.ref D) "__getattribute__" = some (some (.builtin "BaseException.__getattribute__"))) (hgt : findIn K (.ref D) "__getattr__" = some none) (hsub : subIn K (.ref D) (.type "BaseException") = some true)
    (hdct : hasDictIn K D = true) (ha : findIn K (.ref D) "__class__" = some (some (.builtin "object.__class__")))
    (hn : specialIn K (.builtin "object.__class__") "__get__" = some (some (.builtin "getset_descriptor.__get__"))) (htk : takesIn K (.builtin "object.__class__") = some true) (hm : mroIn K D (.type "object") = some true)
    (X : K.In s.heap) (I : InstAt s.heap x ox D od) (h : Q (some (.ref D)) { s with toks := s.toks + 1 }) : wpAny (model prog w) A (getAttr? (.ref x) "__class__") Q E s := by
  have hf : findObj K D od "__class__" = some (.bind (.builtin "getset_descriptor.__get__") (.builtin "object.__class__")) := find_data (by obtain ⟨cd, hc, _⟩ := any_some hdct; rw [hc]; rfl) ha hn htk
  obtain ⟨hp, g, d, t, os⟩ := s
  have L0 := I.type (M := model prog w)
  have L1 := looks_findIn (M := model prog w) X hga
  have L2 := looks_findIn (M := model prog w) X hgt
  have L3 := looks_find (M := model prog w) X I hf
  have sub : Looks (model prog w) hp (isInstance (.ref x) (.type "BaseException")) true := L0.andThen (looks_subIn X hsub)
  have hx0 : (false && onTheHeap (Value.builtin "BaseException.__getattribute__")) = false := rfl
  have hx2 : (Value.builtin "BaseException.__getattribute__" == Value.builtin "object.__getattribute__") = false := by decide +kernel
  have hx1 : (onTheHeap (Value.ref D) && Value.builtin "BaseException.__getattribute__" == Value.builtin "object.__getattribute__") = false := by rw [hx2]; rfl
  unfold getAttr? getAttrBy? getAttrBy
  refine wpAny_bind (wpAny_mkText (wpAny_bind (wpAny_attempt (wpAny_holding (wpAny_bind (L0.at (wpAny_bind (L1.at ?_))))))))
  show wpAny _ _ (if (onTheHeap (Value.ref D) && Value.builtin "BaseException.__getattribute__" == Value.builtin "object.__getattribute__") = true then _ else _) _ _ _
  rw [hx1, if_neg Bool.false_ne_true]
  unfold getAttrByItsOwn hookBefore
  refine wpAny_bind ?_
  rw [if_pos (show onTheHeap (Value.ref D) = true from rfl)]
  refine L2.at ?_
  refine wpAny_bind (wpAny_attempt (wpAny_holding ?_))
  unfold callGetattribute
  rw [hx0, if_neg Bool.false_ne_true]
  unfold boundAndCalled
  rw [PySem.F.excAttr_ValueError.ga.bind (.ref x)]
  refine wpAny_bind (wpAny_pure ?_)
  show wpAny _ _ (call (.builtin "BaseException.__getattribute__") [.ref x, .str "__class__" t]) _ _ _
  refine wpAny_call (codeAny_call_builtin PySem.F.excAttr_ValueError.ga.plain PySem.F.entry_bexc_ga ?_)
  refine @check_slot (model prog w) _ _ ⟨hp, g, d, t + 1, os⟩ "BaseException.__getattribute__" "BaseException" "__getattribute__" (.ref x) [.str "__class__" t] [] _ (by decide +kernel) (by decide +kernel) sub (PySem.F.args_bexc_ga (.ref x) (.str "__class__" t)) ?_
  unfold Builtin.«object.__getattribute__»
  refine wpAny_bind (wpAny_of_eq (a := ((Value.ref x : Value), [Value.str "__class__" t])) (by first | rfl | (simp only [slotArgs]; rfl)) ?_)
  refine wpAny_bind (wpAny_pure (wpAny_bind (L0.at (wpAny_bind (L3.at ?_)))))
  show wpAny _ _ (holding [Value.builtin "object.__class__"] (call (.builtin "getset_descriptor.__get__") [.builtin "object.__class__", .ref x, .ref D]) >>= ret) _ _ _
  refine wpAny_bind (wpAny_holding (wpAny_call (class_get (s := ⟨hp, g, d, t + 1, os⟩) (ox := ox) (od := od) X I hm ?_)))
  refine wpAny_pure ?_
  show wpAny _ _ (handedOut (.ref D)) _ _ _
  rw [handedOut_of (v := .ref D) rfl]
  first
    | exact wpAny_pure (wpAny_pure h)
    | exact wpAny_pure h
    | exact wpAny_pure (wpAny_bind (wpAny_pure (wpAny_pure h)))
theorem kitx_excO (hga : findIn K (.ref D) "__getattribute__" = some (some (.builtin "BaseException.__getattribute__"))) (hgt : findIn K (.ref D) "__getattr__" = some none) (hsub : subIn K (.ref D) (.type "BaseException") = some true) (hdct : hasDictIn K D = true) (ha : findIn K (.ref D) "__class__" = some (some (.builtin "object.__class__")))
    (hn : specialIn K (.builtin "object.__class__") "__get__" = some (some (.builtin "getset_descriptor.__get__"))) (htk : takesIn K (.builtin "object.__class__") = some true) (hm : mroIn K D (.type "object") = some true) :
    KitX K (.ref x) (.ref D) (fun h => InstAt h x ox D od) where
  ty := fun _ _ _ I => I.type
  it := fun _ _ X _ => by
    obtain ⟨cdD, hcD, _⟩ := any_some hdct
    unfold clsIn at hcD
    split at hcD
    · rename_i c' d' cd' sl' ho
      intro A' Q' E' s' k q
      unfold isType loadHead
      exact wpAny_bind (wpAny_loadPart (k _ _ (X _ _ ho)) (wpAny_pure q))
    · cases hcD
  ne := fun h tp dd its n sl X htp => by
    obtain ⟨cdD, hcD, _⟩ := any_some hdct
    refine Bool.eq_false_iff.mpr fun q => ?_
    have e : D = tp := Value.ref.inj (beq_iff_eq.mp q)
    subst e
    unfold clsIn at hcD
    split at hcD
    · rename_i c' d' cd' sl' ho
      have z := (X _ _ ho).symm.trans htp
      cases z
    · cases hcD
  ca := fun X I k => cls_of_exc hga hgt hsub hdct ha hn htk hm X I k
end
end Tp
namespace Tp
open PySem PySem.Spec PyProof.Rows L2
/-- a pinned error: at a an object of class D with its dict at dd, which the abstract heap knows -/
theorem isX_core {X : Cx} {a D dd : Addr} {oe : Obj} {pins : List (Addr × Obj)} {s : Shared} {σ : L2.St} {H : Hp} {c : V} {cu cv : Value} {b : Bool} {Q : VK} {fs : List (Str × V)} (C : ExcC X.K D) (I : Inv X pins σ H s) (hp : s.heap.get? a = some oe) (hz : Zc (.ref D) (some dd) oe) (hf : ∃ vs, oe.data = .fields vs)
    (hd : H dd = some (.xd fs)) (rt : RelV c cu) (hcv : ∀ u, RelV c u → u = cv) (e : PySem.W.kitOne X.K (.ref D) cv = some b) (q : Q (.bl b) H) :
    wpAny (model X.prog X.w) X.A (call (.builtin "isinstance") [.ref a, cu]) (EP X pins σ Q) X.xe s := by
  have ec := hcv _ rt
  subst ec
  obtain ⟨vs, hv⟩ := hf
  have hx : ObjOk X.prog X.w H s.heap dd (.xd fs) := I.hok dd _ hd
  obtain ⟨mA, ⟨od, es, ep, ho, _⟩, _⟩ := hx
  have J : PySem.W.InstAt s.heap a oe D (some od) := by
    obtain ⟨oc, od', oda, osl⟩ := oe
    obtain ⟨h1, h2⟩ := hz
    dsimp only at h1 h2 hv
    subst h1 h2 hv
    exact ⟨hp, rfl, rfl, ho⟩
  exact PySem.W.kia_one (kitx_excO C.hg C.hk C.hs C.hd C.ha C.hn C.ht C.hm) I.kIn J e (fun z => nomatch z) fun tk => ⟨.bl b, H, I.kept (t' := tk) fun _ _ z => z, rfl, q⟩
end Tp
namespace Tp
open PySem PySem.Spec PyProof.Rows L2
/-! ### how heaps go on: all that was tracked stays but what stands at ms; tuples stay -/
structure Ext (ms : List Addr) (H H' : Hp) : Prop where
  keep : ∀ b o, H b = some o → b ∉ ms → H' b = some o
  tups : ∀ b xs, H b = some (.tup xs) → H' b = some (.tup xs)
section
variable {ms ns : List Addr} {H H1 H2 H' : Hp} {a p : Addr} {o u : HO}
theorem Ext.refl : Ext ms H H := ⟨fun _ _ h _ => h, fun _ _ h => h⟩
theorem Ext.trans (e : Ext ms H H1) (f : Ext ms H1 H2) : Ext ms H H2 := ⟨fun b o h n => f.keep b o (e.keep b o h n) n, fun b xs h => f.tups b xs (e.tups b xs h)⟩
theorem Ext.mono (e : Ext ms H H1) (h : ∀ b, b ∈ ms → b ∈ ns) : Ext ns H H1 := ⟨fun b o q n => e.keep b o q fun z => n (h b z), e.tups⟩
theorem Ext.nil (e : Ext [] H H1) : Ext ms H H1 := e.mono fun _ z => nomatch z
theorem Ext.new (h : H p = none) : Ext ms H (upd H p o) := ⟨fun b o q _ => by rw [upd_ne (ne_of_none q h)]; exact q, fun b xs q => by rw [upd_ne (ne_of_none q h)]; exact q⟩
theorem Ext.mut (e : Ext ms H H1) (hm : a ∈ ms) (h : ∀ xs, H a ≠ some (.tup xs)) : Ext ms H (upd H1 a o) := ⟨fun b o q n => by rw [upd_ne (fun z => n (by rw [z]; exact hm))]; exact e.keep b o q n, fun b xs q => by rw [upd_ne (fun z => h xs (by rw [← z]; exact q))]; exact e.tups b xs q⟩
/-- an object that H does not know may change -/
theorem Ext.fresh (e : Ext ms H H1) (h : H a = none) : Ext ms H (upd H1 a o) := ⟨fun b o q n => by rw [upd_ne (ne_of_none q h)]; exact e.keep b o q n, fun b xs q => by rw [upd_ne (ne_of_none q h)]; exact e.tups b xs q⟩
theorem Ext.same (e : Ext [] H H1) : Same H H1 := fun b o h => e.keep b o h (by simp)
theorem Ext.of (s : Same H H1) : Ext ms H H1 := ⟨fun b o h _ => s b o h, fun b xs h => s b _ h⟩
theorem Ext.none (e : Ext ms H H1) (h : H1 a = none) (hm : a ∉ ms) : H a = none := by
  cases q : H a with
  | none => rfl
  | some o => rw [e.keep a o q hm] at h; cases h
end
/-! ### data that never changes: None, bools, ints, texts, tuples of these -/
mutual
inductive Im (H : Hp) : V → PyData → Prop
  | non : Im H .non .none
  | bl (b : Bool) : Im H (.bl b) (.bool b)
  | int (i : Int) : Im H (.int i) (.int i)
  | str (x : Str) : Im H (.str x) (.str x)
  | tup {a : Addr} {xs : List V} {ds : List PyData} : H a = some (.tup xs) → ImAll H xs ds → Im H (.ref a) (.tuple ds)
inductive ImAll (H : Hp) : List V → List PyData → Prop
  | nil : ImAll H [] []
  | cons {v : V} {vs : List V} {d : PyData} {ds : List PyData} : Im H v d → ImAll H vs ds → ImAll H (v :: vs) (d :: ds)
end
mutual
theorem Im.ext {ms : List Addr} {H H' : Hp} (e : Ext ms H H') : ∀ {d : PyData} {v : V}, Im H v d → Im H' v d
  | _, _, .non => .non
  | _, _, .bl b => .bl b
  | _, _, .int i => .int i
  | _, _, .str x => .str x
  | _, _, .tup h a => .tup (e.tups _ _ h) (ImAll.ext e a)
theorem ImAll.ext {ms : List Addr} {H H' : Hp} (e : Ext ms H H') : ∀ {ds : List PyData} {vs : List V}, ImAll H vs ds → ImAll H' vs ds
  | _, _, .nil => .nil
  | _, _, .cons h t => .cons (Im.ext e h) (ImAll.ext e t)
end
mutual
theorem Im.dp {K : PySem.W.Frag} {H : Hp} : ∀ {d : PyData} {v : V}, Im H v d → Dp K H v d
  | _, _, .non => .non
  | _, _, .bl b => .bl b
  | _, _, .int i => .int i
  | _, _, .str x => .str x
  | _, _, .tup h a => .tup (SqT.of h) (ImAll.dp a)
theorem ImAll.dp {K : PySem.W.Frag} {H : Hp} : ∀ {ds : List PyData} {vs : List V}, ImAll H vs ds → DpAll K H vs ds
  | _, _, .nil => .nil
  | _, _, .cons h t => .cons (Im.dp h) (ImAll.dp t)
end
theorem ImAll.length {H : Hp} : ∀ {vs : List V} {ds : List PyData}, ImAll H vs ds → vs.length = ds.length
  | _, _, .nil => rfl
  | _, _, .cons _ t => congrArg Nat.succ t.length
theorem ImAll.append {H : Hp} : ∀ {vs ws : List V} {ds es : List PyData}, ImAll H vs ds → ImAll H ws es → ImAll H (vs ++ ws) (ds ++ es)
  | _, _, _, _, .nil, s => s
  | _, _, _, _, .cons r t, s => .cons r (t.append s)
theorem ImAll.get {H : Hp} : ∀ {vs : List V} {ds : List PyData} {i : Nat} {v : V}, ImAll H vs ds → vs[i]? = some v → ∃ d, ds[i]? = some d ∧ Im H v d
  | _, _, _, _, .nil, e => by simp at e
  | _, _, 0, _, .cons r _, e => by simp at e; subst e; exact ⟨_, rfl, r⟩
  | _, _, i + 1, v, .cons _ t, e => by
    obtain ⟨d, h1, h2⟩ := ImAll.get (i := i) (v := v) t (by simpa using e)
    exact ⟨d, by simpa using h1, h2⟩
theorem ImAll.getD {H : Hp} : ∀ {vs : List V} {ds : List PyData} {i : Nat} {d : PyData}, ImAll H vs ds → ds[i]? = some d → ∃ v, vs[i]? = some v ∧ Im H v d
  | _, _, _, _, .nil, e => by simp at e
  | _, _, 0, _, .cons r _, e => by simp at e; subst e; exact ⟨_, rfl, r⟩
  | _, _, i + 1, v, .cons _ t, e => by
    obtain ⟨d, h1, h2⟩ := ImAll.getD (i := i) t (by simpa using e)
    exact ⟨d, by simpa using h1, h2⟩
/-- data with texts that may stand in a program's data -/
abbrev okS (z : Str) : Prop := PyData.strOk z = true
abbrev okD (d : PyData) : Prop := d.canLay0 = true ∧ d.depth ≤ 8
theorem okD.shaped {d : PyData} (h : okD d) : SeqAt.shaped d = true := by
  show (d.canLay0 && decide (d.depth ≤ 64)) = true
  rw [h.1, decide_eq_true (by have := h.2; omega)] <;> rfl
theorem okD.eqv {d : PyData} (h : okD d) : PyData.eqv d d = true := SeqAt.eqv_refl d h.1
theorem okD.str {z : Str} (h : okS z) : okD (.str z) := ⟨by rw [PyData.canLay0]; exact h, by simp [PyData.depth]⟩
theorem okD.none : okD .none := ⟨by simp [PyData.canLay0], by simp [PyData.depth]⟩
theorem okD.int {i : Int} : okD (.int i) := ⟨by simp [PyData.canLay0], by simp [PyData.depth]⟩
theorem okD.bool {b : Bool} : okD (.bool b) := ⟨by simp [PyData.canLay0], by simp [PyData.depth]⟩
theorem canLayAll_iff : ∀ {ds : List PyData}, PyData.canLayAll0 ds = true ↔ ∀ d ∈ ds, d.canLay0 = true
  | [] => by simp [PyData.canLayAll0]
  | d :: ds => by rw [PyData.canLayAll0, Bool.and_eq_true, canLayAll_iff (ds := ds)]; simp
theorem depthAll_le {n : Nat} : ∀ {ds : List PyData}, (∀ d ∈ ds, d.depth ≤ n) → PyData.depthAll ds ≤ n
  | [], _ => by simp [PyData.depthAll]
  | d :: ds, h => by
    rw [PyData.depthAll]
    have h1 := h d (List.mem_cons_self ..)
    have h2 := depthAll_le (ds := ds) fun e he => h e (List.mem_cons_of_mem _ he)
    omega
theorem shapedL {n : Nat} {ds : List PyData} (h : ∀ d ∈ ds, d.canLay0 = true ∧ d.depth ≤ n) (hn : n ≤ 60) : SeqAt.shaped (.list ds) = true := by
  show ((PyData.list ds).canLay0 && decide ((PyData.list ds).depth ≤ 64)) = true
  rw [Bool.and_eq_true]
  refine ⟨by rw [PyData.canLay0]; exact canLayAll_iff.mpr fun d hd => (h d hd).1, decide_eq_true ?_⟩
  rw [PyData.depth]
  have := depthAll_le fun d hd => (h d hd).2
  omega
theorem okD.tup {n : Nat} {ds : List PyData} (h : ∀ d ∈ ds, d.canLay0 = true ∧ d.depth ≤ n) (hn : n ≤ 7) : okD (.tuple ds) := by
  refine ⟨by rw [PyData.canLay0]; exact canLayAll_iff.mpr fun d hd => (h d hd).1, ?_⟩
  rw [PyData.depth]
  have := depthAll_le fun d hd => (h d hd).2
  omega
/-! ### in, not in over tuples of data -/
section
variable {X : Cx}
def rInT (K : PySem.W.Frag) : R2 := fun x y H Q => ∃ d ds, Dp K H x d ∧ Dp K H y (.tuple ds) ∧ SeqAt.shaped d = true ∧ SeqAt.shaped (.tuple ds) = true ∧ Q (.bl (ds.any fun z => PyData.eqv z d)) H
theorem op_inT (hu : X.A.units + 65 < cLine) : OpR X (compareOp .In) (rInT X.K) := by
  intro pins s σ H x y v u Q I rx ry h
  obtain ⟨d, ds, hd, he, sd, se, q⟩ := h
  obtain ⟨as, r1⟩ := Dp.reads I d x v hd rx
  obtain ⟨bs, r2⟩ := Dp.reads I (.tuple ds) y u he ry
  exact SeqAt.in_tuple_reads r2 r1 (SeqAt.canLay_of_shaped se) (SeqAt.canLay_of_shaped sd) (room_in_shaped sd hu) ⟨.bl _, H, I, rfl, q⟩
end
/-! ### more values -/
section
variable {σ : L2.St} {H : Hp} {ta tb te : TE} {D : Ends} {t1 t2 tz : TS} {c : TT} {b : Bool} {v : V} {i : Nat} {K : PySem.W.Frag}
theorem val_isi {x : V} {t : Value} {T : String} {b : Bool} (ha : Val ta σ H x) (ht : TyX K H x t) (hk : PySem.W.kitOne K t (.type T) = some b) : Val (tCB (rIsi K) (tCons ta (tCons (tC (.ty T)) tNil))) σ H (.bl b) :=
  fun _ q => ha _ ⟨x, .ty T, t, .type T, b, rfl, .ty T, ht, hk, q⟩
end
/-! ### o.m(e, .., k = v, ..) -/
section
variable {X : Cx} {CX : CXT} {k n : Nat} {f C : Addr} {fd : FuncData} {ps ks : List Str} {sp : Sp} {E : XK} {x m : Str} {p pos apos : Pos} {o e : Expr} {es : List Expr} {kws : List Keyword} {ta : TE} {t tk : TA} {g : List Value → List Value → List Value} {gV : List V → List V → List V}
end
end Tp
namespace Tp
open PySem PySem.Spec PyProof.Rows L2
/-- what the written part says of an own error class over DyeError (or of DyeError): its __init__ at fI -/
structure ExB (K : PySem.W.Frag) (C fI : Addr) : Prop where
  oex : OexC K C
  iC : PySem.W.findIn K (.ref C) "__init__" = some (some (.ref fI))
  tI : PySem.W.typeIn K (.ref fI) = some (.type "function")
  noT : PySem.W.findIn K (.ref C) "thing" = some none
  xf : XfC K C
  ex : ExcC K C
/-- DyeError.__init__(self, thing) -/
def spDye (K : PySem.W.Frag) : Sp := fun vs H Q _ => ∃ (a C : Addr) (v : V), vs = [.ref a, v] ∧ OexC K C ∧ PySem.W.findIn K (.ref C) "thing" = some none ∧ H a = some (exo a C none) ∧
  ∀ dx, H dx = none → dx ≠ a → Q .non (upd (upd H dx (exd dx [("thing", v)])) a (exo a C (some dx)))
/-- raise C(e) -/
def tRaiseX (K : PySem.W.Frag) (C : Addr) (W : WX) (te : TE) : TS := fun _ σ H => tMkO C (spDye K) [] (tCons te tNil) σ H fun cls d H' => W cls d σ H'
/-- DyeError's __init__ as a def of the text -/
structure Dye (P : Program) (w : World) (K : PySem.W.Frag) (mg : Str → Option Value) (base : Heap) (fI : Addr) : Prop where
  ex : ∃ fd, FnOk P w K mg base CX0 1 fI fd ["self", "thing"] (spDye K) ∧ Binds K fd ["self", "thing"] []
section
variable {X : Cx} {C fI : Addr} {W : WX} {te : TE} {e : Expr} {x : Str} {p pos pos2 : Pos}
theorem ps_raiseX (hc : X.calm = true) (T : ExB X.K C fI) (D : Dye X.prog X.w X.K X.mg X.base fI) (hr : Room 2 X.A) (tk : Takes X W) (hg : Gl X x) (hm : X.mg x = some (.ref C)) (he : PE X e te)
    (hdb : (x == ("__debug__" : Str)) = false := by decide) (hs : starEach (e :: []) X.env = (false, eval e X.env) :: starEach [] X.env := by rfl) (hpl : (backTo pos (starEach [] X.env)).any (·.1) = false := by rfl) :
    PS X (.Raise (some (.Call (.Name x p) [e] [] pos)) none pos2) (tRaiseX X.K C W te) := by
  obtain ⟨fd, F, b⟩ := D.ex
  exact ps_raise hc tk (pmk_oex (dvs := []) (ds := []) T.oex T.iC T.tI F hr b .nil pass0 hg hm (pa_cons he pa_nil hs) hdb hs hpl)
end
theorem raise_post {K : PySem.W.Frag} {C fI : Addr} {H : Hp} {v : V} {Q : XK} (T : ExB K C fI) (h : ∀ d, H d = none → Q (.ref C) (some d) (upd H d (.xd [("thing", v)]))) :
    [v].length ≤ 1000 ∧ ∀ a, H a = none → spDye K (.ref a :: ([v] ++ [])) (upd H a (exo a C none)) (fun u H2 => u = .non ∧ ∃ (d : Addr) (fs : List (Str × V)), H2 a = some (exo a C (some d)) ∧ H2 d = some (exd d fs) ∧ H d = none ∧ Q (.ref C) (some d) (upd (del H2 a) d (.xd fs))) (fun _ _ _ => False) := by
  refine ⟨(by show 1 ≤ 1000; decide), fun a ha => ⟨a, C, v, rfl, T.oex, T.noT, upd_same, fun dx hdx ne => ⟨rfl, dx, [("thing", v)], upd_same, ?_, ?_, ?_⟩⟩⟩
  · rw [upd_ne ne, upd_same]
  · rw [upd_ne ne] at hdx; exact hdx
  · have hd : H dx = none := by rw [upd_ne ne] at hdx; exact hdx
    have e : upd (del (upd (upd (upd H a (exo a C none)) dx (exd dx [("thing", v)])) a (exo a C (some dx))) a) dx (.xd [("thing", v)]) = upd H dx (.xd [("thing", v)]) := by
      funext b
      by_cases hb : b = dx
      · rw [hb, upd_same, upd_same]
      · rw [upd_ne hb, upd_ne hb]
        by_cases hba : b = a
        · rw [hba, del_same, ha]
        · rw [del_ne hba, upd_ne hba, upd_ne hb, upd_ne hba]
    rw [e]
    exact h dx hd
/-- an error of the class at C with the thing v leaves, a new dict beside -/
def Leaves (K : PySem.W.Frag) (E : XK) (C : Addr) (v : V) (H : Hp) : Prop := ∀ d H', H d = none → Ext [] H H' → H' d = some (.xd [("thing", v)]) → E (.ref C) (some d) H'
/-- isinstance(e, c), e the error that the suite holds -/
def rIsXe (K : PySem.W.Frag) (cls : Value) (d : Option Addr) (a : Addr) : List V → Hp → VK → Prop := fun xs H Q => ∃ (c : V) (cv : Value) (b : Bool) (D dd : Addr) (fs : List (Str × V)), xs = [.ref a, c] ∧ cls = .ref D ∧ d = some dd ∧ ExcC K D ∧ H dd = some (.xd fs) ∧ ClsV c cv ∧ PySem.W.kitOne K (.ref D) cv = some b ∧ Q (.bl b) H
theorem call_isXe {X : Cx} {a : Addr} {cls : Value} {d : Option Addr} {oe : Obj} {pn : List (Addr × Obj)} (hz : Zc cls d oe) (hf : ∃ vs, oe.data = .fields vs) : CallR (X.suite a ((a, oe) :: pn)) (.builtin "isinstance") (rIsXe X.K cls d a) := by
  intro pins s σ H xs us Q I r h
  obtain ⟨c, cv, b, D, dd, fs, rfl, rfl, rfl, C, hd, hcv, e, q⟩ := h
  cases r with
  | cons rx rr =>
    cases rr with
    | cons rt rr =>
      cases rr
      cases rx
      obtain ⟨hget, _⟩ := I.pin (a, oe) (List.mem_append.mpr (.inl List.mem_cons_self))
      exact isX_core C I hget hz hf hd rt (fun u r => hcv.eq r) e q
end Tp
namespace Tp
open PySem PySem.Spec PyProof.Rows L2
/-! ### a comprehension over a text -/
theorem wipe1 {σ : L2.St} {j : Nat} {x : V} : wipe ((wipe σ [j]).set j (some x)) [j] = wipe σ [j] := by
  show ((σ.set j none).set j (some x)).set j none = σ.set j none
  rw [List.set_set, List.set_set]
/-- every letter of z stands in L -/
def allL (L z : Str) : Bool := z.cps.toList.all fun c => decide (c ∈ L.cps.toList)
/-! ### the kinds of values that are passed -/
/-- None, a bool, an int, a text of bounded length, a tuple -/
inductive Ptv (K : PySem.W.Frag) (H : Hp) : V → Prop
  | non : Ptv K H .non
  | bl (b : Bool) : Ptv K H (.bl b)
  | int (i : Int) : Ptv K H (.int i)
  | str {z : Str} (h : z.length ≤ 1000) : Ptv K H (.str z)
  | tup {a : Addr} {xs : List V} (h : SqT K H a xs) : Ptv K H (.ref a)
theorem Ptv.ext {K : PySem.W.Frag} {H H' : Hp} {ms : List Addr} {v : V} (e : Ext ms H H') (h : ∀ a xs, v = .ref a → SqT K H a xs → SqT K H' a xs) (p : Ptv K H v) : Ptv K H' v := by
  cases p with
  | non => exact .non
  | bl b => exact .bl b
  | int i => exact .int i
  | str z => exact .str z
  | tup z => exact .tup (h _ _ rfl z)
def tyNm : V → String
  | .non => "NoneType"
  | .bl _ => "bool"
  | .int _ => "int"
  | .str _ => "str"
  | _ => "tuple"
theorem Ptv.ty {K : PySem.W.Frag} {H : Hp} {v : V} (p : Ptv K H v) : TyX K H v (.type (tyNm v)) := by
  cases p with
  | non => exact .base .non
  | bl b => exact .base (.bl b)
  | int i => exact .base (.int i)
  | str z => exact .base (.str _)
  | tup h =>
    rcases h with (h | ⟨o, h⟩) | ⟨o, its, n, h, c, _⟩
    · exact .base (.tup h)
    · exact .fTuple h
    · exact .kTuple h c
/-- isinstance(v, T) of such a value -/
def isTn (T n : String) : Bool := n == T || (T == "int" && n == "bool")
abbrev isT (T : String) (v : V) : Bool := isTn T (tyNm v)
theorem kit_n {T n : String} (hn : n = "NoneType" ∨ n = "bool" ∨ n = "int" ∨ n = "str" ∨ n = "tuple") (hT : T = "int" ∨ T = "bool" ∨ T = "str" ∨ T = "tuple") : kitB n T = some (isTn T n) := by
  rcases hT with rfl | rfl | rfl | rfl <;> rcases hn with rfl | rfl | rfl | rfl | rfl <;> decide +kernel
theorem Ptv.nm {K : PySem.W.Frag} {H : Hp} {v : V} (p : Ptv K H v) : tyNm v = "NoneType" ∨ tyNm v = "bool" ∨ tyNm v = "int" ∨ tyNm v = "str" ∨ tyNm v = "tuple" := by
  cases p with
  | non => exact .inl rfl
  | bl b => exact .inr (.inl rfl)
  | int i => exact .inr (.inr (.inl rfl))
  | str z => exact .inr (.inr (.inr (.inl rfl)))
  | tup h => exact .inr (.inr (.inr (.inr rfl)))
theorem Ptv.kit {K : PySem.W.Frag} {H : Hp} {v : V} (p : Ptv K H v) {T : String} (hT : T = "int" ∨ T = "bool" ∨ T = "str" ∨ T = "tuple") : PySem.W.kitOne K (.type (tyNm v)) (.type T) = some (isT T v) := kit_ty (kit_n p.nm hT)
/-- a whole number -/
def isWhole : V → Bool
  | .int _ => true
  | _ => false
theorem whole_n {n : String} (hn : n = "NoneType" ∨ n = "bool" ∨ n = "int" ∨ n = "str" ∨ n = "tuple") : (isTn "int" n && !isTn "bool" n) = (n == "int") := by
  rcases hn with rfl | rfl | rfl | rfl | rfl <;> decide +kernel
theorem whole_eq {K : PySem.W.Frag} {H : Hp} {v : V} (p : Ptv K H v) : (isT "int" v && !isT "bool" v) = isWhole v := by
  rw [whole_n p.nm]
  cases p <;> rfl
def spWhole (K : PySem.W.Frag) : Sp := fun vs H Q _ => ∃ v, vs = [v] ∧ Ptv K H v ∧ Q (.bl (isWhole v)) H
end Tp
namespace Tp
open PySem PySem.Spec PyProof.Rows L2
/-! ### names -/
def Lz : Str := "abcdefghijklmnopqrstuvwxyz"
/-- 1 to 12 small letters -/
def nmS (z : Str) : Bool := decide ((1 : Int) ≤ (z.length : Int)) && (decide ((z.length : Int) ≤ 12) && allL Lz z)
theorem leaves_now {K : PySem.W.Frag} {E : XK} {C fI : Addr} {v : V} {H H1 : Hp} (T : ExB K C fI) (L : Leaves K E C v H) (e : Ext [] H H1) :
    [v].length ≤ 1000 ∧ ∀ a, H1 a = none → spDye K (.ref a :: ([v] ++ [])) (upd H1 a (exo a C none)) (fun u H2 => u = .non ∧ ∃ (d : Addr) (fs : List (Str × V)), H2 a = some (exo a C (some d)) ∧ H2 d = some (exd d fs) ∧ H1 d = none ∧ E (.ref C) (some d) (upd (del H2 a) d (.xd fs))) (fun _ _ _ => False) :=
  raise_post T fun d hd => L d _ (e.none hd (by simp)) (e.trans (Ext.new hd)) upd_same
end Tp
namespace Tp
open PySem PySem.Spec PyProof.Rows L2
/-! ### the book as an object -/
structure Bk where
  dx : Addr
  dk : Addr
  lt : Addr
  lp : Addr
  dc : Addr
  ld : Addr
  lf : Addr
def fsB (b : Int) (A : Bk) : List (Str × V) := [("_bound", .int b), ("_kinds", .ref A.dk), ("_thirsts", .ref A.lt), ("_pots", .ref A.lp), ("_cloths", .ref A.dc), ("_dips", .ref A.ld), ("_facts", .ref A.lf)]
abbrev kvB (ks : List (Str × V)) : List (Key × V) := ks.map fun q => (Sum.inr q.1, q.2)
structure BookAt (C : Addr) (H : Hp) (p : Addr) (b : Int) (A : Bk) (ks : List (Str × V)) (ts : List V) (ps : List Str) (cs : List (Str × V)) (ds fs : List V) : Prop where
  ob : H p = some (.ins C A.dx (fsB b A))
  dk : H A.dk = some (.dK (kvB ks))
  lt : H A.lt = some (.lst ts)
  lp : H A.lp = some (.lst (ps.map V.str))
  dc : H A.dc = some (.dK (kvB cs))
  ld : H A.ld = some (.lst ds)
  lf : H A.lf = some (.lst fs)
  nk : A.dk ≠ A.dc
  n1 : A.lt ≠ A.lp
  n2 : A.lt ≠ A.ld
  n3 : A.lt ≠ A.lf
  n4 : A.lp ≠ A.ld
  n5 : A.lp ≠ A.lf
  n6 : A.ld ≠ A.lf
/-- where the book's parts stand -/
abbrev Bk.all (A : Bk) (p : Addr) : List Addr := [p, A.dk, A.lt, A.lp, A.dc, A.ld, A.lf]
section
variable {C p : Addr} {H H' : Hp} {b : Int} {A : Bk} {ks cs : List (Str × V)} {ts ds fs : List V} {ps : List Str} {ms : List Addr}
theorem BookAt.ext (B : BookAt C H p b A ks ts ps cs ds fs) (e : Ext ms H H') (h : ∀ a ∈ A.all p, a ∉ ms) : BookAt C H' p b A ks ts ps cs ds fs :=
  ⟨e.keep _ _ B.ob (h _ (by simp)), e.keep _ _ B.dk (h _ (by simp)), e.keep _ _ B.lt (h _ (by simp)), e.keep _ _ B.lp (h _ (by simp)), e.keep _ _ B.dc (h _ (by simp)), e.keep _ _ B.ld (h _ (by simp)), e.keep _ _ B.lf (h _ (by simp)),
    B.nk, B.n1, B.n2, B.n3, B.n4, B.n5, B.n6⟩
end
theorem Leaves.ext {K : PySem.W.Frag} {E : XK} {C : Addr} {v : V} {H H1 : Hp} (L : Leaves K E C v H) (e : Ext [] H H1) : Leaves K E C v H1 := fun d H' h1 h2 h3 => L d H' (e.none h1 (by simp)) (e.trans h2) h3
end Tp
namespace Tp
open PySem PySem.Spec PyProof.Rows L2
/-! ### the source of draws as it stands in a heap -/
def SrcAt (H : Hp) (S L : Addr) : Prop := ∃ (cells : List Int) (i k g : Int), H S = some (srcO L i k g) ∧ H L = some (.lst (cells.map V.int)) ∧ SrcOk cells i k g
/-- _law_draw(source, many), the heap told by what stays -/
def spDrawE : Sp := fun vs H Q _ => ∃ (S L : Addr) (many : Int), vs = [.ref S, .int many] ∧ SrcAt H S L ∧ 0 < many ∧ many < 2 ^ 200 ∧ ∀ n H', 0 ≤ n → n < many → Ext [S] H H' → SrcAt H' S L → Q (.int n) H'
theorem src_ne {H : Hp} {S L : Addr} {cells : List Int} {i k g : Int} (hS : H S = some (srcO L i k g)) (hL : H L = some (.lst (cells.map V.int))) : L ≠ S := by
  intro e; rw [e, hS] at hL
  have z := Option.some.inj hL
  injection z with z
  cases cells <;> simp at z
theorem draw_imp : ∀ vs H Q E, spDrawE vs H Q E → spDraw vs H Q E := by
  rintro vs H Q E ⟨S, L, many, rfl, ⟨cells, i, k, g, hS, hL, ok⟩, h1, h2, q⟩
  refine ⟨S, L, cells, i, k, g, many, rfl, hS, hL, ok, h1, h2, fun n i' k' g' n0 n1 ok' => q n _ n0 n1 (Ext.refl.mut (by simp) fun xs z => by rw [hS] at z; cases z) ⟨cells, i', k', g', upd_same, ?_, ok'⟩⟩
  rw [upd_ne (src_ne hS hL)]
  exact hL
theorem SrcAt.ext {H H' : Hp} {S L : Addr} (s : SrcAt H S L) (e : Ext [] H H') : SrcAt H' S L := by
  obtain ⟨cells, i, k, g, hS, hL, ok⟩ := s
  exact ⟨cells, i, k, g, e.same _ _ hS, e.same _ _ hL, ok⟩
/-- _law_source(script): a new source -/
def spSource (K : PySem.W.Frag) : Sp := fun vs H Q _ => ∃ (a : Addr) (ns : List Int), vs = [.ref a] ∧ SqL K H a (ns.map V.int) ∧ ns.length ≤ 63 ∧ ∀ S L H', H S = none → H L = none → Ext [] H H' → SrcAt H' S L → Q (.ref S) H'
end Tp
namespace Tp
open PySem PySem.Spec PyProof.Rows L2
section
variable {σ : L2.St} {H : Hp} {Q : VK} {E : XK} {te : TE} {S L : Addr} {many : Int} {i : Nat}
/-- a draw, as an expression -/
theorem draw_ex (h0 : σ[i]? = some (some (.ref S))) (hS : SrcAt H S L) (hm : 0 < many) (hm2 : many < 2 ^ 200) (he : Val te σ H (.int many)) (q : ∀ n H', 0 ≤ n → n < many → Ext [S] H H' → SrcAt H' S L → Q (.int n) H') :
    tCall spDrawE [] E (tCons (tVar i) (tCons te tNil)) σ H Q := ⟨_, h0, he _ ⟨S, L, many, rfl, hS, hm, hm2, q⟩⟩
theorem SrcAt.new {o : HO} {a : Addr} (s : SrcAt H S L) (h : H a = none) : SrcAt (upd H a o) S L := s.ext (Ext.new h)
end
end Tp
/-! F: a def called within an except suite, the error held as an argument; list.count of a bool -/
namespace Tp
open PySem PySem.Spec PyProof.Rows L2 He
abbrev SpE := Addr → Value → Option Addr → Sp
structure FnE (P : Program) (w : World) (K : PySem.W.Frag) (mg : Str → Option Value) (base : Heap) (CX : CXT) (k : Nat) (f : Addr) (fd : FuncData) (ps : List Str) (sp : SpE) : Prop where
  len : ∀ a cls d vs H Q E, sp a cls d vs H Q E → vs.length = ps.length
  run : ∀ (A : Around) (outer : List Env) (s : Shared) (H : Hp) (args : Args) (us : List Value) (vs : List V) (Q : VK) (E : XK) (p : Addr × Obj) (cls : Value) (d : Option Addr), L2H.RoomH k A → Zc cls d p.2 → (∃ v, p.2.data = .fields v) → L2H.PinOk outer H s p → Env0 P w K mg base A outer s H →
    BindsTo s fd args (ps.zip us) → Vals vs us → sp p.1 cls d vs H Q E → codeAny (model P w) A (.call (.ref f) args) (CR CX outer P w H s Q E) s
structure DfE (P : Program) (w : World) (K : PySem.W.Frag) (mg : Str → Option Value) (base : Heap) (CX : CXT) (k : Nat) (x : Str) (ps : List Str) (sp : SpE) : Prop where
  mg_ : mg x = some (.ref (ga K x))
  kp : PySem.W.keepIn K (.ref (ga K x)) = true
  ex : ∃ fd, FnE P w K mg base CX k (ga K x) fd ps sp ∧ Binds K fd ps []
theorem DfE.mk' {P : Program} {w : World} {K : PySem.W.Frag} {mg : Str → Option Value} {base : Heap} {CX : CXT} {k : Nat} {x : Str} {ps : List Str} {sp : SpE} {st : Stmt} (hm : mg x = some (.ref (ga K x))) (hF : ∃ fd, FnP K x st fd)
    (hb : ∀ (kV doc pm : Value) (an : Option Addr) (cdv ct : Value) (us : List Value), us.length = ps.length → bindArgs (PySem.W.fnOf x x (defArgs st) (defBody st) (defScope st) .none kV doc pm an cdv ct) ⟨us, []⟩ = pure (ps.zip us))
    (h : ∀ fd, FnP K x st fd → FnE P w K mg base CX k (ga K x) fd ps sp) : DfE P w K mg base CX k x ps sp := by
  obtain ⟨fd, F⟩ := hF
  exact ⟨hm, F.kp, fd, h fd F, F.bindsN hb⟩
section
variable {X : Cx} {CX : CXT} {k : Nat} {f : Addr} {fd : FuncData} {ps : List Str} {sp : SpE} {E : XK} {x : Str} {e : Expr} {es : List Expr} {t : TA} {q pos : Pos} {a : Addr} {oe : Obj} {cls : Value} {d : Option Addr} {pn : List (Addr × Obj)}
end
/-! ### list.count(True) -/
theorem gset {i : Nat} {x : V} {σ : L2.St} {H : Hp} {k : L2.St → Hp → Prop} (h : k (σ.set i (some x)) H) : gName i x σ H k := h
end Tp
/-! G: method calls in a try, what leaves told at the slots -/
namespace Tp
open PySem PySem.Spec PyProof.Rows L2 He
section
variable {X : Cx} {CX : CXT} {k n : Nat} {f C : Addr} {fd : FuncData} {ps ks : List Str} {sp : Sp} {E : L2.St → XK} {x m : Str} {p pos apos : Pos} {o e : Expr} {es : List Expr} {kws : List Keyword} {ta : TE} {t tk : TA} {dvs : List V} {ds : List Value}
  {g : List Value → List Value → List Value} {gV : List V → List V → List V}
end
end Tp
/-! W: the words of a law's numbers: which, that they differ -/
namespace Tp
open PySem PySem.Spec PyProof.Rows L2 He
end Tp
namespace Tp
open PySem PySem.Spec PyProof.Rows L2 He
/-- good names, each another one -/
structure Names (zs : List Str) : Prop where
  nd : zs.Nodup
  nm : ∀ z ∈ zs, nmS z = true
  ok : ∀ z ∈ zs, okS z
theorem SrcAt.keepM {ms : List Addr} {H H' : Hp} {S L : Addr} (s : SrcAt H S L) (e : Ext ms H H') (hS : S ∉ ms) (hL : L ∉ ms) : SrcAt H' S L := by
  obtain ⟨cells, i, k, g, h1, h2, ok⟩ := s
  exact ⟨cells, i, k, g, e.keep _ _ h1 hS, e.keep _ _ h2 hL, ok⟩
theorem src_ne_new {H : Hp} {S L a : Addr} (hS : SrcAt H S L) (ha : H a = none) : a ≠ S ∧ a ≠ L := by
  obtain ⟨cells, i, k, g, h1, h2, _⟩ := hS
  exact ⟨(ne_of_none h1 ha).symm, (ne_of_none h2 ha).symm⟩
end Tp
/-! R: rows of pairs of texts, values of draws -/
namespace Tp
open PySem PySem.Spec PyProof.Rows L2 He LiI
variable {K : PySem.W.Frag}
/-- values of a law's draw: data that never changes, a text of bounded length -/
def shortV : V → Prop
  | .str z => z.length ≤ 1000
  | _ => True
def Wv (H : Hp) (v : V) : Prop := ∃ d, Im H v d ∧ okD d ∧ shortV v
theorem Wv.ext {ms : List Addr} {H H' : Hp} {v : V} (h : Wv H v) (e : Ext ms H H') : Wv H' v := by
  obtain ⟨d, a, b, c⟩ := h
  exact ⟨d, a.ext e, b, c⟩
theorem Wv.ptv {K : PySem.W.Frag} {H : Hp} {v : V} (h : Wv H v) : Ptv K H v := by
  obtain ⟨d, a, b, c⟩ := h
  cases a with
  | non => exact .non
  | bl _ => exact .bl _
  | int i => exact .int i
  | str x => exact .str c
  | tup h _ => exact .tup (.inl (.inl h))
theorem Wv.str {H : Hp} {z : Str} (h : okS z) (hl : z.length ≤ 1000) : Wv H (.str z) := ⟨_, .str z, okD.str h, hl⟩
theorem Wv.non {H : Hp} : Wv H .non := ⟨_, .non, okD.none, trivial⟩
theorem Wv.int {H : Hp} {i : Int} : Wv H (.int i) := ⟨_, .int i, okD.int, trivial⟩
theorem Wv.bl {H : Hp} {b : Bool} : Wv H (.bl b) := ⟨_, .bl b, okD.bool, trivial⟩
abbrev tv (q : Str × Str) : Str × V := (q.1, V.str q.2)
def RowAt (H : Hp) (r : Addr) (l : List (Str × Str)) : Prop := ∃ as : List Addr, H r = some (.lst (as.map V.ref)) ∧ Paired (fun (t : Addr) (q : Str × Str) => H t = some (.tup [.str q.1, .str q.2])) as l
abbrev okN (z : Str) : Prop := okS z ∧ z.length ≤ 12
theorem paired_ext {ms : List Addr} {H H' : Hp} (e : Ext ms H H') : ∀ {as : List Addr} {l : List (Str × Str)}, Paired (fun (t : Addr) (q : Str × Str) => H t = some (.tup [.str q.1, .str q.2])) as l → Paired (fun (t : Addr) (q : Str × Str) => H' t = some (.tup [.str q.1, .str q.2])) as l
  | _, _, .nil => .nil
  | _, _, .cons x r => .cons (e.tups _ _ x) (paired_ext e r)
theorem RowAt.ext {ms : List Addr} {H H' : Hp} {r : Addr} {l : List (Str × Str)} (h : RowAt H r l) (e : Ext ms H H') (hr : r ∉ ms) : RowAt H' r l := by
  obtain ⟨as, h1, h2⟩ := h
  exact ⟨as, e.keep _ _ h1 hr, paired_ext e h2⟩
abbrev dPair (q : Str × Str) : PyData := .tuple [.str q.1, .str q.2]
theorem paired_im {H : Hp} : ∀ {as : List Addr} {l : List (Str × Str)}, Paired (fun (t : Addr) (q : Str × Str) => H t = some (.tup [.str q.1, .str q.2])) as l → ImAll H (as.map V.ref) (l.map dPair)
  | _, _, .nil => .nil
  | _, _, .cons x r => .cons (.tup x (.cons (.str _) (.cons (.str _) .nil))) (paired_im r)
theorem RowAt.dp {H : Hp} {r : Addr} {l : List (Str × Str)} (h : RowAt H r l) : Dp K H (.ref r) (.list (l.map dPair)) := by
  obtain ⟨as, h1, h2⟩ := h
  exact .lst (SqL.of h1) (paired_im h2).dp
theorem eqv_self {d : PyData} (h : SeqAt.shaped d = true) : PyData.eqv d d = true := SeqAt.eqv_refl d (SeqAt.canLay_of_shaped h)
theorem paired_at {H : Hp} : ∀ {as : List Addr} {l : List (Str × Str)} {i : Nat} {t : Addr}, Paired (fun (t : Addr) (q : Str × Str) => H t = some (.tup [.str q.1, .str q.2])) as l → as[i]? = some t → ∃ q, l[i]? = some q ∧ H t = some (.tup [.str q.1, .str q.2])
  | _, _, _, _, .nil, e => by simp at e
  | _, _, 0, _, .cons x r, e => by simp at e; subst e; exact ⟨_, rfl, x⟩
  | _, _, i + 1, t, .cons _ r, e => by
    obtain ⟨q, h1, h2⟩ := paired_at (i := i) r (by simpa using e)
    exact ⟨q, by simpa using h1, h2⟩
theorem paired_len {H : Hp} : ∀ {as : List Addr} {l : List (Str × Str)}, Paired (fun (t : Addr) (q : Str × Str) => H t = some (.tup [.str q.1, .str q.2])) as l → as.length = l.length
  | _, _, .nil => rfl
  | _, _, .cons _ r => by simp [paired_len r]
/-- a list of values of draws -/
def Nr (H : Hp) (n : Addr) (ys : List V) (k : Nat) : Prop := H n = some (.lst ys) ∧ ys.length ≤ k ∧ ∀ y ∈ ys, Wv H y
theorem Nr.ext {ms : List Addr} {H H' : Hp} {n : Addr} {ys : List V} {k : Nat} (h : Nr H n ys k) (e : Ext ms H H') (hn : n ∉ ms) : Nr H' n ys k := ⟨e.keep _ _ h.1 hn, h.2.1, fun y hy => (h.2.2 y hy).ext e⟩
theorem Nr.grow {H H' : Hp} {n : Addr} {ys : List V} {k : Nat} (h : Nr H n ys k) (e : Ext [] H H') : Nr H' n ys k := h.ext e (by simp)
theorem paired_snoc {F : Addr → Str × Str → Prop} {t : Addr} {q : Str × Str} (h : F t q) : ∀ {as : List Addr} {l : List (Str × Str)}, Paired F as l → Paired F (as ++ [t]) (l ++ [q])
  | _, _, .nil => .cons h .nil
  | _, _, .cons x r => .cons x (paired_snoc h r)
/-- a row grows -/
theorem RowAt.push {H : Hp} {r t : Addr} {l : List (Str × Str)} {xs : List V} {q : Str × Str} (h : RowAt H r l) (hxs : H r = some (.lst xs)) (ht : H t = none) : RowAt (upd (upd H t (.tup [.str q.1, .str q.2])) r (.lst (xs ++ [.ref t]))) r (l ++ [q]) := by
  obtain ⟨as, h1, h2⟩ := h
  rw [h1] at hxs
  cases hxs
  have e1 := Ext.new (ms := [r]) (o := .tup [.str q.1, .str q.2]) ht
  have e : Ext [r] H (upd (upd H t (.tup [.str q.1, .str q.2])) r (.lst (as.map V.ref ++ [.ref t]))) := e1.mut (by simp) fun xs z => by rw [h1] at z; cases z
  refine ⟨as ++ [t], by rw [upd_same, List.map_append]; rfl, paired_snoc ?_ (paired_ext e h2)⟩
  show upd _ r _ t = _
  rw [upd_ne (fun z => by rw [← z, ht] at h1; cases h1)]
  exact upd_same
theorem ext_push {H : Hp} {r t : Addr} {xs : List V} {o : HO} (hxs : H r = some (.lst xs)) (ht : H t = none) {o' : HO} : Ext [r] H (upd (upd H t o) r o') := (Ext.new (ms := [r]) ht).mut (by simp) fun xs z => by rw [hxs] at z; cases z
end Tp
/-! M: a drawn model of a book, as it stands in a heap -/
namespace Tp
open PySem PySem.Spec PyProof.Rows L2 He
structure Mad where
  M : Addr
  m0 : Addr
  m1 : Addr
  m2 : Addr
  m3 : Addr
  m4 : Addr
  m5 : Addr
abbrev Mad.all (a : Mad) : List Addr := [a.M, a.m0, a.m1, a.m2, a.m3, a.m4, a.m5]
abbrev Mad.items (a : Mad) : List V := [.ref a.m0, .ref a.m1, .ref a.m2, .ref a.m3, .ref a.m4, .ref a.m5]
/-- kinds, thirsts, pots, cloths, dips; the facts as values -/
structure MdAt (H : Hp) (a : Mad) (k t : List (Str × Str)) (p : List Str) (c d : List (Str × Str)) (fs : List V) : Prop where
  nd : a.all.Nodup
  M : H a.M = some (.lst a.items)
  r0 : RowAt H a.m0 k
  r1 : RowAt H a.m1 t
  r2 : H a.m2 = some (.lst (p.map V.str))
  r3 : RowAt H a.m3 c
  r4 : RowAt H a.m4 d
  r5 : H a.m5 = some (.lst fs)
section
variable {H H' : Hp} {a : Mad} {k t c d : List (Str × Str)} {p : List Str} {fs : List V} {ms : List Addr} {z y : Str} {u : Addr} {xs : List V}
theorem MdAt.ext (v : MdAt H a k t p c d fs) (e : Ext ms H H') (h : ∀ x ∈ a.all, x ∉ ms) : MdAt H' a k t p c d fs :=
  ⟨v.nd, e.keep _ _ v.M (h _ (by simp)), v.r0.ext e (h _ (by simp)), v.r1.ext e (h _ (by simp)), e.keep _ _ v.r2 (h _ (by simp)), v.r3.ext e (h _ (by simp)), v.r4.ext e (h _ (by simp)), e.keep _ _ v.r5 (h _ (by simp))⟩
end
/-- what a drawn model keeps -/
structure Good (most : Nat) (k t : List (Str × Str)) (p : List Str) (c d : List (Str × Str)) : Prop where
  kn : Names (k.map (·.1))
  kh : ∀ q ∈ k, q.2 = "loose" ∨ q.2 = "fast" ∨ q.2 = "unsure"
  k1 : 1 ≤ k.length
  k8 : k.length ≤ 8
  tk : ∀ q ∈ t, q.1 ∈ k.map (·.1) ∧ q.2 ∈ k.map (·.1)
  t3 : t.length ≤ 3
  pn : Names p
  p1 : 1 ≤ p.length
  p8 : p.length ≤ 8
  cn : Names (c.map (·.1))
  ck : ∀ q ∈ c, q.2 ∈ k.map (·.1)
  c2 : 2 ≤ c.length
  c8 : c.length ≤ 8
  dc : ∀ q ∈ d, q.1 ∈ c.map (·.1) ∧ q.2 ∈ p
  dm : d.length ≤ most
/-- on the way: what stood in H0 stands, but for the source -/
structure MI (H0 : Hp) (S L : Addr) (H : Hp) (a : Mad) (k t : List (Str × Str)) (p : List Str) (c d : List (Str × Str)) : Prop where
  e : Ext [S] H0 H
  s : SrcAt H S L
  v : MdAt H a k t p c d []
  f : ∀ x ∈ a.all, H0 x = none
  s0 : SrcAt H0 S L
section
variable {H0 H H' : Hp} {S L : Addr} {a : Mad} {k t c d : List (Str × Str)} {p : List Str} {z y : Str} {u : Addr} {xs : List V}
theorem MI.ne (m : MI H0 S L H a k t p c d) : ∀ x ∈ a.all, x ≠ S ∧ x ≠ L := fun x hx => src_ne_new m.s0 (m.f x hx)
theorem MI.draw (m : MI H0 S L H a k t p c d) (e : Ext [S] H H') (s : SrcAt H' S L) : MI H0 S L H' a k t p c d :=
  ⟨m.e.trans e, s, m.v.ext e fun x hx => by simpa using (m.ne x hx).1, m.f, m.s0⟩
theorem MI.grow (m : MI H0 S L H a k t p c d) (e : Ext [] H H') : MI H0 S L H' a k t p c d := m.draw e.nil (m.s.ext e)
theorem MI.fresh (m : MI H0 S L H a k t p c d) (hu : H u = none) : H0 u = none := m.e.none hu (by simpa using (src_ne_new m.s hu).1)
end
theorem MdAt.some {H : Hp} {a : Mad} {k t c d : List (Str × Str)} {p : List Str} {fs : List V} (v : MdAt H a k t p c d fs) : ∀ x ∈ a.all, ∃ o, H x = some o := by
  intro x hx
  simp only [Mad.all, List.mem_cons, List.not_mem_nil, or_false] at hx
  rcases hx with rfl | rfl | rfl | rfl | rfl | rfl | rfl
  · exact ⟨_, v.M⟩
  · obtain ⟨_, h, _⟩ := v.r0; exact ⟨_, h⟩
  · obtain ⟨_, h, _⟩ := v.r1; exact ⟨_, h⟩
  · exact ⟨_, v.r2⟩
  · obtain ⟨_, h, _⟩ := v.r3; exact ⟨_, h⟩
  · obtain ⟨_, h, _⟩ := v.r4; exact ⟨_, h⟩
  · exact ⟨_, v.r5⟩
theorem MdAt.new {H : Hp} {a : Mad} {k t c d : List (Str × Str)} {p : List Str} {fs : List V} {l : Addr} (v : MdAt H a k t p c d fs) (h : H l = none) : ∀ x ∈ a.all, l ≠ x := fun x hx e => by
  obtain ⟨o, ho⟩ := v.some x hx
  rw [← e, h] at ho
  cases ho
end Tp
/-! N: the book's thirsts and dips -/
namespace Tp
open PySem PySem.Spec PyProof.Rows L2 He
section
variable {C p : Addr} {H H' : Hp} {b : Int} {A : Bk} {ks cs : List (Str × V)} {ts ds fs : List V} {ps : List Str} {ms : List Addr}
end
end Tp
/-! O: a book as it is built of a model -/
namespace Tp
open PySem PySem.Spec PyProof.Rows L2 He
theorem Ext.over {H0 H H' : Hp} {x : Addr} (e : Ext [] H0 H) (e2 : Ext [x] H H') (hx : H0 x = Option.none) : Ext [] H0 H' :=
  ⟨fun b o q _ => e2.keep b o (e.keep b o q (by simp)) (by simp only [List.mem_singleton]; exact ne_of_none q hx), fun b xs q => e2.tups b xs (e.tups b xs q)⟩
/-- items that are new pairs of texts -/
def PT (H : Hp) (ts : List V) (t : List (Str × Str)) : Prop := ∃ as : List Addr, ts = as.map V.ref ∧ Paired (fun (u : Addr) (q : Str × Str) => H u = some (.tup [.str q.1, .str q.2])) as t
theorem PT.nil {H : Hp} : PT H [] [] := ⟨[], rfl, .nil⟩
theorem PT.ext {ms : List Addr} {H H' : Hp} {ts : List V} {t : List (Str × Str)} (h : PT H ts t) (e : Ext ms H H') : PT H' ts t := by
  obtain ⟨as, h1, h2⟩ := h
  exact ⟨as, h1, paired_ext e h2⟩
theorem PT.snoc {H : Hp} {ts : List V} {t : List (Str × Str)} {u : Addr} {q : Str × Str} (h : PT H ts t) (hu : H u = some (.tup [.str q.1, .str q.2])) : PT H (ts ++ [.ref u]) (t ++ [q]) := by
  obtain ⟨as, h1, h2⟩ := h
  exact ⟨as ++ [u], by rw [h1, List.map_append]; rfl, paired_snoc hu h2⟩
theorem PT.len {H : Hp} {ts : List V} {t : List (Str × Str)} (h : PT H ts t) : ts.length = t.length := by
  obtain ⟨as, h1, h2⟩ := h
  rw [h1, List.length_map, paired_len h2]
theorem take_snoc {α : Type} {l : List α} {i : Nat} {q : α} (h : l[i]? = some q) : l.take (i + 1) = l.take i ++ [q] := by
  rw [List.take_add_one, h]
  rfl
theorem nm_len {z : Str} (h : nmS z = true) : z.length ≤ 12 := of_decide_eq_true (by
  have h3 := (Bool.and_eq_true_iff.mp h).2
  have h4 := of_decide_eq_true (Bool.and_eq_true_iff.mp h3).1
  exact decide_eq_true (by omega))
end Tp
/-! Q: questions to a drawn model -/
namespace Tp
open PySem PySem.Spec PyProof.Rows L2 He LiI
variable {K : PySem.W.Frag}
/-- the second parts of the pairs with this first -/
def selL (x : Str) (l : List (Str × Str)) : List Str := (l.filter fun q => decide (q.1 = x)).map (·.2)
theorem selL_snoc {x : Str} {l : List (Str × Str)} {q : Str × Str} : selL x (l ++ [q]) = if q.1 = x then selL x l ++ [q.2] else selL x l := by
  unfold selL
  rw [List.filter_append, List.map_append]
  by_cases h : q.1 = x
  · rw [if_pos h]
    simp [h]
  · rw [if_neg h]
    simp [h]
/-- of a list of distinct firsts: the one -/
theorem selL_one : ∀ {l : List (Str × Str)} {q : Str × Str}, (l.map (·.1)).Nodup → q ∈ l → selL q.1 l = [q.2]
  | [], _, _, h => by cases h
  | a :: l, q, nd, h => by
    rw [List.map_cons, List.nodup_cons] at nd
    rcases List.mem_cons.mp h with rfl | h2
    · have : selL q.1 l = [] := by
        unfold selL
        rw [List.map_eq_nil_iff, List.filter_eq_nil_iff]
        intro b hb hc
        exact nd.1 (List.mem_map.mpr ⟨b, hb, of_decide_eq_true hc⟩)
      show ((List.filter _ (q :: l)).map _) = _
      rw [List.filter_cons, if_pos (by simp), List.map_cons]
      show q.2 :: selL q.1 l = _
      rw [this]
    · have hne : ¬ a.1 = q.1 := fun e => nd.1 (e ▸ List.mem_map.mpr ⟨q, h2, rfl⟩)
      show ((List.filter _ (a :: l)).map _) = _
      rw [List.filter_cons, if_neg (by simpa using hne)]
      exact selL_one nd.2 h2
/-- the last before m with this first -/
def prevD (d : List (Str × Str)) (x : Str) : Nat → Option Nat
  | 0 => none
  | m + 1 => if (d[m]?.map (·.1)) = some x then some m else prevD d x m
/-- the hold of a cloth's kind -/
def holdOf (k c : List (Str × Str)) (x : Str) : Str := (selL ((selL x c).headD ⟨#[]⟩) k).headD ⟨#[]⟩
theorem holdOf_eq {k c : List (Str × Str)} {x y z : Str} (hc : (c.map (·.1)).Nodup) (hk : (k.map (·.1)).Nodup) (h1 : (x, y) ∈ c) (h2 : (y, z) ∈ k) : holdOf k c x = z := by
  unfold holdOf
  rw [selL_one hc h1]
  show (selL y k).headD _ = _
  rw [selL_one hk h2]
  rfl
/-- whether dip i leaves something -/
def leaveD (k c d : List (Str × Str)) (i : Nat) : Bool := match d[i]? with
  | some q => (match prevD d q.1 i with
    | some j => (match d[j]? with
      | some r => !decide (r.2 = q.2) && !decide (holdOf k c q.1 = "fast")
      | none => false)
    | none => false)
  | none => false
/-- what a model keeps that stands behind its dips -/
structure Kept (k c d : List (Str × Str)) : Prop where
  kn : (k.map (·.1)).Nodup
  k8 : k.length ≤ 8
  cn : (c.map (·.1)).Nodup
  c8 : c.length ≤ 8
  ck : ∀ q ∈ c, q.2 ∈ k.map (·.1)
  dc : ∀ q ∈ d, q.1 ∈ c.map (·.1)
  dl : d.length ≤ 1000
theorem Kept.hold {k c d : List (Str × Str)} (h : Kept k c d) {q : Str × Str} (hq : q ∈ d) : ∃ y z, (q.1, y) ∈ c ∧ (y, z) ∈ k ∧ holdOf k c q.1 = z := by
  obtain ⟨⟨x, y⟩, h1, e1⟩ := List.mem_map.mp (h.dc q hq)
  obtain ⟨⟨y', z⟩, h2, e2⟩ := List.mem_map.mp (h.ck _ h1)
  have ex : x = q.1 := e1
  have ey : y' = y := e2
  subst ex ey
  exact ⟨_, z, h1, h2, holdOf_eq h.cn h.kn h1 h2⟩
/-- the amounts of the first dips -/
def amtD (k c d : List (Str × Str)) : Nat → List (Str × Nat)
  | 0 => []
  | m + 1 => (amtD k c d m ++ [(("take" : Str), m)]) ++ (if leaveD k c d m = true then [(("leave" : Str), m)] else [])
abbrev isAmt (H : Hp) (u : Addr) (q : Str × Nat) : Prop := H u = some (.tup [.str q.1, .int (q.2 : Int)])
theorem amt_ext {ms : List Addr} {H H' : Hp} (e : Ext ms H H') : ∀ {as : List Addr} {l : List (Str × Nat)}, Paired (isAmt H) as l → Paired (isAmt H') as l
  | _, _, .nil => .nil
  | _, _, .cons x r => .cons (e.tups _ _ x) (amt_ext e r)
theorem amt_snoc {H : Hp} {t : Addr} {q : Str × Nat} (h : isAmt H t q) : ∀ {as : List Addr} {l : List (Str × Nat)}, Paired (isAmt H) as l → Paired (isAmt H) (as ++ [t]) (l ++ [q])
  | _, _, .nil => .cons h .nil
  | _, _, .cons x r => .cons x (amt_snoc h r)
theorem amt_len {H : Hp} : ∀ {as : List Addr} {l : List (Str × Nat)}, Paired (isAmt H) as l → as.length = l.length
  | _, _, .nil => rfl
  | _, _, .cons _ r => by simp [amt_len r]
def AmtAt (H : Hp) (l : Addr) (xs : List (Str × Nat)) : Prop := ∃ as : List Addr, H l = some (.lst (as.map V.ref)) ∧ Paired (isAmt H) as xs
theorem AmtAt.push {H : Hp} {r t : Addr} {l : List (Str × Nat)} {xs : List V} {q : Str × Nat} (h : AmtAt H r l) (hxs : H r = some (.lst xs)) (ht : H t = none) : AmtAt (upd (upd H t (.tup [.str q.1, .int (q.2 : Int)])) r (.lst (xs ++ [.ref t]))) r (l ++ [q]) := by
  obtain ⟨as, h1, h2⟩ := h
  rw [h1] at hxs
  cases hxs
  have e := ext_push (o := .tup [.str q.1, .int (q.2 : Int)]) (o' := .lst (as.map V.ref ++ [.ref t])) h1 ht
  refine ⟨as ++ [t], by rw [upd_same, List.map_append]; rfl, amt_snoc ?_ (amt_ext e h2)⟩
  show upd _ r _ t = _
  rw [upd_ne (fun z => by rw [← z, ht] at h1; cases h1)]
  exact upd_same
theorem AmtAt.ext {ms : List Addr} {H H' : Hp} {r : Addr} {l : List (Str × Nat)} (h : AmtAt H r l) (e : Ext ms H H') (hr : r ∉ ms) : AmtAt H' r l := by
  obtain ⟨as, h1, h2⟩ := h
  exact ⟨as, e.keep _ _ h1 hr, amt_ext e h2⟩
theorem AmtAt.lst {H : Hp} {r : Addr} {l : List (Str × Nat)} (h : AmtAt H r l) : ∃ xs, H r = some (.lst xs) ∧ xs.length = l.length := by
  obtain ⟨as, h1, h2⟩ := h
  exact ⟨_, h1, by rw [List.length_map, amt_len h2]⟩
end Tp
/-! S: a property assigned; max with a default; the book's questions -/
namespace Tp
open PySem PySem.Spec PyProof.Rows L2 He
section
variable {X : Cx} {CX : CXT} {k : Nat} {C p g a dx : Addr} {fs : List (Str × V)} {f : Str} {fd : FuncData} {ps : List Str} {sp : Sp} {E : XK} {o value : Expr} {pos pos' : Pos} {ta tv : TE}
end
/-! ### max(xs, default=d) of ints -/
end Tp
/-! U: the book's questions, as promises -/
namespace Tp
open PySem PySem.Spec PyProof.Rows L2 He
theorem hu1_of {A : Around} {k : Nat} (hr : Room k A) : A.units + 1 < cLine := by have := hr.un; omega
/-- an item of such a list -/
theorem PT.get {H : Hp} {ds : List V} {d : List (Str × Str)} (h : PT H ds d) {n : Nat} {q : Str × Str} (e : d[n]? = some q) : ∃ u, atI ds (n : Int) = some (.ref u) ∧ H u = some (.tup [.str q.1, .str q.2]) := by
  obtain ⟨as, rfl, h2⟩ := h
  have hl := paired_len h2
  have hn := (List.getElem?_eq_some_iff.mp e).1
  obtain ⟨z', hz', hT⟩ := paired_at h2 (List.getElem?_eq_getElem (by omega : n < as.length))
  rw [e] at hz'
  cases hz'
  exact ⟨_, atI_nat (by rw [List.getElem?_map, List.getElem?_eq_getElem (by omega : n < as.length)]; rfl), hT⟩
end Tp
/-! Y: odd names, refusals, lists of amounts -/
namespace Tp
open PySem PySem.Spec PyProof.Rows L2 He
end Tp
namespace Tp
open PySem PySem.Spec PyProof.Rows L2 He
theorem amt_at {H : Hp} : ∀ {as : List Addr} {l : List (Str × Nat)} {i : Nat} {t : Addr}, Paired (isAmt H) as l → as[i]? = some t → ∃ q, l[i]? = some q ∧ isAmt H t q
  | _, _, _, _, .nil, e => by simp at e
  | _, _, 0, _, .cons x r, e => by simp at e; subst e; exact ⟨_, rfl, x⟩
  | _, _, i + 1, t, .cons _ r, e => by
    obtain ⟨q, h1, h2⟩ := amt_at (i := i) r (by simpa using e)
    exact ⟨q, by simpa using h1, h2⟩
theorem AmtAt.get {H : Hp} {r : Addr} {l : List (Str × Nat)} (h : AmtAt H r l) : ∃ xs, H r = some (.lst xs) ∧ xs.length = l.length ∧ ∀ (i : Nat) (q : Str × Nat), l[i]? = some q → ∃ u, atI xs (i : Int) = some (.ref u) ∧ isAmt H u q := by
  obtain ⟨as, h1, h2⟩ := h
  have hl := amt_len h2
  refine ⟨_, h1, by rw [List.length_map, hl], fun i q hq => ?_⟩
  have hi := (List.getElem?_eq_some_iff.mp hq).1
  obtain ⟨z, hz, hT⟩ := amt_at h2 (List.getElem?_eq_getElem (by omega : i < as.length))
  rw [hq] at hz
  cases hz
  exact ⟨_, atI_nat (by rw [List.getElem?_map, List.getElem?_eq_getElem (by omega : i < as.length)]; rfl), hT⟩
abbrev dAmt (q : Str × Nat) : PyData := .tuple [.str q.1, .int (q.2 : Int)]
theorem isAmt.im {H : Hp} {u : Addr} {q : Str × Nat} (h : isAmt H u q) : Im H (.ref u) (dAmt q) := .tup h (.cons (.str _) (.cons (.int _) .nil))
theorem okD_amt {q : Str × Nat} (h : okS q.1) : okD (dAmt q) := okD.tup (n := 1) (by
  intro d hd
  simp at hd
  rcases hd with rfl | rfl
  · exact ⟨(okD.str h).1, by simp [PyData.depth]⟩
  · exact ⟨okD.int.1, by simp [PyData.depth]⟩) (by decide)
end Tp
/-! J: a model and its book, side by side -/
namespace Tp
open PySem PySem.Spec PyProof.Rows L2 He
section
variable {H H' : Hp} {a : Mad} {k t c d : List (Str × Str)} {p : List Str} {fs : List V} {ms : List Addr} {z y : Str} {u : Addr} {xs : List V}
/-- a row grows by a pair that is there -/
theorem RowAt.pushU {r t : Addr} {l : List (Str × Str)} {q : Str × Str} (h : RowAt H r l) (hxs : H r = some (.lst xs)) (ht : H t = some (.tup [.str q.1, .str q.2])) : RowAt (upd H r (.lst (xs ++ [.ref t]))) r (l ++ [q]) := by
  obtain ⟨as, h1, h2⟩ := h
  rw [h1] at hxs
  cases hxs
  have e : Ext [r] H (upd H r (.lst (as.map V.ref ++ [.ref t]))) := Ext.refl.mut (by simp) fun xs z => by rw [h1] at z; cases z
  refine ⟨as ++ [t], by rw [upd_same, List.map_append]; rfl, paired_snoc ?_ (paired_ext e h2)⟩
  exact e.tups _ _ ht
theorem MdAt.push4u (v : MdAt H a k t p c d fs) (hxs : H a.m4 = Option.some (HO.lst xs)) (hu : H u = Option.some (HO.tup [V.str z, V.str y])) : MdAt (L2.upd H a.m4 (.lst (xs ++ [.ref u]))) a k t p c (d ++ [(z, y)]) fs := by
  have nd := v.nd
  simp only [Mad.all, List.nodup_cons, List.mem_cons, List.not_mem_nil, not_or, or_false] at nd
  obtain ⟨⟨n0, n1, n2, n3, n4, n5⟩, ⟨n01, n02, n03, n04, n05⟩, ⟨n12, n13, n14, n15⟩, ⟨n23, n24, n25⟩, ⟨n34, n35⟩, n45, _⟩ := nd
  have e : Ext [a.m4] H (upd H a.m4 (.lst (xs ++ [.ref u]))) := Ext.refl.mut (by simp) fun xs z => by rw [hxs] at z; cases z
  exact ⟨v.nd, e.keep _ _ v.M (by simpa using n4), v.r0.ext e (by simpa using n04), v.r1.ext e (by simpa using n14), e.keep _ _ v.r2 (by simpa using n24), v.r3.ext e (by simpa using n34), v.r4.pushU (q := (z, y)) hxs hu, e.keep _ _ v.r5 (by simpa using Ne.symm n45)⟩
end
/-- since H0: the source, the book's object, the model's dips may have changed -/
structure Jv (C : Addr) (H0 H : Hp) (S L b : Addr) (a : Mad) (A : Bk) (i : Int) (k t : List (Str × Str)) (p : List Str) (c d e : List (Str × Str)) (ts ds : List V) : Prop where
  x : Ext [S, b, a.m4] H0 H
  s : SrcAt H S L
  v : MdAt H a k t p c d []
  B : BookAt C H b i A (k.map tv) ts p (c.map tv) ds []
  D : PT H ds e
  f : ∀ y ∈ A.all b, y ≠ S ∧ y ≠ L ∧ y ∉ a.all
  g : ∀ y ∈ a.all, y ≠ S ∧ y ≠ L
section
variable {C : Addr} {H0 H H' : Hp} {S L b : Addr} {a : Mad} {A : Bk} {i : Int} {k t c d e : List (Str × Str)} {p : List Str} {ts ds : List V}
theorem Jv.draw (j : Jv C H0 H S L b a A i k t p c d e ts ds) (x : Ext [S] H H') (s : SrcAt H' S L) : Jv C H0 H' S L b a A i k t p c d e ts ds :=
  ⟨j.x.trans (x.mono fun y h => by simp at h; simp [h]), s, j.v.ext x fun y hy => by simpa using (j.g y hy).1, j.B.ext x fun y hy => by simpa using (j.f y hy).1, j.D.ext x, j.f, j.g⟩
theorem Jv.grow (j : Jv C H0 H S L b a A i k t p c d e ts ds) (x : Ext [] H H') : Jv C H0 H' S L b a A i k t p c d e ts ds := j.draw x.nil (j.s.ext x)
/-- one dip more in the book -/
theorem Jv.dip (j : Jv C H0 H S L b a A i k t p c d e ts ds) {u l : Addr} {q : Str × Str} (x : Ext [b] H H') (hl : H l = none) (hu : H' u = some (.tup [.str q.1, .str q.2])) (B : BookAt C H' b i { A with ld := l } (k.map tv) ts p (c.map tv) (ds ++ [.ref u]) []) : Jv C H0 H' S L b a { A with ld := l } i k t p c d (e ++ [q]) ts (ds ++ [.ref u]) := by
  have fb := j.f b (by simp)
  refine ⟨j.x.trans (x.mono fun y h => by simp at h; simp [h]), j.s.keepM x (by simpa using Ne.symm fb.1) (by simpa using Ne.symm fb.2.1), j.v.ext x fun y hy => by simp only [List.mem_singleton]; exact fun h => fb.2.2 (by rw [← h]; exact hy), B, (j.D.ext x).snoc hu, ?_, j.g⟩
  have f := j.f
  intro y hy
  simp only [Bk.all, List.mem_cons, List.not_mem_nil, or_false] at hy
  rcases hy with rfl | rfl | rfl | rfl | rfl | rfl | rfl
  · exact f _ (by simp)
  · exact f _ (by simp)
  · exact f _ (by simp)
  · exact f _ (by simp)
  · exact f _ (by simp)
  · obtain ⟨h1, h2⟩ := src_ne_new j.s hl
    exact ⟨h1, h2, fun h => j.v.new hl _ h rfl⟩
  · exact f _ (by simp)
/-- one dip more in the model -/
theorem Jv.push (j : Jv C H0 H S L b a A i k t p c d e ts ds) {u : Addr} {q : Str × Str} {xs : List V} (hxs : H a.m4 = some (.lst xs)) (hu : H u = some (.tup [.str q.1, .str q.2])) : Jv C H0 (upd H a.m4 (.lst (xs ++ [.ref u]))) S L b a A i k t p c (d ++ [q]) e ts ds := by
  have x : Ext [a.m4] H (upd H a.m4 (.lst (xs ++ [.ref u]))) := Ext.refl.mut (by simp) fun xs z => by rw [hxs] at z; cases z
  have g4 := j.g a.m4 (by simp)
  exact ⟨j.x.trans (x.mono fun y h => by simp at h; simp [h]), j.s.keepM x (by simpa using Ne.symm g4.1) (by simpa using Ne.symm g4.2), j.v.push4u hxs hu, j.B.ext x fun y hy => by simp only [List.mem_singleton]; exact fun h => (j.f y hy).2.2 (by rw [h]; simp), j.D.ext x, j.f, j.g⟩
theorem Jv.off (j : Jv C H0 H S L b a A i k t p c d e ts ds) {l : Addr} (h : H l = none) : l ≠ S ∧ l ≠ b ∧ l ≠ a.m4 := ⟨(src_ne_new j.s h).1, (ne_of_none j.B.ob h).symm, j.v.new h _ (by simp)⟩
theorem Jv.kept (j : Jv C H0 H S L b a A i k t p c d e ts ds) {most : Nat} {d' : List (Str × Str)} (G : Good most k t p c d') (hd : ∀ q ∈ d, q.1 ∈ c.map (·.1)) (hl : d.length ≤ 1000) : Kept k c d := ⟨G.kn.nd, G.k8, G.cn.nd, G.c8, G.ck, hd, hl⟩
end
theorem Nr.le {H : Hp} {n : Addr} {ys : List V} {k j : Nat} (h : Nr H n ys k) (hk : k ≤ j) : Nr H n ys j := ⟨h.1, Nat.le_trans h.2.1 hk, h.2.2⟩
theorem ne_no {v : V} : (!decide (v = v)) = false := by simp
end Tp
/-! I: an object of an own class walked by its __iter__, its length by its __len__ -/
namespace Tp
open PySem PySem.Spec PyProof.Rows L2 He
/-- a def whose promise knows how many objects stand when it is called -/
structure FnN (P : Program) (w : World) (K : PySem.W.Frag) (mg : Str → Option Value) (base : Heap) (CX : CXT) (k : Nat) (f : Addr) (fd : FuncData) (ps : List Str) (sp : Nat → Sp) : Prop where
  len : ∀ n vs H Q E, sp n vs H Q E → vs.length = ps.length
  run : ∀ (A : Around) (outer : List Env) (s : Shared) (H : Hp) (args : Args) (us : List Value) (vs : List V) (Q : VK) (E : XK), Room k A → Env0 P w K mg base A outer s H → BindsTo s fd args (ps.zip us) → Vals vs us →
    sp s.heap.objs.size vs H Q E → codeAny (model P w) A (.call (.ref f) args) (CR CX outer P w H s Q E) s
theorem FunD.okN {P : Program} {w : World} {K : PySem.W.Frag} {mg : Str → Option Value} {base : Heap} {x qual : Str} {params : Arguments} {body : List Stmt} {scope : Scope} {dvs : List V} {kws : List (Str × V)} {f : Addr} {fd : FuncData}
    {CX : CXT} {N ps : List Str} {k : Nat} {sp : Nat → Sp} (F : FunD K x qual params body scope dvs kws f fd) (S : FnScope N ps scope) (len : ∀ n vs H Q E, sp n vs H Q E → vs.length = ps.length)
    (hbody : ∀ (cdv : Value) (A : Around) (outer : List Env) (s : Shared) (H : Hp) (vs : List V) (Q : VK) (E : XK), Room k (A.deeper (envOfC qual scope s.heap.objs.size f cdv)) → sp s.heap.objs.size vs H Q E →
      ∃ t, PSs (cxOf CX P w K mg base N qual scope f cdv A outer s H E) body t ∧ t { nx := fun _ H' => Q .non H', rt := Q } (start N vs) H) : FnN P w K mg base CX (k + 1) f fd ps sp := by
  obtain ⟨oc, od, dV, kV, doc, pm, an, cdv, ct, osl, rfl, lk, hcd, _, _⟩ := F.ex
  refine ⟨len, fun A outer s H args us vs Q E room env bnd vals prom => ?_⟩
  have inK : K.In s.heap := env.mod.kin.keeps fun b o e => (env.bs b o e).1
  have noLim : s.heap.NoLimit := env.mod.nolimit.keeps fun b o e => (env.bs b o e).1
  refine codeAny_call_function room.depth (inK _ _ lk) rfl S.co S.gen rfl (PySem.W.codeRec_of inK hcd) (bnd _ _ _ _ ?_)
  refine wpAny_newFunctionEnv_cells S.kind (fun y hy => ?_) fun fresh isFresh s1 x => ?_
  · obtain ⟨n, v⟩ := y
    exact (S.par n (List.of_mem_zip hy).1).elim .inl fun q => .inr ⟨q, PySem.W.cellsFrom_some _ _ _ (.inl q)⟩
  · subst isFresh
    refine ⟨noLim.keeps x.toInCall.keep, codeAny_func ?_⟩
    obtain ⟨t, runs, reads⟩ := hbody cdv A outer s H vs Q E (room.deeper _) prom
    refine wpAny_mono (runs.run [] s1 (start N vs) H _ (inv_start S room.hd env (len _ _ _ _ _ prom) vals x) reads) (fun fl s' got => ?_) fun e s' hs => hs
    cases fl with
    | ret u =>
      obtain ⟨v, σ', H', J, rv, q⟩ := got
      exact ⟨v, H', J.os, J.bare, J.base, J.hok, rv, q⟩
    | next =>
      obtain ⟨σ', H', J, q⟩ := got
      exact ⟨V.non, H', J.os, J.bare, J.base, J.hok, rfl, q⟩
    | brk =>
      obtain ⟨_, _, _, q⟩ := got
      exact q.elim
    | cont =>
      obtain ⟨_, _, _, q⟩ := got
      exact q.elim
/-- a class with its own __iter__ -/
structure OwnIt (K : PySem.W.Frag) (C g : Addr) : Prop where
  it : PySem.W.findIn K (.ref C) "__iter__" = some (some (.ref g))
  fn : PySem.W.isFn K (.ref g) = true
section
variable {X : Cx} {CX : CXT} {k : Nat} {C g : Addr} {fd : FuncData} {ps : List Str} {sp : Nat → Sp} {E : XK} {e tg : Expr} {te : TE}
end
/-- a class with its own __len__ -/
structure OwnLn (K : PySem.W.Frag) (C g : Addr) : Prop where
  ln : PySem.W.findIn K (.ref C) "__len__" = some (some (.ref g))
  fn : PySem.W.isFn K (.ref g) = true
def rLenO (C : Addr) (sp : Sp) (E : XK) : List V → Hp → VK → Prop := fun xs H Q => ∃ a dx fs, xs = [.ref a] ∧ H a = some (.ins C dx fs) ∧ sp [.ref a] H (fun v H' => ∃ i : Int, v = .int i ∧ 0 ≤ i ∧ i < 2 ^ 63 ∧ Q (.int i) H') E
theorem call_lenO {X : Cx} {CX : CXT} {k : Nat} {C g : Addr} {fd : FuncData} {ps : List Str} {sp : Sp} {E : XK} (hi : OwnLn X.K C g) (F : FnOk X.prog X.w X.K X.mg X.base CX k g fd ps sp) (hr : Room (k + 1) X.A) (hb : Binds X.K fd ps []) (hx : Passes CX X E) : CallR X (.builtin "len") (rLenO C sp E) := by
  intro pins s σ H xs us Q I r h
  obtain ⟨a, dx, fs, rfl, ea, hs⟩ := h
  rw [Vals.ref1 r]
  obtain ⟨mA, O, _, _, _, _⟩ := ins_get I.hok ea
  obtain ⟨od, J, _⟩ := O.look
  obtain ⟨m0, hF⟩ := I.fr
  refine PySem.W.len_K hF I.ok.mod.kin J hi.ln hi.fn ?_
  have hl := F.len _ _ _ _ hs
  have bnd := hb s [.ref a] I.kIn (by simpa using hl)
  refine wpAny_call (codeAny_mono (F.run X.A.in1 X.stack s H ⟨[.ref a], []⟩ [.ref a] [.ref a] _ E hr.in1 I.env0.in1 (by simpa using bnd) (.cons rfl .nil) hs) fun r s' hq => ?_)
  cases r with
  | error er => exact hx pins σ H s er s' I hq
  | ok fl =>
    cases fl with
    | ret u =>
      obtain ⟨v, H', I3, rv, i, rfl, h0, h1, q⟩ := I.after hq
      obtain ⟨t, rfl⟩ := rv
      exact ⟨⟨h0, h1⟩, .int i, H', I3.tok _, ⟨_, rfl⟩, q⟩
    | next => exact False.elim hq
    | brk => exact False.elim hq
    | cont => exact False.elim hq
end Tp
namespace Tp
open PySem PySem.Spec PyProof.Rows L2 He
section
variable {X : Cx} {CX : CXT} {k : Nat} {f C : Addr} {fd : FuncData} {ps ks : List Str} {sp : Sp} {E : L2.St → XK} {x : Str} {p pos : Pos} {kws : List Keyword} {tk : TA} {g : List Value → List Value → List Value} {gV : List V → List V → List V}
end
end Tp
namespace Tp
open PySem PySem.Spec PyProof.Rows L2 He
/-- since H0: the source, the book's object, one list of dips may have changed -/
structure Kv (C : Addr) (H0 H : Hp) (S L b l : Addr) (A : Bk) (i : Int) (k : List (Str × Str)) (p : List Str) (c d e : List (Str × Str)) (ds : List V) : Prop where
  x : Ext [S, b, l] H0 H
  s : SrcAt H S L
  B : BookAt C H b i A (k.map tv) [] p (c.map tv) ds []
  D : PT H ds e
  R : RowAt H l d
  f : ∀ y ∈ A.all b, y ≠ S ∧ y ≠ L ∧ y ≠ l
  g : l ≠ S ∧ l ≠ L
section
variable {C : Addr} {H0 H H' : Hp} {S L b l : Addr} {A : Bk} {i : Int} {k c d e : List (Str × Str)} {p : List Str} {ds : List V}
theorem Kv.draw (j : Kv C H0 H S L b l A i k p c d e ds) (x : Ext [S] H H') (s : SrcAt H' S L) : Kv C H0 H' S L b l A i k p c d e ds :=
  ⟨j.x.trans (x.mono fun y h => by simp at h; simp [h]), s, j.B.ext x fun y hy => by simpa using (j.f y hy).1, j.D.ext x, j.R.ext x (by simpa using j.g.1), j.f, j.g⟩
theorem Kv.grow (j : Kv C H0 H S L b l A i k p c d e ds) (x : Ext [] H H') : Kv C H0 H' S L b l A i k p c d e ds := j.draw x.nil (j.s.ext x)
theorem Kv.bl (j : Kv C H0 H S L b l A i k p c d e ds) : b ≠ l := (j.f b (by simp)).2.2
/-- one dip more in the book -/
theorem Kv.dip (j : Kv C H0 H S L b l A i k p c d e ds) {u m : Addr} {q : Str × Str} (x : Ext [b] H H') (hm : H m = none) (hu : H' u = some (.tup [.str q.1, .str q.2])) (B : BookAt C H' b i { A with ld := m } (k.map tv) [] p (c.map tv) (ds ++ [.ref u]) []) : Kv C H0 H' S L b l { A with ld := m } i k p c d (e ++ [q]) (ds ++ [.ref u]) := by
  have fb := j.f b (by simp)
  refine ⟨j.x.trans (x.mono fun y h => by simp at h; simp [h]), j.s.keepM x (by simpa using Ne.symm fb.1) (by simpa using Ne.symm fb.2.1), B, (j.D.ext x).snoc hu, j.R.ext x (by simpa using Ne.symm fb.2.2), ?_, j.g⟩
  have f := j.f
  intro y hy
  simp only [Bk.all, List.mem_cons, List.not_mem_nil, or_false] at hy
  rcases hy with rfl | rfl | rfl | rfl | rfl | rfl | rfl
  · exact f _ (by simp)
  · exact f _ (by simp)
  · exact f _ (by simp)
  · exact f _ (by simp)
  · exact f _ (by simp)
  · obtain ⟨h1, h2⟩ := src_ne_new j.s hm
    obtain ⟨_, h3, _⟩ := j.R
    exact ⟨h1, h2, (ne_of_none h3 hm).symm⟩
  · exact f _ (by simp)
/-- one dip more in the list -/
theorem Kv.push (j : Kv C H0 H S L b l A i k p c d e ds) {t : Addr} {z y : Str} {xs : List V} (hxs : H l = some (.lst xs)) (ht : H t = none) : Kv C H0 (upd (upd H t (.tup [.str z, .str y])) l (.lst (xs ++ [.ref t]))) S L b l A i k p c (d ++ [(z, y)]) e ds := by
  have x := ext_push (o := .tup [.str z, .str y]) (o' := .lst (xs ++ [.ref t])) hxs ht
  exact ⟨j.x.trans (x.mono fun y h => by simp at h; simp [h]), j.s.keepM x (by simpa using Ne.symm j.g.1) (by simpa using Ne.symm j.g.2), j.B.ext x fun y hy => by simpa using (j.f y hy).2.2, j.D.ext x, j.R.push (q := (z, y)) hxs ht, j.f, j.g⟩
end
end Tp
/-! V: a method with one parameter for all keywords, called by keywords -/
namespace Tp
open PySem PySem.Spec PyProof.Rows L2 He
section
variable {P : Program} {w : World} {A : Around} {E : Value → Shared → Prop}
open PySem.W in
open PySem.W in
end
section
variable {CX : CXT} {P : Program} {w : World} {K : PySem.W.Frag} {mg : Str → Option Value} {base : Heap} {k : Nat} {f : Addr} {x qual : Str} {params : Arguments} {body : List Stmt} {scope : Scope} {fd : FuncData} {N : List Str} {p1 pd : Str} {spB : Sp} {ks : List Str}
end
section
variable {X : Cx} {CX : CXT} {k : Nat} {f C : Addr} {ks : List Str} {sp : Sp} {E : L2.St → XK} {m : Str} {pos apos : Pos} {o : Expr} {kws : List Keyword} {ta : TE} {tk : TA}
end
end Tp
/-! Z: the dips that match -/
namespace Tp
open PySem PySem.Spec PyProof.Rows L2 He
/-- the kind of a cloth -/
def kdOf (c : List (Str × Str)) (z : Str) : Str := ((c.find? fun q => decide (q.1 = z)).map (·.2)).getD ""
/-- does the dip match -/
def hitQ (og ov os : Option Str) (c : List (Str × Str)) (q : Str × Str) : Bool := decide (og.getD q.1 = q.1) && (decide (ov.getD q.2 = q.2) && decide (os.getD (kdOf c q.1) = kdOf c q.1))
def whereD (og ov os : Option Str) (c d : List (Str × Str)) : Nat → List Int
  | 0 => []
  | m + 1 => match d[m]? with
    | some q => if hitQ og ov os c q = true then whereD og ov os c d m ++ [(m : Int)] else whereD og ov os c d m
    | none => whereD og ov os c d m
section
variable {og ov os : Option Str} {c d : List (Str × Str)}
end
end Tp
namespace Tp
open PySem PySem.Spec PyProof.Rows L2 He
end Tp
namespace Tp
open PySem PySem.Spec PyProof.Rows L2 He
end Tp
namespace Tp
open PySem PySem.Spec PyProof.Rows L2 He
end Tp
namespace Tp
open PySem PySem.Spec PyProof.Rows L2 He
def vS : Option Str → V
  | none => .non
  | some z => .str z
end Tp
namespace Tp
open PySem PySem.Spec PyProof.Rows L2 He
end Tp
namespace Tp
open PySem PySem.Spec PyProof.Rows L2 He
/-- what stands in a row of the questions: the answer, what was given -/
def AskRow (c d : List (Str × Str)) (H : Hp) (u : Addr) (o : Option Str × Option Str × Option Str) : Prop := ∃ l g, H u = some (.tup [.ref l, .ref g]) ∧ H l = some (.lst ((whereD o.1 o.2.1 o.2.2 c d d.length).map V.int)) ∧ H g = some (.lst [vS o.1, vS o.2.1, vS o.2.2])
theorem AskRow.ext {c d : List (Str × Str)} {H H' : Hp} {u : Addr} {o : Option Str × Option Str × Option Str} (h : AskRow c d H u o) (e : Ext [] H H') : AskRow c d H' u o := by
  obtain ⟨l, g, h1, h2, h3⟩ := h
  exact ⟨l, g, e.keep _ _ h1 (by simp), e.keep _ _ h2 (by simp), e.keep _ _ h3 (by simp)⟩
end Tp
namespace Tp
open PySem PySem.Spec PyProof.Rows L2 He
theorem paired_app {α β : Type} {F : α → β → Prop} : ∀ {a1 : List α} {b1 : List β} {a2 : List α} {b2 : List β}, Paired F a1 b1 → Paired F a2 b2 → Paired F (a1 ++ a2) (b1 ++ b2)
  | _, _, _, _, .nil, r => r
  | _, _, _, _, .cons a r, r2 => .cons a (paired_app r r2)
end Tp
namespace Tp
open PySem PySem.Spec PyProof.Rows L2 He
section
variable {t1 t2 : TE} {σ : L2.St} {H : Hp} {tz : TS} {D : Ends} {i : Nat} {v : V}
end
end Tp
namespace Tp
open PySem PySem.Spec PyProof.Rows L2 He
theorem paired_atG {α β : Type} {F : α → β → Prop} : ∀ {as : List α} {l : List β} {i : Nat} {t : α}, Paired F as l → as[i]? = some t → ∃ q, l[i]? = some q ∧ F t q
  | _, _, _, _, .nil, e => by simp at e
  | _, _, 0, _, .cons x r, e => by simp at e; subst e; exact ⟨_, rfl, x⟩
  | _, _, i + 1, t, .cons _ r, e => by
    obtain ⟨q, h1, h2⟩ := paired_atG (i := i) r (by simpa using e)
    exact ⟨q, by simpa using h1, h2⟩
end Tp
namespace Tp
open PySem PySem.Spec PyProof.Rows L2 He
end Tp
namespace Tp
open PySem PySem.Spec PyProof.Rows L2 He
end Tp
/-! Gr: chains of pairs -/
namespace Tp
open PySem PySem.Spec PyProof.Rows L2 He
/-- a chain of pairs of t leads from x to y -/
inductive Reach (t : List (Str × Str)) : Str → Str → Prop
  | refl (x : Str) : Reach t x x
  | step {x y z : Str} : Reach t x y → (y, z) ∈ t → Reach t x z
theorem Reach.trans {t : List (Str × Str)} {x y z : Str} (h : Reach t x y) (h2 : Reach t y z) : Reach t x z := by
  induction h2 with
  | refl => exact h
  | step _ e ih => exact .step ih e
theorem Reach.mono {t t' : List (Str × Str)} {x y : Str} (h : Reach t x y) (hs : ∀ q ∈ t, q ∈ t') : Reach t' x y := by
  induction h with
  | refl => exact .refl _
  | step _ e ih => exact .step ih (hs _ e)
/-- chains over the first k places -/
def War (f : Nat → Nat → Bool) : Nat → Nat → Nat → Bool
  | 0, i, j => f i j
  | k + 1, i, j => War f k i j || (War f k i k && War f k k j)
section
variable {f : Nat → Nat → Bool}
theorem War.le {k i j : Nat} (h : War f k i j = true) : War f (k + 1) i j = true := by
  show (War f k i j || _) = true
  rw [h]
  rfl
theorem War.col {k i : Nat} : War f (k + 1) i k = War f k i k := by
  show (War f k i k || (War f k i k && War f k k k)) = _
  cases War f k i k <;> rfl
theorem War.row {k j : Nat} : War f (k + 1) k j = War f k k j := by
  show (War f k k j || (War f k k k && War f k k j)) = _
  cases War f k k j <;> cases War f k k k <;> rfl
theorem War.cases {k i j : Nat} (h : War f (k + 1) i j = true) : War f k i j = true ∨ (War f k i k = true ∧ War f k k j = true) := by
  have h' : (War f k i j || (War f k i k && War f k k j)) = true := h
  cases e : War f k i j with
  | true => exact .inl rfl
  | false =>
    rw [e, Bool.false_or, Bool.and_eq_true] at h'
    exact .inr h'
theorem War.via {k i j : Nat} (h1 : War f k i k = true) (h2 : War f k k j = true) : War f (k + 1) i j = true := by
  show (War f k i j || (War f k i k && War f k k j)) = true
  rw [h1, h2]
  simp
theorem War.tr : ∀ {k i m j : Nat}, m < k → War f k i m = true → War f k m j = true → War f k i j = true
  | 0, _, _, _, hm, _, _ => absurd hm (Nat.not_lt_zero _)
  | k + 1, i, m, j, hm, h1, h2 => by
    by_cases e : m = k
    · subst e
      rw [War.col] at h1
      rw [War.row] at h2
      exact War.via h1 h2
    · have hm' : m < k := by omega
      rcases War.cases h1 with a | ⟨a1, a2⟩
      · rcases War.cases h2 with b | ⟨b1, b2⟩
        · exact War.le (War.tr hm' a b)
        · exact War.via (War.tr hm' a b1) b2
      · rcases War.cases h2 with b | ⟨b1, b2⟩
        · exact War.via a1 (War.tr hm' a2 b)
        · exact War.via a1 b2
end
/-- a square of truth values -/
structure TabAt (H : Hp) (R : Addr) (rows : List Addr) (n : Nat) (M : Nat → Nat → Bool) : Prop where
  top : H R = some (.lst (rows.map V.ref))
  len : rows.length = n
  nd : rows.Nodup
  off : R ∉ rows
  row : ∀ i r, rows[i]? = some r → H r = some (.lst ((List.range n).map fun j => V.bl (M i j)))
end Tp
namespace Tp
open PySem PySem.Spec PyProof.Rows L2 He
/-- the row of a table under way -/
def rowL (g : Nat → Bool) (n : Nat) : List V := (List.range n).map fun j => V.bl (g j)
theorem rowL_len {g : Nat → Bool} {n : Nat} : (rowL g n).length = n := by
  unfold rowL
  rw [List.length_map, List.length_range]
theorem rowL_at {g : Nat → Bool} {n j : Nat} (h : j < n) : (rowL g n)[j]? = some (V.bl (g j)) := by
  unfold rowL
  rw [List.getElem?_map, List.getElem?_range h]
  rfl
theorem rowL_congr {g g' : Nat → Bool} {n : Nat} (h : ∀ j, j < n → g j = g' j) : rowL g n = rowL g' n := by
  unfold rowL
  exact List.map_congr_left fun j hj => by rw [h j (List.mem_range.mp hj)]
theorem rowL_set {g g' : Nat → Bool} {n j : Nat} {b : Bool} (hb : g' j = b) (h : ∀ m, m ≠ j → g' m = g m) : (rowL g n).set j (V.bl b) = rowL g' n := by
  apply List.ext_getElem?
  intro m
  by_cases e : m = j
  · subst e
    by_cases hm : m < n
    · rw [List.getElem?_set_self (by rw [rowL_len]; exact hm), rowL_at hm, hb]
    · rw [List.getElem?_eq_none (by rw [List.length_set, rowL_len]; omega), List.getElem?_eq_none (by rw [rowL_len]; omega)]
  · rw [List.getElem?_set_ne (fun q => e q.symm)]
    by_cases hm : m < n
    · rw [rowL_at hm, rowL_at hm, h m e]
    · rw [List.getElem?_eq_none (by rw [rowL_len]; omega), List.getElem?_eq_none (by rw [rowL_len]; omega)]
end Tp
namespace Tp
open PySem PySem.Spec PyProof.Rows L2 He
end Tp
namespace Tp
open PySem PySem.Spec PyProof.Rows L2 He
section
variable {H H' : Hp} {R : Addr} {rows : List Addr} {n : Nat} {M M' : Nat → Nat → Bool}
theorem TabAt.congr (T : TabAt H R rows n M) (h : ∀ i j, i < n → j < n → M i j = M' i j) : TabAt H R rows n M' := by
  refine ⟨T.top, T.len, T.nd, T.off, fun i r hr => ?_⟩
  have hi : i < n := by rw [← T.len]; exact (List.getElem?_eq_some_iff.mp hr).1
  rw [T.row i r hr]
  exact congrArg (fun l => some (HO.lst l)) (rowL_congr fun j hj => h i j hi hj)
theorem TabAt.ext (T : TabAt H R rows n M) (e : Ext [] H H') : TabAt H' R rows n M :=
  ⟨e.keep _ _ T.top (by simp), T.len, T.nd, T.off, fun i r hr => e.keep _ _ (T.row i r hr) (by simp)⟩
theorem TabAt.set (T : TabAt H R rows n M) {i j : Nat} {r : Addr} {b : Bool} (hr : rows[i]? = some r) : TabAt (upd H r (.lst ((rowL (M i) n).set j (V.bl b)))) R rows n (fun x c => if x = i ∧ c = j then b else M x c) := by
  have hRr : R ≠ r := fun q => T.off (by rw [q]; exact List.mem_of_getElem? hr)
  refine ⟨by rw [upd_ne hRr]; exact T.top, T.len, T.nd, T.off, fun m r' hm => ?_⟩
  by_cases e : m = i
  · subst e
    rw [hr] at hm
    cases hm
    rw [upd_same]
    exact congrArg (fun l => some (HO.lst l)) (rowL_set (g' := fun c => if m = m ∧ c = j then b else M m c) (by simp) fun c hc => by simp [hc])
  · have hne : r' ≠ r := fun q => by
      subst q
      exact e ((List.getElem?_inj (List.getElem?_eq_some_iff.mp hm).1 T.nd).mp (by rw [hm, hr]))
    rw [upd_ne hne, T.row m r' hm]
    exact congrArg (fun l => some (HO.lst l)) (rowL_congr fun c _ => by simp [e])
end
end Tp
namespace Tp
open PySem PySem.Spec PyProof.Rows L2 He
/-- the dict of what each first leads to, t told yet -/
structure StepsAt (H : Hp) (D : Addr) (ks : List (Str × Addr)) (t : List (Str × Str)) : Prop where
  top : H D = some (.dK (kvB (ks.map fun q => (q.1, V.ref q.2))))
  kn : (ks.map (·.1)).Nodup
  an : (ks.map (·.2)).Nodup
  row : ∀ q ∈ ks, H q.2 = some (.lst ((selL q.1 t).map V.str))
  all : ∀ p ∈ t, p.1 ∈ ks.map (·.1)
theorem StepsAt.ext {H H' : Hp} {D : Addr} {ks : List (Str × Addr)} {t : List (Str × Str)} (S : StepsAt H D ks t) (e : Ext [] H H') : StepsAt H' D ks t :=
  ⟨e.keep _ _ S.top (by simp), S.kn, S.an, fun q hq => e.keep _ _ (S.row q hq) (by simp), S.all⟩
theorem StepsAt.off {H : Hp} {D : Addr} {ks : List (Str × Addr)} {t : List (Str × Str)} (S : StepsAt H D ks t) : ∀ q ∈ ks, q.2 ≠ D := fun q hq h => by
  have := S.row q hq
  rw [h, S.top] at this
  cases this
theorem valV_ks {ks : List (Str × Addr)} {x : Str} {l : Addr} (nd : (ks.map (·.1)).Nodup) (h : (x, l) ∈ ks) : valV (kvB (ks.map fun q => (q.1, V.ref q.2))) (Sum.inr x : Key) = some (.ref l) := by
  induction ks with
  | nil => cases h
  | cons q ks ih =>
    rw [List.map_cons, List.nodup_cons] at nd
    rcases List.mem_cons.mp h with rfl | h2
    · exact valV_pos (p := (Sum.inr x, V.ref l)) rfl
    · have hne : ¬ q.1 = x := fun e => nd.1 (e ▸ List.mem_map.mpr ⟨(x, l), h2, rfl⟩)
      exact (valV_neg (p := (Sum.inr q.1, V.ref q.2)) (fun y => hne (Sum.inr.inj y))).trans (ih nd.2 h2)
/-- one pair more, its first known -/
theorem StepsAt.push {H : Hp} {D : Addr} {ks : List (Str × Addr)} {t : List (Str × Str)} (S : StepsAt H D ks t) {x y : Str} {l : Addr} (h : (x, l) ∈ ks) : StepsAt (upd H l (.lst ((selL x t).map V.str ++ [.str y]))) D ks (t ++ [(x, y)]) := by
  refine ⟨by rw [upd_ne (Ne.symm (S.off _ h))]; exact S.top, S.kn, S.an, fun q hq => ?_, fun p hp => ?_⟩
  · rw [selL_snoc]
    by_cases e : q.2 = l
    · have : q = (x, l) := by
        obtain ⟨i, hi⟩ := List.mem_iff_getElem?.mp hq
        obtain ⟨j, hj⟩ := List.mem_iff_getElem?.mp h
        have h1 : (ks.map (·.2))[i]? = some l := by rw [List.getElem?_map, hi, ← e]; rfl
        have h2 : (ks.map (·.2))[j]? = some l := by rw [List.getElem?_map, hj]; rfl
        have this : i = j := (List.getElem?_inj (List.getElem?_eq_some_iff.mp h1).1 S.an).mp (h1.trans h2.symm)
        rw [this, hj] at hi
        exact (Option.some.inj hi).symm
      subst this
      rw [upd_same, if_pos rfl, List.map_append]
      rfl
    · rw [upd_ne e, S.row q hq]
      have : ¬ x = q.1 := fun h2 => e (by
        have a1 := valV_ks S.kn h
        have a2 := valV_ks (x := q.1) (l := q.2) S.kn hq
        rw [← h2, a1] at a2
        exact (V.ref.inj (Option.some.inj a2)).symm)
      rw [if_neg this]
  · rcases List.mem_append.mp hp with hp | hp
    · exact S.all p hp
    · rw [List.mem_singleton.mp hp]
      exact List.mem_map.mpr ⟨_, h, rfl⟩
/-- .. its first new -/
theorem StepsAt.add {H : Hp} {D : Addr} {ks : List (Str × Addr)} {t : List (Str × Str)} (S : StepsAt H D ks t) {x : Str} {l : Addr} (h : x ∉ ks.map (·.1)) (hl : H l = none) : StepsAt (upd (upd H l (.lst [])) D (.dK (kvB ((ks ++ [(x, l)]).map fun q => (q.1, V.ref q.2))))) D (ks ++ [(x, l)]) t := by
  have hlD : l ≠ D := fun e => by rw [e, S.top] at hl; cases hl
  refine ⟨upd_same, ?_, ?_, fun q hq => ?_, fun p hp => ?_⟩
  · rw [List.map_append, List.nodup_append]
    exact ⟨S.kn, by simp, fun a ha b hb e => by simp at hb; exact h (by rw [← hb, ← e]; exact ha)⟩
  · rw [List.map_append, List.nodup_append]
    refine ⟨S.an, by simp, fun a ha b hb e => ?_⟩
    simp at hb
    obtain ⟨q, hq, rfl⟩ := List.mem_map.mp ha
    have := S.row q hq
    rw [e, hb, hl] at this
    cases this
  · rcases List.mem_append.mp hq with hq | hq
    · rw [upd_ne (S.off q hq), upd_ne (ne_of_none (S.row q hq) hl)]
      exact S.row q hq
    · rw [List.mem_singleton.mp hq, upd_ne hlD, upd_same]
      have : selL x t = [] := by
        unfold selL
        rw [List.map_eq_nil_iff, List.filter_eq_nil_iff]
        intro p hp hc
        exact h (by rw [← of_decide_eq_true hc]; exact S.all p hp)
      rw [this]
      rfl
  · rw [List.map_append]
    exact List.mem_append_left _ (S.all p hp)
end Tp
namespace Tp
open PySem PySem.Spec PyProof.Rows L2 He
theorem nodup_le {α : Type} [DecidableEq α] : ∀ {l m : List α}, l.Nodup → (∀ x ∈ l, x ∈ m) → l.length ≤ m.length
  | [], _, _, _ => Nat.zero_le _
  | a :: l, m, nd, h => by
    rw [List.nodup_cons] at nd
    have ha := h a (by simp)
    have ih := nodup_le (l := l) (m := m.erase a) nd.2 fun x hx => (List.mem_erase_of_ne (fun e => nd.1 (by rw [← e]; exact hx))).mpr (h x (by simp [hx]))
    have := List.length_erase_of_mem ha
    have hm : 0 < m.length := List.length_pos_of_mem ha
    show l.length + 1 ≤ _
    omega
theorem reach_end {t : List (Str × Str)} {x y : Str} (h : Reach t x y) : y ∈ x :: t.map (·.2) := by
  cases h with
  | refl => simp
  | step _ e => exact List.mem_cons_of_mem _ (List.mem_map.mpr ⟨_, e, rfl⟩)
theorem reach_in {t : List (Str × Str)} {x y : Str} {bs : List Str} (hx : x ∈ bs) (hc : ∀ y ∈ bs, ∀ z, (y, z) ∈ t → z ∈ bs) (h : Reach t x y) : y ∈ bs := by
  induction h with
  | refl => exact hx
  | step _ e ih => exact hc _ ih _ e
end Tp
namespace Tp
open PySem PySem.Spec PyProof.Rows L2 He
/-- what a walk has met -/
structure WkI (t : List (Str × Str)) (x : Str) (bs : List (Str × V)) : Prop where
  nd : (bs.map (·.1)).Nodup
  sub : ∀ y ∈ bs.map (·.1), Reach t x y
  hx : x ∈ bs.map (·.1)
theorem WkI.le {t : List (Str × Str)} {x : Str} {bs : List (Str × V)} (w : WkI t x bs) : bs.length ≤ t.length + 1 := by
  have h := nodup_le w.nd (m := x :: t.map (·.2)) fun y hy => reach_end (w.sub y hy)
  rw [List.length_map] at h
  have e : (x :: t.map (·.2)).length = t.length + 1 := by rw [List.length_cons, List.length_map]
  omega
theorem WkI.add {t : List (Str × Str)} {x y z : Str} {bs : List (Str × V)} {v : V} (w : WkI t x bs) (hy : y ∈ bs.map (·.1)) (e : (y, z) ∈ t) (hz : z ∉ bs.map (·.1)) : WkI t x (bs ++ [(z, v)]) := by
  refine ⟨?_, fun a ha => ?_, ?_⟩
  · rw [List.map_append, List.nodup_append]
    exact ⟨w.nd, by simp, fun a ha b hb q => by simp at hb; exact hz (by rw [← hb, ← q]; exact ha)⟩
  · rw [List.map_append] at ha
    rcases List.mem_append.mp ha with ha | ha
    · exact w.sub a ha
    · have : a = z := by simpa using ha
      rw [this]
      exact .step (w.sub y hy) e
  · rw [List.map_append]
    exact List.mem_append_left _ w.hx
end Tp
namespace Tp
open PySem PySem.Spec PyProof.Rows L2 He
section
variable {X : Cx} {n : Nat} {nm : Str} {np cp ap : Pos} {kx vx tgt src : Expr} {tests : List Expr} {inner : Scope} {own : List (Str × Nat)} {wi : TI} {g : TG} {tt : TT} {tk tv : TE}
theorem sw_dc {elts : Expr × Expr} {gs : List Comprehension} {l : Nat} {env : Env} (fn : env.scope.kind = .function) (loc : env.scope.names.lookup nm = some .local) (line : (np.line == cp.line) = true)
    (free : (inner.names.any fun (m, k) => m == nm && (k == .local || k == .cell)) = false) : swapsWith (.DictComp elts.1 elts.2 gs inner cp) (some (.Name nm np)) l env = pure true := by
  have kind : env.kindOf nm = some .local := loc
  have blk : env.blockKind = .function := by
    unfold Env.blockKind
    rw [fn]
    rfl
  unfold swapsWith
  simp only [blk, kind, free, Expr.pos, line]
  rfl
end
end Tp
namespace Tp
open PySem PySem.Spec PyProof.Rows L2 He
/-- kinds as the book holds them -/
abbrev kU (z : Str) : Str × V := (z, V.str "unsure")
/-- since H0: the source, the book's kinds and thirsts, the three lists may have changed -/
structure Hv (C : Addr) (H0 H : Hp) (S L b So Wa Th : Addr) (A : Bk) (ss ws : List Str) (t : List (Str × Str)) (ts : List V) : Prop where
  x : Ext [S, A.dk, A.lt, So, Wa, Th] H0 H
  s : SrcAt H S L
  B : BookAt C H b 24 A (ss.map kU) ts [] [] [] []
  D : PT H ts t
  so : H So = some (.lst (ss.map V.str))
  wa : H Wa = some (.lst (ws.map V.str))
  th : RowAt H Th t
  f : ∀ y ∈ A.all b, y ≠ S ∧ y ≠ L ∧ y ≠ So ∧ y ≠ Wa ∧ y ≠ Th
  g : ∀ y ∈ [So, Wa, Th], y ≠ S ∧ y ≠ L
  m : So ≠ Wa ∧ So ≠ Th ∧ Wa ≠ Th
section
variable {C : Addr} {H0 H H' : Hp} {S L b So Wa Th : Addr} {A : Bk} {ss ws : List Str} {t : List (Str × Str)} {ts : List V}
theorem Hv.draw (j : Hv C H0 H S L b So Wa Th A ss ws t ts) (x : Ext [S] H H') (s : SrcAt H' S L) : Hv C H0 H' S L b So Wa Th A ss ws t ts := by
  have g1 := j.g So (by simp)
  have g2 := j.g Wa (by simp)
  have g3 := j.g Th (by simp)
  exact ⟨j.x.trans (x.mono fun y h => by simp at h; simp [h]), s, j.B.ext x fun y hy => by simpa using (j.f y hy).1, j.D.ext x, x.keep _ _ j.so (by simpa using g1.1), x.keep _ _ j.wa (by simpa using g2.1), j.th.ext x (by simpa using g3.1), j.f, j.g, j.m⟩
theorem Hv.grow (j : Hv C H0 H S L b So Wa Th A ss ws t ts) (x : Ext [] H H') : Hv C H0 H' S L b So Wa Th A ss ws t ts := j.draw x.nil (j.s.ext x)
/-- the next waiting name is a kind from now on -/
theorem Hv.kind (j : Hv C H0 H S L b So Wa Th A ss ws t ts) {z : Str} {ws' : List Str} (x : Ext [So, Wa, A.dk] H H') (so : H' So = some (.lst ((ss ++ [z]).map V.str))) (wa : H' Wa = some (.lst (ws'.map V.str))) (B : BookAt C H' b 24 A ((ss ++ [z]).map kU) ts [] [] [] []) : Hv C H0 H' S L b So Wa Th A (ss ++ [z]) ws' t ts := by
  have fk := j.f A.dk (by simp)
  have g1 := j.g So (by simp)
  have g2 := j.g Wa (by simp)
  have g3 := j.g Th (by simp)
  refine ⟨j.x.trans (x.mono fun y h => by simp at h; rcases h with h | h | h <;> simp [h]), j.s.keepM x ?_ ?_, B, j.D.ext x, so, wa, j.th.ext x ?_, j.f, j.g, j.m⟩
  · simp only [List.mem_cons, List.not_mem_nil, or_false, not_or]
    exact ⟨Ne.symm g1.1, Ne.symm g2.1, Ne.symm fk.1⟩
  · simp only [List.mem_cons, List.not_mem_nil, or_false, not_or]
    exact ⟨Ne.symm g1.2, Ne.symm g2.2, Ne.symm fk.2.1⟩
  · simp only [List.mem_cons, List.not_mem_nil, or_false, not_or]
    exact ⟨Ne.symm j.m.2.1, Ne.symm j.m.2.2, Ne.symm fk.2.2.2.2⟩
/-- one thirst more, told in the list and in the book -/
theorem Hv.thirst (j : Hv C H0 H S L b So Wa Th A ss ws t ts) {u : Addr} {q : Str × Str} (x : Ext [Th, A.lt] H H') (th : RowAt H' Th (t ++ [q])) (hu : H' u = some (.tup [.str q.1, .str q.2])) (B : BookAt C H' b 24 A (ss.map kU) (ts ++ [.ref u]) [] [] [] []) : Hv C H0 H' S L b So Wa Th A ss ws (t ++ [q]) (ts ++ [.ref u]) := by
  have fl := j.f A.lt (by simp)
  have g3 := j.g Th (by simp)
  refine ⟨j.x.trans (x.mono fun y h => by simp at h; rcases h with h | h <;> simp [h]), j.s.keepM x ?_ ?_, B, (j.D.ext x).snoc hu, x.keep _ _ j.so ?_, x.keep _ _ j.wa ?_, th, j.f, j.g, j.m⟩
  · simp only [List.mem_cons, List.not_mem_nil, or_false, not_or]
    exact ⟨Ne.symm g3.1, Ne.symm fl.1⟩
  · simp only [List.mem_cons, List.not_mem_nil, or_false, not_or]
    exact ⟨Ne.symm g3.2, Ne.symm fl.2.1⟩
  · simp only [List.mem_cons, List.not_mem_nil, or_false, not_or]
    exact ⟨j.m.2.1, Ne.symm fl.2.2.1⟩
  · simp only [List.mem_cons, List.not_mem_nil, or_false, not_or]
    exact ⟨j.m.2.2, Ne.symm fl.2.2.2.1⟩
end
end Tp
namespace Tp
open PySem PySem.Spec PyProof.Rows L2 He
end Tp
namespace Tp
open PySem PySem.Spec PyProof.Rows L2 He
end Tp
namespace Tp
open PySem PySem.Spec PyProof.Rows L2 He
end Tp
namespace Tp
open PySem PySem.Spec PyProof.Rows L2 He
end Tp
/-! Fx: facts, comparisons, what is told to be there -/
namespace Tp
open PySem PySem.Spec PyProof.Rows L2 He
abbrev Am := Str × Nat
/-- a fact about two amounts, or about one -/
inductive Fk where
  | tell (x y : Am)
  | some (x : Am)
  deriving DecidableEq
abbrev dFk : Fk → PyData
  | .tell x y => .tuple [.str "tell", dAmt x, dAmt y]
  | .some x => .tuple [.str "some", dAmt x]
def isFk (H : Hp) (u : Addr) : Fk → Prop
  | .tell x y => ∃ a b, H u = Option.some (.tup [.str "tell", .ref a, .ref b]) ∧ isAmt H a x ∧ isAmt H b y
  | .some x => ∃ a, H u = Option.some (.tup [.str "some", .ref a]) ∧ isAmt H a x
theorem isFk.ext {ms : List Addr} {H H' : Hp} {u : Addr} {f : Fk} (h : isFk H u f) (e : Ext ms H H') : isFk H' u f := by
  cases f with
  | tell x y =>
    obtain ⟨a, b, h1, h2, h3⟩ := h
    exact ⟨a, b, e.tups _ _ h1, e.tups _ _ h2, e.tups _ _ h3⟩
  | some x =>
    obtain ⟨a, h1, h2⟩ := h
    exact ⟨a, e.tups _ _ h1, e.tups _ _ h2⟩
theorem isFk.im {H : Hp} {u : Addr} {f : Fk} (h : isFk H u f) : Im H (.ref u) (dFk f) := by
  cases f with
  | tell x y =>
    obtain ⟨a, b, h1, h2, h3⟩ := h
    exact .tup h1 (.cons (.str _) (.cons h2.im (.cons h3.im .nil)))
  | some x =>
    obtain ⟨a, h1, h2⟩ := h
    exact .tup h1 (.cons (.str _) (.cons h2.im .nil))
section
variable {α β : Type} {F G : α → β → Prop}
theorem pairedG_mono (h : ∀ a b, F a b → G a b) : ∀ {as : List α} {bs : List β}, Paired F as bs → Paired G as bs
  | _, _, .nil => .nil
  | _, _, .cons x r => .cons (h _ _ x) (pairedG_mono h r)
theorem pairedG_len : ∀ {as : List α} {bs : List β}, Paired F as bs → as.length = bs.length
  | _, _, .nil => rfl
  | _, _, .cons _ r => by simp [pairedG_len r]
theorem pairedG_one {a : α} {b : β} (h : F a b) : Paired F [a] [b] := .cons h .nil
end
/-- values that are these facts -/
def FL (H : Hp) (vs : List V) (fs : List Fk) : Prop := ∃ as : List Addr, vs = as.map V.ref ∧ Paired (isFk H) as fs
theorem FL.nil {H : Hp} : FL H [] [] := ⟨[], rfl, .nil⟩
theorem FL.ext {ms : List Addr} {H H' : Hp} {vs : List V} {fs : List Fk} (h : FL H vs fs) (e : Ext ms H H') : FL H' vs fs := by
  obtain ⟨as, h1, h2⟩ := h
  exact ⟨as, h1, pairedG_mono (fun a b h => h.ext e) h2⟩
theorem FL.len {H : Hp} {vs : List V} {fs : List Fk} (h : FL H vs fs) : vs.length = fs.length := by
  obtain ⟨as, rfl, h2⟩ := h
  rw [List.length_map, pairedG_len h2]
theorem FL.snoc {H : Hp} {vs : List V} {fs : List Fk} {u : Addr} {f : Fk} (h : FL H vs fs) (hu : isFk H u f) : FL H (vs ++ [.ref u]) (fs ++ [f]) := by
  obtain ⟨as, rfl, h2⟩ := h
  exact ⟨as ++ [u], by rw [List.map_append]; rfl, paired_app h2 (pairedG_one hu)⟩
theorem FL.get {H : Hp} {vs : List V} {fs : List Fk} {i : Nat} {v : V} (h : FL H vs fs) (e : vs[i]? = Option.some v) : ∃ u f, v = .ref u ∧ fs[i]? = Option.some f ∧ isFk H u f := by
  obtain ⟨as, rfl, h2⟩ := h
  rw [List.getElem?_map] at e
  obtain ⟨u, hu, rfl⟩ := Option.map_eq_some_iff.mp e
  obtain ⟨f, hf, hF⟩ := paired_atG h2 hu
  exact ⟨u, f, rfl, hf, hF⟩
theorem fk_im {H : Hp} : ∀ {as : List Addr} {fs : List Fk}, Paired (isFk H) as fs → ImAll H (as.map V.ref) (fs.map dFk)
  | _, _, .nil => .nil
  | _, _, .cons x r => .cons x.im (fk_im r)
theorem FL.dp {K : PySem.W.Frag} {H : Hp} {l : Addr} {vs : List V} {fs : List Fk} (h : FL H vs fs) (hl : H l = Option.some (.lst vs)) : Dp K H (.ref l) (.list (fs.map dFk)) := by
  obtain ⟨as, rfl, h2⟩ := h
  exact .lst (SqL.of hl) (fk_im h2).dp
def okF : Fk → Prop
  | .tell x y => okS x.1 ∧ okS y.1
  | .some x => okS x.1
theorem amts_im {H : Hp} : ∀ {as : List Addr} {l : List Am}, Paired (isAmt H) as l → ImAll H (as.map V.ref) (l.map dAmt)
  | _, _, .nil => .nil
  | _, _, .cons x r => .cons (isAmt.im x) (amts_im r)
theorem AmtAt.dp {K : PySem.W.Frag} {H : Hp} {l : Addr} {xs : List Am} (h : AmtAt H l xs) : Dp K H (.ref l) (.list (xs.map dAmt)) := by
  obtain ⟨as, h1, h2⟩ := h
  exact .lst (SqL.of h1) (amts_im h2).dp
/-- a pair of amounts -/
abbrev Pa := Am × Am
abbrev dPr (q : Pa) : PyData := .tuple [dAmt q.1, dAmt q.2]
def isPr (H : Hp) (u : Addr) (q : Pa) : Prop := ∃ a b, H u = Option.some (.tup [.ref a, .ref b]) ∧ isAmt H a q.1 ∧ isAmt H b q.2
theorem isPr.ext {ms : List Addr} {H H' : Hp} {u : Addr} {q : Pa} (h : isPr H u q) (e : Ext ms H H') : isPr H' u q := by
  obtain ⟨a, b, h1, h2, h3⟩ := h
  exact ⟨a, b, e.tups _ _ h1, e.tups _ _ h2, e.tups _ _ h3⟩
theorem isPr.im {H : Hp} {u : Addr} {q : Pa} (h : isPr H u q) : Im H (.ref u) (dPr q) := by
  obtain ⟨a, b, h1, h2, h3⟩ := h
  exact .tup h1 (.cons h2.im (.cons h3.im .nil))
def PrL (H : Hp) (vs : List V) (xs : List Pa) : Prop := ∃ as : List Addr, vs = as.map V.ref ∧ Paired (isPr H) as xs
theorem PrL.nil {H : Hp} : PrL H [] [] := ⟨[], rfl, .nil⟩
theorem PrL.ext {ms : List Addr} {H H' : Hp} {vs : List V} {xs : List Pa} (h : PrL H vs xs) (e : Ext ms H H') : PrL H' vs xs := by
  obtain ⟨as, h1, h2⟩ := h
  exact ⟨as, h1, pairedG_mono (fun a b h => h.ext e) h2⟩
theorem PrL.len {H : Hp} {vs : List V} {xs : List Pa} (h : PrL H vs xs) : vs.length = xs.length := by
  obtain ⟨as, rfl, h2⟩ := h
  rw [List.length_map, pairedG_len h2]
theorem PrL.app {H : Hp} {vs ws : List V} {xs ys : List Pa} (h : PrL H vs xs) (h2 : PrL H ws ys) : PrL H (vs ++ ws) (xs ++ ys) := by
  obtain ⟨as, rfl, p1⟩ := h
  obtain ⟨bs, rfl, p2⟩ := h2
  exact ⟨as ++ bs, by rw [List.map_append], paired_app p1 p2⟩
theorem PrL.one {H : Hp} {u : Addr} {q : Pa} (h : isPr H u q) : PrL H [.ref u] [q] := ⟨[u], rfl, pairedG_one h⟩
theorem PrL.get {H : Hp} {vs : List V} {xs : List Pa} {i : Nat} {v : V} (h : PrL H vs xs) (e : vs[i]? = Option.some v) : ∃ u f, v = .ref u ∧ xs[i]? = Option.some f ∧ isPr H u f := by
  obtain ⟨as, rfl, h2⟩ := h
  rw [List.getElem?_map] at e
  obtain ⟨u, hu, rfl⟩ := Option.map_eq_some_iff.mp e
  obtain ⟨f, hf, hF⟩ := paired_atG h2 hu
  exact ⟨u, f, rfl, hf, hF⟩
theorem pr_im {H : Hp} : ∀ {as : List Addr} {xs : List Pa}, Paired (isPr H) as xs → ImAll H (as.map V.ref) (xs.map dPr)
  | _, _, .nil => .nil
  | _, _, .cons x r => .cons x.im (pr_im r)
theorem PrL.dp {K : PySem.W.Frag} {H : Hp} {l : Addr} {vs : List V} {xs : List Pa} (h : PrL H vs xs) (hl : H l = Option.some (.lst vs)) : Dp K H (.ref l) (.list (xs.map dPr)) := by
  obtain ⟨as, rfl, h2⟩ := h
  exact .lst (SqL.of hl) (pr_im h2).dp
/-- a list of pairs of amounts -/
def PrAt (H : Hp) (l : Addr) (xs : List Pa) : Prop := ∃ vs, H l = Option.some (.lst vs) ∧ PrL H vs xs
theorem PrAt.ext {ms : List Addr} {H H' : Hp} {l : Addr} {xs : List Pa} (h : PrAt H l xs) (e : Ext ms H H') (hl : l ∉ ms) : PrAt H' l xs := by
  obtain ⟨vs, h1, h2⟩ := h
  exact ⟨vs, e.keep _ _ h1 hl, h2.ext e⟩
theorem PrAt.dp {K : PySem.W.Frag} {H : Hp} {l : Addr} {xs : List Pa} (h : PrAt H l xs) : Dp K H (.ref l) (.list (xs.map dPr)) := by
  obtain ⟨vs, h1, h2⟩ := h
  exact h2.dp h1
end Tp
namespace Tp
open PySem PySem.Spec PyProof.Rows L2 He
/-- at least as thirsty as -/
noncomputable def thB (t : List (Str × Str)) (x y : Str) : Bool := @decide (Reach t x y) (Classical.propDecidable _)
theorem thB_iff {t : List (Str × Str)} {x y : Str} : thB t x y = true ↔ Reach t x y := by
  unfold thB
  exact @decide_eq_true_iff _ (Classical.propDecidable _)
/-- an amount's number is a dip's -/
theorem amtD_lt {k c d : List (Str × Str)} : ∀ n, ∀ q ∈ amtD k c d n, q.2 < n
  | 0, q, h => by cases h
  | n + 1, q, h => by
    have h' : q ∈ (amtD k c d n ++ [(("take" : Str), n)]) ++ (if leaveD k c d n = true then [(("leave" : Str), n)] else []) := h
    rcases List.mem_append.mp h' with h | h
    · rcases List.mem_append.mp h with h | h
      · have := amtD_lt n q h; omega
      · simp at h; subst h; exact Nat.lt_succ_self n
    · split at h
      · simp at h; subst h; exact Nat.lt_succ_self n
      · cases h
end Tp
namespace Tp
open PySem PySem.Spec PyProof.Rows L2 He
/-- what is reached from x, so far -/
structure RchI (k t : List (Str × Str)) (x : Str) (rs : List Str) : Prop where
  nd : rs.Nodup
  hx : x ∈ rs
  rc : ∀ z ∈ rs, Reach t x z
  sub : ∀ z ∈ rs, z ∈ k.map (·.1)
def RchC (t : List (Str × Str)) (rs : List Str) : Prop := ∀ q ∈ t, q.1 ∈ rs → q.2 ∈ rs
/-- j items of a pass that began with rs -/
def RchJ (t : List (Str × Str)) (rs ws : List Str) (j : Nat) : Prop := (ws = rs ∧ ∀ q ∈ t.take j, q.1 ∈ rs → q.2 ∈ rs) ∨ (rs.length + 1 ≤ ws.length ∧ ¬ RchC t rs)
section
variable {k t : List (Str × Str)} {x : Str} {rs ws : List Str}
theorem RchI.start (hx : x ∈ k.map (·.1)) : RchI k t x [x] := ⟨by simp, by simp, fun z hz => by simp at hz; rw [hz]; exact .refl _, fun z hz => by simp at hz; rw [hz]; exact hx⟩
theorem RchI.le (R : RchI k t x rs) : rs.length ≤ k.length := by
  have := nodup_le R.nd R.sub
  rw [List.length_map] at this
  exact this
theorem RchI.add (R : RchI k t x rs) {q : Str × Str} (hq : q ∈ t) (h1 : q.1 ∈ rs) (h2 : q.2 ∉ rs) (hk : q.2 ∈ k.map (·.1)) : RchI k t x (rs ++ [q.2]) := by
  refine ⟨?_, List.mem_append_left _ R.hx, fun z hz => ?_, fun z hz => ?_⟩
  · rw [List.nodup_append]
    exact ⟨R.nd, by simp, fun a ha b hb e => by simp at hb; exact h2 (by rw [← hb, ← e]; exact ha)⟩
  · rcases List.mem_append.mp hz with hz | hz
    · exact R.rc z hz
    · simp at hz
      rw [hz]
      exact .step (R.rc _ h1) hq
  · rcases List.mem_append.mp hz with hz | hz
    · exact R.sub z hz
    · simp at hz
      rw [hz]
      exact hk
theorem RchJ.done (J : RchJ t rs ws t.length) {i : Nat} (hc : RchC t rs ∨ i + 1 ≤ rs.length) : RchC t ws ∨ i + 1 + 1 ≤ ws.length := by
  rcases J with ⟨rfl, h⟩ | ⟨h1, h2⟩
  · exact .inl fun q hq => h q (by rw [List.take_of_length_le (Nat.le_refl _)]; exact hq)
  · rcases hc with hc | hc
    · exact absurd hc h2
    · exact .inr (by omega)
theorem RchJ.skip {j : Nat} {q : Str × Str} (J : RchJ t rs ws j) (hq : t[j]? = some q) (h : q.1 ∈ ws → q.2 ∈ ws) : RchJ t rs ws (j + 1) := by
  rcases J with ⟨rfl, h0⟩ | h0
  · refine .inl ⟨rfl, fun z hz => ?_⟩
    rw [take_snoc hq] at hz
    rcases List.mem_append.mp hz with hz | hz
    · exact h0 z hz
    · simp at hz
      rw [hz]
      exact h
  · exact .inr h0
theorem RchJ.add {j : Nat} {q : Str × Str} (J : RchJ t rs ws j) (hq : q ∈ t) (h1 : q.1 ∈ ws) (h2 : q.2 ∉ ws) : RchJ t rs (ws ++ [q.2]) (j + 1) := by
  rcases J with ⟨rfl, h0⟩ | ⟨h3, h4⟩
  · exact .inr ⟨by rw [List.length_append]; exact Nat.le_refl _, fun hc => h2 (hc q hq h1)⟩
  · exact .inr ⟨by rw [List.length_append]; omega, h4⟩
theorem RchI.fin (R : RchI k t x rs) (hc : RchC t rs ∨ k.length + 1 ≤ rs.length) (y : Str) : y ∈ rs ↔ thB t x y = true := by
  have hc' : RchC t rs := by
    rcases hc with h | h
    · exact h
    · have := R.le
      omega
  rw [thB_iff]
  exact ⟨R.rc y, fun h => reach_in R.hx (fun z hz z' hzz => hc' (z, z') hzz hz) h⟩
end
end Tp
namespace Tp
open PySem PySem.Spec PyProof.Rows L2 He
section
variable {K : PySem.W.Frag} {σ : L2.St} {H : Hp} {ta tb : TE} {l : Addr} {zs : List Str} {z : Str} {t u : TT} {a b : Bool}
end
end Tp
namespace Tp
open PySem PySem.Spec PyProof.Rows L2 He
section
variable {H : Hp} {F u u1 u2 u3 : Addr} {vs ws : List V} {xs : List Pa} {q : Pa}
theorem ext_lst (hF : H F = some (.lst vs)) : Ext [F] H (upd H F (.lst ws)) := Ext.refl.mut (by simp) fun xs z => by rw [hF] at z; cases z
theorem PrL.push (P : PrL H vs xs) (hF : H F = some (.lst vs)) (hu : isPr H u q) : PrL (upd H F (.lst (vs ++ [.ref u]))) (vs ++ [.ref u]) (xs ++ [q]) :=
  (P.ext (ext_lst hF)).app (PrL.one (hu.ext (ext_lst hF)))
end
end Tp
namespace Tp
open PySem PySem.Spec PyProof.Rows L2 He
theorem AmtAt.pushU {H : Hp} {r t : Addr} {l : List Am} {xs : List V} {q : Am} (h : AmtAt H r l) (hxs : H r = some (.lst xs)) (ht : isAmt H t q) : AmtAt (upd H r (.lst (xs ++ [.ref t]))) r (l ++ [q]) := by
  obtain ⟨as, h1, h2⟩ := h
  rw [h1] at hxs
  cases hxs
  have e : Ext [r] H (upd H r (.lst (as.map V.ref ++ [.ref t]))) := ext_lst h1
  refine ⟨as ++ [t], by rw [upd_same, List.map_append]; rfl, amt_snoc ?_ (amt_ext e h2)⟩
  exact e.tups _ _ ht
end Tp
namespace Tp
open PySem PySem.Spec PyProof.Rows L2 He
end Tp
namespace Tp
theorem filter_snoc {α : Type} {p : α → Bool} {l : List α} {a : α} : (l ++ [a]).filter p = l.filter p ++ (if p a = true then [a] else []) := by
  rw [List.filter_append]
  by_cases h : p a = true <;> simp [h]
end Tp
namespace Tp
open PySem PySem.Spec PyProof.Rows L2 He
/-- data whose texts, and those of its items, are short -/
def Av (H : Hp) (v : V) (d : PyData) : Prop := Im H v d ∧ okD d ∧ shortV v ∧ ∀ u xs, v = .ref u → H u = some (.tup xs) → ∀ x ∈ xs, shortV x
theorem Av.wv {H : Hp} {v : V} {d : PyData} (h : Av H v d) : Wv H v := ⟨d, h.1, h.2.1, h.2.2.1⟩
theorem Av.ext {ms : List Addr} {H H' : Hp} {v : V} {d : PyData} (h : Av H v d) (e : Ext ms H H') : Av H' v d := by
  refine ⟨h.1.ext e, h.2.1, h.2.2.1, fun u xs hv hx => ?_⟩
  have h1 := h.1
  subst hv
  cases h1 with
  | tup h2 h3 =>
    have e2 := e.tups _ _ h2
    rw [e2] at hx
    cases hx
    exact h.2.2.2 _ _ rfl h2
theorem amtD_word {k c d : List (Str × Str)} : ∀ n, ∀ q ∈ amtD k c d n, q.1 = "take" ∨ q.1 = "leave"
  | 0, _, h => by cases h
  | n + 1, q, h => by
    have h' : q ∈ (amtD k c d n ++ [(("take" : Str), n)]) ++ (if leaveD k c d n = true then [(("leave" : Str), n)] else []) := h
    rcases List.mem_append.mp h' with h | h
    · rcases List.mem_append.mp h with h | h
      · exact amtD_word n q h
      · simp at h; subst h; exact .inl rfl
    · split at h
      · simp at h; subst h; exact .inr rfl
      · cases h
/-- an amount, of whatever book -/
def amtB : PyData → Bool
  | .tuple [.str w, .int n] => (decide (w = "take") || decide (w = "leave")) && decide (0 ≤ n)
  | _ => false
/-- one of these amounts -/
def ownD (xs : List Am) : PyData → Bool
  | .tuple [.str w, .int n] => decide (0 ≤ n) && decide ((w, n.toNat) ∈ xs)
  | _ => false
theorem Leaves.grow {K : PySem.W.Frag} {E : XK} {C : Addr} {v : V} {H H1 : Hp} (h : Leaves K E C v H) (e : Ext [] H H1) : Leaves K E C v H1 := fun d H' hd e2 hx => h d H' (e.none hd (by simp)) (e.trans e2) hx
theorem okS_wd {q : Str} (h : q = "take" ∨ q = "leave") : okS q := by rcases h with rfl | rfl <;> decide +kernel
theorem amtB_ne {ds : List PyData} (h : ds.length ≠ 2) : amtB (.tuple ds) = false := by
  unfold amtB
  split
  · rename_i w n heq
    injection heq with h1
    rw [h1] at h
    exact absurd rfl h
  · rfl
def wordV : V → Bool
  | .str w => decide (w = "take") || decide (w = "leave")
  | _ => false
theorem words_any {H : Hp} {x : V} {d : PyData} (h : Im H x d) : ([PyData.str "take", PyData.str "leave"].any fun z => PyData.eqv z d) = wordV x := by
  cases h with
  | str w =>
    show (PyData.eqv (.str "take") (.str w) || (PyData.eqv (.str "leave") (.str w) || false)) = (decide (w = "take") || decide (w = "leave"))
    have e : ∀ a : Str, PyData.eqv (.str a) (.str w) = decide (w = a) := fun a => by
      rw [PyData.eqv, Bool.eq_iff_iff, beq_iff_eq, decide_eq_true_eq]
      exact eq_comm
    rw [e, e, Bool.or_false]
  | non => simp [PyData.eqv, wordV]
  | bl b => simp [PyData.eqv, wordV]
  | int i => simp [PyData.eqv, wordV]
  | tup _ _ => simp [PyData.eqv, wordV]
theorem item_ok {ds : List PyData} {d : PyData} (h : okD (.tuple ds)) (hd : d ∈ ds) : okD d := by
  refine ⟨?_, ?_⟩
  · have h1 := h.1
    rw [PyData.canLay0] at h1
    exact canLayAll_iff.mp h1 d hd
  · have h2 := h.2
    rw [PyData.depth] at h2
    have h3 : ∀ {ds : List PyData}, d ∈ ds → d.depth ≤ PyData.depthAll ds := by
      intro ds
      induction ds with
      | nil => intro h; cases h
      | cons a ds ih =>
        intro h
        rw [PyData.depthAll]
        rcases List.mem_cons.mp h with rfl | h
        · exact Nat.le_max_left _ _
        · exact Nat.le_trans (ih h) (Nat.le_max_right _ _)
    have := h3 hd
    omega
section
variable {C : Addr} {H : Hp} {p : Addr} {b : Int} {A : Bk} {ks cs : List (Str × V)} {ts ds fs : List V} {ps : List Str}
end
end Tp
namespace Tp
open PySem PySem.Spec PyProof.Rows L2 He
end Tp
/-! Li: list(o), o of a class with its own __iter__ (a list's iterator) and its own __len__ -/
namespace Tp
open PySem PySem.Spec PyProof.Rows L2 He
section
variable {X : Cx} {pins : List (Addr × Obj)} {σ : L2.St} {it l q : Addr} {A1 : Around} {zs : List V} {H0 : Hp} {Rs : Result → Shared → Prop}
end
section
variable {M : Model} {A : Around} {E : Value → Shared → Prop} {s : Shared} {K : PySem.W.Frag} {C a fl : Addr} {ox : Obj} {od : Option Obj} {Q : Bool → Shared → Prop}
end
end Tp
namespace Tp
open PySem PySem.Spec PyProof.Rows L2 He
/-- nothing leaves -/
abbrev never : XK := fun _ _ _ => False
section
variable {X : Cx} {k : Nat} {C g gl : Addr} {fd fdl : FuncData} {ps psl : List Str} {sp : Nat → Sp} {spl : Sp}
end
end Tp
namespace Tp
open PySem PySem.Spec PyProof.Rows L2 He
end Tp
namespace Tp
open PySem PySem.Spec PyProof.Rows L2 He
/-- a book and what stands in it -/
structure BkI (C : Addr) (H : Hp) (p : Addr) (i : Int) (A : Bk) (k t : List (Str × Str)) (ps : List Str) (c d : List (Str × Str)) (fs : List Fk) (ts ds us : List V) : Prop where
  B : BookAt C H p i A (k.map tv) ts ps (c.map tv) ds us
  T : PT H ts t
  D : PT H ds d
  F : FL H us fs
  G : Kept k c d
  nl : ∀ z, z ∈ k.map (·.1) ∨ z ∈ c.map (·.1) → z.length ≤ 1000
  dl : d.length ≤ 100
  fl : fs.length ≤ 1000
  tl : t.length ≤ 1000
  fo : ∀ f ∈ fs, okF f
theorem BkI.ext {C : Addr} {H H' : Hp} {p : Addr} {i : Int} {A : Bk} {k t : List (Str × Str)} {ps : List Str} {c d : List (Str × Str)} {fs : List Fk} {ts ds us : List V} (b : BkI C H p i A k t ps c d fs ts ds us) (e : Ext [] H H') : BkI C H' p i A k t ps c d fs ts ds us :=
  ⟨b.B.ext e fun _ _ => by simp, b.T.ext e, b.D.ext e, b.F.ext e, b.G, b.nl, b.dl, b.fl, b.tl, b.fo⟩
end Tp
/-! Fm: facts that are asked to be let, a model and its book with facts -/
namespace Tp
open PySem PySem.Spec PyProof.Rows L2 He
/-- a fact to be: its values and their data -/
inductive Gk where
  | tell (v w : V) (dv dw : PyData)
  | some (v : V) (dv : PyData)
def isGk (H : Hp) (u : Addr) : Gk → Prop
  | .tell v w dv dw => H u = Option.some (.tup [.str "tell", v, w]) ∧ Av H v dv ∧ Av H w dw
  | .some v dv => H u = Option.some (.tup [.str "some", v]) ∧ Av H v dv
theorem isGk.ext {ms : List Addr} {H H' : Hp} {u : Addr} {g : Gk} (h : isGk H u g) (e : Ext ms H H') : isGk H' u g := by
  cases g with
  | tell v w dv dw => exact ⟨e.tups _ _ h.1, h.2.1.ext e, h.2.2.ext e⟩
  | some v dv => exact ⟨e.tups _ _ h.1, h.2.ext e⟩
inductive Vd where
  | bad (v : V)
  | full
  | ok
def Gk.vd (xs : List Am) (n : Nat) : Gk → Vd
  | .tell v w dv dw => if ownD xs dv = false then .bad v else if ownD xs dw = false then .bad w else if 32 ≤ n then .full else .ok
  | .some v dv => if ownD xs dv = false then .bad v else if 32 ≤ n then .full else .ok
def amOf : PyData → Am
  | .tuple [.str w, .int n] => (w, n.toNat)
  | _ => (⟨#[]⟩, 0)
def Gk.fk : Gk → Fk
  | .tell _ _ dv dw => .tell (amOf dv) (amOf dw)
  | .some _ dv => .some (amOf dv)
theorem im_amt {H : Hp} {v : V} {q : Am} (h : Im H v (dAmt q)) : ∃ a, v = .ref a ∧ isAmt H a q := by
  cases h with
  | tup h1 h2 =>
    cases h2 with
    | cons a1 r1 =>
      cases a1
      cases r1 with
      | cons a2 r2 =>
        cases a2
        cases r2
        exact ⟨_, rfl, h1⟩
end Tp
namespace Tp
open PySem PySem.Spec PyProof.Rows L2 He
section
variable {xs : List Am} {n : Nat} {v w : V} {dv dw : PyData}
end
/-- the answer to a fact that is asked to be let -/
def Told (Q : VK) (H : Hp) : Vd → Prop
  | .bad v => ∀ a H', H a = none → Ext [] H H' → H' a = some (.lst [.str "amount", v, .bl false]) → Q (.ref a) H'
  | .full => ∀ a H', H a = none → Ext [] H H' → H' a = some (.lst [.str "full", .int 32, .bl false]) → Q (.ref a) H'
  | .ok => True
end Tp
namespace Tp
open PySem PySem.Spec PyProof.Rows L2 He
def Gk.items : Gk → List (V × PyData)
  | .tell v w dv dw => [(v, dv), (w, dw)]
  | .some v dv => [(v, dv)]
def Gk.word : Gk → Str
  | .tell _ _ _ _ => "tell"
  | .some _ _ => "some"
theorem isGk.tup {H : Hp} {u : Addr} {g : Gk} (h : isGk H u g) : H u = some (.tup (.str g.word :: g.items.map (·.1))) := by
  cases g with
  | tell v w dv dw => exact h.1
  | some v dv => exact h.1
theorem isGk.av {H : Hp} {u : Addr} {g : Gk} (h : isGk H u g) : ∀ q ∈ g.items, Av H q.1 q.2 := by
  cases g with
  | tell v w dv dw =>
    intro q hq
    simp only [Gk.items, List.mem_cons, List.not_mem_nil, or_false] at hq
    rcases hq with rfl | rfl
    · exact h.2.1
    · exact h.2.2
  | some v dv =>
    intro q hq
    simp only [Gk.items, List.mem_cons, List.not_mem_nil, or_false] at hq
    subst hq
    exact h.2
theorem eqv_nil {ds : List PyData} : PyData.eqv (.list ds) (.list []) = decide (ds = []) := by
  rw [PyData.eqv]
  cases ds with
  | nil => rw [PyData.eqvAll]; rfl
  | cons a l => rw [PyData.eqvAll]; rfl
end Tp
namespace Tp
open PySem PySem.Spec PyProof.Rows L2 He
def AvL (H : Hp) (vs : List V) : Prop := ∀ v ∈ vs, ∃ d, Av H v d
theorem AvL.ext {ms : List Addr} {H H' : Hp} {vs : List V} (h : AvL H vs) (e : Ext ms H H') : AvL H' vs := fun v hv => by
  obtain ⟨d, hd⟩ := h v hv
  exact ⟨d, hd.ext e⟩
theorem AvL.snoc {H : Hp} {vs : List V} {v : V} {d : PyData} (h : AvL H vs) (hv : Av H v d) : AvL H (vs ++ [v]) := fun x hx => by
  rcases List.mem_append.mp hx with hx | hx
  · exact h x hx
  · simp at hx
    subst hx
    exact ⟨d, hv⟩
theorem Av.new {H : Hp} {u : Addr} {xs : List V} {ds : List PyData} (hi : ∀ G, ImAll G xs ds) (ok : okD (.tuple ds)) (sh : ∀ x ∈ xs, shortV x) : Av (upd H u (.tup xs)) (.ref u) (.tuple ds) := by
  refine ⟨.tup upd_same (hi _), ok, trivial, fun u' ys hv hx => ?_⟩
  cases hv
  rw [upd_same] at hx
  cases hx
  exact sh
theorem AvL.push {H : Hp} {vs : List V} {u : Addr} {xs : List V} {ds : List PyData} (h : AvL H vs) (hu : H u = none) (hi : ∀ G, ImAll G xs ds) (ok : okD (.tuple ds)) (sh : ∀ x ∈ xs, shortV x) : AvL (upd H u (.tup xs)) (vs ++ [.ref u]) :=
  (h.ext (ms := []) (Ext.new hu)).snoc (Av.new hi ok sh)
/-- texts, numbers, truth values, None -/
inductive Fl1 : V → PyData → Prop
  | non : Fl1 .non .none
  | bl (b : Bool) : Fl1 (.bl b) (.bool b)
  | int (i : Int) : Fl1 (.int i) (.int i)
  | str {z : Str} (h : okS z) (hl : z.length ≤ 1000) : Fl1 (.str z) (.str z)
theorem Fl1.im {v : V} {d : PyData} (h : Fl1 v d) (G : Hp) : Im G v d := by
  cases h with
  | non => exact .non
  | bl b => exact .bl b
  | int i => exact .int i
  | str _ _ => exact .str _
theorem Fl1.ok {v : V} {d : PyData} (h : Fl1 v d) : d.canLay0 = true ∧ d.depth ≤ 1 := by
  cases h with
  | non => exact ⟨okD.none.1, by simp [PyData.depth]⟩
  | bl b => exact ⟨okD.bool.1, by simp [PyData.depth]⟩
  | int i => exact ⟨okD.int.1, by simp [PyData.depth]⟩
  | str h hl => exact ⟨(okD.str h).1, by simp [PyData.depth]⟩
theorem Fl1.short {v : V} {d : PyData} (h : Fl1 v d) : shortV v := by
  cases h with
  | non => trivial
  | bl b => trivial
  | int i => trivial
  | str _ hl => exact hl
theorem Fl1.av {H : Hp} {v : V} {d : PyData} (h : Fl1 v d) : Av H v d := ⟨h.im H, ⟨h.ok.1, by have := h.ok.2; omega⟩, h.short, fun u xs hv _ => by cases h <;> cases hv⟩
end Tp
namespace Tp
open PySem PySem.Spec PyProof.Rows L2 He
section
variable {H H' : Hp} {a : Mad} {k t c d : List (Str × Str)} {p : List Str} {fs : List V}
end
/-- a model, its book, the dips still to come: d, fs in the model, db, fb in the book -/
structure Lw (C : Addr) (H : Hp) (S L b md : Addr) (a : Mad) (A : Bk) (k t : List (Str × Str)) (p : List Str) (c d db rest : List (Str × Str)) (fs fb : List Fk) (ts ds us ms : List V) : Prop where
  s : SrcAt H S L
  M : MdAt H a k t p c d ms
  W : FL H ms fs
  B : BkI C H b 24 A k t p c db fb ts ds us
  R : RowAt H md rest
  f : ∀ y ∈ A.all b, y ≠ S ∧ y ≠ L ∧ y ≠ md ∧ y ∉ a.all
  g : ∀ y ∈ a.all, y ≠ S ∧ y ≠ L ∧ y ≠ md
  h : md ≠ S ∧ md ≠ L
section
variable {C : Addr} {H H' : Hp} {S L b md : Addr} {a : Mad} {A : Bk} {k t : List (Str × Str)} {p : List Str} {c d db rest : List (Str × Str)} {fs fb : List Fk} {ts ds us ms : List V}
theorem BkI.extM {ms : List Addr} {H H' : Hp} {p : Addr} {i : Int} {A : Bk} {k t : List (Str × Str)} {ps : List Str} {c d : List (Str × Str)} {fs : List Fk} {ts ds us : List V} (b : BkI C H p i A k t ps c d fs ts ds us) (e : Ext ms H H') (h : ∀ y ∈ A.all p, y ∉ ms) : BkI C H' p i A k t ps c d fs ts ds us :=
  ⟨b.B.ext e h, b.T.ext e, b.D.ext e, b.F.ext e, b.G, b.nl, b.dl, b.fl, b.tl, b.fo⟩
theorem Lw.draw (j : Lw C H S L b md a A k t p c d db rest fs fb ts ds us ms) (x : Ext [S] H H') (s : SrcAt H' S L) : Lw C H' S L b md a A k t p c d db rest fs fb ts ds us ms :=
  ⟨s, j.M.ext x fun y hy => by simpa using (j.g y hy).1, j.W.ext x, j.B.extM x fun y hy => by simpa using (j.f y hy).1, j.R.ext x (by simpa using j.h.1), j.f, j.g, j.h⟩
theorem Lw.grow (j : Lw C H S L b md a A k t p c d db rest fs fb ts ds us ms) (x : Ext [] H H') : Lw C H' S L b md a A k t p c d db rest fs fb ts ds us ms := j.draw x.nil (j.s.ext x)
theorem mem_all_lf {A : Bk} {b : Addr} : A.lf ∈ A.all b := by simp
/-- the book lets a fact -/
theorem Lw.told (j : Lw C H S L b md a A k t p c d db rest fs fb ts ds us ms) {u : Addr} {f : Fk} (x : Ext [A.lf] H H') (hu : isFk H' u f) (hf : okF f) (hl : us.length < 32) (B : BookAt C H' b 24 A (k.map tv) ts p (c.map tv) ds (us ++ [.ref u])) : Lw C H' S L b md a A k t p c d db rest fs (fb ++ [f]) ts ds (us ++ [.ref u]) ms := by
  have fl := j.f A.lf mem_all_lf
  have hlen := j.B.F.len
  refine ⟨j.s.keepM x (by simpa using Ne.symm fl.1) (by simpa using Ne.symm fl.2.1), j.M.ext x fun y hy => by simp only [List.mem_singleton]; exact fun h => fl.2.2.2 (by rw [← h]; exact hy), j.W.ext x, ⟨B, j.B.T.ext x, j.B.D.ext x, (j.B.F.ext x).snoc hu, j.B.G, j.B.nl, j.B.dl, by rw [List.length_append]; show fb.length + 1 ≤ 1000; omega, j.B.tl, fun g hg => ?_⟩, j.R.ext x (by simpa using Ne.symm fl.2.2.1), j.f, j.g, j.h⟩
  rcases List.mem_append.mp hg with hg | hg
  · exact j.B.fo g hg
  · simp at hg
    rw [hg]
    exact hf
/-- the model notes a dip -/
theorem Lw.push (j : Lw C H S L b md a A k t p c d db rest fs fb ts ds us ms) {u : Addr} {q : Str × Str} {xs : List V} (hxs : H a.m4 = some (.lst xs)) (hu : H u = some (.tup [.str q.1, .str q.2])) : Lw C (upd H a.m4 (.lst (xs ++ [.ref u]))) S L b md a A k t p c (d ++ [q]) db rest fs fb ts ds us ms := by
  have x : Ext [a.m4] H (upd H a.m4 (.lst (xs ++ [.ref u]))) := ext_lst hxs
  have g4 := j.g a.m4 (by simp)
  exact ⟨j.s.keepM x (by simpa using Ne.symm g4.1) (by simpa using Ne.symm g4.2.1), j.M.push4u hxs hu, j.W.ext x, j.B.extM x fun y hy => by simp only [List.mem_singleton]; exact fun h => (j.f y hy).2.2.2 (by rw [h]; simp), j.R.ext x (by simpa using Ne.symm g4.2.2), j.f, j.g, j.h⟩
/-- the book has a dip more -/
theorem Lw.dip (j : Lw C H S L b md a A k t p c d db rest fs fb ts ds us ms) {u l : Addr} {q : Str × Str} (x : Ext [b] H H') (hl : H l = none) (hu : H' u = some (.tup [.str q.1, .str q.2])) (hq : q.1 ∈ c.map (·.1)) (hd : db.length < 100) (B : BookAt C H' b 24 { A with ld := l } (k.map tv) ts p (c.map tv) (ds ++ [.ref u]) us) : Lw C H' S L b md a { A with ld := l } k t p c d (db ++ [q]) rest fs fb ts (ds ++ [.ref u]) us ms := by
  have fb' := j.f b (by simp)
  have len1 : (db ++ [q]).length = db.length + 1 := by rw [List.length_append]; rfl
  refine ⟨j.s.keepM x (by simpa using Ne.symm fb'.1) (by simpa using Ne.symm fb'.2.1), j.M.ext x fun y hy => by simp only [List.mem_singleton]; exact fun h => fb'.2.2.2 (by rw [← h]; exact hy), j.W.ext x, ⟨B, j.B.T.ext x, (j.B.D.ext x).snoc hu, j.B.F.ext x, ⟨j.B.G.kn, j.B.G.k8, j.B.G.cn, j.B.G.c8, j.B.G.ck, fun z hz => ?_, by omega⟩, j.B.nl, by omega, j.B.fl, j.B.tl, j.B.fo⟩, j.R.ext x (by simpa using Ne.symm fb'.2.2.1), ?_, j.g, j.h⟩
  · rcases List.mem_append.mp hz with hz | hz
    · exact j.B.G.dc z hz
    · simp at hz
      rw [hz]
      exact hq
  · have f := j.f
    intro y hy
    simp only [Bk.all, List.mem_cons, List.not_mem_nil, or_false] at hy
    rcases hy with rfl | rfl | rfl | rfl | rfl | rfl | rfl
    · exact f _ (by simp)
    · exact f _ (by simp)
    · exact f _ (by simp)
    · exact f _ (by simp)
    · exact f _ (by simp)
    · obtain ⟨h1, h2⟩ := src_ne_new j.s hl
      obtain ⟨_, h3, _⟩ := j.R
      exact ⟨h1, h2, (ne_of_none h3 hl).symm, fun h => j.M.new hl _ h rfl⟩
    · exact f _ (by simp)
/-- one of those to come is taken -/
theorem Lw.pop (j : Lw C H S L b md a A k t p c d db rest fs fb ts ds us ms) {q : Str × Str} {r2 : List (Str × Str)} (hr : rest = q :: r2) : ∃ u xs, H md = some (.lst (.ref u :: xs)) ∧ xs.length = r2.length ∧ H u = some (.tup [.str q.1, .str q.2]) ∧ Lw C (upd H md (.lst xs)) S L b md a A k t p c d db r2 fs fb ts ds us ms := by
  obtain ⟨as, h1, h2⟩ := j.R
  subst hr
  cases h2 with
  | @cons u _ as' _ hu hr =>
    have h1' : H md = some (.lst (.ref u :: as'.map V.ref)) := h1
    have x : Ext [md] H (upd H md (.lst (as'.map V.ref))) := ext_lst h1'
    refine ⟨u, as'.map V.ref, h1', by rw [List.length_map, paired_len hr], hu, ⟨j.s.keepM x (by simpa using Ne.symm j.h.1) (by simpa using Ne.symm j.h.2), j.M.ext x fun y hy => by simpa using (j.g y hy).2.2, j.W.ext x, j.B.extM x fun y hy => by simpa using (j.f y hy).2.2.1, ⟨as', upd_same, paired_ext x hr⟩, j.f, j.g, j.h⟩⟩
theorem Lw.kept (j : Lw C H S L b md a A k t p c d db rest fs fb ts ds us ms) (hd : ∀ q ∈ d, q.1 ∈ c.map (·.1)) (hl : d.length ≤ 1000) : Kept k c d := ⟨j.B.G.kn, j.B.G.k8, j.B.G.cn, j.B.G.c8, j.B.G.ck, hd, hl⟩
end
end Tp
namespace Tp
open PySem PySem.Spec PyProof.Rows L2 He
/-- the answer stands -/
def Due (H : Hp) : Vd → V → Prop
  | .bad v, x => ∃ l, x = .ref l ∧ H l = some (.lst [.str "amount", v, .bl false])
  | .full, x => ∃ l, x = .ref l ∧ H l = some (.lst [.str "full", .int 32, .bl false])
  | .ok, x => x = .non
theorem Due.ext {H H' : Hp} {vd : Vd} {x : V} (h : Due H vd x) (e : Ext [] H H') : Due H' vd x := by
  cases vd with
  | bad v =>
    obtain ⟨l, h1, h2⟩ := h
    exact ⟨l, h1, e.keep _ _ h2 (by simp)⟩
  | full =>
    obtain ⟨l, h1, h2⟩ := h
    exact ⟨l, h1, e.keep _ _ h2 (by simp)⟩
  | ok => exact h
theorem Told.of {Q : VK} {H : Hp} {vd : Vd} (h : ∀ x H', Ext [] H H' → vd ≠ .ok → Due H' vd x → Q x H') : Told Q H vd := by
  cases vd with
  | bad v => exact fun a H' ha e hx => h _ H' e (by simp) ⟨a, rfl, hx⟩
  | full => exact fun a H' ha e hx => h _ H' e (by simp) ⟨a, rfl, hx⟩
  | ok => trivial
end Tp
namespace Tp
open PySem PySem.Spec PyProof.Rows L2 He
theorem Due.ref {H : Hp} {vd : Vd} {x : V} (h : Due H vd x) (hn : vd ≠ .ok) : ∃ l, x = .ref l := by
  cases vd with
  | bad v => exact ⟨_, h.choose_spec.1⟩
  | full => exact ⟨_, h.choose_spec.1⟩
  | ok => exact absurd rfl hn
theorem Due.non {H : Hp} {vd : Vd} {x : V} (h : Due H vd x) (hn : vd = .ok) : x = .non := by
  subst hn
  exact h
end Tp
/-! Fg: a model and its book, both growing -/
namespace Tp
open PySem PySem.Spec PyProof.Rows L2 He
/-- a fact about these amounts -/
def inA (xs : List Am) : Fk → Prop
  | .tell x y => x ∈ xs ∧ y ∈ xs
  | .some x => x ∈ xs
theorem inA.ok {xs : List Am} {f : Fk} (h : inA xs f) (hx : ∀ q ∈ xs, okS q.1) : okF f := by
  cases f with
  | tell x y => exact ⟨hx _ h.1, hx _ h.2⟩
  | some x => exact hx _ h
section
variable {H H' : Hp} {a : Mad} {k t c d : List (Str × Str)} {p : List Str} {fs : List V}
end
/-- a model (m) and its book (b), each as it is now -/
structure Lx (C : Addr) (H : Hp) (S L b : Addr) (a : Mad) (A : Bk) (k t : List (Str × Str)) (p : List Str) (c d : List (Str × Str)) (kb tb : List (Str × Str)) (pb : List Str) (cb db : List (Str × Str)) (fs fb : List Fk) (ts ds us ms : List V) : Prop where
  s : SrcAt H S L
  M : MdAt H a k t p c d ms
  W : FL H ms fs
  B : BkI C H b 24 A kb tb pb cb db fb ts ds us
  f : ∀ y ∈ A.all b, y ≠ S ∧ y ≠ L ∧ y ∉ a.all
  g : ∀ y ∈ a.all, y ≠ S ∧ y ≠ L
section
variable {C : Addr} {H H' : Hp} {S L b : Addr} {a : Mad} {A : Bk} {k t : List (Str × Str)} {p : List Str} {c d kb tb : List (Str × Str)} {pb : List Str} {cb db : List (Str × Str)} {fs fb : List Fk} {ts ds us ms : List V}
theorem Lx.draw (j : Lx C H S L b a A k t p c d kb tb pb cb db fs fb ts ds us ms) (x : Ext [S] H H') (s : SrcAt H' S L) : Lx C H' S L b a A k t p c d kb tb pb cb db fs fb ts ds us ms :=
  ⟨s, j.M.ext x fun y hy => by simpa using (j.g y hy).1, j.W.ext x, j.B.extM x fun y hy => by simpa using (j.f y hy).1, j.f, j.g⟩
theorem Lx.grow (j : Lx C H S L b a A k t p c d kb tb pb cb db fs fb ts ds us ms) (x : Ext [] H H') : Lx C H' S L b a A k t p c d kb tb pb cb db fs fb ts ds us ms := j.draw x.nil (j.s.ext x)
/-- a part of the model changes -/
theorem Lx.md (j : Lx C H S L b a A k t p c d kb tb pb cb db fs fb ts ds us ms) {y : Addr} (hy : y ∈ a.all) (x : Ext [y] H H') {k' t' : List (Str × Str)} {p' : List Str} {c' d' : List (Str × Str)} {ms' : List V} {fs' : List Fk} (M : MdAt H' a k' t' p' c' d' ms') (W : FL H' ms' fs') : Lx C H' S L b a A k' t' p' c' d' kb tb pb cb db fs' fb ts ds us ms' := by
  have gy := j.g y hy
  exact ⟨j.s.keepM x (by simpa using Ne.symm gy.1) (by simpa using Ne.symm gy.2), M, W, j.B.extM x fun z hz => by simp only [List.mem_singleton]; exact fun h => (j.f z hz).2.2 (by rw [h]; exact hy), j.f, j.g⟩
/-- a part of the book changes -/
theorem Lx.bk (j : Lx C H S L b a A k t p c d kb tb pb cb db fs fb ts ds us ms) {y : Addr} (hy : y ∈ A.all b) (x : Ext [y] H H') {k' t' : List (Str × Str)} {p' : List Str} {c' d' : List (Str × Str)} {fb' : List Fk} {ts' ds' us' : List V} (B : BkI C H' b 24 A k' t' p' c' d' fb' ts' ds' us') : Lx C H' S L b a A k t p c d k' t' p' c' d' fs fb' ts' ds' us' ms := by
  have fy := j.f y hy
  exact ⟨j.s.keepM x (by simpa using Ne.symm fy.1) (by simpa using Ne.symm fy.2.1), j.M.ext x fun z hz => by simp only [List.mem_singleton]; exact fun h => fy.2.2 (by rw [← h]; exact hz), j.W.ext x, B, j.f, j.g⟩
theorem Lx.told (j : Lx C H S L b a A k t p c d kb tb pb cb db fs fb ts ds us ms) {u : Addr} {f : Fk} (x : Ext [A.lf] H H') (hu : isFk H' u f) (hf : okF f) (hl : us.length < 100) (B : BookAt C H' b 24 A (kb.map tv) ts pb (cb.map tv) ds (us ++ [.ref u])) : Lx C H' S L b a A k t p c d kb tb pb cb db fs (fb ++ [f]) ts ds (us ++ [.ref u]) ms := by
  have hlen := j.B.F.len
  refine j.bk mem_all_lf x ⟨B, j.B.T.ext x, j.B.D.ext x, (j.B.F.ext x).snoc hu, j.B.G, j.B.nl, j.B.dl, by rw [List.length_append]; show fb.length + 1 ≤ 1000; omega, j.B.tl, fun g hg => ?_⟩
  rcases List.mem_append.mp hg with hg | hg
  · exact j.B.fo g hg
  · simp at hg
    rw [hg]
    exact hf
theorem Lx.dip (j : Lx C H S L b a A k t p c d kb tb pb cb db fs fb ts ds us ms) {u l : Addr} {q : Str × Str} (x : Ext [b] H H') (hl : H l = none) (hu : H' u = some (.tup [.str q.1, .str q.2])) (hq : q.1 ∈ cb.map (·.1)) (hd : db.length < 100) (B : BookAt C H' b 24 { A with ld := l } (kb.map tv) ts pb (cb.map tv) (ds ++ [.ref u]) us) : Lx C H' S L b a { A with ld := l } k t p c d kb tb pb cb (db ++ [q]) fs fb ts (ds ++ [.ref u]) us ms := by
  have fb' := j.f b (by simp)
  have len1 : (db ++ [q]).length = db.length + 1 := by rw [List.length_append]; rfl
  refine ⟨j.s.keepM x (by simpa using Ne.symm fb'.1) (by simpa using Ne.symm fb'.2.1), j.M.ext x fun y hy => by simp only [List.mem_singleton]; exact fun h => fb'.2.2 (by rw [← h]; exact hy), j.W.ext x, ⟨B, j.B.T.ext x, (j.B.D.ext x).snoc hu, j.B.F.ext x, ⟨j.B.G.kn, j.B.G.k8, j.B.G.cn, j.B.G.c8, j.B.G.ck, fun z hz => ?_, by omega⟩, j.B.nl, by omega, j.B.fl, j.B.tl, j.B.fo⟩, ?_, j.g⟩
  · rcases List.mem_append.mp hz with hz | hz
    · exact j.B.G.dc z hz
    · simp at hz
      rw [hz]
      exact hq
  · have f := j.f
    intro y hy
    simp only [Bk.all, List.mem_cons, List.not_mem_nil, or_false] at hy
    rcases hy with rfl | rfl | rfl | rfl | rfl | rfl | rfl
    · exact f _ (by simp)
    · exact f _ (by simp)
    · exact f _ (by simp)
    · exact f _ (by simp)
    · exact f _ (by simp)
    · obtain ⟨h1, h2⟩ := src_ne_new j.s hl
      exact ⟨h1, h2, fun h => j.M.new hl _ h rfl⟩
    · exact f _ (by simp)
theorem Lx.thirst (j : Lx C H S L b a A k t p c d kb tb pb cb db fs fb ts ds us ms) {u : Addr} {q : Str × Str} (x : Ext [A.lt] H H') (hu : H' u = some (.tup [.str q.1, .str q.2])) (hl : tb.length < 1000) (B : BookAt C H' b 24 A (kb.map tv) (ts ++ [.ref u]) pb (cb.map tv) ds us) : Lx C H' S L b a A k t p c d kb (tb ++ [q]) pb cb db fs fb (ts ++ [.ref u]) ds us ms :=
  j.bk (by simp) x ⟨B, (j.B.T.ext x).snoc hu, j.B.D.ext x, j.B.F.ext x, j.B.G, j.B.nl, j.B.dl, j.B.fl, by rw [List.length_append]; show tb.length + 1 ≤ 1000; omega, j.B.fo⟩
end
end Tp
namespace Tp
open PySem PySem.Spec PyProof.Rows L2 He
/-- what changes while facts are noted -/
structure Nt (H0 H : Hp) (S L : Addr) (a : Mad) (k t : List (Str × Str)) (p : List Str) (c d : List (Str × Str)) (ms : List V) (fs : List Fk) : Prop where
  x : Ext [S, a.m5] H0 H
  s : SrcAt H S L
  M : MdAt H a k t p c d ms
  W : FL H ms fs
  i : ∀ f ∈ fs, inA (amtD k c d d.length) f
  g : ∀ x ∈ a.all, x ≠ S ∧ x ≠ L
section
variable {H0 H H' : Hp} {S L : Addr} {a : Mad} {k t : List (Str × Str)} {p : List Str} {c d : List (Str × Str)} {ms : List V} {fs : List Fk}
theorem Nt.draw (j : Nt H0 H S L a k t p c d ms fs) (x : Ext [S] H H') (s : SrcAt H' S L) : Nt H0 H' S L a k t p c d ms fs :=
  ⟨j.x.trans (x.mono fun y h => by simp at h; simp [h]), s, j.M.ext x fun y hy => by simpa using (j.g y hy).1, j.W.ext x, j.i, j.g⟩
theorem Nt.grow (j : Nt H0 H S L a k t p c d ms fs) (x : Ext [] H H') : Nt H0 H' S L a k t p c d ms fs := j.draw x.nil (j.s.ext x)
end
end Tp
namespace Tp
open PySem PySem.Spec PyProof.Rows L2 He
end Tp
namespace Tp
open PySem PySem.Spec PyProof.Rows L2 He
end Tp
namespace Tp
open PySem PySem.Spec PyProof.Rows L2 He
/-- kinds, pots, cloths and dips that go together -/
structure GX (k t : List (Str × Str)) (p : List Str) (c d : List (Str × Str)) : Prop where
  kn : Names (k.map (·.1))
  kh : ∀ q ∈ k, q.2 = "loose" ∨ q.2 = "fast" ∨ q.2 = "unsure"
  k1 : 1 ≤ k.length
  k8 : k.length ≤ 8
  tk : ∀ q ∈ t, q.1 ∈ k.map (·.1) ∧ q.2 ∈ k.map (·.1)
  pn : Names p
  p1 : 1 ≤ p.length
  p8 : p.length ≤ 8
  cn : Names (c.map (·.1))
  ck : ∀ q ∈ c, q.2 ∈ k.map (·.1)
  c1 : 1 ≤ c.length
  c8 : c.length ≤ 8
  dc : ∀ q ∈ d, q.1 ∈ c.map (·.1) ∧ q.2 ∈ p
theorem Names.snoc {zs : List Str} {z : Str} (h : Names zs) (h1 : z ∉ zs) (h2 : nmS z = true) (h3 : okS z) : Names (zs ++ [z]) := by
  refine ⟨?_, fun x hx => ?_, fun x hx => ?_⟩
  · rw [List.nodup_append]
    exact ⟨h.nd, by simp, fun a ha b hb e => by simp at hb; exact h1 (by rw [← hb, ← e]; exact ha)⟩
  · rcases List.mem_append.mp hx with hx | hx
    · exact h.nm x hx
    · simp at hx
      rw [hx]
      exact h2
  · rcases List.mem_append.mp hx with hx | hx
    · exact h.ok x hx
    · simp at hx
      rw [hx]
      exact h3
section
variable {k t : List (Str × Str)} {p : List Str} {c d : List (Str × Str)} {q : Str × Str} {z : Str}
theorem GX.kept (G : GX k t p c d) (hd : d.length ≤ 1000) : Kept k c d := ⟨G.kn.nd, G.k8, G.cn.nd, G.c8, G.ck, fun q hq => (G.dc q hq).1, hd⟩
theorem GX.nl (G : GX k t p c d) : ∀ z, z ∈ k.map (·.1) ∨ z ∈ c.map (·.1) → z.length ≤ 1000 := fun z hz => by
  rcases hz with hz | hz
  · have := nm_len (G.kn.nm z hz); omega
  · have := nm_len (G.cn.nm z hz); omega
theorem GX.kind (G : GX k t p c d) (h1 : q.1 ∉ k.map (·.1)) (h2 : nmS q.1 = true) (h3 : okS q.1) (h4 : q.2 = "loose" ∨ q.2 = "fast" ∨ q.2 = "unsure") (h5 : k.length < 8) : GX (k ++ [q]) t p c d := by
  have e : (k ++ [q]).map (·.1) = k.map (·.1) ++ [q.1] := by rw [List.map_append]; rfl
  have l : (k ++ [q]).length = k.length + 1 := by rw [List.length_append]; rfl
  refine ⟨by rw [e]; exact G.kn.snoc h1 h2 h3, fun x hx => ?_, by omega, by omega, fun x hx => ?_, G.pn, G.p1, G.p8, G.cn, fun x hx => ?_, G.c1, G.c8, G.dc⟩
  · rcases List.mem_append.mp hx with hx | hx
    · exact G.kh x hx
    · simp at hx
      rw [hx]
      exact h4
  · rw [e]
    exact ⟨List.mem_append_left _ (G.tk x hx).1, List.mem_append_left _ (G.tk x hx).2⟩
  · rw [e]
    exact List.mem_append_left _ (G.ck x hx)
theorem GX.pot (G : GX k t p c d) (h1 : z ∉ p) (h2 : nmS z = true) (h3 : okS z) (h5 : p.length < 8) : GX k t (p ++ [z]) c d := by
  have l : (p ++ [z]).length = p.length + 1 := by rw [List.length_append]; rfl
  exact ⟨G.kn, G.kh, G.k1, G.k8, G.tk, G.pn.snoc h1 h2 h3, by omega, by omega, G.cn, G.ck, G.c1, G.c8, fun x hx => ⟨(G.dc x hx).1, List.mem_append_left _ (G.dc x hx).2⟩⟩
theorem GX.cloth (G : GX k t p c d) (h1 : q.1 ∉ c.map (·.1)) (h2 : nmS q.1 = true) (h3 : okS q.1) (h4 : q.2 ∈ k.map (·.1)) (h5 : c.length < 8) : GX k t p (c ++ [q]) d := by
  have e : (c ++ [q]).map (·.1) = c.map (·.1) ++ [q.1] := by rw [List.map_append]; rfl
  have l : (c ++ [q]).length = c.length + 1 := by rw [List.length_append]; rfl
  refine ⟨G.kn, G.kh, G.k1, G.k8, G.tk, G.pn, G.p1, G.p8, by rw [e]; exact G.cn.snoc h1 h2 h3, fun x hx => ?_, by omega, by omega, fun x hx => ?_⟩
  · rcases List.mem_append.mp hx with hx | hx
    · exact G.ck x hx
    · simp at hx
      rw [hx]
      exact h4
  · rw [e]
    exact ⟨List.mem_append_left _ (G.dc x hx).1, (G.dc x hx).2⟩
theorem GX.dip (G : GX k t p c d) (h1 : q.1 ∈ c.map (·.1)) (h2 : q.2 ∈ p) : GX k t p c (d ++ [q]) := ⟨G.kn, G.kh, G.k1, G.k8, G.tk, G.pn, G.p1, G.p8, G.cn, G.ck, G.c1, G.c8, fun x hx => by
  rcases List.mem_append.mp hx with hx | hx
  · exact G.dc x hx
  · simp at hx
    rw [hx]
    exact ⟨h1, h2⟩⟩
theorem GX.thirst (G : GX k t p c d) (h1 : q.1 ∈ k.map (·.1)) (h2 : q.2 ∈ k.map (·.1)) : GX k (t ++ [q]) p c d := ⟨G.kn, G.kh, G.k1, G.k8, fun x hx => by
  rcases List.mem_append.mp hx with hx | hx
  · exact G.tk x hx
  · simp at hx
    rw [hx]
    exact ⟨h1, h2⟩, G.pn, G.p1, G.p8, G.cn, G.ck, G.c1, G.c8, G.dc⟩
end
/-- what a book is, told by what it is made of -/
theorem BkI.of {C : Addr} {H : Hp} {b : Addr} {A : Bk} {k t : List (Str × Str)} {p : List Str} {c d : List (Str × Str)} {fs : List Fk} {ts ds us : List V} (G : GX k t p c d) (B : BookAt C H b 24 A (k.map tv) ts p (c.map tv) ds us) (T : PT H ts t) (D : PT H ds d) (F : FL H us fs) (hd : d.length ≤ 100) (hf : fs.length ≤ 1000) (ht : t.length ≤ 1000) (ho : ∀ f ∈ fs, okF f) : BkI C H b 24 A k t p c d fs ts ds us :=
  ⟨B, T, D, F, G.kept (by omega), G.nl, hd, hf, ht, ho⟩
end Tp
namespace Tp
open PySem PySem.Spec PyProof.Rows L2 He
end Tp
/-! Dt: dicts whose keys are tuples: setdefault, displays, comprehensions -/
namespace Tp
open PySem PySem.Spec PyProof.Rows L2 He
section
variable {X : Cx} {pins : List (Addr × Obj)} {σ : L2.St} {H : Hp} {s : Shared} {a b : Addr} {r : Value} {d v : V} {k : List Key} {kvs : List (List Key × V)} {A : Around} {E : Value → Shared → Prop}
/-- behind a store -/
theorem dt_stored {h' : Heap} {t' : Nat} {xs : List (List Key × Addr × Value)} (I : Inv X pins σ H s) (e : H a = some (.dT kvs)) (eb : H b = some (.tup (k.map kV))) (hl : kvs.length < sizeLine) (hd : (a == sysModules) = false) (rel : KT H kvs xs) (rv : RelV v r)
    (dd' : h'.DictOfH (tupleKind (mixKind X.prog X.w)) a (storedH xs k b r)) (hs : Heap.SameBut a s.heap h') : Inv X pins σ (upd H a (.dT (putK kvs k v))) { s with heap := h', toks := t' } := by
  have hl2 : (putK kvs k v).length ≤ sizeLine := by have := length_putK kvs k v; omega
  obtain ⟨q, es, ep, hq, h2, h3, h4, _, h5⟩ := dd'
  refine d_write (t' := t') I (by rw [e]; exact True.intro) hs ⟨q, hq⟩ ⟨hl2, hd, _, (rel.put k eb rv).keeps fun c ys ec => ?_, q, es, ep, hq, h2, h3, h4, h5⟩
  rw [upd_ne (ne_of ec e (fun z => nomatch z))]
  exact ec
end
section
variable {X : Cx} {o e f : Expr} {td ty tx : TE} {apos cpos : Pos}
end
/-! ### displays -/
/-! ### comprehensions -/
theorem d_compSet {X : Cx} {pins : List (Addr × Obj)} {σ : L2.St} {H : Hp} {s : Shared} {E : Value → Shared → Prop} {D b : Addr} {kvs : List (List Key × V)} {k : List Key} {v : V} {r : Value} {Q : Unit → Shared → Prop} (room : X.A.units < cLine) (I : Inv X pins σ H s)
    (hD : H D = some (.dT kvs)) (eb : H b = some (.tup (k.map kV))) (hz : kvs.length < sizeLine) (rv : RelV v r) (h : ∀ s', Inv X pins σ (upd H D (.dT (putK kvs k v))) s' → Q () s') : wpAny (model X.prog X.w) X.A (dictSet D (.ref b) r) Q E s := by
  obtain ⟨z, hd, xs, rel, dd⟩ := dt_of I.hok hD
  exact wpAny_dictSet_heap (hsz := by rw [← Paired.length rel]; exact z) (knd := tupleKind (mixKind X.prog X.w)) room (key_of I.hok eb) dd fun h' dd' hs => h _ (dt_stored I hD eb hz hd rel rv dd' hs)
/-- what a turn must do: the pair is stored, or nothing is -/
def turnT (own : List Nat) (base : L2.St) (g : TG) (tt : TT) (tk tv : TE) (D : Addr) (next : Hp → Prop) (x : V) (G : Hp) : Prop :=
  g x base G fun ρ G1 => wipe ρ own = base ∧ tt ρ G1 fun good G2 => if good = true then tk ρ G2 fun key G3 => tv ρ G3 fun val G4 =>
    ∃ (kvs : List (List Key × V)) (k : List Key) (b : Addr), key = .ref b ∧ G4 D = some (.dT kvs) ∧ G4 b = some (.tup (k.map kV)) ∧ kvs.length < sizeLine ∧ next (upd G4 D (.dT (putK kvs k val))) else next G2
/-- {key: val for ..}, its keys tuples -/
def tDcT (wi : TI) (g : TG) (tt : TT) (tk tv : TE) (own : List Nat) : TE := fun σ G Q => wi σ G fun J G1 => ∀ D, G1 D = none → ∃ Stand : Nat → Nat → Hp → Prop, (∃ left, Stand 0 left (upd G1 D (.dT []))) ∧
  ∀ n left G2, Stand n left G2 → (J.stop n G2 ∧ Q (.ref D) G2) ∨ (J.go n G2 ∧ ∃ next : Hp → Prop, (∀ G3, next G3 → ∃ less, less < left ∧ Stand (n + 1) less G3) ∧ ∀ x G3, J.yld n G2 x G3 → turnT own (wipe σ own) g tt tk tv D next x G3)
section
variable {X : Cx} {kx vx tgt src : Expr} {tests : List Expr} {inner : Scope} {own : List (Str × Nat)} {cp p2 : Pos} {wi : TI} {g : TG} {tt : TT} {tk tv : TE} {use : Option (Value → Sem Unit)} {Qf : Value → Shared → Prop}
/-- the parts of such a comprehension, each in the block that it runs in -/
structure CompT (X : Cx) (kx vx tgt src : Expr) (tests : List Expr) (inner : Scope) (own : List (Str × Nat)) (wi : TI) (g : TG) (tt : TT) (tk tv : TE) : Prop where
  calm : X.calm = true
  room : X.A.units < cLine
  ndN : X.N.Nodup
  walk : PI X tgt src wi
  blk : BlkOk X.N X.env.scope inner own
  pg : ∀ (s : Shared) (G : Hp) (C : Addr) (cl : List (Str × Addr)) (fp : List Addr), PG (X.blk s G inner (compEnvC inner cl C X.env) fp) tgt g
  pt : ∀ (s : Shared) (G : Hp) (C : Addr) (cl : List (Str × Addr)) (fp : List Addr), PTs (X.blk s G inner (compEnvC inner cl C X.env) fp) tests tt
  pk : ∀ (s : Shared) (G : Hp) (C : Addr) (cl : List (Str × Addr)) (fp : List Addr), PE (X.blk s G inner (compEnvC inner cl C X.env) fp) kx tk
  pv : ∀ (s : Shared) (G : Hp) (C : Addr) (cl : List (Str × Addr)) (fp : List Addr), PE (X.blk s G inner (compEnvC inner cl C X.env) fp) vx tv
  same : ∀ z, foldedSetIterable src X.env z = pure z
theorem compT_run {pins : List (Addr × Obj)} {s : Shared} {σ : L2.St} {G : Hp} {Q : VK} (c : CompT X kx vx tgt src tests inner own wi g tt tk tv) (I : Inv X pins σ G s) (told : tDcT wi g tt tk tv (own.map (·.2)) σ G Q)
    (after : ∀ D C s' m G', Inv X pins σ G' s' → Q (.ref D) G' → s'.heap.Ns C m → FpOk X pins G' C → compPost (model X.prog X.w) X.A X.xe use Qf (.ref D) C (.ok .next) s') :
    wpAny (model X.prog X.w) X.A (comprehension (.DictComp kx vx [⟨tgt, src, tests, 0⟩] inner cp) inner X.env p2 newDict false (eval src X.env) use) Qf X.xe s := by
  have caught : ∀ y ∈ inner.names, y.2 = .free → ∃ cell, X.env.cells.lookup y.1 = some cell := fun y hy e => (c.blk.free y hy e).elim (fun l => I.ok.has _ (.inl l)) fun l => I.ok.has _ (.inr l)
  refine wpAny_comprehension_free (use := use) rfl c.same (closure_ok caught) c.blk.kind (fun y hy e => (c.blk.uniq y hy).trans (congrArg some e)) (thn (c.walk.run pins s σ G _ I told) fun _ s1 got => thn got fun _ s2 src2 => ?_)
  obtain ⟨it, fp, tn, J, G2, rfl, I2, T, at0, off2, q⟩ := src2
  refine wpAny_newObj_type (newEnv_comp ?_)
  -- the dict
  obtain ⟨D, hD⟩ : ∃ D, s2.heap.objs.size = D := ⟨_, rfl⟩
  have fresh := I2.hok.fresh (Nat.le_of_eq hD)
  obtain ⟨Stand, ⟨left0, first⟩, step⟩ := q D fresh
  have grown : ∀ b o, s2.heap.get? b = some o → (s2.heap.push { cls := .type "dict", data := .dict #[] }).get? b = some o := fun b o => Heap.get?_push_of_some _
  have big : D + 1 = (s2.heap.push { cls := .type "dict", data := .dict #[] }).objs.size := by rw [Heap.size_push, hD]
  have I3 : Inv X pins σ (upd G2 D (.dT [])) { s2 with heap := s2.heap.push { cls := .type "dict", data := .dict #[] } } := I2.laid (t' := s2.toks) grown (Nat.le_of_eq hD) (by rw [← hD]; exact dt_empty s2.heap I2.big)
  have below : ∀ b ∈ fp, b < D := fun b hb => let ⟨_, e, _⟩ := T.obj _ _ at0 b hb; hD ▸ Heap.lt_size e
  have off3 : ∀ b ∈ fp, FpOk X pins (upd G2 D (.dT [])) b := fun b hb => ⟨(upd_ne (Nat.ne_of_lt (below b hb))).trans (off2 b hb).1, (off2 b hb).2⟩
  have at3 := T.keep _ _ _ at0 fun b _ o e => grown b o e
  rw [hD]
  generalize hs3 : ({ s2 with heap := s2.heap.push { cls := .type "dict", data := .dict #[] } } : Shared) = s3 at I3
  have hh3 : s2.heap.push { cls := .type "dict", data := .dict #[] } = s3.heap := by rw [← hs3]
  rw [hh3] at big at3
  generalize upd G2 D (.dT []) = G3 at I3 off3 first
  have IB := block_start I3 c.blk c.ndN fun b hb => ⟨off3 b hb, Nat.lt_of_lt_of_eq (Nat.lt_succ_of_lt (below b hb)) big⟩
  have at4 : tn 0 (pushCells (s3.heap.push { cls := .type "dict", data := .dict #[] }) inner.names) := T.keep _ _ _ at3 fun b _ o e => pushCells_keeps _ _ _ _ (Heap.get?_push_of_some _ e)
  have pg := c.pg s3 G3 s3.heap.objs.size (cellsFrom (s3.heap.objs.size + 1) inner.names (cloFrom X.env.cells inner.names [])) fp
  have pt := c.pt s3 G3 s3.heap.objs.size (cellsFrom (s3.heap.objs.size + 1) inner.names (cloFrom X.env.cells inner.names [])) fp
  have pk := c.pk s3 G3 s3.heap.objs.size (cellsFrom (s3.heap.objs.size + 1) inner.names (cloFrom X.env.cells inner.names [])) fp
  have pv := c.pv s3 G3 s3.heap.objs.size (cellsFrom (s3.heap.objs.size + 1) inner.names (cloFrom X.env.cells inner.names [])) fp
  show codeAny _ _ (.compStart (.DictComp kx vx [⟨tgt, src, tests, 0⟩] inner cp) 0 (.ref it) (.ref D) (compEnvC inner (cellsFrom (s3.heap.objs.size + 1) inner.names (cloFrom X.env.cells inner.names [])) s3.heap.objs.size X.env)) (compPost (model X.prog X.w) X.A X.xe use Qf (.ref D) s3.heap.objs.size) _
  generalize hce : compEnvC inner (cellsFrom (s3.heap.objs.size + 1) inner.names (cloFrom X.env.cells inner.names [])) s3.heap.objs.size X.env = ce at IB pg pt pk pv ⊢
  have cl : ce.locals = s3.heap.objs.size := by rw [← hce]; rfl
  have still : ∀ {ρ : L2.St} {G' : Hp} {s' : Shared}, Inv (X.blk s3 G3 inner ce fp) [] ρ G' s' → (∀ b ∈ fp, G' b = none) → ∀ b ∈ fp, FpOk (X.blk s3 G3 inner ce fp) [] G' b := fun {ρ G' s'} J' no b hb =>
    ⟨no b hb, (J'.ok.exf b hb).1, J'.ok.exfs b hb, .inl hb, (J'.ok.exf b hb).2, fun p hp => by cases hp⟩
  refine codeAny_compStart_dict ?all (T.self X.A 0 _ _ _ at4 ?all)
  refine compLoop_anyD (fun left s' => ∃ n G', Inv (X.blk s3 G3 inner ce fp) [] (wipe σ (own.map (·.2))) G' s' ∧ tn n s'.heap ∧ (∀ b ∈ fp, G' b = none) ∧ Stand n left G') ?_ left0 ⟨0, G3, IB, at4, fun b hb => (off3 b hb).1, first⟩
  rintro left s5 ⟨n, G5, I5, at5, no5, here⟩
  rcases step n left G5 here with ⟨ends, done⟩ | ⟨goes, next, less, body⟩
  · -- the source has ended: the def's own frame again
    refine thnF (T.done (X.blk s3 G3 inner ce fp) rfl rfl rfl c.calm n [] s5 _ G5 (fun _ _ => False) I5 (still I5 no5) at5 ends) fun r s6 ⟨hr, I6⟩ => ?_
    subst hr
    have back : Inv X pins σ G5 s6 := I3.call' (ch := fp) I6.os I6.base I6.hok I6.bare fun b hb => ⟨(off3 b hb).2.2.2.1, (off3 b hb).2.1, (off3 b hb).2.2.2.2.1, (off3 b hb).2.2.2.2.2⟩
    have gone : G5 s3.heap.objs.size = none := cl ▸ I6.free
    obtain ⟨m, ns, _⟩ := I6.loc
    have ns : s6.heap.Ns ce.locals m := ns
    exact after D s3.heap.objs.size s6 m G5 back done (cl ▸ ns) (I3.fpOk (Nat.le_refl _) gone)
  · refine thnF (T.item (X.blk s3 G3 inner ce fp) rfl rfl rfl c.calm n [] s5 _ G5 (fun _ _ => False) I5 (still I5 no5) at5 goes) fun r s6 ⟨u, hr, one⟩ => ?_
    subst hr
    refine thnF one fun _ s7 ⟨x, G7, I7, ru, given, at7, no7⟩ => ?_
    refine thnF (pg.run _ s7 _ G7 x u _ (I7.pinned (still I7 no7) (T.obj _ _ at7)) ru (body x G7 given)) fun _ s8 ⟨ρ, G8, I8, clean, q8⟩ => ?_
    refine thnF (pt.run _ s8 ρ G8 _ I8 q8) fun good s9 ⟨G9, I9, q9⟩ => ?_
    have turned : ∀ {s' : Shared} {G' : Hp}, Inv (X.blk s3 G3 inner ce fp) ([] ++ pinsAt fp s7.heap) ρ G' s' → next G' → ∃ m, m < left ∧ ∃ n G', Inv (X.blk s3 G3 inner ce fp) [] (wipe σ (own.map (·.2))) G' s' ∧ tn n s'.heap ∧ (∀ b ∈ fp, G' b = none) ∧ Stand n m G' := by
      intro s' G' J' nx
      obtain ⟨m, hm, stand⟩ := less G' nx
      have pinned : ∀ b ∈ fp, ∀ o, s7.heap.get? b = some o → s'.heap.get? b = some o ∧ G' b = none := fun b hb o e => (J'.pin (b, o) (List.mem_append_right _ (List.mem_append_right _ (mem_pinsAt hb e)))).imp id (·.1)
      refine ⟨m, hm, n + 1, G', (J'.unpinned (pins := [])).weak (by rw [← clean, wipe_length]) (fun j v e => ?_), T.keep _ _ _ at7 fun b hb o e => (pinned b hb o e).1, fun b hb => ?_, stand⟩
      · rw [← clean] at e
        exact (wipe_some e).1
      · exact let ⟨o, e, _⟩ := T.obj _ _ at7 b hb; (pinned b hb o e).2
    cases good with
    | false => exact turned I9 (by simpa using q9)
    | true =>
      simp only [if_true] at q9 ⊢
      refine thnF (pk.run _ s9 ρ G9 _ I9 q9) fun kv s10 ⟨key, G10, I10, rk, q10⟩ => ?_
      refine thnF (pv.run _ s10 ρ G10 _ I10 q10) fun vv s11 ⟨val, G11, I11, rv, kvs, k, b, ek, hD11, eb, hz, nx⟩ => ?_
      subst ek
      obtain rfl : kv = Value.ref b := rk
      exact d_compSet (X := X.blk s3 G3 inner ce fp) c.room I11 hD11 eb hz rv fun s12 I12 => turned I12 nx
/-- as a value -/
theorem pe_dcT (c : CompT X kx vx tgt src tests inner own wi g tt tk tv) : PE X (.DictComp kx vx [⟨tgt, src, tests, 0⟩] inner cp) (tDcT wi g tt tk tv (own.map (·.2))) := by
  constructor
  intro pins s σ G Q I told
  rw [arm_eval_DictComp]
  refine compT_run c I told fun D C s' m G' back q ns off => ⟨m, ns, fun h2 but => ⟨.ref D, G', ?_, rfl, q⟩⟩
  exact back.turned (t' := s'.toks) (fun b o hb e => (but.2 b hb).trans e) off.1 off.2.1 off.2.2.2.1 off.2.2.2.2.1 off.2.2.2.2.2
variable {n : Nat} {nm : Str} {np ap : Pos}
/-- name = {key: val for ..}, the name a local one -/
theorem ps_setDcT (c : CompT X kx vx tgt src tests inner own wi g tt tk tv) (at_ : X.N[n]? = some nm) (loc : X.env.scope.names.lookup nm = some .local)
    (sw : swapsWith (.DictComp kx vx [⟨tgt, src, tests, 0⟩] inner cp) (some (.Name nm np)) ap.line X.env = pure true) :
    PS X (.Assign [.Name nm np] (.DictComp kx vx [⟨tgt, src, tests, 0⟩] inner cp) ap) (tAsg (tDcT wi g tt tk tv (own.map (·.2))) (gName n)) := by
  constructor
  intro pins st σ G D inv told
  rw [exec_Assign_Name_used _ _ _ _ sw]
  refine wpAny_bind (wpAny_standAt (wpAny_bind ?_))
  show wpAny _ X.A (do let _ ← comprehension (.DictComp kx vx [⟨tgt, src, tests, 0⟩] inner cp) inner X.env (firstIterPos [⟨tgt, src, tests, 0⟩] cp) newDict false (eval src X.env) (some (assign (.Name nm np) X.env))) _ _ st
  replace told : tDcT wi g tt tk tv (own.map (·.2)) σ G (fun v G1 => gName n v σ G1 D.nx) := told
  refine wpAny_bind (thn (compT_run (Qf := fun _ st' => SP X pins D .next st') c inv told fun d C st' ns G' inv' then_ isNs fp => ?_) fun _ _ end_ => wpAny_pure (wpAny_pure end_))
  show wpAny _ _ (assign (.Name nm np) X.env (.ref d)) _ _ _
  refine wpAny_assign_Name (store_ok2 (v := V.ref d) inv' c.ndN at_ (.inl loc) rfl (fun st2 inv2 ⟨b, but, where_⟩ => ?_) (.inr loc))
  obtain ⟨p0, p1, p2, p3, p4, p5⟩ := fp
  have apart : C ≠ b := where_.elim (fun z => by rw [z]; exact p1) fun z q => p4 nm b z q.symm
  exact ⟨ns, isNs.sameBut but apart, fun h3 but3 => ⟨_, G', inv2.turned (t' := st2.toks) (fun x o hx e => (but3.2 x hx).trans e) p0 p1 p3 p4 p5, then_⟩⟩
end
/-- over a list: what holds behind n turns -/
theorem dcT_list {K : PySem.W.Frag} {l : Addr} {ys : List V} {g : TG} {tt : TT} {tk tv : TE} {own : List Nat} {st : L2.St} {G : Hp} {d : Addr} {fin : Hp → Prop} (at_ : Nat → Hp → Prop) (start : at_ 0 (upd G d (.dT []))) (stays : ∀ n G', n ≤ ys.length → at_ n G' → SqL K G' l ys)
    (turn : ∀ n y G', ys[n]? = some y → at_ n G' → turnT own (wipe st own) g tt tk tv d (at_ (n + 1)) y G') (done : ∀ G', at_ ys.length G' → fin G') :
    ∃ Stand : Nat → Nat → Hp → Prop, (∃ left, Stand 0 left (upd G d (.dT []))) ∧ ∀ n left G', Stand n left G' →
      ((Itl K l).stop n G' ∧ fin G') ∨ ((Itl K l).go n G' ∧ ∃ next : Hp → Prop, (∀ G2, next G2 → ∃ less, less < left ∧ Stand (n + 1) less G2) ∧ ∀ y G2, (Itl K l).yld n G' y G2 → turnT own (wipe st own) g tt tk tv d next y G2) := by
  have wk := walk_list (K := K) (a := l) (xs := ys)
  refine ⟨fun n left G' => left + n = ys.length ∧ at_ n G', ⟨ys.length, rfl, start⟩, ?_⟩
  rintro n left G' ⟨sum, here⟩
  have list := stays n G' (by omega) here
  rcases Nat.eq_or_lt_of_le (show n ≤ ys.length by omega) with rfl | lt
  · exact .inl ⟨wk.stops G' list, done G' here⟩
  · refine .inr ⟨wk.goes n G' lt list, at_ (n + 1), fun G2 there => ⟨left - 1, by omega, by omega, there⟩, fun y G2 given => ?_⟩
    obtain ⟨rfl, item⟩ := wk.yields n G' y G2 lt list given
    exact turn n y _ item here
end Tp
/-! Wa: chains of amounts, dicts whose keys are amounts -/
namespace Tp
open PySem PySem.Spec PyProof.Rows L2 He
/-- a chain of pairs of t leads from x to y -/
inductive Rc {α : Type} (t : List (α × α)) : α → α → Prop
  | refl (x : α) : Rc t x x
  | step {x y z : α} : Rc t x y → (y, z) ∈ t → Rc t x z
theorem Rc.trans {α : Type} {t : List (α × α)} {x y z : α} (h : Rc t x y) (h2 : Rc t y z) : Rc t x z := by
  induction h2 with
  | refl => exact h
  | step _ e ih => exact .step ih e
theorem rc_in {α : Type} {t : List (α × α)} {x y : α} {bs : List α} (hx : x ∈ bs) (hc : ∀ y ∈ bs, ∀ z, (y, z) ∈ t → z ∈ bs) (h : Rc t x y) : y ∈ bs := by
  induction h with
  | refl => exact hx
  | step _ e ih => exact hc _ ih _ e
theorem rc_end {α : Type} {t : List (α × α)} {x y : α} (h : Rc t x y) : y ∈ x :: t.map (·.2) := by
  cases h with
  | refl => simp
  | step _ e => exact List.mem_cons_of_mem _ (List.mem_map.mpr ⟨_, e, rfl⟩)
/-- an amount as a key -/
def amK (q : Am) : List Key := [Sum.inr q.1, Sum.inl (q.2 : Int)]
theorem amK_inj {a b : Am} (h : amK a = amK b) : a = b := by
  obtain ⟨x, i⟩ := a
  obtain ⟨y, j⟩ := b
  unfold amK at h
  injection h with h1 h2
  injection h2 with h2 _
  have e1 : x = y := Sum.inr.inj h1
  have e2 : (i : Int) = j := Sum.inl.inj h2
  rw [e1, Int.ofNat.inj e2]
theorem isAmt.key {H : Hp} {u : Addr} {q : Am} (h : isAmt H u q) : H u = some (.tup ((amK q).map kV)) := h
/-- what a dict of amounts holds -/
def dA (bs : List (Am × V)) : List (List Key × V) := bs.map fun q => (amK q.1, q.2)
theorem dA_len {bs : List (Am × V)} : (dA bs).length = bs.length := List.length_map ..
theorem valV_dA_none {bs : List (Am × V)} {x : Am} (h : x ∉ bs.map (·.1)) : valV (dA bs) (amK x) = none := by
  induction bs with
  | nil => rfl
  | cons q bs ih =>
    rw [List.map_cons, List.mem_cons, not_or] at h
    exact (valV_neg (p := (amK q.1, q.2)) fun e => h.1 (amK_inj e).symm).trans (ih h.2)
theorem valV_dA {bs : List (Am × V)} {x : Am} {v : V} (nd : (bs.map (·.1)).Nodup) (h : (x, v) ∈ bs) : valV (dA bs) (amK x) = some v := by
  induction bs with
  | nil => cases h
  | cons q bs ih =>
    rw [List.map_cons, List.nodup_cons] at nd
    rcases List.mem_cons.mp h with rfl | h2
    · exact valV_pos (p := (amK x, v)) rfl
    · have hne : ¬ q.1 = x := fun e => nd.1 (e ▸ List.mem_map.mpr ⟨(x, v), h2, rfl⟩)
      exact (valV_neg (p := (amK q.1, q.2)) fun e => hne (amK_inj e)).trans (ih nd.2 h2)
theorem mem_keys {bs : List (Am × V)} {x : Am} (h : x ∈ bs.map (·.1)) : ∃ v, (x, v) ∈ bs := by
  obtain ⟨⟨a, v⟩, hq, rfl⟩ := List.mem_map.mp h
  exact ⟨v, hq⟩
theorem isSome_dA {bs : List (Am × V)} {x : Am} : (valV (dA bs) (amK x)).isSome = decide (x ∈ bs.map (·.1)) := by
  induction bs with
  | nil => rfl
  | cons q bs ih =>
    by_cases e : q.1 = x
    · rw [show valV (dA (q :: bs)) (amK x) = some q.2 from valV_pos (p := (amK q.1, q.2)) (by rw [e])]
      simp [e]
    · rw [show valV (dA (q :: bs)) (amK x) = valV (dA bs) (amK x) from valV_neg (p := (amK q.1, q.2)) fun z => e (amK_inj z), ih]
      rw [List.map_cons, decide_eq_decide, List.mem_cons]
      exact ⟨.inr, fun h => h.resolve_left fun z => e z.symm⟩
theorem putK_dA {bs : List (Am × V)} {x : Am} {v : V} (h : x ∉ bs.map (·.1)) : putK (dA bs) (amK x) v = dA (bs ++ [(x, v)]) := by
  rw [putK_new v (valV_dA_none h)]
  unfold dA
  rw [List.map_append]
  rfl
/-- what x leads to, t told -/
def selA (x : Am) (t : List Pa) : List Am := (t.filter fun p => decide (p.1 = x)).map (·.2)
theorem selA_snoc {t : List Pa} {x y z : Am} : selA z (t ++ [(x, y)]) = if x = z then selA z t ++ [y] else selA z t := by
  unfold selA
  rw [filter_snoc]
  by_cases h : x = z
  · rw [if_pos h, if_pos (by simpa using h), List.map_append]
    rfl
  · rw [if_neg h, if_neg (by simpa using h), List.append_nil]
section
variable {H H' : Hp} {a r : Addr} {q : Am} {vs ws : List V} {xs : List Am} {o : HO}
theorem not_tup_dT {kvs : List (List Key × V)} (h : H a = some (.dT kvs)) : ∀ xs, H a ≠ some (.tup xs) := fun xs z => by rw [h] at z; cases z
theorem ext_at (h : ∀ xs, H a ≠ some (.tup xs)) : Ext [a] H (upd H a o) := Ext.refl.mut (by simp) h
theorem AmtAt.off (h : AmtAt H r xs) (na : ∀ xs, H a ≠ some (.tup xs)) (ne : r ≠ a) : AmtAt (upd H a o) r xs := h.ext (ext_at na) (by simpa using ne)
theorem AmtAt.len (h : AmtAt H r xs) (hl : H r = some (.lst vs)) : vs.length = xs.length := by
  obtain ⟨as, h1, h2⟩ := h
  rw [h1] at hl
  cases hl
  rw [List.length_map, amt_len h2]
theorem AmtAt.ne_dT {kvs : List (List Key × V)} (h : AmtAt H r xs) (hd : H a = some (.dT kvs)) : r ≠ a := fun e => by
  obtain ⟨as, h1, _⟩ := h
  rw [e, hd] at h1
  cases h1
/-- the dict of what each first leads to, t told yet -/
structure StepsA (H : Hp) (D : Addr) (ks : List (Am × Addr)) (t : List Pa) : Prop where
  top : H D = some (.dT (dA (ks.map fun q => (q.1, V.ref q.2))))
  kn : (ks.map (·.1)).Nodup
  an : (ks.map (·.2)).Nodup
  row : ∀ q ∈ ks, AmtAt H q.2 (selA q.1 t)
  all : ∀ p ∈ t, p.1 ∈ ks.map (·.1)
variable {D : Addr} {ks : List (Am × Addr)} {t : List Pa} {x y : Am} {l : Addr}
theorem StepsA.ext {ms : List Addr} (S : StepsA H D ks t) (e : Ext ms H H') (hD : D ∉ ms) (hk : ∀ q ∈ ks, q.2 ∉ ms) : StepsA H' D ks t :=
  ⟨e.keep _ _ S.top hD, S.kn, S.an, fun q hq => (S.row q hq).ext e (hk q hq), S.all⟩
theorem StepsA.off (S : StepsA H D ks t) : ∀ q ∈ ks, q.2 ≠ D := fun q hq => (S.row q hq).ne_dT S.top
theorem keysA : (ks.map fun q => (q.1, V.ref q.2)).map (·.1) = ks.map (·.1) := by
  rw [List.map_map]
  rfl
theorem StepsA.at (S : StepsA H D ks t) (h : (x, l) ∈ ks) : valV (dA (ks.map fun q => (q.1, V.ref q.2))) (amK x) = some (.ref l) :=
  valV_dA (by rw [keysA]; exact S.kn) (List.mem_map.mpr ⟨_, h, rfl⟩)
theorem StepsA.no (h : x ∉ ks.map (·.1)) : valV (dA (ks.map fun q => (q.1, V.ref q.2))) (amK x) = none := valV_dA_none (by rw [keysA]; exact h)
theorem StepsA.sel_none (S : StepsA H D ks t) (h : x ∉ ks.map (·.1)) : selA x t = [] := by
  unfold selA
  rw [List.map_eq_nil_iff, List.filter_eq_nil_iff]
  intro p hp hc
  exact h (by rw [← of_decide_eq_true hc]; exact S.all p hp)
/-- one pair more, its first known -/
theorem StepsA.push (S : StepsA H D ks t) (h : (x, l) ∈ ks) (hl : H l = some (.lst vs)) (hr : isAmt H r y) : StepsA (upd H l (.lst (vs ++ [.ref r]))) D ks (t ++ [(x, y)]) := by
  have e := ext_lst (ws := vs ++ [.ref r]) hl
  refine ⟨by rw [upd_ne (Ne.symm (S.off _ h))]; exact S.top, S.kn, S.an, fun q hq => ?_, fun p hp => ?_⟩
  · rw [selA_snoc]
    by_cases e2 : q.2 = l
    · have : q = (x, l) := by
        obtain ⟨i, hi⟩ := List.mem_iff_getElem?.mp hq
        obtain ⟨j, hj⟩ := List.mem_iff_getElem?.mp h
        have h1 : (ks.map (·.2))[i]? = some l := by rw [List.getElem?_map, hi, ← e2]; rfl
        have h2 : (ks.map (·.2))[j]? = some l := by rw [List.getElem?_map, hj]; rfl
        have this : i = j := (List.getElem?_inj (List.getElem?_eq_some_iff.mp h1).1 S.an).mp (h1.trans h2.symm)
        rw [this, hj] at hi
        exact (Option.some.inj hi).symm
      subst this
      rw [if_pos rfl]
      exact (S.row _ hq).pushU hl hr
    · have : ¬ x = q.1 := fun h2 => e2 (by
        have a1 := S.at h
        have a2 := S.at (x := q.1) (l := q.2) hq
        rw [← h2, a1] at a2
        exact (V.ref.inj (Option.some.inj a2)).symm)
      rw [if_neg this]
      exact (S.row _ hq).ext e (by simpa using e2)
  · rcases List.mem_append.mp hp with hp | hp
    · exact S.all p hp
    · rw [List.mem_singleton.mp hp]
      exact List.mem_map.mpr ⟨_, h, rfl⟩
/-- .. its first new -/
theorem StepsA.add (S : StepsA H D ks t) (h : x ∉ ks.map (·.1)) (hl : H l = none) : StepsA (upd (upd H l (.lst [])) D (.dT (dA ((ks ++ [(x, l)]).map fun q => (q.1, V.ref q.2))))) D (ks ++ [(x, l)]) t := by
  have hlD : l ≠ D := fun e => by rw [e, S.top] at hl; cases hl
  have e1 : Ext [] H (upd H l (.lst [])) := Ext.new hl
  have hD1 : (upd H l (.lst [])) D = some (.dT (dA (ks.map fun q => (q.1, V.ref q.2)))) := e1.keep _ _ S.top (by simp)
  refine ⟨upd_same, ?_, ?_, fun q hq => ?_, fun p hp => ?_⟩
  · rw [List.map_append, List.nodup_append]
    exact ⟨S.kn, by simp, fun a ha b hb e => by simp at hb; exact h (by rw [← hb, ← e]; exact ha)⟩
  · rw [List.map_append, List.nodup_append]
    refine ⟨S.an, by simp, fun a ha b hb e => ?_⟩
    simp at hb
    obtain ⟨q, hq, rfl⟩ := List.mem_map.mp ha
    obtain ⟨as, this, _⟩ := S.row q hq
    rw [e, hb, hl] at this
    cases this
  · rcases List.mem_append.mp hq with hq | hq
    · exact ((S.row q hq).ext e1 (by simp)).off (not_tup_dT hD1) (S.off q hq)
    · rw [List.mem_singleton.mp hq, S.sel_none h]
      exact AmtAt.off (⟨[], upd_same, .nil⟩ : AmtAt (upd H l (.lst [])) l []) (not_tup_dT hD1) hlD
  · rw [List.map_append]
    exact List.mem_append_left _ (S.all p hp)
end
/-! ### a walk -/
/-- what a walk has met, in its order, each with what led to it -/
structure BwI (t : List Pa) (x : Am) (H : Hp) (bs : List (Am × V)) : Prop where
  nd : (bs.map (·.1)).Nodup
  hx : x ∈ bs.map (·.1)
  val : ∀ (i : Nat) (y : Am) (v : V), bs[i]? = some (y, v) → (y = x ∧ v = .non) ∨ ∃ u p j w, v = .ref u ∧ isAmt H u p ∧ (p, y) ∈ t ∧ j < i ∧ bs[j]? = some (p, w)
section
variable {H H' : Hp} {t : List Pa} {x y z : Am} {bs : List (Am × V)} {u : Addr}
theorem BwI.ext {ms : List Addr} (B : BwI t x H bs) (e : Ext ms H H') : BwI t x H' bs :=
  ⟨B.nd, B.hx, fun i y v h => (B.val i y v h).imp id fun ⟨u, p, j, w, h1, h2, h3⟩ => ⟨u, p, j, w, h1, e.tups _ _ h2, h3⟩⟩
theorem BwI.tk (B : BwI t x H bs) (e : ∀ b ys, H b = some (.tup ys) → H' b = some (.tup ys)) : BwI t x H' bs :=
  ⟨B.nd, B.hx, fun i y v h => (B.val i y v h).imp id fun ⟨u, p, j, w, h1, h2, h3⟩ => ⟨u, p, j, w, h1, e _ _ h2, h3⟩⟩
theorem BwI.one : BwI t x H [(x, .non)] := by
  refine ⟨by simp, by simp, fun i y v h => .inl ?_⟩
  cases i with
  | zero =>
    have : (x, V.non) = (y, v) := by simpa using h
    cases this
    exact ⟨rfl, rfl⟩
  | succ i => simp at h
theorem BwI.sub (B : BwI t x H bs) : ∀ y ∈ bs.map (·.1), Rc t x y := by
  intro y hy
  obtain ⟨⟨y, v⟩, hq, rfl⟩ := List.mem_map.mp hy
  obtain ⟨i, hi⟩ := List.mem_iff_getElem?.mp hq
  clear hq hy
  induction i using Nat.strongRecOn generalizing y v with
  | ind i ih =>
    rcases B.val i y v hi with ⟨rfl, _⟩ | ⟨u, p, j, w, _, _, h3, h4, h5⟩
    · exact .refl _
    · exact .step (ih j h4 p w h5) h3
theorem BwI.le (B : BwI t x H bs) : bs.length ≤ t.length + 1 := by
  have h := nodup_le B.nd (m := x :: t.map (·.2)) fun y hy => rc_end (B.sub y hy)
  rw [List.length_map] at h
  have e : (x :: t.map (·.2)).length = t.length + 1 := by rw [List.length_cons, List.length_map]
  omega
theorem BwI.add (B : BwI t x H bs) (hy : y ∈ bs.map (·.1)) (hu : isAmt H u y) (e : (y, z) ∈ t) (hz : z ∉ bs.map (·.1)) : BwI t x H (bs ++ [(z, .ref u)]) := by
  refine ⟨?_, ?_, fun i a v h => ?_⟩
  · rw [List.map_append, List.nodup_append]
    exact ⟨B.nd, by simp, fun a ha b hb q => by simp at hb; exact hz (by rw [← hb, ← q]; exact ha)⟩
  · rw [List.map_append]
    exact List.mem_append_left _ B.hx
  · have up : ∀ {j : Nat} {q : Am × V}, bs[j]? = some q → (bs ++ [(z, V.ref u)])[j]? = some q := fun {j q} hj => by
      rw [List.getElem?_append_left (List.getElem?_eq_some_iff.mp hj).1]
      exact hj
    by_cases hi : i < bs.length
    · rw [List.getElem?_append_left hi] at h
      exact (B.val i a v h).imp id fun ⟨u', p, j, w, h1, h2, h3, h4, h5⟩ => ⟨u', p, j, w, h1, h2, h3, h4, up h5⟩
    · rw [List.getElem?_append_right (by omega)] at h
      have h0 : i - bs.length = 0 := by
        have := (List.getElem?_eq_some_iff.mp h).1
        simp at this
        omega
      rw [h0] at h
      have : (z, V.ref u) = (a, v) := by simpa using h
      cases this
      obtain ⟨w, hw⟩ := mem_keys hy
      obtain ⟨j, hj⟩ := List.mem_iff_getElem?.mp hw
      have := (List.getElem?_eq_some_iff.mp hj).1
      exact .inr ⟨u, y, j, w, rfl, hu, e, by omega, up hj⟩
theorem BwI.fin (B : BwI t x H bs) (hc : ∀ y ∈ bs.map (·.1), ∀ z, (y, z) ∈ t → z ∈ bs.map (·.1)) (y : Am) : y ∈ bs.map (·.1) ↔ Rc t x y := ⟨B.sub y, fun h => rc_in B.hx hc h⟩
end
/-- the dict of a walk from x, ended -/
def WalkAt (H : Hp) (B : Addr) (t : List Pa) (x : Am) : Prop := ∃ bs, H B = some (.dT (dA bs)) ∧ BwI t x H bs ∧ ∀ y, y ∈ bs.map (·.1) ↔ Rc t x y
theorem WalkAt.ext {ms : List Addr} {H H' : Hp} {B : Addr} {t : List Pa} {x : Am} (h : WalkAt H B t x) (e : Ext ms H H') (hB : B ∉ ms) : WalkAt H' B t x := by
  obtain ⟨bs, h1, h2, h3⟩ := h
  exact ⟨bs, e.keep _ _ h1 hB, h2.ext e, h3⟩
theorem keys_amt {H : Hp} : ∀ {bs : List (Am × V)} {as : List Addr}, IsKeys H (dA bs) as → Paired (isAmt H) as (bs.map (·.1))
  | [], _, h => by cases h; exact .nil
  | _ :: bs, _, h => by
    cases h with
    | cons a r => exact .cons a (keys_amt r)
end Tp
/-! Od: the order of a book -/
namespace Tp
open PySem PySem.Spec PyProof.Rows L2 He
/-- the order of a book: what each of its amounts leads to, what is told to be there -/
structure OrdAt (C : Addr) (H : Hp) (p : Addr) (dx D L : Addr) (ws : List (Am × V)) (t : List Pa) (th : List Am) : Prop where
  ob : H p = some (.ins C dx [("_below", .ref D), ("_told", .ref L)])
  dt : H D = some (.dT (dA ws))
  nd : (ws.map (·.1)).Nodup
  wk : ∀ q ∈ ws, ∃ B, q.2 = .ref B ∧ WalkAt H B t q.1
  tl : AmtAt H L th
  tn : t.length ≤ 20000
  wd : ∀ q ∈ ws.map (·.1), q.1 = ("take" : Str) ∨ q.1 = ("leave" : Str)
  cl : ∀ q ∈ t, q.1 ∈ ws.map (·.1) ∧ q.2 ∈ ws.map (·.1)
theorem OrdAt.ext {C : Addr} {H H' : Hp} {p dx D L : Addr} {ws : List (Am × V)} {t : List Pa} {th : List Am} (o : OrdAt C H p dx D L ws t th) (e : Ext [] H H') : OrdAt C H' p dx D L ws t th :=
  ⟨e.keep _ _ o.ob (by simp), e.keep _ _ o.dt (by simp), o.nd, fun q hq => let ⟨B, h1, h2⟩ := o.wk q hq; ⟨B, h1, h2.ext e (by simp)⟩, o.tl.ext e (by simp), o.tn, o.wd, o.cl⟩
theorem amt_of {H : Hp} {v : V} {dv : PyData} (a : Av H v dv) (h : amtB dv = true) : ∃ u q, v = .ref u ∧ isAmt H u q ∧ dv = dAmt q := by
  unfold amtB at h
  split at h
  · rename_i w n
    rw [Bool.and_eq_true] at h
    have hn := of_decide_eq_true h.2
    have e : PyData.tuple [.str w, .int n] = dAmt (w, n.toNat) := by
      show _ = PyData.tuple [.str w, .int ((n.toNat : Nat) : Int)]
      rw [Int.toNat_of_nonneg hn]
    have a1 := a.1
    rw [e] at a1
    obtain ⟨u, rfl, hu⟩ := im_amt a1
    exact ⟨u, _, rfl, hu, e⟩
  · cases h
/-- what is reached from x, round by round -/
structure RbI (as : List Am) (t : List Pa) (x : Am) (rs : List Am) : Prop where
  nd : rs.Nodup
  hx : x ∈ rs
  rc : ∀ y ∈ rs, Rc t x y
  sub : ∀ y ∈ rs, y ∈ as
theorem RbI.le {as : List Am} {t : List Pa} {x : Am} {rs : List Am} (R : RbI as t x rs) : rs.length ≤ as.length := nodup_le R.nd R.sub
theorem RbI.one {as : List Am} {t : List Pa} {x : Am} (h : x ∈ as) : RbI as t x [x] := ⟨by simp, by simp, fun y hy => by simp at hy; rw [hy]; exact .refl _, fun y hy => by simp at hy; rw [hy]; exact h⟩
theorem RbI.add {as : List Am} {t : List Pa} {x : Am} {rs : List Am} {q : Pa} (R : RbI as t x rs) (hq : q ∈ t) (h1 : q.1 ∈ rs) (h2 : q.2 ∉ rs) (h3 : q.2 ∈ as) : RbI as t x (rs ++ [q.2]) := by
  refine ⟨?_, List.mem_append_left _ R.hx, fun y hy => ?_, fun y hy => ?_⟩
  · rw [List.nodup_append]
    exact ⟨R.nd, by simp, fun a ha b hb e => by simp at hb; exact h2 (by rw [← hb, ← e]; exact ha)⟩
  · rcases List.mem_append.mp hy with h | h
    · exact R.rc y h
    · rw [List.mem_singleton.mp h]
      exact .step (R.rc _ h1) hq
  · rcases List.mem_append.mp hy with h | h
    · exact R.sub y h
    · rw [List.mem_singleton.mp h]
      exact h3
def RbC (t : List Pa) (rs : List Am) : Prop := ∀ q ∈ t, q.1 ∈ rs → q.2 ∈ rs
theorem RbI.fin {as : List Am} {t : List Pa} {x : Am} {rs : List Am} (R : RbI as t x rs) (hc : RbC t rs) (y : Am) : y ∈ rs ↔ Rc t x y :=
  ⟨R.rc y, fun h => rc_in R.hx (fun z hz z' hzz => hc (z, z') hzz hz) h⟩
/-- within a round, j pairs seen -/
def RbJ (t : List Pa) (rs ws : List Am) (j : Nat) : Prop := (ws = rs ∧ ∀ q ∈ t.take j, q.1 ∈ rs → q.2 ∈ rs) ∨ rs.length + 1 ≤ ws.length
theorem RbJ.skip {t : List Pa} {rs ws : List Am} {j : Nat} {q : Pa} (J : RbJ t rs ws j) (hq : t[j]? = some q) (h : q.1 ∈ ws → q.2 ∈ ws) : RbJ t rs ws (j + 1) := by
  rcases J with ⟨rfl, h1⟩ | h1
  · refine .inl ⟨rfl, fun z hz => ?_⟩
    rw [take_snoc hq] at hz
    rcases List.mem_append.mp hz with hz | hz
    · exact h1 z hz
    · rw [List.mem_singleton.mp hz]
      exact h
  · exact .inr h1
theorem RbJ.add {t : List Pa} {rs ws : List Am} {j : Nat} {y : Am} (J : RbJ t rs ws j) : RbJ t rs (ws ++ [y]) (j + 1) := by
  rcases J with ⟨rfl, _⟩ | h1
  · exact .inr (by rw [List.length_append]; exact Nat.le_refl _)
  · exact .inr (by rw [List.length_append]; omega)
/-- what is below each amount, by the law's own reckoning -/
def BelowAt (H : Hp) (D : Addr) (as : List Am) (t : List Pa) : Prop := ∃ ws : List (Am × V), H D = some (.dT (dA ws)) ∧ ws.map (·.1) = as ∧ ∀ q ∈ ws, ∃ l rs, q.2 = .ref l ∧ l ≠ D ∧ AmtAt H l rs ∧ rs.length ≤ as.length ∧ (∀ y ∈ rs, y ∈ as) ∧ ∀ y, y ∈ rs ↔ Rc t q.1 y
theorem BelowAt.ext {H H' : Hp} {D : Addr} {as : List Am} {t : List Pa} (B : BelowAt H D as t) (e : Ext [] H H') : BelowAt H' D as t := by
  obtain ⟨ws, h1, h2, h3⟩ := B
  refine ⟨ws, e.keep _ _ h1 (by simp), h2, fun q hq => ?_⟩
  obtain ⟨l, rs, a1, a2, a3, a4⟩ := h3 q hq
  exact ⟨l, rs, a1, a2, a3.ext e (by simp), a4⟩
theorem BelowAt.get {H : Hp} {D u : Addr} {as : List Am} {t : List Pa} {x : Am} (B : BelowAt H D as t) (nd : as.Nodup) (hx : x ∈ as) (hu : isAmt H u x) : ∃ l rs, DGet H D (.ref u) (some (.ref l)) ∧ AmtAt H l rs ∧ rs.length ≤ as.length ∧ (∀ y ∈ rs, y ∈ as) ∧ ∀ y, y ∈ rs ↔ Rc t x y := by
  obtain ⟨ws, h1, h2, h3⟩ := B
  rw [← h2] at hx nd
  obtain ⟨v, hv⟩ := mem_keys hx
  obtain ⟨l, rs, a1, a2, a3, a4⟩ := h3 _ hv
  have a1 : v = .ref l := a1
  subst a1
  exact ⟨l, rs, by rw [← valV_dA nd hv]; exact DGet.t (k := amK x) h1 hu, a3, a4⟩
end Tp
/-! Ol: an order, and what the law reckons beside it -/
namespace Tp
open PySem PySem.Spec PyProof.Rows L2 He
section
variable {H H' : Hp} {S L l : Addr} {as : List Am} {t : List Pa}
theorem src_refs (s : SrcAt H S L) {vs : List V} (hl : H l = some (.lst vs)) (hv : ∀ v ∈ vs, ∃ u, v = .ref u) : l ≠ S := by
  intro e
  obtain ⟨cells, i, k, g, h1, _, _⟩ := s
  rw [e, h1] at hl
  have hl : [V.ref L, .int i, .int k, .int g] = vs := by
    injection hl with hl
    injection hl
  obtain ⟨u, hu⟩ := hv (.int i) (by rw [← hl]; simp)
  cases hu
theorem AmtAt.ne_src (h : AmtAt H l as) (s : SrcAt H S L) : l ≠ S := by
  obtain ⟨us, h1, _⟩ := h
  exact src_refs s h1 fun v hv => let ⟨u, _, e⟩ := List.mem_map.mp hv; ⟨u, e.symm⟩
theorem PrAt.ne_src (h : PrAt H l t) (s : SrcAt H S L) : l ≠ S := by
  obtain ⟨vs, h1, us, rfl, _⟩ := h
  exact src_refs s h1 fun v hv => let ⟨u, _, e⟩ := List.mem_map.mp hv; ⟨u, e.symm⟩
theorem src_dT (s : SrcAt H S L) {kvs : List (List Key × V)} (h : H l = some (.dT kvs)) : l ≠ S := by
  intro e
  obtain ⟨cells, i, k, g, h1, _, _⟩ := s
  rw [e, h1] at h
  cases h
theorem WalkAt.ne_src {x : Am} (h : WalkAt H l t x) (s : SrcAt H S L) : l ≠ S := let ⟨_, h1, _⟩ := h; src_dT s h1
theorem OrdAt.extS {C p dx D Lt : Addr} {ws : List (Am × V)} {th : List Am} (o : OrdAt C H p dx D Lt ws t th) (s : SrcAt H S L) (e : Ext [S] H H') : OrdAt C H' p dx D Lt ws t th := by
  have hp : p ≠ S := fun z => by
    obtain ⟨cells, i, k, g, h1, _, _⟩ := s
    have := o.ob
    rw [z, h1] at this
    cases this
  exact ⟨e.keep _ _ o.ob (by simpa using hp), e.keep _ _ o.dt (by simpa using src_dT s o.dt), o.nd, fun q hq => let ⟨B, h1, h2⟩ := o.wk q hq; ⟨B, h1, h2.ext e (by simpa using h2.ne_src s)⟩, o.tl.ext e (by simpa using o.tl.ne_src s), o.tn, o.wd, o.cl⟩
theorem BelowAt.extS {D : Addr} (b : BelowAt H D as t) (s : SrcAt H S L) (e : Ext [S] H H') : BelowAt H' D as t := by
  obtain ⟨ws, h1, h2, h3⟩ := b
  refine ⟨ws, e.keep _ _ h1 (by simpa using src_dT s h1), h2, fun q hq => ?_⟩
  obtain ⟨l, rs, a1, a2, a3, a4⟩ := h3 q hq
  exact ⟨l, rs, a1, a2, a3.ext e (by simpa using a3.ne_src s), a4⟩
/-- values that are none of these amounts -/
def BadL (as : List Am) (H : Hp) (vs : List V) : Prop := ∀ v ∈ vs, ∃ d, Av H v d ∧ ownD as d = false
theorem BadL.nil : BadL as H [] := fun _ h => by cases h
theorem BadL.ext {ms : List Addr} {vs : List V} (h : BadL as H vs) (e : Ext ms H H') : BadL as H' vs := fun v hv => let ⟨d, h1, h2⟩ := h v hv; ⟨d, h1.ext e, h2⟩
theorem BadL.snoc {vs : List V} {v : V} {d : PyData} (h : BadL as H vs) (hv : Av H v d) (hd : ownD as d = false) : BadL as H (vs ++ [v]) := fun x hx => by
  rcases List.mem_append.mp hx with hx | hx
  · exact h x hx
  · rw [List.mem_singleton.mp hx]
    exact ⟨d, hv, hd⟩
theorem BadL.app {vs ws : List V} (h : BadL as H vs) (h2 : BadL as H ws) : BadL as H (vs ++ ws) := fun x hx => (List.mem_append.mp hx).elim (h x) (h2 x)
/-- what stands between the questions -/
structure Oz (O : Addr) (H : Hp) (S L o dx D Lt lo ls Db lb : Addr) (as : List Am) (t : List Pa) (th : List Am) (ws : List (Am × V)) (bv : List V) : Prop where
  s : SrcAt H S L
  o : OrdAt O H o dx D Lt ws t th
  hw : ws.map (·.1) = as
  am : AmtAt H lo as
  pr : PrAt H ls t
  bl : BelowAt H Db as t
  bd : H lb = some (.lst bv)
  bS : lb ≠ S
  bb : BadL as H bv
  nd : as.Nodup
  al : as.length ≤ 100
  wd : ∀ q ∈ as, q.1 = ("take" : Str) ∨ q.1 = ("leave" : Str)
  ok : ∀ q ∈ t, okS q.1.1 ∧ okS q.2.1
  b0 : 0 < bv.length
  b1 : bv.length ≤ 1000
variable {O o dx D Lt lo ls Db lb : Addr} {th : List Am} {ws : List (Am × V)} {bv : List V}
theorem Oz.ext (z : Oz O H S L o dx D Lt lo ls Db lb as t th ws bv) (e : Ext [] H H') : Oz O H' S L o dx D Lt lo ls Db lb as t th ws bv :=
  ⟨z.s.ext e, z.o.ext e, z.hw, z.am.ext e (by simp), z.pr.ext e (by simp), z.bl.ext e, e.keep _ _ z.bd (by simp), z.bS, z.bb.ext e, z.nd, z.al, z.wd, z.ok, z.b0, z.b1⟩
theorem Oz.draw (z : Oz O H S L o dx D Lt lo ls Db lb as t th ws bv) (e : Ext [S] H H') (s : SrcAt H' S L) : Oz O H' S L o dx D Lt lo ls Db lb as t th ws bv :=
  ⟨s, z.o.extS z.s e, z.hw, z.am.ext e (by simpa using z.am.ne_src z.s), z.pr.ext e (by simpa using z.pr.ne_src z.s), z.bl.extS z.s e, e.keep _ _ z.bd (by simpa using z.bS), z.bS, z.bb.ext e, z.nd, z.al, z.wd, z.ok, z.b0, z.b1⟩
noncomputable def Rc' (t : List Pa) (x y : Am) : Bool := @decide (Rc t x y) (Classical.propDecidable _)
theorem rc_yes {t : List Pa} {x y : Am} (h : Rc t x y) : Rc' t x y = true := @decide_eq_true _ (Classical.propDecidable _) h
theorem rc_no {t : List Pa} {x y : Am} (h : ¬ Rc t x y) : Rc' t x y = false := @decide_eq_false _ (Classical.propDecidable _) h
theorem rc_mem {t : List Pa} {x y : Am} {rs : List Am} (h : ∀ y, y ∈ rs ↔ Rc t x y) : decide (y ∈ rs) = Rc' t x y := by
  by_cases hc : Rc t x y
  · rw [rc_yes hc, decide_eq_true ((h y).mpr hc)]
  · rw [rc_no hc, decide_eq_false fun z => hc ((h y).mp z)]
end
end Tp
/-! Ct: x in o, o of a class with its own __contains__; an order asked -/
namespace Tp
open PySem PySem.Spec PyProof.Rows L2 He
section
variable {X : Cx} {CX : CXT} {k : Nat} {C g : Addr} {fd : FuncData} {ps : List Str} {sp : Sp} {E : XK}
end
end Tp
namespace Tp
open PySem PySem.Spec PyProof.Rows L2 He
/-! ### a dict that is locked while it is walked -/
theorem ext_unlock {H H' : Hp} {d : Addr} {u : HO} {od : Obj} (hd : H d = some u) (e : Ext [] (upd H d (.frz od u)) H') : Ext [] H (upd H' d u) := by
  refine ⟨fun b o q _ => ?_, fun b xs q => ?_⟩
  · by_cases hb : b = d
    · rw [hb, upd_same]
      rw [hb, hd] at q
      exact q
    · rw [upd_ne hb]
      exact e.keep b o (by rw [upd_ne hb]; exact q) (by simp)
  · by_cases hb : b = d
    · rw [hb, upd_same]
      rw [hb, hd] at q
      exact q
    · rw [upd_ne hb]
      exact e.tups b xs (by rw [upd_ne hb]; exact q)
theorem rd_ext {H H' : Hp} {a : Addr} {u : HO} (h : Rd H a u) (e : Ext [] H H') : Rd H' a u := h.imp (fun h => e.keep _ _ h (by simp)) fun ⟨o, h⟩ => ⟨o, e.keep _ _ h (by simp)⟩
theorem rd_lock {H : Hp} {B d : Addr} {u x : HO} {od : Obj} (hd : H d = some u) (h : H B = some x) : Rd (upd H d (.frz od u)) B x := by
  by_cases hb : B = d
  · rw [hb] at h ⊢
    rw [hd] at h
    cases h
    exact .inr ⟨od, upd_same⟩
  · exact .inl (by rw [upd_ne hb]; exact h)
theorem tup_lock {H : Hp} {b d : Addr} {kvs : List (List Key × V)} {xs : List V} {od : Obj} (hd : H d = some (.dT kvs)) (h : H b = some (.tup xs)) : upd H d (.frz od (.dT kvs)) b = some (.tup xs) := by
  rw [upd_ne (fun e => by rw [e, hd] at h; cases h)]
  exact h
theorem DGet.rd {H : Hp} {a b : Addr} {kvs : List (List Key × V)} {k : List Key} (e : Rd H a (.dT kvs)) (eb : H b = some (.tup (k.map kV))) : DGet H a (.ref b) (valV kvs k) := .inr ⟨kvs, k, b, e, rfl, eb, rfl⟩
/-- over the keys of a locked dict -/
theorem lc_keysT {d : Addr} {o : Obj} {kvs : List (List Key × V)} {g : TG} {tt : TT} {te : TE} {vs : List Nat} {σ : L2.St} {H1 : Hp} {D : Addr} {Qd : Hp → Prop} (Pv : Nat → Hp → Prop) (h0 : Pv 0 (upd H1 D (.lst []))) (hl : ∀ i H, i ≤ kvs.length → Pv i H → H d = some (.frz o (.dT kvs)))
    (hs : ∀ i k v q H, kvs[i]? = some (k, v) → H q = some (.tup (k.map kV)) → Pv i H → g (.ref q) (wipe σ vs) H fun σ2 H2 => wipe σ2 vs = wipe σ vs ∧ tt σ2 H2 fun b H3 =>
      if b = true then te σ2 H3 fun y H4 => ∃ acc, H4 D = some (.lst acc) ∧ acc.length < sizeLine ∧ Pv (i + 1) (upd H4 D (.lst (acc ++ [y]))) else Pv (i + 1) H3) (hd : ∀ H, Pv kvs.length H → Qd H) :
    ∃ W : Nat → Nat → Hp → Prop, (∃ m, W 0 m (upd H1 D (.lst []))) ∧ ∀ i m H, W i m H →
      ((Itkt d o kvs).stop i H ∧ Qd H) ∨ ((Itkt d o kvs).go i H ∧ ∃ Nx : Hp → Prop, (∀ H', Nx H' → ∃ m', m' < m ∧ W (i + 1) m' H') ∧ ∀ x H', (Itkt d o kvs).yld i H x H' → g x (wipe σ vs) H' fun σ2 H2 => wipe σ2 vs = wipe σ vs ∧ tt σ2 H2 fun b H3 =>
        if b = true then te σ2 H3 fun y H4 => ∃ acc, H4 D = some (.lst acc) ∧ acc.length < sizeLine ∧ Nx (upd H4 D (.lst (acc ++ [y]))) else Nx H3) := by
  refine ⟨fun i m H => m = kvs.length - i ∧ i ≤ kvs.length ∧ Pv i H, ⟨kvs.length, by simp, Nat.zero_le _, h0⟩, ?_⟩
  rintro i m H ⟨rfl, hi, p⟩
  have q := hl i H hi p
  by_cases hlt : i < kvs.length
  · refine .inr ⟨⟨q, hlt⟩, Pv (i + 1), fun H' p' => ⟨kvs.length - (i + 1), by omega, rfl, hlt, p'⟩, fun x H' y => ?_⟩
    obtain ⟨e, k, v, a, hk, rfl, ha⟩ := y
    subst e
    exact hs i k v a _ hk ha p
  · have e : i = kvs.length := by omega
    subst e
    exact .inl ⟨⟨q, Nat.le_refl _⟩, hd H p⟩
/-- an order as far as it is read while its dict is walked -/
structure OrdR (C : Addr) (H : Hp) (p dx D L : Addr) (ws : List (Am × V)) (t : List Pa) : Prop where
  ob : H p = some (.ins C dx [("_below", .ref D), ("_told", .ref L)])
  dt : Rd H D (.dT (dA ws))
  nd : (ws.map (·.1)).Nodup
  wk : ∀ q ∈ ws, ∃ B bs, q.2 = .ref B ∧ Rd H B (.dT (dA bs)) ∧ ∀ y, y ∈ bs.map (·.1) ↔ Rc t q.1 y
section
variable {C : Addr} {H H' : Hp} {p dx D L u v : Addr} {ws : List (Am × V)} {t : List Pa} {th : List Am} {x y : Am}
theorem OrdR.ext (o : OrdR C H p dx D L ws t) (e : Ext [] H H') : OrdR C H' p dx D L ws t :=
  ⟨e.keep _ _ o.ob (by simp), rd_ext o.dt e, o.nd, fun q hq => let ⟨B, bs, h1, h2, h3⟩ := o.wk q hq; ⟨B, bs, h1, rd_ext h2 e, h3⟩⟩
theorem OrdAt.lock (o : OrdAt C H p dx D L ws t th) (od : Obj) : OrdR C (upd H D (.frz od (.dT (dA ws)))) p dx D L ws t := by
  refine ⟨?_, rd_lock o.dt o.dt, o.nd, fun q hq => ?_⟩
  · rw [upd_ne (fun e => by have := o.ob; rw [e, o.dt] at this; cases this)]
    exact o.ob
  · obtain ⟨B, h1, bs, h2, _, h3⟩ := o.wk q hq
    exact ⟨B, bs, h1, rd_lock o.dt h2, h3⟩
theorem OrdAt.rd (o : OrdAt C H p dx D L ws t th) : OrdR C H p dx D L ws t :=
  ⟨o.ob, .inl o.dt, o.nd, fun q hq => let ⟨B, h1, bs, h2, _, h3⟩ := o.wk q hq; ⟨B, bs, h1, .inl h2, h3⟩⟩
theorem OrdR.get (o : OrdR C H p dx D L ws t) (hx : x ∈ ws.map (·.1)) (hu : isAmt H u x) (hv : isAmt H v y) : ∃ B r, DGet H D (.ref u) (some (.ref B)) ∧ DGet H B (.ref v) r ∧ r.isSome = Rc' t x y := by
  obtain ⟨bv, hbv⟩ := mem_keys hx
  obtain ⟨B, bs, hB, hr, hiff⟩ := o.wk _ hbv
  have hB : bv = .ref B := hB
  subst hB
  refine ⟨B, valV (dA bs) (amK y), ?_, DGet.rd (k := amK y) hr hv, ?_⟩
  · rw [← valV_dA o.nd hbv]
    exact DGet.rd (k := amK x) o.dt hu
  · rw [isSome_dA]
    exact rc_mem hiff
end
theorem paired_getX {α β : Type} {R : α → β → Prop} : ∀ {xs : List α} {ys : List β} {i : Nat} {x : α}, Paired R xs ys → xs[i]? = some x → ∃ y, ys[i]? = some y ∧ R x y
  | _, _, _, _, .nil, h => by simp at h
  | _, _, 0, _, .cons r _, h => by
    simp at h
    exact ⟨_, rfl, h ▸ r⟩
  | _, _, i + 1, _, .cons _ p, h => by
    simp at h
    obtain ⟨y, h1, h2⟩ := paired_getX p h
    exact ⟨y, by simpa using h1, h2⟩
theorem dA_at {ws : List (Am × V)} {i : Nat} {k : List Key} {v : V} (h : (dA ws)[i]? = some (k, v)) : ∃ x v', ws[i]? = some (x, v') ∧ k = amK x := by
  unfold dA at h
  rw [List.getElem?_map] at h
  obtain ⟨⟨x, v'⟩, h1, h2⟩ := Option.map_eq_some_iff.mp h
  cases h2
  exact ⟨x, v', h1, rfl⟩
/-- an order and what the law reckons beside it -/
structure Ow (O : Addr) (H : Hp) (S L o dx D Lt lo ls Db lt : Addr) (as : List Am) (t : List Pa) (th : List Am) (ws : List (Am × V)) : Prop where
  s : SrcAt H S L
  o : OrdAt O H o dx D Lt ws t th
  hw : ws.map (·.1) = as
  am : AmtAt H lo as
  pr : PrAt H ls t
  bl : BelowAt H Db as t
  tt : AmtAt H lt th
  nd : as.Nodup
  al : as.length ≤ 100
  wd : ∀ q ∈ as, q.1 = ("take" : Str) ∨ q.1 = ("leave" : Str)
  ok : ∀ q ∈ t, okS q.1.1 ∧ okS q.2.1
  hn : ∀ q ∈ th, q ∈ as
  tl : th.length ≤ 100
section
variable {O S L o dx D Lt lo ls Db lt : Addr} {H H' : Hp} {as : List Am} {t : List Pa} {th : List Am} {ws : List (Am × V)}
theorem Ow.draw (z : Ow O H S L o dx D Lt lo ls Db lt as t th ws) (e : Ext [S] H H') (s : SrcAt H' S L) : Ow O H' S L o dx D Lt lo ls Db lt as t th ws :=
  ⟨s, z.o.extS z.s e, z.hw, z.am.ext e (by simpa using z.am.ne_src z.s), z.pr.ext e (by simpa using z.pr.ne_src z.s), z.bl.extS z.s e, z.tt.ext e (by simpa using z.tt.ne_src z.s), z.nd, z.al, z.wd, z.ok, z.hn, z.tl⟩
theorem Ow.ext (z : Ow O H S L o dx D Lt lo ls Db lt as t th ws) (e : Ext [] H H') : Ow O H' S L o dx D Lt lo ls Db lt as t th ws := z.draw e.nil (z.s.ext e)
end
end Tp
namespace Tp
open PySem PySem.Spec PyProof.Rows L2 He
end Tp
namespace Tp
open PySem PySem.Spec PyProof.Rows L2 He
/-- how many are taken, and which are none -/
structure Mny (as : List Am) (n : Nat) : Prop where
  tk : (as.filter fun q => decide (q.1 = ("take" : Str))).length = n
  lt : ∀ q ∈ as, q.2 < n
  le : n ≤ 50
  l0 : (("leave" : Str), 0) ∉ as
end Tp
namespace Tp
open PySem PySem.Spec PyProof.Rows L2 He
end Tp
/-! Rw: orders kept beside a book that grows -/
namespace Tp
open PySem PySem.Spec PyProof.Rows L2 He
theorem inA.more {xs ys : List Am} {f : Fk} (h : inA xs f) (hs : ∀ x ∈ xs, x ∈ ys) : inA ys f := by
  cases f with
  | tell x y => exact ⟨hs _ h.1, hs _ h.2⟩
  | some x => exact hs _ h
/-- neither a dict of amounts nor a list that begins with one -/
structure OffA (H : Hp) (x : Addr) : Prop where
  d : ∀ kvs, H x ≠ some (.dT kvs)
  l : ∀ u us q, H x = some (.lst (.ref u :: us)) → ¬ isAmt H u q
section
variable {O S L o dx D Lt lo ls Db lt : Addr} {H H' : Hp} {as : List Am} {t : List Pa} {th : List Am} {ws : List (Am × V)} {ms : List Addr}
theorem Ow.keep (z : Ow O H S L o dx D Lt lo ls Db lt as t th ws) (e : Ext ms H H') (s : SrcAt H' S L) (ho : ∀ x ∈ ms, OffA H x) (hn : ∀ x ∈ ms, x ≠ o ∧ x ≠ Lt ∧ x ≠ lo ∧ x ≠ ls ∧ x ≠ lt) : Ow O H' S L o dx D Lt lo ls Db lt as t th ws := by
  have nd : ∀ {x : Addr} {kvs : List (List Key × V)}, H x = some (.dT kvs) → x ∉ ms := fun h hm => (ho _ hm).d _ h
  have no : o ∉ ms := fun h => (hn o h).1 rfl
  have nt : Lt ∉ ms := fun h => (hn _ h).2.1 rfl
  have n1 : lo ∉ ms := fun h => (hn _ h).2.2.1 rfl
  have n2 : ls ∉ ms := fun h => (hn _ h).2.2.2.1 rfl
  have n3 : lt ∉ ms := fun h => (hn _ h).2.2.2.2 rfl
  refine ⟨s, ⟨e.keep _ _ z.o.ob no, e.keep _ _ z.o.dt (nd z.o.dt), z.o.nd, fun q hq => ?_, z.o.tl.ext e nt, z.o.tn, z.o.wd, z.o.cl⟩, z.hw, z.am.ext e n1, z.pr.ext e n2, ?_, z.tt.ext e n3, z.nd, z.al, z.wd, z.ok, z.hn, z.tl⟩
  · obtain ⟨B, h1, h2⟩ := z.o.wk q hq
    obtain ⟨bs, hb, _⟩ := id h2
    exact ⟨B, h1, h2.ext e (nd hb)⟩
  · obtain ⟨vs, h1, h2, h3⟩ := z.bl
    refine ⟨vs, e.keep _ _ h1 (nd h1), h2, fun q hq => ?_⟩
    obtain ⟨l, rs, a1, a2, a3, a4, a5, a6⟩ := h3 q hq
    refine ⟨l, rs, a1, a2, a3.ext e (fun hm => ?_), a4, a5, a6⟩
    obtain ⟨us, hus, hp⟩ := a3
    have hr : q.1 ∈ rs := (a6 _).mpr (.refl _)
    cases hp with
    | nil => cases hr
    | cons r p => exact (ho _ hm).l _ _ _ hus r
end
/-- one row: an order and what was reckoned beside it; fx may change -/
def Rw (O : Addr) (H : Hp) (S L R : Addr) (fx : List Addr) : Prop := ∃ o dx D Lt lo ls Db lt as t th ws n, H R = some (.lst [.ref o, .ref lo, .ref Db, .ref lt, .ref ls]) ∧ Ow O H S L o dx D Lt lo ls Db lt as t th ws ∧ Mny as n ∧ ∀ x ∈ fx, x ≠ R ∧ x ≠ o ∧ x ≠ Lt ∧ x ≠ lo ∧ x ≠ ls ∧ x ≠ lt
section
variable {O S L R : Addr} {H H' : Hp} {fx : List Addr}
theorem src_off (s : SrcAt H S L) : OffA H S := by
  obtain ⟨cells, i, k, g, h1, h2, _⟩ := s
  refine ⟨fun kvs h => (by rw [h1] at h; cases h), fun u us q h hu => ?_⟩
  rw [h1] at h
  injection h with h
  injection h with h
  injection h with h _
  injection h with h
  subst h
  have hu : H L = some (.tup _) := hu
  rw [h2] at hu
  cases hu
theorem Rw.keep (r : Rw O H S L R fx) (e : Ext (S :: fx) H H') (s : SrcAt H' S L) (hf : ∀ x ∈ fx, OffA H x) : Rw O H' S L R fx := by
  obtain ⟨o, dx, D, Lt, lo, ls, Db, lt, as, t, th, ws, n, hR, z, my, hn⟩ := r
  have RS : R ≠ S := src_refs z.s hR fun v hv => by
    simp only [List.mem_cons, List.not_mem_nil, or_false] at hv
    rcases hv with rfl | rfl | rfl | rfl | rfl <;> exact ⟨_, rfl⟩
  have oS : o ≠ S := fun h => by
    obtain ⟨cells, i, k, g, h1, _⟩ := z.s
    have := z.o.ob
    rw [h, h1] at this
    cases this
  refine ⟨o, dx, D, Lt, lo, ls, Db, lt, as, t, th, ws, n, e.keep _ _ hR ?_, z.keep e s (fun x hx => ?_) (fun x hx => ?_), my, hn⟩
  · intro hm
    rcases List.mem_cons.mp hm with h | h
    · exact RS h
    · exact (hn _ h).1 rfl
  · rcases List.mem_cons.mp hx with h | h
    · rw [h]; exact src_off z.s
    · exact hf x h
  · rcases List.mem_cons.mp hx with h | h
    · rw [h]
      exact ⟨Ne.symm oS, Ne.symm (z.o.tl.ne_src z.s), Ne.symm (z.am.ne_src z.s), Ne.symm (z.pr.ne_src z.s), Ne.symm (z.tt.ne_src z.s)⟩
    · exact (hn x h).2
theorem Rw.draw (r : Rw O H S L R []) (e : Ext [S] H H') (s : SrcAt H' S L) : Rw O H' S L R [] := r.keep e s fun x h => nomatch h
theorem Rw.grow (r : Rw O H S L R []) (s0 : SrcAt H S L) (e : Ext [] H H') : Rw O H' S L R [] := r.draw e.nil (s0.ext e)
theorem Rw.rest (r : Rw O H S L R fx) : Rw O H S L R [] := by
  obtain ⟨o, dx, D, Lt, lo, ls, Db, lt, as, t, th, ws, n, hR, z, my, hn⟩ := r
  exact ⟨o, dx, D, Lt, lo, ls, Db, lt, as, t, th, ws, n, hR, z, my, fun x h => nomatch h⟩
/-- lists of texts' pairs, of facts, an object -/
theorem OffA.ins {C dx : Addr} {fs : List (Str × V)} {x : Addr} (h : H x = some (.ins C dx fs)) : OffA H x := ⟨fun kvs z => (by rw [h] at z; cases z), fun u us q z => (by rw [h] at z; cases z)⟩
theorem OffA.pt {x : Addr} {vs : List V} {d : List (Str × Str)} (h : H x = some (.lst vs)) (p : PT H vs d) : OffA H x := by
  refine ⟨fun kvs z => (by rw [h] at z; cases z), fun u us q z hu => ?_⟩
  rw [h] at z
  cases z
  obtain ⟨as, h1, hp⟩ := p
  cases hp with
  | nil => cases h1
  | cons r _ =>
    cases h1
    have hu : H _ = some (.tup [.str q.1, .int (q.2 : Int)]) := hu
    rw [r] at hu
    injection hu with hu
    injection hu with hu
    injection hu with _ hu
    injection hu with hu _
    cases hu
theorem OffA.fl {x : Addr} {vs : List V} {fs : List Fk} (h : H x = some (.lst vs)) (p : FL H vs fs) : OffA H x := by
  refine ⟨fun kvs z => (by rw [h] at z; cases z), fun u us q z hu => ?_⟩
  rw [h] at z
  cases z
  obtain ⟨v, f, h1, h2, h3⟩ := p.get (i := 0) (v := .ref u) rfl
  cases h1
  have hu : H _ = some (.tup [.str q.1, .int (q.2 : Int)]) := hu
  cases f with
  | some y =>
    obtain ⟨b, g1, _⟩ := h3
    rw [g1] at hu
    injection hu with hu
    injection hu with hu
    injection hu with _ hu
    injection hu with hu _
    cases hu
  | tell y w =>
    obtain ⟨b, b', g1, _⟩ := h3
    rw [g1] at hu
    injection hu with hu
    injection hu with hu
    injection hu with _ hu
    injection hu with hu _
    cases hu
end
end Tp
namespace Tp
open PySem PySem.Spec PyProof.Rows L2 He
section
variable {C : Addr} {H H' : Hp} {S L b y : Addr} {a : Mad} {A : Bk} {k t : List (Str × Str)} {p : List Str} {c d kb tb : List (Str × Str)} {pb : List Str} {cb db : List (Str × Str)} {fs fb : List Fk} {ts ds us ms : List V}
/-- something else changes -/
theorem Lx.side (j : Lx C H S L b a A k t p c d kb tb pb cb db fs fb ts ds us ms) (h1 : ∀ z ∈ A.all b, z ≠ y) (h2 : ∀ z ∈ a.all, z ≠ y) (hS : y ≠ S) (hL : y ≠ L) (x : Ext [y] H H') : Lx C H' S L b a A k t p c d kb tb pb cb db fs fb ts ds us ms :=
  ⟨j.s.keepM x (by simpa using Ne.symm hS) (by simpa using Ne.symm hL), j.M.ext x fun z hz => by simpa using h2 z hz, j.W.ext x, j.B.extM x fun z hz => by simpa using h1 z hz, j.f, j.g⟩
theorem OffA.row {x : Addr} {d : List (Str × Str)} (r : RowAt H x d) : OffA H x := by
  obtain ⟨as, h, hp⟩ := r
  exact OffA.pt h ⟨as, rfl, hp⟩
/-- a list of lists -/
theorem OffA.lists {rs : List Addr} (h : H y = some (.lst (rs.map V.ref))) (hr : ∀ R ∈ rs, ∃ vs, H R = some (.lst vs)) : OffA H y := by
  refine ⟨fun kvs z => (by rw [h] at z; cases z), fun u us q z hu => ?_⟩
  rw [h] at z
  cases rs with
  | nil => cases z
  | cons R rs =>
    cases z
    obtain ⟨vs, hv⟩ := hr u (by simp)
    have hu : H u = some (.tup _) := hu
    rw [hv] at hu
    cases hu
theorem Rw.lst {O R : Addr} {fx : List Addr} (r : Rw O H S L R fx) : ∃ vs, H R = some (.lst vs) := let ⟨_, _, _, _, _, _, _, _, _, _, _, _, _, h, _⟩ := r; ⟨_, h⟩
end
end Tp
namespace Tp
open PySem PySem.Spec PyProof.Rows L2 He
theorem Lx.some {C : Addr} {H : Hp} {S L b y : Addr} {a : Mad} {A : Bk} {k t : List (Str × Str)} {p : List Str} {c d kb tb : List (Str × Str)} {pb : List Str} {cb db : List (Str × Str)} {fs fb : List Fk} {ts ds us ms : List V} (j : Lx C H S L b a A k t p c d kb tb pb cb db fs fb ts ds us ms) (hy : ∃ v, H y = .some v) : ∀ x ∈ [b, A.lf, A.lt, a.m1, a.m4, a.m5, y], ∃ v, H x = .some v := by
  intro x hx
  simp only [List.mem_cons, List.not_mem_nil, or_false] at hx
  rcases hx with rfl | rfl | rfl | rfl | rfl | rfl | rfl
  · exact ⟨_, j.B.B.ob⟩
  · exact ⟨_, j.B.B.lf⟩
  · exact ⟨_, j.B.B.lt⟩
  · exact let ⟨_, h, _⟩ := j.M.r1; ⟨_, h⟩
  · exact let ⟨_, h, _⟩ := j.M.r4; ⟨_, h⟩
  · exact ⟨_, j.M.r5⟩
  · exact hy
end Tp
namespace Tp
open PySem PySem.Spec PyProof.Rows L2 He
theorem BookAt.some {C : Addr} {H : Hp} {p : Addr} {b : Int} {A : Bk} {ks cs : List (Str × V)} {ts ds fs : List V} {ps : List Str} (B : BookAt C H p b A ks ts ps cs ds fs) : ∀ a ∈ A.all p, ∃ v, H a = .some v := by
  intro a ha
  simp only [Bk.all, List.mem_cons, List.not_mem_nil, or_false] at ha
  rcases ha with rfl | rfl | rfl | rfl | rfl | rfl | rfl
  · exact ⟨_, B.ob⟩
  · exact ⟨_, B.dk⟩
  · exact ⟨_, B.lt⟩
  · exact ⟨_, B.lp⟩
  · exact ⟨_, B.dc⟩
  · exact ⟨_, B.ld⟩
  · exact ⟨_, B.lf⟩
end Tp
/-! Su: first, *rest = a tuple -/
namespace Tp
open PySem PySem.Spec PyProof.Rows L2 He
section
variable {X : Cx} {e1 e2 : Expr} {p pos : Pos} {k : Nat} {t : TGs}
end
end Tp
/-! Tx: a book's text -/
namespace Tp
open PySem PySem.Spec PyProof.Rows L2 He
abbrev nS (n : Nat) : Str := Str.ofString (toString (n : Int))
theorem nS_len : ∀ n, n < 100 → (nS n).length ≤ 2 := by decide +kernel
theorem str_assoc (a b c : Str) : a ++ b ++ c = a ++ (b ++ c) := by
  obtain ⟨x⟩ := a
  obtain ⟨y⟩ := b
  obtain ⟨z⟩ := c
  show Str.mk ((x ++ y) ++ z) = Str.mk (x ++ (y ++ z))
  rw [Array.append_assoc]
theorem join_is (y : Str) (zs : List Str) : Txt.join y zs = Str.join y zs := StrLaws.glued_eq_join ..
/-- the words of a fact -/
def fwD : Fk → List Str
  | .tell x y => ["tell", x.1, nS x.2, y.1, nS y.2]
  | .some x => ["some", x.1, nS x.2]
/-- all words of a book -/
def rowsD (k t : List (Str × Str)) (p : List Str) (c d : List (Str × Str)) (fs : List Fk) : List (List Str) :=
  k.map (fun q => [("kind" : Str), q.1, q.2]) ++ (t.map (fun q => [("thirst" : Str), q.1, q.2]) ++ (p.map (fun z => [("pot" : Str), z]) ++ (c.map (fun q => [("cloth" : Str), q.1, q.2]) ++ (d.map (fun q => [("dip" : Str), q.1, q.2]) ++ fs.map fwD))))
abbrev nl : Str := "\n"
abbrev sp1 : Str := " "
theorem j2 (a b : Str) : Txt.join sp1 [a, b] = a ++ sp1 ++ b := by rw [join_is]; rfl
theorem j3 (a b c : Str) : Txt.join sp1 [a, b, c] = a ++ sp1 ++ b ++ sp1 ++ c := by
  rw [join_is]
  show a ++ sp1 ++ (b ++ sp1 ++ c) = _
  rw [str_assoc (a ++ sp1) b sp1, str_assoc (a ++ sp1) (b ++ sp1) c]
theorem j5 (a b c d e : Str) : Txt.join sp1 [a, b, c, d, e] = Txt.join sp1 [a, b ++ sp1 ++ c, d ++ sp1 ++ e] := by
  rw [join_is, join_is]
  show a ++ sp1 ++ (b ++ sp1 ++ (c ++ sp1 ++ (d ++ sp1 ++ e))) = a ++ sp1 ++ ((b ++ sp1 ++ c) ++ sp1 ++ (d ++ sp1 ++ e))
  simp only [str_assoc]
end Tp
namespace Tp
open PySem PySem.Spec PyProof.Rows L2 He
/-- a fact of low numbers -/
def lowF : Fk → Prop
  | .tell x y => x.2 < 100 ∧ y.2 < 100
  | .some x => x.2 < 100
/-- lists of texts -/
def LnP (H : Hp) (as : List Addr) (rows : List (List Str)) : Prop := Paired (fun a ws => H a = some (.lst (ws.map V.str))) as rows
theorem LnP.ext {H H' : Hp} {as : List Addr} {rows : List (List Str)} (h : LnP H as rows) (e : Ext [] H H') : LnP H' as rows := by
  induction h with
  | nil => exact .nil
  | cons x _ ih => exact .cons (e.keep _ _ x (by simp)) ih
end Tp
namespace Tp
open PySem PySem.Spec PyProof.Rows L2 He
theorem LnP.snoc {H : Hp} {as : List Addr} {rows : List (List Str)} {a : Addr} {ws : List Str} (h : LnP H as rows) (ha : H a = some (.lst (ws.map V.str))) : LnP H (as ++ [a]) (rows ++ [ws]) := by
  induction h with
  | nil => exact .cons ha .nil
  | cons x _ ih => exact .cons x ih
theorem LnP.len {H : Hp} {as : List Addr} {rows : List (List Str)} (h : LnP H as rows) : as.length = rows.length := Paired.length h
theorem LnP.app {H : Hp} {as bs : List Addr} {rows rows' : List (List Str)} (h : LnP H as rows) (h2 : LnP H bs rows') : LnP H (as ++ bs) (rows ++ rows') := by
  induction h with
  | nil => exact h2
  | cons x _ ih => exact .cons x ih
theorem ln_off {H : Hp} {R : Addr} {o : HO} {as : List Addr} {rows : List (List Str)} (h : LnP H as rows) (hn : R ∉ as) : LnP (upd H R o) as rows := by
  induction h with
  | nil => exact .nil
  | @cons a ws as rows x _ ih =>
    rw [List.mem_cons, not_or] at hn
    exact .cons (by rw [upd_ne (Ne.symm hn.1)]; exact x) (ih hn.2)
end Tp
namespace Tp
open PySem PySem.Spec PyProof.Rows L2 He
end Tp
namespace Tp
open PySem PySem.Spec PyProof.Rows L2 He
end Tp
namespace Tp
open PySem PySem.Spec PyProof.Rows L2 He
end Tp
namespace Tp
open PySem PySem.Spec PyProof.Rows L2 He
/-- groups being gathered -/
structure GrS (H : Hp) (lg : Addr) (H1 : Hp) (as : List Addr) (gs : List (List Str)) : Prop where
  x : Ext [] H H1
  g : H1 lg = some (.lst (as.map V.ref))
  l : LnP H1 as gs
  n : lg ∉ as
  z : H lg = none
theorem GrS.step {H H1 H2 : Hp} {lg R : Addr} {as : List Addr} {gs : List (List Str)} {zs : List Str} (s : GrS H lg H1 as gs) (e : Ext [] H1 H2) (h0 : H1 R = none) (hR : H2 R = some (.lst (zs.map V.str))) :
    GrS H lg (upd H2 lg (.lst (as.map V.ref ++ [.ref R]))) (as ++ [R]) (gs ++ [zs]) := by
  have hne : lg ≠ R := ne_of_none s.g h0
  refine ⟨(s.x.trans e).fresh s.z, by rw [upd_same, List.map_append]; rfl, ln_off ((s.l.ext e).snoc hR) (by simp [s.n, hne]), by simp [s.n, hne], s.z⟩
theorem GrS.lst {H H1 H2 : Hp} {lg : Addr} {as : List Addr} {gs : List (List Str)} (s : GrS H lg H1 as gs) (e : Ext [] H1 H2) : H2 lg = some (.lst (as.map V.ref)) := e.keep _ _ s.g (by simp)
end Tp
namespace Tp
open PySem PySem.Spec PyProof.Rows L2 He
end Tp
namespace Tp
open PySem PySem.Spec PyProof.Rows L2 He
end Tp
namespace Tp
open PySem PySem.Spec PyProof.Rows L2 He
end Tp
namespace Tp
open PySem PySem.Spec PyProof.Rows L2 He
end Tp
/-! Sv: a model with a seventh part, a number (made by mk7.py) -/
namespace Tp
open PySem PySem.Spec PyProof.Rows L2 He
structure Ma7 where
  M : Addr
  m0 : Addr
  m1 : Addr
  m2 : Addr
  m3 : Addr
  m4 : Addr
  m5 : Addr
  b : Int
abbrev Ma7.all (a : Ma7) : List Addr := [a.M, a.m0, a.m1, a.m2, a.m3, a.m4, a.m5]
abbrev Ma7.items (a : Ma7) : List V := [.ref a.m0, .ref a.m1, .ref a.m2, .ref a.m3, .ref a.m4, .ref a.m5, .int a.b]
structure Md7 (H : Hp) (a : Ma7) (k t : List (Str × Str)) (p : List Str) (c d : List (Str × Str)) (fs : List V) : Prop where
  nd : a.all.Nodup
  M : H a.M = some (.lst a.items)
  r0 : RowAt H a.m0 k
  r1 : RowAt H a.m1 t
  r2 : H a.m2 = some (.lst (p.map V.str))
  r3 : RowAt H a.m3 c
  r4 : RowAt H a.m4 d
  r5 : H a.m5 = some (.lst fs)
section
variable {H H' : Hp} {a : Ma7} {k t c d : List (Str × Str)} {p : List Str} {fs : List V} {ms : List Addr} {z y : Str} {u : Addr} {xs : List V}
theorem Md7.ext (v : Md7 H a k t p c d fs) (e : Ext ms H H') (h : ∀ x ∈ a.all, x ∉ ms) : Md7 H' a k t p c d fs :=
  ⟨v.nd, e.keep _ _ v.M (h _ (by simp)), v.r0.ext e (h _ (by simp)), v.r1.ext e (h _ (by simp)), e.keep _ _ v.r2 (h _ (by simp)), v.r3.ext e (h _ (by simp)), v.r4.ext e (h _ (by simp)), e.keep _ _ v.r5 (h _ (by simp))⟩
end
theorem Md7.some {H : Hp} {a : Ma7} {k t c d : List (Str × Str)} {p : List Str} {fs : List V} (v : Md7 H a k t p c d fs) : ∀ x ∈ a.all, ∃ o, H x = some o := by
  intro x hx
  simp only [Ma7.all, List.mem_cons, List.not_mem_nil, or_false] at hx
  rcases hx with rfl | rfl | rfl | rfl | rfl | rfl | rfl
  · exact ⟨_, v.M⟩
  · obtain ⟨_, h, _⟩ := v.r0; exact ⟨_, h⟩
  · obtain ⟨_, h, _⟩ := v.r1; exact ⟨_, h⟩
  · exact ⟨_, v.r2⟩
  · obtain ⟨_, h, _⟩ := v.r3; exact ⟨_, h⟩
  · obtain ⟨_, h, _⟩ := v.r4; exact ⟨_, h⟩
  · exact ⟨_, v.r5⟩
theorem Md7.new {H : Hp} {a : Ma7} {k t c d : List (Str × Str)} {p : List Str} {fs : List V} {l : Addr} (v : Md7 H a k t p c d fs) (h : H l = none) : ∀ x ∈ a.all, l ≠ x := fun x hx e => by
  obtain ⟨o, ho⟩ := v.some x hx
  rw [← e, h] at ho
  cases ho
end Tp
/-! Pq: a model of seven parts and its book -/
namespace Tp
open PySem PySem.Spec PyProof.Rows L2 He
structure Pq (C : Addr) (H : Hp) (S L b : Addr) (a : Ma7) (A : Bk) (k t : List (Str × Str)) (p : List Str) (c d : List (Str × Str)) (fs : List Fk) (ts ds us ms : List V) : Prop where
  s : SrcAt H S L
  M : Md7 H a k t p c d ms
  W : FL H ms fs
  B : BkI C H b a.b A k t p c d fs ts ds us
  f : ∀ y ∈ A.all b, y ≠ S ∧ y ≠ L ∧ y ∉ a.all
  g : ∀ y ∈ a.all, y ≠ S ∧ y ≠ L
  G : GX k t p c d
  inn : ∀ f ∈ fs, inA (amtD k c d d.length) f
  b0 : (d.length : Int) ≤ a.b
  b1 : a.b ≤ 24
section
variable {C : Addr} {H H' : Hp} {S L b : Addr} {a : Ma7} {A : Bk} {k t : List (Str × Str)} {p : List Str} {c d : List (Str × Str)} {fs : List Fk} {ts ds us ms : List V}
/-- what these two are made of -/
abbrev ownP (b : Addr) (a : Ma7) (A : Bk) : List Addr := A.all b ++ a.all
theorem Pq.keep (j : Pq C H S L b a A k t p c d fs ts ds us ms) {xs : List Addr} (x : Ext xs H H') (s : SrcAt H' S L) (h : ∀ y ∈ ownP b a A, y ∉ xs) : Pq C H' S L b a A k t p c d fs ts ds us ms :=
  ⟨s, j.M.ext x fun y hy => h y (List.mem_append_right _ hy), j.W.ext x, j.B.extM x fun y hy => h y (List.mem_append_left _ hy), j.f, j.g, j.G, j.inn, j.b0, j.b1⟩
theorem Pq.draw (j : Pq C H S L b a A k t p c d fs ts ds us ms) (x : Ext [S] H H') (s : SrcAt H' S L) : Pq C H' S L b a A k t p c d fs ts ds us ms :=
  j.keep x s fun y hy => by
    rcases List.mem_append.mp hy with h | h
    · simpa using (j.f y h).1
    · simpa using (j.g y h).1
theorem Pq.grow (j : Pq C H S L b a A k t p c d fs ts ds us ms) (x : Ext [] H H') : Pq C H' S L b a A k t p c d fs ts ds us ms := j.draw x.nil (j.s.ext x)
theorem Pq.some (j : Pq C H S L b a A k t p c d fs ts ds us ms) : ∀ y ∈ ownP b a A, ∃ v, H y = .some v := by
  intro y hy
  rcases List.mem_append.mp hy with h | h
  · exact j.B.B.some y h
  · exact j.M.some y h
theorem Pq.d24 (j : Pq C H S L b a A k t p c d fs ts ds us ms) : d.length ≤ 24 := by
  have h0 := j.b0
  have h1 := j.b1
  omega
theorem Pq.kept (j : Pq C H S L b a A k t p c d fs ts ds us ms) : Kept k c d := j.G.kept (by have := j.d24; omega)
theorem low_of {xs : List Am} {n : Nat} {f : Fk} (h : inA xs f) (hx : ∀ q ∈ xs, q.2 < n) (hn : n ≤ 100) : lowF f := by
  cases f with
  | tell x y => exact ⟨by have := hx _ h.1; omega, by have := hx _ h.2; omega⟩
  | some x => exact (by have := hx _ h; omega : x.2 < 100)
theorem fw_of {xs : List Am} {n : Nat} {f : Fk} (h : inA xs f) (hx : ∀ q ∈ xs, q.2 < n) (hn : n ≤ 100) (hw : ∀ q ∈ xs, q.1 = ("take" : Str) ∨ q.1 = ("leave" : Str)) : ∀ z ∈ fwD f, z.length ≤ 100 := by
  have hq : ∀ q ∈ xs, q.1.length ≤ 100 ∧ (nS q.2).length ≤ 100 := fun q hq => by
    have h1 := hx q hq
    have h2 := nS_len q.2 (by omega)
    refine ⟨?_, by omega⟩
    rcases hw q hq with h | h <;> rw [h] <;> decide +kernel
  intro z hz
  cases f with
  | tell x y =>
    simp only [fwD, List.mem_cons, List.not_mem_nil, or_false] at hz
    rcases hz with rfl | rfl | rfl | rfl | rfl
    · decide +kernel
    · exact (hq _ h.1).1
    · exact (hq _ h.1).2
    · exact (hq _ h.2).1
    · exact (hq _ h.2).2
  | some x =>
    simp only [fwD, List.mem_cons, List.not_mem_nil, or_false] at hz
    rcases hz with rfl | rfl | rfl
    · decide +kernel
    · exact (hq _ h).1
    · exact (hq _ h).2
/-- what the texts ask for -/
theorem Pq.txt (j : Pq C H S L b a A k t p c d fs ts ds us ms) (ht : t.length ≤ 1000) (hf : fs.length ≤ 1000) : (k.length ≤ 1000 ∧ t.length ≤ 1000 ∧ p.length ≤ 1000 ∧ c.length ≤ 1000 ∧ d.length ≤ 1000 ∧ fs.length ≤ 1000) ∧ (∀ f ∈ fs, lowF f) ∧
    (∀ q ∈ k, q.1.length ≤ 100 ∧ q.2.length ≤ 100) ∧ (∀ q ∈ t, q.1.length ≤ 100 ∧ q.2.length ≤ 100) ∧ (∀ z ∈ p, z.length ≤ 100) ∧ (∀ q ∈ c, q.1.length ≤ 100 ∧ q.2.length ≤ 100) ∧ (∀ q ∈ d, q.1.length ≤ 100 ∧ q.2.length ≤ 100) ∧ (∀ f ∈ fs, ∀ z ∈ fwD f, z.length ≤ 100) := by
  have G := j.G
  have h24 := j.d24
  have hk8 := G.k8
  have hp8 := G.p8
  have hc8 := G.c8
  have hkn : ∀ z ∈ k.map (·.1), z.length ≤ 100 := fun z hz => by have := nm_len (G.kn.nm z hz); omega
  have hcn : ∀ z ∈ c.map (·.1), z.length ≤ 100 := fun z hz => by have := nm_len (G.cn.nm z hz); omega
  have hpn : ∀ z ∈ p, z.length ≤ 100 := fun z hz => by have := nm_len (G.pn.nm z hz); omega
  have hlt := amtD_lt (k := k) (c := c) (d := d) d.length
  have hwd := amtD_word (k := k) (c := c) (d := d) d.length
  refine ⟨⟨by omega, ht, by omega, by omega, by omega, hf⟩, fun f hf => low_of (j.inn f hf) hlt (by omega), fun q hq => ⟨hkn _ (List.mem_map.mpr ⟨q, hq, rfl⟩), ?_⟩, fun q hq => ⟨hkn _ (G.tk q hq).1, hkn _ (G.tk q hq).2⟩, hpn, fun q hq => ⟨hcn _ (List.mem_map.mpr ⟨q, hq, rfl⟩), hkn _ (G.ck q hq)⟩,
    fun q hq => ⟨hcn _ (G.dc q hq).1, hpn _ (G.dc q hq).2⟩, fun f hf => fw_of (j.inn f hf) hlt (by omega) hwd⟩
  rcases G.kh q hq with h | h | h <;> rw [h] <;> decide +kernel
end
end Tp
namespace Tp
open PySem PySem.Spec PyProof.Rows L2 He
end Tp
namespace Tp
open PySem PySem.Spec PyProof.Rows L2 He
end Tp
/-! Px (made by mk7b.py) -/
namespace Tp
open PySem PySem.Spec PyProof.Rows L2 He
/-- a model (m) and its book (b), each as it is now -/
structure Lx7 (C : Addr) (H : Hp) (S L b : Addr) (i : Int) (a : Ma7) (A : Bk) (k t : List (Str × Str)) (p : List Str) (c d : List (Str × Str)) (kb tb : List (Str × Str)) (pb : List Str) (cb db : List (Str × Str)) (fs fb : List Fk) (ts ds us ms : List V) : Prop where
  s : SrcAt H S L
  M : Md7 H a k t p c d ms
  W : FL H ms fs
  B : BkI C H b i A kb tb pb cb db fb ts ds us
  f : ∀ y ∈ A.all b, y ≠ S ∧ y ≠ L ∧ y ∉ a.all
  g : ∀ y ∈ a.all, y ≠ S ∧ y ≠ L
section
variable {C : Addr} {H H' : Hp} {S L b : Addr} {i : Int} {a : Ma7} {A : Bk} {k t : List (Str × Str)} {p : List Str} {c d kb tb : List (Str × Str)} {pb : List Str} {cb db : List (Str × Str)} {fs fb : List Fk} {ts ds us ms : List V}
theorem Lx7.draw (j : Lx7 C H S L b i a A k t p c d kb tb pb cb db fs fb ts ds us ms) (x : Ext [S] H H') (s : SrcAt H' S L) : Lx7 C H' S L b i a A k t p c d kb tb pb cb db fs fb ts ds us ms :=
  ⟨s, j.M.ext x fun y hy => by simpa using (j.g y hy).1, j.W.ext x, j.B.extM x fun y hy => by simpa using (j.f y hy).1, j.f, j.g⟩
theorem Lx7.grow (j : Lx7 C H S L b i a A k t p c d kb tb pb cb db fs fb ts ds us ms) (x : Ext [] H H') : Lx7 C H' S L b i a A k t p c d kb tb pb cb db fs fb ts ds us ms := j.draw x.nil (j.s.ext x)
/-- a part of the model changes -/
theorem Lx7.md (j : Lx7 C H S L b i a A k t p c d kb tb pb cb db fs fb ts ds us ms) {y : Addr} (hy : y ∈ a.all) (x : Ext [y] H H') {k' t' : List (Str × Str)} {p' : List Str} {c' d' : List (Str × Str)} {ms' : List V} {fs' : List Fk} (M : Md7 H' a k' t' p' c' d' ms') (W : FL H' ms' fs') : Lx7 C H' S L b i a A k' t' p' c' d' kb tb pb cb db fs' fb ts ds us ms' := by
  have gy := j.g y hy
  exact ⟨j.s.keepM x (by simpa using Ne.symm gy.1) (by simpa using Ne.symm gy.2), M, W, j.B.extM x fun z hz => by simp only [List.mem_singleton]; exact fun h => (j.f z hz).2.2 (by rw [h]; exact hy), j.f, j.g⟩
/-- a part of the book changes -/
theorem Lx7.bk (j : Lx7 C H S L b i a A k t p c d kb tb pb cb db fs fb ts ds us ms) {y : Addr} (hy : y ∈ A.all b) (x : Ext [y] H H') {k' t' : List (Str × Str)} {p' : List Str} {c' d' : List (Str × Str)} {fb' : List Fk} {ts' ds' us' : List V} (B : BkI C H' b i A k' t' p' c' d' fb' ts' ds' us') : Lx7 C H' S L b i a A k t p c d k' t' p' c' d' fs fb' ts' ds' us' ms := by
  have fy := j.f y hy
  exact ⟨j.s.keepM x (by simpa using Ne.symm fy.1) (by simpa using Ne.symm fy.2.1), j.M.ext x fun z hz => by simp only [List.mem_singleton]; exact fun h => fy.2.2 (by rw [← h]; exact hz), j.W.ext x, B, j.f, j.g⟩
theorem Lx7.told (j : Lx7 C H S L b i a A k t p c d kb tb pb cb db fs fb ts ds us ms) {u : Addr} {f : Fk} (x : Ext [A.lf] H H') (hu : isFk H' u f) (hf : okF f) (hl : us.length < 100) (B : BookAt C H' b i A (kb.map tv) ts pb (cb.map tv) ds (us ++ [.ref u])) : Lx7 C H' S L b i a A k t p c d kb tb pb cb db fs (fb ++ [f]) ts ds (us ++ [.ref u]) ms := by
  have hlen := j.B.F.len
  refine j.bk mem_all_lf x ⟨B, j.B.T.ext x, j.B.D.ext x, (j.B.F.ext x).snoc hu, j.B.G, j.B.nl, j.B.dl, by rw [List.length_append]; show fb.length + 1 ≤ 1000; omega, j.B.tl, fun g hg => ?_⟩
  rcases List.mem_append.mp hg with hg | hg
  · exact j.B.fo g hg
  · simp at hg
    rw [hg]
    exact hf
theorem Lx7.dip (j : Lx7 C H S L b i a A k t p c d kb tb pb cb db fs fb ts ds us ms) {u l : Addr} {q : Str × Str} (x : Ext [b] H H') (hl : H l = none) (hu : H' u = some (.tup [.str q.1, .str q.2])) (hq : q.1 ∈ cb.map (·.1)) (hd : db.length < 100) (B : BookAt C H' b i { A with ld := l } (kb.map tv) ts pb (cb.map tv) (ds ++ [.ref u]) us) : Lx7 C H' S L b i a { A with ld := l } k t p c d kb tb pb cb (db ++ [q]) fs fb ts (ds ++ [.ref u]) us ms := by
  have fb' := j.f b (by simp)
  have len1 : (db ++ [q]).length = db.length + 1 := by rw [List.length_append]; rfl
  refine ⟨j.s.keepM x (by simpa using Ne.symm fb'.1) (by simpa using Ne.symm fb'.2.1), j.M.ext x fun y hy => by simp only [List.mem_singleton]; exact fun h => fb'.2.2 (by rw [← h]; exact hy), j.W.ext x, ⟨B, j.B.T.ext x, (j.B.D.ext x).snoc hu, j.B.F.ext x, ⟨j.B.G.kn, j.B.G.k8, j.B.G.cn, j.B.G.c8, j.B.G.ck, fun z hz => ?_, by omega⟩, j.B.nl, by omega, j.B.fl, j.B.tl, j.B.fo⟩, ?_, j.g⟩
  · rcases List.mem_append.mp hz with hz | hz
    · exact j.B.G.dc z hz
    · simp at hz
      rw [hz]
      exact hq
  · have f := j.f
    intro y hy
    simp only [Bk.all, List.mem_cons, List.not_mem_nil, or_false] at hy
    rcases hy with rfl | rfl | rfl | rfl | rfl | rfl | rfl
    · exact f _ (by simp)
    · exact f _ (by simp)
    · exact f _ (by simp)
    · exact f _ (by simp)
    · exact f _ (by simp)
    · obtain ⟨h1, h2⟩ := src_ne_new j.s hl
      exact ⟨h1, h2, fun h => j.M.new hl _ h rfl⟩
    · exact f _ (by simp)
theorem Lx7.thirst (j : Lx7 C H S L b i a A k t p c d kb tb pb cb db fs fb ts ds us ms) {u : Addr} {q : Str × Str} (x : Ext [A.lt] H H') (hu : H' u = some (.tup [.str q.1, .str q.2])) (hl : tb.length < 1000) (B : BookAt C H' b i A (kb.map tv) (ts ++ [.ref u]) pb (cb.map tv) ds us) : Lx7 C H' S L b i a A k t p c d kb (tb ++ [q]) pb cb db fs fb (ts ++ [.ref u]) ds us ms :=
  j.bk (by simp) x ⟨B, (j.B.T.ext x).snoc hu, j.B.D.ext x, j.B.F.ext x, j.B.G, j.B.nl, j.B.dl, j.B.fl, by rw [List.length_append]; show tb.length + 1 ≤ 1000; omega, j.B.fo⟩
end
end Tp
namespace Tp
open PySem PySem.Spec PyProof.Rows L2 He
section
variable {C : Addr} {H : Hp} {S L b : Addr} {a : Ma7} {A : Bk} {k t : List (Str × Str)} {p : List Str} {c d : List (Str × Str)} {fs : List Fk} {ts ds us ms : List V}
theorem Lx7.pq (j : Lx7 C H S L b a.b a A k t p c d k t p c d fs fs ts ds us ms) (G : GX k t p c d) (inn : ∀ f ∈ fs, inA (amtD k c d d.length) f) (b0 : (d.length : Int) ≤ a.b) (b1 : a.b ≤ 24) : Pq C H S L b a A k t p c d fs ts ds us ms := ⟨j.s, j.M, j.W, j.B, j.f, j.g, G, inn, b0, b1⟩
end
end Tp
namespace Tp
open PySem PySem.Spec PyProof.Rows L2 He
theorem GX.holds {k t : List (Str × Str)} {p : List Str} {c d k' t' : List (Str × Str)} {p' : List Str} {c' d' : List (Str × Str)} (G : GX k t p c d) (G' : GX k' t' p' c' d') (hd : d.length ≤ 1000) (hk : ∀ q ∈ k, q ∈ k') (hc : ∀ q ∈ c, q ∈ c') : ∀ q ∈ d, holdOf k' c' q.1 = holdOf k c q.1 := fun q hq => by
  obtain ⟨y, z, h1, h2, e⟩ := (G.kept hd).hold hq
  rw [e]
  exact holdOf_eq G'.cn.nd G'.kn.nd (hc _ h1) (hk _ h2)
end Tp
namespace Tp
open PySem PySem.Spec PyProof.Rows L2 He
section
variable {C : Addr} {H H' : Hp} {S L b : Addr} {i : Int} {a : Ma7} {A : Bk} {k t : List (Str × Str)} {p : List Str} {c d kb tb : List (Str × Str)} {pb : List Str} {cb db : List (Str × Str)} {fs fb : List Fk} {ts ds us ms : List V}
/-- the book's number changes -/
theorem Lx7.bnd {n : Int} (j : Lx7 C H S L b i a A k t p c d kb tb pb cb db fs fb ts ds us ms) (x : Ext [b] H H') (B : BookAt C H' b n A (kb.map tv) ts pb (cb.map tv) ds us) : Lx7 C H' S L b n a A k t p c d kb tb pb cb db fs fb ts ds us ms := by
  have fb' := j.f b (by simp)
  exact ⟨j.s.keepM x (by simpa using Ne.symm fb'.1) (by simpa using Ne.symm fb'.2.1), j.M.ext x fun y hy => by simp only [List.mem_singleton]; exact fun h => fb'.2.2 (by rw [← h]; exact hy), j.W.ext x, ⟨B, j.B.T.ext x, j.B.D.ext x, j.B.F.ext x, j.B.G, j.B.nl, j.B.dl, j.B.fl, j.B.tl, j.B.fo⟩, j.f, j.g⟩
end
end Tp
/-! Tw: two books and their models, apart -/
namespace Tp
open PySem PySem.Spec PyProof.Rows L2 He
def isCp (H' : Hp) (n m : Addr) : Prop := ∃ xs, H' m = some (.lst xs) ∧ H' n = some (.lst xs)
theorem isCp.ext {H H' : Hp} {ms : List Addr} {n m : Addr} (h : isCp H n m) (e : Ext ms H H') (h1 : n ∉ ms) (h2 : m ∉ ms) : isCp H' n m := by
  obtain ⟨xs, a, b⟩ := h
  exact ⟨xs, e.keep _ _ a h2, e.keep _ _ b h1⟩
theorem isCp.row {H : Hp} {n m : Addr} {l : List (Str × Str)} (h : isCp H n m) (r : RowAt H m l) : RowAt H n l := by
  obtain ⟨xs, a, b⟩ := h
  obtain ⟨as, ha, hp⟩ := r
  rw [a] at ha
  cases ha
  exact ⟨as, b, hp⟩
theorem isCp.lst {H : Hp} {n m : Addr} {xs : List V} (h : isCp H n m) (r : H m = some (.lst xs)) : H n = some (.lst xs) := by
  obtain ⟨ys, a, b⟩ := h
  rw [a] at r
  cases r
  exact b
/-- one of the two: a book, its model, and what they are made of -/
def Side (C : Addr) (S L : Addr) (n : Nat) (H : Hp) (b M : Addr) (O : List Addr) : Prop := ∃ a A k t p c d fs ts ds us ms, M = a.M ∧ O = ownP b a A ∧ Pq C H S L b a A k t p c d fs ts ds us ms ∧ fs.length ≤ 3 + n ∧ t.length ≤ 3 + n
structure Two (C : Addr) (S L B M : Addr) (n : Nat) (H : Hp) : Prop where
  s : SrcAt H S L
  n1 : B ≠ S ∧ B ≠ L
  n2 : M ≠ S ∧ M ≠ L
  n3 : B ≠ M
  w : ∃ b0 M0 O0 b1 M1 O1, Side C S L n H b0 M0 O0 ∧ Side C S L n H b1 M1 O1 ∧ H B = some (.lst [.ref b0, .ref b1]) ∧ H M = some (.lst [.ref M0, .ref M1]) ∧ (∀ y ∈ O0, y ∉ O1) ∧ (∀ y ∈ O0, y ≠ B ∧ y ≠ M) ∧ ∀ y ∈ O1, y ≠ B ∧ y ≠ M
section
variable {C S L B M : Addr} {n m : Nat} {H H' : Hp} {b Mm : Addr} {O : List Addr}
theorem Side.keep (t : Side C S L n H b Mm O) {xs : List Addr} (x : Ext xs H H') (s : SrcAt H' S L) (h : ∀ y ∈ O, y ∉ xs) (hn : n ≤ m) : Side C S L m H' b Mm O := by
  obtain ⟨a, A, k, tt, p, c, d, fs, ts, ds, us, ms, rfl, rfl, j, hf, ht⟩ := t
  exact ⟨a, A, k, tt, p, c, d, fs, ts, ds, us, ms, rfl, rfl, j.keep x s h, by omega, by omega⟩
theorem Side.offS (t : Side C S L n H b Mm O) : ∀ y ∈ O, y ≠ S := by
  obtain ⟨a, A, k, tt, p, c, d, fs, ts, ds, us, ms, rfl, rfl, j, hf, ht⟩ := t
  intro y hy
  rcases List.mem_append.mp hy with h | h
  · exact (j.f y h).1
  · exact (j.g y h).1
theorem Side.some (t : Side C S L n H b Mm O) : ∀ y ∈ O, ∃ v, H y = .some v := by
  obtain ⟨a, A, k, tt, p, c, d, fs, ts, ds, us, ms, rfl, rfl, j, hf, ht⟩ := t
  exact j.some
theorem Two.draw (t : Two C S L B M n H) (x : Ext [S] H H') (s : SrcAt H' S L) : Two C S L B M n H' := by
  obtain ⟨b0, M0, O0, b1, M1, O1, s0, s1, hB, hM, dj, f0, f1⟩ := t.w
  exact ⟨s, t.n1, t.n2, t.n3, b0, M0, O0, b1, M1, O1, s0.keep x s (fun y hy => by simpa using s0.offS y hy) (Nat.le_refl _), s1.keep x s (fun y hy => by simpa using s1.offS y hy) (Nat.le_refl _), x.keep _ _ hB (by simpa using t.n1.1), x.keep _ _ hM (by simpa using t.n2.1), dj, f0, f1⟩
theorem Two.grow (t : Two C S L B M n H) (x : Ext [] H H') : Two C S L B M n H' := t.draw x.nil (t.s.ext x)
theorem Two.more (t : Two C S L B M n H) (h : n ≤ m) : Two C S L B M m H := by
  obtain ⟨b0, M0, O0, b1, M1, O1, s0, s1, r⟩ := t.w
  exact ⟨t.s, t.n1, t.n2, t.n3, b0, M0, O0, b1, M1, O1, s0.keep (Ext.refl (ms := [])) t.s (by simp) h, s1.keep (Ext.refl (ms := [])) t.s (by simp) h, r⟩
/-- the two by turns -/
theorem Two.turn (t : Two C S L B M n H) {i : Int} (h0 : 0 ≤ i) (h1 : i < 2) : ∃ bx Mx Ox by' My Oy Bs Ms, ∃ j : Nat, Side C S L n H bx Mx Ox ∧ Side C S L n H by' My Oy ∧ H B = some (.lst Bs) ∧ H M = some (.lst Ms) ∧ Bs.length = 2 ∧ Ms.length = 2 ∧
    atI Bs i = some (.ref bx) ∧ atI Ms i = some (.ref Mx) ∧ atI Bs (1 - i) = some (.ref by') ∧ atI Ms (1 - i) = some (.ref My) ∧ (∀ y ∈ Ox, y ∉ Oy) ∧ (∀ y ∈ Ox, y ≠ B ∧ y ≠ M) ∧ (∀ y ∈ Oy, y ≠ B ∧ y ≠ M) ∧ ixN 2 i = some j ∧ Bs.set j (.ref bx) = Bs ∧ Ms.set j (.ref Mx) = Ms ∧
    ∀ H' m bx' Mx' Ox', SrcAt H' S L → Side C S L m H' bx' Mx' Ox' → Side C S L m H' by' My Oy → H' B = some (.lst (Bs.set j (.ref bx'))) → H' M = some (.lst (Ms.set j (.ref Mx'))) → (∀ y ∈ Ox', y ∉ Oy) → (∀ y ∈ Ox', y ≠ B ∧ y ≠ M) → Two C S L B M m H' := by
  obtain ⟨b0, M0, O0, b1, M1, O1, s0, s1, hB, hM, dj, f0, f1⟩ := t.w
  have : i = 0 ∨ i = 1 := by omega
  rcases this with rfl | rfl
  · exact ⟨b0, M0, O0, b1, M1, O1, _, _, 0, s0, s1, hB, hM, rfl, rfl, rfl, rfl, rfl, rfl, dj, f0, f1, rfl, rfl, rfl, fun H' m bx' Mx' Ox' s u v hB' hM' dj' f' => ⟨s, t.n1, t.n2, t.n3, bx', Mx', Ox', b1, M1, O1, u, v, hB', hM', dj', f', f1⟩⟩
  · exact ⟨b1, M1, O1, b0, M0, O0, _, _, 1, s1, s0, hB, hM, rfl, rfl, rfl, rfl, rfl, rfl, fun y h1 h2 => dj y h2 h1, f1, f0, rfl, rfl, rfl, fun H' m bx' Mx' Ox' s u v hB' hM' dj' f' => ⟨s, t.n1, t.n2, t.n3, b0, M0, O0, bx', Mx', Ox', v, u, hB', hM', fun y h1 h2 => dj' y h2 h1, f0, f'⟩⟩
end
end Tp
/-! Sm: *rest, last = a list -/
namespace Tp
open PySem PySem.Spec PyProof.Rows L2 He
section
variable {X : Cx} {e1 e2 : Expr} {p pos : Pos} {k : Nat} {t : TGs}
end
end Tp
/-! Sn: match over a list of texts, by cases of a first word and names -/
namespace Tp
open PySem PySem.Spec PyProof.Rows L2 He
def setAll : L2.St → List Nat → List Str → L2.St
  | σ, i :: is, z :: zs => setAll (σ.set i (some (.str z))) is zs
  | σ, _, _ => σ
def bsOf : List Pattern → List Value → List (Str × Value)
  | .MatchAs none (some n) _ :: ps, u :: us => (n, u) :: bsOf ps us
  | _, _ => []
/-- patterns that are names of the def -/
inductive Caps (X : Cx) : List Pattern → List Nat → Prop
  | nil : Caps X [] []
  | cons {n : Str} {i : Nat} {p : Pos} {ps : List Pattern} {is : List Nat} (hi : X.N[i]? = some n) (hx : Loc X.env.scope n) (hf : X.fn n = true ∨ X.env.scope.names.lookup n = some .local) (r : Caps X ps is) : Caps X (.MatchAs none (some n) p :: ps) (i :: is)
theorem Caps.len {X : Cx} {ps : List Pattern} {is : List Nat} (c : Caps X ps is) : is.length = ps.length := by
  induction c with
  | nil => rfl
  | cons _ _ _ _ ih => rw [List.length_cons, List.length_cons, ih]
section
variable {X : Cx} {pins : List (Addr × Obj)} {A : Around} {E : Value → Shared → Prop}
theorem Caps.each {M : PySem.Model} {ps : List Pattern} {is : List Nat} (c : Caps X ps is) : ∀ {us : List Value} {s : Shared} {Q : Option (List (Str × Value)) → Shared → Prop}, us.length = ps.length → Q (some (bsOf ps us)) s → wpAny M A (matchEach ps X.env us) Q E s := by
  induction c with
  | nil =>
    intro us s Q hl hq
    exact wpAny_matchEach_nil (by simpa [bsOf] using hq)
  | cons hi hx hf r ih =>
    intro us s Q hl hq
    cases us with
    | nil => simp at hl
    | cons u us =>
      refine wpAny_matchEach_cons (wpAny_matchPattern_Capture ?_)
      exact ih (by simpa using hl) hq
theorem Caps.bind {M : PySem.Model} {ps : List Pattern} {is : List Nat} (hN : X.N.Nodup) (c : Caps X ps is) : ∀ {us : List Value} {zs : List Str} {σ : L2.St} {H : Hp} {s : Shared} {Q : Unit → Shared → Prop}, Inv X pins σ H s → Vals (zs.map V.str) us → zs.length = ps.length → (∀ s', Inv X pins (setAll σ is zs) H s' → Q () s') →
    wpAny M A (assignInOrder ((bsOf ps us).map fun (n, _) => bindName X.env n) ((bsOf ps us).map (·.2))) Q E s := by
  induction c with
  | nil =>
    intro us zs σ H s Q I r hl hq
    have : bsOf [] us = [] := by cases us <;> rfl
    rw [this]
    refine assignInOrder_nil (hq s ?_)
    have : setAll σ [] zs = σ := by cases zs <;> rfl
    rw [this]
    exact I
  | cons hi hx hf r ih =>
    intro us zs σ H s Q I rv hl hq
    cases zs with
    | nil => simp at hl
    | cons z zs =>
      cases rv with
      | cons ru rus =>
        refine assignInOrder_cons (wpAny_bindName (store_ok I hN hi hx ru (fun s' I' => ?_) hf))
        exact ih I' rus (by simpa using hl) hq
end
section
variable {X : Cx}
end
end Tp
/-! En: enumerate(a list, start) -/
namespace Tp
open PySem PySem.Spec PyProof.Rows L2 He
end Tp
/-! Kg: d.get(a text, default), d a dict that a module holds -/
namespace Tp
open PySem PySem.Spec PyProof.Rows L2 He
end Tp
/-! Sh: the lines of a model in any order that fits -/
namespace Tp
open PySem PySem.Spec PyProof.Rows L2 He
/-- the lines' words, by groups -/
def rowG (k t : List (Str × Str)) (p : List Str) (c d : List (Str × Str)) (fs : List Fk) : Nat → List (List Str)
  | 0 => k.map fun q => [("kind" : Str), q.1, q.2]
  | 1 => t.map fun q => [("thirst" : Str), q.1, q.2]
  | 2 => p.map fun z => [("pot" : Str), z]
  | 3 => c.map fun q => [("cloth" : Str), q.1, q.2]
  | 4 => d.map fun q => [("dip" : Str), q.1, q.2]
  | 5 => fs.map fwD
  | _ => []
def amF : Fk → List Am
  | .tell x y => [x, y]
  | .some x => [x]
/-- whether the next line of a group has all that it needs, n: how many are done of each -/
def rdB (k t : List (Str × Str)) (p : List Str) (c d : List (Str × Str)) (fs : List Fk) (n : Nat → Nat) : Nat → Bool
  | 0 => decide (n 0 < k.length)
  | 1 => match t[n 1]? with
    | some q => decide (q.1 ∈ (k.take (n 0)).map (·.1)) && decide (q.2 ∈ (k.take (n 0)).map (·.1))
    | none => false
  | 2 => decide (n 2 < p.length)
  | 3 => match c[n 3]? with
    | some q => decide (q.2 ∈ (k.take (n 0)).map (·.1))
    | none => false
  | 4 => match d[n 4]? with
    | some q => decide (q.1 ∈ (c.take (n 3)).map (·.1)) && decide (q.2 ∈ p.take (n 2))
    | none => false
  | 5 => match fs[n 5]? with
    | some f => (amF f).all fun q => decide (q.2 < n 4)
    | none => false
  | _ => false
abbrev bump (n : Nat → Nat) (g : Nat) : Nat → Nat := fun x => n x + if x = g then 1 else 0
theorem cnt_snoc {gs : List Nat} {g : Nat} : (fun x => (gs ++ [g]).count x) = bump (fun x => gs.count x) g := by
  funext x
  show (gs ++ [g]).count x = gs.count x + if x = g then 1 else 0
  rw [List.count_append, List.count_singleton]
  by_cases h : x = g
  · subst h; simp
  · simp [h, Ne.symm h]
section
variable {k t : List (Str × Str)} {p : List Str} {c d : List (Str × Str)} {fs : List Fk}
theorem rows_rowG : rowsD k t p c d fs = rowG k t p c d fs 0 ++ (rowG k t p c d fs 1 ++ (rowG k t p c d fs 2 ++ (rowG k t p c d fs 3 ++ (rowG k t p c d fs 4 ++ rowG k t p c d fs 5)))) := rfl
theorem rdB_row {n : Nat → Nat} {g : Nat} (h : rdB k t p c d fs n g = true) : g < 6 ∧ ∃ ws, (rowG k t p c d fs g)[n g]? = some ws := by
  match g, h with
  | 0, h =>
    have h1 : n 0 < k.length := of_decide_eq_true h
    exact ⟨by decide, _, by show (k.map _)[n 0]? = some _; rw [List.getElem?_map, List.getElem?_eq_getElem h1]; rfl⟩
  | 1, h =>
    have h' : (match t[n 1]? with
      | some q => decide (q.1 ∈ (k.take (n 0)).map (·.1)) && decide (q.2 ∈ (k.take (n 0)).map (·.1))
      | none => false) = true := h
    cases hq : t[n 1]? with
    | none =>
      rw [hq] at h'
      cases h'
    | some q => exact ⟨by decide, _, by show (t.map _)[n 1]? = some _; rw [List.getElem?_map, hq]; rfl⟩
  | 2, h =>
    have h1 : n 2 < p.length := of_decide_eq_true h
    exact ⟨by decide, _, by show (p.map _)[n 2]? = some _; rw [List.getElem?_map, List.getElem?_eq_getElem h1]; rfl⟩
  | 3, h =>
    have h' : (match c[n 3]? with
      | some q => decide (q.2 ∈ (k.take (n 0)).map (·.1))
      | none => false) = true := h
    cases hq : c[n 3]? with
    | none =>
      rw [hq] at h'
      cases h'
    | some q => exact ⟨by decide, _, by show (c.map _)[n 3]? = some _; rw [List.getElem?_map, hq]; rfl⟩
  | 4, h =>
    have h' : (match d[n 4]? with
      | some q => decide (q.1 ∈ (c.take (n 3)).map (·.1)) && decide (q.2 ∈ p.take (n 2))
      | none => false) = true := h
    cases hq : d[n 4]? with
    | none =>
      rw [hq] at h'
      cases h'
    | some q => exact ⟨by decide, _, by show (d.map _)[n 4]? = some _; rw [List.getElem?_map, hq]; rfl⟩
  | 5, h =>
    have h' : (match fs[n 5]? with
      | some q => (amF q).all fun q => decide (q.2 < n 4)
      | none => false) = true := h
    cases hq : fs[n 5]? with
    | none =>
      rw [hq] at h'
      cases h'
    | some q => exact ⟨by decide, _, by show (fs.map _)[n 5]? = some _; rw [List.getElem?_map, hq]; rfl⟩
/-- an order of lines that fits -/
inductive Sh (k t : List (Str × Str)) (p : List Str) (c d : List (Str × Str)) (fs : List Fk) : List Nat → List (List Str) → Prop where
  | nil : Sh k t p c d fs [] []
  | snoc {gs : List Nat} {rows : List (List Str)} {g : Nat} {ws : List Str} : Sh k t p c d fs gs rows → rdB k t p c d fs (fun x => gs.count x) g = true → (rowG k t p c d fs g)[gs.count g]? = some ws → Sh k t p c d fs (gs ++ [g]) (rows ++ [ws])
theorem Sh.len {gs : List Nat} {rows : List (List Str)} (h : Sh k t p c d fs gs rows) : rows.length = gs.length := by
  induction h with
  | nil => rfl
  | snoc _ _ _ ih => rw [List.length_append, List.length_append, ih]; rfl
theorem Sh.lt6 {gs : List Nat} {rows : List (List Str)} (h : Sh k t p c d fs gs rows) : ∀ g ∈ gs, g < 6 := by
  induction h with
  | nil => simp
  | snoc _ h1 _ ih =>
    intro g hg
    rcases List.mem_append.mp hg with hg | hg
    · exact ih g hg
    · rw [List.mem_singleton.mp hg]
      exact (rdB_row h1).1
theorem Sh.le {gs : List Nat} {rows : List (List Str)} (h : Sh k t p c d fs gs rows) : ∀ g, gs.count g ≤ (rowG k t p c d fs g).length := by
  induction h with
  | nil => intro g; exact Nat.zero_le _
  | @snoc gs rows g ws _ h1 h2 ih =>
    intro x
    have e : (gs ++ [g]).count x = gs.count x + if x = g then 1 else 0 := congrFun (cnt_snoc (gs := gs) (g := g)) x
    have h3 := (List.getElem?_eq_some_iff.mp h2).1
    have h4 := ih x
    rw [e]
    by_cases hx : x = g
    · subst hx
      rw [if_pos rfl]
      exact h3
    · rw [if_neg hx]
      exact h4
theorem Sh.get {gs : List Nat} {rows : List (List Str)} (h : Sh k t p c d fs gs rows) : ∀ {i : Nat} {ws : List Str}, rows[i]? = some ws → ∃ g, g < 6 ∧ gs[i]? = some g ∧ rdB k t p c d fs (fun x => (gs.take i).count x) g = true ∧ (rowG k t p c d fs g)[(gs.take i).count g]? = some ws := by
  induction h with
  | nil => intro i ws h; simp at h
  | @snoc gs rows g ws' hs h1 h2 ih =>
    intro i ws hi
    have hl := hs.len
    by_cases hlt : i < rows.length
    · rw [List.getElem?_append_left hlt] at hi
      obtain ⟨g', a1, a2, a3, a4⟩ := ih hi
      refine ⟨g', a1, by rw [List.getElem?_append_left (by omega)]; exact a2, ?_⟩
      rw [List.take_append_of_le_length (by omega)]
      exact ⟨a3, a4⟩
    · rw [List.getElem?_append_right (by omega)] at hi
      have h0 : i - rows.length = 0 := by
        have := (List.getElem?_eq_some_iff.mp hi).1
        rw [List.length_singleton] at this
        omega
      rw [h0] at hi
      cases hi
      have hi2 : i = gs.length := by omega
      subst hi2
      refine ⟨g, (rdB_row h1).1, by rw [List.getElem?_append_right (Nat.le_refl _), Nat.sub_self]; rfl, ?_⟩
      rw [List.take_left]
      exact ⟨h1, h2⟩
theorem cnt_sum : ∀ gs : List Nat, (∀ g ∈ gs, g < 6) → gs.length = gs.count 0 + gs.count 1 + gs.count 2 + gs.count 3 + gs.count 4 + gs.count 5
  | [], _ => rfl
  | x :: r, h => by
    have ih := cnt_sum r fun g hg => h g (List.mem_cons_of_mem _ hg)
    have hx := h x (List.mem_cons_self ..)
    have hc : ∀ y, (x :: r).count y = r.count y + if x = y then 1 else 0 := fun y => by
      rw [List.count_cons]
      by_cases e : x = y
      · subst e; simp
      · simp [e]
    rw [List.length_cons, hc 0, hc 1, hc 2, hc 3, hc 4, hc 5, ih]
    match x, hx with
    | 0, _ => simp; omega
    | 1, _ => simp; omega
    | 2, _ => simp; omega
    | 3, _ => simp; omega
    | 4, _ => simp; omega
    | 5, _ => simp; omega
/-- what goes together of what is done -/
structure Fit (k t : List (Str × Str)) (p : List Str) (c d : List (Str × Str)) (n : Nat → Nat) : Prop where
  tk : ∀ q ∈ t.take (n 1), q.1 ∈ (k.take (n 0)).map (·.1) ∧ q.2 ∈ (k.take (n 0)).map (·.1)
  ck : ∀ q ∈ c.take (n 3), q.2 ∈ (k.take (n 0)).map (·.1)
  dc : ∀ q ∈ d.take (n 4), q.1 ∈ (c.take (n 3)).map (·.1) ∧ q.2 ∈ p.take (n 2)
theorem take_bump {α : Type} {l : List α} {n : Nat → Nat} {g x : Nat} {q : α} (h : q ∈ l.take (bump n g x)) : q ∈ l.take (n x) ∨ (x = g ∧ l[n x]? = some q) := by
  unfold bump at h
  by_cases e : x = g
  · rw [if_pos e] at h
    rw [List.take_add_one] at h
    rcases List.mem_append.mp h with h | h
    · exact .inl h
    · exact .inr ⟨e, by simpa using h⟩
  · rw [if_neg e] at h
    exact .inl h
theorem take_le {α : Type} {l : List α} {a b : Nat} {q : α} (h : q ∈ l.take a) (hab : a ≤ b) : q ∈ l.take b := by
  have : l.take a = (l.take b).take a := by rw [List.take_take, Nat.min_eq_left hab]
  rw [this] at h
  exact List.mem_of_mem_take h
theorem take_leM {l : List (Str × Str)} {a b : Nat} {q : Str} (h : q ∈ (l.take a).map (·.1)) (hab : a ≤ b) : q ∈ (l.take b).map (·.1) := by
  obtain ⟨z, hz, rfl⟩ := List.mem_map.mp h
  exact List.mem_map.mpr ⟨z, take_le hz hab, rfl⟩
theorem Fit.step {n : Nat → Nat} {g : Nat} (F : Fit k t p c d n) (h : rdB k t p c d fs n g = true) : Fit k t p c d (bump n g) := by
  have le : ∀ x, n x ≤ bump n g x := fun x => Nat.le_add_right _ _
  refine ⟨fun q hq => ?_, fun q hq => ?_, fun q hq => ?_⟩
  · rcases take_bump hq with hq | ⟨e1, hq2⟩
    · exact ⟨take_leM (F.tk q hq).1 (le 0), take_leM (F.tk q hq).2 (le 0)⟩
    · subst e1
      have h' : (match t[n 1]? with
        | some q => decide (q.1 ∈ (k.take (n 0)).map (·.1)) && decide (q.2 ∈ (k.take (n 0)).map (·.1))
        | none => false) = true := h
      rw [hq2] at h'
      simp only [Bool.and_eq_true, decide_eq_true_eq] at h'
      exact ⟨take_leM h'.1 (le 0), take_leM h'.2 (le 0)⟩
  · rcases take_bump hq with hq | ⟨e1, hq2⟩
    · exact take_leM (F.ck q hq) (le 0)
    · subst e1
      have h' : (match c[n 3]? with
        | some q => decide (q.2 ∈ (k.take (n 0)).map (·.1))
        | none => false) = true := h
      rw [hq2] at h'
      simp only [decide_eq_true_eq] at h'
      exact take_leM h' (le 0)
  · rcases take_bump hq with hq | ⟨e1, hq2⟩
    · exact ⟨take_leM (F.dc q hq).1 (le 3), take_le (F.dc q hq).2 (le 2)⟩
    · subst e1
      have h' : (match d[n 4]? with
        | some q => decide (q.1 ∈ (c.take (n 3)).map (·.1)) && decide (q.2 ∈ p.take (n 2))
        | none => false) = true := h
      rw [hq2] at h'
      simp only [Bool.and_eq_true, decide_eq_true_eq] at h'
      exact ⟨take_leM h'.1 (le 3), take_le h'.2 (le 2)⟩
theorem Sh.fit {gs : List Nat} {rows : List (List Str)} (h : Sh k t p c d fs gs rows) : ∀ i, Fit k t p c d fun x => (gs.take i).count x := by
  induction h with
  | nil =>
    intro i
    have e : (fun x => (([] : List Nat).take i).count x) = fun _ => 0 := by
      funext x
      rw [List.take_nil]
      rfl
    rw [e]
    exact ⟨by simp, by simp, by simp⟩
  | @snoc gs rows g ws hs h1 h2 ih =>
    intro i
    by_cases hi : i ≤ gs.length
    · rw [List.take_append_of_le_length hi]
      exact ih i
    · rw [List.take_of_length_le (by rw [List.length_append, List.length_singleton]; omega), cnt_snoc]
      have h0 := ih gs.length
      rw [List.take_length] at h0
      exact h0.step h1
theorem Sh.run {gs : List Nat} {rows : List (List Str)} {g : Nat} (h : Sh k t p c d fs gs rows) (h0 : gs.count g = 0) : ∀ m, m ≤ (rowG k t p c d fs g).length → (∀ i, i < m → rdB k t p c d fs (fun x => gs.count x + if x = g then i else 0) g = true) → Sh k t p c d fs (gs ++ List.replicate m g) (rows ++ (rowG k t p c d fs g).take m)
  | 0, _, _ => by
    rw [List.replicate_zero, List.append_nil, List.take_zero, List.append_nil]
    exact h
  | m + 1, hm, hr => by
    have ih := Sh.run h h0 m (by omega) fun i hi => hr i (by omega)
    have hc : ∀ x, (gs ++ List.replicate m g).count x = gs.count x + if x = g then m else 0 := fun x => by
      rw [List.count_append, List.count_replicate]
      by_cases e : x = g
      · subst e; simp
      · simp [e, Ne.symm e]
    have h1 : rdB k t p c d fs (fun x => (gs ++ List.replicate m g).count x) g = true := by
      rw [funext hc]
      exact hr m (by omega)
    have hgm : (gs ++ List.replicate m g).count g = m := by rw [hc, if_pos rfl, h0, Nat.zero_add]
    have hm' : m < (rowG k t p c d fs g).length := by omega
    rw [List.replicate_succ', ← List.append_assoc, take_snoc (List.getElem?_eq_getElem hm'), ← List.append_assoc]
    exact ih.snoc h1 (by rw [hgm]; exact List.getElem?_eq_getElem hm')
theorem cnt_rep {m g x : Nat} : (List.replicate m g).count x = if x = g then m else 0 := by
  rw [List.count_replicate]
  by_cases e : x = g
  · subst e; simp
  · simp [e, Ne.symm e]
/-- the lines in the told order fit -/
theorem Sh.told (tk : ∀ q ∈ t, q.1 ∈ k.map (·.1) ∧ q.2 ∈ k.map (·.1)) (ck : ∀ q ∈ c, q.2 ∈ k.map (·.1)) (dc : ∀ q ∈ d, q.1 ∈ c.map (·.1) ∧ q.2 ∈ p) (hf : ∀ f ∈ fs, ∀ q ∈ amF f, q.2 < d.length) : ∃ gs, Sh k t p c d fs gs (rowsD k t p c d fs) := by
  have mk : ∀ {l : List (Str × Str)}, l.take l.length = l := fun {l} => List.take_length
  have s0 := Sh.run (g := 0) (Sh.nil (k := k) (t := t) (p := p) (c := c) (d := d) (fs := fs)) rfl k.length (by show _ ≤ (k.map _).length; rw [List.length_map]; exact Nat.le_refl _) fun i hi => by
    show decide (_ < k.length) = true
    exact decide_eq_true (by simpa using hi)
  have s1 := Sh.run (g := 1) s0 (by simp [cnt_rep]) t.length (by show _ ≤ (t.map _).length; rw [List.length_map]; exact Nat.le_refl _) fun i hi => by
    unfold rdB
    simp only [List.count_append, cnt_rep, List.count_nil, List.nil_append, if_true, if_false, Nat.zero_add, Nat.add_zero, reduceIte]
    simp only [show ((1 : Nat) = 0) = False from by simp, show ((0 : Nat) = 1) = False from by simp, if_false, Nat.zero_add, Nat.add_zero, mk, List.getElem?_eq_getElem hi]
    have := tk _ (List.getElem_mem hi)
    simp only [decide_eq_true this.1, decide_eq_true this.2, Bool.and_self]
  have s2 := Sh.run (g := 2) s1 (by simp [cnt_rep]) p.length (by show _ ≤ (p.map _).length; rw [List.length_map]; exact Nat.le_refl _) fun i hi => by
    show decide (_ < p.length) = true
    exact decide_eq_true (by simpa [cnt_rep] using hi)
  have s3 := Sh.run (g := 3) s2 (by simp [cnt_rep]) c.length (by show _ ≤ (c.map _).length; rw [List.length_map]; exact Nat.le_refl _) fun i hi => by
    unfold rdB
    have := ck _ (List.getElem_mem hi)
    simp [cnt_rep, List.getElem?_eq_getElem hi]
    simpa using this
  have s4 := Sh.run (g := 4) s3 (by simp [cnt_rep]) d.length (by show _ ≤ (d.map _).length; rw [List.length_map]; exact Nat.le_refl _) fun i hi => by
    unfold rdB
    have := dc _ (List.getElem_mem hi)
    simp [cnt_rep, List.getElem?_eq_getElem hi]
    simpa using this
  have s5 := Sh.run (g := 5) s4 (by simp [cnt_rep]) fs.length (by show _ ≤ (fs.map _).length; rw [List.length_map]; exact Nat.le_refl _) fun i hi => by
    unfold rdB
    have := hf _ (List.getElem_mem hi)
    simp [cnt_rep, List.getElem?_eq_getElem hi]
    exact fun a b h => this _ h
  rw [rows_rowG]
  have e : ∀ g, (rowG k t p c d fs g).take (rowG k t p c d fs g).length = rowG k t p c d fs g := fun g => List.take_length
  rw [show k.length = (rowG k t p c d fs 0).length from (List.length_map ..).symm, show t.length = (rowG k t p c d fs 1).length from (List.length_map ..).symm, show p.length = (rowG k t p c d fs 2).length from (List.length_map ..).symm, show c.length = (rowG k t p c d fs 3).length from (List.length_map ..).symm, show d.length = (rowG k t p c d fs 4).length from (List.length_map ..).symm, show fs.length = (rowG k t p c d fs 5).length from (List.length_map ..).symm, e, e, e, e, e, e, List.nil_append] at s5
  simp only [List.append_assoc] at s5
  exact ⟨_, s5⟩
abbrev totG (k t : List (Str × Str)) (p : List Str) (c d : List (Str × Str)) (fs : List Fk) : Nat := k.length + (t.length + (p.length + (c.length + (d.length + fs.length))))
theorem len_rowG : (rowG k t p c d fs 0).length = k.length ∧ (rowG k t p c d fs 1).length = t.length ∧ (rowG k t p c d fs 2).length = p.length ∧ (rowG k t p c d fs 3).length = c.length ∧ (rowG k t p c d fs 4).length = d.length ∧ (rowG k t p c d fs 5).length = fs.length :=
  ⟨List.length_map .., List.length_map .., List.length_map .., List.length_map .., List.length_map .., List.length_map ..⟩
theorem Sh.full {gs : List Nat} {rows : List (List Str)} (h : Sh k t p c d fs gs rows) (hl : gs.length = totG k t p c d fs) : gs.count 0 = k.length ∧ gs.count 1 = t.length ∧ gs.count 2 = p.length ∧ gs.count 3 = c.length ∧ gs.count 4 = d.length ∧ gs.count 5 = fs.length := by
  obtain ⟨e0, e1, e2, e3, e4, e5⟩ := len_rowG (k := k) (t := t) (p := p) (c := c) (d := d) (fs := fs)
  have h0 := h.le 0
  have h1 := h.le 1
  have h2 := h.le 2
  have h3 := h.le 3
  have h4 := h.le 4
  have h5 := h.le 5
  have hs := cnt_sum gs h.lt6
  unfold totG at hl
  refine ⟨?_, ?_, ?_, ?_, ?_, ?_⟩ <;> omega
/-! ### amounts of what is done -/
end
/-! ### lines read back -/
open TL
theorem Sh.mem {k t : List (Str × Str)} {p : List Str} {c d : List (Str × Str)} {fs : List Fk} {gs : List Nat} {rows : List (List Str)} (S : Sh k t p c d fs gs rows) {ws : List Str} (h : ws ∈ rows) : ws ∈ rowsD k t p c d fs := by
  obtain ⟨i, hi⟩ := List.getElem?_of_mem h
  obtain ⟨g, hg, _, _, hr⟩ := S.get hi
  have hm := List.mem_of_getElem? hr
  rw [rows_rowG]
  simp only [List.mem_append]
  match g, hg, hm with
  | 0, _, hm => exact .inl hm
  | 1, _, hm => exact .inr (.inl hm)
  | 2, _, hm => exact .inr (.inr (.inl hm))
  | 3, _, hm => exact .inr (.inr (.inr (.inl hm)))
  | 4, _, hm => exact .inr (.inr (.inr (.inr (.inl hm))))
  | 5, _, hm => exact .inr (.inr (.inr (.inr (.inr hm))))
theorem src_extM {H H' : Hp} {ms : List Addr} {S L : Addr} (s : SrcAt H S L) (e : Ext ms H H') (hS : S ∉ ms) (hL : L ∉ ms) : SrcAt H' S L := by
  obtain ⟨cells, i, k, g, h1, h2, h3⟩ := s
  exact ⟨cells, i, k, g, e.keep _ _ h1 hS, e.keep _ _ h2 hL, h3⟩
end Tp
/-! Is: isinstance(x, C) of an own class, as a check of a head -/
namespace Tp
open PySem PySem.Spec PyProof.Rows L2 He C8
def insB (K : PySem.W.Frag) (C : Addr) : Bool := eqO (PySem.W.findIn K (.ref C) "__class__") (some (some (.builtin "object.__class__"))) && (eqO (PySem.W.specialIn K (.builtin "object.__class__") "__get__") (some (some (.builtin "getset_descriptor.__get__"))) && (decide (PySem.W.takesIn K (.builtin "object.__class__") = some true) &&
  (decide (PySem.W.mroIn K C (.type "object") = some true) && (decide (PySem.W.kitOne K (.ref C) (.ref C) = some true) && (decide (PySem.W.kitOne K (.type "list") (.ref C) = some false) && PySem.W.notFirst K C (.type "list"))))))
theorem insB_ok {K : PySem.W.Frag} {C : Addr} (c : Cls K C) (h : insB K C = true) : InsC K C := by
  obtain ⟨h1, h⟩ := ba h
  obtain ⟨h2, h⟩ := ba h
  obtain ⟨h3, h⟩ := ba h
  obtain ⟨h4, h⟩ := ba h
  obtain ⟨h5, h⟩ := ba h
  exact ⟨c, eqO_ok h1, eqO_ok h2, of_decide_eq_true h3, of_decide_eq_true h4, of_decide_eq_true h5⟩
theorem insL_ok {K : PySem.W.Frag} {C : Addr} (h : insB K C = true) : PySem.W.kitOne K (.type "list") (.ref C) = some false ∧ PySem.W.notFirst K C (.type "list") = true := by
  obtain ⟨h1, h⟩ := ba h
  obtain ⟨h2, h⟩ := ba h
  obtain ⟨h3, h⟩ := ba h
  obtain ⟨h4, h⟩ := ba h
  obtain ⟨h5, h⟩ := ba h
  obtain ⟨h6, h7⟩ := ba h
  exact ⟨of_decide_eq_true h6, h7⟩
end Tp
/-! Sk: sorted(a list, key=an own def), the keys data -/
namespace Tp
open PySem PySem.Spec PyProof.Rows L2 He
/-- an object that is there is tracked from now on -/
theorem inv_track {X : Cx} {pins : List (Addr × Obj)} {σ : L2.St} {H : Hp} {s : Shared} {a : Addr} {o : HO} (I : Inv X pins σ H s) (f : FpOk X pins H a) (ok : ObjOk X.prog X.w (upd H a o) s.heap a o) : Inv X pins σ (upd H a o) s := by
  obtain ⟨fn, f1, f2, f3, f4, f5⟩ := f
  have nb : ∀ {b : Addr} {v : HO}, H b = some v → b ≠ a := fun e z => by rw [z, fn] at e; cases e
  exact I.step (h' := s.heap) (g' := s.gens) (d' := s.drawn) (t' := s.toks) (ch := [a]) (fun b hb => by rw [List.mem_singleton.mp hb]; exact ⟨f3, f1, f4, f5⟩) (fun b u _ _ _ e _ => e) (fun b u _ _ _ e _ => ⟨u.slots, e⟩)
    (fun b u hb e n => by rw [upd_ne (by simpa using hb)]; exact n) (fun b u _ e => ⟨u, e⟩) (fun b xs e => by rw [upd_ne (nb e)]; exact e) (fun b u v e => by rw [upd_ne (nb e)]; exact e) (fun b ps e => ⟨#[], by rw [upd_ne (nb e), e]; simp⟩) (fun m h => h)
    (fun b u e => by
      by_cases hb : b = a
      · subst hb
        rw [upd_same] at e
        cases e
        exact ok
      · rw [upd_ne hb] at e
        exact (I.hok b u e).stay (fun c v _ q => q) (fun c q => by rw [upd_ne (nb q)]; exact q) fun c xs q => by rw [upd_ne (nb q)]; exact q) I.bare
theorem fp_next {X : Cx} {pins : List (Addr × Obj)} {H H' : Hp} {a : Addr} (f : FpOk X pins H a) (n : H' a = none) : FpOk X pins H' a := ⟨n, f.2⟩
/-- an object changes that nothing tracks -/
theorem inv_change {X : Cx} {pins : List (Addr × Obj)} {σ : L2.St} {H : Hp} {s : Shared} {h' : Heap} {t' : Nat} {ch : List Addr} (I : Inv X pins σ H s) (k : ∀ b o, b ∉ ch → s.heap.get? b = some o → h'.get? b = some o) (f : ∀ b ∈ ch, FpOk X pins H b) : Inv X pins σ H { s with heap := h', toks := t' } := I.turnedL k f
def rSortedF (X : Cx) (sp : Sp) (f : Addr) : List V → List V → Hp → VK → Prop := fun vs zs H Q => ∃ (a : Addr) (xs : List V) (key : V → PyData), vs = [.ref a] ∧ zs = [.ref f] ∧ SqL X.K H a xs ∧ PySem.W.AllAlike (xs.map key) ∧ PySem.W.Sortable (xs.map key) ∧ (∀ y ∈ xs, (key y).depth ≤ 50) ∧
  (∀ y ∈ xs, ∀ H', Ext [] H H' → sp [y] H' (fun v H'' => Ext [] H' H'' ∧ Im H'' v (key y)) E0) ∧ ∀ p H', Ext [] H H' → H' p = none → Q (.ref p) (upd H' p (.lst (xs.mergeSort (PySem.W.dataLe false key))))
theorem each_vals : ∀ {us : List Value} {xs : List V}, Vals xs us → PySem.W.EachIs (fun u y => RelV y u) us xs
  | _, _, .nil => .nil
  | _, _, .cons r t => .cons r (each_vals t)
theorem vals_each : ∀ {us : List Value} {xs : List V}, PySem.W.EachIs (fun u y => RelV y u) us xs → Vals xs us
  | _, _, .nil => .nil
  | _, _, .cons r t => .cons r (vals_each t)
theorem im_reads {X : Cx} {pins : List (Addr × Obj)} {σ : L2.St} {H : Hp} {s : Shared} (I : Inv X pins σ H s) : ∀ {ds : List PyData} {vs : List V} {us : List Value}, ImAll H vs ds → Vals vs us → PySem.W.EachIs (fun u d => ∃ as, Reads s.heap u d as) us ds
  | _, _, _, .nil, .nil => .nil
  | _, _, _, .cons h t, .cons r q => .cons (Dp.reads I _ _ _ h.dp r) (im_reads I t q)
theorem imAll_snoc {H : Hp} {v : V} {d : PyData} (h : Im H v d) : ∀ {vs : List V} {ds : List PyData}, ImAll H vs ds → ImAll H (vs ++ [v]) (ds ++ [d])
  | _, _, .nil => .cons h .nil
  | _, _, .cons x r => .cons x (imAll_snoc h r)
theorem imAll_len {H : Hp} : ∀ {vs : List V} {ds : List PyData}, ImAll H vs ds → vs.length = ds.length
  | _, _, .nil => rfl
  | _, _, .cons _ r => congrArg (· + 1) (imAll_len r)
theorem sort_restG {X : Cx} {pins : List (Addr × Obj)} {σ : L2.St} {H : Hp} {s : Shared} {e1 : Nat} {f aL kS : Addr} {Q : VK} {E' : Value → Shared → Prop} {xs : List V} {its : List Value} {key : V → PyData} 
    (hturn : ∀ (pins' : List (Addr × Obj)) (s' : Shared) (H' : Hp) (y : V) (u : Value), y ∈ xs → Inv X pins' σ H' s' → Ext [] H H' → RelV y u → wpAny (model X.prog X.w) X.A.in1.in1 (call (.ref f) [u]) (EP X pins' σ fun v H'' => Ext [] H' H'' ∧ Im H'' v (key y)) (fun _ _ => False) s')
    (I : Inv X pins σ H s) (hka : kS ≠ aL) (fA : FpOk X pins H aL) (fK : FpOk X pins H kS) (nk : s.heap.get? kS = some (seqObj "list" #[] 0)) (na : s.heap.get? aL = some (seqObj "list" #[] e1)) (r : Vals xs its) (hz : xs.length ≤ sizeLine)
    (hal : PySem.W.AllAlike (xs.map key)) (hsk : PySem.W.Sortable (xs.map key)) (hu : ∀ y ∈ xs, X.A.units + 2 + (key y).depth < cLine)
    (q : ∀ H', Ext [] H H' → H' aL = none → Q (.ref aL) (upd H' aL (.lst (xs.mergeSort (PySem.W.dataLe false key))))) :
    wpAny (model X.prog X.w) X.A.in1.in1 (ksk_rest aL (.ref f) false its.toArray e1 (.ref kS)) (fun g s' => g = .done (.ret .none) ∧ EP X pins σ Q (.ref aL) s') E' s := by
  have hlen : xs.length = its.length := r.length
  unfold ksk_rest
  refine wpAny_bind (wpAny_rule (show wpAny _ _ _ _ _ s from ?_))
  first
    | rw [List.forIn_toArray]
    | (rw [← Array.forIn_toList]; simp only [List.toList_toArray])
    | rw [← Array.forIn_toList]
  refine wpAny_bind (ksk_fold (fun i s' => ∃ H' ks kA e, Inv X pins σ H' s' ∧ Ext [] H H' ∧ s'.heap.get? kS = some (seqObj "list" kA e) ∧ s'.heap.get? aL = some (seqObj "list" #[] e1) ∧ FpOk X pins H' kS ∧ FpOk X pins H' aL ∧ Vals ks kA.toList ∧ ImAll H' ks ((xs.take i).map key)) its 0 s
    ⟨H, [], #[], 0, I, Ext.refl, nk, na, fK, fA, .nil, .nil⟩ ?step ?done)
  case step =>
    rintro j u s' hx ⟨H', ks, kA, e, I', x1, nk', na', gK, gA, rk, im⟩
    rw [Nat.zero_add] at im ⊢
    have hj := (List.getElem?_eq_some_iff.mp hx).1
    have hy : xs[j]? = some xs[j] := List.getElem?_eq_getElem (by omega)
    obtain ⟨u', hu', ru⟩ := r.get hy
    rw [hx] at hu'
    cases hu'
    generalize xs[j] = y at hy ru
    have hym := List.mem_of_getElem? hy
    have nocell : ∀ {c : String} {l : Array Value} {n : Nat} (v : Option Value), (seqObj c l n).data ≠ .cell v := fun v h => nomatch h
    have I2 := I'.pinned (fp := [kS, aL]) (fun b hm => by
      simp only [List.mem_cons, List.not_mem_nil, or_false] at hm
      rcases hm with rfl | rfl
      · exact gK
      · exact gA) (fun b hm => by
      simp only [List.mem_cons, List.not_mem_nil, or_false] at hm
      rcases hm with rfl | rfl
      · exact ⟨_, nk', nocell⟩
      · exact ⟨_, na', nocell⟩)
    have turn := hturn _ s' H' y u hym I2 x1 ru
    refine wpAny_bind (wpAny_attempt (wpAny_mono turn (fun v s'' he => ?_) fun _ _ hF => False.elim hF))
    obtain ⟨z, H'', I3, rz, x2, imz⟩ := he
    obtain ⟨nk2, nK, _⟩ := I3.pin (kS, _) (List.mem_append_right _ (List.mem_append_right _ (mem_pinsAt (by simp) nk')))
    obtain ⟨na2, nA, _⟩ := I3.pin (aL, _) (List.mem_append_right _ (List.mem_append_right _ (mem_pinsAt (by simp) na')))
    have I4 := I3.unpinned
    have g2K := fp_next gK nK
    have g2A := fp_next gA nA
    have hks : kA.size ≤ its.length := by
      have h1 := rk.length
      have h2 := imAll_len im
      rw [List.length_map, List.length_take] at h2
      have h3 : kA.toList.length = kA.size := Array.length_toList
      have h4 : ks.length = kA.toList.length := h1
      omega
    obtain ⟨c2, hc2⟩ : ∃ c2, (s''.heap.update kS (Obj.mapSeq (·.push v))).get? kS = some (seqObj "list" (kA.push v) c2) := ⟨_, get?_update_seq nk2 (·.push v)⟩
    have oth : ∀ b o, b ∉ [kS] → s''.heap.get? b = some o → (s''.heap.update kS (Obj.mapSeq (·.push v))).get? b = some o := fun b o hn e => ((Heap.SameBut.update s''.heap kS (Obj.mapSeq (·.push v))).2 b (by simpa using hn)).trans e
    try dsimp only
    refine wpAny_bind (listUpdate_at nk2 rfl (wpAny_pure ?_) (by omega) (by rw [Array.size_push]; omega))
    refine ⟨rfl, H'', ks ++ [z], kA.push v, c2, inv_change (s := s'') (t' := s''.toks) I4 (ch := [kS]) oth (fun b hm => by rw [List.mem_singleton.mp hm]; exact g2K), x1.trans x2, hc2, oth _ _ (by simpa using Ne.symm hka) na2, g2K, g2A, ?_, ?_⟩
    · rw [Array.toList_push]
      exact rk.append (.cons rz .nil)
    · rw [take_snoc hy, List.map_append]
      exact imAll_snoc imz (im.ext x2)
  case done =>
    rintro s' ⟨H', ks, kA, e, I', x1, nk', na', gK, gA, rk, im⟩
    rw [Nat.zero_add, ← hlen, List.take_length] at im
    have hk' := im_reads I' im rk
    have hsz : kA.size = its.length := by
      have h1 := rk.length
      have h2 := imAll_len im
      rw [List.length_map] at h2
      have h3 : kA.toList.length = kA.size := Array.length_toList
      have h4 : ks.length = kA.toList.length := h1
      omega
    have hid : ∀ {b : Addr} {o : Obj}, b ≠ kS → s'.heap.get? b = some o → (hidT s'.heap fun b => if b = kS then some (.lst []) else none).get? b = some o := fun hn e => hidT_get e (if_neg hn)
    have hno : (hidT s'.heap fun b => if b = kS then some (.lst []) else none).get? kS = none := by
      cases e : (hidT s'.heap fun b => if b = kS then some (.lst []) else none).get? kS with
      | none => rfl
      | some o =>
        have h1 := (of_hidT e).2
        simp at h1
    have hu' : ∀ d, d ∈ xs.map key → X.A.in1.in1.units + d.depth < cLine := fun d hd => by
      obtain ⟨y, hy, rfl⟩ := List.mem_map.mp hd
      exact hu y hy
    refine wpAny_bind (listItems_at nk' rfl ?_)
    refine PySem.W.keyH_end (κ := PySem.W.dataKind s'.heap (xs.map key)) (h₁ := hidT s'.heap fun b => if b = kS then some (.lst []) else none) (fun b o _ e => (of_hidT e).1) hno nk' na' hka (PySem.W.SortsAt.data (s := s') hk' hal hsk hu') hsz (by omega) fun h3 tk c k3 n3 => ⟨rfl, ?_⟩
    have ev := PySem.W.keyedOut_each key (⟨s'.heap, kA.toList, hal, rfl, hk'⟩ : PySem.W.KeyedOut false (xs.map key) its _) (each_vals r)
    have I6 : Inv X pins σ H' { s' with heap := h3, toks := tk } := inv_change (s := s') (t' := tk) I' (ch := [kS, aL]) (fun b o hn e => by
      simp only [List.mem_cons, List.not_mem_nil, or_false, not_or] at hn
      exact k3 b o hn.2 (hid hn.1 e)) (fun b hm => by
      simp only [List.mem_cons, List.not_mem_nil, or_false] at hm
      rcases hm with rfl | rfl
      · exact gK
      · exact gA)
    exact ⟨.ref aL, _, inv_track (o := .lst (xs.mergeSort (PySem.W.dataLe false key))) I6 gA ⟨by rw [List.length_mergeSort]; exact hz, _, c, vals_each ev, n3⟩, rfl, q H' x1 gA.1⟩
theorem sort_rest {X : Cx} {pins : List (Addr × Obj)} {σ : L2.St} {H : Hp} {s : Shared} {k e1 : Nat} {f aL kS : Addr} {fd : FuncData} {x : Str} {sp : Sp} {Q : VK} {E' : Value → Shared → Prop} {xs : List V} {its : List Value} {key : V → PyData} (F : FnOk X.prog X.w X.K X.mg X.base CX0 k f fd [x] sp) (hr : Room (k + 2) X.A) (hb : Binds X.K fd [x] [])
    (I : Inv X pins σ H s) (hka : kS ≠ aL) (fA : FpOk X pins H aL) (fK : FpOk X pins H kS) (nk : s.heap.get? kS = some (seqObj "list" #[] 0)) (na : s.heap.get? aL = some (seqObj "list" #[] e1)) (r : Vals xs its) (hz : xs.length ≤ sizeLine)
    (hal : PySem.W.AllAlike (xs.map key)) (hsk : PySem.W.Sortable (xs.map key)) (hu : ∀ y ∈ xs, X.A.units + 2 + (key y).depth < cLine) (hsp : ∀ y ∈ xs, ∀ H', Ext [] H H' → sp [y] H' (fun v H'' => Ext [] H' H'' ∧ Im H'' v (key y)) E0)
    (q : ∀ H', Ext [] H H' → H' aL = none → Q (.ref aL) (upd H' aL (.lst (xs.mergeSort (PySem.W.dataLe false key))))) :
    wpAny (model X.prog X.w) X.A.in1.in1 (ksk_rest aL (.ref f) false its.toArray e1 (.ref kS)) (fun g s' => g = .done (.ret .none) ∧ EP X pins σ Q (.ref aL) s') E' s := by
  refine sort_restG (fun pins' s' H' y u hym I2 x1 ru => ?_) I hka fA fK nk na r hz hal hsk hu q
  have bnd := hb s' [u] I2.kIn rfl
  refine wpAny_call (codeAny_mono (F.run X.A.in1.in1 X.stack s' H' ⟨[u], []⟩ [u] [y] _ E0 hr.in1.in1 I2.env0.in1.in1 (by simpa using bnd) (.cons ru .nil) (hsp y hym H' x1)) fun rs s'' hq => ?_)
  cases rs with
  | error er => exact False.elim hq
  | ok fl =>
    cases fl with
    | ret v => exact I2.after hq
    | next => exact False.elim hq
    | brk => exact False.elim hq
    | cont => exact False.elim hq
theorem cr_sortedF {X : Cx} {k : Nat} {f : Addr} {fd : FuncData} {x : Str} {sp : Sp} (F : FnOk X.prog X.w X.K X.mg X.base CX0 k f fd [x] sp) (hr : Room (k + 2) X.A) (hb : Binds X.K fd [x] []) : CallRK X (.builtin "sorted") [Str.ofString "key"] (rSortedF X sp f) := by
  intro pins s σ H vs zs us ws Q I rv rz h
  obtain ⟨a, xs, key, rfl, rfl, hq, hal, hsk, hdep, hsp, q⟩ := h
  rw [Vals.ref1 rv, Vals.ref1 rz]
  obtain ⟨its, r, pl, hz⟩ := I.list hq
  have hlen : xs.length = its.length := r.length
  have hu : ∀ y ∈ xs, X.A.units + 2 + (key y).depth < cLine := fun y hy => by
    have h1 := hdep y hy
    have h2 := hr.un
    omega
  show wpAny _ _ (call (.builtin "sorted") [.ref a] [(Str.ofString "key", .ref f)]) _ _ _
  refine PySem.W.sorted_of_sort pl.isList (by omega) (ksk_s1 _ _) (fun _ => ksk_l1 _ _) fun E' => ?_
  rw [ksk_t1]
  have I1 : Inv X pins σ H { s with heap := PySem.W.copyHeap s.heap its } := I.kept fun b o e => PySem.W.copyHeap_old e
  have fL : FpOk X pins H (s.heap.objs.size + 1) := I.fpOk (Nat.le_succ _) (I.hok.fresh (Nat.le_succ _))
  have hat := PySem.W.copyHeap_at s.heap its
  obtain ⟨e1, ho1⟩ : ∃ e1, ((PySem.W.copyHeap s.heap its).update (s.heap.objs.size + 1) (Obj.mapSeq fun _ => (#[] : Array Value))).get? (s.heap.objs.size + 1) = some (seqObj "list" #[] e1) := ⟨_, get?_update_seq hat fun _ => #[]⟩
  have szc : (PySem.W.copyHeap s.heap its).objs.size = s.heap.objs.size + 2 := by
    have h1 := Heap.lt_size hat
    unfold PySem.W.copyHeap at h1 ⊢
    rw [size_push', Heap.size_update, size_push'] at h1 ⊢
  have szk : (((PySem.W.copyHeap s.heap its).update (s.heap.objs.size + 1) (Obj.mapSeq fun _ => (#[] : Array Value))).push (seqObj "tuple" its.toArray 0)).objs.size = s.heap.objs.size + 3 := by rw [size_push', Heap.size_update, szc]
  unfold ksk_tree
  refine wpAny_bind (listItems_at hat rfl (wpAny_bind (listUpdate_at hat rfl ?_ (by rw [List.size_toArray]; omega) (Nat.zero_le _))))
  refine wpAny_bind (seqEpoch_at ho1 rfl (wpAny_bind (wpAny_newTuple (wpAny_bind (wpAny_newList (wpAny_holding ?_) (Nat.zero_le _))) (by show its.length ≤ _; omega))))
  have hk3 : ((PySem.W.copyHeap s.heap its).update (s.heap.objs.size + 1) (Obj.mapSeq fun _ => (#[] : Array Value)) |>.push (seqObj "tuple" its.toArray 0)).objs.size ≠ s.heap.objs.size + 1 := by rw [szk]; omega
  have fK : FpOk X pins H ((PySem.W.copyHeap s.heap its).update (s.heap.objs.size + 1) (Obj.mapSeq fun _ => (#[] : Array Value)) |>.push (seqObj "tuple" its.toArray 0)).objs.size := by
    rw [szk]
    exact I.fpOk (by omega) (I.hok.fresh (by omega))
  have I2 : Inv X pins σ H { s with heap := PySem.W.sortingHeap (PySem.W.copyHeap s.heap its) (s.heap.objs.size + 1) its } := inv_change (s := { s with heap := PySem.W.copyHeap s.heap its }) (t' := s.toks) I1 (ch := [s.heap.objs.size + 1]) (fun b o hn e => PySem.W.sortingHeap_old (by simpa using hn) e) (fun b hm => by rw [List.mem_singleton.mp hm]; exact fL)
  exact sort_rest F hr hb I2 hk3 fL fK (Heap.get?_push_size _ rfl) (Heap.get?_push_of_some _ (Heap.get?_push_of_some _ ho1)) r hz hal hsk hu hsp fun H' e n => q _ H' e n
/-- the key, whatever it is: r tells when its calls answer what its spec says -/
def rSortedG (X : Cx) (pre : Addr → V → Hp → VK → Prop) : List V → List V → Hp → VK → Prop := fun vs zs H Q => ∃ (a f : Addr) (xs : List V) (key : V → PyData), vs = [.ref a] ∧ zs = [.ref f] ∧ SqL X.K H a xs ∧ PySem.W.AllAlike (xs.map key) ∧ PySem.W.Sortable (xs.map key) ∧ (∀ y ∈ xs, (key y).depth ≤ 50) ∧
  (∀ y ∈ xs, ∀ H', Ext [] H H' → pre f y H' (fun v H'' => Ext [] H' H'' ∧ Im H'' v (key y))) ∧ ∀ p H', Ext [] H H' → H' p = none → Q (.ref p) (upd H' p (.lst (xs.mergeSort (PySem.W.dataLe false key))))
theorem cr_sortedG {X : Cx} {k : Nat} {pre : Addr → V → Hp → VK → Prop} (hr : Room (k + 2) X.A) (hc : ∀ (pins' : List (Addr × Obj)) (σ : L2.St) (s' : Shared) (H' : Hp) (f : Addr) (y : V) (u : Value) (Q : VK), Inv X pins' σ H' s' → RelV y u → pre f y H' Q → wpAny (model X.prog X.w) X.A.in1.in1 (call (.ref f) [u]) (EP X pins' σ Q) (fun _ _ => False) s') :
    CallRK X (.builtin "sorted") [Str.ofString "key"] (rSortedG X pre) := by
  intro pins s σ H vs zs us ws Q I rv rz h
  obtain ⟨a, f, xs, key, rfl, rfl, hq, hal, hsk, hdep, hsp, q⟩ := h
  rw [Vals.ref1 rv, Vals.ref1 rz]
  obtain ⟨its, r, pl, hz⟩ := I.list hq
  have hlen : xs.length = its.length := r.length
  have hu : ∀ y ∈ xs, X.A.units + 2 + (key y).depth < cLine := fun y hy => by
    have h1 := hdep y hy
    have h2 := hr.un
    omega
  show wpAny _ _ (call (.builtin "sorted") [.ref a] [(Str.ofString "key", .ref f)]) _ _ _
  refine PySem.W.sorted_of_sort pl.isList (by omega) (ksk_s1 _ _) (fun _ => ksk_l1 _ _) fun E' => ?_
  rw [ksk_t1]
  have I1 : Inv X pins σ H { s with heap := PySem.W.copyHeap s.heap its } := I.kept fun b o e => PySem.W.copyHeap_old e
  have fL : FpOk X pins H (s.heap.objs.size + 1) := I.fpOk (Nat.le_succ _) (I.hok.fresh (Nat.le_succ _))
  have hat := PySem.W.copyHeap_at s.heap its
  obtain ⟨e1, ho1⟩ : ∃ e1, ((PySem.W.copyHeap s.heap its).update (s.heap.objs.size + 1) (Obj.mapSeq fun _ => (#[] : Array Value))).get? (s.heap.objs.size + 1) = some (seqObj "list" #[] e1) := ⟨_, get?_update_seq hat fun _ => #[]⟩
  have szc : (PySem.W.copyHeap s.heap its).objs.size = s.heap.objs.size + 2 := by
    have h1 := Heap.lt_size hat
    unfold PySem.W.copyHeap at h1 ⊢
    rw [size_push', Heap.size_update, size_push'] at h1 ⊢
  have szk : (((PySem.W.copyHeap s.heap its).update (s.heap.objs.size + 1) (Obj.mapSeq fun _ => (#[] : Array Value))).push (seqObj "tuple" its.toArray 0)).objs.size = s.heap.objs.size + 3 := by rw [size_push', Heap.size_update, szc]
  unfold ksk_tree
  refine wpAny_bind (listItems_at hat rfl (wpAny_bind (listUpdate_at hat rfl ?_ (by rw [List.size_toArray]; omega) (Nat.zero_le _))))
  refine wpAny_bind (seqEpoch_at ho1 rfl (wpAny_bind (wpAny_newTuple (wpAny_bind (wpAny_newList (wpAny_holding ?_) (Nat.zero_le _))) (by show its.length ≤ _; omega))))
  have hk3 : ((PySem.W.copyHeap s.heap its).update (s.heap.objs.size + 1) (Obj.mapSeq fun _ => (#[] : Array Value)) |>.push (seqObj "tuple" its.toArray 0)).objs.size ≠ s.heap.objs.size + 1 := by rw [szk]; omega
  have fK : FpOk X pins H ((PySem.W.copyHeap s.heap its).update (s.heap.objs.size + 1) (Obj.mapSeq fun _ => (#[] : Array Value)) |>.push (seqObj "tuple" its.toArray 0)).objs.size := by
    rw [szk]
    exact I.fpOk (by omega) (I.hok.fresh (by omega))
  have I2 : Inv X pins σ H { s with heap := PySem.W.sortingHeap (PySem.W.copyHeap s.heap its) (s.heap.objs.size + 1) its } := inv_change (s := { s with heap := PySem.W.copyHeap s.heap its }) (t' := s.toks) I1 (ch := [s.heap.objs.size + 1]) (fun b o hn e => PySem.W.sortingHeap_old (by simpa using hn) e) (fun b hm => by rw [List.mem_singleton.mp hm]; exact fL)
  exact sort_restG (fun pins' s' H' y u hy I' x1 ru => hc pins' σ s' H' f y u _ I' ru (hsp y hy H' x1)) I2 hk3 fL fK (Heap.get?_push_size _ rfl) (Heap.get?_push_of_some _ (Heap.get?_push_of_some _ ho1)) r hz hal hsk hu fun H' e n => q _ H' e n
end Tp
/-! Lm: a lambda of one parameter, made once; called -/
namespace Tp
open PySem PySem.Spec PyProof.Rows L2 He
open LamX (CodeO TabB inv_table)
/-- at f the function that a lambda without captured names makes -/
def LmO (f c : Addr) (q : Str) (params : Arguments) (body : Expr) (scope : Scope) : HO := .ext fun h => ∃ pm ctv, h.get? f = some (PySem.W.kla_obj "<lambda>" q params body scope [] pm c ctv)
theorem lmO_ok {P : Program} {w : World} {H : Hp} {h : Heap} {f c : Addr} {q : Str} {params : Arguments} {body : Expr} {scope : Scope} {pm ctv : Value} (e : h.get? f = some (PySem.W.kla_obj "<lambda>" q params body scope [] pm c ctv)) : ObjOk P w H h f (LmO f c q params body scope) :=
  ⟨⟨_, _, e⟩, ⟨_, e⟩, fun h1 h2 ⟨pm', ctv', q⟩ k => ⟨pm', ctv', k _ q⟩⟩
/-- the same, the table as it stands: made anew, or found there -/
def tLamS (P : Addr) (q : Str) (params : Arguments) (body : Expr) (scope : Scope) : TE := fun _ H Q => LamX.TabS H P q ∧ ∀ f c H1, H f = none → Ext [P] H H1 → H1 f = some (LmO f c q params body scope) → H1 c = some (CodeO c q) → LamX.TabS H1 P q → Q (.ref f) H1
theorem tabS_ext {H H' : Hp} {P : Addr} {q : Str} (t : LamX.TabS H P q) (e : Ext [] H H') : LamX.TabS H' P q := t.ext fun b o h => e.keep b o h (by simp)
theorem tabS_over {H H' : Hp} {P : Addr} {q : Str} {ms : List Addr} (t : LamX.TabS H P q) (e : Ext ms H H') (hP : P ∉ ms) (hC : ∀ m ∈ ms, ∀ c, H m ≠ some (CodeO c q)) : LamX.TabS H' P q := by
  obtain ⟨ps, h1, h2, h3⟩ := t
  refine ⟨ps, e.keep _ _ h1 hP, h2, fun pos cv hc => ?_⟩
  obtain ⟨c, e1, e2⟩ := h3 pos cv hc
  exact ⟨c, e1, e.keep _ _ e2 fun hm => hC c hm c e2⟩
theorem pe_lamS {X : Cx} {c P : Addr} {params : Arguments} {body : Expr} {scope : Scope} {pos : Pos} (TB : TabB X.base X.mg c P) (hcode : X.env.code = .ref c) (hdef : defaultsOf params X.env = ([], [])) (hno : scope.names.all (fun y => !decide (y.2 = .free)) = true) :
    PE X (.Lambda params body scope pos) (tLamS P (X.env.qual ++ "<lambda>") params body scope) := by
  have none_free : ∀ y ∈ scope.names, y.2 = .free → False := fun y hy e => by
    have := List.all_eq_true.mp hno y hy
    rw [e] at this
    exact absurd this (by decide)
  have clo : cloFrom X.env.cells scope.names [] = [] := by
    cases h : cloFrom X.env.cells scope.names [] with
    | nil => rfl
    | cons z r =>
      have hz : z ∈ cloFrom X.env.cells scope.names [] := by rw [h]; exact List.mem_cons_self
      rcases cloFrom_mem hz with hm | ⟨h1, h2⟩
      · cases hm
      · exact (none_free _ h1 rfl).elim
  refine ⟨fun pins s σ H Q I ⟨hT, h⟩ => ?_⟩
  obtain ⟨ps, hP, ht, ha⟩ := id hT
  refine PySem.W.kla_eval hdef ?_
  have hb : s.heap.BuiltinsAt X.mg P := TB.bm.keeps I.bk
  have hP' : s.heap.get? P = some { cls := .none, data := .fields ps } := I.hok P _ hP
  have ltP : P < s.heap.objs.size := Heap.lt_size hP'
  cases hc : codeAmong pos ps.toList with
  | none =>
    refine PySem.W.kla_makeFunction (mg := X.mg) (c := c) (P := P) (ps := ps) (closure_ok fun y hy e => (none_free y hy e).elim) I.ok.glob (I.mod.glob.keeps I.bk) hcode (TB.code.keeps I.bk) hP' ht hc TB.gP hb fun c2 ctv h2 tk ext ge lt hrec htab => ?_
    obtain ⟨c', oc, vs, t, e2, hoc, hd, hv⟩ := hrec
    cases e2
    have size2 : s.heap.objs.size ≤ h2.objs.size := Nat.le_trans ge (Nat.le_of_lt lt)
    have freshC : H c2 = none := I.hok.fresh ge
    have freshF : H h2.objs.size = none := I.hok.fresh size2
    rw [clo]
    have I1 := inv_table (t' := tk) (q := X.env.qual ++ "<lambda>") (more := #[rawInt pos.line, rawInt pos.col, .ref c2]) (h' := h2.push (PySem.W.kla_obj "<lambda>" (X.env.qual ++ "<lambda>") params body scope [] ((X.mg "__name__").getD .none) c2 ctv)) I hP
      (fun b o hb e => Heap.get?_push_of_some _ (ext b o hb e)) (Heap.get?_push_of_some _ htab) ge ⟨oc, vs, t, Heap.get?_push_of_some _ hoc, hd, hv⟩
    have neC : h2.objs.size ≠ c2 := Nat.ne_of_gt lt
    have neP : h2.objs.size ≠ P := Nat.ne_of_gt (Nat.lt_of_lt_of_le ltP size2)
    have freshF1 : upd (upd H P (.tbl (ps ++ #[rawInt pos.line, rawInt pos.col, .ref c2]))) c2 (CodeO c2 (X.env.qual ++ "<lambda>")) h2.objs.size = none := by
      rw [upd_ne neC, upd_ne neP]
      exact freshF
    have e1 : Ext [P] H (upd (upd H P (.tbl (ps ++ #[rawInt pos.line, rawInt pos.col, .ref c2]))) c2 (CodeO c2 (X.env.qual ++ "<lambda>"))) := (ext_at fun xs z => by rw [hP] at z; cases z).fresh freshC
    have okF : ObjOk X.prog X.w (upd (upd (upd H P (.tbl (ps ++ #[rawInt pos.line, rawInt pos.col, .ref c2]))) c2 (CodeO c2 (X.env.qual ++ "<lambda>"))) h2.objs.size (LmO h2.objs.size c2 (X.env.qual ++ "<lambda>") params body scope))
        (h2.push (PySem.W.kla_obj "<lambda>" (X.env.qual ++ "<lambda>") params body scope [] ((X.mg "__name__").getD .none) c2 ctv)) h2.objs.size (LmO h2.objs.size c2 (X.env.qual ++ "<lambda>") params body scope) := lmO_ok (Heap.get?_push_size _ rfl)
    have I2 := inv_track I1 (I.fpOk size2 freshF1) okF
    have tb : LamX.TabS (upd (upd H P (.tbl (ps ++ #[rawInt pos.line, rawInt pos.col, .ref c2]))) c2 (CodeO c2 (X.env.qual ++ "<lambda>"))) P (X.env.qual ++ "<lambda>") := by
      have eL : (ps ++ #[rawInt pos.line, rawInt pos.col, .ref c2]).toList = ps.toList ++ [rawInt pos.line, rawInt pos.col, .ref c2] := by simp
      refine ⟨_, by rw [upd_ne (Nat.ne_of_lt (Nat.lt_of_lt_of_le ltP ge)), upd_same], by rw [eL]; exact PySem.TriplesOk_snoc _ _ _ _ ht, fun p' cv hcv => ?_⟩
      rw [eL] at hcv
      rcases LamX.among_app _ ht hcv with z | z
      · obtain ⟨c0, x1, x2⟩ := ha p' cv z
        exact ⟨c0, x1, e1.keep _ _ x2 fun hm => by
          rw [List.mem_singleton.mp hm, hP] at x2
          cases x2⟩
      · exact ⟨c2, z, upd_same⟩
    exact ⟨.ref h2.objs.size, _, I2, rfl, h _ c2 _ freshF (e1.fresh freshF) upd_same (by rw [upd_ne neC.symm, upd_same]) (tabS_ext tb (Ext.new freshF1))⟩
  | some cv =>
    obtain ⟨c2, e, hco⟩ := ha pos cv hc
    subst e
    refine PySem.W.kla_makeFunctionHit (mg := X.mg) (c := c) (P := P) (ps := ps) (closure_ok fun y hy e => (none_free y hy e).elim) I.ok.glob (I.mod.glob.keeps I.bk) hcode (TB.code.keeps I.bk) hP' ht hc hb fun ctv h2 tk hx hsz => ?_
    have freshF : H h2.objs.size = none := I.hok.fresh hsz
    rw [clo]
    have I1 : Inv X pins σ H { s with heap := h2.push (PySem.W.kla_obj "<lambda>" (X.env.qual ++ "<lambda>") params body scope [] ((X.mg "__name__").getD .none) c2 ctv), toks := tk } := I.kept fun b o e => Heap.get?_push_of_some _ (hx b o e)
    have okF : ObjOk X.prog X.w (upd H h2.objs.size (LmO h2.objs.size c2 (X.env.qual ++ "<lambda>") params body scope)) (h2.push (PySem.W.kla_obj "<lambda>" (X.env.qual ++ "<lambda>") params body scope [] ((X.mg "__name__").getD .none) c2 ctv)) h2.objs.size (LmO h2.objs.size c2 (X.env.qual ++ "<lambda>") params body scope) := lmO_ok (Heap.get?_push_size _ rfl)
    have I2 := inv_track I1 (I.fpOk hsz freshF) okF
    have eF : Ext [] H (upd H h2.objs.size (LmO h2.objs.size c2 (X.env.qual ++ "<lambda>") params body scope)) := Ext.new freshF
    exact ⟨.ref h2.objs.size, _, I2, rfl, h _ c2 _ freshF eF.nil upd_same (eF.keep _ _ hco (by simp)) (tabS_ext hT eF)⟩
/-- it is called -/
theorem lam_call {P : Program} {w : World} {K : PySem.W.Frag} {mg : Str → Option Value} {base : Heap} {k : Nat} {N : List Str} {x q : Str} {f c : Addr} {params : Arguments} {body : Expr} {scope : Scope} {A : Around} {outer : List Env} {s : Shared} {H : Hp} {u : Value} {y : V} {Q : VK} {tb : TE}
    (S : FnScope N [x] scope) (hr : Room (k + 1) A) (e0 : Env0 P w K mg base A outer s H) (hf : H f = some (LmO f c q params body scope)) (hc : H c = some (CodeO c q)) (ru : RelV y u)
    (hbind : ∀ (pm cv ctv : Value), bindArgs (PySem.W.kla_fn "<lambda>" q params body scope [] pm cv ctv) ⟨[u], []⟩ = pure [(x, u)])
    (hbody : ∀ (A : Around) (outer : List Env) (s : Shared) (H : Hp), PE (cxOf CX0 P w K mg base N q scope f (.ref c) A outer s H E0).nox body tb) (h : tb (L2.start N [y]) H Q) :
    codeAny (model P w) A (.call (.ref f) ⟨[u], []⟩) (CR CX0 outer P w H s Q E0) s := by
  obtain ⟨⟨pm, ctv, hof⟩, _, _⟩ := e0.hok f _ hf
  obtain ⟨⟨oc, vs, t, hoc, hdc, hvc⟩, _, _⟩ := e0.hok c _ hc
  have noLim : s.heap.NoLimit := e0.mod.nolimit.keeps fun b o e => (e0.bs b o e).1
  refine PySem.W.kla_callFunE hr.depth hof rfl S.co S.gen rfl ⟨c, oc, vs, t, rfl, hoc, hdc, hvc⟩ ?_
  rw [hbind]
  refine wpAny_pure ?_
  have kind : ∀ z ∈ [x].zip [u], scope.names.lookup z.1 = some .local ∨ (scope.names.lookup z.1 = some .cell ∧ ((cellsFrom (s.heap.objs.size + 1) scope.names []).lookup z.1).isSome = true) := fun ⟨n, v⟩ hz =>
    (S.par n (List.of_mem_zip hz).1).elim .inl fun q => .inr ⟨q, PySem.W.cellsFrom_some _ _ _ (.inl q)⟩
  refine wpAny_newFunctionEnv_cells (binds := [x].zip [u]) S.kind kind fun fresh isFresh s1 got => ?_
  subst isFresh
  refine ⟨noLim.keeps got.toInCall.keep, ?_⟩
  have I1 : Inv (cxOf CX0 P w K mg base N q scope f (.ref c) A outer s H E0) [] (L2.start N [y]) H s1 := inv_start S hr.hd e0 rfl (.cons ru .nil) got
  refine PySem.W.kla_codeExpr (wpAny_mono ((hbody A outer s H).nox.run [] s1 _ H Q I1 h) (fun v s' hq => ?_) fun e s' hq => hq)
  obtain ⟨z, H', J, rv, q⟩ := hq
  exact ⟨z, H', J.os, J.bare, J.base, J.hok, rv, q⟩
/-- a call of it, as sorted asks for -/
def preLam (q : Str) (params : Arguments) (body : Expr) (scope : Scope) (N : List Str) (tb : TE) (f : Addr) (y : V) (H : Hp) (Q : VK) : Prop := ∃ c, H f = some (LmO f c q params body scope) ∧ H c = some (CodeO c q) ∧ tb (L2.start N [y]) H Q
theorem cr_sortedL {X : Cx} {k : Nat} {N : List Str} {x q : Str} {params : Arguments} {body : Expr} {scope : Scope} {tb : TE} (S : FnScope N [x] scope) (hr : Room (k + 3) X.A)
    (hbind : ∀ (pm cv ctv u : Value), bindArgs (PySem.W.kla_fn "<lambda>" q params body scope [] pm cv ctv) ⟨[u], []⟩ = pure [(x, u)])
    (hbody : ∀ (f c : Addr) (A : Around) (outer : List Env) (s : Shared) (H : Hp), PE (cxOf CX0 X.prog X.w X.K X.mg X.base N q scope f (.ref c) A outer s H E0).nox body tb) :
    CallRK X (.builtin "sorted") [Str.ofString "key"] (rSortedG X (preLam q params body scope N tb)) := by
  refine cr_sortedG (k := k + 1) hr fun pins' σ s' H' f y u Q I ru h => ?_
  obtain ⟨c, h1, h2, h3⟩ := h
  refine wpAny_call (codeAny_mono (lam_call (A := X.A.in1.in1) (outer := X.stack) S hr.in1.in1 I.env0.in1.in1 h1 h2 ru (fun pm cv ctv => hbind pm cv ctv u) (hbody f c) h3) fun rs s'' hq => ?_)
  cases rs with
  | error er => exact False.elim hq
  | ok fl =>
    cases fl with
    | ret v => exact I.after hq
    | next => exact False.elim hq
    | brk => exact False.elim hq
    | cont => exact False.elim hq
/-- the code of the def at f -/
def codeF (K : PySem.W.Frag) (f : Addr) : Value := match K.lookup f with
  | some ⟨_, _, .func fd, _⟩ => fd.code
  | _ => .none
/-- a def whose code object is known -/
theorem FunD.okC {P : Program} {w : World} {K : PySem.W.Frag} {mg : Str → Option Value} {base : Heap} {x qual : Str} {params : Arguments} {body : List Stmt} {scope : Scope} {dvs : List V} {kws : List (Str × V)} {f : Addr} {fd : FuncData}
    {CX : CXT} {N ps : List Str} {k : Nat} {sp : Sp} (F : FunD K x qual params body scope dvs kws f fd) (S : FnScope N ps scope) (len : ∀ vs H Q E, sp vs H Q E → vs.length = ps.length)
    (hbody : ∀ (A : Around) (outer : List Env) (s : Shared) (H : Hp) (vs : List V) (Q : VK) (E : XK), Room k (A.deeper (envOfC qual scope s.heap.objs.size f (codeF K f))) → sp vs H Q E →
      ∃ t, PSs (cxOf CX P w K mg base N qual scope f (codeF K f) A outer s H E) body t ∧ t { nx := fun _ H' => Q .non H', rt := Q } (start N vs) H) : FnOk P w K mg base CX (k + 1) f fd ps sp := by
  obtain ⟨oc, od, dV, kV, doc, pm, an, cdv, ct, osl, rfl, lk, hcd, _, _⟩ := F.ex
  have hcode : codeF K f = cdv := by
    unfold codeF
    rw [lk]
  rw [hcode] at hbody
  refine ⟨len, fun A outer s H args us vs Q E room env bnd vals prom => ?_⟩
  have inK : K.In s.heap := env.mod.kin.keeps fun b o e => (env.bs b o e).1
  have noLim : s.heap.NoLimit := env.mod.nolimit.keeps fun b o e => (env.bs b o e).1
  refine codeAny_call_function room.depth (inK _ _ lk) rfl S.co S.gen rfl (PySem.W.codeRec_of inK hcd) (bnd _ _ _ _ ?_)
  refine wpAny_newFunctionEnv_cells S.kind (fun y hy => ?_) fun fresh isFresh s1 x => ?_
  · obtain ⟨n, v⟩ := y
    exact (S.par n (List.of_mem_zip hy).1).elim .inl fun q => .inr ⟨q, PySem.W.cellsFrom_some _ _ _ (.inl q)⟩
  · subst isFresh
    refine ⟨noLim.keeps x.toInCall.keep, codeAny_func ?_⟩
    obtain ⟨t, runs, reads⟩ := hbody A outer s H vs Q E (room.deeper _) prom
    refine wpAny_mono (runs.run [] s1 (start N vs) H _ (inv_start S room.hd env (len _ _ _ _ prom) vals x) reads) (fun fl s' got => ?_) fun e s' hs => hs
    cases fl with
    | ret u =>
      obtain ⟨v, σ', H', J, rv, q⟩ := got
      exact ⟨v, H', J.os, J.bare, J.base, J.hok, rv, q⟩
    | next =>
      obtain ⟨σ', H', J, q⟩ := got
      exact ⟨V.non, H', J.os, J.bare, J.base, J.hok, rfl, q⟩
    | brk =>
      obtain ⟨_, _, _, q⟩ := got
      exact q.elim
    | cont =>
      obtain ⟨_, _, _, q⟩ := got
      exact q.elim
def lamP (d : Arguments) : Expr → Arguments
  | .Lambda p _ _ _ => p
  | _ => d
def lamB : Expr → Expr
  | .Lambda _ b _ _ => b
  | e => e
def lamSc (d : Scope) : Expr → Scope
  | .Lambda _ _ sc _ => sc
  | _ => d
end Tp
/-! Da: a def's default that is the empty tuple -/
namespace Tp
open PySem PySem.Spec PyProof.Rows L2 He
/-- where the first default of a method stands -/
def dflA (c m : Str) (K : PySem.W.Frag) : Addr := match K.lookup (ma K (ga K c) m) with
  | some ⟨_, _, .func fd, _⟩ => (match fd.defaults with
    | .ref t => (match K.lookup t with
      | some ⟨_, _, .seq its _, _⟩ => (match its.toList with
        | .ref a :: _ => a
        | _ => 0)
      | _ => 0)
    | _ => 0)
  | _ => 0
def emptyB (K : PySem.W.Frag) (a : Addr) : Bool := match K.lookup a with
  | some ⟨.type c, _, .seq its _, _⟩ => decide (c = "tuple") && its.toList.isEmpty
  | _ => false
def tupDB (K : PySem.W.Frag) (a : Addr) : Bool := match K.lookup a with
  | some ⟨.type c, none, _, _⟩ => decide (c = "tuple")
  | _ => false
theorem tupDB_ok {K : PySem.W.Frag} {a : Addr} (h : tupDB K a = true) : ∃ o, K.lookup a = some o ∧ o.cls = .type "tuple" ∧ o.dict = none := by
  unfold tupDB at h
  split at h
  · rename_i c dt osl q
    have e1 : c = "tuple" := of_decide_eq_true h
    subst e1
    exact ⟨_, q, rfl, rfl⟩
  · cases h
end Tp
/-! Fo: the numbers of forms -/
namespace Tp
open PySem PySem.Spec PyProof.Rows L2 He
/-- where a word stands -/
def wPl (x : Str) : Nat := if x = "take" then 0 else 1
abbrev wdO (x : Str) : Prop := x = "take" ∨ x = "leave"
abbrev amLe (p q : Am) : Bool := decide (p.2 < q.2 ∨ (p.2 = q.2 ∧ wPl p.1 ≤ wPl q.1))
abbrev Nm := Am × Int
abbrev leN : Nm → Nm → Bool := fun p q => amLe p.1 q.1
/-- in order, without noughts -/
def tidyD (ns : List Nm) : List Nm := (ns.mergeSort leN).filter fun q => decide (q.2 ≠ 0)
abbrev dN (ns : List Nm) : List (List Key × V) := dA (ns.map fun q => (q.1, V.int q.2))
abbrev plD (q : Am) : PyData := .tuple [.int (q.2 : Int), .int (wPl q.1 : Int)]
def keyV (H : Hp) : V → PyData
  | .ref u => (match H u with
    | some (.tup [.str w, .int n]) => .tuple [.int n, .int (wPl w : Int)]
    | _ => .none)
  | _ => .none
theorem keyV_amt {H : Hp} {u : Addr} {q : Am} (h : isAmt H u q) : keyV H (.ref u) = plD q := by
  show (match H u with
    | some (.tup [.str w, .int n]) => PyData.tuple [.int n, .int (wPl w : Int)]
    | _ => .none) = _
  rw [show H u = some (.tup [.str q.1, .int (q.2 : Int)]) from h]
theorem le_amts {H : Hp} {u v : Addr} {p q : Am} (hu : isAmt H u p) (hv : isAmt H v q) : PySem.W.dataLe false (keyV H) (.ref u) (.ref v) = amLe p q := by
  rw [PySem.W.dataLe_eq]
  show (!PySem.W.dataLt (keyV H (.ref v)) (keyV H (.ref u))) = _
  rw [keyV_amt hu, keyV_amt hv, PySem.W.dataLt_ii]
  by_cases h : (q.2 : Int) < (p.2 : Int) ∨ ((q.2 : Int) = (p.2 : Int) ∧ (wPl q.1 : Int) < (wPl p.1 : Int))
  · have e : amLe p q = false := decide_eq_false (by omega)
    rw [decide_eq_true h, e]
    rfl
  · have e : amLe p q = true := decide_eq_true (by omega)
    rw [decide_eq_false h, e]
    rfl
theorem paired_zip {α β : Type} {R : α → β → Prop} : ∀ {as : List α} {bs : List β}, Paired R as bs → ∃ zs : List (α × β), as = zs.map (·.1) ∧ bs = zs.map (·.2) ∧ ∀ z ∈ zs, R z.1 z.2
  | _, _, .nil => ⟨[], rfl, rfl, by simp⟩
  | _, _, .cons (a := a) (b := b) x r => by
    obtain ⟨zs, h1, h2, h3⟩ := paired_zip r
    exact ⟨(a, b) :: zs, by rw [h1]; rfl, by rw [h2]; rfl, fun z hz => by
      rcases List.mem_cons.mp hz with rfl | hz
      · exact x
      · exact h3 z hz⟩
theorem zip_paired {α β : Type} {R : α → β → Prop} : ∀ {zs : List (α × β)}, (∀ z ∈ zs, R z.1 z.2) → Paired R (zs.map (·.1)) (zs.map (·.2))
  | [], _ => .nil
  | z :: r, h => .cons (h z (List.mem_cons_self ..)) (zip_paired fun y hy => h y (List.mem_cons_of_mem _ hy))
theorem plD_depth (q : Am) : (plD q).depth ≤ 50 := by
  simp [plD, PyData.depth, PyData.depthAll]
/-- amounts sorted by their places -/
theorem sort_amts {H : Hp} {bs : List Addr} {ns : List Nm} (h : Paired (fun b (q : Nm) => isAmt H b q.1) bs ns) :
    ∃ bs' : List Addr, (bs.map V.ref).mergeSort (PySem.W.dataLe false (keyV H)) = bs'.map V.ref ∧ Paired (fun b (q : Nm) => isAmt H b q.1) bs' (ns.mergeSort leN) := by
  obtain ⟨zs, rfl, rfl, hz⟩ := paired_zip h
  have hle : ∀ a ∈ zs, ∀ b ∈ zs, leN a.2 b.2 = PySem.W.dataLe false (keyV H) (.ref a.1) (.ref b.1) := fun a ha b hb => (le_amts (hz a ha) (hz b hb)).symm
  refine ⟨(zs.mergeSort fun a b => leN a.2 b.2).map (·.1), ?_, ?_⟩
  · rw [List.map_map, List.map_map]
    exact (List.map_mergeSort (f := V.ref ∘ fun z : Addr × Nm => z.1) hle).symm
  · rw [← List.map_mergeSort (r := fun a b : Addr × Nm => leN a.2 b.2) (f := fun z : Addr × Nm => z.2) (fun _ _ _ _ => rfl)]
    exact zip_paired fun z hz' => hz z (List.mem_mergeSort.mp hz')
theorem keys_all {H : Hp} {bs : List Addr} {ns : List Nm} (h : Paired (fun b (q : Nm) => isAmt H b q.1) bs ns) : ∀ v ∈ bs.map V.ref, ∃ q : Am, (∃ u, v = .ref u ∧ isAmt H u q) ∧ keyV H v = plD q := by
  intro v hv
  obtain ⟨zs, rfl, rfl, hz⟩ := paired_zip h
  rw [List.map_map] at hv
  obtain ⟨z, hm, rfl⟩ := List.mem_map.mp hv
  exact ⟨z.2.1, ⟨z.1, rfl, hz z hm⟩, keyV_amt (hz z hm)⟩
theorem keys_alike {H : Hp} {bs : List Addr} {ns : List Nm} (h : Paired (fun b (q : Nm) => isAmt H b q.1) bs ns) : PySem.W.AllAlike ((bs.map V.ref).map (keyV H)) := by
  intro d hd e he
  obtain ⟨v, hv, rfl⟩ := List.mem_map.mp hd
  obtain ⟨w, hw, rfl⟩ := List.mem_map.mp he
  obtain ⟨q, _, e1⟩ := keys_all h v hv
  obtain ⟨r, _, e2⟩ := keys_all h w hw
  rw [e1, e2]
  simp [PySem.W.alike, PySem.W.alikeAll]
theorem keys_sortable {H : Hp} {bs : List Addr} {ns : List Nm} (h : Paired (fun b (q : Nm) => isAmt H b q.1) bs ns) : PySem.W.Sortable ((bs.map V.ref).map (keyV H)) := by
  refine .inl fun d hd => ?_
  obtain ⟨v, hv, rfl⟩ := List.mem_map.mp hd
  obtain ⟨q, _, e1⟩ := keys_all h v hv
  exact ⟨_, _, e1⟩
theorem tidy_mem {ns : List Nm} {q : Nm} : q ∈ tidyD ns ↔ q ∈ ns ∧ q.2 ≠ 0 := by
  unfold tidyD
  rw [List.mem_filter, List.mem_mergeSort, decide_eq_true_eq]
theorem paired_un {α β γ : Type} {R : α → γ → Prop} {f : β → γ} : ∀ {as : List α} {bs : List β}, Paired R as (bs.map f) → Paired (fun a b => R a (f b)) as bs
  | _, [], h => by cases h; exact .nil
  | _, _ :: _, h => by
    cases h with
    | cons x r => exact .cons x (paired_un r)
theorem paired_mono {α β : Type} {R S : α → β → Prop} (m : ∀ a b, R a b → S a b) : ∀ {as : List α} {bs : List β}, Paired R as bs → Paired S as bs
  | _, _, .nil => .nil
  | _, _, .cons x r => .cons (m _ _ x) (paired_mono m r)
theorem nm_keys {H : Hp} {bs : List Addr} {ns : List Nm} (h : IsKeys H (dN ns) bs) : Paired (fun b (q : Nm) => isAmt H b q.1) bs ns := by
  have h1 := keys_amt h
  rw [List.map_map] at h1
  exact paired_un h1
theorem dN_keys {ns : List Nm} : (ns.map fun q => (q.1, V.int q.2)).map (·.1) = ns.map (·.1) := by
  rw [List.map_map]
  rfl
theorem dN_at {ns : List Nm} {q : Nm} (nd : (ns.map (·.1)).Nodup) (h : q ∈ ns) : valV (dN ns) (amK q.1) = some (.int q.2) :=
  valV_dA (by rw [dN_keys]; exact nd) (List.mem_map.mpr ⟨q, h, rfl⟩)
theorem dN_no {ns : List Nm} {x : Am} (h : x ∉ ns.map (·.1)) : valV (dN ns) (amK x) = none := valV_dA_none (by rw [dN_keys]; exact h)
theorem dN_put {ns : List Nm} {q : Nm} (h : q.1 ∉ ns.map (·.1)) : putK (dN ns) (amK q.1) (.int q.2) = dN (ns ++ [q]) := by
  show putK (dA _) _ _ = dA _
  rw [putK_dA (by rw [dN_keys]; exact h), List.map_append]
  rfl
theorem nodup_tidy {ns : List Nm} (h : (ns.map (·.1)).Nodup) : ((ns.mergeSort leN).map (·.1)).Nodup := ((List.mergeSort_perm ns leN).map _).nodup_iff.mpr h
theorem nodup_take {α β : Type} {f : α → β} {l : List α} {n : Nat} {x : α} (nd : (l.map f).Nodup) (h : l[n]? = some x) : f x ∉ (l.take n).map f := by
  intro hc
  have h1 : ((l.take (n + 1)).map f).Nodup := by
    exact List.Nodup.sublist ((List.take_sublist ..).map f) nd
  rw [take_snoc h, List.map_append] at h1
  exact (List.nodup_append.mp h1).2.2 _ hc _ (by simp) rfl
theorem take_snoc_flt {α : Type} {l : List α} {n : Nat} {x : α} {f : α → Bool} (h : l[n]? = some x) : (l.take (n + 1)).filter f = (l.take n).filter f ++ (if f x then [x] else []) := by
  rw [take_snoc h, List.filter_append]
  congr 1
  cases hf : f x <;> simp [hf]
/-! ### numbers summed -/
def numN (ns : List Nm) (x : Am) : Int := ((ns.find? fun p => decide (p.1 = x)).map (·.2)).getD 0
def addN (ns : List Nm) (q : Nm) : List Nm := if q.1 ∈ ns.map (·.1) then ns.map (fun p => if p.1 = q.1 then (p.1, p.2 + q.2) else p) else ns ++ [q]
def sumN (qs : List Nm) : List Nm := qs.foldl addN []
theorem numN_no {ns : List Nm} {x : Am} (h : x ∉ ns.map (·.1)) : numN ns x = 0 := by
  unfold numN
  rw [List.find?_eq_none.mpr fun p hp => by
    have : p.1 ≠ x := fun e => h (List.mem_map.mpr ⟨p, hp, e⟩)
    simpa using this]
  rfl
theorem numN_at : ∀ {ns : List Nm} {q : Nm}, (ns.map (·.1)).Nodup → q ∈ ns → numN ns q.1 = q.2
  | p :: r, q, nd, h => by
    have nd' := List.nodup_cons.mp (show (p.1 :: r.map (·.1)).Nodup from nd)
    rcases List.mem_cons.mp h with rfl | h
    · unfold numN
      rw [List.find?_cons_of_pos (by simp)]
      rfl
    · have hne : p.1 ≠ q.1 := fun e => nd'.1 (by rw [e]; exact List.mem_map.mpr ⟨q, h, rfl⟩)
      have : numN (p :: r) q.1 = numN r q.1 := by
        unfold numN
        rw [List.find?_cons_of_neg (by simpa using hne)]
      rw [this]
      exact numN_at nd'.2 h
theorem keys_addN {ns : List Nm} {q : Nm} : (addN ns q).map (·.1) = if q.1 ∈ ns.map (·.1) then ns.map (·.1) else ns.map (·.1) ++ [q.1] := by
  unfold addN
  split
  · rw [List.map_map]
    refine List.map_congr_left fun p hp => ?_
    show (if p.1 = q.1 then (p.1, p.2 + q.2) else p).1 = p.1
    split <;> rfl
  · rw [List.map_append]
    rfl
theorem nodup_addN {ns : List Nm} {q : Nm} (nd : (ns.map (·.1)).Nodup) : ((addN ns q).map (·.1)).Nodup := by
  rw [keys_addN]
  split
  · exact nd
  · rename_i h
    exact List.nodup_append.mpr ⟨nd, by simp, fun a ha b hb e => h (by rw [List.mem_singleton.mp hb] at e; rw [← e]; exact ha)⟩
theorem len_addN {ns : List Nm} {q : Nm} : (addN ns q).length ≤ ns.length + 1 := by
  unfold addN
  split
  · rw [List.length_map]; omega
  · simp
theorem mem_addN {ns : List Nm} {q : Nm} {x : Am} : x ∈ (addN ns q).map (·.1) ↔ x ∈ ns.map (·.1) ∨ x = q.1 := by
  rw [keys_addN]
  split
  · rename_i h
    exact ⟨.inl, fun z => z.elim id fun e => by rw [e]; exact h⟩
  · rw [List.mem_append, List.mem_singleton]
theorem numN_add {ns : List Nm} {q : Nm} {x : Am} (nd : (ns.map (·.1)).Nodup) : numN (addN ns q) x = numN ns x + (if q.1 = x then q.2 else 0) := by
  have nd2 := nodup_addN (q := q) nd
  by_cases hx : x ∈ ns.map (·.1)
  · obtain ⟨p, hp, e⟩ := List.mem_map.mp hx
    subst e
    rw [numN_at nd hp]
    by_cases hq : q.1 = p.1
    · rw [if_pos hq]
      have : (p.1, p.2 + q.2) ∈ addN ns q := by
        unfold addN
        rw [if_pos (by rw [hq]; exact hx)]
        exact List.mem_map.mpr ⟨p, hp, by rw [if_pos hq.symm]⟩
      exact numN_at nd2 this
    · rw [if_neg hq, Int.add_zero]
      have : p ∈ addN ns q := by
        unfold addN
        split
        · exact List.mem_map.mpr ⟨p, hp, by rw [if_neg fun e => hq e.symm]⟩
        · exact List.mem_append_left _ hp
      exact numN_at nd2 this
  · rw [numN_no hx]
    by_cases hq : q.1 = x
    · subst hq
      rw [if_pos rfl, Int.zero_add]
      have : q ∈ addN ns q := by
        unfold addN
        rw [if_neg hx]
        exact List.mem_append_right _ (by simp)
      exact numN_at nd2 this
    · rw [if_neg hq]
      exact numN_no fun h => (mem_addN.mp h).elim hx fun e => hq e.symm
theorem get_dN {ns : List Nm} {x : Am} (nd : (ns.map (·.1)).Nodup) : (valV (dN ns) (amK x)).getD (.int 0) = .int (numN ns x) := by
  by_cases hx : x ∈ ns.map (·.1)
  · obtain ⟨p, hp, e⟩ := List.mem_map.mp hx
    subst e
    rw [dN_at nd hp, numN_at nd hp]
    rfl
  · rw [dN_no hx, numN_no hx]
    rfl
theorem put_addN {ns : List Nm} {q : Nm} (nd : (ns.map (·.1)).Nodup) : putK (dN ns) (amK q.1) (.int (numN ns q.1 + q.2)) = dN (addN ns q) := by
  by_cases hx : q.1 ∈ ns.map (·.1)
  · have hv := isSome_dA (bs := ns.map fun q => (q.1, V.int q.2)) (x := q.1)
    rw [dN_keys, decide_eq_true hx] at hv
    unfold putK addN
    rw [if_pos hx, if_pos]
    · show List.map _ (List.map _ _) = dA (List.map _ _)
      unfold dA
      rw [List.map_map, List.map_map, List.map_map, List.map_map]
      refine List.map_congr_left fun p hp => ?_
      show (if amK p.1 = amK q.1 then (amK p.1, V.int (numN ns q.1 + q.2)) else (amK p.1, V.int p.2)) = (amK (if p.1 = q.1 then (p.1, p.2 + q.2) else p).1, V.int (if p.1 = q.1 then (p.1, p.2 + q.2) else p).2)
      by_cases e : p.1 = q.1
      · rw [if_pos (by rw [e]), if_pos e, ← e, numN_at nd hp]
      · rw [if_neg fun z => e (amK_inj z), if_neg e]
    · obtain ⟨p, hp, e⟩ := List.mem_map.mp hx
      rw [List.any_eq_true]
      exact ⟨(amK q.1, .int p.2), List.mem_map.mpr ⟨(p.1, .int p.2), List.mem_map.mpr ⟨p, hp, rfl⟩, by rw [← e]⟩, by simp⟩
  · rw [numN_no hx, Int.zero_add, dN_put hx]
    unfold addN
    rw [if_neg hx]
theorem sumN_snoc {qs : List Nm} {q : Nm} : sumN (qs ++ [q]) = addN (sumN qs) q := by
  unfold sumN
  rw [List.foldl_append]
  rfl
theorem rev_ind {α : Type} {P : List α → Prop} (h0 : P []) (h1 : ∀ l x, P l → P (l ++ [x])) (l : List α) : P l := by
  have : ∀ l : List α, P l.reverse := fun l => by
    induction l with
    | nil => exact h0
    | cons x r ih => rw [List.reverse_cons]; exact h1 _ _ ih
  simpa using this l.reverse
theorem nodup_sumN (qs : List Nm) : ((sumN qs).map (·.1)).Nodup := by
  induction qs using rev_ind with
  | h0 => exact List.nodup_nil
  | h1 l x ih => rw [sumN_snoc]; exact nodup_addN ih
theorem len_sumN (qs : List Nm) : (sumN qs).length ≤ qs.length := by
  induction qs using rev_ind with
  | h0 => exact Nat.le_refl _
  | h1 l x ih =>
    rw [sumN_snoc, List.length_append]
    exact Nat.le_trans len_addN (by simpa using ih)
theorem mem_sumN {qs : List Nm} {x : Am} : x ∈ (sumN qs).map (·.1) ↔ x ∈ qs.map (·.1) := by
  induction qs using rev_ind with
  | h0 => exact Iff.rfl
  | h1 l q ih =>
    rw [sumN_snoc, mem_addN, ih, List.map_append, List.mem_append]
    simp
/-- what the terms give to an amount -/
def giveN (qs : List Nm) (x : Am) : Int := (qs.map fun q => if q.1 = x then q.2 else 0).sum
theorem numN_sum {qs : List Nm} {x : Am} : numN (sumN qs) x = giveN qs x := by
  induction qs using rev_ind with
  | h0 => rfl
  | h1 l q ih =>
    rw [sumN_snoc, numN_add (nodup_sumN l), ih]
    unfold giveN
    rw [List.map_append, List.sum_append]
    simp
end Tp
/-! Fi: an object of an own class walked by an __iter__ that answers iter(d.items()) -/
namespace Tp
open PySem PySem.Spec PyProof.Rows L2 He
open PySem.W (KdxIt kdx_alive)
section
variable {prog : Program} {w : World} {A : Around} {E : Value → Shared → Prop} {s : Shared}
theorem gone_asked {a : Addr} {Q : Option Obj → Shared → Prop} (ho : s.heap.get? a = none) (h : Q none s) : wpAny (model prog w) A (loadIfAlive a) Q E s := by
  have h' : Q (s.heap.get? a) s := by rw [ho]; exact h
  exact fun _ _ _ => h'
/-- a pair by an iterator that once gave one: whether that one still stands or not -/
theorem pair_any {it d a : Addr} {f : Bool} {i n ep : Nat} {ok ov key val : Value} {Q : Value → Shared → Prop} (hit : KdxIt s.heap it d i n ep ok ov a f)
    (hQ : ∀ h', (∃ ok ov a f, KdxIt h' it d i n ep ok ov a f) → h'.get? s.heap.objs.size = some { cls := .type "tuple", data := .seq #[key, val] } → h'.objs.size = s.heap.objs.size + 1 →
      (∀ b o, b ≠ it → s.heap.get? b = some o → h'.get? b = some o) → Q (.ref s.heap.objs.size) { s with heap := h' }) :
    wpAny (model prog w) A (Builtin.Dict_items.pairFromOwner (.ref it) 6 key val) Q E s := by
  have lt : it < s.heap.objs.size := Heap.lt_size hit
  unfold Builtin.Dict_items.pairFromOwner
  refine wpAny_bind (wpAny_newTuple ?_)
  have hit2 : KdxIt (s.heap.push { cls := .type "tuple", data := .seq #[key, val] }) it d i n ep ok ov a f := Heap.get?_push_of_some _ hit
  have new2 : (s.heap.push { cls := .type "tuple", data := .seq #[key, val] }).get? s.heap.objs.size = some { cls := .type "tuple", data := .seq #[key, val] } := Heap.get?_push_size _ rfl
  have size2 : (s.heap.push { cls := .type "tuple", data := .seq #[key, val] }).objs.size = s.heap.objs.size + 1 := Heap.size_push ..
  have keep2 : ∀ b o, b ≠ it → s.heap.get? b = some o → (s.heap.push { cls := .type "tuple", data := .seq #[key, val] }).get? b = some o := fun b o _ e => Heap.get?_push_of_some _ e
  generalize s.heap.push { cls := .type "tuple", data := .seq #[key, val] } = h2 at hit2 new2 size2 keep2
  have fin : ∀ h3 : Heap, (∃ ok ov a f, KdxIt h3 it d i n ep ok ov a f) → Heap.SameBut it h2 h3 → Q (.ref s.heap.objs.size) { s with heap := h3 } := fun h3 st same =>
    hQ h3 st (same.extBut _ _ (Nat.ne_of_gt lt) new2) (by rw [same.1, size2]) fun b o hb e => same.extBut b o hb (keep2 b o hb e)
  show wpAny _ _ (Builtin.Dict_items.ownedTupleIsFree (.ref it) >>= _) _ _ { s with heap := h2 }
  refine wpAny_bind ?_
  unfold Builtin.Dict_items.ownedTupleIsFree
  refine wpAny_bind (wpAny_field hit2 rfl (x := rawInt a) rfl ?_)
  show wpAny _ _ (loadIfAlive ((a : Int).toNat) >>= _) _ _ _
  rw [Int.toNat_natCast]
  cases ha : h2.get? a with
  | some oa =>
    refine wpAny_bind (kdx_alive (s := { s with heap := h2 }) ha ?_)
    simp only [Option.isNone_some, Bool.false_eq_true, if_false]
    refine wpAny_bind (wpAny_field hit2 rfl (x := .bool f) rfl ?_)
    cases f with
    | true =>
      rw [if_neg (show ¬ ((Value.bool true != Value.bool true) = true) from Bool.false_ne_true)]
      refine wpAny_pure ?_
      simp only [Bool.false_eq_true, if_false]
      exact wpAny_pure (fin h2 ⟨_, _, _, _, hit2⟩ (Heap.SameBut.refl _ _))
    | false =>
      rw [if_pos (show (Value.bool false != Value.bool true) = true from rfl)]
      refine wpAny_bind (wpAny_setField_rec hit2 (by simp) fun h3 e3 s3 => ?_)
      refine wpAny_pure ?_
      simp only [Bool.false_eq_true, if_false]
      exact wpAny_pure (fin h3 ⟨ok, ov, a, true, e3⟩ s3)
  | none =>
    refine wpAny_bind (gone_asked (s := { s with heap := h2 }) ha ?_)
    simp only [Option.isNone_none, if_true]
    refine wpAny_pure ?_
    simp only [if_true]
    refine wpAny_bind (wpAny_field hit2 rfl (x := ok) rfl ?_)
    refine wpAny_bind (wpAny_field hit2 rfl (x := ov) rfl ?_)
    refine wpAny_bind (wpAny_setField_rec hit2 (by simp) fun h3 e3 s3 => ?_)
    refine wpAny_bind (wpAny_setField_rec e3 (by simp) fun h4 e4 s4 => ?_)
    refine wpAny_bind (wpAny_setField_rec e4 (by simp) fun h5 e5 s5 => ?_)
    refine wpAny_bind (wpAny_setField_rec e5 (by simp) fun h6 e6 s6 => ?_)
    refine wpAny_bind (wpAny_letGo (wpAny_pure (fin h6 ⟨key, val, s.heap.objs.size, false, e6⟩ ?_)))
    exact ⟨by rw [s6.1, s5.1, s4.1, s3.1], fun b hb => (s6.2 b hb).trans ((s5.2 b hb).trans ((s4.2 b hb).trans (s3.2 b hb)))⟩
theorem next_any {it d a : Addr} {f : Bool} {i ep : Nat} {es : Array DictEntry} {ok ov : Value} {Q : Option Value → Shared → Prop} (hit : KdxIt s.heap it d i es.size ep ok ov a f) (hm : DT.Raw s.heap d es ep) (hi : i < es.size)
    (hQ : ∀ h', (∃ ok ov a f, KdxIt h' it d (i + 1) es.size ep ok ov a f) → h'.get? s.heap.objs.size = some { cls := .type "tuple", data := .seq #[es[i].key, es[i].val] } → h'.objs.size = s.heap.objs.size + 1 →
      (∀ b o, b ≠ it → s.heap.get? b = some o → h'.get? b = some o) → Q (some (.ref s.heap.objs.size)) { s with heap := h' }) :
    wpAny (model prog w) A (pyNext (.ref it)) Q E s := by
  obtain ⟨od, hod, hcd, hdd⟩ := id hm
  have isIt : s.TypeIs (.ref it) "dict_itemiterator" := ⟨_, hit, rfl⟩
  have owns : Builtin.Dict_items.ownsTuple "dict_itemiterator" = true := by decide
  unfold pyNext
  refine wpAny_bind (wpAny_attempt (wpAny_callSpecial?_slot (name := Str.ofString "__next__") isIt PySem.F.slot_dict_itemiterator_next (wpAny_call_entry PySem.F.slot_dict_itemiterator_next isIt PySem.F.entry_dict_itemiterator_next ?_ (PySem.F.args_dict_itemiterator_next_1 _))))
  refine wpAny_bind (wpAny_pure (wpAny_bind (wpAny_bind ?_)))
  refine wpAny_bind (wpAny_typeNameOfWhole_itemiter isIt (wpAny_pure ?_))
  refine wpAny_bind (wpAny_fieldsOf hit rfl ?_)
  simp only [owns, if_true]
  refine wpAny_ite_split (fun e => absurd e Bool.false_ne_true) fun _ => wpAny_bind (wpAny_pure (wpAny_bind (wpAny_dictEntries hod hdd ?_)))
  refine wpAny_ite_split (fun e => absurd e (by simp)) fun _ => wpAny_bind (wpAny_pure (wpAny_bind (wpAny_dictEpoch hod hdd ?_)))
  refine wpAny_ite_split (fun e => absurd e (by simp)) fun _ => wpAny_pure ?_
  simp only [show ¬ ((i : Int) < 0) from by omega, if_false, Int.toNat_natCast, Array.getElem?_eq_getElem hi]
  refine wpAny_bind (wpAny_bind (wpAny_typeNameOfWhole_itemiter isIt (wpAny_pure ?_)))
  refine wpAny_bind (wpAny_isOneOf_itemiter isIt ?_)
  show wpAny _ _ (setField (.ref it) 3 (rawInt ((i : Int) + 1)) >>= _) _ _ s
  refine wpAny_bind (wpAny_setField_rec hit (by simp) fun h1 e1 s1 => ?_)
  replace e1 : KdxIt h1 it d (i + 1) es.size ep ok ov a f := by
    have e : ((i + 1 : Nat) : Int) = (i : Int) + 1 := by omega
    unfold KdxIt
    rw [e]
    simpa [rawInt] using e1
  have isIt1 : Shared.TypeIs { s with heap := h1 } (.ref it) "dict_itemiterator" := ⟨_, e1, rfl⟩
  refine wpAny_bind (wpAny_holding (wpAny_bind (wpAny_isOneOf_itemiter isIt1 (wpAny_bind (wpAny_isOneOf_itemiter isIt1 ?_)))))
  show wpAny _ _ (Builtin.Dict_items.pairFromOwner (.ref it) 6 es[i].key es[i].val) _ _ _
  have z1 : h1.objs.size = s.heap.objs.size := s1.1
  refine pair_any (s := { s with heap := h1 }) e1 fun h2 st tup size keep => ?_
  rw [show ({ s with heap := h1 } : Shared).heap.objs.size = s.heap.objs.size from z1] at tup size ⊢
  exact wpAny_pure ⟨_, rfl, wpAny_pure (hQ h2 st tup size fun b o hb e => keep b o hb ((s1.2 b hb).trans e))⟩
end
/-- the pairs of the locked dict at d, its keys tuples -/
def ItiT (d : Addr) (o : Obj) (kvs : List (List Key × V)) : It :=
  ⟨fun i H => H d = some (.frz o (.dT kvs)) ∧ i < kvs.length, fun i H x H' => ∃ (T : Addr) (k : List Key) (v : V) (q : Addr), kvs[i]? = some (k, v) ∧ H q = some (.tup (k.map kV)) ∧ x = .ref T ∧ H T = none ∧ H' = upd H T (.tup [.ref q, v]), fun i H => H d = some (.frz o (.dT kvs)) ∧ kvs.length ≤ i⟩
theorem frz_ents {X : Cx} {pins : List (Addr × Obj)} {σ : L2.St} {H : Hp} {s : Shared} {d : Addr} {o : Obj} {kvs : List (List Key × V)} (I : Inv X pins σ H s) (h : H d = some (.frz o (.dT kvs))) :
    ∃ (es : Array DictEntry) (ep : Nat), o.data = .dict es ep ∧ DT.Raw s.heap d es ep ∧ es.size = kvs.length ∧ (d == sysModules) = false ∧
      ∀ (i : Nat) (k : List Key) (v : V), kvs[i]? = some (k, v) → ∃ (en : DictEntry) (q : Addr), es[i]? = some en ∧ en.key = .ref q ∧ H q = some (.tup (k.map kV)) ∧ RelV v en.val := by
  obtain ⟨hd, z, hs, xs, pr, o', es, ep, ho, hx, hdt, he, _⟩ := I.hok d _ h
  rw [hd] at ho
  cases ho
  refine ⟨es, ep, hdt, ⟨_, hd, hx, hdt⟩, ?_, hs, fun i k v e => ?_⟩
  · have l1 : es.size = xs.length := size_of_entries he
    have l2 : kvs.length = xs.length := Paired.length pr
    omega
  · obtain ⟨b, hb, e1, e2, e3⟩ := paired_get pr e
    have q := entry_at he i
    rw [hb] at q
    exact ⟨_, b.2.1, q, rfl, e2, e3⟩
/-- such an iterator -/
def ItmS (h : Heap) (it d : Addr) (i n ep : Nat) : Prop := (∃ ok ov, IsItemIter h it d i n ep ok ov) ∨ ∃ ok ov a f, KdxIt h it d i n ep ok ov a f
theorem ItmS.there {h : Heap} {it d : Addr} {i n ep : Nat} (x : ItmS h it d i n ep) : ∃ fs, h.get? it = some { cls := .type "dict_itemiterator", dict := none, data := .fields fs, slots := #[] } := by
  rcases x with ⟨ok, ov, e⟩ | ⟨ok, ov, a, f, e⟩
  · exact ⟨_, e⟩
  · exact ⟨_, e⟩
theorem ItmS.at {h h' : Heap} {it d : Addr} {i n ep : Nat} (x : ItmS h it d i n ep) (k : ∀ o, h.get? it = some o → h'.get? it = some o) : ItmS h' it d i n ep := by
  rcases x with ⟨ok, ov, e⟩ | ⟨ok, ov, a, f, e⟩
  · exact .inl ⟨ok, ov, k _ e⟩
  · exact .inr ⟨ok, ov, a, f, k _ e⟩
theorem turn_itemsT {P : Program} {w : World} {K : PySem.W.Frag} {d : Addr} {o : Obj} {kvs : List (List Key × V)} {es : Array DictEntry} {ep : Nat} {x : Str} {p : Pos} (it : Addr) (hod : o.data = .dict es ep) :
    Turn P w K (.Name x p) (ItiT d o kvs) [it] it (fun i h => ItmS h it d i kvs.length ep) where
  mem := by simp
  obj := fun i h st b hb => by
    have e : b = it := by simpa using hb
    subst e
    obtain ⟨fs, e⟩ := st.there
    exact ⟨_, e, fun v z => nomatch z⟩
  keep := fun i h h' st k => st.at fun o e => k it (by simp) o e
  item := by
    intro X hP hw hK hc i pins s σ H E I hf st hg
    subst hP hw hK
    obtain ⟨hd, hi⟩ := hg
    obtain ⟨es', ep', hdt, raw, hsz, hs, ent⟩ := frz_ents I hd
    obtain ⟨rfl, rfl⟩ := dict_ep hod hdt
    obtain ⟨⟨k, v⟩, hkv⟩ : ∃ p, kvs[i]? = some p := ⟨kvs[i], List.getElem?_eq_getElem hi⟩
    obtain ⟨en, q, hen, hkey, hq, rv⟩ := ent i k v hkv
    have hie : i < es'.size := by omega
    have hen' : es'[i] = en := by
      have := Array.getElem?_eq_getElem hie
      rw [this] at hen
      exact Option.some.inj hen
    rw [← hsz] at st
    have lt : it < s.heap.objs.size := by
      obtain ⟨fs, e⟩ := st.there
      exact Heap.lt_size e
    have fin : ∀ h', ItmS h' it d (i + 1) es'.size ep' → h'.get? s.heap.objs.size = some { cls := .type "tuple", data := .seq #[es'[i].key, es'[i].val] } → h'.objs.size = s.heap.objs.size + 1 →
        (∀ b o, b ≠ it → s.heap.get? b = some o → h'.get? b = some o) → ∃ u, some (Value.ref s.heap.objs.size) = some u ∧
        wpAny (model X.prog X.w) X.A (letOwnedTupleGo (.Name x p) (.ref it) u) (fun _ s2 => ∃ x H', Inv X pins σ H' s2 ∧ RelV x u ∧ (ItiT d o kvs).yld i H x H' ∧ ItmS s2.heap it d (i + 1) kvs.length ep' ∧ ∀ b ∈ [it], H' b = none) E { s with heap := h' } := fun h' st' tup size keep => by
      rw [hen', hkey] at tup
      have new : ObjOk X.prog X.w (upd H s.heap.objs.size (.tup [.ref q, v])) h' s.heap.objs.size (.tup [.ref q, v]) :=
        ⟨by show 2 ≤ sizeLine; decide, [.ref q, en.val], .cons rfl (.cons rv .nil), ⟨_, tup, rfl, _, rfl⟩⟩
      have I1 : Inv X pins σ (upd H s.heap.objs.size (.tup [.ref q, v])) { s with heap := h' } :=
        I.turnedNew (t' := s.toks) (ch := [it]) (fun b ob hb e => keep b ob (by simpa using hb) e) hf (Nat.le_refl _) new
      refine ⟨_, rfl, wpAny_pure ⟨.ref s.heap.objs.size, _, I1, rfl, ⟨_, k, v, q, hkv, hq, rfl, I.hok.fresh (Nat.le_refl _), rfl⟩, by rw [← hsz]; exact st', fun b hb => ?_⟩⟩
      have e : b = it := by simpa using hb
      rw [e, upd_ne (Nat.ne_of_lt lt)]
      exact (hf it (by simp)).1
    rcases st with ⟨ok, ov, e⟩ | ⟨ok, ov, a, f, e⟩
    · exact DT.nextI e raw hie fun h' e' tup size keep => fin h' (.inr ⟨_, _, _, false, e'⟩) tup size keep
    · exact next_any e raw hie fun h' e' tup size keep => fin h' (.inr e') tup size keep
  done := by
    intro X hP hw hK hc i pins s σ H E I hf st hg
    subst hP hw hK
    obtain ⟨hd, hi⟩ := hg
    obtain ⟨f0, f1, f2, f3, f4, f5⟩ := hf it (by simp)
    obtain ⟨es', ep', hdt, raw, hsz, hs, ent⟩ := frz_ents I hd
    obtain ⟨rfl, rfl⟩ := dict_ep hod hdt
    rw [← hsz] at st
    have fin : ∀ h', Heap.ExtBut it s.heap h' → (none : Option Value) = none ∧ Inv X pins σ H { s with heap := h' } := fun h' eb => ⟨rfl, I.turned (t' := s.toks) (fun b ob hb e => eb b ob hb e) f0 f1 f3 f4 f5⟩
    rcases st with ⟨ok, ov, e⟩ | ⟨ok, ov, a, f, e⟩
    · exact DT.endI (I.ok.hd hc) e raw (by omega) fin
    · exact DT.endO (I.ok.hd hc) e raw (by omega) fin
  self := fun A i s Q E st h => by
    obtain ⟨fs, e⟩ := st.there
    have isIt : s.TypeIs (.ref it) "dict_itemiterator" := ⟨_, e, rfl⟩
    exact wpAny_pyIter_slot isIt PySem.F.slot_dict_itemiterator_iter (wpAny_call_entry PySem.F.slot_dict_itemiterator_iter isIt PySem.W.kcp_entry (wpAny_pure ⟨_, rfl, "dict_itemiterator", _, isIt, PySem.F.slot_dict_itemiterator_next.lookup, h⟩) (PySem.F.args_dict_itemiterator_iter_1 _))
/-- .. unpacked at once -/
theorem turn_itemsU {P : Program} {w : World} {K : PySem.W.Frag} {d : Addr} {o : Obj} {kvs : List (List Key × V)} {es : Array DictEntry} {ep : Nat} {elts : List Expr} {kk : Nat} {tpos : Pos} (it : Addr) (hod : o.data = .dict es ep) :
    Turn P w K (.Tuple elts kk tpos) (ItiT d o kvs) [it] it (fun i h => ∃ ok ov, IsItemIter h it d i kvs.length ep ok ov) where
  mem := by simp
  obj := fun i h st b hb => by
    have e : b = it := by simpa using hb
    subst e
    obtain ⟨ok, ov, e⟩ := st
    exact ⟨_, e, fun v z => nomatch z⟩
  keep := fun i h h' ⟨ok, ov, e⟩ k => ⟨ok, ov, k it (by simp) _ e⟩
  item := by
    intro X hP hw hK hc i pins s σ H E I hf st hg
    subst hP hw hK
    obtain ⟨hd, hi⟩ := hg
    obtain ⟨es', ep', hdt, raw, hsz, hs, ent⟩ := frz_ents I hd
    obtain ⟨rfl, rfl⟩ := dict_ep hod hdt
    obtain ⟨⟨k, v⟩, hkv⟩ : ∃ p, kvs[i]? = some p := ⟨kvs[i], List.getElem?_eq_getElem hi⟩
    obtain ⟨en, q, hen, hkey, hq, rv⟩ := ent i k v hkv
    have hie : i < es'.size := by omega
    have hen' : es'[i] = en := by
      have := Array.getElem?_eq_getElem hie
      rw [this] at hen
      exact Option.some.inj hen
    rw [← hsz] at st
    obtain ⟨ok, ov, e⟩ := st
    have lt : it < s.heap.objs.size := Heap.lt_size e
    refine DT.nextI e raw hie fun h' e' tup size keep => ⟨_, rfl, wpAny_letOwnedTupleGo_items (s := { s with heap := h' }) e' fun h2 e2 s2 => ?_⟩
    rw [hen', hkey] at tup
    have tup2 := (s2.2 _ (Nat.ne_of_gt lt)).trans tup
    have new : ObjOk X.prog X.w (upd H s.heap.objs.size (.tup [.ref q, v])) h2 s.heap.objs.size (.tup [.ref q, v]) :=
      ⟨by show 2 ≤ sizeLine; decide, [.ref q, en.val], .cons rfl (.cons rv .nil), ⟨_, tup2, rfl, _, rfl⟩⟩
    have I1 : Inv X pins σ (upd H s.heap.objs.size (.tup [.ref q, v])) { s with heap := h2 } :=
      I.turnedNew (t' := s.toks) (ch := [it]) (fun b ob hb e => (s2.2 b (by simpa using hb)).trans (keep b ob (by simpa using hb) e)) hf (Nat.le_refl _) new
    refine ⟨.ref s.heap.objs.size, _, I1, rfl, ⟨_, k, v, q, hkv, hq, rfl, I.hok.fresh (Nat.le_refl _), rfl⟩, ⟨_, _, by rw [← hsz]; exact e2⟩, fun b hb => ?_⟩
    have e : b = it := by simpa using hb
    rw [e, upd_ne (Nat.ne_of_lt lt)]
    exact (hf it (by simp)).1
  done := by
    intro X hP hw hK hc i pins s σ H E I hf st hg
    subst hP hw hK
    obtain ⟨hd, hi⟩ := hg
    obtain ⟨f0, f1, f2, f3, f4, f5⟩ := hf it (by simp)
    obtain ⟨es', ep', hdt, raw, hsz, hs, ent⟩ := frz_ents I hd
    obtain ⟨rfl, rfl⟩ := dict_ep hod hdt
    rw [← hsz] at st
    obtain ⟨ok, ov, e⟩ := st
    exact DT.endI (I.ok.hd hc) e raw (by omega) fun h' eb => ⟨rfl, I.turned (t' := s.toks) (fun b ob hb e => eb b ob hb e) f0 f1 f3 f4 f5⟩
  self := fun A i s Q E ⟨ok, ov, e⟩ h => PySem.W.kcp_self e h
/-- at p the view of the pairs of the dict at d -/
def ViO (d p : Addr) : HO := .ext fun h => h.get? p = some { cls := .type "dict_items", data := .fields #[.ref d] }
/-- at it an iterator over them that begins -/
def ItmO (d it : Addr) (o : Obj) : HO := .ext fun h => ∃ es ep, o.data = .dict es ep ∧ IsItemIter h it d 0 es.size ep .none .none
theorem viO_ok {P : Program} {w : World} {H : Hp} {h : Heap} {d p : Addr} (e : h.get? p = some { cls := .type "dict_items", data := .fields #[.ref d] }) : ObjOk P w H h p (ViO d p) := ⟨e, ⟨_, e⟩, fun h1 h2 q k => k _ q⟩
theorem itmO_ok {P : Program} {w : World} {H : Hp} {h : Heap} {d it : Addr} {o : Obj} {es : Array DictEntry} {ep : Nat} (hd : o.data = .dict es ep) (e : IsItemIter h it d 0 es.size ep .none .none) : ObjOk P w H h it (ItmO d it o) :=
  ⟨⟨es, ep, hd, e⟩, ⟨_, e⟩, fun h1 h2 ⟨es', ep', hd', q⟩ k => ⟨es', ep', hd', k _ q⟩⟩
section
variable {X : Cx} {pins : List (Addr × Obj)} {σ : L2.St} {H : Hp} {s : Shared} {d p it : Addr} {o : Obj}
theorem viO_get (I : Inv X pins σ H s) (e : H p = some (ViO d p)) : s.heap.get? p = some { cls := .type "dict_items", data := .fields #[.ref d] } := (I.hok p _ e).1
theorem itmO_get (I : Inv X pins σ H s) (e : H it = some (ItmO d it o)) : ∃ es ep, o.data = .dict es ep ∧ IsItemIter s.heap it d 0 es.size ep .none .none := (I.hok it _ e).1
end
/-- d.items() -/
def tItemsT (td : TE) : TE := fun σ H Q => td σ H fun x H1 => ∃ d o kvs, x = .ref d ∧ H1 d = some (.frz o (.dT kvs)) ∧ ∀ p, H1 p = none → Q (.ref p) (upd H1 p (ViO d p))
theorem pe_itemsT {X : Cx} {e : Expr} {td : TE} {apos cpos : Pos} (he : PE X e td) (hbase : attributeBase e "items" X.env (eval e X.env) = eval e X.env := by rfl) (hline : (apos.endLine == cpos.line) = true := by rfl) :
    PE X (.Call (.Attribute e "items" apos) [] [] cpos) (tItemsT td) := by
  refine ⟨fun pins s σ H Q I h => ?_⟩
  refine wpAny_Call_method (T := "dict") (id := "dict.items") hbase rfl hline F.plainAttrs_dict F.slot_dict_items F.type_dict_items (thn (he.run pins s σ H _ I h) fun u s1 ⟨x, H1, I1, rx, d, o, kvs, ex, hd, q⟩ => ?_)
  subst ex
  obtain rfl : u = Value.ref d := rx
  obtain ⟨es, ep, hdt, raw, hsz, hs, ent⟩ := frz_ents I1 hd
  refine ⟨raw.typeIs, fun a z => ?_, ?_⟩
  · obtain ⟨ob, ho, hc, _⟩ := raw
    cases z
    exact ⟨ob, ho, hc.2.1⟩
  have fin : EP X pins σ Q (.ref s1.heap.objs.size) { s1 with heap := s1.heap.push { cls := .type "dict_items", data := .fields #[.ref d] } } :=
    ⟨.ref s1.heap.objs.size, _, I1.laid (t' := s1.toks) (fun b u e => Heap.get?_push_of_some _ e) (Nat.le_refl _) (viO_ok (Heap.get?_push_size _ rfl)), rfl, q _ (I1.hok.fresh (Nat.le_refl _))⟩
  show wpAny _ _ (callWith cpos (.builtin "dict.items") [.ref d] [] []) _ X.xe s1
  exact method_meetsIn F.slot_dict_items F.entry_dict_items rfl (PySem.evalArgs_none ⟨rfl, raw.typeIs, F.args_dict_items_1 _, _, DT.meetsItems (es := es) (ep := ep) hs, ⟨raw, fin⟩⟩)
/-- iter(view) -/
def rIterI (n : Nat) : List V → Hp → VK → Prop := fun xs H Q => ∃ (p d : Addr) (o : Obj) (kvs : List (List Key × V)), xs = [.ref p] ∧ H p = some (ViO d p) ∧ H d = some (.frz o (.dT kvs)) ∧ ∀ it, H it = none → n ≤ it → Q (.ref it) (upd H it (ItmO d it o))
theorem call_iterI {X : Cx} : CallR X (.builtin "iter") (rIterI X.s_0.heap.objs.size) := by
  intro pins s σ H xs us Q I r h
  obtain ⟨p, d, o, kvs, rfl, hp, hd, q⟩ := h
  obtain ⟨u, rfl, ru⟩ := vals1 r
  cases ru
  obtain ⟨es, ep, hdt, raw, hsz, hs, ent⟩ := frz_ents I hd
  refine Calls.call_function_entry (by decide +kernel) (by decide +kernel) PySem.W.kdk_entry_iter (PySem.W.kdk_args_iter _) ?_
  unfold Builtin.«iter»
  refine wpAny_bind (m := someArgs "iter" 1 2 _) (wpAny_of_eq (a := [Value.ref p]) (by first | rfl | kernel_rfl!) ?_)
  show wpAny _ _ (pyIter (.ref p) >>= _) _ _ _
  refine wpAny_bind (DT.iterI ⟨_, viO_get I hp, rfl, rfl⟩ raw ?_)
  refine wpAny_pure ⟨_, rfl, ?_⟩
  exact ⟨.ref s.heap.objs.size, _, I.laid (t' := s.toks) (fun b u e => Heap.get?_push_of_some _ e) (Nat.le_refl _) (itmO_ok hdt (Heap.get?_push_size _ rfl)), rfl, q _ (I.hok.fresh (Nat.le_refl _)) I.sz⟩
/-- what __iter__ is to answer: a new iterator over the pairs of the dict at d -/
abbrev itmNew (n : Nat) (d : Addr) (o : Obj) (H : Hp) : VK := fun v H' => ∃ p it, v = .ref it ∧ H p = none ∧ it ≠ p ∧ H it = none ∧ n ≤ it ∧ H' = upd (upd H p (ViO d p)) it (ItmO d it o)
/-- for x in o, o of a class with its own __iter__ that answers iter(d.items()), d locked -/
def iOwnI (C : Addr) (sp : Nat → Sp) (E : XK) (te : TE) : TI := fun σ H R => te σ H fun x H1 => ∃ a dx fs d o kvs, x = .ref a ∧ H1 a = some (.ins C dx fs) ∧ H1 d = some (.frz o (.dT kvs)) ∧ (∀ n, sp n [.ref a] H1 (itmNew n d o H1) E) ∧ R (ItiT d o kvs) H1
section
variable {X : Cx} {CX : CXT} {k : Nat} {C g : Addr} {fd : FuncData} {ps : List Str} {sp : Nat → Sp} {E : XK} {e tg : Expr} {te : TE}
theorem pi_ownI (tk : (∃ x p, tg = .Name x p) ∨ ∃ elts kk p, tg = .Tuple elts kk p) (he : PE X e te) (hi : OwnIt X.K C g) (F : FnN X.prog X.w X.K X.mg X.base CX k g fd ps sp) (hr : Room k X.A) (hb : Binds X.K fd ps []) (hx : Passes CX X E) : PI X tg e (iOwnI C sp E te) := by
  refine ⟨fun pins s σ H R I h => ?_⟩
  refine thn (he.run pins s σ H _ I h) fun v s1 ⟨x, H1, I1, r1, a, dx, fs, d, o, kvs, ex, ea, hd, hs, q⟩ => ?_
  subst ex
  obtain rfl : v = Value.ref a := r1
  obtain ⟨mA, O, _, _, _, _⟩ := ins_get I1.hok ea
  obtain ⟨od, J, _⟩ := O.look
  obtain ⟨m0, hF⟩ := I1.fr
  refine PySem.W.owit_iter hF I1.ok.mod.kin J hi.it hi.fn ?_
  have hsp := hs s1.heap.objs.size
  have hl := F.len _ _ _ _ _ hsp
  have bnd := hb s1 [.ref a] I1.kIn (by simpa using hl)
  refine wpAny_call (codeAny_mono (F.run X.A X.stack s1 H1 ⟨[.ref a], []⟩ [.ref a] [.ref a] _ E hr I1.env0 (by simpa using bnd) (.cons rfl .nil) hsp) fun r s' hq => ?_)
  cases r with
  | error er => exact hx pins σ H1 s1 er s' I1 hq
  | ok fl =>
    cases fl with
    | ret u =>
      obtain ⟨v, H', I3, rv, p, it, rfl, hp, hne, hn, hsz, rfl⟩ := I1.after hq
      obtain rfl : u = Value.ref it := rv
      obtain ⟨es, ep, hdt, eo⟩ := itmO_get I3 (upd_same (H := upd H1 p (ViO d p)) (a := it) (o := ItmO d it o))
      show wpAny _ _ (specialOf _ _) _ _ _
      refine wpAny_specialOf (T := "dict_itemiterator") ⟨_, eo, rfl⟩ PySem.F.slot_dict_itemiterator_next.lookup ?_
      have hn' : upd H1 p (ViO d p) it = none := by rw [upd_ne hne]; exact hn
      have e1 : ItX.dropH (upd (upd H1 p (ViO d p)) it (ItmO d it o)) it = upd H1 p (ViO d p) := ItX.dropH_upd hn'
      have e2 : ItX.dropH (upd H1 p (ViO d p)) p = H1 := ItX.dropH_upd hp
      have I4 := ItX.inv_drop I3 (φ := fun h => ∃ es ep, o.data = .dict es ep ∧ IsItemIter h it d 0 es.size ep .none .none) upd_same
      have fp := ItX.inv_fp I3 (upd_same (H := upd H1 p (ViO d p)) (a := it) (o := ItmO d it o)) (Nat.le_trans I1.sz hsz)
      rw [e1] at I4 fp
      have I5 := ItX.inv_drop I4 (φ := fun h => h.get? p = some { cls := .type "dict_items", data := .fields #[.ref d] }) upd_same
      rw [e2] at I5
      have fp5 : FpOk X pins H1 it := ⟨hn, fp.2⟩
      obtain ⟨es', ep', hdt', raw, hsz', _, _⟩ := frz_ents I5 hd
      obtain ⟨rfl, rfl⟩ := dict_ep hdt hdt'
      have hf : ∀ b ∈ [it], FpOk X pins H1 b := fun b hb => by
        have e : b = it := by simpa using hb
        rw [e]
        exact fp5
      rw [hsz'] at eo
      rcases tk with ⟨x, p, rfl⟩ | ⟨elts, kk, p, rfl⟩
      · exact ⟨it, [it], _, ItiT d o kvs, H1, rfl, I5, turn_itemsT it hdt', .inl ⟨_, _, eo⟩, hf, q⟩
      · exact ⟨it, [it], _, ItiT d o kvs, H1, rfl, I5, turn_itemsU it hdt', ⟨_, _, eo⟩, hf, q⟩
    | next => exact False.elim hq
    | brk => exact False.elim hq
    | cont => exact False.elim hq
end
theorem walk_itemsT {d : Addr} {o : Obj} {kvs : List (List Key × V)} : Walk (ItiT d o kvs) kvs.length (fun H => H d = some (.frz o (.dT kvs)))
    (fun i H x H' => ∃ (T : Addr) (k : List Key) (v : V) (q : Addr), kvs[i]? = some (k, v) ∧ H q = some (.tup (k.map kV)) ∧ x = .ref T ∧ H T = none ∧ H' = upd H T (.tup [.ref q, v])) :=
  ⟨fun _ _ hi q => ⟨q, hi⟩, fun _ q => ⟨q, Nat.le_refl _⟩, fun _ _ _ _ _ _ y => y⟩
/-! ### a list or a tuple walked -/
def SeqR (K : PySem.W.Frag) (a : Addr) (H : Hp) (R : It → Hp → Prop) : Prop := ((∃ xs, SqL K H a xs) ∧ R (Itl K a) H) ∨ ((∃ xs, SqT K H a xs) ∧ R (Itt K a) H)
def iSeq (K : PySem.W.Frag) (tl : TE) : TI := fun σ H R => tl σ H fun x H1 => ∃ a, x = .ref a ∧ SeqR K a H1 R
theorem pi_seq {X : Cx} {tg l : Expr} {tl : TE} (hl : PE X l tl) : PI X tg l (iSeq X.K tl) := by
  refine ⟨fun pins s σ H R I h => ?_⟩
  refine thn (hl.run pins s σ H _ I h) fun v s1 ⟨x, H1, I1, r1, q1⟩ => ?_
  obtain ⟨a, e, q1⟩ := q1
  subst e
  cases r1
  rcases q1 with ⟨⟨xs, hq⟩, q⟩ | ⟨⟨xs, hq⟩, q⟩
  · obtain ⟨its, rv, p, hz⟩ := I1.list hq
    exact wpAny_pyIter_list p.isList (pi_one (tk := s1.toks) I1 _ (turn_list a _) ⟨_, Heap.get?_push_size _ rfl, rfl, rfl⟩ q)
  · obtain ⟨its, rv, p, hz⟩ := I1.tuple hq
    exact wpAny_pyIter_tuple (show s1.heap.IsTuple a its.toArray from p) (pi_one (tk := s1.toks) I1 _ (turn_tuple a _) ⟨_, Heap.get?_push_size _ rfl, rfl, rfl⟩ q)
/-- one of both -/
def SqA (K : PySem.W.Frag) (H : Hp) (a : Addr) (xs : List V) : Prop := SqL K H a xs ∨ SqT K H a xs
theorem sqL_keep {K : PySem.W.Frag} {H H' : Hp} {a : Addr} {xs : List V} (h : SqL K H a xs) (e : Ext [] H H') : SqL K H' a xs :=
  h.elim (fun h => .inl (h.elim (fun h => .inl (e.keep _ _ h (by simp))) fun ⟨o, h⟩ => .inr ⟨o, e.keep _ _ h (by simp)⟩)) fun h => .inr h
theorem sqT_keep {K : PySem.W.Frag} {H H' : Hp} {a : Addr} {xs : List V} (h : SqT K H a xs) (e : Ext [] H H') : SqT K H' a xs :=
  h.elim (fun h => .inl (h.elim (fun h => .inl (e.keep _ _ h (by simp))) fun ⟨o, h⟩ => .inr ⟨o, e.keep _ _ h (by simp)⟩)) fun h => .inr h
/-- a for over it -/
theorem seq_for {K : PySem.W.Frag} {a : Addr} {xs : List V} {R : It → Hp → Prop} {H0 H : Hp} (h : SqA K H0 a xs) (e : Ext [] H0 H) (q : ∀ J G, Walk J xs.length G (YAt xs) → (∀ H', Ext [] H0 H' → G H') → R J H) :
    SeqR K a H R := by
  rcases h with h | h
  · exact .inl ⟨⟨_, sqL_keep h e⟩, q _ _ walk_list fun H' e => sqL_keep h e⟩
  · exact .inr ⟨⟨_, sqT_keep h e⟩, q _ _ walk_tup fun H' e => sqT_keep h e⟩
theorem split_nth {α : Type} {l : List α} {i : Nat} {t : α} (h : l[i]? = some t) : l = l.take i ++ t :: l.drop (i + 1) := by
  obtain ⟨hi, e⟩ := List.getElem?_eq_some_iff.mp h
  have h1 := List.drop_eq_getElem_cons hi
  rw [e] at h1
  rw [← h1, List.take_append_drop]
/-! ### terms: an amount's value, what it is, a number's value -/
abbrev Tm := V × PyData × V
def tmOk (t : Tm) : Bool := amtB t.2.1 && isWhole t.2.2
def TmAt (K : PySem.W.Frag) (H : Hp) (x : V) (t : Tm) : Prop := ∃ p, x = .ref p ∧ H p = some (.tup [t.1, t.2.2]) ∧ Av H t.1 t.2.1 ∧ Ptv K H t.2.2
def amD : PyData → Am
  | .tuple [.str w, .int n] => (w, n.toNat)
  | _ => ("take", 0)
def intV : V → Int
  | .int i => i
  | _ => 0
def nmT (t : Tm) : Nm := (amD t.2.1, intV t.2.2)
theorem amD_wd {d : PyData} (h : amtB d = true) : wdO (amD d).1 := by
  unfold amtB at h
  split at h
  · rw [Bool.and_eq_true, Bool.or_eq_true] at h
    exact h.1.imp of_decide_eq_true of_decide_eq_true
  · cases h
theorem sumN_wd {ts : List Tm} (h : ∀ t ∈ ts, tmOk t = true) : ∀ q ∈ sumN (ts.map nmT), wdO q.1.1 := fun q hq => by
  obtain ⟨t', ht', e⟩ := List.mem_map.mp (mem_sumN.mp (List.mem_map.mpr ⟨q, hq, rfl⟩))
  obtain ⟨t, ht, rfl⟩ := List.mem_map.mp ht'
  rw [← e]
  exact amD_wd (Bool.and_eq_true_iff.mp (h t ht)).1
def spSummed (K : PySem.W.Frag) : Sp := fun vs H Q E => ∃ (l : Addr) (xs : List V) (ts : List Tm), vs = [.ref l] ∧ SqA K H l xs ∧ Paired (TmAt K H) xs ts ∧ ts.length ≤ 1000 ∧
  (∀ pre t post, ts = pre ++ t :: post → (∀ u ∈ pre, tmOk u = true) → amtB t.2.1 = false → Leaves K E (ga K "BadAmount") t.1 H) ∧
  (∀ pre t post, ts = pre ++ t :: post → (∀ u ∈ pre, tmOk u = true) → amtB t.2.1 = true → isWhole t.2.2 = false → Leaves K E (ga K "BadNumber") t.2.2 H) ∧
  ((∀ t ∈ ts, tmOk t = true) → ∀ r H', H r = none → Ext [] H H' → H' r = some (.dT (dN (tidyD (sumN (ts.map nmT))))) → Q (.ref r) H')
/-! ### o[i], o of a class with its own __getitem__ -/
end Tp
/-! De: two dicts with tuple keys and whole numbers compared -/
namespace Tp
open PySem PySem.Spec PyProof.Rows L2 He
section
variable {prog : Program} {w : World} {K : Type} [DecidableEq K] {knd : HeapKind prog w K} {A : Around} {E : Value → Shared → Prop} {s : Shared}
/-- a whole number as it stands -/
def numV : Value → Int
  | .int i _ => i
  | _ => 0
def isNumV (v : Value) : Prop := ∃ i t, v = .int i t
/-- the same number stands there under that key -/
def hitsH (ys : List (K × Addr × Value)) (x : K × Addr × Value) : Bool := match atKey ys x.1 with
  | some p => decide (numV x.2.2 = numV p.2)
  | none => false
theorem eq_nums {x y : Value} {Q : Bool → Shared → Prop} (hx : isNumV x) (hy : isNumV y) (h : Q (decide (numV x = numV y)) s) : wpAny (model prog w) A (eqBool x y) Q E s := by
  obtain ⟨i, t, rfl⟩ := hx
  obtain ⟨j, u, rfl⟩ := hy
  refine SeqAt.EqAt.int_int (A := A) (s := s) i t j u prog w _ _ ?_
  have e : (i == j) = decide (numV (.int i t) = numV (.int j u)) := by
    show (i == j) = decide (i = j)
    by_cases e : i = j
    · simp [e]
    · simp [e]
  rw [e]
  exact h
theorem pairs_same {nm : String} {a b : Addr} {xs ys : List (K × Addr × Value)} {Q : Bool → Shared → Prop} (hu : knd.room A) (ha : (a == sysModules) = false) (hb : (b == sysModules) = false)
    (da : s.heap.DictOfH knd a xs) (db : s.heap.DictOfH knd b ys) (nx : ∀ x ∈ xs, isNumV x.2.2) (ny : ∀ y ∈ ys, isNumV y.2.2) (h : Q (decide (xs.length = ys.length) && xs.all (hitsH ys)) s) :
    wpAny (model prog w) A (Builtin.Dict.samePairs nm a b) Q E s := by
  obtain ⟨oa, es, ep, hoa, _, hda, hea, isa, nda⟩ := da
  obtain ⟨ob, es', ep', hob, _, hdb, heb, isb, ndb⟩ := db
  have la : es.size = xs.length := size_of_entries hea
  have lb : es'.size = ys.length := size_of_entries heb
  unfold Builtin.Dict.samePairs Builtin.Dict.showsAll
  rw [ha, hb]
  refine wpAny_bind (wpAny_ite_split (fun e => absurd e Bool.false_ne_true) fun _ => wpAny_pure ?_)
  refine wpAny_bind (wpAny_ite_split (fun e => absurd e Bool.false_ne_true) fun _ => wpAny_pure ?_)
  refine wpAny_bind (wpAny_dictEntries hoa hda ?_)
  dsimp only
  refine wpAny_bind (wpAny_dictEntries hob hdb ?_)
  by_cases hsz : xs.length = ys.length
  case neg =>
    rw [decide_eq_false hsz, Bool.false_and] at h
    exact wpAny_ite_split (fun _ => wpAny_bind (wpAny_rule (wpAny_pure h))) fun e => absurd (by simpa [la, lb] using hsz) e
  case pos =>
    rw [decide_eq_true hsz, Bool.true_and] at h
    refine wpAny_ite_split (fun e => absurd e (by simp [la, lb, hsz])) fun _ => ?_
    refine wpAny_bind (wpAny_dictEpoch hoa hda (wpAny_bind ?_))
    rw [Std.Legacy.Range.forIn_eq_forIn_range']
    simp only [Std.Legacy.Range.size, Nat.sub_zero, Nat.add_sub_cancel, Nat.div_one]
    have turn : ∀ i, i < xs.length → ∃ k p v, xs[i]? = some (k, p, v) := fun i hi => ⟨xs[i].1, xs[i].2.1, xs[i].2.2, List.getElem?_eq_getElem hi⟩
    refine wpAny_forIn_list _ (fun rest q s' => s' = s ∧ q = (none, ()) ∧ ∃ i, rest = List.range' i (es.size - i) ∧ i ≤ es.size ∧ Q ((xs.drop i).all (hitsH ys)) s) _ ?_ ?_ _ _ ⟨rfl, rfl, 0, by simp, Nat.zero_le _, by rw [List.drop_zero]; exact h⟩
    · rintro x rest q s' ⟨rfl, rfl, i, hr, hi, hq⟩
      have hlt : i < es.size := by
        rcases Nat.lt_or_ge i es.size with z | z
        · exact z
        · rw [Nat.sub_eq_zero_of_le z] at hr
          simp at hr
      obtain ⟨rfl, hrest⟩ : x = i ∧ rest = List.range' (i + 1) (es.size - (i + 1)) := by
        rw [show es.size - i = (es.size - (i + 1)) + 1 by omega, List.range'_succ] at hr
        injection hr with h1 h2
        exact ⟨h1, h2⟩
      obtain ⟨k, p, v, hx⟩ := turn x (by omega)
      have hen : es[x]? = some ⟨knd.hash k, .ref p, v⟩ := by rw [entry_at hea x, hx]; rfl
      have hxm := List.mem_of_getElem? hx
      have hdrop : xs.drop x = (k, p, v) :: xs.drop (x + 1) := by
        obtain ⟨hlt', e⟩ := List.getElem?_eq_some_iff.mp hx
        rw [List.drop_eq_getElem_cons hlt', e]
      rw [hdrop, List.all_cons] at hq
      refine wpAny_bind (wpAny_dictEntries hoa hda ?_)
      rw [hen]
      refine wpAny_bind (wpAny_holding (wpAny_bind (wpAny_dictFind_heap hu (isa _ hxm) hob hdb heb isb ndb (fun hn => ?_) fun j pj hj => ?_)))
      · have e : hitsH ys (k, p, v) = false := by
          unfold hitsH
          rw [show atKey ys (k, p, v).1 = none from atKey_none_of_get hn]
        rw [e, Bool.false_and] at hq
        refine wpAny_pure (wpAny_ite_split (fun _ => wpAny_pure (wpAny_pure hq)) fun z => absurd rfl z)
      · have hej : es'[j]? = some ⟨knd.hash k, .ref pj.1, pj.2⟩ := by rw [entry_at heb j, hj]; rfl
        have e : hitsH ys (k, p, v) = decide (numV v = numV pj.2) := by
          unfold hitsH
          rw [show atKey ys (k, p, v).1 = some pj from atKey_of_get ndb hj]
        refine wpAny_bind (wpAny_dictEntries hob hdb ?_)
        rw [hej]
        refine wpAny_holding (eq_nums (nx _ hxm) (ny _ (List.mem_of_getElem? hj)) ?_)
        rw [e] at hq
        cases hd : decide (numV v = numV pj.2) with
        | false =>
          rw [hd, Bool.false_and] at hq
          exact wpAny_ite_split (fun _ => wpAny_pure (wpAny_pure hq)) fun z => absurd rfl z
        | true =>
          rw [hd, Bool.true_and] at hq
          refine wpAny_ite_split (fun z => absurd z (by decide)) fun _ => ?_
          refine wpAny_bind (wpAny_dictEpoch hoa hda ?_)
          refine wpAny_ite_split (fun z => absurd z (by simp)) fun _ => ?_
          exact wpAny_pure ⟨rfl, rfl, x + 1, hrest, hlt, hq⟩
    · rintro q s' ⟨rfl, rfl, i, hr, hi, hq⟩
      have hin : i = es.size := by
        rcases Nat.lt_or_ge i es.size with z | z
        · rw [show es.size - i = (es.size - (i + 1)) + 1 by omega, List.range'_succ] at hr
          exact nomatch hr
        · omega
      rw [hin, la, List.drop_length] at hq
      exact wpAny_pure hq
end
/-- two dicts of the same numbers -/
def eqN (ns ms : List Nm) : Bool := decide (ns.length = ms.length) && ns.all fun q => decide (valV (dN ms) (amK q.1) = some (.int q.2))
theorem dN_in : ∀ {ms : List Nm} {x : Am} {v : V}, valV (dN ms) (amK x) = some v → ∃ n ∈ ms, n.1 = x ∧ v = .int n.2
  | [], _, _, h => by cases h
  | n :: r, x, v, h => by
    by_cases e : n.1 = x
    · rw [show valV (dN (n :: r)) (amK x) = some (.int n.2) from valV_pos (p := (amK n.1, V.int n.2)) (by rw [e])] at h
      exact ⟨n, List.mem_cons_self, e, (Option.some.inj h).symm⟩
    · rw [show valV (dN (n :: r)) (amK x) = valV (dN r) (amK x) from valV_neg (p := (amK n.1, V.int n.2)) fun z => e (amK_inj z)] at h
      obtain ⟨m, hm, e2⟩ := dN_in h
      exact ⟨m, List.mem_cons_of_mem _ hm, e2⟩
theorem kt_hits {H : Hp} {ms : List Nm} {ys : List (List Key × Addr × Value)} (r : KT H (dN ms) ys) : ∀ {ns : List Nm} {xs : List (List Key × Addr × Value)}, KT H (dN ns) xs → xs.all (hitsH ys) = ns.all fun q => decide (valV (dN ms) (amK q.1) = some (.int q.2))
  | [], _, h => by
    cases h
    rfl
  | q :: ns, _, h => by
    cases h with
    | @cons _ x _ xs e t =>
      rw [List.all_cons, List.all_cons, kt_hits r t]
      congr 1
      obtain ⟨e1, e2, e3⟩ := e
      have e1' : amK q.1 = x.1 := e1
      obtain ⟨tk, e3⟩ : ∃ t, x.2.2 = .int q.2 t := e3
      have hv := r.val (amK q.1)
      unfold hitsH
      rw [← e1', e3]
      cases ha : atKey ys (amK q.1) with
      | none =>
        rw [ha] at hv
        cases hw : valV (dN ms) (amK q.1) with
        | none => simp
        | some v =>
          rw [hw] at hv
          exact (show False from hv).elim
      | some p =>
        rw [ha] at hv
        cases hw : valV (dN ms) (amK q.1) with
        | none =>
          rw [hw] at hv
          exact (show False from hv).elim
        | some v =>
          rw [hw] at hv
          obtain ⟨n, hn, _, rfl⟩ := dN_in hw
          obtain ⟨t2, hp⟩ : ∃ t, p.2 = .int n.2 t := hv
          show decide (numV (.int q.2 tk) = numV p.2) = decide (some (V.int n.2) = some (.int q.2))
          rw [hp]
          show decide (q.2 = n.2) = _
          by_cases e : q.2 = n.2
          · rw [e]; simp
          · rw [decide_eq_false e, decide_eq_false fun z => e (by injection z with z; injection z with z; exact z.symm)]
theorem kt_nums {H : Hp} : ∀ {ns : List Nm} {xs : List (List Key × Addr × Value)}, KT H (dN ns) xs → ∀ x ∈ xs, isNumV x.2.2
  | [], _, h => by
    cases h
    simp
  | q :: ns, _, h => by
    cases h with
    | cons e t =>
      intro x hx
      rcases List.mem_cons.mp hx with rfl | hx
      · obtain ⟨tk, e3⟩ : ∃ t, x.2.2 = .int q.2 t := e.2.2
        exact ⟨_, _, e3⟩
      · exact kt_nums t x hx
def rEqT : R2 := fun x y H Q => ∃ a b ns ms, x = .ref a ∧ y = .ref b ∧ H a = some (.dT (dN ns)) ∧ H b = some (.dT (dN ms)) ∧ Q (.bl (eqN ns ms)) H
theorem op_eqT {X : Cx} (hu : X.A.units + 1 < cLine) : OpR X (compareOp .Eq) rEqT := by
  intro pins s σ H x y v u Q I rx ry h
  obtain ⟨a, b, ns, ms, rfl, rfl, ea, eb, q⟩ := h
  obtain rfl : v = Value.ref a := rx
  obtain rfl : u = Value.ref b := ry
  obtain ⟨_, ya, xs, ra, da⟩ := dt_of I.hok ea
  obtain ⟨_, yb, ys, rb, db⟩ := dt_of I.hok eb
  refine wpAny_richCompare_same_room (op := .Eq) da.typeIs db.typeIs PySem.F.slot_dict_eq (wpAny_call_entry PySem.F.slot_dict_eq da.typeIs PySem.F.entry_dict_eq ?_ (PySem.F.args_dict_eq_2 _ _)) (by omega)
  show wpAny _ _ (Builtin.Dict.dictSlotArgs "__eq__" ⟨[.ref a, .ref b], []⟩ >>= _) _ _ s
  refine wpAny_bind ?_
  unfold Builtin.Dict.dictSlotArgs
  refine wpAny_bind (wpAny_notOrdered_dict da.typeIs ?_)
  show wpAny _ _ (pure (Value.ref a, Value.ref b)) _ _ s
  refine wpAny_pure (wpAny_bind (wpAny_isInstance (T := "dict") db.typeIs PySem.F.sub_dict_dict ?_))
  simp only [Bool.not_true, Bool.false_eq_true, if_false]
  refine wpAny_bind (wpAny_pure (wpAny_bind (wpAny_pure ?_)))
  have hl : decide (xs.length = ys.length) = decide (ns.length = ms.length) := by
    have h1 : (dN ns).length = xs.length := Paired.length ra
    have h2 : (dN ms).length = ys.length := Paired.length rb
    rw [dA_len, List.length_map] at h1 h2
    rw [h1, h2]
  refine wpAny_bind (pairs_same (knd := tupleKind (mixKind X.prog X.w)) (tupleKind_room_in1 hu) ya yb da db (kt_nums ra) (kt_nums rb) ?_)
  rw [hl, kt_hits rb ra]
  refine wpAny_pure ⟨_, rfl, fun x => (nomatch x), ?_⟩
  refine ⟨.bl (eqN ns ms), H, I, ?_, q⟩
  show Value.bool _ = Value.bool _
  unfold eqN
  simp
theorem nodup_of_map {α β : Type} {f : α → β} : ∀ {l : List α}, (l.map f).Nodup → l.Nodup
  | [], _ => List.nodup_nil
  | x :: r, h => by
    have h' := List.nodup_cons.mp (show (f x :: r.map f).Nodup from h)
    exact List.nodup_cons.mpr ⟨fun hx => h'.1 (List.mem_map.mpr ⟨x, hx, rfl⟩), nodup_of_map h'.2⟩
theorem eqN_refl {ns : List Nm} (nd : (ns.map (·.1)).Nodup) : eqN ns ns = true := by
  unfold eqN
  rw [decide_eq_true rfl, Bool.true_and, List.all_eq_true]
  exact fun q hq => decide_eq_true (dN_at nd hq)
end Tp
/-! Fe: forms as objects -/
namespace Tp
open PySem PySem.Spec PyProof.Rows L2 He
section
variable {X : Cx} {CX : CXT} {k : Nat} {f C : Addr} {fd : FuncData} {ps : List Str} {sp : Sp} {E : L2.St → XK} {x : Str} {p pos : Pos} {e : Expr} {es : List Expr} {t : TA} {dvs : List V} {ds : List Value}
end
/-! ### o == x, o of a class with its own __eq__ -/
structure OwnEq (K : PySem.W.Frag) (C g : Addr) : Prop where
  eq : PySem.W.findIn K (.ref C) "__eq__" = some (some (.ref g))
  fn : PySem.W.isFn K (.ref g) = true
  nl : PySem.W.notFirst K C (.type "list") = true
def rEqOwn (C : Addr) (sp : Sp) (E : XK) : R2 := fun x y H Q => ∃ a dx fs b, x = .ref a ∧ y = .ref b ∧ H a = some (.ins C dx fs) ∧ ((∃ dy gs, H b = some (.ins C dy gs)) ∨ ∃ xs, H b = some (.lst xs)) ∧ sp [x, y] H (fun v H' => ∃ r, v = .bl r ∧ Q (.bl r) H') E
theorem op_eqOwn {X : Cx} {CX : CXT} {k : Nat} {C g : Addr} {fd : FuncData} {ps : List Str} {sp : Sp} {E : XK} (oe : OwnEq X.K C g) (F : FnOk X.prog X.w X.K X.mg X.base CX k g fd ps sp) (hr : Room k X.A) (hu : X.A.units < cLine) (hb : Binds X.K fd ps []) (hx : Passes CX X E) : OpR X (compareOp .Eq) (rEqOwn C sp E) := by
  intro pins s σ H x y v u Q I rx ry h
  obtain ⟨a, dx, fs, b, rfl, rfl, ea, hb', hs⟩ := h
  obtain rfl : v = Value.ref a := rx
  obtain rfl : u = Value.ref b := ry
  obtain ⟨mA, O, _, _, _, _⟩ := ins_get I.hok ea
  obtain ⟨od, J, _⟩ := O.look
  obtain ⟨m0, hF⟩ := I.fr
  have hl := F.len _ _ _ _ hs
  have bnd := hb s [.ref a, .ref b] I.kIn (by simpa using hl)
  have go : wpAny (model X.prog X.w) X.A (call (.ref g) [.ref a, .ref b]) (PySem.W.CmpBack (EP X pins σ Q)) X.xe s := by
    refine wpAny_call (codeAny_mono (F.run X.A X.stack s H ⟨[.ref a, .ref b], []⟩ [.ref a, .ref b] [.ref a, .ref b] _ E hr I.env0 (by simpa using bnd) (.cons rfl (.cons rfl .nil)) hs) fun r s' hq => ?_)
    cases r with
    | error er => exact hx pins σ H s er s' I hq
    | ok fl =>
      cases fl with
      | ret w' =>
        obtain ⟨v, H', I3, rv, b, rfl, q⟩ := I.after hq
        obtain rfl : w' = Value.bool b := rv
        exact ⟨.bl b, H', I3, rfl, q⟩
      | next => exact False.elim hq
      | brk => exact False.elim hq
      | cont => exact False.elim hq
  show wpAny (model X.prog X.w) X.A (richCompare .Eq (.ref a) (.ref b)) (EP X pins σ Q) X.xe s
  rcases hb' with ⟨dy, gs, eb⟩ | ⟨xs, eb⟩
  · obtain ⟨mB, J', _⟩ := ins_get I.hok eb
    obtain ⟨od', J', _⟩ := J'.look
    exact PySem.W.cmp_K (op := .Eq) (tb := .ref C) hu hF I.ok.mod.kin J J'.type (by simp [PySem.W.notFirst]) oe.eq oe.fn go
  · obtain ⟨_, its, n, _, h1⟩ := (show ObjOk X.prog X.w H s.heap b (.lst xs) from I.hok b _ eb)
    exact PySem.W.cmp_K (op := .Eq) (tb := .type "list") hu hF I.ok.mod.kin J (fun A Q E s k q => wpAny_typeOf_ref (k _ _ h1) q) oe.nl oe.eq oe.fn go
/-! ### a form -/
structure FmAt (C : Addr) (H : Hp) (a dx d : Addr) (ns : List Nm) : Prop where
  ob : H a = some (.ins C dx [("_numbers", .ref d)])
  nm : H d = some (.dT (dN ns))
  nd : (ns.map (·.1)).Nodup
  wd : ∀ q ∈ ns, wdO q.1.1
  nz : ∀ q ∈ ns, q.2 ≠ 0
section
variable {C : Addr} {H H' : Hp} {a dx d : Addr} {ns : List Nm}
theorem FmAt.ext {ms : List Addr} (F : FmAt C H a dx d ns) (e : Ext ms H H') (h1 : a ∉ ms) (h2 : d ∉ ms) : FmAt C H' a dx d ns := ⟨e.keep _ _ F.ob h1, e.keep _ _ F.nm h2, F.nd, F.wd, F.nz⟩
theorem FmAt.ne (F : FmAt C H a dx d ns) : a ≠ d := fun e => by
  have h1 := F.ob
  rw [e, F.nm] at h1
  cases h1
end
def spFmInit (K : PySem.W.Frag) (C : Addr) : Sp := fun vs H Q E => ∃ (a dx l : Addr) (xs : List V) (ts : List Tm), vs = [.ref a, .ref l] ∧ H a = some (.ins C dx []) ∧ SqA K H l xs ∧ Paired (TmAt K H) xs ts ∧ ts.length ≤ 1000 ∧
  (∀ pre t post, ts = pre ++ t :: post → (∀ u ∈ pre, tmOk u = true) → amtB t.2.1 = false → Leaves K E (ga K "BadAmount") t.1 H) ∧
  (∀ pre t post, ts = pre ++ t :: post → (∀ u ∈ pre, tmOk u = true) → amtB t.2.1 = true → isWhole t.2.2 = false → Leaves K E (ga K "BadNumber") t.2.2 H) ∧
  ((∀ t ∈ ts, tmOk t = true) → ∀ d H', H d = none → Ext [a] H H' → FmAt C H' a dx d (tidyD (sumN (ts.map nmT))) → Q .non H')
def spFmLen (C : Addr) : Sp := fun vs H Q _ => ∃ a dx d ns, vs = [.ref a] ∧ FmAt C H a dx d ns ∧ Q (.int (ns.length : Int)) H
def spFmIter (C : Addr) : Nat → Sp := fun n vs H Q _ => ∃ a dx d o kvs, vs = [.ref a] ∧ H a = some (.ins C dx [("_numbers", .ref d)]) ∧ H d = some (.frz o (.dT kvs)) ∧
  ∀ p it, H p = none → it ≠ p → H it = none → n ≤ it → Q (.ref it) (upd (upd H p (ViO d p)) it (ItmO d it o))
def spFmEq (C : Addr) : Sp := fun vs H Q _ => ∃ a b dx d ns, vs = [.ref a, .ref b] ∧ FmAt C H a dx d ns ∧ ((∃ dy e ms, FmAt C H b dy e ms ∧ Q (.bl (eqN ns ms)) H) ∨ ∃ xs, H b = some (.lst xs) ∧ Q (.bl false) H)
theorem nodup_tidyD {ns : List Nm} (h : (ns.map (·.1)).Nodup) : ((tidyD ns).map (·.1)).Nodup := List.Nodup.sublist (List.filter_sublist.map _) (nodup_tidy h)
/-! ### lists of terms -/
def tmR (H : Hp) (u : Addr) (q : Nm) : Prop := ∃ a, H u = some (.tup [.ref a, .int q.2]) ∧ isAmt H a q.1
def dTm (q : Nm) : PyData := .tuple [dAmt q.1, .int q.2]
theorem tmR.ext {ms : List Addr} {H H' : Hp} {u : Addr} {q : Nm} (h : tmR H u q) (e : Ext ms H H') : tmR H' u q := by
  obtain ⟨a, h1, h2⟩ := h
  exact ⟨a, e.tups _ _ h1, e.tups _ _ h2⟩
theorem tmR.im {H : Hp} {u : Addr} {q : Nm} (h : tmR H u q) : Im H (.ref u) (dTm q) := by
  obtain ⟨a, h1, h2⟩ := h
  exact .tup h1 (.cons h2.im (.cons (.int _) .nil))
theorem okD_tm {q : Nm} (h : wdO q.1.1) : okD (dTm q) := by
  have h1 := okD_amt (okS_wd h)
  refine ⟨?_, ?_⟩
  · have h2 := h1.1
    show PyData.canLay0 (.tuple [dAmt q.1, .int q.2]) = true
    simp [PyData.canLay0, PyData.canLayAll0]
    exact okS_wd h
  · show PyData.depth (.tuple [.tuple [.str q.1.1, .int (q.1.2 : Int)], .int q.2]) ≤ 8
    simp [PyData.depth, PyData.depthAll]
def TmsAt (H : Hp) (l : Addr) (qs : List Nm) : Prop := ∃ us : List Addr, H l = some (.lst (us.map V.ref)) ∧ Paired (tmR H) us qs
theorem TmsAt.ext {ms : List Addr} {H H' : Hp} {l : Addr} {qs : List Nm} (h : TmsAt H l qs) (e : Ext ms H H') (hl : l ∉ ms) : TmsAt H' l qs := by
  obtain ⟨us, h1, h2⟩ := h
  exact ⟨us, e.keep _ _ h1 hl, paired_mono (fun _ _ h => h.ext e) h2⟩
theorem tms_im {H : Hp} : ∀ {us : List Addr} {qs : List Nm}, Paired (tmR H) us qs → ImAll H (us.map V.ref) (qs.map dTm)
  | _, _, .nil => .nil
  | _, _, .cons x r => .cons x.im (tms_im r)
theorem TmsAt.dp {K : PySem.W.Frag} {H : Hp} {l : Addr} {qs : List Nm} (h : TmsAt H l qs) : Dp K H (.ref l) (.list (qs.map dTm)) := by
  obtain ⟨us, h1, h2⟩ := h
  exact .lst (SqL.of h1) (tms_im h2).dp
theorem sh_tms {qs : List Nm} (h : ∀ q ∈ qs, wdO q.1.1) : SeqAt.shaped (.list (qs.map dTm)) = true := shapedL (n := 8) (by
  intro x hx
  obtain ⟨q, hq, rfl⟩ := List.mem_map.mp hx
  exact okD_tm (h q hq)) (by decide)
theorem amt_av {H : Hp} {u : Addr} {q : Am} (h : isAmt H u q) (w : wdO q.1) : Av H (.ref u) (dAmt q) := by
  refine ⟨h.im, okD_amt (okS_wd w), True.intro, fun a xs e hx y hy => ?_⟩
  injection e with e
  subst e
  rw [show H u = some (.tup [.str q.1, .int (q.2 : Int)]) from h] at hx
  injection hx with hx
  injection hx with hx
  subst hx
  rcases List.mem_cons.mp hy with rfl | hy
  · show q.1.length ≤ 1000
    rcases w with w | w <;> rw [w] <;> decide +kernel
  · rw [List.mem_singleton.mp hy]
    exact True.intro
theorem amtB_amt {q : Am} (w : wdO q.1) : amtB (dAmt q) = true := by
  show ((decide (q.1 = "take") || decide (q.1 = "leave")) && decide ((0 : Int) ≤ (q.2 : Int))) = true
  rw [decide_eq_true (show (0 : Int) ≤ (q.2 : Int) by omega), Bool.and_true, Bool.or_eq_true]
  exact w.imp decide_eq_true decide_eq_true
theorem tms_tm {K : PySem.W.Frag} {H : Hp} : ∀ {us : List Addr} {qs : List Nm}, Paired (tmR H) us qs → (∀ q ∈ qs, wdO q.1.1) → ∃ ts : List Tm, Paired (TmAt K H) (us.map V.ref) ts ∧ ts.map nmT = qs ∧ ∀ t ∈ ts, tmOk t = true
  | _, _, .nil, _ => ⟨[], .nil, rfl, by simp⟩
  | _, _, .cons (b := q) x r, w => by
    obtain ⟨ts, h1, h2, h3⟩ := tms_tm (K := K) r fun q hq => w q (List.mem_cons_of_mem _ hq)
    obtain ⟨a, e1, e2⟩ := x
    have wq := w q List.mem_cons_self
    refine ⟨(.ref a, dAmt q.1, .int q.2) :: ts, .cons ⟨_, rfl, e1, amt_av e2 wq, .int _⟩ h1, ?_, fun t ht => ?_⟩
    · rw [List.map_cons, h2]
      rfl
    · rcases List.mem_cons.mp ht with rfl | ht
      · show (amtB (dAmt q.1) && true) = true
        rw [amtB_amt wq]
        rfl
      · exact h3 t ht
theorem pair_snoc {α β : Type} {F : α → β → Prop} {t : α} {q : β} (h : F t q) : ∀ {as : List α} {l : List β}, Paired F as l → Paired F (as ++ [t]) (l ++ [q])
  | _, _, .nil => .cons h .nil
  | _, _, .cons x r => .cons x (pair_snoc h r)
/-! ### rows sorted by (number, whether a leave) -/
def lamD (x : Am) : PyData := .tuple [.int (x.2 : Int), .bool (decide (x.1 = "leave"))]
def lamV (H : Hp) : V → PyData
  | .ref u => (match H u with
    | some (.tup [.ref a, .int _]) => (match H a with
      | some (.tup [.str w, .int n]) => .tuple [.int n, .bool (decide (w = "leave"))]
      | _ => .none)
    | _ => .none)
  | _ => .none
theorem lamV_tm {H : Hp} {u : Addr} {q : Nm} (h : tmR H u q) : lamV H (.ref u) = lamD q.1 := by
  obtain ⟨a, h1, h2⟩ := h
  show (match H u with
    | some (.tup [.ref a, .int _]) => (match H a with
      | some (.tup [.str w, .int n]) => PyData.tuple [.int n, .bool (decide (w = "leave"))]
      | _ => .none)
    | _ => .none) = _
  rw [h1]
  show (match H a with
      | some (.tup [.str w, .int n]) => PyData.tuple [.int n, .bool (decide (w = "leave"))]
      | _ => .none) = _
  rw [show H a = some (.tup [.str q.1.1, .int (q.1.2 : Int)]) from h2]
  rfl
theorem wPl_bool {x y : Str} (hx : wdO x) (hy : wdO y) : (PySem.W.dataLt (.bool (decide (x = "leave"))) (.bool (decide (y = "leave")))) = decide (wPl x < wPl y) := by
  rw [PySem.W.dataLt_bool]
  rcases hx with rfl | rfl <;> rcases hy with rfl | rfl <;> decide +kernel
theorem wPl_eq {x y : Str} (hx : wdO x) (hy : wdO y) : (decide (x = "leave") = decide (y = "leave")) ↔ wPl x = wPl y := by
  rcases hx with rfl | rfl <;> rcases hy with rfl | rfl <;> decide +kernel
theorem le_lam {H : Hp} {u v : Addr} {p q : Nm} (hu : tmR H u p) (hv : tmR H v q) (wp : wdO p.1.1) (wq : wdO q.1.1) : PySem.W.dataLe false (lamV H) (.ref u) (.ref v) = leN p q := by
  rw [PySem.W.dataLe_eq]
  show (!PySem.W.dataLt (lamV H (.ref v)) (lamV H (.ref u))) = amLe p.1 q.1
  rw [lamV_tm hu, lamV_tm hv]
  show (!PySem.W.dataLt (.tuple [.int (q.1.2 : Int), .bool (decide (q.1.1 = "leave"))]) (.tuple [.int (p.1.2 : Int), .bool (decide (p.1.1 = "leave"))])) = _
  rw [PySem.W.dataLt_pair (by simp [PySem.W.alike]) (by simp [PySem.W.alike]), PySem.W.dataLt_int, wPl_bool wq wp]
  simp only [PyData.eqv, beq_iff_eq]
  have hb := wPl_eq wq wp
  by_cases h1 : (q.1.2 : Int) = (p.1.2 : Int)
  · rw [if_pos h1]
    by_cases h2 : decide (q.1.1 = "leave") = decide (p.1.1 = "leave")
    · rw [if_pos h2]
      have h3 := hb.mp h2
      have e : amLe p.1 q.1 = true := decide_eq_true (by omega)
      rw [e]
      rfl
    · rw [if_neg h2]
      have h3 : wPl q.1.1 ≠ wPl p.1.1 := fun z => h2 (hb.mpr z)
      by_cases h4 : wPl q.1.1 < wPl p.1.1
      · have e : amLe p.1 q.1 = false := decide_eq_false (by omega)
        rw [decide_eq_true h4, e]
        rfl
      · have e : amLe p.1 q.1 = true := decide_eq_true (by omega)
        rw [decide_eq_false h4, e]
        rfl
  · rw [if_neg h1]
    by_cases h4 : (q.1.2 : Int) < (p.1.2 : Int)
    · have e : amLe p.1 q.1 = false := decide_eq_false (by omega)
      rw [decide_eq_true h4, e]
      rfl
    · have e : amLe p.1 q.1 = true := decide_eq_true (by omega)
      rw [decide_eq_false h4, e]
      rfl
theorem sort_tms {H : Hp} {us : List Addr} {qs : List Nm} (h : Paired (tmR H) us qs) (w : ∀ q ∈ qs, wdO q.1.1) :
    ∃ us' : List Addr, (us.map V.ref).mergeSort (PySem.W.dataLe false (lamV H)) = us'.map V.ref ∧ Paired (tmR H) us' (qs.mergeSort leN) := by
  obtain ⟨zs, rfl, rfl, hz⟩ := paired_zip h
  have hle : ∀ a ∈ zs, ∀ b ∈ zs, leN a.2 b.2 = PySem.W.dataLe false (lamV H) (.ref a.1) (.ref b.1) := fun a ha b hb =>
    (le_lam (hz a ha) (hz b hb) (w _ (List.mem_map.mpr ⟨a, ha, rfl⟩)) (w _ (List.mem_map.mpr ⟨b, hb, rfl⟩))).symm
  refine ⟨(zs.mergeSort fun a b => leN a.2 b.2).map (·.1), ?_, ?_⟩
  · rw [List.map_map, List.map_map]
    exact (List.map_mergeSort (f := V.ref ∘ fun z : Addr × Nm => z.1) hle).symm
  · rw [← List.map_mergeSort (r := fun a b : Addr × Nm => leN a.2 b.2) (f := fun z : Addr × Nm => z.2) (fun _ _ _ _ => rfl)]
    exact zip_paired fun z hz' => hz z (List.mem_mergeSort.mp hz')
theorem leN_trans (a b c : Nm) (h1 : leN a b = true) (h2 : leN b c = true) : leN a c = true := by
  have e1 := of_decide_eq_true h1
  have e2 := of_decide_eq_true h2
  exact decide_eq_true (by omega)
theorem leN_total (a b : Nm) : (leN a b || leN b a) = true := by
  rw [Bool.or_eq_true]
  by_cases h : a.1.2 < b.1.2 ∨ (a.1.2 = b.1.2 ∧ wPl a.1.1 ≤ wPl b.1.1)
  · exact .inl (decide_eq_true h)
  · exact .inr (decide_eq_true (by omega))
theorem leN_anti {ns : List Nm} (nd : (ns.map (·.1)).Nodup) (w : ∀ q ∈ ns, wdO q.1.1) {a b : Nm} (ha : a ∈ ns) (hb : b ∈ ns) (h1 : leN a b = true) (h2 : leN b a = true) : a = b := by
  have e1 := of_decide_eq_true h1
  have e2 := of_decide_eq_true h2
  have e3 : a.1.2 = b.1.2 := by omega
  have e4 : wPl a.1.1 = wPl b.1.1 := by omega
  have e5 : a.1.1 = b.1.1 := by
    have wa := w a ha
    have wb := w b hb
    generalize a.1.1 = x at e4 wa ⊢
    generalize b.1.1 = y at e4 wb ⊢
    rcases wa with rfl | rfl <;> rcases wb with rfl | rfl
    · rfl
    · exact absurd e4 (by decide +kernel)
    · exact absurd e4 (by decide +kernel)
    · rfl
  have e6 : a.1 = b.1 := Prod.ext e5 e3
  have n1 := numN_at nd ha
  have n2 := numN_at nd hb
  rw [e6, n2] at n1
  exact Prod.ext e6 n1.symm
theorem tidy_sorted (ns : List Nm) : (tidyD ns).Pairwise fun a b => leN a b = true := List.Pairwise.filter _ (List.pairwise_mergeSort leN_trans leN_total ns)
/-- what is in order, with the same members, is the same -/
theorem sorted_same {as bs : List Nm} (nd : (as.map (·.1)).Nodup) (bd : (bs.map (·.1)).Nodup) (w : ∀ q ∈ as, wdO q.1.1) (sa : as.Pairwise fun a b => leN a b = true) (sb : bs.Pairwise fun a b => leN a b = true) (h : ∀ q, q ∈ as ↔ q ∈ bs) : as = bs := by
  refine List.Perm.eq_of_pairwise (le := fun a b => leN a b = true) (fun a b ha hb h1 h2 => leN_anti nd w ha ((h b).mpr hb) h1 h2) sa sb ?_
  exact (List.perm_ext_iff_of_nodup (nodup_of_map nd) (nodup_of_map bd)).mpr h
theorem filter_sort {ns : List Nm} (nd : (ns.map (·.1)).Nodup) (w : ∀ q ∈ ns, wdO q.1.1) : ((ns.filter fun q => decide (q.2 ≠ 0)).mergeSort leN) = tidyD ns := by
  have ndF : ((ns.filter fun q => decide (q.2 ≠ 0)).map (·.1)).Nodup := List.Nodup.sublist (List.filter_sublist.map _) nd
  refine sorted_same (nodup_tidy ndF) (nodup_tidyD nd) (fun q hq => w q (List.mem_filter.mp (List.mem_mergeSort.mp hq)).1) (List.pairwise_mergeSort leN_trans leN_total _) (tidy_sorted ns) fun q => ?_
  rw [List.mem_mergeSort, tidy_mem, List.mem_filter, decide_eq_true_eq]
theorem lam_all {H : Hp} {us : List Addr} {qs : List Nm} (h : Paired (tmR H) us qs) : ∀ v ∈ us.map V.ref, ∃ q : Nm, (∃ u, v = .ref u ∧ tmR H u q) ∧ q ∈ qs ∧ lamV H v = lamD q.1 := by
  intro v hv
  obtain ⟨zs, rfl, rfl, hz⟩ := paired_zip h
  rw [List.map_map] at hv
  obtain ⟨z, hm, rfl⟩ := List.mem_map.mp hv
  exact ⟨z.2, ⟨z.1, rfl, hz z hm⟩, List.mem_map.mpr ⟨z, hm, rfl⟩, lamV_tm (hz z hm)⟩
theorem lam_alike {H : Hp} {us : List Addr} {qs : List Nm} (h : Paired (tmR H) us qs) : PySem.W.AllAlike ((us.map V.ref).map (lamV H)) := by
  intro d hd e he
  obtain ⟨v, hv, rfl⟩ := List.mem_map.mp hd
  obtain ⟨w, hw, rfl⟩ := List.mem_map.mp he
  obtain ⟨q, _, _, e1⟩ := lam_all h v hv
  obtain ⟨r, _, _, e2⟩ := lam_all h w hw
  rw [e1, e2]
  simp [lamD, PySem.W.alike, PySem.W.alikeAll]
theorem lam_sortable {H : Hp} {us : List Addr} {qs : List Nm} (h : Paired (tmR H) us qs) : PySem.W.Sortable ((us.map V.ref).map (lamV H)) := by
  refine .inl fun d hd => ?_
  obtain ⟨v, hv, rfl⟩ := List.mem_map.mp hd
  obtain ⟨q, _, _, e1⟩ := lam_all h v hv
  exact ⟨_, _, e1⟩
theorem lamD_depth (x : Am) : (lamD x).depth ≤ 50 := by
  simp [lamD, PyData.depth, PyData.depthAll]
/-! ### data written in a text -/
def Mks (H0 : Hp) (te : TE) (σ : L2.St) (d : PyData) : Prop := ∀ (H : Hp) (Q : VK), Ext [] H0 H → (∀ v H', Ext [] H H' → Av H' v d → Q v H') → te σ H Q
def MksA (H0 : Hp) (ta : TA) (σ : L2.St) (ds : List PyData) : Prop := ∀ (H : Hp) (Q : List V → Hp → Prop), Ext [] H0 H → (∀ vs H', Ext [] H H' → Paired (Av H') vs ds → Q vs H') → ta σ H Q
section
variable {H0 : Hp} {te : TE} {ta : TA} {σ : L2.St} {d : PyData} {ds : List PyData}
theorem av_flat {H : Hp} {v : V} {d : PyData} (h : Im H v d) (o : okD d) (s : shortV v) (n : ∀ u, v ≠ .ref u) : Av H v d := ⟨h, o, s, fun u _ e => (n u e).elim⟩
theorem av_non {H : Hp} : Av H .non .none := av_flat .non okD.none True.intro (fun _ h => nomatch h)
theorem av_bl {H : Hp} (b : Bool) : Av H (.bl b) (.bool b) := av_flat (.bl b) ⟨by simp [PyData.canLay0], by simp [PyData.depth]⟩ True.intro (fun _ h => nomatch h)
theorem av_int {H : Hp} (i : Int) : Av H (.int i) (.int i) := av_flat (.int i) ⟨by simp [PyData.canLay0], by simp [PyData.depth]⟩ True.intro (fun _ h => nomatch h)
theorem av_str {H : Hp} {z : Str} (h : okS z) (l : z.length ≤ 1000) : Av H (.str z) (.str z) := av_flat (.str z) (okD.str h) l (fun _ h => nomatch h)
theorem mk_of {v : V} (h : ∀ H, Val te σ H v) (a : ∀ H, Ext [] H0 H → Av H v d) : Mks H0 te σ d := fun H Q e0 q => h H _ (q v H Ext.refl (a H e0))
theorem mk_c {v : V} (a : ∀ H, Av H v d) : Mks H0 (tC v) σ d := mk_of (fun _ => val_c) fun H _ => a H
theorem mka_nil : MksA H0 tNil σ [] := fun H Q _ q => q [] H Ext.refl .nil
theorem mka_cons (h : Mks H0 te σ d) (r : MksA H0 ta σ ds) : MksA H0 (tCons te ta) σ (d :: ds) := fun H Q e0 q => h H _ e0 fun v H1 e1 a => r H1 _ (e0.trans e1) fun vs H2 e2 as => q (v :: vs) H2 (e1.trans e2) (.cons (a.ext e2) as)
theorem pav_len {H : Hp} : ∀ {vs : List V} {ds : List PyData}, Paired (Av H) vs ds → vs.length = ds.length
  | _, _, .nil => rfl
  | _, _, .cons _ r => congrArg (· + 1) (pav_len r)
theorem pav_im {H : Hp} : ∀ {vs : List V} {ds : List PyData}, Paired (Av H) vs ds → ImAll H vs ds
  | _, _, .nil => .nil
  | _, _, .cons x r => .cons x.1 (pav_im r)
theorem pav_short {H : Hp} : ∀ {vs : List V} {ds : List PyData}, Paired (Av H) vs ds → ∀ v ∈ vs, shortV v
  | _, _, .nil, _, h => by cases h
  | _, _, .cons x r, v, h => by
    rcases List.mem_cons.mp h with rfl | h
    · exact x.2.2.1
    · exact pav_short r v h
theorem pav_ext {H H' : Hp} (e : Ext [] H H') {vs : List V} {ds : List PyData} (h : Paired (Av H) vs ds) : Paired (Av H') vs ds := paired_mono (fun _ _ a => a.ext e) h
theorem av_tup {H : Hp} {p : Addr} {vs : List V} {ds : List PyData} (h : Paired (Av H) vs ds) (hp : H p = some (.tup vs)) (o : okD (.tuple ds)) : Av H (.ref p) (.tuple ds) :=
  ⟨.tup hp (pav_im h), o, True.intro, fun u xs e hx x hm => by
    injection e with e
    subst e
    rw [hp] at hx
    injection hx with hx
    injection hx with hx
    subst hx
    exact pav_short h x hm⟩
theorem mk_tup (h : MksA H0 ta σ ds) (l : ds.length ≤ 20) (o : okD (.tuple ds)) : Mks H0 (tTup ta) σ (.tuple ds) := fun H Q e0 q => h H _ e0 fun vs H1 e1 as => ⟨by
    rw [pav_len as]
    exact Nat.le_trans l (by decide), fun p hp => by
    have e2 : Ext [] H1 (upd H1 p (.tup vs)) := Ext.new hp
    exact q _ _ (e1.trans e2) (av_tup (pav_ext e2 as) upd_same o)⟩
theorem Av.ptv {K : PySem.W.Frag} {H : Hp} {v : V} {d : PyData} (h : Av H v d) : Ptv K H v := by
  obtain ⟨h1, _, h3, _⟩ := h
  cases h1 with
  | non => exact .non
  | bl b => exact .bl b
  | int i => exact .int i
  | str x => exact .str h3
  | tup e _ => exact .tup (.inl (.inl e))
/-- a term written in a text: a pair of an amount and a number, both as data -/
abbrev TmD := PyData × PyData
def TmDAt (H : Hp) (x : V) (t : TmD) : Prop := ∃ (p : Addr) (a b : V), x = .ref p ∧ H p = some (.tup [a, b]) ∧ Av H a t.1 ∧ Av H b t.2
theorem TmDAt.ext {H H' : Hp} {x : V} {t : TmD} (h : TmDAt H x t) (e : Ext [] H H') : TmDAt H' x t := by
  obtain ⟨p, a, b, h1, h2, h3, h4⟩ := h
  exact ⟨p, a, b, h1, e.tups _ _ h2, h3.ext e, h4.ext e⟩
end
theorem pair_app {α β : Type} {F : α → β → Prop} {bs : List α} {ms : List β} (h : Paired F bs ms) : ∀ {as : List α} {l : List β}, Paired F as l → Paired F (as ++ bs) (l ++ ms)
  | _, _, .nil => h
  | _, _, .cons x r => .cons x (pair_app h r)
end Tp
/-! Fp: facts of the numbers of forms -/
namespace Tp
open PySem PySem.Spec PyProof.Rows L2 He
theorem num_mem {ns : List Nm} (nd : (ns.map (·.1)).Nodup) {q : Nm} (hz : q.2 ≠ 0) : q ∈ ns ↔ numN ns q.1 = q.2 := by
  constructor
  · exact fun h => numN_at nd h
  · intro h
    by_cases hk : q.1 ∈ ns.map (·.1)
    · obtain ⟨r, hr, e⟩ := List.mem_map.mp hk
      have h2 := numN_at nd hr
      rw [e, h] at h2
      rw [show q = r from Prod.ext e.symm h2]
      exact hr
    · rw [numN_no hk] at h
      exact absurd h.symm hz
theorem tidy_same {ns ms : List Nm} (nd : (ns.map (·.1)).Nodup) (md : (ms.map (·.1)).Nodup) (w : ∀ q ∈ ns, wdO q.1.1) (h : ∀ x, numN ns x = numN ms x) : tidyD ns = tidyD ms := by
  refine sorted_same (nodup_tidyD nd) (nodup_tidyD md) (fun q hq => w q (tidy_mem.mp hq).1) (tidy_sorted ns) (tidy_sorted ms) fun q => ?_
  rw [tidy_mem, tidy_mem]
  constructor
  · rintro ⟨h1, h2⟩
    exact ⟨(num_mem md h2).mpr (by rw [← h]; exact (num_mem nd h2).mp h1), h2⟩
  · rintro ⟨h1, h2⟩
    exact ⟨(num_mem nd h2).mpr (by rw [h]; exact (num_mem md h2).mp h1), h2⟩
theorem numN_tidy {ns : List Nm} (nd : (ns.map (·.1)).Nodup) (x : Am) : numN (tidyD ns) x = numN ns x := by
  by_cases h : numN ns x = 0
  · by_cases h2 : numN (tidyD ns) x = 0
    · rw [h, h2]
    · have h3 : ((x, numN (tidyD ns) x) : Nm) ∈ tidyD ns := (num_mem (nodup_tidyD nd) h2).mpr rfl
      have h4 := (num_mem nd (q := (x, numN (tidyD ns) x)) h2).mp (tidy_mem.mp h3).1
      exact h4.symm
  · have h3 : ((x, numN ns x) : Nm) ∈ ns := (num_mem nd h).mpr rfl
    exact (num_mem (nodup_tidyD nd) (q := (x, numN ns x)) h).mp (tidy_mem.mpr ⟨h3, h⟩)
theorem giveN_app {as bs : List Nm} {x : Am} : giveN (as ++ bs) x = giveN as x + giveN bs x := by
  unfold giveN
  rw [List.map_append, List.sum_append]
theorem giveN_cons {q : Nm} {bs : List Nm} {x : Am} : giveN (q :: bs) x = (if q.1 = x then q.2 else 0) + giveN bs x := rfl
theorem giveN_no {x : Am} : ∀ {qs : List Nm}, x ∉ qs.map (·.1) → giveN qs x = 0
  | [], _ => rfl
  | q :: r, h => by
    rw [giveN_cons, if_neg (fun z => h (List.mem_map.mpr ⟨q, List.mem_cons_self, z⟩)), giveN_no fun z => h (List.mem_cons_of_mem _ z)]
    rfl
theorem giveN_nodup {x : Am} : ∀ {ns : List Nm}, (ns.map (·.1)).Nodup → giveN ns x = numN ns x
  | [], _ => rfl
  | q :: r, h => by
    have h1 := List.nodup_cons.mp h
    rw [giveN_cons]
    by_cases e : q.1 = x
    · rw [if_pos e, ← e, giveN_no h1.1, numN_at h List.mem_cons_self]
      omega
    · rw [if_neg e, giveN_nodup h1.2]
      unfold numN
      rw [List.find?_cons, decide_eq_false e]
      show 0 + _ = _
      rw [Int.zero_add]
theorem wd_sum {qs : List Nm} (w : ∀ q ∈ qs, wdO q.1.1) : ∀ q ∈ sumN qs, wdO q.1.1 := fun q hq => by
  obtain ⟨t, ht, e⟩ := List.mem_map.mp (mem_sumN.mp (List.mem_map.mpr ⟨q, hq, rfl⟩))
  rw [← e]
  exact w t ht
theorem wd_tidy {ns : List Nm} (w : ∀ q ∈ ns, wdO q.1.1) : ∀ q ∈ tidyD ns, wdO q.1.1 := fun q hq => w q (tidy_mem.mp hq).1
theorem sum_tidy {qs : List Nm} (w : ∀ q ∈ qs, wdO q.1.1) : tidyD (sumN (tidyD (sumN qs))) = tidyD (sumN qs) := by
  refine tidy_same (nodup_sumN _) (nodup_sumN _) (wd_sum (wd_tidy (wd_sum w))) fun x => ?_
  rw [numN_sum, giveN_nodup (nodup_tidyD (nodup_sumN _)), numN_tidy (nodup_sumN _)]
theorem len_tidy {ns : List Nm} : (tidyD ns).length ≤ ns.length := by
  have h := List.length_filter_le (fun q : Nm => decide (q.2 ≠ 0)) (ns.mergeSort leN)
  rw [List.length_mergeSort] at h
  exact h
/-- a value that is no amount -/
def Sg (H : Hp) (v : V) : Prop := ∃ d, Av H v d ∧ amtB d = false
theorem Sg.ext {ms : List Addr} {H H' : Hp} {v : V} (h : Sg H v) (e : Ext ms H H') : Sg H' v := by
  obtain ⟨d, h1, h2⟩ := h
  exact ⟨d, h1.ext e, h2⟩
end Tp
/-! Sr: [*o, ..], o of a class with its own __iter__ over d.items() and its own __len__ -/
namespace Tp
open PySem PySem.Spec PyProof.Rows L2 He
/-- one pair of the dict as a tuple -/
def PiAt (H : Hp) (y : V) (kv : List Key × V) : Prop := ∃ T q, y = .ref T ∧ H T = some (.tup [.ref q, kv.2]) ∧ H q = some (.tup (kv.1.map kV))
theorem PiAt.ext {ms : List Addr} {H H' : Hp} {y : V} {kv : List Key × V} (h : PiAt H y kv) (e : Ext ms H H') : PiAt H' y kv := by
  obtain ⟨T, q, h1, h2, h3⟩ := h
  exact ⟨T, q, h1, e.tups _ _ h2, e.tups _ _ h3⟩
theorem vals_snocV {x : V} {u : Value} (h : RelV x u) : ∀ {xs : List V} {us : List Value}, Vals xs us → Vals (xs ++ [x]) (us ++ [u])
  | _, _, .nil => .cons h .nil
  | _, _, .cons a r => .cons a (vals_snocV h r)
section
variable {X : Cx} {pins : List (Addr × Obj)} {σ : L2.St} {d it S : Addr} {o : Obj} {es : Array DictEntry} {ep : Nat} {kvs : List (List Key × V)} {res : Value} {R : Result → Shared → Prop}
theorem ext_loop (hc : X.calm = true) (hod : o.data = .dict es ep) (hn : kvs.length ≤ 1000) (hSi : S ≠ it) :
    ∀ (k i : Nat) (s : Shared) (H : Hp) (acc : Array Value) (c : Nat) (vs : List V), kvs.length - i = k → i ≤ kvs.length → Inv X pins σ H s → H d = some (.frz o (.dT kvs)) → FpOk X pins H it → FpOk X pins H S → ItmS s.heap it d i kvs.length ep →
      s.heap.get? S = some { cls := .type "list", dict := none, data := .seq acc c, slots := #[] } → Vals vs acc.toList → acc.size = i → Paired (PiAt H) vs (kvs.take i) →
      (∀ (s' : Shared) (H' : Hp) (acc' : Array Value) (c' : Nat) (vs' : List V), Inv X pins σ H' s' → Ext [] H H' → s'.heap.get? S = some { cls := .type "list", dict := none, data := .seq acc' c', slots := #[] } → Vals vs' acc'.toList → Paired (PiAt H') vs' kvs → R (.ok (.ret res)) s') →
      codeAny (model X.prog X.w) X.A (.builtin "list.extend.loop" ⟨[.ref S, .ref it, res], []⟩) R s := by
  intro k
  induction k with
  | zero =>
    intro i s H acc c vs hk hi I hd f fS st hS hv hz hp hR
    have hin : i = kvs.length := by omega
    subst hin
    refine codeAny_builtin F.entry_extend_loop ?_
    rw [Around.under_plainId F.plain_extend_loop _]
    show wpAny _ X.A.in1 (pyNext (.ref it) >>= _) _ _ s
    obtain ⟨f0, f1, f2, f3, f4, f5⟩ := f
    obtain ⟨es', ep', hdt, raw, hsz, hs, ent⟩ := frz_ents I hd
    obtain ⟨rfl, rfl⟩ := dict_ep hod hdt
    rw [← hsz] at st
    rw [List.take_length] at hp
    have fin2 : ∀ h', Heap.ExtBut it s.heap h' → R (.ok (.ret res)) { s with heap := h' } := fun h' eb =>
      hR { s with heap := h' } H acc c vs (I.turned (t' := s.toks) (fun b ob hb e => eb b ob hb e) f0 f1 f3 f4 f5) Ext.refl (eb S _ hSi hS) hv hp
    rcases st with ⟨ok, ov, e⟩ | ⟨ok, ov, a, f, e⟩
    · exact wpAny_bind (DT.endI (I.ok.hd hc) e raw (by omega) fun h' eb => wpAny_pure (fin2 h' eb))
    · exact wpAny_bind (DT.endO (I.ok.hd hc) e raw (by omega) fun h' eb => wpAny_pure (fin2 h' eb))
  | succ k ih =>
    intro i s H acc c vs hk hi I hd f fS st hS hv hz hp hR
    have hlt : i < kvs.length := by omega
    obtain ⟨⟨kk, v⟩, hkv⟩ : ∃ p, kvs[i]? = some p := ⟨kvs[i], List.getElem?_eq_getElem hlt⟩
    obtain ⟨es', ep', hdt, raw, hsz, hs, ent⟩ := frz_ents I hd
    obtain ⟨rfl, rfl⟩ := dict_ep hod hdt
    obtain ⟨en, q, hen, hkey, hq, rv⟩ := ent i kk v hkv
    have hie : i < es'.size := by omega
    have hen' : es'[i] = en := by
      have := Array.getElem?_eq_getElem hie
      rw [this] at hen
      exact Option.some.inj hen
    rw [← hsz] at st
    refine codeAny_builtin F.entry_extend_loop ?_
    rw [Around.under_plainId F.plain_extend_loop _]
    show wpAny _ X.A.in1 (pyNext (.ref it) >>= _) _ _ s
    have lt : it < s.heap.objs.size := by
      obtain ⟨fs, e⟩ := st.there
      exact Heap.lt_size e
    have ltS : S < s.heap.objs.size := Heap.lt_size hS
    have hf : ∀ b ∈ [it], FpOk X pins H b := fun b hb => by
      rw [List.mem_singleton.mp hb]
      exact f
    have eT : Ext [] H (upd H s.heap.objs.size (.tup [.ref q, v])) := Ext.new (I.hok.fresh (Nat.le_refl _))
    have hsl : (1000 : Nat) < sizeLine := by decide
    rcases st with ⟨ok, ov, e⟩ | ⟨ok, ov, a, ff, e⟩
    · refine wpAny_bind (DT.nextI e raw hie fun h' e' tup size keep => ?_)
      have st' : ItmS h' it d (i + 1) es'.size ep' := .inr ⟨_, _, _, false, e'⟩
      clear e'
      rw [hen', hkey] at tup
      have new : ObjOk X.prog X.w (upd H s.heap.objs.size (.tup [.ref q, v])) h' s.heap.objs.size (.tup [.ref q, v]) := ⟨by show 2 ≤ sizeLine; decide, [.ref q, en.val], .cons rfl (.cons rv .nil), ⟨_, tup, rfl, _, rfl⟩⟩
      have I1 : Inv X pins σ (upd H s.heap.objs.size (.tup [.ref q, v])) { s with heap := h' } := I.turnedNew (t' := s.toks) (ch := [it]) (fun b ob hb e => keep b ob (by simpa using hb) e) hf (Nat.le_refl _) new
      have hS1 := keep S _ hSi hS
      show wpAny _ X.A.in1 (updateSeq S (·.push (.ref s.heap.objs.size)) >>= _) _ _ _
      refine wpAny_bind ?_
      refine wpAny_updateSeq hS1 rfl (wpAny_pure ⟨plainId_quiet F.plain_extend_loop _, ?_⟩) (by rw [hz]; omega) (by show (acc.push _).size ≤ sizeLine + 1; rw [Array.size_push, hz]; omega)
      obtain ⟨g0, g1, g2, g3, g4, g5⟩ := fS
      refine ih (i + 1) _ (upd H s.heap.objs.size (.tup [.ref q, v])) (acc.push (.ref s.heap.objs.size)) _ (vs ++ [.ref s.heap.objs.size]) (by omega) hlt ?_ (eT.keep _ _ hd (by simp)) ⟨(upd_ne (Nat.ne_of_lt lt)).trans f.1, f.2⟩ ⟨(upd_ne (Nat.ne_of_lt ltS)).trans g0, g1, g2, g3, g4, g5⟩ ?_ (Heap.get?_update_self _ hS1 rfl) ?_ (by rw [Array.size_push, hz]) ?_ fun s' H' acc' c' vs' a1 a2 a3 a4 a5 => hR s' H' acc' c' vs' a1 (eT.trans a2) a3 a4 a5
      · refine I1.turned (t' := s.toks) (it := S) (fun b ob hb e => ?_) ((upd_ne (Nat.ne_of_lt ltS)).trans g0) g1 g3 g4 g5
        exact (Heap.get?_update_other _ _ (fun z => hb z.symm)).trans e
      · rw [← hsz]
        exact st'.at fun ob e => (Heap.get?_update_other _ _ hSi).trans e
      · rw [Array.toList_push]
        exact vals_snocV (x := .ref s.heap.objs.size) (u := .ref s.heap.objs.size) rfl hv
      · rw [take_snoc hkv]
        exact pair_snoc ⟨s.heap.objs.size, q, rfl, upd_same, eT.tups _ _ hq⟩ (paired_mono (fun _ _ h => PiAt.ext h eT) hp)
    · refine wpAny_bind (next_any e raw hie fun h' e' tup size keep => ?_)
      have st' : ItmS h' it d (i + 1) es'.size ep' := .inr e'
      clear e'
      rw [hen', hkey] at tup
      have new : ObjOk X.prog X.w (upd H s.heap.objs.size (.tup [.ref q, v])) h' s.heap.objs.size (.tup [.ref q, v]) := ⟨by show 2 ≤ sizeLine; decide, [.ref q, en.val], .cons rfl (.cons rv .nil), ⟨_, tup, rfl, _, rfl⟩⟩
      have I1 : Inv X pins σ (upd H s.heap.objs.size (.tup [.ref q, v])) { s with heap := h' } := I.turnedNew (t' := s.toks) (ch := [it]) (fun b ob hb e => keep b ob (by simpa using hb) e) hf (Nat.le_refl _) new
      have hS1 := keep S _ hSi hS
      show wpAny _ X.A.in1 (updateSeq S (·.push (.ref s.heap.objs.size)) >>= _) _ _ _
      refine wpAny_bind ?_
      refine wpAny_updateSeq hS1 rfl (wpAny_pure ⟨plainId_quiet F.plain_extend_loop _, ?_⟩) (by rw [hz]; omega) (by show (acc.push _).size ≤ sizeLine + 1; rw [Array.size_push, hz]; omega)
      obtain ⟨g0, g1, g2, g3, g4, g5⟩ := fS
      refine ih (i + 1) _ (upd H s.heap.objs.size (.tup [.ref q, v])) (acc.push (.ref s.heap.objs.size)) _ (vs ++ [.ref s.heap.objs.size]) (by omega) hlt ?_ (eT.keep _ _ hd (by simp)) ⟨(upd_ne (Nat.ne_of_lt lt)).trans f.1, f.2⟩ ⟨(upd_ne (Nat.ne_of_lt ltS)).trans g0, g1, g2, g3, g4, g5⟩ ?_ (Heap.get?_update_self _ hS1 rfl) ?_ (by rw [Array.size_push, hz]) ?_ fun s' H' acc' c' vs' a1 a2 a3 a4 a5 => hR s' H' acc' c' vs' a1 (eT.trans a2) a3 a4 a5
      · refine I1.turned (t' := s.toks) (it := S) (fun b ob hb e => ?_) ((upd_ne (Nat.ne_of_lt ltS)).trans g0) g1 g3 g4 g5
        exact (Heap.get?_update_other _ _ (fun z => hb z.symm)).trans e
      · rw [← hsz]
        exact st'.at fun ob e => (Heap.get?_update_other _ _ hSi).trans e
      · rw [Array.toList_push]
        exact vals_snocV (x := .ref s.heap.objs.size) (u := .ref s.heap.objs.size) rfl hv
      · rw [take_snoc hkv]
        exact pair_snoc ⟨s.heap.objs.size, q, rfl, upd_same, eT.tups _ _ hq⟩ (paired_mono (fun _ _ h => PiAt.ext h eT) hp)
end
section
variable {X : Cx} {CX : CXT} {k kl : Nat} {C g gl a d dx : Addr} {fs : List (Str × V)} {o : Obj} {kvs : List (List Key × V)} {fd fdl : FuncData} {ps psl : List Str} {sp : Nat → Sp} {spL : Sp} {E : XK} {pins : List (Addr × Obj)} {σ : L2.St} {H : Hp} {s : Shared}
/-- a list just laid, empty -/
def LsO (S : Addr) : HO := .ext fun h => h.get? S = some { cls := .type "list", data := .seq ([] : List Value).toArray }
theorem lsO_ok {P : Program} {w : World} {H : Hp} {h : Heap} {S : Addr} (e : h.get? S = some { cls := .type "list", data := .seq ([] : List Value).toArray }) : ObjOk P w H h S (LsO S) := ⟨e, ⟨_, e⟩, fun h1 h2 q k => k _ q⟩
theorem collect_own {Q : List Value → Shared → Prop} (hc : X.calm = true) (hi : OwnIt X.K C g) (F : FnN X.prog X.w X.K X.mg X.base CX k g fd ps sp) (hr : Room (k + 1) X.A) (hb : Binds X.K fd ps [])
    (hl : OwnLn X.K C gl) (Fl : FnOk X.prog X.w X.K X.mg X.base L2.CX0 kl gl fdl psl spL) (hrl : Room (kl + 2) X.A) (hbl : Binds X.K fdl psl []) (hx : Passes CX X E) (I : Inv X pins σ H s) (ea : H a = some (.ins C dx fs)) (hd : H d = some (.frz o (.dT kvs))) (hn : kvs.length ≤ 1000)
    (hs : ∀ G, Ext [] H G → ∀ n, sp n [.ref a] G (itmNew n d o G) E) (hsl : ∀ G, Ext [] H G → spL [.ref a] G (fun v H' => v = .int (kvs.length : Int) ∧ H' = G) E0)
    (hQ : ∀ (us : List Value) (ys : List V) (s' : Shared) (H' : Hp), Inv X pins σ H' s' → Vals ys us → Ext [] H H' → Paired (PiAt H') ys kvs → Q us s') : wpAny (model X.prog X.w) X.A (collect (.ref a)) Q X.xe s := by
  unfold collect
  refine wpAny_bind (wpAny_runValue (codeAny_builtin PySem.F.entry_proto_collect ?_))
  rw [Around.under_plainId PySem.F.plain_proto_collect _]
  show wpAny _ X.A.in1 (newList [] >>= fun l => again (.builtin "list.__iadd__" ⟨[l, .ref a], []⟩)) _ _ s
  refine wpAny_bind (wpAny_newObj_type ?_)
  refine wpAny_pure ⟨plainId_quiet PySem.F.plain_list_iadd _, codeAny_builtin PySem.F.entry_list_iadd ?_⟩
  rw [Around.under_plainId PySem.F.plain_list_iadd _]
  have hnS : H s.heap.objs.size = none := I.hok.fresh (Nat.le_refl _)
  have fS : FpOk X pins H s.heap.objs.size := I.fpOk (Nat.le_refl _) hnS
  have hS1 : (s.heap.push { cls := .type "list", data := .seq ([] : List Value).toArray }).get? s.heap.objs.size = some { cls := .type "list", data := .seq ([] : List Value).toArray } := Heap.get?_push_size _ rfl
  have I1 : Inv X pins σ (upd H s.heap.objs.size (LsO s.heap.objs.size)) { s with heap := s.heap.push { cls := .type "list", data := .seq ([] : List Value).toArray } } := I.laid (t' := s.toks) (fun b u e => Heap.get?_push_of_some _ e) (Nat.le_refl _) (lsO_ok hS1)
  have e1 : Ext [] H (upd H s.heap.objs.size (LsO s.heap.objs.size)) := Ext.new hnS
  have ea1 := e1.keep _ _ ea (by simp)
  have hSv : (upd H s.heap.objs.size (LsO s.heap.objs.size)) s.heap.objs.size = some (LsO s.heap.objs.size) := upd_same
  have hSa : s.heap.objs.size ≠ a := fun z => by rw [← z, hnS] at ea; cases ea
  have e0 : ItX.dropH (upd H s.heap.objs.size (LsO s.heap.objs.size)) s.heap.objs.size = H := ItX.dropH_upd hnS
  obtain ⟨mA, O, _, _, _, _⟩ := ins_get I1.hok ea1
  obtain ⟨od, J, _⟩ := O.look
  obtain ⟨m0, hF⟩ := I1.fr
  show wpAny _ X.A.in1 (Builtin.List.listExtendWith (.ref s.heap.objs.size) (.ref a) (.ref s.heap.objs.size)) _ _ _
  unfold Builtin.List.listExtendWith
  refine wpAny_bind (J.type.here ?_)
  have h1 : Builtin.List.listSameRef (.ref s.heap.objs.size) (.ref a) = false := by simp [Builtin.List.listSameRef, hSa]
  rw [if_neg (by rw [h1]; exact Bool.false_ne_true)]
  refine wpAny_bind (PySem.W.owit_iter hF I1.ok.mod.kin J hi.it hi.fn ?_)
  have hsp := hs _ e1 (s.heap.push { cls := .type "list", data := .seq ([] : List Value).toArray }).objs.size
  have hl1 := F.len _ _ _ _ _ hsp
  have bnd := hb { s with heap := s.heap.push { cls := .type "list", data := .seq ([] : List Value).toArray } } [.ref a] I1.kIn (by simpa using hl1)
  generalize hSs : s.heap.objs.size = S at *
  generalize hH1 : upd H S (LsO S) = H1 at *
  refine wpAny_call (codeAny_mono (F.run X.A.in1 X.stack _ H1 ⟨[.ref a], []⟩ [.ref a] [.ref a] _ E hr.in1 I1.env0.in1 (by simpa using bnd) (.cons rfl .nil) hsp) fun r s' hq => ?_)
  cases r with
  | error er => exact hx pins σ H1 _ er s' I1 hq
  | ok fl =>
    cases fl with
    | next => exact False.elim hq
    | brk => exact False.elim hq
    | cont => exact False.elim hq
    | ret u =>
      obtain ⟨v, H', I3, rv, p, it, rfl, hp, hne, hn1, hsz, rfl⟩ := I1.after hq
      obtain rfl : u = Value.ref it := rv
      obtain ⟨es, ep, hdt, eo⟩ := itmO_get I3 upd_same
      show wpAny _ _ (specialOf _ _) _ _ _
      refine wpAny_specialOf (T := "dict_itemiterator") ⟨_, eo, rfl⟩ PySem.F.slot_dict_itemiterator_next.lookup ?_
      have hn' : upd H1 p (ViO d p) it = none := by rw [upd_ne hne]; exact hn1
      have e3 : Ext [] H1 (upd (upd H1 p (ViO d p)) it (ItmO d it o)) := (Ext.new hp).trans (Ext.new hn')
      show wpAny _ X.A.in1 (holding [.ref it] (Builtin.List.listLengthHint (.ref a)) >>= _) _ _ _
      refine wpAny_bind (wpAny_holding ?_)
      unfold Builtin.List.listLengthHint
      have ea3 := e3.keep _ _ ea1 (by simp)
      obtain ⟨mA3, O3, _, _, _, _⟩ := ins_get I3.hok ea3
      obtain ⟨od3, J3, _⟩ := O3.look
      obtain ⟨m3, hF3⟩ := I3.fr
      refine wpAny_bind (wpAny_bind (J3.type.here ((PySem.W.looks_findIn I3.kIn hl.ln).here ?_)))
      show wpAny _ X.A.in1 (rule "list.length-hint.len" >>= _) _ _ _
      refine wpAny_bind (wpAny_rule ?_)
      show wpAny _ X.A.in1 ((call (.builtin "len") [.ref a]).attempt >>= _) _ _ _
      refine wpAny_bind (wpAny_attempt ?_)
      refine PySem.W.len_K hF3 I3.ok.mod.kin J3 hl.ln hl.fn ?_
      have hspL := hsl _ (e1.trans e3)
      have hl2 := Fl.len _ _ _ _ hspL
      have bndL := hbl s' [.ref a] I3.kIn (by simpa using hl2)
      refine wpAny_call (codeAny_mono (Fl.run X.A.in1.in1 X.stack _ _ ⟨[.ref a], []⟩ [.ref a] [.ref a] _ E0 hrl.in1.in1 I3.env0.in1.in1 (by simpa using bndL) (.cons rfl .nil) hspL) fun r2 s2 hq2 => ?_)
      cases r2 with
      | error er => exact False.elim hq2
      | ok fl2 =>
        cases fl2 with
        | next => exact False.elim hq2
        | brk => exact False.elim hq2
        | cont => exact False.elim hq2
        | ret u2 =>
          obtain ⟨v2, H2, I4, rv2, rfl, rfl⟩ := I3.after hq2
          obtain ⟨t2, rfl⟩ := rv2
          refine ⟨⟨by omega, Int.lt_of_le_of_lt (show (kvs.length : Int) ≤ 1000 by omega) (by decide)⟩, ?_⟩
          show wpAny _ X.A.in1 (asInt? (.int _ _) >>= _) _ _ _
          refine wpAny_bind (wpAny_pure ?_)
          show wpAny _ X.A.in1 (if Builtin.List.listTooLong (kvs.length : Int).toNat = true then _ else _) _ _ _
          rw [if_neg (by unfold Builtin.List.listTooLong; have hsl : (1000 : Nat) < sizeLine := by decide
                         simp; omega)]
          refine wpAny_pure ?_
          obtain ⟨es5, ep5, hdt5, eo5⟩ := itmO_get I4 upd_same
          have hSH1 : H1 S = some (LsO S) := hSv
          have eS := (I4.hok S (LsO S) (e3.keep _ _ hSH1 (by simp))).1
          have e4 : ItX.dropH (upd (upd H1 p (ViO d p)) it (ItmO d it o)) it = upd H1 p (ViO d p) := ItX.dropH_upd hn'
          have e5 : ItX.dropH (upd H1 p (ViO d p)) p = H1 := ItX.dropH_upd hp
          have I5 := ItX.inv_drop I4 (φ := fun h => ∃ es ep, o.data = .dict es ep ∧ IsItemIter h it d 0 es.size ep .none .none) upd_same
          have fp := ItX.inv_fp I4 (upd_same (H := upd H1 p (ViO d p)) (a := it) (o := ItmO d it o)) (Nat.le_trans I1.sz hsz)
          rw [e4] at I5 fp
          have I6 := ItX.inv_drop I5 (φ := fun h => h.get? p = some { cls := .type "dict_items", data := .fields #[.ref d] }) upd_same
          rw [e5] at I6
          have I7 := ItX.inv_drop I6 (φ := fun h => h.get? S = some { cls := .type "list", data := .seq ([] : List Value).toArray }) hSH1
          rw [e0] at I7
          have hSi : S ≠ it := fun z => by rw [z, hn1] at hSH1; cases hSH1
          have hitn : H it = none := by
            have h := hn1
            rw [← hH1, upd_ne hSi.symm] at h
            exact h
          obtain ⟨es6, ep6, hdt6, raw6, hsz6, _, _⟩ := frz_ents I7 hd
          obtain ⟨rfl, rfl⟩ := dict_ep hdt5 hdt6
          rw [hsz6] at eo5
          obtain ⟨g0, g1, g2, g3, g4, g5⟩ := id fS
          by_cases h0 : kvs.length = 0
          · rw [if_neg (by rw [h0]; exact Bool.false_ne_true)]
            have IL : Inv X pins σ H { s2 with toks := s2.toks + 1 } := I7.tok _
            have stL : ItmS s2.heap it d 0 kvs.length _ := .inl ⟨_, _, eo5⟩
            have hSL := eS
            refine wpAny_pure ⟨plainId_quiet PySem.F.plain_extend_loop _, ext_loop (X := X) (pins := pins) (σ := σ) hc hdt5 hn hSi kvs.length 0 _ H #[] _ [] (by omega) (Nat.zero_le _) IL hd ⟨hitn, fp.2⟩ fS stL hSL .nil rfl (by rw [List.take_zero]; exact .nil) fun s9 H9 acc9 c9 vs9 a1 a2 a3 a4 a5 => ?_⟩
            show wpAny _ X.A (load S >>= _) _ _ s9
            refine wpAny_bind (wpAny_load a3 ?_)
            exact wpAny_pure (hQ _ vs9 s9 H9 a1 a4 a2 a5)
          · rw [if_pos (by
              rw [show ((kvs.length : Int) != 0) = true from by simpa using h0]
              rfl)]
            refine wpAny_bind (wpAny_rule ?_)
            refine wpAny_bind ?_
            show wpAny _ X.A.in1 (updateSeq S (·.push .none) >>= fun _ => updateSeq S (·.pop)) _ _ _
            refine wpAny_bind (wpAny_updateSeq eS rfl ?_)
            have hS2 := Heap.get?_update_self (Obj.mapSeq (·.push Value.none)) eS rfl
            refine wpAny_updateSeq hS2 rfl ?_
            have hSL := Heap.get?_update_self (Obj.mapSeq (·.pop)) hS2 rfl
            have oth : ∀ b o, b ≠ S → s2.heap.get? b = some o → ((s2.heap.update S (Obj.mapSeq (·.push Value.none))).update S (Obj.mapSeq (·.pop))).get? b = some o :=
              fun b o hb e => (Heap.get?_update_other _ _ (Ne.symm hb)).trans ((Heap.get?_update_other _ _ (Ne.symm hb)).trans e)
            have IL := I7.turned (t' := s2.toks + 1) (it := S) oth g0 g1 g3 g4 g5
            have stL : ItmS _ it d 0 kvs.length _ := (ItmS.at (.inl ⟨_, _, eo5⟩) fun o e => oth it o hSi.symm e)
            refine wpAny_pure ⟨plainId_quiet PySem.F.plain_extend_loop _, ext_loop (X := X) (pins := pins) (σ := σ) hc hdt5 hn hSi kvs.length 0 _ H #[] _ [] (by omega) (Nat.zero_le _) IL hd ⟨hitn, fp.2⟩ fS stL hSL .nil rfl (by rw [List.take_zero]; exact .nil) fun s9 H9 acc9 c9 vs9 a1 a2 a3 a4 a5 => ?_⟩
            show wpAny _ X.A (load S >>= _) _ _ s9
            refine wpAny_bind (wpAny_load a3 ?_)
            exact wpAny_pure (hQ _ vs9 s9 H9 a1 a4 a2 a5)
end
end Tp
/-! Oo: own operators: [*o, ..], -o, o * n, o += p, o[i] = v -/
namespace Tp
open PySem PySem.Spec PyProof.Rows L2 He
theorem ext_lock {H G : Hp} {d : Addr} {o : Obj} {u : HO} (hd : H d = some u) (hu : ∀ xs, u ≠ .tup xs) (e : Ext [] (upd H d (.frz o u)) G) : Ext [] H (upd G d u) := by
  refine ⟨fun b ob q _ => ?_, fun b xs q => ?_⟩
  · by_cases hb : b = d
    · subst hb
      rw [upd_same, ← hd, q]
    · rw [upd_ne hb]
      exact e.keep _ _ (by rw [upd_ne hb]; exact q) (by simp)
  · have hb : b ≠ d := fun z => by
      rw [z, hd] at q
      exact hu xs (Option.some.inj q)
    rw [upd_ne hb]
    exact e.tups _ _ (by rw [upd_ne hb]; exact q)
def tStarO (C : Addr) (sp : Nat → Sp) (spL : Sp) (E : XK) (te : TE) (t : TA) : TA := fun σ H Q => te σ H fun x H1 => ∃ a dx fs d kvs, x = .ref a ∧ H1 a = some (.ins C dx fs) ∧ H1 d = some (.dT kvs) ∧ kvs.length ≤ 1000 ∧
  (∀ o G, Ext [] (upd H1 d (.frz o (.dT kvs))) G → (∀ n, sp n [.ref a] G (itmNew n d o G) E) ∧ spL [.ref a] G (fun v H' => v = .int (kvs.length : Int) ∧ H' = G) E0) ∧ ∀ ys H2, Ext [] H1 H2 → Paired (PiAt H2) ys kvs → t σ H2 fun zs H3 => Q (ys ++ zs) H3
section
variable {X : Cx} {CX : CXT} {k kl : Nat} {C g gl : Addr} {fd fdl : FuncData} {ps psl : List Str} {sp : Nat → Sp} {spL : Sp} {E : XK} {e : Expr} {es : List Expr} {te : TE} {t : TA} {p : Pos}
theorem pa_starO (he : PE X e te) (hr : PA X es t) (hc : X.calm = true) (hi : OwnIt X.K C g) (F : FnN X.prog X.w X.K X.mg X.base CX k g fd ps sp) (hrm : Room (k + 1) X.A) (hb : Binds X.K fd ps [])
    (hl : OwnLn X.K C gl) (Fl : FnOk X.prog X.w X.K X.mg X.base L2.CX0 kl gl fdl psl spL) (hrl : Room (kl + 2) X.A) (hbl : Binds X.K fdl psl []) (hx : Passes CX X E)
    (hs : starEach (.Starred e p :: es) X.env = (true, eval e X.env) :: starEach es X.env := by rfl) : PA X (.Starred e p :: es) (tStarO C sp spL E te t) := by
  refine ⟨fun pos pins s σ H Q I h => ?_⟩
  refine PySem.W.items_star (thn (he.run pins s σ H _ I h) fun v s1 ⟨y, H1, I1, ry, a, dx, fs, d, kvs, ey, ea, hd, hn, hsp, q⟩ => ?_) hs
  subst ey
  obtain rfl : v = Value.ref a := ry
  obtain ⟨mA, O, _, _, _, _⟩ := ins_get I1.hok ea
  obtain ⟨od, J, _⟩ := O.look
  unfold PySem.W.StarOf notIterableAtAll
  refine wpAny_bind (wpAny_bind (J.type.here ((PySem.W.looks_findIn I1.kIn hi.it).here ?_)))
  refine wpAny_pure ⟨rfl, ?_⟩
  have mu : Mut (some (HO.dT kvs)) := True.intro
  obtain ⟨oo, I2⟩ := I1.lock hd mu
  have hda : d ≠ a := fun z => by rw [z, ea] at hd; cases hd
  refine collect_own hc hi F hrm hb hl Fl hrl hbl hx I2 (by rw [upd_ne hda.symm]; exact ea) upd_same hn (fun G eG => (hsp oo G eG).1) (fun G eG => (hsp oo G eG).2) fun us ys s2 H2 I3 rv e2 hp => ?_
  have hd2 := e2.keep _ _ (upd_same (H := H1) (a := d) (o := .frz oo (.dT kvs))) (by simp)
  have I4 := I3.unlock hd2 (I1.nofrz hd mu)
  have eU : Ext [d] H2 (upd H2 d (.dT kvs)) := ext_at fun xs z => by rw [hd2] at z; cases z
  exact thn (hr.run pos pins s2 σ _ _ I4 (q ys _ (ext_lock hd (fun xs z => nomatch z) e2) (paired_mono (fun _ _ h => PiAt.ext h eU) hp))) fun ws s3 ⟨vs, H3, I5, r3, q3⟩ => ⟨ys ++ vs, H3, I5, rv.append r3, q3⟩
end
/-! ### -o -/
structure OwnFn (K : PySem.W.Frag) (C g : Addr) (m : Str) : Prop where
  at_ : PySem.W.findIn K (.ref C) m = some (some (.ref g))
  fn : PySem.W.isFn K (.ref g) = true
section
variable {X : Cx} {CX : CXT} {k : Nat} {C g : Addr} {fd : FuncData} {ps : List Str} {sp : Sp} {E : XK}
end
/-! ### what the fragment is to tell of a class with own operators -/
def binB (K : PySem.W.Frag) (C : Addr) (nm T : String) : Bool := (match PySem.W.findIn K (.ref C) (dunderR nm) with
    | some none => true
    | some (some (.ref _)) => true
    | _ => false) && ((PySem.W.findIn K (.type T) (PySem.dunder nm)).isSome && ((PySem.W.findIn K (.type T) (dunderR nm)).isSome && decide (PySem.W.subIn K (.type T) (.ref C) = some false)))
structure BinT (K : PySem.W.Frag) (C : Addr) (nm T : String) : Prop where
  rc : ∃ rc, PySem.W.findIn K (.ref C) (dunderR nm) = some rc ∧ (rc = none ∨ ∃ g : Addr, rc = some (.ref g))
  fo : ∃ fo, PySem.W.findIn K (.type T) (PySem.dunder nm) = some fo
  ro : ∃ ro, PySem.W.findIn K (.type T) (dunderR nm) = some ro
  sb : PySem.W.subIn K (.type T) (.ref C) = some false
theorem binB_ok {K : PySem.W.Frag} {C : Addr} {nm T : String} (h : binB K C nm T = true) : BinT K C nm T := by
  unfold binB at h
  obtain ⟨h1, h⟩ := ba h
  obtain ⟨h2, h⟩ := ba h
  obtain ⟨h3, h4⟩ := ba h
  refine ⟨?_, Option.isSome_iff_exists.mp h2, Option.isSome_iff_exists.mp h3, of_decide_eq_true h4⟩
  split at h1
  · rename_i e
    exact ⟨none, e, .inl rfl⟩
  · rename_i g e
    exact ⟨_, e, .inr ⟨g, rfl⟩⟩
  · cases h1
/-! ### o * n -/
def rBinO (C : Addr) (sp : Sp) (E : XK) : R2 := fun x y H Q => ∃ a dx fs i, x = .ref a ∧ y = .int i ∧ H a = some (.ins C dx fs) ∧ sp [.ref a, .int i] H (fun v H' => ∃ b, v = .ref b ∧ Q (.ref b) H') E
def rSetO (C : Addr) (sp : Sp) (E : XK) : TSet := fun o i v H Q => ∃ a dx fs, o = .ref a ∧ H a = some (.ins C dx fs) ∧ sp [.ref a, i, v] H (fun _ H' => Q H') E
section
variable {X : Cx} {CX : CXT} {k : Nat} {C g : Addr} {fd : FuncData} {ps : List Str} {sp : Sp} {E : XK}
theorem op_mulO (hi : OwnFn X.K C g "__mul__") (hc : PySem.W.selfFirst X.K C = true) (bt : BinT X.K C "mul" "int") (F : FnOk X.prog X.w X.K X.mg X.base CX k g fd ps sp) (hr : Room k X.A) (hb : Binds X.K fd ps []) (hx : Passes CX X E) : OpR X (binaryOp .Mult) (rBinO C sp E) := by
  intro pins s σ H x y v u Q I rx ry h
  obtain ⟨a, dx, fs, i, rfl, rfl, ea, hs⟩ := h
  obtain rfl : v = Value.ref a := rx
  obtain ⟨mA, O, _, _, _, _⟩ := ins_get I.hok ea
  obtain ⟨od, J, _⟩ := O.look
  obtain ⟨m0, hF⟩ := I.fr
  obtain ⟨t, rfl⟩ := id ry
  obtain ⟨rc, h1, h2⟩ := bt.rc
  obtain ⟨fo, h3⟩ := bt.fo
  obtain ⟨ro, h4⟩ := bt.ro
  have hl := F.len _ _ _ _ hs
  have bnd := hb s [.ref a, .int i t] I.kIn (by simpa using hl)
  refine PySem.W.ksp_binT (op := .Mult) (T := "int") hF I.ok.mod.kin J rfl hc hi.at_ hi.fn h1 h2 h3 h4 bt.sb ?_
  refine wpAny_call (codeAny_mono (F.run X.A X.stack s H ⟨[.ref a, .int i t], []⟩ [.ref a, .int i t] [.ref a, .int i] _ E hr I.env0 (by simpa using bnd) (.cons rfl (.cons ry .nil)) hs) fun r s' hq => ?_)
  cases r with
  | error er => exact hx pins σ H s er s' I hq
  | ok fl =>
    cases fl with
    | ret u =>
      obtain ⟨v, H', I3, rv, b, rfl, q⟩ := I.after hq
      obtain rfl : u = Value.ref b := rv
      exact ⟨.ref b, H', I3, rfl, q⟩
    | next => exact False.elim hq
    | brk => exact False.elim hq
    | cont => exact False.elim hq
theorem set_own (hi : OwnFn X.K C g "__setitem__") (hn : PySem.W.noSeq X.K C = true) (F : FnOk X.prog X.w X.K X.mg X.base CX k g fd ps sp) (hr : Room k X.A) (hb : Binds X.K fd ps []) (hx : Passes CX X E) : PSet X (rSetO C sp E) := by
  intro pins s σ H o i v ov iv u Q I ro ri rv h
  obtain ⟨a, dx, fs, rfl, ea, hs⟩ := h
  obtain rfl : ov = Value.ref a := ro
  obtain ⟨mA, O, _, _, _, _⟩ := ins_get I.hok ea
  obtain ⟨od, J, _⟩ := O.look
  obtain ⟨m0, hF⟩ := I.fr
  have hl := F.len _ _ _ _ hs
  have bnd := hb s [.ref a, iv, u] I.kIn (by simpa using hl)
  refine PySem.W.ksp_setItem hF I.ok.mod.kin J hn hi.at_ hi.fn ?_
  refine wpAny_call (codeAny_mono (F.run X.A X.stack s H ⟨[.ref a, iv, u], []⟩ [.ref a, iv, u] [.ref a, i, v] _ E hr I.env0 (by simpa using bnd) (.cons rfl (.cons ri (.cons rv .nil))) hs) fun r s' hq => ?_)
  cases r with
  | error er => exact hx pins σ H s er s' I hq
  | ok fl =>
    cases fl with
    | ret u =>
      obtain ⟨v, H', I3, _, q⟩ := I.after hq
      exact ⟨H', I3, q⟩
    | next => exact False.elim hq
    | brk => exact False.elim hq
    | cont => exact False.elim hq
end
section
variable {X : Cx} {CX : CXT} {k : Nat} {C g : Addr} {fd : FuncData} {ps : List Str} {sp : Sp} {E : L2.St → XK} {o i e : Expr} {te to ti : TE} {tpos pos : Pos}
end
/-- a class whose first of the order is itself, no sequence, and times a number -/
def opsB (K : PySem.W.Frag) (C : Addr) : Bool := PySem.W.selfFirst K C && (PySem.W.noSeq K C && binB K C "mul" "int")
theorem opsB_ok {K : PySem.W.Frag} {C : Addr} (h : opsB K C = true) : PySem.W.selfFirst K C = true ∧ PySem.W.noSeq K C = true ∧ BinT K C "mul" "int" := by
  obtain ⟨h1, h⟩ := ba h
  obtain ⟨h2, h3⟩ := ba h
  exact ⟨h1, h2, binB_ok h3⟩
theorem ps_never {X : Cx} {st : Stmt} : PS X st (fun _ _ _ => False) := ⟨fun _ _ _ _ _ _ h => h.elim⟩
/-- a dict comprehension over the keys of a locked dict -/
theorem dcT_keysT {dd : Addr} {o : Obj} {kvs : List (List Key × V)} {g : TG} {tt : TT} {tk tv : TE} {own : List Nat} {st : L2.St} {G : Hp} {d : Addr} {fin : Hp → Prop} (at_ : Nat → Hp → Prop) (start : at_ 0 (upd G d (.dT []))) (stays : ∀ n G', n ≤ kvs.length → at_ n G' → G' dd = some (.frz o (.dT kvs)))
    (turn : ∀ n k v q G', kvs[n]? = some (k, v) → G' q = some (.tup (k.map kV)) → at_ n G' → turnT own (wipe st own) g tt tk tv d (at_ (n + 1)) (.ref q) G') (done : ∀ G', at_ kvs.length G' → fin G') :
    ∃ Stand : Nat → Nat → Hp → Prop, (∃ left, Stand 0 left (upd G d (.dT []))) ∧ ∀ n left G', Stand n left G' →
      ((Itkt dd o kvs).stop n G' ∧ fin G') ∨ ((Itkt dd o kvs).go n G' ∧ ∃ next : Hp → Prop, (∀ G2, next G2 → ∃ less, less < left ∧ Stand (n + 1) less G2) ∧ ∀ y G2, (Itkt dd o kvs).yld n G' y G2 → turnT own (wipe st own) g tt tk tv d next y G2) := by
  refine ⟨fun n left G' => left + n = kvs.length ∧ at_ n G', ⟨kvs.length, rfl, start⟩, ?_⟩
  rintro n left G' ⟨sum, here⟩
  have q := stays n G' (by omega) here
  by_cases lt : n < kvs.length
  · refine .inr ⟨⟨q, lt⟩, at_ (n + 1), fun G2 there => ⟨left - 1, by omega, by omega, there⟩, fun y G2 given => ?_⟩
    obtain ⟨e, k, v, a, hk, rfl, ha⟩ := given
    subst e
    exact turn n k v a _ hk ha here
  · have e : n = kvs.length := by omega
    subst e
    exact .inl ⟨⟨q, Nat.le_refl _⟩, done G' here⟩
/-- len(d), d perhaps locked -/
def rLenRT : List V → Hp → VK → Prop := fun xs H Q => ∃ (p : Addr) (kvs : List (List Key × V)), xs = [.ref p] ∧ Rd H p (.dT kvs) ∧ Q (.int ((kvs.length : Nat) : Int)) H
theorem call_len_rdT {X : Cx} : CallR X (.builtin "len") rLenRT := by
  intro pins s σ H xs us Q I r h
  obtain ⟨p, kvs, rfl, hp, q⟩ := h
  obtain ⟨u, rfl, rx⟩ := vals1 r
  obtain rfl : u = .ref p := rx
  have key : ∃ ys, kvs.length ≤ sizeLine ∧ (p == sysModules) = false ∧ kvs.length = ys.length ∧ s.heap.DictOfH (tupleKind (mixKind X.prog X.w)) p ys := by
    obtain ⟨z, hd, ys, rel, dd⟩ := dt_rd I.hok hp
    exact ⟨ys, z, hd, Paired.length rel, dd⟩
  obtain ⟨ys, z, hd, hl, dd⟩ := key
  refine call_len_dictH hd dd (by rw [← hl]; rw [sizeLine_eq] at z; omega) ?_
  rw [← hl]
  exact ⟨.int ((kvs.length : Nat) : Int), H, I.tok _, ⟨_, rfl⟩, q⟩
end Tp
/-! Fq: more facts of the numbers of forms: sums, negatives, one number set -/
namespace Tp
open PySem PySem.Spec PyProof.Rows L2 He
theorem give_tidy {qs : List Nm} {x : Am} : giveN (tidyD (sumN qs)) x = giveN qs x := by rw [giveN_nodup (nodup_tidyD (nodup_sumN _)), numN_tidy (nodup_sumN _), numN_sum]
theorem wd_app {as bs : List Nm} (wa : ∀ q ∈ as, wdO q.1.1) (wb : ∀ q ∈ bs, wdO q.1.1) : ∀ q ∈ as ++ bs, wdO q.1.1 := fun q hq => (List.mem_append.mp hq).elim (wa q) (wb q)
theorem sums_same {as bs : List Nm} (wa : ∀ q ∈ as, wdO q.1.1) (h : ∀ x, giveN as x = giveN bs x) : tidyD (sumN as) = tidyD (sumN bs) :=
  tidy_same (nodup_sumN _) (nodup_sumN _) (wd_sum wa) fun x => by rw [numN_sum, numN_sum, h]
end Tp
/-! Ob: o op v, v of a built-in type, perhaps on the heap -/
namespace Tp
open PySem PySem.Spec PyProof.Rows L2 He
theorem own_binL {prog : Program} {w : World} {A : Around} {E Q : Value → Shared → Prop} {s : Shared} {K : PySem.W.Frag} {x C f : Addr} {ox : Obj} {od : Option Obj} {T nm : String} {op : Operator} {b : Value}
    (kin : K.In s.heap) (J : PySem.W.InstAt s.heap x ox C od) (tyB : PySem.W.Looks (model prog w) s.heap (typeOf b) (.type T)) (first : PySem.W.selfFirst K C = true) (en : op.info.2 = nm)
    (own : PySem.W.findIn K (.ref C) (PySem.dunder nm) = some (some (.ref f))) (isF : PySem.W.isFn K (.ref f) = true) (bt : BinT K C nm T)
    (go : wpAny (model prog w) A (call (.ref f) [.ref x, b]) (PySem.W.CmpBack Q) E s) : wpAny (model prog w) A (binaryOp op (.ref x) b) Q E s := by
  obtain ⟨cd, tail, ecd, emro⟩ := PySem.W.ksp_first first
  obtain ⟨rc, erc, prc⟩ := bt.rc
  obtain ⟨fo, efo⟩ := bt.fo
  obtain ⟨ro, ero⟩ := bt.ro
  have tried := PySem.W.ksp_try kin J own isF go
  rcases info : op.info with ⟨sym, nm2⟩
  rw [info] at en
  have en2 : nm2 = nm := en
  subst en2
  obtain ⟨hp, gg, dd, tk, oo⟩ := s
  have tyX : PySem.W.Looks (model prog w) hp (typeOf (.ref x)) (.ref C) := J.type
  have tyV : PySem.W.Looks (model prog w) hp (typeOf b) (.type T) := tyB
  have fillX : PySem.W.Looks (model prog w) hp (fillsNumberSlot (.ref C) nm2) true := PySem.W.fills_K kin ecd emro own
  have fillV := PySem.W.ksp_fillsT (M := model prog w) kin efo ero
  have subV : PySem.W.Looks (model prog w) hp (isSubtype (.type T) (.ref C)) false := PySem.W.looks_subIn kin bt.sb
  have pyX : PySem.W.Looks (model prog w) hp (numberSlotInPython (.ref C) nm2) true := PySem.W.ksp_inPy kin own erc prc
  have pyV : PySem.W.Looks (model prog w) hp (numberSlotInPython (.type T) nm2) false := PySem.W.Looks.of_pure rfl
  have refl : PySem.W.Looks (model prog w) hp (typeLookup (.type T) (dunderR nm2)) ro := PySem.W.looks_findIn kin ero
  generalize ((fo.isSome && !isSeqSlot fo) || (ro.isSome && !isSeqSlot ro)) = side at fillV
  have unlike : (Value.ref C == Value.type T) = false := Bool.eq_false_iff.mpr fun z => by cases beq_iff_eq.mp z
  unfold binaryOp
  simp only [info]
  refine wpAny_holding (wpAny_bind ?_)
  unfold binaryOp1
  refine wpAny_bind (tyX.at (wpAny_bind (tyV.at (wpAny_bind (fillX.at ?_)))))
  simp only [unlike, Bool.false_eq_true, if_false]
  cases side
  all_goals
    ksp_lk
    refine wpAny_mono tried (fun out s2 got => ?_) fun _ _ z => z
    obtain ⟨v, rfl, hv⟩ := got
    ksp_lk
    exact hv
/-- the type of a plain value -/
theorem ty_looks {X : Cx} {pins : List (Addr × Obj)} {σ : L2.St} {H : Hp} {s : Shared} {v : V} {u : Value} (I : Inv X pins σ H s) (p : Ptv X.K H v) (r : RelV v u) : PySem.W.Looks (model X.prog X.w) s.heap (typeOf u) (.type (tyNm v)) := by
  cases p with
  | non =>
    obtain rfl : u = .none := r
    exact PySem.W.Looks.of_pure rfl
  | bl b =>
    obtain rfl : u = .bool b := r
    exact PySem.W.Looks.of_pure rfl
  | int i =>
    obtain ⟨t, rfl⟩ := r
    exact PySem.W.Looks.of_pure rfl
  | str h =>
    obtain ⟨t, rfl⟩ := r
    exact PySem.W.Looks.of_pure rfl
  | @tup a xs h =>
    obtain rfl : u = .ref a := r
    obtain ⟨its, r2, pl, hz⟩ := I.tuple h
    obtain ⟨o, ho, hc, _⟩ := pl
    intro A Q E s' k q
    exact wpAny_typeOf_ref (k _ _ ho) (by rw [hc]; exact q)
def rBinG (K : PySem.W.Frag) (C : Addr) (sp : Sp) (E : XK) : R2 := fun x y H Q => ∃ a dx fs, x = .ref a ∧ Ptv K H y ∧ H a = some (.ins C dx fs) ∧ sp [x, y] H (fun v H' => ∃ b, v = .ref b ∧ Q (.ref b) H') E
/-- the types that stand at the right -/
abbrev plainT : List String := ["NoneType", "bool", "int", "str", "tuple"]
section
variable {X : Cx} {CX : CXT} {k : Nat} {C g : Addr} {fd : FuncData} {ps : List Str} {sp : Sp} {E : XK} {nm : String} {op : Operator}
theorem run_binO (hi : PySem.W.findIn X.K (.ref C) (PySem.dunder nm) = some (some (.ref g))) (isF : PySem.W.isFn X.K (.ref g) = true) (hc : PySem.W.selfFirst X.K C = true) (en : op.info.2 = nm) (bt : ∀ T ∈ plainT, BinT X.K C nm T) (F : FnOk X.prog X.w X.K X.mg X.base CX k g fd ps sp) (hr : Room k X.A) (hb : Binds X.K fd ps [])
    {pins : List (Addr × Obj)} {s : Shared} {σ : L2.St} {H : Hp} {x y : V} {v u : Value} {Q : VK} (hx : PassesAt CX X σ E) (I : Inv X pins σ H s) (rx : RelV x v) (ry : RelV y u) (h : rBinG X.K C sp E x y H Q) : wpAny (model X.prog X.w) X.A (binaryOp op v u) (EP X pins σ Q) X.xe s := by
  obtain ⟨a, dx, fs, rfl, py, ea, hs⟩ := h
  obtain rfl : v = Value.ref a := rx
  obtain ⟨mA, O, _, _, _, _⟩ := ins_get I.hok ea
  obtain ⟨od, J, _⟩ := O.look
  have hT : tyNm y ∈ plainT := by
    rcases py.nm with e | e | e | e | e <;> rw [e] <;> decide
  have hl := F.len _ _ _ _ hs
  have bnd := hb s [.ref a, u] I.kIn (by simpa using hl)
  refine own_binL I.kIn J (ty_looks I py ry) hc en hi isF (bt _ hT) ?_
  refine wpAny_call (codeAny_mono (F.run X.A X.stack s H ⟨[.ref a, u], []⟩ [.ref a, u] [.ref a, y] _ E hr I.env0 (by simpa using bnd) (.cons rfl (.cons ry .nil)) hs) fun r s' hq => ?_)
  cases r with
  | error er => exact hx pins H s er s' I hq
  | ok fl =>
    cases fl with
    | ret u2 =>
      obtain ⟨v2, H', I3, rv, b, rfl, q⟩ := I.after hq
      obtain rfl : u2 = Value.ref b := rv
      exact ⟨.ref b, H', I3, rfl, q⟩
    | next => exact False.elim hq
    | brk => exact False.elim hq
    | cont => exact False.elim hq
theorem op_binO (hi : PySem.W.findIn X.K (.ref C) (PySem.dunder nm) = some (some (.ref g))) (isF : PySem.W.isFn X.K (.ref g) = true) (hc : PySem.W.selfFirst X.K C = true) (en : op.info.2 = nm) (bt : ∀ T ∈ plainT, BinT X.K C nm T) (F : FnOk X.prog X.w X.K X.mg X.base CX k g fd ps sp) (hr : Room k X.A) (hb : Binds X.K fd ps [])
    (hx : Passes CX X E) : OpR X (binaryOp op) (rBinG X.K C sp E) := fun pins s σ H x y v u Q I rx ry h => run_binO hi isF hc en bt F hr hb (fun pins H s e s2 I h => hx pins σ H s e s2 I h) I rx ry h
/-- o + p, both of the class -/
def rAddO (C : Addr) (sp : Sp) (E : XK) : R2 := fun x y H Q => ∃ a dx fs b dy gs, x = .ref a ∧ y = .ref b ∧ H a = some (.ins C dx fs) ∧ H b = some (.ins C dy gs) ∧ sp [x, y] H (fun v H' => ∃ r, v = .ref r ∧ Q (.ref r) H') E
theorem op_ownO (hi : PySem.W.findIn X.K (.ref C) (PySem.dunder nm) = some (some (.ref g))) (isF : PySem.W.isFn X.K (.ref g) = true) (hc : PySem.W.selfFirst X.K C = true) (en : op.info.2 = nm) (F : FnOk X.prog X.w X.K X.mg X.base CX k g fd ps sp) (hr : Room k X.A) (hb : Binds X.K fd ps [])
    (hx : Passes CX X E) : OpR X (binaryOp op) (rAddO C sp E) := by
  intro pins s σ H x y v u Q I rx ry h
  obtain ⟨a, dx, fs, b, dy, gs, rfl, rfl, ea, eb, hs⟩ := h
  obtain rfl : v = Value.ref a := rx
  obtain rfl : u = Value.ref b := ry
  obtain ⟨mA, O, _, _, _, _⟩ := ins_get I.hok ea
  obtain ⟨od, J, _⟩ := O.look
  obtain ⟨mB, O2, _, _, _, _⟩ := ins_get I.hok eb
  obtain ⟨od2, J2, _⟩ := O2.look
  obtain ⟨m0, hF⟩ := I.fr
  have hl := F.len _ _ _ _ hs
  have bnd := hb s [.ref a, .ref b] I.kIn (by simpa using hl)
  refine PySem.W.binop_K (op := op) hF I.ok.mod.kin J J2.type hc (by rw [en]; exact hi) isF ?_
  refine wpAny_call (codeAny_mono (F.run X.A X.stack s H ⟨[.ref a, .ref b], []⟩ [.ref a, .ref b] [.ref a, .ref b] _ E hr I.env0 (by simpa using bnd) (.cons rfl (.cons rfl .nil)) hs) fun r s' hq => ?_)
  cases r with
  | error er => exact hx pins σ H s er s' I hq
  | ok fl =>
    cases fl with
    | ret u2 =>
      obtain ⟨v2, H', I3, rv, c, rfl, q⟩ := I.after hq
      obtain rfl : u2 = Value.ref c := rv
      exact ⟨.ref c, H', I3, rfl, q⟩
    | next => exact False.elim hq
    | brk => exact False.elim hq
    | cont => exact False.elim hq
/-- abs(o) -/
def rAbsO (C : Addr) (sp : Sp) (E : XK) : List V → Hp → VK → Prop := fun xs H Q => ∃ a dx fs, xs = [.ref a] ∧ H a = some (.ins C dx fs) ∧ sp [.ref a] H (fun v H' => ∃ r, v = .ref r ∧ Q (.ref r) H') E
theorem call_absO (hi : PySem.W.findIn X.K (.ref C) "__abs__" = some (some (.ref g))) (isF : PySem.W.isFn X.K (.ref g) = true) (F : FnOk X.prog X.w X.K X.mg X.base CX k g fd ps sp) (hr : Room (k + 1) X.A) (hb : Binds X.K fd ps []) (hx : Passes CX X E) : CallR X (.builtin "abs") (rAbsO C sp E) := by
  intro pins s σ H xs us Q I r h
  obtain ⟨a, dx, fs, rfl, ea, hs⟩ := h
  rw [Vals.ref1 r]
  obtain ⟨mA, O, _, _, _, _⟩ := ins_get I.hok ea
  obtain ⟨od, J, _⟩ := O.look
  have hl := F.len _ _ _ _ hs
  have bnd := hb s [.ref a] I.kIn (by simpa using hl)
  refine Calls.call_function_entry PyProof.Rows.kind_abs PyProof.Rows.plain_abs PyProof.Rows.entry_abs (PyProof.Rows.args_abs _) ?_
  unfold Builtin.«abs»
  refine wpAny_bind (m := oneArg "abs" _) (wpAny_pure ?_)
  refine wpAny_bind (m := callSpecial? (.ref a) (Str.ofString "__abs__")) (PySem.W.special_fn I.kIn J hi (beq_iff_eq.mp isF) ?_)
  refine wpAny_call (codeAny_mono (F.run X.A.in1 X.stack s H ⟨[.ref a], []⟩ [.ref a] [.ref a] _ E hr.in1 I.env0.in1 (by simpa using bnd) (.cons rfl .nil) hs) fun r2 s' hq => ?_)
  cases r2 with
  | error er => exact hx pins σ H s er s' I hq
  | ok fl =>
    cases fl with
    | ret u2 =>
      obtain ⟨v2, H', I3, rv, c, rfl, q⟩ := I.after hq
      obtain rfl : u2 = Value.ref c := rv
      exact wpAny_pure ⟨_, rfl, ⟨.ref c, H', I3, rfl, q⟩⟩
    | next => exact False.elim hq
    | brk => exact False.elim hq
    | cont => exact False.elim hq
end
/-- o op v in a try: what leaves its def is told at the slots -/
def tBinO (K : PySem.W.Frag) (C : Addr) (sp : Sp) (E : L2.St → XK) (tl tr : TE) : TE := fun σ H Q => tl σ H fun x H1 => tr σ H1 fun y H2 => rBinG K C sp (E σ) x y H2 Q
theorem pe_binO {X : Cx} {CX : CXT} {k : Nat} {C g : Addr} {fd : FuncData} {ps : List Str} {sp : Sp} {E : L2.St → XK} {nm : String} {op : Operator} {a b : Expr} {tl tr : TE} {pos : Pos} (ha : PE X a tl) (hb0 : PE X b tr)
    (hi : PySem.W.findIn X.K (.ref C) (PySem.dunder nm) = some (some (.ref g))) (isF : PySem.W.isFn X.K (.ref g) = true) (hc : PySem.W.selfFirst X.K C = true) (en : op.info.2 = nm) (bt : ∀ T ∈ plainT, BinT X.K C nm T) (F : FnOk X.prog X.w X.K X.mg X.base CX k g fd ps sp) (hr : Room k X.A) (hb : Binds X.K fd ps [])
    (hx : ∀ σ, PassesAt CX X σ (E σ)) : PE X (.BinOp a op b pos) (tBinO X.K C sp E tl tr) := by
  refine ⟨fun pins s σ H Q I h => ?_⟩
  exact wpAny_BinOp (binT ha hb0 I h fun v u s2 x y H2 I2 rx ry q => run_binO hi isF hc en bt F hr hb (hx σ) I2 rx ry q)
/-- its //, %, << beside any plain value -/
def partsB (K : PySem.W.Frag) (C : Addr) : Bool := ["floordiv", "mod", "lshift"].all fun nm => plainT.all fun T => binB K C nm T
theorem partsB_ok {K : PySem.W.Frag} {C : Addr} (h : partsB K C = true) {nm : String} (hn : nm ∈ ["floordiv", "mod", "lshift"]) : ∀ T ∈ plainT, BinT K C nm T := fun T hT => binB_ok (List.all_eq_true.mp (List.all_eq_true.mp h nm hn) T hT)
end Tp
/-! Dv: i // j, of whole numbers of any size -/
namespace Tp
open PySem PySem.Spec PyProof.Rows L2 He
/-- what a heap is to tell of the statics, the modules, the builtins, that a division of great numbers goes on -/
structure Seer2 (base : Heap) (mg : Str → Option Value) : Prop where
  statics : ∃ mc, base.Ns cStatics mc ∧ mc "sys.audit-hooks" = none ∧ mc "sys.dict" = none
  mods : ∃ mm, base.Ns sysModules mm ∧ mm "_pylong" = none
  bm : ∃ (bm : Addr) (ob : Obj), mg "__builtins__" = some (.ref bm) ∧ base.get? bm = some ob ∧ ob.cls = .type "module" ∧ ob.dict = some builtinsNs
def nsNoB (K : PySem.W.Frag) (a : Addr) (xs : List Str) : Bool := match K.lookup a with
  | some ⟨_, _, .dict es _, _⟩ => es.toList.all (fun e => match e.key with
      | .str _ _ => true
      | _ => false) && xs.all fun x => (nsFind es x).isNone
  | _ => false
theorem nsNo_ok {K : PySem.W.Frag} {h : Heap} {a : Addr} {xs : List Str} (X : K.In h) (e : nsNoB K a xs = true) : ∃ m, h.Ns a m ∧ ∀ x ∈ xs, m x = none := by
  unfold nsNoB at e
  split at e
  · rename_i _ _ es _ _ hk
    obtain ⟨h1, h2⟩ := ba e
    refine ⟨nsFind es, ⟨_, es, _, X _ _ hk, rfl, fun en hen => ?_, fun _ => rfl⟩, fun x hx => Option.isNone_iff_eq_none.mp (List.all_eq_true.mp h2 x hx)⟩
    have h3 := List.all_eq_true.mp h1 en (Array.mem_toList_iff.mpr hen)
    cases hkey : en.key with
    | str n t => exact ⟨n, t, rfl⟩
    | _ => rw [hkey] at h3; cases h3
  · cases e
def seerB (K : PySem.W.Frag) : Bool := nsNoB K cStatics ["sys.audit-hooks", "sys.dict"] && nsNoB K sysModules ["_pylong"]
theorem seerB_ok {K : PySem.W.Frag} {base : Heap} {mg : Str → Option Value} {c P : Addr} (e : seerB K = true) (X : K.In base) (TB : LamX.TabB base mg c P) : Seer2 base mg := by
  obtain ⟨e1, e2⟩ := ba e
  obtain ⟨m1, n1, a1⟩ := nsNo_ok X e1
  obtain ⟨m2, n2, a2⟩ := nsNo_ok X e2
  obtain ⟨bm, o, b1, _, _, _, b5, b6, b7, _⟩ := TB.bm
  exact ⟨⟨m1, n1, a1 _ (by simp), a1 _ (by simp)⟩, ⟨m2, n2, a2 _ (by simp)⟩, ⟨bm, o, b1, b5, b6, b7⟩⟩
theorem op_fdivP {X : Cx} {l : List Env} (hS : Seer2 X.base X.mg) (ht : X.prog.given.tree = none) (hst : X.stack = X.env :: l) (hgen : X.env.scope.isGenerator = false) (hco : X.env.scope.isCoroutine = false) (hd : X.A.depth + Builtin.pylongFrames < recursionLimit) :
    OpR X (binaryOp .FloorDiv) (rI (fun _ j => 0 < j) fun i j => .int (i / j)) := by
  intro pins s σ H x y v u Q I rx ry h
  obtain ⟨i, j, rfl, rfl, hc, q⟩ := h
  obtain ⟨t, rfl⟩ := rx
  obtain ⟨t', rfl⟩ := ry
  have hj : (0 : Int) < j := hc
  obtain ⟨bm, ob, b1, b2, b3, b4⟩ := hS.bm
  have hN : X.base.NoSeer := ⟨hS.statics, hS.mods, I.ok.mod.blt, ⟨X.mg, bm, ob, I.ok.mod.glob, b1, b2, b3, b4⟩⟩
  have seer : SeerAt (model X.prog X.w) X.A s.heap := SeerAt.of (hN.keeps I.bk) ht (by rw [I.ok.frames, hst]) hgen hco I.ok.blt I.ok.glob
  refine floordiv_int (by omega) ?_ (.inr (PylongRoom.of I.nolimit hd seer))
  rw [Int.fdiv_eq_ediv_of_nonneg i (by omega)]
  exact ⟨.int (i / j), H, I.tok _, ⟨_, rfl⟩, q⟩
end Tp
/-! Fv: numbers of forms mapped -/
namespace Tp
open PySem PySem.Spec PyProof.Rows L2 He
theorem keys_map {f : Int → Int} {ns : List Nm} : (ns.map fun q => ((q.1, f q.2) : Nm)).map (·.1) = ns.map (·.1) := by
  rw [List.map_map]
  rfl
theorem giveN_mapF {f : Int → Int} {x : Am} (f0 : f 0 = 0) : ∀ {ns : List Nm}, (ns.map (·.1)).Nodup → giveN (ns.map fun q => (q.1, f q.2)) x = f (numN ns x)
  | [], _ => f0.symm
  | q :: r, nd => by
    have h1 := List.nodup_cons.mp (show (q.1 :: r.map (·.1)).Nodup from nd)
    rw [List.map_cons, giveN_cons]
    by_cases e : q.1 = x
    · rw [if_pos e, giveN_no (by rw [keys_map, ← e]; exact h1.1), ← e, numN_at nd List.mem_cons_self]
      show f q.2 + 0 = f q.2
      omega
    · rw [if_neg e, giveN_mapF f0 h1.2]
      unfold numN
      rw [List.find?_cons, decide_eq_false e]
      show 0 + _ = _
      rw [Int.zero_add]
/-- what is in order, without noughts, stays -/
theorem fix_tidy {L : List Nm} (nd : (L.map (·.1)).Nodup) (w : ∀ q ∈ L, wdO q.1.1) (srt : L.Pairwise fun a b => leN a b = true) (nz : ∀ q ∈ L, q.2 ≠ 0) : tidyD (sumN L) = L := by
  refine sorted_same (nodup_tidyD (nodup_sumN L)) nd (wd_tidy (wd_sum w)) (tidy_sorted _) srt fun q => ?_
  rw [tidy_mem]
  constructor
  · rintro ⟨h1, h2⟩
    have h3 := numN_at (nodup_sumN L) h1
    rw [numN_sum, giveN_nodup nd] at h3
    exact (num_mem nd h2).mpr h3
  · intro h
    have h2 := nz q h
    refine ⟨(num_mem (nodup_sumN L) h2).mpr ?_, h2⟩
    rw [numN_sum, giveN_nodup nd]
    exact numN_at nd h
theorem fix_map {f : Int → Int} {T : List Nm} (w : ∀ q ∈ T, wdO q.1.1) (fz : ∀ z, z ≠ 0 → f z ≠ 0) : tidyD (sumN ((tidyD (sumN T)).map fun q => (q.1, f q.2))) = (tidyD (sumN T)).map fun q => (q.1, f q.2) := by
  refine fix_tidy (by rw [keys_map]; exact nodup_tidyD (nodup_sumN T)) (fun q hq => ?_) ?_ fun q hq => ?_
  · obtain ⟨r, hr, rfl⟩ := List.mem_map.mp hq
    exact wd_tidy (wd_sum w) r hr
  · exact List.pairwise_map.mpr ((tidy_sorted (sumN T)).imp fun h => h)
  · obtain ⟨r, hr, rfl⟩ := List.mem_map.mp hq
    exact fz _ (tidy_mem.mp hr).2
theorem fix_shift {k : Nat} {T : List Nm} (w : ∀ q ∈ T, wdO q.1.1) : tidyD (sumN ((tidyD (sumN T)).map fun q => ((q.1.1, q.1.2 + k), q.2))) = (tidyD (sumN T)).map fun q => ((q.1.1, q.1.2 + k), q.2) := by
  refine fix_tidy ?_ (fun q hq => ?_) ?_ fun q hq => ?_
  · have nd := nodup_tidyD (nodup_sumN T)
    rw [List.map_map]
    rw [show ((fun q : Nm => q.1) ∘ fun q : Nm => (((q.1.1, q.1.2 + k), q.2) : Nm)) = (fun a : Am => (a.1, a.2 + k)) ∘ (fun q : Nm => q.1) from rfl, ← List.map_map]
    refine List.Pairwise.map _ (fun a b h z => h ?_) nd
    injection z with z1 z2
    exact Prod.ext z1 (by omega)
  · obtain ⟨r, hr, rfl⟩ := List.mem_map.mp hq
    exact wd_tidy (wd_sum w) r hr
  · refine List.pairwise_map.mpr ((tidy_sorted (sumN T)).imp fun {a b} h => ?_)
    have e := of_decide_eq_true h
    exact decide_eq_true (by
      show a.1.2 + k < b.1.2 + k ∨ (a.1.2 + k = b.1.2 + k ∧ wPl a.1.1 ≤ wPl b.1.1)
      omega)
  · obtain ⟨r, hr, rfl⟩ := List.mem_map.mp hq
    exact (tidy_mem.mp hr).2
/-- quotients and remainders together -/
theorem quo_rem {T : List Nm} {d : Int} (hd : 0 < d) (w : ∀ q ∈ T, wdO q.1.1) :
    tidyD (sumN (tidyD (sumN ((tidyD (sumN ((tidyD (sumN T)).map fun q => (q.1, q.2 / d)))).map fun q => (q.1, q.2 * d))) ++ tidyD (sumN ((tidyD (sumN T)).map fun q => (q.1, q.2 % d))))) = tidyD (sumN T) := by
  have w1 := wd_tidy (wd_sum w)
  have wm : ∀ (f : Int → Int) {ns : List Nm}, (∀ q ∈ ns, wdO q.1.1) → ∀ q ∈ ns.map (fun q : Nm => ((q.1, f q.2) : Nm)), wdO q.1.1 := fun f ns h q hq => by
    obtain ⟨r, hr, rfl⟩ := List.mem_map.mp hq
    exact h r hr
  have w2 := wd_tidy (wd_sum (wm (· / d) w1))
  refine sums_same (wd_app (wd_tidy (wd_sum (wm (· * d) w2))) (wd_tidy (wd_sum (wm (· % d) w1)))) fun x => ?_
  rw [giveN_app, give_tidy, give_tidy, giveN_mapF (f := fun z => z * d) (by simp) (nodup_tidyD (nodup_sumN _)), giveN_mapF (f := fun z => z % d) (by simp) (nodup_tidyD (nodup_sumN _)), numN_tidy (nodup_sumN _), numN_sum,
    giveN_mapF (f := fun z => z / d) (by simp) (nodup_tidyD (nodup_sumN _)), numN_tidy (nodup_sumN _), numN_sum]
  show giveN T x / d * d + giveN T x % d = giveN T x
  rw [Int.mul_comm]
  exact Int.mul_ediv_add_emod _ _
end Tp
/-! Hb: Bool checks of a head for own error classes, class constants -/
namespace Tp
open PySem PySem.Spec PyProof.Rows L2 He ClX
def oexB (K : PySem.W.Frag) (C : Addr) : Bool := match K.lookup C with
  | some ⟨.type "type", _, .cls cd, sl⟩ => (match cd.mro, sl.toList with
    | .ref C' :: bm, [_, _, _, _, some (.builtin n), _] => C' == C && n == "ValueError.__new__" && !cd.hasDel && cd.hasDict && PySem.HandSPX.refsVE bm
    | _, _ => false)
  | _ => false
theorem oexB_ok {K : PySem.W.Frag} {C : Addr} (q : oexB K C = true) : ∃ nm q N bs bm sn sub ab col dd k0 k1 k2 k3 k5, K.lookup C = some (excClassObj nm q C N bs bm true sn sub ab col dd k0 k1 k2 k3 k5 "ValueError.__new__") ∧ PySem.HandSPX.refsVE bm = true := by
  unfold oexB at q
  split at q
  · rename_i dd cd sl ho
    split at q
    · rename_i C' bm k0 k1 k2 k3 n k5 hm hs
      simp only [Bool.and_eq_true, beq_iff_eq, Bool.not_eq_true'] at q
      obtain ⟨⟨⟨⟨rfl, rfl⟩, hdel⟩, hdict⟩, ht⟩ := q
      obtain ⟨nm, bs, mro, ns, qn, hd, sn, sub, ab, col, del⟩ := cd
      dsimp only at hm hdel hdict
      subst hm hdel hdict
      have hsl : sl = #[k0, k1, k2, k3, some (.builtin "ValueError.__new__"), k5] := by
        obtain ⟨l⟩ := sl
        simp only at hs
        rw [hs]
      subst hsl
      exact ⟨nm, qn, ns, bs, bm, sn, sub, ab, col, dd, k0, k1, k2, k3, k5, ho, ht⟩
    · cases q
  · cases q
def excCB (K : PySem.W.Frag) (D : Addr) : Bool := eqO (PySem.W.findIn K (.ref D) "__getattribute__") (some (some (.builtin "BaseException.__getattribute__"))) && (eqO (PySem.W.findIn K (.ref D) "__getattr__") (some none) && (decide (PySem.W.subIn K (.ref D) (.type "BaseException") = some true) && (PySem.W.hasDictIn K D &&
  (eqO (PySem.W.findIn K (.ref D) "__class__") (some (some (.builtin "object.__class__"))) && (eqO (PySem.W.specialIn K (.builtin "object.__class__") "__get__") (some (some (.builtin "getset_descriptor.__get__"))) && (decide (PySem.W.takesIn K (.builtin "object.__class__") = some true) && decide (PySem.W.mroIn K D (.type "object") = some true)))))))
theorem excCB_ok {K : PySem.W.Frag} {D : Addr} (h : excCB K D = true) : ExcC K D := by
  obtain ⟨h1, h⟩ := ba h
  obtain ⟨h2, h⟩ := ba h
  obtain ⟨h3, h⟩ := ba h
  obtain ⟨h4, h⟩ := ba h
  obtain ⟨h5, h⟩ := ba h
  obtain ⟨h6, h⟩ := ba h
  obtain ⟨h7, h8⟩ := ba h
  exact ⟨eqO_ok h1, eqO_ok h2, of_decide_eq_true h3, h4, eqO_ok h5, eqO_ok h6, of_decide_eq_true h7, of_decide_eq_true h8⟩
/-- an own error class over the class named y, whose __init__ sets the field -/
def exBB (K : PySem.W.Frag) (y x : Str) : Bool := oexB K (ga K x) && (eqO (PySem.W.findIn K (.ref (ga K x)) "__setattr__") (some (some (.builtin "object.__setattr__"))) && (decide (PySem.W.subIn K (.ref (ga K x)) (.type "BaseException") = some true) && (decide (PySem.W.typeIn K (.ref (ga K x)) = some (.type "type")) &&
  (PySem.W.keepIn K (.ref (ga K x)) && (eqO (PySem.W.findIn K (.ref (ga K x)) "__init__") (some (some (.ref (ma K (ga K y) "__init__")))) && (decide (PySem.W.typeIn K (.ref (ma K (ga K y) "__init__")) = some (.type "function")) && (eqO (PySem.W.findIn K (.ref (ga K x)) "thing") (some none) && (xfB K (ga K x) && excCB K (ga K x)))))))))
theorem exBB_ok {K : PySem.W.Frag} {y x : Str} (h : exBB K y x = true) : ExB K (ga K x) (ma K (ga K y) "__init__") := by
  obtain ⟨h1, h⟩ := ba h
  obtain ⟨h2, h⟩ := ba h
  obtain ⟨h3, h⟩ := ba h
  obtain ⟨h4, h⟩ := ba h
  obtain ⟨h5, h⟩ := ba h
  obtain ⟨h6, h⟩ := ba h
  obtain ⟨h7, h⟩ := ba h
  obtain ⟨h8, h⟩ := ba h
  obtain ⟨h9, h10⟩ := ba h
  exact ⟨⟨oexB_ok h1, eqO_ok h2, of_decide_eq_true h3, of_decide_eq_true h4, h5⟩, eqO_ok h6, of_decide_eq_true h7, eqO_ok h8, xfB_ok h9, excCB_ok h10⟩
/-! ### the hook: facts, defs, an own Bool; the statics' table beside -/
def asZ (g : Addr → Option Obj) (n : Nat) : List Addr := asD g n ++ [cStatics]
abbrev AlZ : Type := AlD × Bool
end Tp
/-! Hc: a hook that also reads defs at addresses of one's own (a property's getter, its setter) -/
namespace Tp
open PySem PySem.Spec PyProof.Rows L2 He ClX
def fnWa (K : PySem.W.Frag) (a : Addr) : FnW := match K.lookup a with
  | some ⟨_, _, .func fd, _⟩ => some (fd.name, fd.qualname, fd.params, fd.body, fd.scope, fd.globals, fd.closure, fd.builtins)
  | _ => none
abbrev FxL : Type := List ((PySem.W.Frag → Addr) × DefD)
abbrev AlY : Type := AlZ × List FnW
def fxO (fx : FxL) (K : PySem.W.Frag) : List FnW := fx.map fun p => fnWa K (p.1 K)
def fxV (fx : FxL) : List FnW := fx.map fun p => p.2.val
def obsK (fa : List Fa) (fn : List DefD) (fx : FxL) (ex : PySem.W.Frag → Bool) (K : PySem.W.Frag) : AlY := ((obsD fa fn K, ex K), fxO fx K)
end Tp
/-! Hl: the hook of Hc for a module with a def that makes a lambda: its code object's table, empty, beside the fragment -/
namespace Tp
open PySem PySem.Spec PyProof.Rows L2 He ClX
def refB (v : Value) (a : Addr) : Bool := match v with
  | .ref b => b == a
  | _ => false
theorem refB_ok {v : Value} {a : Addr} (h : refB v a = true) : v = .ref a := by
  cases v with
  | ref b => rw [show b = a from beq_iff_eq.mp h]
  | _ => cases h
def ownB (tf : List Defn) (K : PySem.W.Frag) : Bool := tf.all fun p => refB (codeF K (fAd K p)) (cT K p).1
abbrev AlYL : Type := AlY × Bool
def obsYL (n : Nat) (fa : List Fa) (fn : List DefD) (fx : FxL) (tf : List Defn) (ex : PySem.W.Frag → Bool) (g : Addr → Option Obj) : AlYL := (obsK fa fn fx ex (frT g (asZ g n ++ [sysModules])), tabsB g tf (frT g (asZ g n ++ [sysModules])) && ownB tf (frT g (asZ g n ++ [sysModules])))
structure SaysL (tf : List Defn) (h : Heap) (K : PySem.W.Frag) : Prop where
  hd : ∀ p ∈ tf, PySem.W.codeHdIn K (cT K p).1 (cT K p).2 = true
  out : ∀ p ∈ tf, K.lookup (cT K p).2 = none
  empty : ∀ p ∈ tf, h.get? (cT K p).2 = some { cls := .none, data := .fields #[] }
  own : ∀ p ∈ tf, codeF K (fAd K p) = .ref (cT K p).1
theorem saysL_of {n : Nat} {tf : List Defn} {h : Heap} (e : (tabsB h.get? tf (frT h.get? (asZ h.get? n ++ [sysModules])) && ownB tf (frT h.get? (asZ h.get? n ++ [sysModules]))) = true) : SaysL tf h (frT h.get? (asZ h.get? n ++ [sysModules])) := by
  obtain ⟨h1, h2⟩ := ba e
  have key : ∀ p ∈ tf, PySem.W.codeHdIn (frT h.get? (asZ h.get? n ++ [sysModules])) (cT (frT h.get? (asZ h.get? n ++ [sysModules])) p).1 (cT (frT h.get? (asZ h.get? n ++ [sysModules])) p).2 = true ∧ ∃ o, h.get? (cT (frT h.get? (asZ h.get? n ++ [sysModules])) p).2 = some o ∧ emptyTab o = true := fun p hp => by
    obtain ⟨h3, h4⟩ := ba (List.all_eq_true.mp h1 p hp)
    refine ⟨h3, ?_⟩
    cases q : h.get? (cT (frT h.get? (asZ h.get? n ++ [sysModules])) p).2 with
    | none =>
      rw [q] at h4
      cases h4
    | some o =>
      rw [q] at h4
      exact ⟨o, rfl, h4⟩
  exact ⟨fun p hp => (key p hp).1, fun p hp => by
    obtain ⟨_, o, q, z⟩ := key p hp
    exact frT_none q z, fun p hp => by
    obtain ⟨_, o, q, z⟩ := key p hp
    rw [q, emptyTab_eq z], fun p hp => refB_ok (List.all_eq_true.mp h2 p hp)⟩
def hookYL (n : Nat) (fa : List Fa) (fn : List DefD) (fx : FxL) (tf : List Defn) (ex : PySem.W.Frag → Bool) : PySem.W.Hook where
  α := AlYL
  obs := fun s => obsYL n fa fn fx tf ex s.heap.get?
  val := fun _ => (((valD fn, true), fxV fx), true)
  says := fun _ h => ∃ K : PySem.W.Frag, K.In h ∧ SaysD fa fn K ∧ ex K = true ∧ fxO fx K = fxV fx ∧ SaysL tf h K
  of := fun _ _ e => ⟨_, frT_in, congrArg (fun z : AlYL => z.1.1.1) e, congrArg (fun z : AlYL => z.1.1.2) e, congrArg (fun z : AlYL => z.1.2) e, saysL_of (congrArg (fun z : AlYL => z.2) e)⟩
  keeps := fun _ _ _ ⟨K, hK, c, x, y, l⟩ k => ⟨K, PySem.W.Frag.In.keeps hK k, c, x, y, ⟨l.hd, l.out, fun p hp => k _ _ (l.empty p hp), l.own⟩⟩
theorem obsYL_eq {n : Nat} {fa : List Fa} {fn : List DefD} {fx : FxL} {tf : List Defn} {ex : PySem.W.Frag → Bool} {g : Addr → Option Obj} {s : Shared} (h : ∀ a, g a = s.heap.get? a) : obsYL n fa fn fx tf ex g = (hookYL n fa fn fx tf ex).obs s := by
  have e : g = s.heap.get? := funext h
  rw [e] <;> rfl
end Tp
namespace K3
open PySem PySem.Spec PyProof.Rows L2 He Tp ClX LiI

def top (i : Nat) : Stmt := PySem.Challenge.pw_tiredpots_k03_parts_of_forms.main.body.getD i (.Pass ⟨0, 0, 0, 0⟩)
abbrev s_DyeError___init__ : Stmt := inClass (top 1) 0
abbrev n_DyeError___init__ : List Str := ["self", "thing"]
theorem sc_DyeError___init__ : FnScope n_DyeError___init__ ["self", "thing"] (defScope s_DyeError___init__) := ⟨rfl, rfl, rfl, by decide +kernel, rfl, by decide +kernel, by decide +kernel⟩

abbrev s_is_whole : Stmt := top 6
abbrev n_is_whole : List Str := ["value"]
theorem sc_is_whole : FnScope n_is_whole ["value"] (defScope s_is_whole) := ⟨rfl, rfl, rfl, by decide +kernel, rfl, by decide +kernel, by decide +kernel⟩

abbrev s_is_amount : Stmt := top 7
abbrev n_is_amount : List Str := ["value"]
theorem sc_is_amount : FnScope n_is_amount ["value"] (defScope s_is_amount) := ⟨rfl, rfl, rfl, by decide +kernel, rfl, by decide +kernel, by decide +kernel⟩

abbrev s_amount_place : Stmt := top 8
abbrev n_amount_place : List Str := ["amount"]
theorem sc_amount_place : FnScope n_amount_place ["amount"] (defScope s_amount_place) := ⟨rfl, rfl, rfl, by decide +kernel, rfl, by decide +kernel, by decide +kernel⟩

abbrev s_check_amount : Stmt := top 9
abbrev n_check_amount : List Str := ["value"]
theorem sc_check_amount : FnScope n_check_amount ["value"] (defScope s_check_amount) := ⟨rfl, rfl, rfl, by decide +kernel, rfl, by decide +kernel, by decide +kernel⟩

abbrev s_check_whole : Stmt := top 10
abbrev n_check_whole : List Str := ["value"]
theorem sc_check_whole : FnScope n_check_whole ["value"] (defScope s_check_whole) := ⟨rfl, rfl, rfl, by decide +kernel, rfl, by decide +kernel, by decide +kernel⟩

abbrev s_check_least : Stmt := top 11
abbrev n_check_least : List Str := ["value", "least"]
theorem sc_check_least : FnScope n_check_least ["value", "least"] (defScope s_check_least) := ⟨rfl, rfl, rfl, by decide +kernel, rfl, by decide +kernel, by decide +kernel⟩

abbrev s__tidy : Stmt := top 13
abbrev n__tidy : List Str := ["numbers", "ordered", "amount"]
theorem sc__tidy : FnScope n__tidy ["numbers"] (defScope s__tidy) := ⟨rfl, rfl, rfl, by decide +kernel, rfl, by decide +kernel, by decide +kernel⟩

abbrev s__summed : Stmt := top 14
abbrev n__summed : List Str := ["terms", "numbers", "amount", "number"]
theorem sc__summed : FnScope n__summed ["terms"] (defScope s__summed) := ⟨rfl, rfl, rfl, by decide +kernel, rfl, by decide +kernel, by decide +kernel⟩

abbrev s_Form___init__ : Stmt := inClass (top 15) 0
abbrev n_Form___init__ : List Str := ["self", "terms"]
theorem sc_Form___init__ : FnScope n_Form___init__ ["self", "terms"] (defScope s_Form___init__) := ⟨rfl, rfl, rfl, by decide +kernel, rfl, by decide +kernel, by decide +kernel⟩

abbrev s_Form___getitem__ : Stmt := inClass (top 15) 1
abbrev s_Form___setitem__ : Stmt := inClass (top 15) 2
abbrev n_Form___setitem__ : List Str := ["self", "amount", "number", "numbers", "key"]
theorem sc_Form___setitem__ : FnScope n_Form___setitem__ ["self", "amount", "number"] (defScope s_Form___setitem__) := ⟨rfl, rfl, rfl, by decide +kernel, rfl, by decide +kernel, by decide +kernel⟩

abbrev s_Form___contains__ : Stmt := inClass (top 15) 3
abbrev s_Form___len__ : Stmt := inClass (top 15) 4
abbrev n_Form___len__ : List Str := ["self"]
theorem sc_Form___len__ : FnScope n_Form___len__ ["self"] (defScope s_Form___len__) := ⟨rfl, rfl, rfl, by decide +kernel, rfl, by decide +kernel, by decide +kernel⟩

abbrev s_Form___iter__ : Stmt := inClass (top 15) 5
abbrev n_Form___iter__ : List Str := ["self"]
theorem sc_Form___iter__ : FnScope n_Form___iter__ ["self"] (defScope s_Form___iter__) := ⟨rfl, rfl, rfl, by decide +kernel, rfl, by decide +kernel, by decide +kernel⟩

abbrev s_Form___eq__ : Stmt := inClass (top 15) 6
abbrev n_Form___eq__ : List Str := ["self", "other"]
theorem sc_Form___eq__ : FnScope n_Form___eq__ ["self", "other"] (defScope s_Form___eq__) := ⟨rfl, rfl, rfl, by decide +kernel, rfl, by decide +kernel, by decide +kernel⟩

abbrev s_Form___add__ : Stmt := inClass (top 15) 7
abbrev n_Form___add__ : List Str := ["self", "other"]
theorem sc_Form___add__ : FnScope n_Form___add__ ["self", "other"] (defScope s_Form___add__) := ⟨rfl, rfl, rfl, by decide +kernel, rfl, by decide +kernel, by decide +kernel⟩

abbrev s_Form___iadd__ : Stmt := inClass (top 15) 8
abbrev s_Form___sub__ : Stmt := inClass (top 15) 9
abbrev s_Form___neg__ : Stmt := inClass (top 15) 10
abbrev s_Form___mul__ : Stmt := inClass (top 15) 11
abbrev n_Form___mul__ : List Str := ["self", "other", "amount", "number"]
theorem sc_Form___mul__ : FnScope n_Form___mul__ ["self", "other"] (defScope s_Form___mul__) := ⟨rfl, rfl, rfl, by decide +kernel, rfl, by decide +kernel, by decide +kernel⟩

abbrev s_Form___rmul__ : Stmt := inClass (top 15) 12
abbrev s_Form___floordiv__ : Stmt := inClass (top 15) 13
abbrev n_Form___floordiv__ : List Str := ["self", "other", "amount", "number"]
theorem sc_Form___floordiv__ : FnScope n_Form___floordiv__ ["self", "other"] (defScope s_Form___floordiv__) := ⟨rfl, rfl, rfl, by decide +kernel, rfl, by decide +kernel, by decide +kernel⟩

abbrev s_Form___mod__ : Stmt := inClass (top 15) 14
abbrev n_Form___mod__ : List Str := ["self", "other", "amount", "number"]
theorem sc_Form___mod__ : FnScope n_Form___mod__ ["self", "other"] (defScope s_Form___mod__) := ⟨rfl, rfl, rfl, by decide +kernel, rfl, by decide +kernel, by decide +kernel⟩

abbrev s_Form___lshift__ : Stmt := inClass (top 15) 15
abbrev n_Form___lshift__ : List Str := ["self", "other", "number", "word", "dip"]
theorem sc_Form___lshift__ : FnScope n_Form___lshift__ ["self", "other"] (defScope s_Form___lshift__) := ⟨rfl, rfl, rfl, by decide +kernel, rfl, by decide +kernel, by decide +kernel⟩

abbrev s_Form___abs__ : Stmt := inClass (top 15) 16
abbrev n_Form___abs__ : List Str := ["self", "amount", "number"]
theorem sc_Form___abs__ : FnScope n_Form___abs__ ["self"] (defScope s_Form___abs__) := ⟨rfl, rfl, rfl, by decide +kernel, rfl, by decide +kernel, by decide +kernel⟩

abbrev s_Form___call__ : Stmt := inClass (top 15) 17
abbrev s__law_is_whole : Stmt := top 17
abbrev n__law_is_whole : List Str := ["_law_value"]
theorem sc__law_is_whole : FnScope n__law_is_whole ["_law_value"] (defScope s__law_is_whole) := ⟨rfl, rfl, rfl, by decide +kernel, rfl, by decide +kernel, by decide +kernel⟩

abbrev s__law_source : Stmt := top 18
abbrev n__law_source : List Str := ["_law_script", "_law_cell"]
theorem sc__law_source : FnScope n__law_source ["_law_script"] (defScope s__law_source) := ⟨rfl, rfl, rfl, by decide +kernel, rfl, by decide +kernel, by decide +kernel⟩

abbrev s__law_draw : Stmt := top 19
abbrev n__law_draw : List Str := ["_law_source_here", "_law_many", "_law_cell", "_law_great", "_law_number", "_law_shift", "_law_mixed"]
theorem sc__law_draw : FnScope n__law_draw ["_law_source_here", "_law_many"] (defScope s__law_draw) := ⟨rfl, rfl, rfl, by decide +kernel, rfl, by decide +kernel, by decide +kernel⟩

abbrev s__law_amount : Stmt := top 20
abbrev n__law_amount : List Str := ["_law_source_here", "_law_word"]
theorem sc__law_amount : FnScope n__law_amount ["_law_source_here"] (defScope s__law_amount) := ⟨rfl, rfl, rfl, by decide +kernel, rfl, by decide +kernel, by decide +kernel⟩

abbrev s__law_terms : Stmt := top 21
abbrev n__law_terms : List Str := ["_law_source_here", "_law_most", "_law_terms_here", "_law_k", "_law_amount_here", "_law_size"]
theorem sc__law_terms : FnScope n__law_terms ["_law_source_here", "_law_most"] (defScope s__law_terms) := ⟨rfl, rfl, rfl, by decide +kernel, rfl, by decide +kernel, by decide +kernel⟩

abbrev s__law_sum : Stmt := top 22
abbrev n__law_sum : List Str := ["_law_terms_here", "_law_numbers", "_law_amount_here", "_law_number"]
theorem sc__law_sum : FnScope n__law_sum ["_law_terms_here"] (defScope s__law_sum) := ⟨rfl, rfl, rfl, by decide +kernel, rfl, by decide +kernel, by decide +kernel⟩

abbrev s__law_rows : Stmt := top 23
abbrev n__law_rows : List Str := ["_law_terms_here", "_law_numbers", "_law_found", "_law_amount_here"]
theorem sc__law_rows : FnScope n__law_rows ["_law_terms_here"] (defScope s__law_rows) := ⟨rfl, rfl, rfl, by decide +kernel, rfl, by decide +kernel, by decide +kernel⟩

abbrev s__law_shows : Stmt := top 24
abbrev n__law_shows : List Str := ["_law_form", "_law_due", "_law_place", "_law_row"]
theorem sc__law_shows : FnScope n__law_shows ["_law_form", "_law_due"] (defScope s__law_shows) := ⟨rfl, rfl, rfl, by decide +kernel, rfl, by decide +kernel, by decide +kernel⟩

abbrev s__law_refused : Stmt := top 25
abbrev n__law_refused : List Str := ["_law_form", "_law_number", "_law_way", "e"]
theorem sc__law_refused : FnScope n__law_refused ["_law_form", "_law_number", "_law_way"] (defScope s__law_refused) := ⟨rfl, rfl, rfl, by decide +kernel, rfl, by decide +kernel, by decide +kernel⟩

abbrev s_law : Stmt := top 26
abbrev n_law : List Str := ["_law_script", "_law_source_here", "_law_terms_here", "_law_form", "_law_rows_here", "_law_k", "_law_divisor", "_law_quotients", "_law_remainders", "_law_shift", "_law_shifted", "_law_absolute", "_law_bads", "_law_way", "_law_made", "_law_row"]
theorem sc_law : FnScope n_law ["_law_script"] (defScope s_law) := ⟨rfl, rfl, rfl, by decide +kernel, rfl, by decide +kernel, by decide +kernel⟩

abbrev fI (K : PySem.W.Frag) : Addr := ma K (ga K "DyeError") "__init__"
abbrev FnM (K : PySem.W.Frag) (c m qual : Str) (st : Stmt) (kws : List (Str × V)) (fd : FuncData) : Prop := FunD K m qual (defArgs st) (defBody st) (defScope st) [] kws (ma K (ga K c) m) fd
def raised : List Str := ["BadNumber", "BadAmount"]
def exAll : List Str := ["DyeError", "BadNumber", "BadAmount"]
structure Txt (K : PySem.W.Frag) (mg : Str → Option Value) : Prop where
  blen : mg "len" = none
  babs : mg "abs" = none
  bint : mg "int" = none
  bisinstance : mg "isinstance" = none
  ball : mg "all" = none
  brange : mg "range" = none
  blist : mg "list" = none
  bstr : mg "str" = none
  bbool : mg "bool" = none
  bValueError : mg "ValueError" = none
  btuple : mg "tuple" = none
  bmin : mg "min" = none
  bmax : mg "max" = none
  bsum : mg "sum" = none
  bsorted : mg "sorted" = none
  benumerate : mg "enumerate" = none
  bany : mg "any" = none
  bzip : mg "zip" = none
  bset : mg "set" = none
  bdict : mg "dict" = none
  biter : mg "iter" = none
  gDyeError : mg "DyeError" = some (.ref (ga K "DyeError"))
  xDyeError : ExB K (ga K "DyeError") (fI K)
  fDye : ∃ fd, FunD K "__init__" "DyeError.__init__" (defArgs s_DyeError___init__) (defBody s_DyeError___init__) (defScope s_DyeError___init__) [] [] (fI K) fd
  gBadNumber : mg "BadNumber" = some (.ref (ga K "BadNumber"))
  xBadNumber : ExB K (ga K "BadNumber") (fI K)
  gBadAmount : mg "BadAmount" = some (.ref (ga K "BadAmount"))
  xBadAmount : ExB K (ga K "BadAmount") (fI K)
  gis_whole : mg "is_whole" = some (.ref (ga K "is_whole"))
  fis_whole : ∃ fd, FnP K "is_whole" s_is_whole fd
  gis_amount : mg "is_amount" = some (.ref (ga K "is_amount"))
  fis_amount : ∃ fd, FnP K "is_amount" s_is_amount fd
  gamount_place : mg "amount_place" = some (.ref (ga K "amount_place"))
  famount_place : ∃ fd, FnP K "amount_place" s_amount_place fd
  gcheck_amount : mg "check_amount" = some (.ref (ga K "check_amount"))
  fcheck_amount : ∃ fd, FnP K "check_amount" s_check_amount fd
  gcheck_whole : mg "check_whole" = some (.ref (ga K "check_whole"))
  fcheck_whole : ∃ fd, FnP K "check_whole" s_check_whole fd
  gcheck_least : mg "check_least" = some (.ref (ga K "check_least"))
  fcheck_least : ∃ fd, FnP K "check_least" s_check_least fd
  g_tidy : mg "_tidy" = some (.ref (ga K "_tidy"))
  f_tidy : ∃ fd, FnP K "_tidy" s__tidy fd
  g_summed : mg "_summed" = some (.ref (ga K "_summed"))
  f_summed : ∃ fd, FnP K "_summed" s__summed fd
  gForm : mg "Form" = some (.ref (ga K "Form"))
  clForm : Cls K (ga K "Form")
  mk_Form : Mk K (ga K "Form") (ma K (ga K "Form") "__init__")
  nForm_numbers : NoAttr K (ga K "Form") "_numbers"
  fFormInit : ∃ fd, FunD K "__init__" "Form.__init__" (defArgs s_Form___init__) (defBody s_Form___init__) (defScope s_Form___init__) [.ref (dflA "Form" "__init__" K)] [] (ma K (ga K "Form") "__init__") fd
  eFormInit : emptyB K (dflA "Form" "__init__" K) = true
  mForm__getitem__ : Meth K (ga K "Form") "__getitem__" (ma K (ga K "Form") "__getitem__")
  fForm__getitem__ : ∃ fd, FnM K "Form" "__getitem__" "Form.__getitem__" s_Form___getitem__ [] fd
  mForm__setitem__ : Meth K (ga K "Form") "__setitem__" (ma K (ga K "Form") "__setitem__")
  fForm__setitem__ : ∃ fd, FnM K "Form" "__setitem__" "Form.__setitem__" s_Form___setitem__ [] fd
  mForm__contains__ : Meth K (ga K "Form") "__contains__" (ma K (ga K "Form") "__contains__")
  fForm__contains__ : ∃ fd, FnM K "Form" "__contains__" "Form.__contains__" s_Form___contains__ [] fd
  mForm__len__ : Meth K (ga K "Form") "__len__" (ma K (ga K "Form") "__len__")
  fForm__len__ : ∃ fd, FnM K "Form" "__len__" "Form.__len__" s_Form___len__ [] fd
  mForm__iter__ : Meth K (ga K "Form") "__iter__" (ma K (ga K "Form") "__iter__")
  fForm__iter__ : ∃ fd, FnM K "Form" "__iter__" "Form.__iter__" s_Form___iter__ [] fd
  mForm__eq__ : Meth K (ga K "Form") "__eq__" (ma K (ga K "Form") "__eq__")
  fForm__eq__ : ∃ fd, FnM K "Form" "__eq__" "Form.__eq__" s_Form___eq__ [] fd
  mForm__add__ : Meth K (ga K "Form") "__add__" (ma K (ga K "Form") "__add__")
  fForm__add__ : ∃ fd, FnM K "Form" "__add__" "Form.__add__" s_Form___add__ [] fd
  mForm__iadd__ : Meth K (ga K "Form") "__iadd__" (ma K (ga K "Form") "__iadd__")
  fForm__iadd__ : ∃ fd, FnM K "Form" "__iadd__" "Form.__iadd__" s_Form___iadd__ [] fd
  mForm__sub__ : Meth K (ga K "Form") "__sub__" (ma K (ga K "Form") "__sub__")
  fForm__sub__ : ∃ fd, FnM K "Form" "__sub__" "Form.__sub__" s_Form___sub__ [] fd
  mForm__neg__ : Meth K (ga K "Form") "__neg__" (ma K (ga K "Form") "__neg__")
  fForm__neg__ : ∃ fd, FnM K "Form" "__neg__" "Form.__neg__" s_Form___neg__ [] fd
  mForm__mul__ : Meth K (ga K "Form") "__mul__" (ma K (ga K "Form") "__mul__")
  fForm__mul__ : ∃ fd, FnM K "Form" "__mul__" "Form.__mul__" s_Form___mul__ [] fd
  mForm__rmul__ : Meth K (ga K "Form") "__rmul__" (ma K (ga K "Form") "__rmul__")
  fForm__rmul__ : ∃ fd, FnM K "Form" "__rmul__" "Form.__rmul__" s_Form___rmul__ [] fd
  mForm__floordiv__ : Meth K (ga K "Form") "__floordiv__" (ma K (ga K "Form") "__floordiv__")
  fForm__floordiv__ : ∃ fd, FnM K "Form" "__floordiv__" "Form.__floordiv__" s_Form___floordiv__ [] fd
  mForm__mod__ : Meth K (ga K "Form") "__mod__" (ma K (ga K "Form") "__mod__")
  fForm__mod__ : ∃ fd, FnM K "Form" "__mod__" "Form.__mod__" s_Form___mod__ [] fd
  mForm__lshift__ : Meth K (ga K "Form") "__lshift__" (ma K (ga K "Form") "__lshift__")
  fForm__lshift__ : ∃ fd, FnM K "Form" "__lshift__" "Form.__lshift__" s_Form___lshift__ [] fd
  mForm__abs__ : Meth K (ga K "Form") "__abs__" (ma K (ga K "Form") "__abs__")
  fForm__abs__ : ∃ fd, FnM K "Form" "__abs__" "Form.__abs__" s_Form___abs__ [] fd
  mForm__call__ : Meth K (ga K "Form") "__call__" (ma K (ga K "Form") "__call__")
  fForm__call__ : ∃ fd, FnM K "Form" "__call__" "Form.__call__" s_Form___call__ [] fd
  g_law_is_whole : mg "_law_is_whole" = some (.ref (ga K "_law_is_whole"))
  f_law_is_whole : ∃ fd, FnP K "_law_is_whole" s__law_is_whole fd
  g_law_source : mg "_law_source" = some (.ref (ga K "_law_source"))
  f_law_source : ∃ fd, FnP K "_law_source" s__law_source fd
  g_law_draw : mg "_law_draw" = some (.ref (ga K "_law_draw"))
  f_law_draw : ∃ fd, FnP K "_law_draw" s__law_draw fd
  g_law_amount : mg "_law_amount" = some (.ref (ga K "_law_amount"))
  f_law_amount : ∃ fd, FnP K "_law_amount" s__law_amount fd
  g_law_terms : mg "_law_terms" = some (.ref (ga K "_law_terms"))
  f_law_terms : ∃ fd, FnP K "_law_terms" s__law_terms fd
  g_law_sum : mg "_law_sum" = some (.ref (ga K "_law_sum"))
  f_law_sum : ∃ fd, FnP K "_law_sum" s__law_sum fd
  g_law_rows : mg "_law_rows" = some (.ref (ga K "_law_rows"))
  f_law_rows : ∃ fd, FnP K "_law_rows" s__law_rows fd
  g_law_shows : mg "_law_shows" = some (.ref (ga K "_law_shows"))
  f_law_shows : ∃ fd, FnP K "_law_shows" s__law_shows fd
  g_law_refused : mg "_law_refused" = some (.ref (ga K "_law_refused"))
  f_law_refused : ∃ fd, FnP K "_law_refused" s__law_refused fd
  gWORDS : mg "WORDS" = some (.ref (ga K "WORDS"))
  tWORDS : ∀ H, SqT K H (ga K "WORDS") [.str "take", .str "leave"]
  iForm : insB K (ga K "Form") = true
  oForm : opsB K (ga K "Form") = true
  qSeer : seerB K = true
  pForm : partsB K (ga K "Form") = true
  yWORDS : tupDB K (ga K "WORDS") = true
  kit : ∀ x ∈ raised, ∀ y ∈ exAll, PySem.W.kitOne K (.ref (ga K x)) (.ref (ga K y)) = some (x == y || y == "DyeError")
  kitV : ∀ x ∈ raised, PySem.W.kitOne K (.ref (ga K x)) (.type "ValueError") = some true
  exm : ∀ x ∈ raised, ∀ y ∈ exAll, PySem.W.exmOne K (.ref (ga K x)) (.ref (ga K y)) = some (x == y || y == "DyeError")


end K3
namespace K3.Hd
open PySem PySem.Spec PyProof.Rows L2 He Tp ClX LiI
def d_DyeError___init__ : He.DefD := ⟨("DyeError", some "__init__"), "__init__", "DyeError.__init__", defArgs s_DyeError___init__, defBody s_DyeError___init__, defScope s_DyeError___init__, [], []⟩
def d_is_whole : He.DefD := ⟨("is_whole", none), "is_whole", "is_whole", defArgs s_is_whole, defBody s_is_whole, defScope s_is_whole, [], []⟩
def d_is_amount : He.DefD := ⟨("is_amount", none), "is_amount", "is_amount", defArgs s_is_amount, defBody s_is_amount, defScope s_is_amount, [], []⟩
def d_amount_place : He.DefD := ⟨("amount_place", none), "amount_place", "amount_place", defArgs s_amount_place, defBody s_amount_place, defScope s_amount_place, [], []⟩
def d_check_amount : He.DefD := ⟨("check_amount", none), "check_amount", "check_amount", defArgs s_check_amount, defBody s_check_amount, defScope s_check_amount, [], []⟩
def d_check_whole : He.DefD := ⟨("check_whole", none), "check_whole", "check_whole", defArgs s_check_whole, defBody s_check_whole, defScope s_check_whole, [], []⟩
def d_check_least : He.DefD := ⟨("check_least", none), "check_least", "check_least", defArgs s_check_least, defBody s_check_least, defScope s_check_least, [], []⟩
def d__tidy : He.DefD := ⟨("_tidy", none), "_tidy", "_tidy", defArgs s__tidy, defBody s__tidy, defScope s__tidy, [], []⟩
def d__summed : He.DefD := ⟨("_summed", none), "_summed", "_summed", defArgs s__summed, defBody s__summed, defScope s__summed, [], []⟩
def d_Form___init__ : He.DefD := ⟨("Form", some "__init__"), "__init__", "Form.__init__", defArgs s_Form___init__, defBody s_Form___init__, defScope s_Form___init__, [.adr (dflA "Form" "__init__")], []⟩
def d_Form___getitem__ : He.DefD := ⟨("Form", some "__getitem__"), "__getitem__", "Form.__getitem__", defArgs s_Form___getitem__, defBody s_Form___getitem__, defScope s_Form___getitem__, [], []⟩
def d_Form___setitem__ : He.DefD := ⟨("Form", some "__setitem__"), "__setitem__", "Form.__setitem__", defArgs s_Form___setitem__, defBody s_Form___setitem__, defScope s_Form___setitem__, [], []⟩
def d_Form___contains__ : He.DefD := ⟨("Form", some "__contains__"), "__contains__", "Form.__contains__", defArgs s_Form___contains__, defBody s_Form___contains__, defScope s_Form___contains__, [], []⟩
def d_Form___len__ : He.DefD := ⟨("Form", some "__len__"), "__len__", "Form.__len__", defArgs s_Form___len__, defBody s_Form___len__, defScope s_Form___len__, [], []⟩
def d_Form___iter__ : He.DefD := ⟨("Form", some "__iter__"), "__iter__", "Form.__iter__", defArgs s_Form___iter__, defBody s_Form___iter__, defScope s_Form___iter__, [], []⟩
def d_Form___eq__ : He.DefD := ⟨("Form", some "__eq__"), "__eq__", "Form.__eq__", defArgs s_Form___eq__, defBody s_Form___eq__, defScope s_Form___eq__, [], []⟩
def d_Form___add__ : He.DefD := ⟨("Form", some "__add__"), "__add__", "Form.__add__", defArgs s_Form___add__, defBody s_Form___add__, defScope s_Form___add__, [], []⟩
def d_Form___iadd__ : He.DefD := ⟨("Form", some "__iadd__"), "__iadd__", "Form.__iadd__", defArgs s_Form___iadd__, defBody s_Form___iadd__, defScope s_Form___iadd__, [], []⟩
def d_Form___sub__ : He.DefD := ⟨("Form", some "__sub__"), "__sub__", "Form.__sub__", defArgs s_Form___sub__, defBody s_Form___sub__, defScope s_Form___sub__, [], []⟩
def d_Form___neg__ : He.DefD := ⟨("Form", some "__neg__"), "__neg__", "Form.__neg__", defArgs s_Form___neg__, defBody s_Form___neg__, defScope s_Form___neg__, [], []⟩
def d_Form___mul__ : He.DefD := ⟨("Form", some "__mul__"), "__mul__", "Form.__mul__", defArgs s_Form___mul__, defBody s_Form___mul__, defScope s_Form___mul__, [], []⟩
def d_Form___rmul__ : He.DefD := ⟨("Form", some "__rmul__"), "__rmul__", "Form.__rmul__", defArgs s_Form___rmul__, defBody s_Form___rmul__, defScope s_Form___rmul__, [], []⟩
def d_Form___floordiv__ : He.DefD := ⟨("Form", some "__floordiv__"), "__floordiv__", "Form.__floordiv__", defArgs s_Form___floordiv__, defBody s_Form___floordiv__, defScope s_Form___floordiv__, [], []⟩
def d_Form___mod__ : He.DefD := ⟨("Form", some "__mod__"), "__mod__", "Form.__mod__", defArgs s_Form___mod__, defBody s_Form___mod__, defScope s_Form___mod__, [], []⟩
def d_Form___lshift__ : He.DefD := ⟨("Form", some "__lshift__"), "__lshift__", "Form.__lshift__", defArgs s_Form___lshift__, defBody s_Form___lshift__, defScope s_Form___lshift__, [], []⟩
def d_Form___abs__ : He.DefD := ⟨("Form", some "__abs__"), "__abs__", "Form.__abs__", defArgs s_Form___abs__, defBody s_Form___abs__, defScope s_Form___abs__, [], []⟩
def d_Form___call__ : He.DefD := ⟨("Form", some "__call__"), "__call__", "Form.__call__", defArgs s_Form___call__, defBody s_Form___call__, defScope s_Form___call__, [], []⟩
def d__law_is_whole : He.DefD := ⟨("_law_is_whole", none), "_law_is_whole", "_law_is_whole", defArgs s__law_is_whole, defBody s__law_is_whole, defScope s__law_is_whole, [], []⟩
def d__law_source : He.DefD := ⟨("_law_source", none), "_law_source", "_law_source", defArgs s__law_source, defBody s__law_source, defScope s__law_source, [], []⟩
def d__law_draw : He.DefD := ⟨("_law_draw", none), "_law_draw", "_law_draw", defArgs s__law_draw, defBody s__law_draw, defScope s__law_draw, [], []⟩
def d__law_amount : He.DefD := ⟨("_law_amount", none), "_law_amount", "_law_amount", defArgs s__law_amount, defBody s__law_amount, defScope s__law_amount, [], []⟩
def d__law_terms : He.DefD := ⟨("_law_terms", none), "_law_terms", "_law_terms", defArgs s__law_terms, defBody s__law_terms, defScope s__law_terms, [], []⟩
def d__law_sum : He.DefD := ⟨("_law_sum", none), "_law_sum", "_law_sum", defArgs s__law_sum, defBody s__law_sum, defScope s__law_sum, [], []⟩
def d__law_rows : He.DefD := ⟨("_law_rows", none), "_law_rows", "_law_rows", defArgs s__law_rows, defBody s__law_rows, defScope s__law_rows, [], []⟩
def d__law_shows : He.DefD := ⟨("_law_shows", none), "_law_shows", "_law_shows", defArgs s__law_shows, defBody s__law_shows, defScope s__law_shows, [], []⟩
def d__law_refused : He.DefD := ⟨("_law_refused", none), "_law_refused", "_law_refused", defArgs s__law_refused, defBody s__law_refused, defScope s__law_refused, [], []⟩
def d_law : He.DefD := ⟨("law", none), "law", "law", defArgs s_law, defBody s_law, defScope s_law, [], []⟩

def fn : List He.DefD := [d_DyeError___init__, d_is_whole, d_is_amount, d_amount_place, d_check_amount, d_check_whole, d_check_least, d__tidy, d__summed, d_Form___init__, d_Form___getitem__, d_Form___setitem__, d_Form___contains__, d_Form___len__, d_Form___iter__, d_Form___eq__, d_Form___add__, d_Form___iadd__, d_Form___sub__, d_Form___neg__, d_Form___mul__, d_Form___rmul__, d_Form___floordiv__, d_Form___mod__, d_Form___lshift__, d_Form___abs__, d_Form___call__, d__law_is_whole, d__law_source, d__law_draw, d__law_amount, d__law_terms, d__law_sum, d__law_rows, d__law_shows, d__law_refused, d_law]
def fa : List He.Fa := [.free "len", .free "abs", .free "int", .free "isinstance", .free "all", .free "range", .free "list", .free "str", .free "bool", .free "ValueError", .free "tuple", .free "min", .free "max", .free "sum", .free "sorted", .free "enumerate", .free "any", .free "zip", .free "set", .free "dict", .free "iter", .glo "DyeError", .glo "BadNumber", .glo "BadAmount", .glo "is_whole", .glo "is_amount", .glo "amount_place", .glo "check_amount", .glo "check_whole", .glo "check_least", .glo "_tidy", .glo "_summed", .glo "Form", .cls "Form", .mkr "Form", .noat "Form" "_numbers", .meth "Form" "__getitem__", .meth "Form" "__setitem__", .meth "Form" "__contains__", .meth "Form" "__len__", .meth "Form" "__iter__", .meth "Form" "__eq__", .meth "Form" "__add__", .meth "Form" "__iadd__", .meth "Form" "__sub__", .meth "Form" "__neg__", .meth "Form" "__mul__", .meth "Form" "__rmul__", .meth "Form" "__floordiv__", .meth "Form" "__mod__", .meth "Form" "__lshift__", .meth "Form" "__abs__", .meth "Form" "__call__", .glo "_law_is_whole", .glo "_law_source", .glo "_law_draw", .glo "_law_amount", .glo "_law_terms", .glo "_law_sum", .glo "_law_rows", .glo "_law_shows", .glo "_law_refused", .glo "WORDS", .glo "law"]
def fx : FxL := []
abbrev loose : List Str := ("DyeError" : Str) :: ("BadNumber" : Str) :: ("BadAmount" : Str) :: ("WORDS" : Str) :: ("is_whole" : Str) :: ("is_amount" : Str) :: ("amount_place" : Str) :: ("check_amount" : Str) :: ("check_whole" : Str) :: ("check_least" : Str) :: ("_tidy" : Str) :: ("_summed" : Str) :: ("Form" : Str) :: ("_law_is_whole" : Str) :: ("_law_source" : Str) :: ("_law_draw" : Str) :: ("_law_amount" : Str) :: ("_law_terms" : Str) :: ("_law_sum" : Str) :: ("_law_rows" : Str) :: ("_law_shows" : Str) :: ("_law_refused" : Str) :: []
def xB (K : PySem.W.Frag) : Bool := exBB K "DyeError" "DyeError" && (exBB K "DyeError" "BadNumber" && (exBB K "DyeError" "BadAmount" && (emptyB K (dflA "Form" "__init__" K) && (He.tupB K "WORDS" [.str "take", .str "leave"] && (insB K (ga K "Form") && (opsB K (ga K "Form") && (seerB K && (partsB K (ga K "Form") && (tupDB K (ga K "WORDS") && ((raised.all fun x => exAll.all fun y => decide (PySem.W.kitOne K (.ref (ga K x)) (.ref (ga K y)) = some (x == y || y == "DyeError"))) && ((raised.all fun x => decide (PySem.W.kitOne K (.ref (ga K x)) (.type "ValueError") = some true)) && ((raised.all fun x => exAll.all fun y => decide (PySem.W.exmOne K (.ref (ga K x)) (.ref (ga K y)) = some (x == y || y == "DyeError")))))))))))))))
abbrev R : PySem.W.OpenRow := PySem.W.OpenLaw.row PySem.Challenge.rw_tiredpots_k03_parts_of_forms
abbrev tl : He.Defn := ("_law_rows", none)
abbrev hk : PySem.W.Hook := hookYL 5 fa fn fx [tl] xB
def ob (s : PySem.W.SharedT) : AlYL := obsYL 5 fa fn fx [tl] xB (HandSHeadRun.getT s)
theorem ob_eq (s : PySem.W.SharedT) : ob s = hk.obs s.abs := obsYL_eq (HandSHeadRun.getT_eq s)
theorem run (w : World) : HandSHeadRun.RunEq R (PySem.W.view R.prog [26]) hk ob 6000 K3.Hd.loose w := by
  intro os
  kernel_rfl
end K3.Hd
namespace K3
open PySem PySem.Spec PyProof.Rows L2 He Tp ClX LiI

section
variable {P : Program} {w : World} {K : PySem.W.Frag} {mg : Str → Option Value} {base : Heap}
theorem dye (T : Txt K mg) : Dye P w K mg base (fI K) := by
  obtain ⟨fd, F⟩ := T.fDye
  refine ⟨fd, F.ok sc_DyeError___init__ (fun vs H Q E h => ?_) (fun cdv A outer s H vs Q E hr h => ?_), F.bindsN fun _ _ _ _ _ _ us hl => match us, hl with | [_, _], _ => rfl⟩
  · obtain ⟨a, C, v, rfl, _⟩ := h
    rfl
  · obtain ⟨a, C, v, rfl, T, hn, ha, k⟩ := h
    refine ⟨_, PSs.nox (pss_one (ps_ost (pv 0) (pv 1))), ?_⟩
    exact ⟨_, rfl, _, rfl, a, C, rfl, T, hn, .inl ⟨ha, fun dx h1 h2 => k dx h1 h2⟩⟩
theorem ok_is_whole (T : Txt K mg) : Df P w K mg base CX0 1 "is_whole" ["value"] (spWhole K) := by
  refine Df.mk' T.gis_whole T.fis_whole (fun _ _ _ _ _ _ us hl => match us, hl with | [_], _ => rfl) fun fd F => F.ok sc_is_whole (fun vs H Q E h => ?_) (fun cdv A outer s H vs Q E hr h => ?_)
  · obtain ⟨v, rfl, _⟩ := h
    rfl
  · obtain ⟨v, rfl, p, q⟩ := h
    refine ⟨_, PSs.nox
   (pss_one (ps_ret (pe_and (pe_callB (call_isi) (by rfl) T.bisinstance (by decide +kernel) (pa_cons (pv 0) (pa_cons (pe_bltn (v := .ty "int") (u := .type "int") (by rfl) T.bint (by decide +kernel) rfl) pa_nil))) (pe_one (pe_not (pe_callB (call_isi) (by rfl) T.bisinstance (by decide +kernel) (pa_cons (pv 0) (pa_cons (pe_bltn (v := .ty "bool") (u := .type "bool") (by rfl) T.bbool (by decide +kernel) rfl) pa_nil)))))))), ?_⟩
    refine st_ret (val_andV (val_isi (val_var rfl) p.ty (p.kit (.inl rfl))) (val_notV (val_isi (val_var rfl) p.ty (p.kit (.inr (.inl rfl)))))) ?_
    rw [whole_eq p]
    exact q
end

end K3
namespace K3
open PySem PySem.Spec PyProof.Rows L2 He Tp ClX LiI

section
variable {P : Program} {w : World} {K : PySem.W.Frag} {mg : Str → Option Value} {base : Heap}
theorem ok_draw (T : Txt K mg) : Df P w K mg base CX0 1 "_law_draw" ["_law_source_here", "_law_many"] spDraw := by
  refine Df.mk' T.g_law_draw T.f_law_draw (fun _ _ _ _ _ _ us hl => match us, hl with | [_, _], _ => rfl) fun fd F => F.ok sc__law_draw (fun vs H Q E h => ?_) (fun cdv A outer s H vs Q E hr h => ?_)
  · obtain ⟨S, L, cells, i, k, g, many, rfl, _⟩ := h
    rfl
  · obtain ⟨S, L, cells, i, k, g, many, rfl, hS, hL, ok, hm, hm2, kont⟩ := h
    have nd := sc__law_draw.nd
    have SL : S ≠ L := by
      intro e; rw [e, hL] at hS
      have z := Option.some.inj hS
      injection z with z
      cases cells <;> simp at z
    refine ⟨_, PSs.nox
   (pss_cons (ps_if (pt_cmpR op_ge (pe_ix ix_list (pv 0) pe_int (fun _ _ => rfl)) (pe_callB call_len_seq (by rfl) T.blen PySem.boot_len (pa_cons (pe_ix ix_list (pv 0) pe_int (fun _ _ => rfl)) pa_nil)) (nomark _)) (pss_one (ps_ret pe_int)) pss_nil)
   (pss_cons (ps_set (i := 2) nd rfl (by first | exact Or.inl rfl | exact Or.inr rfl) (pe_ix ix_list (pe_ix ix_list (pv 0) pe_int (fun _ _ => rfl)) (pe_ix ix_list (pv 0) pe_int (fun _ _ => rfl)) (fun _ _ => rfl)))
   (pss_cons (ps_set (i := 3) nd rfl (by first | exact Or.inl rfl | exact Or.inr rfl) (pe_or (pe_cmpR op_ge (pv 2) (pe_op op_pow pe_int pe_int) (nomark _)) (pe_one (pe_cmpR op_le (pv 2) (pe_op op_sub pe_int (pe_op op_pow pe_int pe_int)) (nomark _)))))
   (Evl.pss_cut (ps_if (PW.pt (pw_and (pt_val (pv 3)) (pw_and1 (pt_cmpR op_eq (pe_ix ix_list (pv 0) pe_int (fun _ _ => rfl)) pe_int (nomark _))))) (pss_one (ps_asg (pe_callB (call_abs) (by rfl) T.babs (by decide +kernel) (pa_cons (pv 2) pa_nil)) (pg_sub (pv 0) pe_int set_list))) pss_nil)
   (Evl.pss_cut (ps_if (pt_val (pv 3)) (pss_cons (ps_set (i := 4) nd rfl (by first | exact Or.inl rfl | exact Or.inr rfl) (pe_op op_mod (pe_callTy call_int1 (by rfl) T.bint (by decide +kernel) (pa_cons (pe_ix ix_list (pv 0) pe_int (fun _ _ => rfl)) pa_nil)) (pv 1)))
   (pss_one (ps_asg (pe_op op_fdivW (pe_ix ix_list (pv 0) pe_int (fun _ _ => rfl)) (pv 1)) (pg_sub (pv 0) pe_int set_list)))) (pss_cons (ps_set (i := 5) nd rfl (by first | exact Or.inl rfl | exact Or.inr rfl) (pe_op op_add (pe_op op_add (pe_op op_mul (pe_ix ix_list (pv 0) pe_int (fun _ _ => rfl)) pe_int) (pe_op op_mul (pe_ix ix_list (pv 0) pe_int (fun _ _ => rfl)) pe_int)) pe_int))
   (pss_cons (ps_set (i := 6) nd rfl (by first | exact Or.inl rfl | exact Or.inr rfl) (pe_op op_mod (pe_callTy call_int1 (by rfl) T.bint (by decide +kernel) (pa_cons (pe_op op_add (pe_op op_mul (pv 2) pe_int) (pv 5)) pa_nil)) pe_int))
   (pss_cons (ps_set (i := 6) nd rfl (by first | exact Or.inl rfl | exact Or.inr rfl) (pe_op op_mod (pe_callTy call_int1 (by rfl) T.bint (by decide +kernel) (pa_cons (pe_op op_add (pe_op op_add (pe_op op_mul (pv 6) (pv 6)) (pe_op op_mul (pv 2) pe_int)) (pe_ix ix_list (pv 0) pe_int (fun _ _ => rfl))) pa_nil)) pe_int))
   (pss_one (ps_set (i := 4) nd rfl (by first | exact Or.inl rfl | exact Or.inr rfl) (pe_op op_mod (pe_callTy call_int1 (by rfl) T.bint (by decide +kernel) (pa_cons (pv 6) pa_nil)) (pv 1))))))))
   (pss_cons (ps_asg (pe_op op_add (pe_ix ix_list (pv 0) pe_int (fun _ _ => rfl)) pe_int) (pg_sub (pv 0) pe_int set_list))
   (pss_cons (ps_if (PW.pt (pw_or (pt_cmpR op_ge (pe_ix ix_list (pv 0) pe_int (fun _ _ => rfl)) pe_int (nomark _)) (pw_or (PW.pt (pw_and (pt_not (pt_val (pv 3))) (pw_and1 (pt_cmpR op_ge (pe_ix ix_list (pv 0) pe_int (fun _ _ => rfl)) pe_int (nomark _))))) (pw_or1 (PW.pt (pw_and (pt_val (pv 3)) (pw_and1 (pt_cmpR op_eq (pe_ix ix_list (pv 0) pe_int (fun _ _ => rfl)) pe_int (nomark _))))))))) (pss_cons (ps_asg (pe_op op_add (pe_ix ix_list (pv 0) pe_int (fun _ _ => rfl)) pe_int) (pg_sub (pv 0) pe_int set_list))
   (pss_one (ps_asg pe_int (pg_sub (pv 0) pe_int set_list)))) pss_nil)
   (pss_one (ps_ret (pv 4)))))))))), ?_⟩
    have p18 : CPow 10 18 := ⟨by decide, by decide, by decide⟩
    have si : ∀ {σ : L2.St} {k' g' : Int} {j : Int} {v : V}, σ[0]? = some (some (.ref S)) → atI [V.ref L, .int i, .int k', .int g'] j = some v → Val (tOp (rIxL K) (tVar 0) (tC (.int j))) σ (upd H S (srcO L i k' g')) v := fun e a => val_ixL (val_var e) val_c (SqL.of upd_same) a
    have s0 : ∀ {σ : L2.St} {j : Int} {v : V}, σ[0]? = some (some (.ref S)) → atI [V.ref L, .int i, .int k, .int g] j = some v → Val (tOp (rIxL K) (tVar 0) (tC (.int j))) σ H v := fun e a => val_ixL (val_var e) val_c (SqL.of hS) a
    refine sq_when (ans_int (s0 rfl rfl) (val_len (s0 rfl rfl) (SqL.of hL))) (fun _ => ?_) (fun hi => ?_)
    · have := kont 0 i k g (Int.le_refl 0) hm ok
      rw [upd_self hS] at this
      exact this
    rw [List.length_map] at hi
    have hi' : i < (cells.length : Int) := by have := of_decide_eq_false hi; omega
    obtain ⟨c, hc⟩ := cell_at ok.i0 hi'
    refine sq_set (val_ixL (s0 rfl rfl) (s0 rfl rfl) (SqL.of hL) hc) ?_
    -- great
    refine sq_set (val_orV (val_int (val_var rfl) (val_intC val_c val_c p18)) (val_int (val_var rfl) (val_int val_c (val_intC val_c val_c p18)))) ?_
    rw [pow18]
    generalize eb : (decide ((1000000000000000000 : Int) ≤ c) || decide (c ≤ 0 - (1000000000000000000 : Int))) = b
    -- the first number of a great cell
    refine Evl.q_cut (M := fun σ' H' => σ' = [some (.ref S), some (.int many), some (.int c), some (.bl b), none, none, none] ∧ ∃ g', 0 ≤ g' ∧ H' = upd H S (srcO L i k g')) ?_ ?_
    · refine st_if (ans_and2 (ans_val (val_var rfl)) (ans_eq (s0 rfl rfl) val_c rfl rfl)) (fun _ => ?_) (fun _ => ?_)
      · exact st_setL hS (val_abs (val_var rfl)) (val_var rfl) val_c rfl ⟨rfl, _, by split <;> omega, rfl⟩
      · exact ⟨rfl, g, ok.g0, (upd_self hS).symm⟩
    rintro σ1 H1 ⟨rfl, g1, hg1, rfl⟩
    -- the number
    refine Evl.q_cut (M := fun σ' H' => ∃ n x5 x6 g', σ' = [some (.ref S), some (.int many), some (.int c), some (.bl b), some (.int n), x5, x6] ∧ 0 ≤ n ∧ n < many ∧ 0 ≤ g' ∧ H' = upd H S (srcO L i k g')) ?_ ?_
    · refine st_if (ans_val (val_var rfl)) (fun _ => ?_) (fun h => ?_)
      · refine sq_set (val_intC (val_toInt (si rfl rfl)) (val_var rfl) hm) ?_
        refine st_setL upd_same (val_intC (si rfl rfl) (val_var rfl) (wide_div (b := 200) hm (by omega) (by decide) (by decide))) (val_var rfl) val_c rfl ?_
        rw [upd_upd]
        exact ⟨_, _, _, _, rfl, Int.emod_nonneg _ (by omega), Int.emod_lt_of_pos _ hm, Int.ediv_nonneg hg1 (by omega), rfl⟩
      · have hc1 : -(2 ^ 64) < c ∧ c < 2 ^ 64 := by
          rw [h] at eb
          have e := Bool.or_eq_false_iff.mp eb
          have e1 := of_decide_eq_false e.1
          have e2 := of_decide_eq_false e.2
          omega
        have m1 : ∀ x : Int, -(2 ^ 64) < x % 2147483647 ∧ x % 2147483647 < 2 ^ 64 := fun x => by
          have a1 := Int.emod_nonneg x (show (2147483647 : Int) ≠ 0 by decide)
          have a2 := Int.emod_lt_of_pos x (show (0 : Int) < 2147483647 by decide)
          omega
        refine sq_set (val_int (val_int (val_intC (si rfl rfl) val_c (.inr (by decide))) (val_intC (si rfl rfl) val_c (.inr (by decide)))) val_c) ?_
        refine sq_set (val_intC (val_toInt (val_int (val_intC (val_var rfl) val_c (.inl hc1)) (val_var rfl))) val_c (by decide)) ?_
        refine sq_set (val_intC (val_toInt (val_int (val_int (val_intC (val_var rfl) (val_var rfl) (.inl (m1 _))) (val_intC (val_var rfl) val_c (.inl hc1))) (si rfl rfl))) val_c (by decide)) ?_
        refine st_set (val_intC (val_toInt (val_var rfl)) (val_var rfl) hm) ?_
        exact ⟨_, _, _, g1, rfl, Int.emod_nonneg _ (by omega), Int.emod_lt_of_pos _ hm, hg1, rfl⟩
    rintro σ2 H2 ⟨n, x5, x6, g2, rfl, n0, n1, hg2, rfl⟩
    -- one more draw out of this cell
    refine sq_setL upd_same (val_int (si rfl rfl) val_c) (val_var rfl) val_c rfl ?_
    rw [upd_upd]
    refine sq_when (ans_or2 (ans_int (si rfl rfl) val_c) (ans_or2 (ans_and2 (ans_not (ans_val (val_var rfl))) (ans_int (si rfl rfl) val_c)) (ans_and2 (ans_val (val_var rfl)) (ans_eq (si rfl rfl) val_c rfl rfl)))) (fun _ => ?_) (fun _ => ?_)
    · refine sq_setL upd_same (val_int (si rfl rfl) val_c) (val_var rfl) val_c rfl ?_
      refine st_setL upd_same val_c (val_var rfl) val_c rfl ?_
      rw [upd_upd, upd_upd]
      exact st_ret (val_var rfl) (kont n (i + 1) 0 g2 n0 n1 ⟨by have := ok.i0; omega, Int.le_refl 0, hg2, ok.len⟩)
    · exact st_ret (val_var rfl) (kont n i (k + 1) g2 n0 n1 ⟨ok.i0, by have := ok.k0; omega, hg2, ok.len⟩)

theorem ok_drawE (T : Txt K mg) : Df P w K mg base CX0 1 "_law_draw" ["_law_source_here", "_law_many"] spDrawE := by
  obtain ⟨a, b, fd, F, bb⟩ := ok_draw (P := P) (w := w) (base := base) T
  exact ⟨a, b, fd, F.imp draw_imp, bb⟩
end

end K3
namespace K3
open PySem PySem.Spec PyProof.Rows L2 He Tp ClX LiI

section
variable {P : Program} {w : World} {K : PySem.W.Frag} {mg : Str → Option Value} {base : Heap}
def spIsAmt (K : PySem.W.Frag) : Sp := fun vs H Q _ => ∃ v d, vs = [v] ∧ Av H v d ∧ Q (.bl (amtB d)) H
theorem ok_is_amount (T : Txt K mg) : Df P w K mg base CX0 2 "is_amount" ["value"] (spIsAmt K) := by
  have D_is_whole := ok_is_whole (P := P) (w := w) (base := base) T
  refine Df.mk' T.gis_amount T.fis_amount (fun _ _ _ _ _ _ us hl => match us, hl with | [_], _ => rfl) fun fd F => F.ok sc_is_amount (fun vs H Q E h => ?_) (fun cdv A outer s H vs Q E hr h => ?_)
  · obtain ⟨v, d, rfl, _⟩ := h
    rfl
  · obtain ⟨v, d, rfl, av, q⟩ := h
    have hu65 := hu65_of hr
    have hr_is_whole := hr
    have p := av.wv.ptv (K := K)
    refine ⟨_, PSs.nox (pss_one (ps_ret (pe_and (pe_callB (call_isi) (by rfl) T.bisinstance (by decide +kernel) (pa_cons (pv 0) (pa_cons (pe_bltn (v := .ty "tuple") (u := .type "tuple") (by rfl) T.btuple (by decide +kernel) rfl) pa_nil))) (pe_and (pe_cmpR op_eq (pe_callB call_len_seq (by rfl) T.blen PySem.boot_len (pa_cons (pv 0) pa_nil)) pe_int (nomark _)) (pe_and (pe_cmpR (op_inT hu65) (pe_ix ix_tup (pv 0) pe_int (fun _ _ => rfl)) (pe_glob (v := .ref (ga K "WORDS")) (by rfl) T.gWORDS rfl) (by rfl)) (pe_and (pe_cd D_is_whole hr_is_whole (by rfl) pass0 (pa_cons (pe_ix ix_tup (pv 0) pe_int (fun _ _ => rfl)) pa_nil)) (pe_one (pe_cmpR op_ge (pe_ix ix_tup (pv 0) pe_int (fun _ _ => rfl)) pe_int (nomark _))))))))), ?_⟩
    refine val_isi (val_var rfl) p.ty (p.kit (.inr (.inr (.inr rfl)))) _ ⟨_, rfl, ?_⟩
    obtain ⟨im, ok, sh, it⟩ := av
    cases im with
    | non => exact iteF q
    | bl b => exact iteF q
    | int i => exact iteF q
    | str z => exact iteF q
    | @tup u xs ds hx hi =>
      refine iteT ?_
      refine ⟨_, rfl, u, xs, rfl, .inr (SqT.of hx), ?_⟩
      have hin : ∀ (x : V) (d : PyData), Im H x d → okD d → atI xs 0 = some x → ∀ R : VK, R (.bl (wordV x)) H → tOp (rInT K) (tOp (rIxT K) (tVar 0) (tC (.int 0))) (tC (.ref (ga K "WORDS"))) (L2.start n_is_amount [V.ref u]) H R := fun x d hd hok hat R hR => by
        refine ⟨_, rfl, u, _, 0, x, rfl, rfl, .inl (.inl hx), hat, d, _, hd.dp, .tup (T.tWORDS H) (.cons (.str _) (.cons (.str _) .nil)), hok.shaped, by decide +kernel, ?_⟩
        rw [words_any hd]
        exact hR
      match xs, ds, hx, hi, ok, q, it, hin with
      | [], [], _, _, _, q, _, _ => exact ⟨rfl, _, rfl, iteF q⟩
      | [_], [_], _, _, _, q, _, _ =>
        rw [amtB_ne (by simp)] at q
        exact ⟨rfl, _, rfl, iteF q⟩
      | _ :: _ :: _ :: r, _ :: _ :: _ :: r', _, _, _, q, _, _ =>
        refine ⟨rfl, _, rfl, ?_⟩
        rw [if_neg (fun h => by
          have h1 := of_decide_eq_true h
          have h2 : (((r.length + 1 + 1 + 1 : Nat) : Int)) = 2 := by injection h1
          omega)]
        rw [amtB_ne (by simp)] at q
        exact q
      | [x, y], [d1, d2], hx, .cons i1 (.cons i2 .nil), ok, q, it, hin =>
        refine ⟨rfl, _, rfl, iteT ?_⟩
        refine hin x d1 i1 (item_ok ok (by simp)) rfl _ ⟨_, rfl, ?_⟩
        have sx := it u _ rfl hx x (by simp)
        have sy := it u _ rfl hx y (by simp)
        have av2 : Wv H y := ⟨d2, i2, item_ok ok (by simp), sy⟩
        cases i1 with
        | non => exact iteF q
        | bl b => exact iteF q
        | int i => exact iteF q
        | tup _ _ => exact iteF q
        | str w =>
          refine ifb (fun hw => ?_) (fun hw => ?_)
          · refine ⟨_, rfl, u, _, 1, y, rfl, rfl, .inl (.inl hx), rfl, y, rfl, av2.ptv, _, rfl, ?_⟩
            cases i2 with
            | non => exact iteF q
            | bl b => exact iteF q
            | str z => exact iteF q
            | tup _ _ => exact iteF q
            | int n =>
              refine iteT ?_
              refine ⟨_, rfl, u, _, 1, .int n, rfl, rfl, .inl (.inl hx), rfl, n, 0, rfl, rfl, ?_⟩
              have e : amtB (.tuple [.str w, .int n]) = decide (0 ≤ n) := by
                show ((decide (w = "take") || decide (w = "leave")) && decide (0 ≤ n)) = _
                rw [show (decide (w = "take") || decide (w = "leave")) = true from hw, Bool.true_and]
              rw [e] at q
              exact q
          · have e : amtB (.tuple [.str w, d2]) = false := by
              unfold amtB
              split
              · rename_i w' n heq
                have hww : w' = w := by
                  injection heq with h1
                  injection h1 with h2
                  injection h2 with h3
                  exact h3.symm
                rw [hww, show (decide (w = "take") || decide (w = "leave")) = false from hw, Bool.false_and]
              · rfl
            rw [e] at q
            exact q
end

end K3
namespace K3
open PySem PySem.Spec PyProof.Rows L2 He Tp ClX LiI

section
variable {P : Program} {w : World} {K : PySem.W.Frag} {mg : Str → Option Value} {base : Heap}
theorem ok_law_is_whole (T : Txt K mg) : Df P w K mg base CX0 1 "_law_is_whole" ["_law_value"] (spWhole K) := by
  refine Df.mk' T.g_law_is_whole T.f_law_is_whole (fun _ _ _ _ _ _ us hl => match us, hl with | [_], _ => rfl) fun fd F => F.ok sc__law_is_whole (fun vs H Q E h => ?_) (fun cdv A outer s H vs Q E hr h => ?_)
  · obtain ⟨v, rfl, _⟩ := h
    rfl
  · obtain ⟨v, rfl, p, q⟩ := h
    refine ⟨_, PSs.nox
   (pss_one (ps_ret (pe_and (pe_callB (call_isi) (by rfl) T.bisinstance (by decide +kernel) (pa_cons (pv 0) (pa_cons (pe_bltn (v := .ty "int") (u := .type "int") (by rfl) T.bint (by decide +kernel) rfl) pa_nil))) (pe_one (pe_not (pe_callB (call_isi) (by rfl) T.bisinstance (by decide +kernel) (pa_cons (pv 0) (pa_cons (pe_bltn (v := .ty "bool") (u := .type "bool") (by rfl) T.bbool (by decide +kernel) rfl) pa_nil)))))))), ?_⟩
    refine st_ret (val_andV (val_isi (val_var rfl) p.ty (p.kit (.inl rfl))) (val_notV (val_isi (val_var rfl) p.ty (p.kit (.inr (.inl rfl)))))) ?_
    rw [whole_eq p]
    exact q
end

end K3
namespace K3
open PySem PySem.Spec PyProof.Rows L2 He Tp ClX LiI

section
variable {P : Program} {w : World} {K : PySem.W.Frag} {mg : Str → Option Value} {base : Heap}
def spCheckAmt (K : PySem.W.Frag) : Sp := fun vs H Q E => ∃ v d, vs = [v] ∧ Av H v d ∧ (amtB d = false → Leaves K E (ga K "BadAmount") v H) ∧ (amtB d = true → Q .non H)
theorem ok_check_amount (T : Txt K mg) : Df P w K mg base (L2.CX P w) 3 "check_amount" ["value"] (spCheckAmt K) := by
  have D_is_amount := ok_is_amount (P := P) (w := w) (base := base) T
  have D_dye := dye (P := P) (w := w) (base := base) T
  refine Df.mk' T.gcheck_amount T.fcheck_amount (fun _ _ _ _ _ _ us hl => match us, hl with | [_], _ => rfl) fun fd F => F.ok sc_check_amount (fun vs H Q E h => ?_) (fun cdv A outer s H vs Q E hr h => ?_)
  · obtain ⟨v, d, rfl, _⟩ := h
    rfl
  · obtain ⟨v, d, rfl, av, kB, kN⟩ := h
    have hr_is_amount := hr
    refine ⟨_, (pss_one (ps_if (pt_not (pt_val (pe_cd D_is_amount hr_is_amount (by rfl) pass0 (pa_cons (pv 0) pa_nil)))) (pss_one (ps_raiseX rfl T.xBadAmount D_dye (hr.mono (by decide)) (takes_of rfl rfl rfl rfl) (by rfl) T.gBadAmount (pv 0))) pss_nil)), ?_⟩
    refine ⟨_, rfl, v, d, rfl, av, _, rfl, ?_⟩
    refine ifb (fun h1 => ?_) (fun h1 => ?_)
    · exact ⟨v, rfl, leaves_now T.xBadAmount (kB (by simpa using h1)) Ext.refl⟩
    · exact kN (by simpa using h1)
def spCheckWhole (K : PySem.W.Frag) : Sp := fun vs H Q E => ∃ v, vs = [v] ∧ Ptv K H v ∧ (isWhole v = false → Leaves K E (ga K "BadNumber") v H) ∧ (isWhole v = true → Q .non H)
theorem ok_check_whole (T : Txt K mg) : Df P w K mg base (L2.CX P w) 3 "check_whole" ["value"] (spCheckWhole K) := by
  have D_is_whole := ok_is_whole (P := P) (w := w) (base := base) T
  have D_dye := dye (P := P) (w := w) (base := base) T
  refine Df.mk' T.gcheck_whole T.fcheck_whole (fun _ _ _ _ _ _ us hl => match us, hl with | [_], _ => rfl) fun fd F => F.ok sc_check_whole (fun vs H Q E h => ?_) (fun cdv A outer s H vs Q E hr h => ?_)
  · obtain ⟨v, rfl, _⟩ := h
    rfl
  · obtain ⟨v, rfl, p, kB, kN⟩ := h
    have hr_is_whole := hr.mono (show 1 ≤ 2 by decide)
    refine ⟨_, (pss_one (ps_if (pt_not (pt_val (pe_cd D_is_whole hr_is_whole (by rfl) pass0 (pa_cons (pv 0) pa_nil)))) (pss_one (ps_raiseX rfl T.xBadNumber D_dye (hr.mono (by decide)) (takes_of rfl rfl rfl rfl) (by rfl) T.gBadNumber (pv 0))) pss_nil)), ?_⟩
    refine ⟨_, rfl, v, rfl, p, _, rfl, ?_⟩
    refine ifb (fun h1 => ?_) (fun h1 => ?_)
    · exact ⟨v, rfl, leaves_now T.xBadNumber (kB (by simpa using h1)) Ext.refl⟩
    · exact kN (by simpa using h1)
end

end K3
namespace K3
open PySem PySem.Spec PyProof.Rows L2 He Tp ClX LiI

section
variable {P : Program} {w : World} {K : PySem.W.Frag} {mg : Str → Option Value} {base : Heap}
/-- amount_place(amount) -/
def spPlace : Sp := fun vs H Q _ => ∃ (u : Addr) (q : Am), vs = [.ref u] ∧ isAmt H u q ∧ wdO q.1 ∧ ∀ t, H t = none → Q (.ref t) (upd H t (.tup [.int (q.2 : Int), .int (wPl q.1 : Int)]))
theorem ok_place (T : Txt K mg) : Df P w K mg base CX0 1 "amount_place" ["amount"] spPlace := by
  refine Df.mk' T.gamount_place T.famount_place (fun _ _ _ _ _ _ us hl => match us, hl with | [_], _ => rfl) fun fd F => F.ok sc_amount_place (fun vs H Q E h => ?_) (fun cdv A outer s H vs Q E hr h => ?_)
  · obtain ⟨u, q, rfl, _⟩ := h
    rfl
  · obtain ⟨u, q, rfl, hu, hw, k⟩ := h
    have nd := sc_amount_place.nd
    refine ⟨_, PSs.nox (pss_one (ps_ret (pe_tup (pa_cons (pe_ix ix_tup (pv 0) pe_int (fun _ _ => rfl)) (pa_cons (pe_bm PySem.F.plainAttrs_tuple PySem.F.slot_tuple_index PySem.F.type_tuple_index L2.mt_tup_index (pe_glob (v := .ref (ga K "WORDS")) (by rfl) T.gWORDS rfl) (pa_cons (pe_ix ix_tup (pv 0) pe_int (fun _ _ => rfl)) pa_nil)) pa_nil))))), ?_⟩
    refine ⟨_, rfl, u, _, 1, _, rfl, rfl, .inl (.inl hu), rfl, ?_⟩
    refine ⟨.inr (.inl ⟨rfl, tupDB_ok T.yWORDS⟩), _, rfl, u, _, 0, _, rfl, rfl, .inl (.inl hu), rfl, ga K "WORDS", ["take", "leave"], q.1, wPl q.1, rfl, rfl, T.tWORDS H, ?_, ?_, by show 2 ≤ sizeLine; decide, fun t ht => k t ht⟩
    · rcases hw with h | h <;> rw [h] <;> decide +kernel
    · rcases hw with h | h <;> rw [h]
      · intro m hm
        have : wPl "take" = 0 := by decide +kernel
        omega
      · intro m hm
        match m, hm with
        | 0, _ => decide +kernel
        | m + 1, hm => exact absurd hm (by have : wPl "leave" = 1 := by decide +kernel
                                           omega)
end

end K3
namespace K3
open PySem PySem.Spec PyProof.Rows L2 He Tp ClX LiI

section
variable {P : Program} {w : World} {K : PySem.W.Frag} {mg : Str → Option Value} {base : Heap}
/-- _tidy(numbers) -/
def spTidy : Sp := fun vs H Q _ => ∃ (d : Addr) (ns : List Nm), vs = [.ref d] ∧ H d = some (.dT (dN ns)) ∧ (ns.map (·.1)).Nodup ∧ (∀ q ∈ ns, wdO q.1.1) ∧ ns.length ≤ 1000 ∧ ∀ r H', H r = none → Ext [] H H' → H' r = some (.dT (dN (tidyD ns))) → Q (.ref r) H'
theorem ok_tidy (T : Txt K mg) : Df P w K mg base CX0 4 "_tidy" ["numbers"] spTidy := by
  have D_amount_place := ok_place (P := P) (w := w) (base := base) T
  obtain ⟨fdp, spc_amount_place, bk_amount_place⟩ := D_amount_place.ex
  refine Df.mk' T.g_tidy T.f_tidy (fun _ _ _ _ _ _ us hl => match us, hl with | [_], _ => rfl) fun fd F => F.ok sc__tidy (fun vs H Q E h => ?_) (fun cdv A outer s H vs Q E hr h => ?_)
  · obtain ⟨d, ns, rfl, _⟩ := h
    rfl
  · obtain ⟨d, ns, rfl, hd, hnd, hw, hl, q⟩ := h
    have nd := sc__tidy.nd
    have hrk_amount_place := hr
    have hu := hu_of hr
    refine ⟨_, PSs.nox (pss_cons (ps_set (i := 1) nd rfl (by first | exact Or.inl rfl | exact Or.inr rfl) (pe_callBK (cr_sortedF (spc_amount_place) hrk_amount_place bk_amount_place) (by rfl) T.bsorted (by decide +kernel) (pa_cons (pe_callTy (call_list_dT rfl) (by rfl) T.blist (by decide +kernel) (pa_cons (pv 0) pa_nil)) pa_nil) (pk_cons (pe_glob (v := .ref (ga K "amount_place")) (by rfl) T.gamount_place rfl) pk_nil)))
   (pss_one (ps_ret (pe_dcT (own := [("amount", 2)]) (g := gName 2) ⟨(by rfl), (Nat.lt_of_succ_lt hu), nd, (pi_list (pv 1)), (blkOk_by (own := [("amount", 2)]) (N := n__tidy) (sc := defScope s__tidy) (by decide +kernel)), (fun _ _ _ _ _ => pg_name (i := 2) nd rfl (by first | exact Or.inl rfl | exact Or.inr rfl)), (fun _ _ _ _ _ => (pts_one (pt_cmpR op_ne (pe_dget hu (pv 0) (pv 2) (fun _ _ => rfl)) pe_int (nomark _)))), (fun _ _ _ _ _ => (pv 2)), (fun _ _ _ _ _ => (pe_dget hu (pv 0) (pv 2) (fun _ _ => rfl))), (by intro _; rfl)⟩)))), ?_⟩
    refine ⟨_, rfl, d, _, rfl, .inl hd, fun l bs hl1 isk => ?_⟩
    have hp1 := nm_keys isk
    have x0 : Ext [] H (upd H l (.lst (bs.map V.ref))) := Ext.new hl1
    have hp2 : Paired (fun b (q : Nm) => isAmt (upd H l (.lst (bs.map V.ref))) b q.1) bs ns := paired_mono (fun b q h => x0.tups _ _ h) hp1
    generalize hG : upd H l (.lst (bs.map V.ref)) = G at x0 hp2
    have hGl : G l = some (.lst (bs.map V.ref)) := by rw [← hG]; exact upd_same
    refine ⟨l, bs.map V.ref, keyV G, rfl, rfl, SqL.of hGl, keys_alike hp2, keys_sortable hp2, ?_, ?_, fun p H2 x1 hpn => ?_⟩
    · intro y hy
      obtain ⟨q, _, e⟩ := keys_all hp2 y hy
      rw [e]
      exact plD_depth q
    · intro y hy H' x1
      obtain ⟨zs, rfl, rfl, hz⟩ := paired_zip hp2
      rw [List.map_map] at hy
      obtain ⟨z, hm, rfl⟩ := List.mem_map.mp hy
      refine ⟨z.1, z.2.1, rfl, x1.tups _ _ (hz z hm), hw _ (List.mem_map.mpr ⟨z, hm, rfl⟩), fun t ht => ⟨Ext.new ht, ?_⟩⟩
      show Im _ _ (keyV G (.ref z.1))
      rw [keyV_amt (hz z hm)]
      exact .tup upd_same (.cons (.int _) (.cons (.int _) .nil))
    · obtain ⟨bs', hs', hp3⟩ := sort_amts hp2
      rw [hs']
      have x2 : Ext [] H2 (upd H2 p (.lst (bs'.map V.ref))) := Ext.new hpn
      generalize hG3 : upd H2 p (.lst (bs'.map V.ref)) = H3 at x2
      have hps : H3 p = some (.lst (bs'.map V.ref)) := by rw [← hG3]; exact upd_same
      have x3 := x0.trans (x1.trans x2)
      have hp4 : Paired (fun b (q : Nm) => isAmt H3 b q.1) bs' (ns.mergeSort leN) := paired_mono (fun b q h => (x1.trans x2).tups _ _ h) hp3
      have hd3 := x3.keep _ _ hd (by simp)
      refine ⟨_, rfl, p, rfl, ⟨_, SqL.of hps⟩, fun D hD => ?_⟩
      refine dcT_list (ys := bs'.map V.ref) (fun i H' => Ext [] H3 H' ∧ H' D = some (.dT (dN (((ns.mergeSort leN).take i).filter fun q => decide (q.2 ≠ 0))))) ⟨Ext.new hD, upd_same⟩ ?_ ?_ ?_
      · rintro i' H' _ ⟨e, _⟩
        exact SqL.of (e.keep _ _ hps (by simp))
      · rintro i' y H' hy ⟨e, hDw⟩
        rw [List.getElem?_map] at hy
        obtain ⟨u, hu1, rfl⟩ := Option.map_eq_some_iff.mp hy
        obtain ⟨q0, hq, huq⟩ := paired_getX hp4 hu1
        have hqm : q0 ∈ ns := List.mem_mergeSort.mp (List.mem_of_getElem? hq)
        have huq' : isAmt H' u q0.1 := e.tups _ _ huq
        have hd' := e.keep _ _ hd3 (by simp)
        have hget : DGet H' d (.ref u) (some (.int q0.2)) := by
          rw [← dN_at hnd hqm]
          exact .inr ⟨_, amK q0.1, u, .inl hd', rfl, huq'.key, rfl⟩
        have hi := (List.getElem?_eq_some_iff.mp hq).1
        refine ⟨wipe1, ?_⟩
        refine ⟨_, rfl, _, rfl, d, _, rfl, hget, rfl, ?_⟩
        refine ⟨_, rfl, ?_⟩
        have hmn : ((ns.mergeSort leN).map (·.1)).Nodup := nodup_tidy hnd
        refine ifb (fun h1 => ?_) (fun h1 => ?_)
        · have hne : q0.2 ≠ 0 := by simpa [dec_int] using h1
          have hnew : q0.1 ∉ (((ns.mergeSort leN).take i').filter fun q => decide (q.2 ≠ 0)).map (·.1) := fun hc => by
            obtain ⟨r, hr1, hr2⟩ := List.mem_map.mp hc
            exact nodup_take hmn hq ((List.mem_map.mpr ⟨r, (List.mem_filter.mp hr1).1, hr2⟩))
          refine ⟨_, rfl, _, rfl, _, rfl, d, _, rfl, hget, ?_⟩
          refine ⟨_, amK q0.1, u, rfl, hDw, huq'.key, ?_, e.fresh hD, ?_⟩
          · have := List.length_filter_le (fun q : Nm => decide (q.2 ≠ 0)) ((ns.mergeSort leN).take i')
            rw [List.length_take] at this
            have h3 : (dN (((ns.mergeSort leN).take i').filter fun q => decide (q.2 ≠ 0))).length = (((ns.mergeSort leN).take i').filter fun q => decide (q.2 ≠ 0)).length := by
              rw [dA_len, List.length_map]
            have h4 : (1000 : Nat) < sizeLine := by decide
            have h5 := List.length_mergeSort (le := leN) ns
            omega
          · rw [upd_same, dN_put hnew, take_snoc_flt hq, if_pos (decide_eq_true hne)]
        · have hz : q0.2 = 0 := by simpa [dec_int] using h1
          refine ⟨e, ?_⟩
          rw [hDw, take_snoc_flt hq, if_neg (by simp [hz]), List.append_nil]
      · rintro H' ⟨e, hDw⟩
        refine q _ _ (x3.none hD (by simp)) (x3.trans e) ?_
        rw [hDw, List.length_map, show bs'.length = (ns.mergeSort leN).length from Paired.length hp4, List.take_length]
        rfl
end

end K3
namespace K3
open PySem PySem.Spec PyProof.Rows L2 He Tp ClX LiI

section
variable {P : Program} {w : World} {K : PySem.W.Frag} {mg : Str → Option Value} {base : Heap}
/-- _summed(terms) -/
theorem ok_summed (T : Txt K mg) : Df P w K mg base (L2.CX P w) 5 "_summed" ["terms"] (spSummed K) := by
  have D_check_amount := ok_check_amount (P := P) (w := w) (base := base) T
  have D_check_whole := ok_check_whole (P := P) (w := w) (base := base) T
  have D__tidy := ok_tidy (P := P) (w := w) (base := base) T
  refine Df.mk' T.g_summed T.f_summed (fun _ _ _ _ _ _ us hl => match us, hl with | [_], _ => rfl) fun fd F => F.ok sc__summed (fun vs H Q E h => ?_) (fun cdv A outer s H vs Q E hr h => ?_)
  · obtain ⟨l, xs, ts, rfl, _⟩ := h
    rfl
  · obtain ⟨l, xs, ts, rfl, hl, hp, hn, kA, kN, q⟩ := h
    have nd := sc__summed.nd
    have hr_check_amount := hr.mono (show 3 ≤ 4 by decide)
    have hr_check_whole := hr.mono (show 3 ≤ 4 by decide)
    have hr__tidy := hr
    have hu := hu1_of hr
    refine ⟨_, (pss_cons (ps_set (i := 1) nd rfl (by first | exact Or.inl rfl | exact Or.inr rfl) pe_dnewT)
   (pss_cons (ps_for (passes_of rfl) rfl (pi_seq (pv 0)) (pg_tup (by rfl) (pgs_cons (pg_name (i := 2) nd rfl (by first | exact Or.inl rfl | exact Or.inr rfl)) (pgs_cons (pg_name (i := 3) nd rfl (by first | exact Or.inl rfl | exact Or.inr rfl)) pgs_nil)))
   (pss_cons (ps_expr (pe_cd D_check_amount hr_check_amount (by rfl) (passes_call (takes_of rfl rfl rfl rfl) (fun _ _ _ _ z => z)) (pa_cons (pv 2) pa_nil)))
   (pss_cons (ps_expr (pe_cd D_check_whole hr_check_whole (by rfl) (passes_call (takes_of rfl rfl rfl rfl) (fun _ _ _ _ z => z)) (pa_cons (pv 3) pa_nil)))
   (pss_one (ps_dput hu (pv 1) (pv 2) (pe_op op_add (pe_dget2 hu (pv 1) (pv 2) pe_int ⟨by rfl, by rfl, by rfl, by rfl⟩) (pv 3)) rfl)))))
   (pss_one (ps_ret (pe_cd D__tidy hr__tidy (by rfl) pass0 (pa_cons (pv 1) pa_nil)))))), ?_⟩
    intro dd hdd
    have e0 : Ext [] H (upd H dd (.dT [])) := Ext.new hdd
    have hlen : xs.length = ts.length := Paired.length hp
    refine ⟨_, rfl, l, rfl, ?_⟩
    refine seq_for (K := K) hl e0 fun J G wk hG => ?_
    refine for_it wk (fun i σ' H' => (∃ x2 x3, σ' = [some (.ref l), some (.ref dd), x2, x3]) ∧ Ext [] H H' ∧ H' dd = some (.dT (dN (sumN ((ts.take i).map nmT)))) ∧ ∀ t ∈ ts.take i, tmOk t = true)
      ⟨⟨none, none, rfl⟩, e0, upd_same, by simp⟩ ?_ ?_ ?_
    · rintro i σ' H' _ ⟨_, e, _⟩
      exact hG H' e
    · rintro i y σ' H' H2 hi ⟨⟨x2, x3, rfl⟩, e, hd, hok⟩ ⟨rfl, hy⟩
      obtain ⟨t, ht, p, rfl, hpt, av, pn⟩ := paired_getX hp hy
      have hit : i < ts.length := (List.getElem?_eq_some_iff.mp ht).1
      have hsplit := split_nth ht
      refine ⟨p, _, rfl, .inl (.inl (e.tups _ _ hpt)), rfl, _, _, rfl, _, _, rfl, rfl, ?_⟩
      have av' := av.ext e
      have pn' : Ptv K H2 t.2.2 := Ptv.ext e (fun _ _ _ h => sqT_keep h e) pn
      refine ⟨_, rfl, t.1, t.2.1, rfl, av', fun hb => (kA _ t _ hsplit hok hb).ext e, fun hb => ?_⟩
      refine ⟨_, rfl, t.2.2, rfl, pn', fun hz => (kN _ t _ hsplit hok hb hz).ext e, fun hz => ?_⟩
      obtain ⟨u, q0, hu1, hu2, hu3⟩ := amt_of av' hb
      obtain ⟨z, hz2⟩ : ∃ z : Int, t.2.2 = .int z := by
        cases h : t.2.2 with
        | int z => exact ⟨z, rfl⟩
        | _ => rw [h] at hz; cases hz
      have hnm : nmT t = (q0, z) := by
        unfold nmT
        rw [hu3, hz2]
        rfl
      have htt : t = (.ref u, dAmt q0, .int z) := by rw [← hu1, ← hu3, ← hz2]
      have huK : H2 u = some (.tup ((amK q0).map kV)) := hu2
      have ndS := nodup_sumN ((ts.take i).map nmT)
      have hbw : tmOk t = true := by
        unfold tmOk
        rw [hb, hz]
        rfl
      have hok' : ∀ t' ∈ ts.take (i + 1), tmOk t' = true := fun t' h' => by
        rw [take_snoc ht] at h'
        rcases List.mem_append.mp h' with h' | h'
        · exact hok _ h'
        · rw [List.mem_singleton.mp h']
          exact hbw
      have hsum : sumN ((ts.take (i + 1)).map nmT) = addN (sumN ((ts.take i).map nmT)) (q0, z) := by
        rw [take_snoc ht, List.map_append, sumN_snoc.symm, ← hnm]
        rfl
      have hsz : (dN (sumN ((ts.take i).map nmT))).length < sizeLine := by
        have h1 := len_sumN ((ts.take i).map nmT)
        have h2 : (dN (sumN ((ts.take i).map nmT))).length = (sumN ((ts.take i).map nmT)).length := by rw [dA_len, List.length_map]
        rw [List.length_map, List.length_take] at h1
        have h4 : (1000 : Nat) < sizeLine := by decide
        omega
      clear kA kN
      subst htt
      refine ⟨_, rfl, dd, rfl, .inr ⟨_, .inl hd⟩, _, rfl, valV (dN (sumN ((ts.take i).map nmT))) (amK q0), DGet.t hd huK, _, rfl, numN (sumN ((ts.take i).map nmT)) q0, z, get_dN ndS, rfl, _, rfl, _, rfl, dd, _, rfl, DPut.t hd huK hsz, ⟨_, _, rfl⟩, e.fresh hdd, ?_, hok'⟩
      rw [upd_same, hsum]
      exact congrArg some (congrArg HO.dT (put_addN (q := (q0, z)) ndS))
    · rintro σ' H' ⟨⟨x2, x3, rfl⟩, e, hd, hok⟩
      rw [hlen, List.take_length] at hd hok
      refine ⟨_, rfl, dd, _, rfl, hd, nodup_sumN _, sumN_wd hok, ?_, fun r H2 hr2 e2 h2 => q hok r H2 (e.none hr2 (by simp)) (e.trans e2) h2⟩
      · exact Nat.le_trans (len_sumN _) (by rw [List.length_map]; exact hn)
end

end K3
namespace K3
open PySem PySem.Spec PyProof.Rows L2 He Tp ClX LiI

section
variable {P : Program} {w : World} {K : PySem.W.Frag} {mg : Str → Option Value} {base : Heap}
abbrev cF (K : PySem.W.Frag) : Addr := ga K "Form"
theorem ok_finit (T : Txt K mg) {fd : FuncData} {dvs : List V} {f : Addr} (F : FunD K "__init__" "Form.__init__" (defArgs s_Form___init__) (defBody s_Form___init__) (defScope s_Form___init__) dvs [] f fd) : FnOk P w K mg base (L2.CX P w) 6 f fd ["self", "terms"] (spFmInit K (cF K)) := by
  have D__summed := ok_summed (P := P) (w := w) (base := base) T
  refine F.ok sc_Form___init__ (fun vs H Q E h => ?_) (fun cdv A outer s H vs Q E hr h => ?_)
  · obtain ⟨a, dx, l, xs, ts, rfl, _⟩ := h
    rfl
  · obtain ⟨a, dx, l, xs, ts, rfl, ha, hl, hp, hn, kA, kN, q⟩ := h
    have nd := sc_Form___init__.nd
    have hr__summed := hr
    refine ⟨_, (pss_one (ps_fld (pv 0) (pe_cd D__summed hr__summed (by rfl) (passes_call (takes_of rfl rfl rfl rfl) (fun _ _ _ _ z => z)) (pa_cons (pv 1) pa_nil)) rfl)), ?_⟩
    refine ⟨_, rfl, l, xs, ts, rfl, hl, hp, hn, kA, kN, fun hok r H' hr2 e hd => ?_⟩
    have ha' := e.keep _ _ ha (by simp)
    refine ⟨_, rfl, a, cF K, dx, [], rfl, ha', T.clForm, T.nForm_numbers, (by show 0 < 1000; decide), ?_⟩
    rw [show putF ("_numbers" : Str) (V.ref r) [] = [(("_numbers" : Str), V.ref r)] from rfl]
    have hne : r ≠ a := fun z => by rw [z, ha] at hr2; cases hr2
    refine q hok r _ hr2 (e.nil.trans (ext_at fun xs z => by rw [ha'] at z; cases z)) ⟨upd_same, ?_, nodup_tidyD (nodup_sumN _), fun q hq => sumN_wd hok _ (tidy_mem.mp hq).1, fun q hq => (tidy_mem.mp hq).2⟩
    rw [upd_ne hne]
    exact hd
theorem ok_flen (T : Txt K mg) {fd : FuncData} (F : FnM K "Form" "__len__" "Form.__len__" s_Form___len__ [] fd) : FnOk P w K mg base CX0 1 (ma K (cF K) "__len__") fd ["self"] (spFmLen (cF K)) := by
  refine F.ok sc_Form___len__ (fun vs H Q E h => ?_) (fun cdv A outer s H vs Q E hr h => ?_)
  · obtain ⟨a, dx, d, ns, rfl, _⟩ := h
    rfl
  · obtain ⟨a, dx, d, ns, rfl, F, q⟩ := h
    refine ⟨_, PSs.nox (pss_one (ps_ret (pe_callB call_len_dT (by rfl) T.blen PySem.boot_len (pa_cons (pe_fld (pv 0) rfl) pa_nil)))), ?_⟩
    have hl : (dN ns).length = ns.length := by rw [dA_len, List.length_map]
    rw [← hl] at q
    exact ⟨_, rfl, a, cF K, dx, _, _, rfl, F.ob, T.clForm, T.nForm_numbers, rfl, d, _, rfl, F.nm, q⟩
theorem ok_fiter (T : Txt K mg) {fd : FuncData} (F : FnM K "Form" "__iter__" "Form.__iter__" s_Form___iter__ [] fd) : FnN P w K mg base CX0 1 (ma K (cF K) "__iter__") fd ["self"] (spFmIter (cF K)) := by
  refine FunD.okN F sc_Form___iter__ (fun n vs H Q E h => ?_) (fun cdv A outer s H vs Q E hr h => ?_)
  · obtain ⟨a, dx, d, o, kvs, rfl, _⟩ := h
    rfl
  · obtain ⟨a, dx, d, o, kvs, rfl, ha, hd, q⟩ := h
    refine ⟨_, PSs.nox (pss_one (ps_ret (pe_callB call_iterI (by rfl) T.biter (by decide +kernel) (pa_cons (pe_itemsT (pe_fld (pv 0) rfl)) pa_nil)))), ?_⟩
    refine ⟨_, rfl, a, cF K, dx, _, _, rfl, ha, T.clForm, T.nForm_numbers, rfl, d, o, kvs, rfl, hd, fun p hp => ?_⟩
    have hpd : d ≠ p := fun z => by rw [z, hp] at hd; cases hd
    refine ⟨p, d, o, kvs, rfl, upd_same, by rw [upd_ne hpd]; exact hd, fun it hi hn => ?_⟩
    have hne : it ≠ p := fun z => by rw [z, upd_same] at hi; cases hi
    rw [upd_ne hne] at hi
    exact q p it hp hne hi hn
theorem ok_feq (T : Txt K mg) {fd : FuncData} (F : FnM K "Form" "__eq__" "Form.__eq__" s_Form___eq__ [] fd) : FnOk P w K mg base CX0 2 (ma K (cF K) "__eq__") fd ["self", "other"] (spFmEq (cF K)) := by
  refine F.ok sc_Form___eq__ (fun vs H Q E h => ?_) (fun cdv A outer s H vs Q E hr h => ?_)
  · obtain ⟨a, b, dx, d, ns, rfl, _⟩ := h
    rfl
  · obtain ⟨a, b, dx, d, ns, rfl, F, q⟩ := h
    have hu := hu1_of hr
    have ic := insB_ok T.clForm T.iForm
    refine ⟨_, PSs.nox (pss_one (ps_ret (pe_and (pe_callB (call_isi) (by rfl) T.bisinstance (by decide +kernel) (pa_cons (pv 1) (pa_cons (pe_glob (v := .ref (ga K "Form")) (by rfl) T.gForm rfl) pa_nil))) (pe_one (pe_cmpR (op_eqT hu) (pe_fld (pv 0) rfl) (pe_fld (pv 1) rfl) (nomark _)))))), ?_⟩
    rcases q with ⟨dy, e, ms, G, q⟩ | ⟨xs, hb, q⟩
    · refine ⟨_, rfl, _, _, _, _, true, rfl, .own _, .base (TyOf.ins G.ob ic.cl ic.ha ic.hn ic.htk ic.hm), ic.me, _, rfl, ?_⟩
      exact ⟨_, rfl, a, cF K, dx, _, _, rfl, F.ob, T.clForm, T.nForm_numbers, rfl, _, rfl, b, cF K, dy, _, _, rfl, G.ob, T.clForm, T.nForm_numbers, rfl, d, e, ns, ms, rfl, rfl, F.nm, G.nm, q⟩
    · refine ⟨_, rfl, _, _, _, _, false, rfl, .own _, .base (.lst hb), (insL_ok T.iForm).1, _, rfl, ?_⟩
      exact q
end

end K3
namespace K3
open PySem PySem.Spec PyProof.Rows L2 He Tp ClX LiI

section
variable {P : Program} {w : World} {K : PySem.W.Frag} {mg : Str → Option Value} {base : Heap}
theorem ok_source (T : Txt K mg) : Df P w K mg base CX0 1 "_law_source" ["_law_script"] (spSource K) := by
  refine Df.mk' T.g_law_source T.f_law_source (fun _ _ _ _ _ _ us hl => match us, hl with | [_], _ => rfl) fun fd F => F.ok sc__law_source (fun vs H Q E h => ?_) (fun cdv A outer s H vs Q E hr h => ?_)
  · obtain ⟨a, ns, rfl, _⟩ := h
    rfl
  · obtain ⟨a, ns, rfl, hS, hl, q⟩ := h
    have nd := sc__law_source.nd
    refine ⟨_, PSs.nox
   (pss_one (ps_ret (pe_lst (pa_cons (pe_lc (own := [("_law_cell", 1)]) (g := gName 1) (tt := tYes) (by rfl) nd (pi_list (pe_slice sl_list (pv 0) po_none (po_some pe_int))) (blkOk_by (own := [("_law_cell", 1)]) (N := n__law_source) (sc := defScope s__law_source) (by decide +kernel)) (fun _ _ _ _ _ => pg_name (i := 1) nd rfl (by first | exact Or.inl rfl | exact Or.inr rfl)) (fun _ _ _ _ _ => pts_nil) (fun _ _ _ _ _ => (pe_callTy call_int1 (by rfl) T.bint (by decide +kernel) (pa_cons (pv 1) pa_nil)))) (pa_cons pe_int (pa_cons pe_int (pa_cons pe_int pa_nil))))))), ?_⟩
    refine ⟨_, rfl, _, rfl, a, _, rfl, hS, fun c hc => ?_⟩
    have hlen : (cutV (ns.map V.int) none (some 63)).length ≤ 63 := by
      have := cutV_length (ns.map V.int) none (some 63)
      rw [List.length_map] at this
      omega
    have hint : ∀ x ∈ cutV (ns.map V.int) none (some 63), ∃ z, x = V.int z := by
      intro x hx
      have h1 : x ∈ ns.map V.int := by
        unfold cutV at hx
        exact List.mem_of_mem_drop (List.mem_of_mem_take hx)
      obtain ⟨z, _, e⟩ := List.mem_map.mp h1
      exact ⟨z, e.symm⟩
    refine ⟨c, rfl, ⟨_, SqL.of upd_same⟩, fun D hD => ?_⟩
    refine lc_list (K := K) (a := c) (xs := cutV (ns.map V.int) none (some 63)) (fun i H' => ∃ acc : List Int, H' = upd (upd H c (.lst (cutV (ns.map V.int) none (some 63)))) D (.lst (acc.map V.int)) ∧ acc.length = i) ⟨[], rfl, rfl⟩ ?_ ?_ ?_
    · rintro i H' _ ⟨acc, rfl, _⟩
      exact SqL.of (by rw [upd_ne (ne_of_none upd_same hD)]; exact upd_same)
    · rintro i x H' hx ⟨acc, rfl, hacc⟩
      obtain ⟨z, rfl⟩ := hint x (List.mem_of_getElem? hx)
      have hi := (List.getElem?_eq_some_iff.mp hx).1
      refine ⟨wipe1, ?_⟩
      refine tyes ?_
      refine val_toInt (x := z) (val_var rfl) _ ⟨acc.map V.int, upd_same, by rw [List.length_map]; exact small1000 (by omega), acc ++ [z], ?_, by rw [List.length_append, hacc]; rfl⟩
      rw [upd_upd, List.map_append]
      rfl
    · rintro H' ⟨acc, rfl, hacc⟩
      refine ⟨(by show 4 ≤ sizeLine; decide), fun S hS2 => ?_⟩
      simp only [upd_none_iff] at hS2 hD
      refine q S D _ hS2.2.2 hD.2 ⟨fun b o z n => ?_, fun b xs z => ?_⟩ ⟨acc, 0, 0, 0, upd_same, ?_, ⟨Int.le_refl 0, Int.le_refl 0, Int.le_refl 0, by omega⟩⟩
      · rw [upd_ne (ne_of_none z hS2.2.2), upd_ne (ne_of_none z hD.2), upd_ne (ne_of_none z hc)]; exact z
      · rw [upd_ne (ne_of_none z hS2.2.2), upd_ne (ne_of_none z hD.2), upd_ne (ne_of_none z hc)]; exact z
      · rw [upd_ne (Ne.symm hS2.1)]; exact upd_same
end

end K3
namespace K3
open PySem PySem.Spec PyProof.Rows L2 He Tp ClX LiI

section
variable {P : Program} {w : World} {K : PySem.W.Frag} {mg : Str → Option Value} {base : Heap}
/-- _law_amount(source) -/
def spLAmt : Sp := fun vs H Q _ => ∃ (S L : Addr), vs = [.ref S] ∧ SrcAt H S L ∧ ∀ u (q : Am) H', (wdO q.1 ∧ q.2 < 10 ^ 12) → H u = none → Ext [S] H H' → SrcAt H' S L → isAmt H' u q → Q (.ref u) H'
theorem ok_lamount (T : Txt K mg) : Df P w K mg base CX0 2 "_law_amount" ["_law_source_here"] spLAmt := by
  have D__law_draw := ok_drawE (P := P) (w := w) (base := base) T
  refine Df.mk' T.g_law_amount T.f_law_amount (fun _ _ _ _ _ _ us hl => match us, hl with | [_], _ => rfl) fun fd F => F.ok sc__law_amount (fun vs H Q E h => ?_) (fun cdv A outer s H vs Q E hr h => ?_)
  · obtain ⟨S, L, rfl, _⟩ := h
    rfl
  · obtain ⟨S, L, rfl, hS, q⟩ := h
    have nd := sc__law_amount.nd
    have hr__law_draw := hr
    refine ⟨_, PSs.nox (pss_cons (ps_set (i := 1) nd rfl (by first | exact Or.inl rfl | exact Or.inr rfl) (pe_ix ix_list (pe_lst (pa_cons pe_str (pa_cons pe_str pa_nil))) (pe_cd D__law_draw hr__law_draw (by rfl) pass0 (pa_cons (pv 0) (pa_cons pe_int pa_nil))) (fun _ _ => rfl)))
   (pss_one (ps_ret (pe_tup (pa_cons (pv 1) (pa_cons (pe_cd D__law_draw hr__law_draw (by rfl) pass0 (pa_cons (pv 0) (pa_cons (pe_ix ix_list (pe_lst (pa_cons pe_int (pa_cons pe_int (pa_cons (pe_op op_pow pe_int pe_int) pa_nil)))) (pe_cd D__law_draw hr__law_draw (by rfl) pass0 (pa_cons (pv 0) (pa_cons pe_int pa_nil))) (fun _ _ => rfl)) pa_nil))) pa_nil)))))), ?_⟩
    refine ⟨(by show 2 ≤ sizeLine; decide), fun a ha => ?_⟩
    have S1 : SrcAt (upd H a (.lst [.str "take", .str "leave"])) S L := hS.new ha
    refine draw_ex (i := 0) rfl S1 (by decide) (by decide) val_c (fun n H1 n0 n1 e1 S2 => ?_)
    have aS : a ≠ S := (src_ne_new hS ha).1
    have hL : H1 a = some (.lst [.str "take", .str "leave"]) := e1.keep _ _ upd_same (by simp [aS])
    obtain ⟨x, hx, wx⟩ : ∃ x : Str, atI [V.str "take", .str "leave"] n = some (.str x) ∧ wdO x := by
      have : n = 0 ∨ n = 1 := by omega
      rcases this with rfl | rfl
      · exact ⟨"take", rfl, .inl rfl⟩
      · exact ⟨"leave", rfl, .inr rfl⟩
    refine ⟨a, _, n, _, rfl, rfl, SqL.of hL, hx, ?_⟩
    have e01 : Ext [S] H H1 := (Ext.new ha).trans e1
    clear S1 hL
    refine ⟨_, rfl, _, rfl, ?_⟩
    have p12 : CPow 10 12 := ⟨by decide, by decide, by decide⟩
    refine ⟨10, 12, rfl, rfl, p12, ?_⟩
    refine ⟨(by show 3 ≤ sizeLine; decide), fun b hb => ?_⟩
    have S3 : SrcAt (upd H1 b (.lst [.int 3, .int 30, .int ((10 : Int) ^ (12 : Int).toNat)])) S L := S2.new hb
    refine draw_ex (i := 0) rfl S3 (by decide) (by decide) val_c (fun n2 H2 n20 n21 e2 S4 => ?_)
    have bS : b ≠ S := (src_ne_new S2 hb).1
    have hL2 : H2 b = some (.lst [.int 3, .int 30, .int ((10 : Int) ^ (12 : Int).toNat)]) := e2.keep _ _ upd_same (by simp [bS])
    obtain ⟨m, hm, m0, m1⟩ : ∃ m : Int, atI [V.int 3, .int 30, .int ((10 : Int) ^ (12 : Int).toNat)] n2 = some (.int m) ∧ 0 < m ∧ m ≤ 10 ^ 12 := by
      have : n2 = 0 ∨ n2 = 1 ∨ n2 = 2 := by omega
      rcases this with rfl | rfl | rfl
      · exact ⟨3, rfl, by decide, by decide⟩
      · exact ⟨30, rfl, by decide, by decide⟩
      · exact ⟨_, rfl, by decide, by decide⟩
    refine ⟨b, _, n2, _, rfl, rfl, SqL.of hL2, hm, ?_⟩
    refine ⟨S, L, m, rfl, S4, m0, Int.lt_of_le_of_lt m1 (by decide), fun n3 H3 n30 n31 e3 S5 => ?_⟩
    refine ⟨by show 2 ≤ sizeLine; decide, fun u hu => ?_⟩
    have e03 : Ext [S] H H3 := e01.trans (((Ext.new hb).trans e2).trans e3)
    have hu0 : H u = none := e03.none hu fun hm => by
      rw [List.mem_singleton.mp hm] at hu
      obtain ⟨c, i, k, g, h1, _⟩ := S5
      rw [hu] at h1
      cases h1
    refine q u (x, n3.toNat) _ ⟨wx, by show n3.toNat < 10 ^ 12; omega⟩ hu0 (e03.trans (Ext.new hu)) (S5.new hu) ?_
    show upd H3 u _ u = _
    rw [upd_same]
    show some (HO.tup [.str x, .int n3]) = some (HO.tup [.str x, .int ((n3.toNat : Nat) : Int)])
    rw [Int.toNat_of_nonneg n30]
end

end K3
namespace K3
open PySem PySem.Spec PyProof.Rows L2 He Tp ClX LiI

section
variable {P : Program} {w : World} {K : PySem.W.Frag} {mg : Str → Option Value} {base : Heap}
/-- _law_terms(source, most) -/
def spLTerms : Sp := fun vs H Q _ => ∃ (S L : Addr) (m : Nat), vs = [.ref S, .int (m : Int)] ∧ m ≤ 100 ∧ SrcAt H S L ∧ ∀ l qs H', H l = none → Ext [S] H H' → SrcAt H' S L → TmsAt H' l qs → (∀ q ∈ qs, wdO q.1.1 ∧ q.1.2 < 10 ^ 12) → qs.length ≤ m → Q (.ref l) H'
theorem ok_lterms (T : Txt K mg) : Df P w K mg base CX0 3 "_law_terms" ["_law_source_here", "_law_most"] spLTerms := by
  have D__law_draw := ok_drawE (P := P) (w := w) (base := base) T
  have D__law_amount := ok_lamount (P := P) (w := w) (base := base) T
  refine Df.mk' T.g_law_terms T.f_law_terms (fun _ _ _ _ _ _ us hl => match us, hl with | [_, _], _ => rfl) fun fd F => F.ok sc__law_terms (fun vs H Q E h => ?_) (fun cdv A outer s H vs Q E hr h => ?_)
  · obtain ⟨S, L, m, rfl, _⟩ := h
    rfl
  · obtain ⟨S, L, m, rfl, hm, hS, q⟩ := h
    have nd := sc__law_terms.nd
    have hu0 := hr.units
    have hr__law_draw := hr.mono (show 1 ≤ 2 by decide)
    have hr__law_amount := hr
    refine ⟨_, PSs.nox (pss_cons (ps_set (i := 2) nd rfl (by first | exact Or.inl rfl | exact Or.inr rfl) (pe_lst pa_nil))
   (pss_cons (ps_for PassesOwn.never rfl (pi_range1 (by rfl) T.brange (pa_cons (pe_op op_mod (pe_op op_add pe_int (pe_cd D__law_draw hr__law_draw (by rfl) pass0 (pa_cons (pv 0) (pa_cons (pe_op op_add (pv 1) pe_int) pa_nil)))) (pe_op op_add (pv 1) pe_int)) pa_nil)) (pg_name (i := 3) nd rfl (by first | exact Or.inl rfl | exact Or.inr rfl))
   (pss_cons (ps_set (i := 4) nd rfl (by first | exact Or.inl rfl | exact Or.inr rfl) (pe_cd D__law_amount hr__law_amount (by rfl) pass0 (pa_cons (pv 0) pa_nil)))
   (Evl.pss_cut (ps_if (PW.pt (pw_and (pt_cmpR (op_neD hu0) (pv 2) (pe_lst pa_nil) (nomark _)) (pw_and1 (pt_cmpR op_eq (pe_cd D__law_draw hr__law_draw (by rfl) pass0 (pa_cons (pv 0) (pa_cons pe_int pa_nil))) pe_int (nomark _))))) (pss_one (ps_set (i := 4) nd rfl (by first | exact Or.inl rfl | exact Or.inr rfl) (pe_ix ix_tup (pe_ix ix_list (pv 2) (pe_cd D__law_draw hr__law_draw (by rfl) pass0 (pa_cons (pv 0) (pa_cons (pe_callB call_len_seq (by rfl) T.blen PySem.boot_len (pa_cons (pv 2) pa_nil)) pa_nil))) (fun _ _ => rfl)) pe_int (fun _ _ => rfl)))) pss_nil)
   (pss_cons (ps_set (i := 5) nd rfl (by first | exact Or.inl rfl | exact Or.inr rfl) (pe_ix ix_list (pe_lst (pa_cons pe_int (pa_cons pe_int (pa_cons (pe_op op_pow pe_int pe_int) pa_nil)))) (pe_cd D__law_draw hr__law_draw (by rfl) pass0 (pa_cons (pv 0) (pa_cons pe_int pa_nil))) (fun _ _ => rfl)))
   (pss_one (ps_expr (pe_bm PySem.F.plainAttrs_list PySem.F.slot_list_append PySem.F.type_list_append mt_append (pv 2) (pa_cons (pe_tup (pa_cons (pv 4) (pa_cons (pe_op op_sub (pe_cd D__law_draw hr__law_draw (by rfl) pass0 (pa_cons (pv 0) (pa_cons (pe_op op_add (pe_op op_mul pe_int (pv 5)) pe_int) pa_nil))) (pv 5)) pa_nil))) pa_nil))))))))
   (pss_one (ps_ret (pv 2))))), ?_⟩
    refine ⟨by show 0 ≤ sizeLine; decide, fun l hl => ?_⟩
    have e0 : Ext [S] H (upd H l (.lst [])) := Ext.new hl
    have S0 := hS.new (o := .lst []) hl
    have lS : l ≠ S := (src_ne_new hS hl).1
    have lL : l ≠ L := (src_ne_new hS hl).2
    have T0 : TmsAt (upd H l (.lst [])) l [] := ⟨[], upd_same, .nil⟩
    generalize upd H l (.lst []) = H0 at e0 S0 T0
    refine gset ?_
    dsimp only
    refine draw_ex (i := 0) (many := (m : Int) + 1) rfl S0 (by omega) (Int.lt_of_le_of_lt (show (m : Int) + 1 ≤ 101 by omega) (by decide)) (val_int (val_var rfl) val_c) (fun n H1 n0 n1 e1 S1 => ?_)
    have T1 := T0.ext e1 (by simpa using lS)
    have hm1 := Int.emod_nonneg (3 + n) (show (m : Int) + 1 ≠ 0 by omega)
    have hm2 := Int.emod_lt_of_pos (3 + n) (show (0 : Int) < (m : Int) + 1 by omega)
    refine ⟨3, _, rfl, rfl, _, rfl, _, 1, rfl, rfl, _, _, rfl, rfl, (by show (0 : Int) < (m : Int) + 1; omega), (3 + n) % ((m : Int) + 1), rfl, by omega, by omega, for_range (n := ((3 + n) % ((m : Int) + 1)).toNat) (fun i σ' H' => ∃ x3 x4 x5 qs, σ' = [some (.ref S), some (.int (m : Int)), some (.ref l), x3, x4, x5] ∧ Ext [S] H H' ∧ SrcAt H' S L ∧ TmsAt H' l qs ∧ (∀ q ∈ qs, wdO q.1.1 ∧ q.1.2 < 10 ^ 12) ∧ qs.length ≤ i) ⟨none, none, none, [], rfl, e0.trans e1, S1, T1, by simp, Nat.le_refl _⟩ ?_ ?_⟩
    · rintro i σ' H' hi ⟨x3, x4, x5, qs, rfl, e, s1, t1, w1, hl1⟩
      refine gset ?_
      dsimp only
      refine ⟨_, rfl, S, L, rfl, s1, fun u q1 H2 wq1 hu e2 s2 am => ?_⟩
      have t2 := t1.ext e2 (by simpa using lS)
      have e12 := e.trans e2
      clear e e2 t1 s1
      refine gset ?_
      dsimp only
      refine ⟨fun σ' H3 => ∃ u q2, σ' = [some (.ref S), some (.int (m : Int)), some (.ref l), some (.int (0 + (i : Int))), some (.ref u), x5] ∧ (wdO q2.1 ∧ q2.2 < 10 ^ 12) ∧ isAmt H3 u q2 ∧ Ext [S] H H3 ∧ SrcAt H3 S L ∧ TmsAt H3 l qs, ?_, ?_⟩
      · refine ⟨_, rfl, by show 0 ≤ sizeLine; decide, fun z hz => ?_⟩
        have e3 : Ext [] H2 (upd H2 z (.lst [])) := Ext.new hz
        have hz3 : (upd H2 z (.lst [])) z = some (.lst []) := upd_same
        have zS : z ≠ S := (src_ne_new s2 hz).1
        have s3 := s2.ext e3
        have t3 := t2.ext e3 (by simp)
        have e13 := e12.trans e3.nil
        have am3 : isAmt (upd H2 z (.lst [])) u q1 := e3.tups _ _ am
        generalize upd H2 z (.lst []) = H3 at hz3 s3 t3 e13 am3
        refine ⟨.list (qs.map dTm), .list [], t3.dp, .lst (SqL.of hz3) ImAll.nil.dp, sh_tms (fun q hq => (w1 q hq).1), by decide +kernel, _, rfl, ?_⟩
        rw [eqv_nil]
        refine ifb (fun h => ?_) (fun h => ?_)
        · have hne : qs ≠ [] := by simpa using h
          refine draw_ex (i := 0) rfl s3 (by decide) (by decide) val_c (fun k H4 k0 k1 e4 s4 => ?_)
          have t4 := t3.ext e4 (by simpa using lS)
          have e14 := e13.trans e4
          have am4 : isAmt H4 u q1 := e4.tups _ _ am3
          refine ⟨rfl, _, rfl, ?_⟩
          refine ifd (fun _ => ?_) (fun _ => ?_)
          · obtain ⟨us, hus, hpu⟩ := id t4
            have hlen : (us.map V.ref).length = qs.length := by rw [List.length_map]; exact Paired.length hpu
            have hq0 : 0 < qs.length := List.length_pos_iff.mpr hne
            refine ⟨_, rfl, ?_⟩
            refine draw_ex (i := 0) (many := ((us.map V.ref).length : Int)) rfl s4 (by omega) (Int.lt_of_le_of_lt (show ((us.map V.ref).length : Int) ≤ 200 by omega) (by decide)) (val_len (val_var rfl) (SqL.of hus)) (fun j H5 j0 j1 e5 s5 => ?_)
            have hus5 := e5.keep _ _ hus (by simpa using lS)
            have t5 := t4.ext e5 (by simpa using lS)
            obtain ⟨j, rfl⟩ := Int.eq_ofNat_of_zero_le j0
            have hj : j < us.length := by rw [List.length_map] at j1; omega
            obtain ⟨qj, hqj, hr⟩ := paired_getX (paired_mono (fun _ _ h => h.ext e5) hpu) (List.getElem?_eq_getElem hj)
            obtain ⟨aj, hr1, hr2⟩ := hr
            refine ⟨l, _, _, .ref us[j], rfl, rfl, SqL.of hus5, atI_nat (by rw [List.getElem?_map, List.getElem?_eq_getElem hj]; rfl), ?_⟩
            refine ⟨us[j], _, 0, .ref aj, rfl, rfl, .inl (.inl hr1), rfl, ?_⟩
            exact ⟨aj, qj.1, rfl, w1 _ (List.mem_of_getElem? hqj), hr2, e14.trans e5, s5, t5⟩
          · exact ⟨u, q1, rfl, wq1, am4, e14, s4, t4⟩
        · exact ⟨u, q1, rfl, wq1, am3, e13, s3, t3⟩
      · clear t2 s2 e12 am wq1 q1 hu
        rintro σ' H3 ⟨u, q1, rfl, wq1, am, e3, s3, t3⟩
        have p30 : CPow 10 30 := ⟨by decide, by decide, by decide⟩
        refine ⟨10, 30, rfl, rfl, p30, ?_⟩
        refine ⟨(by show 3 ≤ sizeLine; decide), fun b hb => ?_⟩
        have e4 : Ext [] H3 (upd H3 b (.lst [.int 2, .int 9, .int ((10 : Int) ^ (30 : Int).toNat)])) := Ext.new hb
        have s4 := s3.ext e4
        have t4 := t3.ext e4 (by simp)
        have hb4 : (upd H3 b (.lst [.int 2, .int 9, .int ((10 : Int) ^ (30 : Int).toNat)])) b = some (.lst [.int 2, .int 9, .int ((10 : Int) ^ (30 : Int).toNat)]) := upd_same
        have bS : b ≠ S := (src_ne_new s3 hb).1
        have am4 := e4.tups _ _ am
        have e14 := e3.trans e4.nil
        generalize upd H3 b (.lst [.int 2, .int 9, .int ((10 : Int) ^ (30 : Int).toNat)]) = H4 at s4 t4 hb4 am4 e14
        clear hb e3 s3 t3 am
        refine draw_ex (i := 0) rfl s4 (by decide) (by decide) val_c (fun k H5 k0 k1 e5 s5 => ?_)
        have t5 := t4.ext e5 (by simpa using lS)
        have hb5 := e5.keep _ _ hb4 (by simpa using bS)
        have am5 := e5.tups _ _ am4
        have e15 := e14.trans e5
        obtain ⟨z, hz, z0, z1⟩ : ∃ z : Int, atI [V.int 2, .int 9, .int ((10 : Int) ^ (30 : Int).toNat)] k = some (.int z) ∧ 0 < z ∧ z < 2 ^ 150 := by
          have : k = 0 ∨ k = 1 ∨ k = 2 := by omega
          rcases this with rfl | rfl | rfl
          · exact ⟨2, rfl, by decide, by decide⟩
          · exact ⟨9, rfl, by decide, by decide⟩
          · exact ⟨_, rfl, by decide, by decide⟩
        refine ⟨b, _, k, _, rfl, rfl, SqL.of hb5, hz, ?_⟩
        refine gset ?_
        dsimp only
        obtain ⟨us5, hus5, _⟩ := id t5
        refine ⟨_, rfl, .inl ⟨rfl, _, SqL.of hus5⟩, _, rfl, ?_⟩
        refine draw_ex (i := 0) (many := 2 * z + 1) rfl s5 (by omega) (by omega) (val_int (val_intC val_c (val_var rfl) (.inl (by decide))) val_c) (fun y H6 y0 y1 e6 s6 => ?_)
        have t6 := t5.ext e6 (by simpa using lS)
        have am6 := e6.tups _ _ am5
        have e16 := e15.trans e6
        refine ⟨_, rfl, y, z, rfl, rfl, by show 2 ≤ sizeLine; decide, fun t ht => ?_⟩
        have e7 : Ext [] H6 (upd H6 t (.tup [.ref u, .int (y - z)])) := Ext.new ht
        obtain ⟨us, hus, hpu⟩ := t6.ext e7 (by simp)
        have s7 := s6.ext e7
        have e17 := e16.trans e7.nil
        have new : tmR (upd H6 t (.tup [.ref u, .int (y - z)])) t (q1, y - z) := ⟨u, upd_same, e7.tups _ _ am6⟩
        generalize upd H6 t (.tup [.ref u, .int (y - z)]) = H7 at hus hpu s7 e17 new
        have hlu : us.length = qs.length := Paired.length hpu
        refine ⟨l, us.map V.ref, .ref t, rfl, rfl, hus, Evl.sz_lt (by rw [List.length_map]; omega), ?_⟩
        have e8 : Ext [l] H7 (upd H7 l (.lst (us.map V.ref ++ [.ref t]))) := ext_at fun xs z => by rw [hus] at z; cases z
        have pu8 := paired_mono (fun _ _ h => h.ext e8) hpu
        have nw8 := new.ext e8
        refine ⟨_, _, _, qs ++ [(q1, y - z)], rfl, e17.fresh hl, src_extM s7 e8 (by simpa using lS.symm) (by simpa using lL.symm), ⟨us ++ [t], by rw [upd_same, List.map_append]; rfl, pair_snoc nw8 pu8⟩, fun q hq => ?_, by rw [List.length_append]; show qs.length + 1 ≤ i + 1; omega⟩
        rcases List.mem_append.mp hq with hq | hq
        · exact w1 q hq
        · rw [List.mem_singleton.mp hq]
          exact wq1
    · rintro σ' H' ⟨x3, x4, x5, qs, rfl, e, s1, t1, w1, hl1⟩
      exact ⟨_, rfl, q l qs H' hl e s1 t1 w1 (by omega)⟩
end

end K3
namespace K3
open PySem PySem.Spec PyProof.Rows L2 He Tp ClX LiI

section
variable {P : Program} {w : World} {K : PySem.W.Frag} {mg : Str → Option Value} {base : Heap}
def spLSum : Sp := fun vs H Q _ => ∃ (l : Addr) (qs : List Nm), vs = [.ref l] ∧ TmsAt H l qs ∧ (∀ q ∈ qs, wdO q.1.1) ∧ qs.length ≤ 1000 ∧ ∀ r H', H r = none → Ext [] H H' → H' r = some (.dT (dN (sumN qs))) → Q (.ref r) H'
theorem ok_lsum (T : Txt K mg) : Df P w K mg base CX0 1 "_law_sum" ["_law_terms_here"] spLSum := by
  refine Df.mk' T.g_law_sum T.f_law_sum (fun _ _ _ _ _ _ us hl => match us, hl with | [_], _ => rfl) fun fd F => F.ok sc__law_sum (fun vs H Q E h => ?_) (fun cdv A outer s H vs Q E hr h => ?_)
  · obtain ⟨l, qs, rfl, _⟩ := h
    rfl
  · obtain ⟨l, qs, rfl, ht, hw, hn, q⟩ := h
    have nd := sc__law_sum.nd
    have hu := hu1_of hr
    obtain ⟨us, hus, hpu⟩ := ht
    refine ⟨_, PSs.nox (pss_cons (ps_set (i := 1) nd rfl (by first | exact Or.inl rfl | exact Or.inr rfl) pe_dnewT)
   (pss_cons (ps_for PassesOwn.never rfl (pi_list (pv 0)) (pg_tup (by rfl) (pgs_cons (pg_name (i := 2) nd rfl (by first | exact Or.inl rfl | exact Or.inr rfl)) (pgs_cons (pg_name (i := 3) nd rfl (by first | exact Or.inl rfl | exact Or.inr rfl)) pgs_nil)))
   (pss_one (ps_dput hu (pv 1) (pv 2) (pe_op op_add (pe_dget2 hu (pv 1) (pv 2) pe_int ⟨by rfl, by rfl, by rfl, by rfl⟩) (pv 3)) rfl)))
   (pss_one (ps_ret (pv 1))))), ?_⟩
    intro dd hdd
    have e0 : Ext [] H (upd H dd (.dT [])) := Ext.new hdd
    have hlen : us.length = qs.length := Paired.length hpu
    refine ⟨_, rfl, l, rfl, ⟨_, SqL.of (e0.keep _ _ hus (by simp))⟩, ?_⟩
    refine for_it (walk_list (xs := us.map V.ref)) (fun i σ' H' => (∃ x2 x3, σ' = [some (.ref l), some (.ref dd), x2, x3]) ∧ Ext [] H H' ∧ H' dd = some (.dT (dN (sumN (qs.take i)))))
      ⟨⟨none, none, rfl⟩, e0, upd_same⟩ ?_ ?_ ?_
    · rintro i σ' H' _ ⟨_, e, _⟩
      exact SqL.of (e.keep _ _ hus (by simp))
    · rintro i y σ' H' H2 hi ⟨⟨x2, x3, rfl⟩, e, hd⟩ ⟨rfl, hy⟩
      rw [List.getElem?_map] at hy
      obtain ⟨u, hu1, rfl⟩ := Option.map_eq_some_iff.mp hy
      obtain ⟨⟨q0, z⟩, hq, a, h1, h2⟩ := paired_getX hpu hu1
      have hit : i < qs.length := (List.getElem?_eq_some_iff.mp hq).1
      refine ⟨u, _, rfl, .inl (.inl (e.tups _ _ h1)), rfl, _, _, rfl, _, _, rfl, rfl, ?_⟩
      have huK : H2 a = some (.tup ((amK q0).map kV)) := e.tups _ _ h2
      have ndS := nodup_sumN (qs.take i)
      have hsum : sumN (qs.take (i + 1)) = addN (sumN (qs.take i)) (q0, z) := by
        rw [take_snoc hq, sumN_snoc]
      have hsz : (dN (sumN (qs.take i))).length < sizeLine := by
        have h1 := len_sumN (qs.take i)
        have h2 : (dN (sumN (qs.take i))).length = (sumN (qs.take i)).length := by rw [dA_len, List.length_map]
        rw [List.length_take] at h1
        have h4 : (1000 : Nat) < sizeLine := by decide
        omega
      refine ⟨_, rfl, dd, rfl, .inr ⟨_, .inl hd⟩, _, rfl, valV (dN (sumN (qs.take i))) (amK q0), DGet.t hd huK, _, rfl, numN (sumN (qs.take i)) q0, z, get_dN ndS, rfl, _, rfl, _, rfl, dd, _, rfl, DPut.t hd huK hsz, ⟨_, _, rfl⟩, e.fresh hdd, ?_⟩
      rw [upd_same, hsum]
      exact congrArg some (congrArg HO.dT (put_addN (q := (q0, z)) ndS))
    · rintro σ' H' ⟨⟨x2, x3, rfl⟩, e, hd⟩
      rw [List.length_map, hlen, List.take_length] at hd
      exact ⟨_, rfl, q dd H' hdd e hd⟩
end

end K3
namespace K3
open PySem PySem.Spec PyProof.Rows L2 He Tp ClX LiI

section
variable {P : Program} {w : World} {K : PySem.W.Frag} {mg : Str → Option Value} {base : Heap}
open LamX (TabB)
/-- the lambda of the rows -/
def rowsLam : Expr := match defBody s__law_rows with
  | [_, _, .Return (some (.Call _ _ (kw :: _) _)) _] => kw.value
  | _ => .Constant .none 0 ⟨0, 0, 0, 0⟩
abbrev rlP : Arguments := lamP (defArgs s__law_rows) rowsLam
abbrev rlB : Expr := lamB rowsLam
abbrev rlQ : Str := (envOfC "_law_rows" (defScope s__law_rows) 0 0 .none).qual ++ "<lambda>"
abbrev rlS : Scope := lamSc (defScope s__law_rows) rowsLam
theorem lamS_ok : FnScope ["_law_row"] ["_law_row"] rlS := ⟨rfl, rfl, rfl, by decide +kernel, rfl, by decide +kernel, by decide +kernel⟩
abbrev cRows (K : PySem.W.Frag) : Value := codeF K (ga K "_law_rows")
def spLRows (Pt : Addr) : Sp := fun vs H Q _ => ∃ (l : Addr) (qs : List Nm), vs = [.ref l] ∧ TmsAt H l qs ∧ (∀ q ∈ qs, wdO q.1.1) ∧ qs.length ≤ 1000 ∧ LamX.TabS H Pt rlQ ∧ ∀ r H', H r = none → Ext [Pt] H H' → TmsAt H' r (tidyD (sumN qs)) → LamX.TabS H' Pt rlQ → Q (.ref r) H'
theorem ok_lrows (T : Txt K mg) {c Pt : Addr} (TB : TabB base mg c Pt) (hc : cRows K = .ref c) : Df P w K mg base CX0 6 "_law_rows" ["_law_terms_here"] (spLRows Pt) := by
  have D__law_sum := ok_lsum (P := P) (w := w) (base := base) T
  refine Df.mk' T.g_law_rows T.f_law_rows (fun _ _ _ _ _ _ us hl => match us, hl with | [_], _ => rfl) fun fd F => FunD.okC F sc__law_rows (fun vs H Q E h => ?_) (fun A outer s H vs Q E hr h => ?_)
  · obtain ⟨l, qs, rfl, _⟩ := h
    rfl
  · obtain ⟨l, qs, rfl, ht, hw, hn, hP, q⟩ := h
    have nd := sc__law_rows.nd
    have hu := hu1_of hr
    have hu0 := hr.units
    have hr__law_sum := hr.mono (show 1 ≤ 5 by decide)
    have hrl := hr.mono (show 3 ≤ 5 by decide)
    have hcode : (cxOf CX0 P w K mg base n__law_rows "_law_rows" (defScope s__law_rows) (ga K "_law_rows") (codeF K (ga K "_law_rows")) A outer s H E).nox.env.code = .ref c := hc
    refine ⟨_, PSs.nox (pss_cons (ps_set (i := 1) nd rfl (by first | exact Or.inl rfl | exact Or.inr rfl) (pe_cd D__law_sum hr__law_sum (by rfl) pass0 (pa_cons (pv 0) pa_nil)))
   (pss_cons (ps_lock (ps_setLc (i := 2) (own := [("_law_amount_here", 3)]) (g := gName 3) (by rfl) nd rfl rfl (sw_true rfl rfl rfl (by decide +kernel)) (pi_keys (pv 1)) (blkOk_by (own := [("_law_amount_here", 3)]) (N := n__law_rows) (sc := defScope s__law_rows) (by decide +kernel)) (fun _ _ _ _ _ => pg_name (i := 3) nd rfl (by first | exact Or.inl rfl | exact Or.inr rfl)) (fun _ _ _ _ _ => (pts_one (pt_cmpR op_ne (pe_dget hu (pv 1) (pv 3) (fun _ _ => rfl)) pe_int (nomark _)))) (fun _ _ _ _ _ => (pe_tup (pa_cons (pv 3) (pa_cons (pe_dget hu (pv 1) (pv 3) (fun _ _ => rfl)) pa_nil))))))
   (pss_one (ps_ret (pe_callBK (cr_sortedL (params := rlP) (body := rlB) (q := rlQ) lamS_ok hrl (fun _ _ _ _ => rfl) (fun _ _ _ _ _ _ => (pe_tup (pa_cons (pe_ix (show IxR _ (rIxT K) from ix_tup) (pe_ix (show IxR _ (rIxT K) from ix_tup) (pv 0) pe_int (fun _ _ => rfl)) pe_int (fun _ _ => rfl)) (pa_cons (pe_cmpR op_eq (pe_ix (show IxR _ (rIxT K) from ix_tup) (pe_ix (show IxR _ (rIxT K) from ix_tup) (pv 0) pe_int (fun _ _ => rfl)) pe_int (fun _ _ => rfl)) pe_str (nomark _)) pa_nil))))) (by rfl) T.bsorted (by decide +kernel) (pa_cons (pv 2) pa_nil) (pk_cons (pe_lamS TB hcode rfl (by decide +kernel)) pk_nil)))))), ?_⟩
    refine ⟨_, rfl, l, qs, rfl, ht, hw, hn, fun d H1 hd1 e1 hd => ?_⟩
    refine gset ?_
    dsimp only
    have hnd := nodup_sumN qs
    have hwd : ∀ q ∈ sumN qs, wdO q.1.1 := fun q hq => by
      obtain ⟨t, ht, e⟩ := List.mem_map.mp (mem_sumN.mp (List.mem_map.mpr ⟨q, hq, rfl⟩))
      rw [← e]
      exact hw t ht
    have hln := Nat.le_trans (len_sumN qs) hn
    generalize hns : sumN qs = ns at hd hnd hwd hln
    refine ⟨d, _, hd, trivial, fun od => ?_⟩
    have hDL : (upd H1 d (.frz od (.dT (dN ns)))) d = some (.frz od (.dT (dN ns))) := upd_same
    have eU : ∀ G, Ext [] (upd H1 d (.frz od (.dT (dN ns)))) G → Ext [] H1 (upd G d (.dT (dN ns))) := fun G e => ext_unlock hd e
    have nU : ∀ r, (upd H1 d (.frz od (.dT (dN ns)))) r = none → H1 r = none ∧ r ≠ d := fun r hr => by
      have hn : r ≠ d := fun h => by rw [h, upd_same] at hr; cases hr
      rw [upd_ne hn] at hr
      exact ⟨hr, hn⟩
    generalize upd H1 d (.frz od (.dT (dN ns))) = HL at hDL eU nU ⊢
    refine ⟨_, rfl, d, od, rfl, .inr ⟨dN ns, hDL, fun R hR => lc_keysT (fun i G => Ext [] HL G ∧ ∃ us : List Addr, G R = some (.lst (us.map V.ref)) ∧ Paired (tmR G) us ((ns.take i).filter fun q => decide (q.2 ≠ 0))) ⟨Ext.new hR, [], upd_same, .nil⟩ ?_ ?_ ?_⟩⟩
    · rintro i G _ ⟨e, _⟩
      exact e.keep _ _ hDL (by simp)
    · rintro i k v a G hk ha ⟨e, us, hus, hpu⟩
      obtain ⟨x, v', hx, rfl⟩ := dA_at hk
      rw [List.getElem?_map] at hx
      obtain ⟨q0, hq0, e0⟩ := Option.map_eq_some_iff.mp hx
      injection e0 with e1' e2'
      subst e1'
      have hqm := List.mem_of_getElem? hq0
      have hi := (List.getElem?_eq_some_iff.mp hq0).1
      have hget : DGet G d (.ref a) (some (.int q0.2)) := by
        rw [← dN_at hnd hqm]
        exact DGet.rd (.inr ⟨od, e.keep _ _ hDL (by simp)⟩) ha
      refine ⟨wipe1, ?_⟩
      refine ⟨_, rfl, _, rfl, d, _, rfl, hget, rfl, _, rfl, ?_⟩
      refine ifb (fun h1 => ?_) (fun h1 => ?_)
      · have hne : q0.2 ≠ 0 := by simpa [dec_int] using h1
        refine ⟨_, rfl, _, rfl, _, rfl, d, _, rfl, hget, by show 2 ≤ sizeLine; decide, fun t ht => ?_⟩
        have et : Ext [] G (upd G t (.tup [.ref a, .int q0.2])) := Ext.new ht
        have new : tmR (upd G t (.tup [.ref a, .int q0.2])) t q0 := ⟨a, upd_same, et.tups _ _ ha⟩
        have hus2 := et.keep _ _ hus (by simp)
        have hpu2 := paired_mono (fun _ _ h => tmR.ext h et) hpu
        have e2 := e.trans et
        generalize upd G t (.tup [.ref a, .int q0.2]) = G2 at new hus2 hpu2 e2
        have hfl := List.length_filter_le (fun q : Nm => decide (q.2 ≠ 0)) (ns.take i)
        have hul : us.length = _ := Paired.length hpu2
        rw [List.length_take] at hfl
        refine ⟨us.map V.ref, hus2, by rw [List.length_map]; exact Evl.sz_lt (by omega), e2.fresh hR, us ++ [t], by rw [upd_same, List.map_append]; rfl, ?_⟩
        have eR : Ext [R] G2 (upd G2 R (.lst (us.map V.ref ++ [.ref t]))) := ext_at fun xs z => by rw [hus2] at z; cases z
        rw [take_snoc_flt hq0, if_pos (decide_eq_true hne)]
        exact pair_snoc (new.ext eR) (paired_mono (fun _ _ h => tmR.ext h eR) hpu2)
      · have hz : q0.2 = 0 := by simpa [dec_int] using h1
        refine ⟨e, us, hus, ?_⟩
        rw [take_snoc_flt hq0, if_neg (by simp [hz]), List.append_nil]
        exact hpu
    · rintro G ⟨e, us, hus, hpu⟩
      rw [dA_len, List.length_map, List.take_length] at hpu
      obtain ⟨hR1, hRd⟩ := nU R hR
      refine ⟨e.keep _ _ hDL (by simp), ?_⟩
      have eG := eU G e
      have eu : Ext [d] G (upd G d (.dT (dN ns))) := ext_at fun xs z => by rw [e.keep _ _ hDL (by simp)] at z; cases z
      have hus2 := eu.keep _ _ hus (by simpa using hRd)
      have hpu2 := paired_mono (fun _ _ h => tmR.ext h eu) hpu
      generalize upd G d (.dT (dN ns)) = G2 at eG eu hus2 hpu2
      have e2 := e1.trans eG
      refine gset ?_
      dsimp only
      obtain ⟨ps0, hP0, _⟩ := id hP
      refine ⟨_, rfl, tabS_ext hP e2, fun f c2 H3 hf e3 hl3 hc3 hT3 => ?_⟩
      obtain ⟨ps3, hP3, _⟩ := id hT3
      have hRP : R ≠ Pt := fun z => by
        have := e1.keep _ _ hP0 (by simp)
        rw [← z, hR1] at this
        cases this
      have hus3 := e3.keep _ _ hus2 (by simpa using hRP)
      have hpu3 := paired_mono (fun _ _ h => tmR.ext h e3) hpu2
      have e03 := e2.nil.trans e3
      have wF : ∀ q ∈ ns.filter (fun q => decide (q.2 ≠ 0)), wdO q.1.1 := fun q hq => hwd q (List.mem_filter.mp hq).1
      refine ⟨R, f, us.map V.ref, lamV H3, rfl, rfl, SqL.of hus3, lam_alike hpu3, lam_sortable hpu3, ?_, ?_, fun p H4 e4 hp => ?_⟩
      · intro y hy
        obtain ⟨q0, _, _, ev⟩ := lam_all hpu3 y hy
        rw [ev]
        exact lamD_depth q0.1
      · intro y hy H' e
        obtain ⟨q0, ⟨u, rfl, a, h1, h2⟩, hqm, ev⟩ := lam_all hpu3 y hy
        have h1' := e.tups _ _ h1
        have h2' : H' a = some (.tup [.str q0.1.1, .int (q0.1.2 : Int)]) := e.tups _ _ h2
        refine ⟨c2, e.keep _ _ hl3 (by simp), e.keep _ _ hc3 (by simp), ?_⟩
        refine ⟨_, rfl, u, _, 0, .ref a, rfl, rfl, .inl (.inl h1'), rfl, a, _, 1, .int (q0.1.2 : Int), rfl, rfl, .inl (.inl h2'), rfl, ?_⟩
        refine ⟨_, rfl, u, _, 0, .ref a, rfl, rfl, .inl (.inl h1'), rfl, a, _, 0, .str q0.1.1, rfl, rfl, .inl (.inl h2'), rfl, ?_⟩
        refine ⟨rfl, by show 2 ≤ sizeLine; decide, fun t ht => ⟨Ext.new ht, ?_⟩⟩
        rw [ev]
        refine .tup upd_same (.cons (.int _) (.cons ?_ .nil))
        have hb : decide (V.str q0.1.1 = V.str "leave") = decide (q0.1.1 = "leave") := by
          by_cases z : q0.1.1 = "leave"
          · rw [z]; simp
          · rw [decide_eq_false z, decide_eq_false fun y => z (by injection y)]
        rw [hb]
        exact .bl _
      · obtain ⟨us', hs', hp'⟩ := sort_tms hpu3 wF
        rw [hs']
        have ep : Ext [] H4 (upd H4 p (.lst (us'.map V.ref))) := Ext.new hp
        have e0 : Ext [Pt] H (upd H4 p (.lst (us'.map V.ref))) := e03.trans (e4.trans ep).nil
        have hp0 : H p = none := by
          have h3 := (e03.trans e4.nil).none hp fun hm => by
            rw [List.mem_singleton.mp hm] at hp
            rw [e4.keep _ _ hP3 (by simp)] at hp
            cases hp
          exact h3
        refine q p _ hp0 e0 ⟨us', upd_same, ?_⟩ (tabS_ext hT3 (e4.trans ep))
        rw [hns, ← filter_sort hnd hwd]
        exact paired_mono (fun _ _ h => tmR.ext h (e4.trans ep)) hp'
end

end K3
namespace K3
open PySem PySem.Spec PyProof.Rows L2 He Tp ClX LiI

section
variable {P : Program} {w : World} {K : PySem.W.Frag} {mg : Str → Option Value} {base : Heap}
/-- _law_shows(form, due) -/
def spLShows (C : Addr) : Sp := fun vs H Q _ => ∃ (a dx d r : Addr) (ns : List Nm), vs = [.ref a, .ref r] ∧ FmAt C H a dx d ns ∧ TmsAt H r ns ∧ ns.length ≤ 1000 ∧ ∀ H', Ext [] H H' → Q (.bl true) H'
theorem ok_lshows (T : Txt K mg) : Df P w K mg base CX0 3 "_law_shows" ["_law_form", "_law_due"] (spLShows (cF K)) := by
  have D__law_is_whole := ok_law_is_whole (P := P) (w := w) (base := base) T
  obtain ⟨fl, fl_⟩ := T.fForm__len__
  have Fl := ok_flen (P := P) (w := w) (base := base) T fl_
  have bl : Binds K fl ["self"] [] := fl_.bindsN (fun _ _ _ _ _ _ us hl => match us, hl with | [_], _ => rfl)
  have ol : OwnLn K (cF K) (ma K (cF K) "__len__") := ⟨T.mForm__len__.at_, T.mForm__len__.fn⟩
  obtain ⟨ft, ft_⟩ := T.fForm__iter__
  have Fit := ok_fiter (P := P) (w := w) (base := base) T ft_
  have bit : Binds K ft ["self"] [] := ft_.bindsN (fun _ _ _ _ _ _ us hl => match us, hl with | [_], _ => rfl)
  have oi : OwnIt K (cF K) (ma K (cF K) "__iter__") := ⟨T.mForm__iter__.at_, T.mForm__iter__.fn⟩
  refine Df.mk' T.g_law_shows T.f_law_shows (fun _ _ _ _ _ _ us hl => match us, hl with | [_, _], _ => rfl) fun fd F => F.ok sc__law_shows (fun vs H Q E h => ?_) (fun cdv A outer s H vs Q E hr h => ?_)
  · obtain ⟨a, dx, d, r, ns, rfl, _⟩ := h
    rfl
  · obtain ⟨a, dx, d, r, ns, rfl, F, ht, hn, q⟩ := h
    have nd := sc__law_shows.nd
    have hu0 := hr.units
    have hrl := hr
    have hrit := hr.mono (show 1 ≤ 2 by decide)
    have hr__law_is_whole := hr.mono (show 1 ≤ 2 by decide)
    have ic := insB_ok T.clForm T.iForm
    refine ⟨_, PSs.nox (pss_cons (ps_if (PW.pt (pw_or (pt_not (pt_val (pe_callB (call_isi) (by rfl) T.bisinstance (by decide +kernel) (pa_cons (pv 0) (pa_cons (pe_glob (v := .ref (ga K "Form")) (by rfl) T.gForm rfl) pa_nil))))) (pw_or1 (pt_cmpR op_ne (pe_callB (call_lenO ol Fl hrl bl pass0) (by rfl) T.blen PySem.boot_len (pa_cons (pv 0) pa_nil)) (pe_callB call_len_seq (by rfl) T.blen PySem.boot_len (pa_cons (pv 1) pa_nil)) (nomark _))))) (pss_one (ps_ret pe_bl)) pss_nil)
   (pss_cons (ps_set (i := 2) nd rfl (by first | exact Or.inl rfl | exact Or.inr rfl) pe_int)
   (pss_cons (ps_lock (ps_for PassesOwn.never rfl (pi_ownI (.inl ⟨_, _, rfl⟩) (pv 0) oi Fit hrit bit pass0) (pg_name (i := 3) nd rfl (by first | exact Or.inl rfl | exact Or.inr rfl))
   (pss_cons (ps_if (PW.pt (pw_or (pt_cmpR op_ge (pv 2) (pe_callB call_len_seq (by rfl) T.blen PySem.boot_len (pa_cons (pv 1) pa_nil)) (nomark _)) (pw_or (pt_not (pt_val (pe_callB (call_isi) (by rfl) T.bisinstance (by decide +kernel) (pa_cons (pv 3) (pa_cons (pe_bltn (v := .ty "tuple") (u := .type "tuple") (by rfl) T.btuple (by decide +kernel) rfl) pa_nil))))) (pw_or1 (pt_cmpR (op_neD hu0) (pv 3) (pe_ix ix_list (pv 1) (pv 2) (fun _ _ => rfl)) (nomark _)))))) (pss_one (ps_ret pe_bl)) pss_nil)
   (pss_cons (ps_if (PW.pt (pw_or (pt_not (pt_val (pe_callB (call_isi) (by rfl) T.bisinstance (by decide +kernel) (pa_cons (pe_ix ix_tup (pe_ix ix_tup (pv 3) pe_int (fun _ _ => rfl)) pe_int (fun _ _ => rfl)) (pa_cons (pe_bltn (v := .ty "str") (u := .type "str") (by rfl) T.bstr (by decide +kernel) rfl) pa_nil))))) (pw_or (pt_not (pt_val (pe_cd D__law_is_whole hr__law_is_whole (by rfl) pass0 (pa_cons (pe_ix ix_tup (pe_ix ix_tup (pv 3) pe_int (fun _ _ => rfl)) pe_int (fun _ _ => rfl)) pa_nil)))) (pw_or1 (pt_not (pt_val (pe_cd D__law_is_whole hr__law_is_whole (by rfl) pass0 (pa_cons (pe_ix ix_tup (pv 3) pe_int (fun _ _ => rfl)) pa_nil)))))))) (pss_one (ps_ret pe_bl)) pss_nil)
   (pss_one (ps_set (i := 2) nd rfl (by first | exact Or.inl rfl | exact Or.inr rfl) (pe_op op_add (pv 2) pe_int)))))))
   (pss_one (ps_ret (pe_cmpR op_eq (pv 2) (pe_callB call_len_seq (by rfl) T.blen PySem.boot_len (pa_cons (pv 1) pa_nil)) (nomark _))))))), ?_⟩
    obtain ⟨us, hus, hpu⟩ := ht
    have hul : us.length = ns.length := Paired.length hpu
    refine ⟨_, rfl, _, _, _, _, true, rfl, .own _, .base (TyOf.ins F.ob ic.cl ic.ha ic.hn ic.htk ic.hm), ic.me, _, rfl, iteF ?_⟩
    refine ⟨_, rfl, a, dx, _, rfl, F.ob, a, dx, d, ns, rfl, F, _, rfl, by omega, Int.lt_of_le_of_lt (show (ns.length : Int) ≤ 1000 by omega) (by decide), _, rfl, r, us.map V.ref, rfl, .inl (SqL.of hus), rfl, _, rfl, ?_⟩
    have hll : (ns.length : Int) = ((us.map V.ref).length : Int) := by rw [List.length_map, hul]
    rw [hll, ne_no]
    refine iteF ?_
    unfold tNext
    dsimp only
    refine gset ?_
    dsimp only
    refine ⟨d, _, F.nm, trivial, fun od => ?_⟩
    have hDL : (upd H d (.frz od (.dT (dN ns)))) d = some (.frz od (.dT (dN ns))) := upd_same
    have hrd : r ≠ d := fun z => by rw [z, F.nm] at hus; cases hus
    have had := F.ne
    have husL : (upd H d (.frz od (.dT (dN ns)))) r = some (.lst (us.map V.ref)) := by rw [upd_ne hrd]; exact hus
    have hobL : (upd H d (.frz od (.dT (dN ns)))) a = some (.ins (cF K) dx [("_numbers", .ref d)]) := by rw [upd_ne had]; exact F.ob
    have hpuL : Paired (tmR (upd H d (.frz od (.dT (dN ns))))) us ns := paired_mono (fun u q h => by
      obtain ⟨a, h1, h2⟩ := h
      exact ⟨a, tup_lock F.nm h1, tup_lock F.nm h2⟩) hpu
    have eU : ∀ G, Ext [] (upd H d (.frz od (.dT (dN ns)))) G → Ext [] H (upd G d (.dT (dN ns))) := fun G e => ext_unlock F.nm e
    generalize upd H d (.frz od (.dT (dN ns))) = HL at hDL husL hobL hpuL eU ⊢
    refine ⟨_, rfl, a, dx, _, d, od, dN ns, rfl, hobL, hDL, fun n => ⟨a, dx, d, od, dN ns, rfl, hobL, hDL, fun p it hp hne hi hn => ⟨p, it, rfl, hp, hne, hi, hn, rfl⟩⟩, ?_⟩
    refine for_it walk_itemsT (fun i σ' G => ∃ x3, σ' = [some (.ref a), some (.ref r), some (.int (i : Int)), x3] ∧ Ext [] HL G) ⟨none, rfl, Ext.refl⟩ ?_ ?_ ?_
    · rintro i σ' G _ ⟨x3, rfl, e⟩
      exact e.keep _ _ hDL (by simp)
    · rintro i y σ' G G2 hi ⟨x3, rfl, e⟩ ⟨t, k, v, q1, hk, hq1, rfl, ht, rfl⟩
      obtain ⟨x, v', hx, rfl⟩ := dA_at hk
      rw [List.getElem?_map] at hx
      obtain ⟨q0, hq0, e0⟩ := Option.map_eq_some_iff.mp hx
      injection e0 with e1' e2'
      subst e1'
      have hv : v = .int q0.2 := by
        have h1 : (dN ns)[i]? = some (amK q0.1, .int q0.2) := by
          show (List.map _ (List.map _ ns))[i]? = _
          rw [List.getElem?_map, List.getElem?_map, hq0]
          rfl
        rw [hk] at h1
        injection h1 with h1
        injection h1
      subst hv
      have et : Ext [] G (upd G t (.tup [.ref q1, .int q0.2])) := Ext.new ht
      have new : tmR (upd G t (.tup [.ref q1, .int q0.2])) t q0 := ⟨q1, upd_same, et.tups _ _ hq1⟩
      have hqa : isAmt (upd G t (.tup [.ref q1, .int q0.2])) q1 q0.1 := et.tups _ _ hq1
      have hsame : (upd G t (.tup [.ref q1, .int q0.2])) t = some (.tup [.ref q1, .int q0.2]) := upd_same
      have e2 := e.trans et
      generalize upd G t (.tup [.ref q1, .int q0.2]) = G2 at new hqa hsame e2 ⊢
      have hus2 := e2.keep _ _ husL (by simp)
      have hi' := (List.getElem?_eq_some_iff.mp hq0).1
      have hiu : i < us.length := by omega
      obtain ⟨q', hq', rr⟩ := paired_getX (paired_mono (fun _ _ h => tmR.ext h e2) hpuL) (List.getElem?_eq_getElem hiu)
      have e' : q' = q0 := Option.some.inj (hq'.symm.trans hq0)
      subst e'
      have kS : ∀ n : String, PySem.W.kitOne K (.type n) (.type n) = some true := fun n => if_pos (beq_self_eq_true _)
      have hqa' : G2 q1 = some (.tup [.str q'.1.1, .int (q'.1.2 : Int)]) := hqa
      have okq := (okD_tm (F.wd _ (List.mem_of_getElem? hq0))).shaped
      refine gset ?_
      dsimp only
      refine ⟨_, rfl, _, rfl, r, us.map V.ref, rfl, .inl (SqL.of hus2), (i : Int), ((us.map V.ref).length : Int), rfl, rfl, _, rfl, ?_⟩
      rw [decide_eq_false (show ¬ ((us.map V.ref).length : Int) ≤ (i : Int) by rw [List.length_map]; omega)]
      refine iteF ?_
      refine ⟨_, rfl, _, _, _, _, true, rfl, .ty _, .base (.tup hsame), kS _, _, rfl, iteF ?_⟩
      refine ⟨_, rfl, _, rfl, _, rfl, r, us.map V.ref, (i : Int), .ref us[i], rfl, rfl, SqL.of hus2, atI_nat (by rw [List.getElem?_map, List.getElem?_eq_getElem hiu]; rfl), dTm q', dTm q', new.im.dp, rr.im.dp, okq, okq, _, rfl, ?_⟩
      rw [eqv_self okq]
      refine iteF ?_
      dsimp only
      refine ⟨_, rfl, t, _, 0, .ref q1, rfl, rfl, .inl (.inl hsame), rfl, q1, _, 0, .str q'.1.1, rfl, rfl, .inl (.inl hqa'), rfl, ?_⟩
      refine ⟨_, _, _, _, true, rfl, .ty _, .base (.str _), kS _, _, rfl, iteF ?_⟩
      refine ⟨_, rfl, t, _, 0, .ref q1, rfl, rfl, .inl (.inl hsame), rfl, q1, _, 1, .int (q'.1.2 : Int), rfl, rfl, .inl (.inl hqa'), rfl, ?_⟩
      refine ⟨_, rfl, .int _, _, rfl, iteF ?_⟩
      refine ⟨_, rfl, t, _, 1, .int q'.2, rfl, rfl, .inl (.inl hsame), rfl, ?_⟩
      refine ⟨_, rfl, .int _, _, rfl, iteF ?_⟩
      dsimp only
      exact ⟨_, rfl, (i : Int), 1, rfl, rfl, _, rfl, e2⟩
    · rintro σ' G ⟨x3, rfl, e⟩
      have hdG := e.keep _ _ hDL (by simp)
      refine ⟨hdG, ?_⟩
      have eu : Ext [d] G (upd G d (.dT (dN ns))) := ext_at fun xs z => by rw [hdG] at z; cases z
      have hus3 := eu.keep _ _ (e.keep _ _ husL (by simp)) (by simpa using hrd)
      refine ⟨_, rfl, _, rfl, r, us.map V.ref, rfl, .inl (SqL.of hus3), rfl, ?_⟩
      have hl2 : ((dN ns).length : Int) = ((us.map V.ref).length : Int) := by rw [dA_len, List.length_map, List.length_map, hul]
      rw [hl2, decide_eq_true rfl]
      exact q _ (eU G e)
end

end K3
namespace K3
open PySem PySem.Spec PyProof.Rows L2 He Tp ClX LiI

section
variable {P : Program} {w : World} {K : PySem.W.Frag} {mg : Str → Option Value} {base : Heap}
theorem b_finit {fd : FuncData} {v : V} {f : Addr} (F : FunD K "__init__" "Form.__init__" (defArgs s_Form___init__) (defBody s_Form___init__) (defScope s_Form___init__) [v] [] f fd) : ∃ ds, Vals [] ds ∧ Binds K fd ["self", "terms"] ds :=
  F.binds1 2 1 (by simp) rfl (fun D kV doc pm an cdv ct us its h1 h2 => match us, its, h1, h2 with | [_, _], [_], _, _ => ⟨_, rfl, rfl⟩)
theorem tmAt_ext {H H' : Hp} {x : V} {t : Tp.Tm} (e : Ext [] H H') (h : TmAt K H x t) : TmAt K H' x t := by
  obtain ⟨p, h1, h2, h3, h4⟩ := h
  exact ⟨p, h1, e.tups _ _ h2, h3.ext e, Ptv.ext e (fun _ _ _ h => sqT_keep h e) h4⟩
theorem mk_form {H : Hp} {l x dx : Addr} {xs : List V} {ts : List Tp.Tm} {Q : VK} {E : XK} (hl : SqA K H l xs) (hp : Paired (TmAt K H) xs ts) (hn : ts.length ≤ 1000) (hok : ∀ t ∈ ts, tmOk t = true) (hx : H x = none) (hdx : H dx = none) (hne : dx ≠ x)
    (q : ∀ d H', H d = none → Ext [] H H' → FmAt (cF K) H' x dx d (tidyD (sumN (ts.map nmT))) → Q .non H') : spFmInit K (cF K) [.ref x, .ref l] (upd (upd H dx (.own x)) x (.ins (cF K) dx [])) Q E := by
  have e0 : Ext [] H (upd (upd H dx (.own x)) x (.ins (cF K) dx [])) := (Ext.new hdx).trans (Ext.new (by rw [upd_ne hne.symm]; exact hx))
  have hl0 : SqA K (upd (upd H dx (.own x)) x (.ins (cF K) dx [])) l xs := hl.elim (fun h => .inl (sqL_keep h e0)) fun h => .inr (sqT_keep h e0)
  refine ⟨x, dx, l, xs, ts, rfl, upd_same, hl0, paired_mono (fun _ _ h => tmAt_ext e0 h) hp, hn, fun pre t post hs _ hb => ?_, fun pre t post hs _ _ hb => ?_, fun _ d H' hd e F => q d H' (e0.none hd (by simp)) (e0.over e hx) F⟩
  · have h := hok t (by rw [hs]; simp)
    unfold tmOk at h
    rw [hb] at h
    cases h
  · have h := hok t (by rw [hs]; simp)
    unfold tmOk at h
    rw [hb, Bool.and_false] at h
    cases h
/-- of terms, in a list or a tuple -/
theorem mk_formS {H : Hp} {l x dx : Addr} {us : List Addr} {qs : List Nm} {Q : VK} {E : XK} (hl : SqA K H l (us.map V.ref)) (hp : Paired (tmR H) us qs) (w : ∀ q ∈ qs, wdO q.1.1) (hn : qs.length ≤ 1000) (hx : H x = none) (hdx : H dx = none) (hne : dx ≠ x)
    (q : ∀ d H', H d = none → Ext [] H H' → FmAt (cF K) H' x dx d (tidyD (sumN qs)) → Q .non H') : spFmInit K (cF K) [.ref x, .ref l] (upd (upd H dx (.own x)) x (.ins (cF K) dx [])) Q E := by
  obtain ⟨ts, h1, h2, h3⟩ := tms_tm (K := K) hp w
  refine mk_form hl h1 (by rw [← h2, List.length_map] at hn; exact hn) h3 hx hdx hne ?_
  rw [h2]
  exact q
theorem mk_formT {H : Hp} {l x dx : Addr} {qs : List Nm} {Q : VK} {E : XK} (ht : TmsAt H l qs) (w : ∀ q ∈ qs, wdO q.1.1) (hn : qs.length ≤ 1000) (hx : H x = none) (hdx : H dx = none) (hne : dx ≠ x)
    (q : ∀ d H', H d = none → Ext [] H H' → FmAt (cF K) H' x dx d (tidyD (sumN qs)) → Q .non H') : spFmInit K (cF K) [.ref x, .ref l] (upd (upd H dx (.own x)) x (.ins (cF K) dx [])) Q E := by
  obtain ⟨us, hus, hpu⟩ := ht
  exact mk_formS (.inl (SqL.of hus)) hpu w hn hx hdx hne q
abbrev mapN (f : Int → Int) (ns : List Nm) : List Nm := ns.map fun q => (q.1, f q.2)
theorem mapN_snoc {f : Int → Int} {ns : List Nm} {q : Nm} : mapN f (ns ++ [q]) = mapN f ns ++ [(q.1, f q.2)] := List.map_append
theorem wd_map {f : Int → Int} {ns : List Nm} (w : ∀ q ∈ ns, wdO q.1.1) : ∀ q ∈ mapN f ns, wdO q.1.1 := fun q hq => by
  obtain ⟨r, hr, rfl⟩ := List.mem_map.mp hq
  exact w r hr
def spFmMap (C : Addr) (vf : Int → List V) (co : Int → Int → Prop) (f : Int → Int → Int) : Sp := fun vs H Q _ => ∃ a dx d ns i, vs = .ref a :: vf i ∧ FmAt C H a dx d ns ∧ ns.length ≤ 1000 ∧ (∀ q ∈ ns, co i q.2) ∧
  ∀ r dx' d' H', H r = none → H d' = none → Ext [] H H' → FmAt C H' r dx' d' (tidyD (sumN (mapN (f i) ns))) → Q (.ref r) H'
abbrev spFmMul (C : Addr) : Sp := spFmMap C (fun i => [.int i]) (fun i z => CMul z i) fun i z => z * i
theorem ok_fmul (T : Txt K mg) {fd : FuncData} (F : FnM K "Form" "__mul__" "Form.__mul__" s_Form___mul__ [] fd) : FnOk P w K mg base CX0 8 (ma K (cF K) "__mul__") fd ["self", "other"] (spFmMul (cF K)) := by
  have D_is_whole := ok_is_whole (P := P) (w := w) (base := base) T
  obtain ⟨fi, fi_⟩ := T.fFormInit
  have Fi := ok_finit (P := P) (w := w) (base := base) T fi_
  obtain ⟨dsI, vsI, biI⟩ := b_finit fi_
  cases vsI
  have bi := biI
  obtain ⟨ft, ft_⟩ := T.fForm__iter__
  have Fit := ok_fiter (P := P) (w := w) (base := base) T ft_
  have bit : Binds K ft ["self"] [] := ft_.bindsN (fun _ _ _ _ _ _ us hl => match us, hl with | [_], _ => rfl)
  have oi : OwnIt K (cF K) (ma K (cF K) "__iter__") := ⟨T.mForm__iter__.at_, T.mForm__iter__.fn⟩
  refine F.ok sc_Form___mul__ (fun vs H Q E h => ?_) (fun cdv A outer s H vs Q E hr h => ?_)
  · obtain ⟨a, dx, d, ns, i, rfl, _⟩ := h
    rfl
  · obtain ⟨a, dx, d, ns, i, rfl, F, hn, hco, q⟩ := h
    have nd := sc_Form___mul__.nd
    have hri := hr
    have hr_is_whole := hr.mono (show 1 ≤ 7 by decide)
    have hrit := hr.mono (show 1 ≤ 7 by decide)
    refine ⟨_, PSs.nox (pss_cons (ps_if (pt_not (pt_val (pe_cd D_is_whole hr_is_whole (by rfl) pass0 (pa_cons (pv 1) pa_nil)))) (pss_one Tp.ps_never) pss_nil)
   (pss_one (ps_lock (ps_ret (pe_make T.mk_Form Fi hri (by rfl) T.gForm bi .nil passL (pa_cons (pe_lc (own := [("amount", 2), ("number", 3)]) (g := (gTup K 2 (gCons (gName 2) (gCons (gName 3) gNil)))) (tt := tYes) (by rfl) nd (pi_ownI (.inr ⟨_, _, _, rfl⟩) (pv 0) oi Fit hrit bit pass0) (blkOk_by (own := [("amount", 2), ("number", 3)]) (N := n_Form___mul__) (sc := defScope s_Form___mul__) (by decide +kernel)) (fun _ _ _ _ _ => (pg_tup (by rfl) (pgs_cons (pg_name (i := 2) nd rfl (by first | exact Or.inl rfl | exact Or.inr rfl)) (pgs_cons (pg_name (i := 3) nd rfl (by first | exact Or.inl rfl | exact Or.inr rfl)) pgs_nil)))) (fun _ _ _ _ _ => pts_nil) (fun _ _ _ _ _ => (pe_tup (pa_cons (pv 2) (pa_cons (pe_op op_mul (pv 3) (pv 1)) pa_nil))))) pa_nil)))))), ?_⟩
    refine ⟨_, rfl, .int i, rfl, .int _, _, rfl, iteF ?_⟩
    unfold tNext
    dsimp only
    refine ⟨d, _, F.nm, trivial, fun od => ?_⟩
    have hDL : (upd H d (.frz od (.dT (dN ns)))) d = some (.frz od (.dT (dN ns))) := upd_same
    have hobL : (upd H d (.frz od (.dT (dN ns)))) a = some (.ins (cF K) dx [("_numbers", .ref d)]) := by rw [upd_ne F.ne]; exact F.ob
    have eU : ∀ G, Ext [] (upd H d (.frz od (.dT (dN ns)))) G → Ext [] H (upd G d (.dT (dN ns))) := fun G e => ext_unlock F.nm e
    have nU : ∀ r, (upd H d (.frz od (.dT (dN ns)))) r = none → H r = none ∧ r ≠ d := fun r hr => by
      have hn : r ≠ d := fun h => by rw [h, upd_same] at hr; cases hr
      rw [upd_ne hn] at hr
      exact ⟨hr, hn⟩
    generalize upd H d (.frz od (.dT (dN ns))) = HL at hDL hobL eU nU ⊢
    refine ⟨_, rfl, a, dx, _, d, od, dN ns, rfl, hobL, hDL, (fun n => ⟨a, dx, d, od, dN ns, rfl, hobL, hDL, fun p it hp hne hi hn => ⟨p, it, rfl, hp, hne, hi, hn, rfl⟩⟩), fun R hR => lc_it walk_itemsT (fun j G => Ext [] HL G ∧ ∃ us : List Addr, G R = some (.lst (us.map V.ref)) ∧ Paired (tmR G) us (mapN (fun z => z * i) (ns.take j))) ⟨Ext.new hR, [], upd_same, .nil⟩ ?_ ?_ ?_⟩
    · rintro j G _ ⟨e, _⟩
      exact e.keep _ _ hDL (by simp)
    · rintro j y G G2 hi ⟨e, us, hus, hpu⟩ ⟨t, k, v, q1, hk, hq1, rfl, ht, rfl⟩
      obtain ⟨x, v', hx, rfl⟩ := dA_at hk
      rw [List.getElem?_map] at hx
      obtain ⟨q0, hq0, e0⟩ := Option.map_eq_some_iff.mp hx
      injection e0 with e1' e2'
      subst e1'
      have hv : v = .int q0.2 := by
        have h1 : (dN ns)[j]? = some (amK q0.1, .int q0.2) := by
          show (List.map _ (List.map _ ns))[j]? = _
          rw [List.getElem?_map, List.getElem?_map, hq0]
          rfl
        rw [hk] at h1
        injection h1 with h1
        injection h1
      subst hv
      have et : Ext [] G (upd G t (.tup [.ref q1, .int q0.2])) := Ext.new ht
      have hqa : isAmt (upd G t (.tup [.ref q1, .int q0.2])) q1 q0.1 := et.tups _ _ hq1
      have hsame : (upd G t (.tup [.ref q1, .int q0.2])) t = some (.tup [.ref q1, .int q0.2]) := upd_same
      have e2 := e.trans et
      have hus2 := et.keep _ _ hus (by simp)
      have hpu2 := paired_mono (fun _ _ h => tmR.ext h et) hpu
      clear hus hpu et e
      generalize upd G t (.tup [.ref q1, .int q0.2]) = G2 at hqa hsame e2 hus2 hpu2 ⊢
      have hin := (List.getElem?_eq_some_iff.mp hq0).1
      have hul : us.length = _ := Paired.length hpu2
      rw [List.length_map, List.length_take] at hul
      refine ⟨t, _, rfl, .inl (.inl hsame), rfl, _, _, rfl, _, _, rfl, rfl, ?_⟩
      refine ⟨rfl, ?_⟩
      refine tyes ?_
      refine ⟨_, rfl, _, rfl, _, rfl, q0.2, i, rfl, rfl, hco q0 (List.mem_of_getElem? hq0), by show 2 ≤ sizeLine; decide, fun t2 ht2 => ?_⟩
      have e3 : Ext [] G2 (upd G2 t2 (.tup [.ref q1, .int (q0.2 * i)])) := Ext.new ht2
      have new : tmR (upd G2 t2 (.tup [.ref q1, .int (q0.2 * i)])) t2 (q0.1, q0.2 * i) := ⟨q1, upd_same, e3.tups _ _ hqa⟩
      have hus3 := e3.keep _ _ hus2 (by simp)
      have hpu3 := paired_mono (fun _ _ h => tmR.ext h e3) hpu2
      have e4 := e2.trans e3
      generalize upd G2 t2 (.tup [.ref q1, .int (q0.2 * i)]) = G3 at new hus3 hpu3 e4 ⊢
      have eR : Ext [R] G3 (upd G3 R (.lst (us.map V.ref ++ [.ref t2]))) := ext_at fun xs z => by rw [hus3] at z; cases z
      refine ⟨us.map V.ref, hus3, by rw [List.length_map]; exact Evl.sz_lt (by omega), e4.fresh hR, us ++ [t2], by rw [upd_same, List.map_append]; rfl, ?_⟩
      rw [take_snoc hq0, mapN_snoc]
      exact pair_snoc (new.ext eR) (paired_mono (fun _ _ h => tmR.ext h eR) hpu3)
    · rintro G ⟨e, us, hus, hpu⟩
      rw [dA_len, List.length_map, List.take_length] at hpu
      refine fun x dx' hx hdx hne => mk_formS (.inl (SqL.of hus)) hpu (wd_map F.wd) (by rw [List.length_map]; exact hn) hx hdx hne fun d' H' hd' e' F' => ⟨rfl, ?_⟩
      have ee := e.trans e'
      have hD' := ee.keep _ _ hDL (by simp)
      obtain ⟨x0, xd⟩ := nU x (e.none hx (by simp))
      obtain ⟨d0, dd⟩ := nU d' (e.none hd' (by simp))
      exact ⟨hD', q x dx' d' _ x0 d0 (eU _ ee) (F'.ext (ms := [d]) (ext_at fun xs z => by rw [hD'] at z; cases z) (by simpa using xd) (by simpa using dd))⟩
end

end K3
namespace K3
open PySem PySem.Spec PyProof.Rows L2 He Tp ClX LiI

section
variable {P : Program} {w : World} {K : PySem.W.Frag} {mg : Str → Option Value} {base : Heap}
def spFmLenR (C : Addr) : Sp := fun vs H Q _ => ∃ a dx d kvs, vs = [.ref a] ∧ H a = some (.ins C dx [("_numbers", .ref d)]) ∧ Rd H d (.dT kvs) ∧ Q (.int (kvs.length : Int)) H
theorem ok_flenR (T : Txt K mg) {fd : FuncData} (F : FnM K "Form" "__len__" "Form.__len__" s_Form___len__ [] fd) : FnOk P w K mg base CX0 1 (ma K (cF K) "__len__") fd ["self"] (spFmLenR (cF K)) := by
  refine F.ok sc_Form___len__ (fun vs H Q E h => ?_) (fun cdv A outer s H vs Q E hr h => ?_)
  · obtain ⟨a, dx, d, ns, rfl, _⟩ := h
    rfl
  · obtain ⟨a, dx, d, kvs, rfl, ho, hd, q⟩ := h
    refine ⟨_, PSs.nox (pss_one (ps_ret (pe_callB call_len_rdT (by rfl) T.blen PySem.boot_len (pa_cons (pe_fld (pv 0) rfl) pa_nil)))), ?_⟩
    exact ⟨_, rfl, a, cF K, dx, _, _, rfl, ho, T.clForm, T.nForm_numbers, rfl, d, kvs, rfl, hd, q⟩
/-- the pairs of a form's dict, as terms -/
theorem pi_tm {H : Hp} : ∀ {ns : List Nm} {ys : List V}, Paired (PiAt H) ys (dN ns) → ∃ us : List Addr, ys = us.map V.ref ∧ Paired (tmR H) us ns
  | [], _, .nil => ⟨[], rfl, .nil⟩
  | q :: r, _, .cons ⟨T, q1, h1, h2, h3⟩ x => by
    obtain ⟨us, e, hp⟩ := pi_tm (ns := r) x
    exact ⟨T :: us, by rw [h1, e]; rfl, .cons ⟨q1, h2, h3⟩ hp⟩
end

end K3
namespace K3
open PySem PySem.Spec PyProof.Rows L2 He Tp ClX LiI

section
variable {P : Program} {w : World} {K : PySem.W.Frag} {mg : Str → Option Value} {base : Heap}
/-- the numbers with that of x set to i -/
abbrev setN (ns : List Nm) (x : Am) (i : Int) : List Nm := addN ns (x, i - numN ns x)
theorem nodup_add {ns : List Nm} {q : Nm} (nd : (ns.map (·.1)).Nodup) : ((addN ns q).map (·.1)).Nodup := by
  unfold addN
  by_cases h : q.1 ∈ ns.map (·.1)
  · rw [if_pos h, List.map_map]
    have e : ((fun p : Nm => p.1) ∘ fun p : Nm => if p.1 = q.1 then (p.1, p.2 + q.2) else p) = fun p : Nm => p.1 := funext fun p => by
      show (if p.1 = q.1 then (p.1, p.2 + q.2) else p).1 = p.1
      by_cases hp : p.1 = q.1
      · rw [if_pos hp]
      · rw [if_neg hp]
    rw [e]
    exact nd
  · rw [if_neg h, List.map_append]
    refine List.nodup_append.mpr ⟨nd, by simp, fun a ha b hb => ?_⟩
    rw [List.mem_singleton.mp hb]
    exact fun z => h (by
      have z' : a = q.1 := z
      rw [← z']
      exact ha)
theorem wd_add {ns : List Nm} {q : Nm} (w : ∀ p ∈ ns, wdO p.1.1) (hq : wdO q.1.1) : ∀ p ∈ addN ns q, wdO p.1.1 := by
  intro p hp
  unfold addN at hp
  by_cases h : q.1 ∈ ns.map (·.1)
  · rw [if_pos h] at hp
    obtain ⟨r, hr, rfl⟩ := List.mem_map.mp hp
    by_cases h2 : r.1 = q.1
    · rw [if_pos h2]
      exact w r hr
    · rw [if_neg h2]
      exact w r hr
  · rw [if_neg h] at hp
    rcases List.mem_append.mp hp with hp | hp
    · exact w p hp
    · rw [List.mem_singleton.mp hp]
      exact hq
theorem len_add {ns : List Nm} {q : Nm} : (addN ns q).length ≤ ns.length + 1 := by
  unfold addN
  by_cases h : q.1 ∈ ns.map (·.1)
  · rw [if_pos h, List.length_map]
    omega
  · rw [if_neg h, List.length_append]
    show ns.length + 1 ≤ ns.length + 1
    omega
def spFmSet (K : PySem.W.Frag) (C : Addr) : Sp := fun vs H Q E => ∃ a dx d ns v dv n, vs = [.ref a, v, n] ∧ FmAt C H a dx d ns ∧ ns.length ≤ 900 ∧ Av H v dv ∧ Ptv K H n ∧ (amtB dv = false → Leaves K E (ga K "BadAmount") v H) ∧
  (amtB dv = true → isWhole n = false → Leaves K E (ga K "BadNumber") n H) ∧
  (amtB dv = true → ∀ i, n = .int i → ∀ r H', H r = none → Ext [a] H H' → FmAt C H' a dx r (tidyD (setN ns (amD dv) i)) → Q .non H')
theorem ok_fset (T : Txt K mg) {fd : FuncData} (F : FnM K "Form" "__setitem__" "Form.__setitem__" s_Form___setitem__ [] fd) : FnOk P w K mg base (L2.CX P w) 5 (ma K (cF K) "__setitem__") fd ["self", "amount", "number"] (spFmSet K (cF K)) := by
  have D_check_amount := ok_check_amount (P := P) (w := w) (base := base) T
  have D_check_whole := ok_check_whole (P := P) (w := w) (base := base) T
  have D__tidy := ok_tidy (P := P) (w := w) (base := base) T
  refine F.ok sc_Form___setitem__ (fun vs H Q E h => ?_) (fun cdv A outer s H vs Q E hr h => ?_)
  · obtain ⟨a, dx, d, ns, v, dv, n, rfl, _⟩ := h
    rfl
  · obtain ⟨a, dx, d, ns, v, dv, n, rfl, F, hn, av, pn, kA, kN, q⟩ := h
    have nd := sc_Form___setitem__.nd
    have hu := hu1_of hr
    have hr_check_amount := hr.mono (show 3 ≤ 4 by decide)
    have hr_check_whole := hr.mono (show 3 ≤ 4 by decide)
    have hr__tidy := hr
    refine ⟨_, (pss_cons (ps_expr (pe_cd D_check_amount hr_check_amount (by rfl) (passes_call (takes_of rfl rfl rfl rfl) (fun _ _ _ _ z => z)) (pa_cons (pv 1) pa_nil)))
   (pss_cons (ps_expr (pe_cd D_check_whole hr_check_whole (by rfl) (passes_call (takes_of rfl rfl rfl rfl) (fun _ _ _ _ z => z)) (pa_cons (pv 2) pa_nil)))
   (pss_cons (ps_lock (ps_setDcT (n := 3) (own := [("key", 4)]) (g := gName 4) (tt := tYes) ⟨(by rfl), (Nat.lt_of_succ_lt hu), nd, (pi_keys (pe_fld (pv 0) rfl)), (blkOk_by (own := [("key", 4)]) (N := n_Form___setitem__) (sc := defScope s_Form___setitem__) (by decide +kernel)), (fun _ _ _ _ _ => pg_name (i := 4) nd rfl (by first | exact Or.inl rfl | exact Or.inr rfl)), (fun _ _ _ _ _ => pts_nil), (fun _ _ _ _ _ => (pv 4)), (fun _ _ _ _ _ => (pe_dget hu (show PE _ _ (tFld K _ _) from pe_fld (pv 0) rfl) (pv 4) (fun _ _ => rfl))), (by intro _; rfl)⟩ rfl rfl (sw_dc (elts := (_, _)) rfl rfl rfl (by decide +kernel))))
   (pss_cons (ps_dput hu (pv 3) (pv 1) (pv 2) rfl)
   (pss_one (ps_fld (pv 0) (pe_cd D__tidy hr__tidy (by rfl) pass0 (pa_cons (pv 3) pa_nil)) rfl)))))), ?_⟩
    refine ⟨_, rfl, v, dv, rfl, av, kA, fun hb => ?_⟩
    refine ⟨_, rfl, n, rfl, pn, kN hb, fun hw => ?_⟩
    obtain ⟨i, rfl⟩ : ∃ i, n = .int i := by
      cases n with
      | int i => exact ⟨i, rfl⟩
      | _ => cases hw
    obtain ⟨u, q0, rfl, hu2, rfl⟩ := amt_of av hb
    have wq : wdO q0.1 := amD_wd hb
    have q' := q hb i rfl
    refine ⟨d, _, F.nm, trivial, fun od => ?_⟩
    have hDL : (upd H d (.frz od (.dT (dN ns)))) d = some (.frz od (.dT (dN ns))) := upd_same
    have hobL : (upd H d (.frz od (.dT (dN ns)))) a = some (.ins (cF K) dx [("_numbers", .ref d)]) := by rw [upd_ne F.ne]; exact F.ob
    have eU : ∀ G, Ext [] (upd H d (.frz od (.dT (dN ns)))) G → Ext [] H (upd G d (.dT (dN ns))) := fun G e => ext_unlock F.nm e
    have nU : ∀ r, (upd H d (.frz od (.dT (dN ns)))) r = none → H r = none ∧ r ≠ d := fun r hr => by
      have hn : r ≠ d := fun h => by rw [h, upd_same] at hr; cases hr
      rw [upd_ne hn] at hr
      exact ⟨hr, hn⟩
    generalize upd H d (.frz od (.dT (dN ns))) = HL at hDL hobL eU nU ⊢
    refine ⟨_, rfl, a, cF K, dx, _, _, rfl, hobL, T.clForm, T.nForm_numbers, rfl, d, od, rfl, .inr ⟨dN ns, hDL, fun D hD => dcT_keysT (fun j G => Ext [] HL G ∧ G D = some (.dT (dN (ns.take j)))) ⟨Ext.new hD, upd_same⟩ ?_ ?_ ?_⟩⟩
    · rintro j G _ ⟨e, _⟩
      exact e.keep _ _ hDL (by simp)
    · rintro j k v1 q1 G hk ha ⟨e, hDw⟩
      obtain ⟨x, v', hx, rfl⟩ := dA_at hk
      rw [List.getElem?_map] at hx
      obtain ⟨r0, hr0, e0⟩ := Option.map_eq_some_iff.mp hx
      injection e0 with e1' e2'
      subst e1'
      have hrm := List.mem_of_getElem? hr0
      have hj := (List.getElem?_eq_some_iff.mp hr0).1
      have hget : DGet G d (.ref q1) (some (.int r0.2)) := by
        rw [← dN_at F.nd hrm]
        exact DGet.rd (.inr ⟨od, e.keep _ _ hDL (by simp)⟩) ha
      refine ⟨wipe1, ?_⟩
      refine tyes ?_
      refine ⟨_, rfl, _, rfl, a, cF K, dx, _, _, rfl, e.keep _ _ hobL (by simp), T.clForm, T.nForm_numbers, rfl, _, rfl, d, _, rfl, hget, ?_⟩
      have hnew : r0.1 ∉ (ns.take j).map (·.1) := nodup_take F.nd hr0
      refine ⟨_, amK r0.1, q1, rfl, hDw, ha, ?_, e.fresh hD, ?_⟩
      · rw [dA_len, List.length_map, List.length_take]
        have h4 : (1000 : Nat) < sizeLine := by decide
        omega
      · rw [upd_same, dN_put hnew, take_snoc hr0]
    · rintro G ⟨e, hDw⟩
      rw [dA_len, List.length_map, List.take_length] at hDw
      refine gset ?_
      dsimp only
      have hdG := e.keep _ _ hDL (by simp)
      refine ⟨hdG, ?_⟩
      obtain ⟨hD0, hDd⟩ := nU D hD
      have eG := eU G e
      have hDw2 : (upd G d (.dT (dN ns))) D = some (.dT (dN ns)) := by rw [upd_ne hDd]; exact hDw
      generalize upd G d (.dT (dN ns)) = G2 at eG hDw2 ⊢
      have huK : G2 u = some (.tup ((amK q0).map kV)) := eG.tups _ _ hu2
      have hsz : (dN ns).length < sizeLine := by
        rw [dA_len, List.length_map]
        have h4 : (1000 : Nat) < sizeLine := by decide
        omega
      refine ⟨_, rfl, _, rfl, _, rfl, D, _, rfl, DPut.t hDw2 huK hsz, ?_⟩
      have ep := put_addN (q := (q0, i - numN ns q0)) F.nd
      rw [show numN ns (q0, i - numN ns q0).1 + (q0, i - numN ns q0).2 = i by show numN ns q0 + (i - numN ns q0) = i; omega] at ep
      have e3 : Ext [] H (upd G2 D (.dT (putK (dN ns) (amK q0) (.int i)))) := eG.fresh hD0
      have h3 : (upd G2 D (.dT (putK (dN ns) (amK q0) (.int i)))) D = some (.dT (dN (setN ns q0 i))) := by
        rw [upd_same]
        exact congrArg some (congrArg HO.dT ep)
      generalize upd G2 D (.dT (putK (dN ns) (amK q0) (.int i))) = G3 at e3 h3 ⊢
      have wS : ∀ p ∈ setN ns q0 i, wdO p.1.1 := wd_add F.wd wq
      have hlS := len_add (ns := ns) (q := (q0, i - numN ns q0))
      refine ⟨_, rfl, D, setN ns q0 i, rfl, h3, nodup_add F.nd, wS, Nat.le_trans hlS (by omega), fun r H4 hr4 e4 hd4 => ?_⟩
      have e04 := e3.trans e4
      have hr0 := e3.none hr4 (by simp)
      have hob4 := e04.keep _ _ F.ob (by simp)
      have hra : r ≠ a := fun z => by
        have h := F.ob
        rw [← z, hr0] at h
        cases h
      refine ⟨_, rfl, a, cF K, dx, _, rfl, hob4, T.clForm, T.nForm_numbers, (by show 1 < 1000; decide), ?_⟩
      rw [show putF ("_numbers" : Str) (V.ref r) [(("_numbers" : Str), V.ref d)] = [(("_numbers" : Str), V.ref r)] from rfl]
      have eA : Ext [a] H4 (upd H4 a (.ins (cF K) dx [("_numbers", .ref r)])) := ext_at fun xs z => by rw [hob4] at z; cases z
      exact q' r _ hr0 (e04.nil.trans eA) ⟨upd_same, by rw [upd_ne hra]; exact hd4, nodup_tidyD (nodup_add F.nd), wd_tidy wS, fun q hq => (tidy_mem.mp hq).2⟩
end


end K3
namespace K3
open PySem PySem.Spec PyProof.Rows L2 He Tp ClX LiI

section
variable {P : Program} {w : World} {K : PySem.W.Frag} {mg : Str → Option Value} {base : Heap}
def leastOk (lo : Int) (v : V) : Prop := ∃ i, v = .int i ∧ lo ≤ i
def spLeast (K : PySem.W.Frag) : Sp := fun vs H Q E => ∃ v lo, vs = [v, .int lo] ∧ Ptv K H v ∧ (¬ leastOk lo v → Leaves K E (ga K "BadNumber") v H) ∧ (∀ i, v = .int i → lo ≤ i → Q .non H)
theorem ok_check_least (T : Txt K mg) : Df P w K mg base (L2.CX P w) 3 "check_least" ["value", "least"] (spLeast K) := by
  have D_is_whole := ok_is_whole (P := P) (w := w) (base := base) T
  have D_dye := dye (P := P) (w := w) (base := base) T
  refine Df.mk' T.gcheck_least T.fcheck_least (fun _ _ _ _ _ _ us hl => match us, hl with | [_, _], _ => rfl) fun fd F => F.ok sc_check_least (fun vs H Q E h => ?_) (fun cdv A outer s H vs Q E hr h => ?_)
  · obtain ⟨v, lo, rfl, _⟩ := h
    rfl
  · obtain ⟨v, lo, rfl, p, kB, kN⟩ := h
    have hr_is_whole := hr.mono (show 1 ≤ 2 by decide)
    refine ⟨_, (pss_one (ps_if (PW.pt (pw_or (pt_not (pt_val (pe_cd D_is_whole hr_is_whole (by rfl) pass0 (pa_cons (pv 0) pa_nil)))) (pw_or1 (pt_cmpR op_lt (pv 0) (pv 1) (nomark _))))) (pss_one (ps_raiseX rfl T.xBadNumber D_dye (hr.mono (by decide)) (takes_of rfl rfl rfl rfl) (by rfl) T.gBadNumber (pv 0))) pss_nil)), ?_⟩
    refine ⟨_, rfl, v, rfl, p, _, rfl, ?_⟩
    refine ifb (fun h1 => ?_) (fun h1 => ?_)
    · refine iteT ?_
      exact ⟨v, rfl, leaves_now T.xBadNumber (kB fun ⟨i, e, _⟩ => by rw [e] at h1; cases h1) Ext.refl⟩
    · obtain ⟨i, rfl⟩ : ∃ i, v = .int i := by
        cases v with
        | int i => exact ⟨i, rfl⟩
        | _ => cases h1
      refine ⟨_, rfl, _, rfl, i, lo, rfl, rfl, _, rfl, ?_⟩
      refine ifb (fun h2 => ?_) (fun h2 => ?_)
      · have h3 : i < lo := by simpa using h2
        exact ⟨_, rfl, leaves_now T.xBadNumber (kB fun ⟨j, e, hj⟩ => by injection e with e; omega) Ext.refl⟩
      · have h3 : ¬ i < lo := by simpa using h2
        exact kN i rfl (by omega)
end

end K3
namespace K3
open PySem PySem.Spec PyProof.Rows L2 He Tp ClX LiI

section
variable {P : Program} {w : World} {K : PySem.W.Frag} {mg : Str → Option Value} {base : Heap}
def spFmLe (K : PySem.W.Frag) (C : Addr) (lo : Int) (co : Int → Int → Prop) (m : Int → List Nm → List Nm) : Sp := fun vs H Q E => ∃ a dx d ns v, vs = [.ref a, v] ∧ FmAt C H a dx d ns ∧ ns.length ≤ 1000 ∧ Ptv K H v ∧ (¬ leastOk lo v → Leaves K E (ga K "BadNumber") v H) ∧
  (∀ i, v = .int i → lo ≤ i → (∀ q ∈ ns, co i q.2) ∧ ∀ r dx' d' H', H r = none → H d' = none → Ext [] H H' → FmAt C H' r dx' d' (tidyD (sumN (m i ns))) → Q (.ref r) H')
abbrev spFmQuo (K : PySem.W.Frag) (C : Addr) : Sp := spFmLe K C 1 (fun i z => CDivW z i) fun i ns => mapN (fun z => z / i) ns
abbrev spFmRem (K : PySem.W.Frag) (C : Addr) : Sp := spFmLe K C 1 (fun _ _ => True) fun i ns => mapN (fun z => z % i) ns
abbrev spFmAbs (C : Addr) : Sp := spFmMap C (fun _ => []) (fun _ _ => True) fun _ z => if z < 0 then -z else z
theorem ok_fquo (T : Txt K mg) {fd : FuncData} (F : FnM K "Form" "__floordiv__" "Form.__floordiv__" s_Form___floordiv__ [] fd) : FnOk P w K mg base (L2.CX P w) 8 (ma K (cF K) "__floordiv__") fd ["self", "other"] (spFmQuo K (cF K)) := by
  have D_check_least := ok_check_least (P := P) (w := w) (base := base) T
  obtain ⟨fi, fi_⟩ := T.fFormInit
  have Fi := ok_finit (P := P) (w := w) (base := base) T fi_
  obtain ⟨dsI, vsI, biI⟩ := b_finit fi_
  cases vsI
  have bi := biI
  obtain ⟨ft, ft_⟩ := T.fForm__iter__
  have Fit := ok_fiter (P := P) (w := w) (base := base) T ft_
  have bit : Binds K ft ["self"] [] := ft_.bindsN (fun _ _ _ _ _ _ us hl => match us, hl with | [_], _ => rfl)
  have oi : OwnIt K (cF K) (ma K (cF K) "__iter__") := ⟨T.mForm__iter__.at_, T.mForm__iter__.fn⟩
  refine F.ok sc_Form___floordiv__ (fun vs H Q E h => ?_) (fun cdv A outer s H vs Q E hr h => ?_)
  · obtain ⟨a, dx, d, ns, v, rfl, _⟩ := h
    rfl
  · obtain ⟨a, dx, d, ns, v, rfl, F, hn, pv', kB, qq⟩ := h
    have nd := sc_Form___floordiv__.nd
    have hri := hr
    have hr_check_least := hr.mono (show 3 ≤ 7 by decide)
    have hrit := hr.mono (show 1 ≤ 7 by decide)
    refine ⟨_, (pss_cons (ps_expr (pe_cd D_check_least hr_check_least (by rfl) (passes_call (takes_of rfl rfl rfl rfl) (fun _ _ _ _ z => z)) (pa_cons (pv 1) (pa_cons pe_int pa_nil))))
   (pss_one (ps_lock (ps_ret (pe_make T.mk_Form Fi hri (by rfl) T.gForm bi .nil (passes_call (takes_of rfl rfl rfl rfl) (fun _ _ _ _ z => z)) (pa_cons (pe_lc (own := [("amount", 2), ("number", 3)]) (g := (gTup K 2 (gCons (gName 2) (gCons (gName 3) gNil)))) (tt := tYes) (by rfl) nd (pi_ownI (.inr ⟨_, _, _, rfl⟩) (pv 0) oi Fit hrit bit pass0) (blkOk_by (own := [("amount", 2), ("number", 3)]) (N := n_Form___floordiv__) (sc := defScope s_Form___floordiv__) (by decide +kernel)) (fun _ _ _ _ _ => (pg_tup (by rfl) (pgs_cons (pg_name (i := 2) nd rfl (by first | exact Or.inl rfl | exact Or.inr rfl)) (pgs_cons (pg_name (i := 3) nd rfl (by first | exact Or.inl rfl | exact Or.inr rfl)) pgs_nil)))) (fun _ _ _ _ _ => pts_nil) (fun _ _ _ _ _ => (pe_tup (pa_cons (pv 2) (pa_cons (pe_op op_fdivW (pv 3) (pv 1)) pa_nil))))) pa_nil)))))), ?_⟩
    refine ⟨_, rfl, v, 1, rfl, pv', kB, fun i hv hi => ?_⟩
    subst hv
    obtain ⟨hco, q⟩ := qq i rfl hi
    refine ⟨d, _, F.nm, trivial, fun od => ?_⟩
    have hDL : (upd H d (.frz od (.dT (dN ns)))) d = some (.frz od (.dT (dN ns))) := upd_same
    have hobL : (upd H d (.frz od (.dT (dN ns)))) a = some (.ins (cF K) dx [("_numbers", .ref d)]) := by rw [upd_ne F.ne]; exact F.ob
    have eU : ∀ G, Ext [] (upd H d (.frz od (.dT (dN ns)))) G → Ext [] H (upd G d (.dT (dN ns))) := fun G e => ext_unlock F.nm e
    have nU : ∀ r, (upd H d (.frz od (.dT (dN ns)))) r = none → H r = none ∧ r ≠ d := fun r hr => by
      have hn : r ≠ d := fun h => by rw [h, upd_same] at hr; cases hr
      rw [upd_ne hn] at hr
      exact ⟨hr, hn⟩
    generalize upd H d (.frz od (.dT (dN ns))) = HL at hDL hobL eU nU ⊢
    refine ⟨_, rfl, a, dx, _, d, od, dN ns, rfl, hobL, hDL, (fun n => ⟨a, dx, d, od, dN ns, rfl, hobL, hDL, fun p it hp hne hi hn => ⟨p, it, rfl, hp, hne, hi, hn, rfl⟩⟩), fun R hR => lc_it walk_itemsT (fun j G => Ext [] HL G ∧ ∃ us : List Addr, G R = some (.lst (us.map V.ref)) ∧ Paired (tmR G) us (mapN (fun z => z / i) (ns.take j))) ⟨Ext.new hR, [], upd_same, .nil⟩ ?_ ?_ ?_⟩
    · rintro j G _ ⟨e, _⟩
      exact e.keep _ _ hDL (by simp)
    · rintro j y G G2 hi ⟨e, us, hus, hpu⟩ ⟨t, k, v, q1, hk, hq1, rfl, ht, rfl⟩
      obtain ⟨x, v', hx, rfl⟩ := dA_at hk
      rw [List.getElem?_map] at hx
      obtain ⟨q0, hq0, e0⟩ := Option.map_eq_some_iff.mp hx
      injection e0 with e1' e2'
      subst e1'
      have hv : v = .int q0.2 := by
        have h1 : (dN ns)[j]? = some (amK q0.1, .int q0.2) := by
          show (List.map _ (List.map _ ns))[j]? = _
          rw [List.getElem?_map, List.getElem?_map, hq0]
          rfl
        rw [hk] at h1
        injection h1 with h1
        injection h1
      subst hv
      have et : Ext [] G (upd G t (.tup [.ref q1, .int q0.2])) := Ext.new ht
      have hqa : isAmt (upd G t (.tup [.ref q1, .int q0.2])) q1 q0.1 := et.tups _ _ hq1
      have hsame : (upd G t (.tup [.ref q1, .int q0.2])) t = some (.tup [.ref q1, .int q0.2]) := upd_same
      have e2 := e.trans et
      have hus2 := et.keep _ _ hus (by simp)
      have hpu2 := paired_mono (fun _ _ h => tmR.ext h et) hpu
      clear hus hpu et e
      generalize upd G t (.tup [.ref q1, .int q0.2]) = G2 at hqa hsame e2 hus2 hpu2 ⊢
      have hin := (List.getElem?_eq_some_iff.mp hq0).1
      have hul : us.length = _ := Paired.length hpu2
      rw [List.length_map, List.length_take] at hul
      refine ⟨t, _, rfl, .inl (.inl hsame), rfl, _, _, rfl, _, _, rfl, rfl, ?_⟩
      refine ⟨rfl, ?_⟩
      refine tyes ?_
      refine ⟨_, rfl, _, rfl, _, rfl, q0.2, i, rfl, rfl, hco q0 (List.mem_of_getElem? hq0), by show 2 ≤ sizeLine; decide, fun t2 ht2 => ?_⟩
      have e3 : Ext [] G2 (upd G2 t2 (.tup [.ref q1, .int (q0.2 / i)])) := Ext.new ht2
      have new : tmR (upd G2 t2 (.tup [.ref q1, .int (q0.2 / i)])) t2 (q0.1, q0.2 / i) := ⟨q1, upd_same, e3.tups _ _ hqa⟩
      have hus3 := e3.keep _ _ hus2 (by simp)
      have hpu3 := paired_mono (fun _ _ h => tmR.ext h e3) hpu2
      have e4 := e2.trans e3
      generalize upd G2 t2 (.tup [.ref q1, .int (q0.2 / i)]) = G3 at new hus3 hpu3 e4 ⊢
      have eR : Ext [R] G3 (upd G3 R (.lst (us.map V.ref ++ [.ref t2]))) := ext_at fun xs z => by rw [hus3] at z; cases z
      refine ⟨us.map V.ref, hus3, by rw [List.length_map]; exact Evl.sz_lt (by omega), e4.fresh hR, us ++ [t2], by rw [upd_same, List.map_append]; rfl, ?_⟩
      rw [take_snoc hq0, mapN_snoc]
      exact pair_snoc (new.ext eR) (paired_mono (fun _ _ h => tmR.ext h eR) hpu3)
    · rintro G ⟨e, us, hus, hpu⟩
      rw [dA_len, List.length_map, List.take_length] at hpu
      refine fun x dx' hx hdx hne => mk_formS (.inl (SqL.of hus)) hpu (wd_map F.wd) (by rw [List.length_map]; exact hn) hx hdx hne fun d' H' hd' e' F' => ⟨rfl, ?_⟩
      have ee := e.trans e'
      have hD' := ee.keep _ _ hDL (by simp)
      obtain ⟨x0, xd⟩ := nU x (e.none hx (by simp))
      obtain ⟨d0, dd⟩ := nU d' (e.none hd' (by simp))
      exact ⟨hD', q x dx' d' _ x0 d0 (eU _ ee) (F'.ext (ms := [d]) (ext_at fun xs z => by rw [hD'] at z; cases z) (by simpa using xd) (by simpa using dd))⟩
theorem ok_frem (T : Txt K mg) {fd : FuncData} (F : FnM K "Form" "__mod__" "Form.__mod__" s_Form___mod__ [] fd) : FnOk P w K mg base (L2.CX P w) 8 (ma K (cF K) "__mod__") fd ["self", "other"] (spFmRem K (cF K)) := by
  have D_check_least := ok_check_least (P := P) (w := w) (base := base) T
  obtain ⟨fi, fi_⟩ := T.fFormInit
  have Fi := ok_finit (P := P) (w := w) (base := base) T fi_
  obtain ⟨dsI, vsI, biI⟩ := b_finit fi_
  cases vsI
  have bi := biI
  obtain ⟨ft, ft_⟩ := T.fForm__iter__
  have Fit := ok_fiter (P := P) (w := w) (base := base) T ft_
  have bit : Binds K ft ["self"] [] := ft_.bindsN (fun _ _ _ _ _ _ us hl => match us, hl with | [_], _ => rfl)
  have oi : OwnIt K (cF K) (ma K (cF K) "__iter__") := ⟨T.mForm__iter__.at_, T.mForm__iter__.fn⟩
  refine F.ok sc_Form___mod__ (fun vs H Q E h => ?_) (fun cdv A outer s H vs Q E hr h => ?_)
  · obtain ⟨a, dx, d, ns, v, rfl, _⟩ := h
    rfl
  · obtain ⟨a, dx, d, ns, v, rfl, F, hn, pv', kB, qq⟩ := h
    have nd := sc_Form___mod__.nd
    have hri := hr
    have hr_check_least := hr.mono (show 3 ≤ 7 by decide)
    have hrit := hr.mono (show 1 ≤ 7 by decide)
    refine ⟨_, (pss_cons (ps_expr (pe_cd D_check_least hr_check_least (by rfl) (passes_call (takes_of rfl rfl rfl rfl) (fun _ _ _ _ z => z)) (pa_cons (pv 1) (pa_cons pe_int pa_nil))))
   (pss_one (ps_lock (ps_ret (pe_make T.mk_Form Fi hri (by rfl) T.gForm bi .nil (passes_call (takes_of rfl rfl rfl rfl) (fun _ _ _ _ z => z)) (pa_cons (pe_lc (own := [("amount", 2), ("number", 3)]) (g := (gTup K 2 (gCons (gName 2) (gCons (gName 3) gNil)))) (tt := tYes) (by rfl) nd (pi_ownI (.inr ⟨_, _, _, rfl⟩) (pv 0) oi Fit hrit bit pass0) (blkOk_by (own := [("amount", 2), ("number", 3)]) (N := n_Form___mod__) (sc := defScope s_Form___mod__) (by decide +kernel)) (fun _ _ _ _ _ => (pg_tup (by rfl) (pgs_cons (pg_name (i := 2) nd rfl (by first | exact Or.inl rfl | exact Or.inr rfl)) (pgs_cons (pg_name (i := 3) nd rfl (by first | exact Or.inl rfl | exact Or.inr rfl)) pgs_nil)))) (fun _ _ _ _ _ => pts_nil) (fun _ _ _ _ _ => (pe_tup (pa_cons (pv 2) (pa_cons (pe_op op_mod (pv 3) (pv 1)) pa_nil))))) pa_nil)))))), ?_⟩
    refine ⟨_, rfl, v, 1, rfl, pv', kB, fun i hv hi => ?_⟩
    subst hv
    obtain ⟨hco, q⟩ := qq i rfl hi
    refine ⟨d, _, F.nm, trivial, fun od => ?_⟩
    have hDL : (upd H d (.frz od (.dT (dN ns)))) d = some (.frz od (.dT (dN ns))) := upd_same
    have hobL : (upd H d (.frz od (.dT (dN ns)))) a = some (.ins (cF K) dx [("_numbers", .ref d)]) := by rw [upd_ne F.ne]; exact F.ob
    have eU : ∀ G, Ext [] (upd H d (.frz od (.dT (dN ns)))) G → Ext [] H (upd G d (.dT (dN ns))) := fun G e => ext_unlock F.nm e
    have nU : ∀ r, (upd H d (.frz od (.dT (dN ns)))) r = none → H r = none ∧ r ≠ d := fun r hr => by
      have hn : r ≠ d := fun h => by rw [h, upd_same] at hr; cases hr
      rw [upd_ne hn] at hr
      exact ⟨hr, hn⟩
    generalize upd H d (.frz od (.dT (dN ns))) = HL at hDL hobL eU nU ⊢
    refine ⟨_, rfl, a, dx, _, d, od, dN ns, rfl, hobL, hDL, (fun n => ⟨a, dx, d, od, dN ns, rfl, hobL, hDL, fun p it hp hne hi hn => ⟨p, it, rfl, hp, hne, hi, hn, rfl⟩⟩), fun R hR => lc_it walk_itemsT (fun j G => Ext [] HL G ∧ ∃ us : List Addr, G R = some (.lst (us.map V.ref)) ∧ Paired (tmR G) us (mapN (fun z => z % i) (ns.take j))) ⟨Ext.new hR, [], upd_same, .nil⟩ ?_ ?_ ?_⟩
    · rintro j G _ ⟨e, _⟩
      exact e.keep _ _ hDL (by simp)
    · rintro j y G G2 hi ⟨e, us, hus, hpu⟩ ⟨t, k, v, q1, hk, hq1, rfl, ht, rfl⟩
      obtain ⟨x, v', hx, rfl⟩ := dA_at hk
      rw [List.getElem?_map] at hx
      obtain ⟨q0, hq0, e0⟩ := Option.map_eq_some_iff.mp hx
      injection e0 with e1' e2'
      subst e1'
      have hv : v = .int q0.2 := by
        have h1 : (dN ns)[j]? = some (amK q0.1, .int q0.2) := by
          show (List.map _ (List.map _ ns))[j]? = _
          rw [List.getElem?_map, List.getElem?_map, hq0]
          rfl
        rw [hk] at h1
        injection h1 with h1
        injection h1
      subst hv
      have et : Ext [] G (upd G t (.tup [.ref q1, .int q0.2])) := Ext.new ht
      have hqa : isAmt (upd G t (.tup [.ref q1, .int q0.2])) q1 q0.1 := et.tups _ _ hq1
      have hsame : (upd G t (.tup [.ref q1, .int q0.2])) t = some (.tup [.ref q1, .int q0.2]) := upd_same
      have e2 := e.trans et
      have hus2 := et.keep _ _ hus (by simp)
      have hpu2 := paired_mono (fun _ _ h => tmR.ext h et) hpu
      clear hus hpu et e
      generalize upd G t (.tup [.ref q1, .int q0.2]) = G2 at hqa hsame e2 hus2 hpu2 ⊢
      have hin := (List.getElem?_eq_some_iff.mp hq0).1
      have hul : us.length = _ := Paired.length hpu2
      rw [List.length_map, List.length_take] at hul
      refine ⟨t, _, rfl, .inl (.inl hsame), rfl, _, _, rfl, _, _, rfl, rfl, ?_⟩
      refine ⟨rfl, ?_⟩
      refine tyes ?_
      refine ⟨_, rfl, _, rfl, _, rfl, q0.2, i, rfl, rfl, (show (0 : Int) < i by omega), by show 2 ≤ sizeLine; decide, fun t2 ht2 => ?_⟩
      have e3 : Ext [] G2 (upd G2 t2 (.tup [.ref q1, .int (q0.2 % i)])) := Ext.new ht2
      have new : tmR (upd G2 t2 (.tup [.ref q1, .int (q0.2 % i)])) t2 (q0.1, q0.2 % i) := ⟨q1, upd_same, e3.tups _ _ hqa⟩
      have hus3 := e3.keep _ _ hus2 (by simp)
      have hpu3 := paired_mono (fun _ _ h => tmR.ext h e3) hpu2
      have e4 := e2.trans e3
      generalize upd G2 t2 (.tup [.ref q1, .int (q0.2 % i)]) = G3 at new hus3 hpu3 e4 ⊢
      have eR : Ext [R] G3 (upd G3 R (.lst (us.map V.ref ++ [.ref t2]))) := ext_at fun xs z => by rw [hus3] at z; cases z
      refine ⟨us.map V.ref, hus3, by rw [List.length_map]; exact Evl.sz_lt (by omega), e4.fresh hR, us ++ [t2], by rw [upd_same, List.map_append]; rfl, ?_⟩
      rw [take_snoc hq0, mapN_snoc]
      exact pair_snoc (new.ext eR) (paired_mono (fun _ _ h => tmR.ext h eR) hpu3)
    · rintro G ⟨e, us, hus, hpu⟩
      rw [dA_len, List.length_map, List.take_length] at hpu
      refine fun x dx' hx hdx hne => mk_formS (.inl (SqL.of hus)) hpu (wd_map F.wd) (by rw [List.length_map]; exact hn) hx hdx hne fun d' H' hd' e' F' => ⟨rfl, ?_⟩
      have ee := e.trans e'
      have hD' := ee.keep _ _ hDL (by simp)
      obtain ⟨x0, xd⟩ := nU x (e.none hx (by simp))
      obtain ⟨d0, dd⟩ := nU d' (e.none hd' (by simp))
      exact ⟨hD', q x dx' d' _ x0 d0 (eU _ ee) (F'.ext (ms := [d]) (ext_at fun xs z => by rw [hD'] at z; cases z) (by simpa using xd) (by simpa using dd))⟩
theorem ok_fabs (T : Txt K mg) {fd : FuncData} (F : FnM K "Form" "__abs__" "Form.__abs__" s_Form___abs__ [] fd) : FnOk P w K mg base CX0 8 (ma K (cF K) "__abs__") fd ["self"] (spFmAbs (cF K)) := by
  obtain ⟨fi, fi_⟩ := T.fFormInit
  have Fi := ok_finit (P := P) (w := w) (base := base) T fi_
  obtain ⟨dsI, vsI, biI⟩ := b_finit fi_
  cases vsI
  have bi := biI
  obtain ⟨ft, ft_⟩ := T.fForm__iter__
  have Fit := ok_fiter (P := P) (w := w) (base := base) T ft_
  have bit : Binds K ft ["self"] [] := ft_.bindsN (fun _ _ _ _ _ _ us hl => match us, hl with | [_], _ => rfl)
  have oi : OwnIt K (cF K) (ma K (cF K) "__iter__") := ⟨T.mForm__iter__.at_, T.mForm__iter__.fn⟩
  refine F.ok sc_Form___abs__ (fun vs H Q E h => ?_) (fun cdv A outer s H vs Q E hr h => ?_)
  · obtain ⟨a, dx, d, ns, i, rfl, _⟩ := h
    rfl
  · obtain ⟨a, dx, d, ns, i, rfl, F, hn, hco, q⟩ := h
    have nd := sc_Form___abs__.nd
    have hri := hr
    have hrit := hr.mono (show 1 ≤ 7 by decide)
    refine ⟨_, PSs.nox (pss_one (ps_lock (ps_ret (pe_make T.mk_Form Fi hri (by rfl) T.gForm bi .nil passL (pa_cons (pe_lc (own := [("amount", 1), ("number", 2)]) (g := (gTup K 2 (gCons (gName 1) (gCons (gName 2) gNil)))) (tt := tYes) (by rfl) nd (pi_ownI (.inr ⟨_, _, _, rfl⟩) (pv 0) oi Fit hrit bit pass0) (blkOk_by (own := [("amount", 1), ("number", 2)]) (N := n_Form___abs__) (sc := defScope s_Form___abs__) (by decide +kernel)) (fun _ _ _ _ _ => (pg_tup (by rfl) (pgs_cons (pg_name (i := 1) nd rfl (by first | exact Or.inl rfl | exact Or.inr rfl)) (pgs_cons (pg_name (i := 2) nd rfl (by first | exact Or.inl rfl | exact Or.inr rfl)) pgs_nil)))) (fun _ _ _ _ _ => pts_nil) (fun _ _ _ _ _ => (pe_tup (pa_cons (pv 1) (pa_cons (pe_callB (call_abs) (by rfl) T.babs (by decide +kernel) (pa_cons (pv 2) pa_nil)) pa_nil))))) pa_nil))))), ?_⟩
    refine ⟨d, _, F.nm, trivial, fun od => ?_⟩
    have hDL : (upd H d (.frz od (.dT (dN ns)))) d = some (.frz od (.dT (dN ns))) := upd_same
    have hobL : (upd H d (.frz od (.dT (dN ns)))) a = some (.ins (cF K) dx [("_numbers", .ref d)]) := by rw [upd_ne F.ne]; exact F.ob
    have eU : ∀ G, Ext [] (upd H d (.frz od (.dT (dN ns)))) G → Ext [] H (upd G d (.dT (dN ns))) := fun G e => ext_unlock F.nm e
    have nU : ∀ r, (upd H d (.frz od (.dT (dN ns)))) r = none → H r = none ∧ r ≠ d := fun r hr => by
      have hn : r ≠ d := fun h => by rw [h, upd_same] at hr; cases hr
      rw [upd_ne hn] at hr
      exact ⟨hr, hn⟩
    generalize upd H d (.frz od (.dT (dN ns))) = HL at hDL hobL eU nU ⊢
    refine ⟨_, rfl, a, dx, _, d, od, dN ns, rfl, hobL, hDL, (fun n => ⟨a, dx, d, od, dN ns, rfl, hobL, hDL, fun p it hp hne hi hn => ⟨p, it, rfl, hp, hne, hi, hn, rfl⟩⟩), fun R hR => lc_it walk_itemsT (fun j G => Ext [] HL G ∧ ∃ us : List Addr, G R = some (.lst (us.map V.ref)) ∧ Paired (tmR G) us (mapN (fun z => if z < 0 then -z else z) (ns.take j))) ⟨Ext.new hR, [], upd_same, .nil⟩ ?_ ?_ ?_⟩
    · rintro j G _ ⟨e, _⟩
      exact e.keep _ _ hDL (by simp)
    · rintro j y G G2 hi ⟨e, us, hus, hpu⟩ ⟨t, k, v, q1, hk, hq1, rfl, ht, rfl⟩
      obtain ⟨x, v', hx, rfl⟩ := dA_at hk
      rw [List.getElem?_map] at hx
      obtain ⟨q0, hq0, e0⟩ := Option.map_eq_some_iff.mp hx
      injection e0 with e1' e2'
      subst e1'
      have hv : v = .int q0.2 := by
        have h1 : (dN ns)[j]? = some (amK q0.1, .int q0.2) := by
          show (List.map _ (List.map _ ns))[j]? = _
          rw [List.getElem?_map, List.getElem?_map, hq0]
          rfl
        rw [hk] at h1
        injection h1 with h1
        injection h1
      subst hv
      have et : Ext [] G (upd G t (.tup [.ref q1, .int q0.2])) := Ext.new ht
      have hqa : isAmt (upd G t (.tup [.ref q1, .int q0.2])) q1 q0.1 := et.tups _ _ hq1
      have hsame : (upd G t (.tup [.ref q1, .int q0.2])) t = some (.tup [.ref q1, .int q0.2]) := upd_same
      have e2 := e.trans et
      have hus2 := et.keep _ _ hus (by simp)
      have hpu2 := paired_mono (fun _ _ h => tmR.ext h et) hpu
      clear hus hpu et e
      generalize upd G t (.tup [.ref q1, .int q0.2]) = G2 at hqa hsame e2 hus2 hpu2 ⊢
      have hin := (List.getElem?_eq_some_iff.mp hq0).1
      have hul : us.length = _ := Paired.length hpu2
      rw [List.length_map, List.length_take] at hul
      refine ⟨t, _, rfl, .inl (.inl hsame), rfl, _, _, rfl, _, _, rfl, rfl, ?_⟩
      refine ⟨rfl, ?_⟩
      refine tyes ?_
      refine ⟨_, rfl, _, rfl, q0.2, rfl, by show 2 ≤ sizeLine; decide, fun t2 ht2 => ?_⟩
      have e3 : Ext [] G2 (upd G2 t2 (.tup [.ref q1, .int (if q0.2 < 0 then -q0.2 else q0.2)])) := Ext.new ht2
      have new : tmR (upd G2 t2 (.tup [.ref q1, .int (if q0.2 < 0 then -q0.2 else q0.2)])) t2 (q0.1, if q0.2 < 0 then -q0.2 else q0.2) := ⟨q1, upd_same, e3.tups _ _ hqa⟩
      have hus3 := e3.keep _ _ hus2 (by simp)
      have hpu3 := paired_mono (fun _ _ h => tmR.ext h e3) hpu2
      have e4 := e2.trans e3
      generalize upd G2 t2 (.tup [.ref q1, .int (if q0.2 < 0 then -q0.2 else q0.2)]) = G3 at new hus3 hpu3 e4 ⊢
      have eR : Ext [R] G3 (upd G3 R (.lst (us.map V.ref ++ [.ref t2]))) := ext_at fun xs z => by rw [hus3] at z; cases z
      refine ⟨us.map V.ref, hus3, by rw [List.length_map]; exact Evl.sz_lt (by omega), e4.fresh hR, us ++ [t2], by rw [upd_same, List.map_append]; rfl, ?_⟩
      rw [take_snoc hq0, mapN_snoc]
      exact pair_snoc (new.ext eR) (paired_mono (fun _ _ h => tmR.ext h eR) hpu3)
    · rintro G ⟨e, us, hus, hpu⟩
      rw [dA_len, List.length_map, List.take_length] at hpu
      refine fun x dx' hx hdx hne => mk_formS (.inl (SqL.of hus)) hpu (wd_map F.wd) (by rw [List.length_map]; exact hn) hx hdx hne fun d' H' hd' e' F' => ⟨rfl, ?_⟩
      have ee := e.trans e'
      have hD' := ee.keep _ _ hDL (by simp)
      obtain ⟨x0, xd⟩ := nU x (e.none hx (by simp))
      obtain ⟨d0, dd⟩ := nU d' (e.none hd' (by simp))
      exact ⟨hD', q x dx' d' _ x0 d0 (eU _ ee) (F'.ext (ms := [d]) (ext_at fun xs z => by rw [hD'] at z; cases z) (by simpa using xd) (by simpa using dd))⟩
end

end K3
namespace K3
open PySem PySem.Spec PyProof.Rows L2 He Tp ClX LiI

section
variable {P : Program} {w : World} {K : PySem.W.Frag} {mg : Str → Option Value} {base : Heap}
abbrev shN (k : Nat) (ns : List Nm) : List Nm := ns.map fun q => ((q.1.1, q.1.2 + k), q.2)
theorem shN_snoc {k : Nat} {ns : List Nm} {q : Nm} : shN k (ns ++ [q]) = shN k ns ++ [((q.1.1, q.1.2 + k), q.2)] := List.map_append
theorem wd_sh {k : Nat} {ns : List Nm} (w : ∀ q ∈ ns, wdO q.1.1) : ∀ q ∈ shN k ns, wdO q.1.1 := fun q hq => by
  obtain ⟨r, hr, rfl⟩ := List.mem_map.mp hq
  exact w r hr
abbrev spFmShl (K : PySem.W.Frag) (C : Addr) : Sp := spFmLe K C 0 (fun _ _ => True) fun i ns => shN i.toNat ns
theorem ok_fshl (T : Txt K mg) {fd : FuncData} (F : FnM K "Form" "__lshift__" "Form.__lshift__" s_Form___lshift__ [] fd) : FnOk P w K mg base (L2.CX P w) 8 (ma K (cF K) "__lshift__") fd ["self", "other"] (spFmShl K (cF K)) := by
  have D_check_least := ok_check_least (P := P) (w := w) (base := base) T
  obtain ⟨fi, fi_⟩ := T.fFormInit
  have Fi := ok_finit (P := P) (w := w) (base := base) T fi_
  obtain ⟨dsI, vsI, biI⟩ := b_finit fi_
  cases vsI
  have bi := biI
  obtain ⟨ft, ft_⟩ := T.fForm__iter__
  have Fit := ok_fiter (P := P) (w := w) (base := base) T ft_
  have bit : Binds K ft ["self"] [] := ft_.bindsN (fun _ _ _ _ _ _ us hl => match us, hl with | [_], _ => rfl)
  have oi : OwnIt K (cF K) (ma K (cF K) "__iter__") := ⟨T.mForm__iter__.at_, T.mForm__iter__.fn⟩
  refine F.ok sc_Form___lshift__ (fun vs H Q E h => ?_) (fun cdv A outer s H vs Q E hr h => ?_)
  · obtain ⟨a, dx, d, ns, v, rfl, _⟩ := h
    rfl
  · obtain ⟨a, dx, d, ns, v, rfl, F, hn, pv', kB, qq⟩ := h
    have nd := sc_Form___lshift__.nd
    have hri := hr
    have hr_check_least := hr.mono (show 3 ≤ 7 by decide)
    have hrit := hr.mono (show 1 ≤ 7 by decide)
    refine ⟨_, (pss_cons (ps_expr (pe_cd D_check_least hr_check_least (by rfl) (passes_call (takes_of rfl rfl rfl rfl) (fun _ _ _ _ z => z)) (pa_cons (pv 1) (pa_cons pe_int pa_nil))))
   (pss_one (ps_lock (ps_ret (pe_make T.mk_Form Fi hri (by rfl) T.gForm bi .nil (passes_call (takes_of rfl rfl rfl rfl) (fun _ _ _ _ z => z)) (pa_cons (pe_lc (own := [("number", 2), ("word", 3), ("dip", 4)]) (g := (gTup K 2 (gCons (gTup K 2 (gCons (gName 3) (gCons (gName 4) gNil))) (gCons (gName 2) gNil)))) (tt := tYes) (by rfl) nd (pi_ownI (.inr ⟨_, _, _, rfl⟩) (pv 0) oi Fit hrit bit pass0) (blkOk_by (own := [("number", 2), ("word", 3), ("dip", 4)]) (N := n_Form___lshift__) (sc := defScope s_Form___lshift__) (by decide +kernel)) (fun _ _ _ _ _ => (pg_tup (by rfl) (pgs_cons (pg_tup (by rfl) (pgs_cons (pg_name (i := 3) nd rfl (by first | exact Or.inl rfl | exact Or.inr rfl)) (pgs_cons (pg_name (i := 4) nd rfl (by first | exact Or.inl rfl | exact Or.inr rfl)) pgs_nil))) (pgs_cons (pg_name (i := 2) nd rfl (by first | exact Or.inl rfl | exact Or.inr rfl)) pgs_nil)))) (fun _ _ _ _ _ => pts_nil) (fun _ _ _ _ _ => (pe_tup (pa_cons (pe_tup (pa_cons (pv 3) (pa_cons (pe_op op_add (pv 4) (pv 1)) pa_nil))) (pa_cons (pv 2) pa_nil))))) pa_nil)))))), ?_⟩
    refine ⟨_, rfl, v, 0, rfl, pv', kB, fun i hv hi => ?_⟩
    subst hv
    obtain ⟨hco, q⟩ := qq i rfl hi
    refine ⟨d, _, F.nm, trivial, fun od => ?_⟩
    have hDL : (upd H d (.frz od (.dT (dN ns)))) d = some (.frz od (.dT (dN ns))) := upd_same
    have hobL : (upd H d (.frz od (.dT (dN ns)))) a = some (.ins (cF K) dx [("_numbers", .ref d)]) := by rw [upd_ne F.ne]; exact F.ob
    have eU : ∀ G, Ext [] (upd H d (.frz od (.dT (dN ns)))) G → Ext [] H (upd G d (.dT (dN ns))) := fun G e => ext_unlock F.nm e
    have nU : ∀ r, (upd H d (.frz od (.dT (dN ns)))) r = none → H r = none ∧ r ≠ d := fun r hr => by
      have hn : r ≠ d := fun h => by rw [h, upd_same] at hr; cases hr
      rw [upd_ne hn] at hr
      exact ⟨hr, hn⟩
    generalize upd H d (.frz od (.dT (dN ns))) = HL at hDL hobL eU nU ⊢
    refine ⟨_, rfl, a, dx, _, d, od, dN ns, rfl, hobL, hDL, (fun n => ⟨a, dx, d, od, dN ns, rfl, hobL, hDL, fun p it hp hne hi hn => ⟨p, it, rfl, hp, hne, hi, hn, rfl⟩⟩), fun R hR => lc_it walk_itemsT (fun j G => Ext [] HL G ∧ ∃ us : List Addr, G R = some (.lst (us.map V.ref)) ∧ Paired (tmR G) us (shN i.toNat (ns.take j))) ⟨Ext.new hR, [], upd_same, .nil⟩ ?_ ?_ ?_⟩
    · rintro j G _ ⟨e, _⟩
      exact e.keep _ _ hDL (by simp)
    · rintro j y G G2 hi ⟨e, us, hus, hpu⟩ ⟨t, k, v, q1, hk, hq1, rfl, ht, rfl⟩
      obtain ⟨x, v', hx, rfl⟩ := dA_at hk
      rw [List.getElem?_map] at hx
      obtain ⟨q0, hq0, e0⟩ := Option.map_eq_some_iff.mp hx
      injection e0 with e1' e2'
      subst e1'
      have hv : v = .int q0.2 := by
        have h1 : (dN ns)[j]? = some (amK q0.1, .int q0.2) := by
          show (List.map _ (List.map _ ns))[j]? = _
          rw [List.getElem?_map, List.getElem?_map, hq0]
          rfl
        rw [hk] at h1
        injection h1 with h1
        injection h1
      subst hv
      have et : Ext [] G (upd G t (.tup [.ref q1, .int q0.2])) := Ext.new ht
      have hqa : isAmt (upd G t (.tup [.ref q1, .int q0.2])) q1 q0.1 := et.tups _ _ hq1
      have hsame : (upd G t (.tup [.ref q1, .int q0.2])) t = some (.tup [.ref q1, .int q0.2]) := upd_same
      have e2 := e.trans et
      have hus2 := et.keep _ _ hus (by simp)
      have hpu2 := paired_mono (fun _ _ h => tmR.ext h et) hpu
      clear hus hpu et e
      generalize upd G t (.tup [.ref q1, .int q0.2]) = G2 at hqa hsame e2 hus2 hpu2 ⊢
      have hin := (List.getElem?_eq_some_iff.mp hq0).1
      have hul : us.length = _ := Paired.length hpu2
      rw [List.length_map, List.length_take] at hul
      refine ⟨t, _, rfl, .inl (.inl hsame), rfl, _, _, rfl, q1, _, rfl, .inl (.inl hqa), rfl, _, _, rfl, _, _, rfl, rfl, _, _, rfl, rfl, ?_⟩
      refine ⟨rfl, ?_⟩
      refine tyes ?_
      refine ⟨_, rfl, _, rfl, _, rfl, (q0.1.2 : Int), i, rfl, rfl, by show 2 ≤ sizeLine; decide, fun t1 ht1 => ?_⟩
      have e21 : Ext [] G2 (upd G2 t1 (.tup [.str q0.1.1, .int ((q0.1.2 : Int) + i)])) := Ext.new ht1
      have ha1 : isAmt (upd G2 t1 (.tup [.str q0.1.1, .int ((q0.1.2 : Int) + i)])) t1 (q0.1.1, q0.1.2 + i.toNat) := by
        show upd G2 t1 _ t1 = _
        rw [upd_same]
        show some (HO.tup [.str q0.1.1, .int ((q0.1.2 : Int) + i)]) = some (HO.tup [.str q0.1.1, .int ((q0.1.2 + i.toNat : Nat) : Int)])
        rw [show ((q0.1.2 + i.toNat : Nat) : Int) = (q0.1.2 : Int) + i by omega]
      have hus22 := e21.keep _ _ hus2 (by simp)
      have hpu22 := paired_mono (fun _ _ h => tmR.ext h e21) hpu2
      have e22 := e2.trans e21
      clear hus2 hpu2 e2 e21 ht1
      generalize upd G2 t1 (.tup [.str q0.1.1, .int ((q0.1.2 : Int) + i)]) = G22 at ha1 hus22 hpu22 e22 ⊢
      refine ⟨_, rfl, by show 2 ≤ sizeLine; decide, fun t2 ht2 => ?_⟩
      have e3 : Ext [] G22 (upd G22 t2 (.tup [.ref t1, .int q0.2])) := Ext.new ht2
      have new : tmR (upd G22 t2 (.tup [.ref t1, .int q0.2])) t2 ((q0.1.1, q0.1.2 + i.toNat), q0.2) := ⟨t1, upd_same, e3.tups _ _ ha1⟩
      have hus3 := e3.keep _ _ hus22 (by simp)
      have hpu3 := paired_mono (fun _ _ h => tmR.ext h e3) hpu22
      have e4 := e22.trans e3
      generalize upd G22 t2 (.tup [.ref t1, .int q0.2]) = G3 at new hus3 hpu3 e4 ⊢
      have eR : Ext [R] G3 (upd G3 R (.lst (us.map V.ref ++ [.ref t2]))) := ext_at fun xs z => by rw [hus3] at z; cases z
      refine ⟨us.map V.ref, hus3, by rw [List.length_map]; exact Evl.sz_lt (by omega), e4.fresh hR, us ++ [t2], by rw [upd_same, List.map_append]; rfl, ?_⟩
      rw [take_snoc hq0, shN_snoc]
      exact pair_snoc (new.ext eR) (paired_mono (fun _ _ h => tmR.ext h eR) hpu3)
    · rintro G ⟨e, us, hus, hpu⟩
      rw [dA_len, List.length_map, List.take_length] at hpu
      refine fun x dx' hx hdx hne => mk_formS (.inl (SqL.of hus)) hpu (wd_sh F.wd) (by rw [List.length_map]; exact hn) hx hdx hne fun d' H' hd' e' F' => ⟨rfl, ?_⟩
      have ee := e.trans e'
      have hD' := ee.keep _ _ hDL (by simp)
      obtain ⟨x0, xd⟩ := nU x (e.none hx (by simp))
      obtain ⟨d0, dd⟩ := nU d' (e.none hd' (by simp))
      exact ⟨hD', q x dx' d' _ x0 d0 (eU _ ee) (F'.ext (ms := [d]) (ext_at fun xs z => by rw [hD'] at z; cases z) (by simpa using xd) (by simpa using dd))⟩
def spFmAdd (C : Addr) : Sp := fun vs H Q _ => ∃ a dx d ns b dy e ms, vs = [.ref a, .ref b] ∧ FmAt C H a dx d ns ∧ FmAt C H b dy e ms ∧ ns.length ≤ 400 ∧ ms.length ≤ 400 ∧
  ∀ r dx' d' H', H r = none → Ext [] H H' → FmAt C H' r dx' d' (tidyD (sumN (ns ++ ms))) → Q (.ref r) H'
theorem ok_fadd (T : Txt K mg) {fd : FuncData} (F : FnM K "Form" "__add__" "Form.__add__" s_Form___add__ [] fd) : FnOk P w K mg base CX0 8 (ma K (cF K) "__add__") fd ["self", "other"] (spFmAdd (cF K)) := by
  obtain ⟨fi, fi_⟩ := T.fFormInit
  have Fi := ok_finit (P := P) (w := w) (base := base) T fi_
  obtain ⟨dsI, vsI, biI⟩ := b_finit fi_
  cases vsI
  have bi := biI
  obtain ⟨ft, ft_⟩ := T.fForm__iter__
  have Fit := ok_fiter (P := P) (w := w) (base := base) T ft_
  have bit : Binds K ft ["self"] [] := ft_.bindsN (fun _ _ _ _ _ _ us hl => match us, hl with | [_], _ => rfl)
  have oi : OwnIt K (cF K) (ma K (cF K) "__iter__") := ⟨T.mForm__iter__.at_, T.mForm__iter__.fn⟩
  obtain ⟨fl, fl_⟩ := T.fForm__len__
  have Fl := ok_flenR (P := P) (w := w) (base := base) T fl_
  have bl : Binds K fl ["self"] [] := fl_.bindsN (fun _ _ _ _ _ _ us hl => match us, hl with | [_], _ => rfl)
  have ol : OwnLn K (cF K) (ma K (cF K) "__len__") := ⟨T.mForm__len__.at_, T.mForm__len__.fn⟩
  have ic := insB_ok T.clForm T.iForm
  refine F.ok sc_Form___add__ (fun vs H Q E h => ?_) (fun cdv A outer s H vs Q E hr h => ?_)
  · obtain ⟨a, dx, d, ns, b, dy, e, ms, rfl, _⟩ := h
    rfl
  · obtain ⟨a, dx, d, ns, b, dy, e, ms, rfl, F1, F2, hn, hm, q⟩ := h
    have nd := sc_Form___add__.nd
    have hri := hr
    have hrit := hr.mono (show 2 ≤ 7 by decide)
    have hrl := hr.mono (show 3 ≤ 7 by decide)
    refine ⟨_, PSs.nox (pss_cons (ps_if (pt_not (pt_val (pe_callB (call_isi) (by rfl) T.bisinstance (by decide +kernel) (pa_cons (pv 1) (pa_cons (pe_glob (v := .ref (ga K "Form")) (by rfl) T.gForm rfl) pa_nil))))) (pss_one Tp.ps_never) pss_nil)
   (pss_one (ps_ret (pe_make T.mk_Form Fi hri (by rfl) T.gForm bi .nil passL (pa_cons (pe_lst (pa_starO (pv 0) (pa_starO (pv 1) pa_nil rfl oi Fit hrit bit ol Fl hrl bl pass0) rfl oi Fit hrit bit ol Fl hrl bl pass0)) pa_nil))))), ?_⟩
    refine ⟨_, rfl, _, _, _, _, true, rfl, .own _, .base (TyOf.ins F2.ob ic.cl ic.ha ic.hn ic.htk ic.hm), ic.me, _, rfl, iteF ?_⟩
    unfold tNext
    dsimp only
    have sp : ∀ {G0 : Hp} {x dz f : Addr} {ks : List Nm}, FmAt (cF K) G0 x dz f ks → ∀ o G, Ext [] (upd G0 f (.frz o (.dT (dN ks)))) G → (∀ n, spFmIter (cF K) n [.ref x] G (itmNew n f o G) E0) ∧ spFmLenR (cF K) [.ref x] G (fun v H' => v = .int ((dN ks).length : Int) ∧ H' = G) E0 := by
      intro G0 x dz f ks Fx o G eG
      have h1 : G x = some (.ins (cF K) dz [("_numbers", .ref f)]) := eG.keep _ _ (by rw [upd_ne Fx.ne]; exact Fx.ob) (by simp)
      have h2 : G f = some (.frz o (.dT (dN ks))) := eG.keep _ _ upd_same (by simp)
      exact ⟨fun n => ⟨x, dz, f, o, dN ks, rfl, h1, h2, fun p it hp hne hi hn => ⟨p, it, rfl, hp, hne, hi, hn, rfl⟩⟩, ⟨x, dz, f, dN ks, rfl, h1, .inr ⟨o, h2⟩, rfl, rfl⟩⟩
    have len : ∀ {ks : List Nm}, (dN ks).length = ks.length := by intro ks; rw [dA_len, List.length_map]
    refine ⟨_, rfl, a, dx, _, d, dN ns, rfl, F1.ob, F1.nm, by rw [len]; omega, sp F1, fun ys H2 e2 hp2 => ?_⟩
    have F22 := F2.ext e2 (by simp) (by simp)
    refine ⟨_, rfl, b, dy, _, e, dN ms, rfl, F22.ob, F22.nm, by rw [len]; omega, sp F22, fun zs H3 e3 hp3 => ?_⟩
    obtain ⟨us1, rfl, hu1⟩ := pi_tm hp2
    obtain ⟨us2, rfl, hu2⟩ := pi_tm hp3
    have hl1 : us1.length = ns.length := Paired.length hu1
    have hl2 : us2.length = ms.length := Paired.length hu2
    have F13 := (F1.ext e2 (by simp) (by simp)).ext e3 (by simp) (by simp)
    have hpu3 : Paired (tmR H3) (us1 ++ us2) (ns ++ ms) := pair_app hu2 (paired_mono (fun _ _ h => tmR.ext h e3) hu1)
    have el : us1.map V.ref ++ (us2.map V.ref ++ []) = (us1 ++ us2).map V.ref := by rw [List.append_nil, List.map_append]
    have e03 := e2.trans e3
    clear hp2 hp3 hu1 hu2 e2 e3 F22
    have hz : ((us1 ++ us2).map V.ref).length ≤ 1000 := by rw [List.length_map, List.length_append]; omega
    refine ⟨by rw [el]; exact Nat.le_trans hz (by decide), fun p hp => ?_⟩
    rw [el]
    have e4 : Ext [] H3 (upd H3 p (.lst ((us1 ++ us2).map V.ref))) := Ext.new hp
    have hv4 : (upd H3 p (.lst ((us1 ++ us2).map V.ref))) p = some (.lst ((us1 ++ us2).map V.ref)) := upd_same
    have F14 := F13.ext e4 (by simp) (by simp)
    have e04 := e03.trans e4
    have wd : ∀ q ∈ ns ++ ms, wdO q.1.1 := fun q hq => (List.mem_append.mp hq).elim (F1.wd q) (F2.wd q)
    have hpu4 := paired_mono (fun _ _ h => tmR.ext h e4) hpu3
    clear e4 e03 F13 hp hpu3
    generalize upd H3 p (.lst ((us1 ++ us2).map V.ref)) = H4 at hv4 F14 e04 hpu4 ⊢
    exact fun x dx' hx hdx hne => mk_formS (.inl (SqL.of hv4)) hpu4 wd (by rw [List.length_append]; omega) hx hdx hne fun d' H5 hd' e5 F5 => ⟨rfl, q x dx' d' H5 (e04.none hx (by simp)) (e04.trans e5) F5⟩
end

end K3
namespace K3
open PySem PySem.Spec PyProof.Rows L2 He Tp ClX LiI

section
variable {P : Program} {w : World} {K : PySem.W.Frag} {mg : Str → Option Value} {base : Heap}
/-- _law_refused(form, number, way), a bad number for this way -/
def spLRefP (K : PySem.W.Frag) : Sp := fun vs H Q _ => ∃ (a dx d : Addr) (ns : List Nm) (v : V) (dv : PyData) (way : Nat), vs = [.ref a, v, .int (way : Int)] ∧ FmAt (cF K) H a dx d ns ∧ ns.length ≤ 1000 ∧ Av H v dv ∧ way ≤ 2 ∧ ((way ≤ 1 ∧ ¬ leastOk 1 v) ∨ (way = 2 ∧ ¬ leastOk 0 v)) ∧ ∀ H', Ext [] H H' → Q (.bl true) H'
theorem ok_lrefp (T : Txt K mg) : Df P w K mg base CX0 9 "_law_refused" ["_law_form", "_law_number", "_law_way"] (spLRefP K) := by
  obtain ⟨fq, fq_⟩ := T.fForm__floordiv__
  have Fq := ok_fquo (P := P) (w := w) (base := base) T fq_
  have bq : Binds K fq ["self", "other"] [] := fq_.bindsN (fun _ _ _ _ _ _ us hl => match us, hl with | [_, _], _ => rfl)
  have oq : OwnFn K (cF K) (ma K (cF K) "__floordiv__") "__floordiv__" := ⟨T.mForm__floordiv__.at_, T.mForm__floordiv__.fn⟩
  obtain ⟨fm, fm_⟩ := T.fForm__mod__
  have Fm := ok_frem (P := P) (w := w) (base := base) T fm_
  have bm : Binds K fm ["self", "other"] [] := fm_.bindsN (fun _ _ _ _ _ _ us hl => match us, hl with | [_, _], _ => rfl)
  have om : OwnFn K (cF K) (ma K (cF K) "__mod__") "__mod__" := ⟨T.mForm__mod__.at_, T.mForm__mod__.fn⟩
  obtain ⟨fs, fs_⟩ := T.fForm__lshift__
  have Fs := ok_fshl (P := P) (w := w) (base := base) T fs_
  have bs : Binds K fs ["self", "other"] [] := fs_.bindsN (fun _ _ _ _ _ _ us hl => match us, hl with | [_, _], _ => rfl)
  have os : OwnFn K (cF K) (ma K (cF K) "__lshift__") "__lshift__" := ⟨T.mForm__lshift__.at_, T.mForm__lshift__.fn⟩
  have hsf := (opsB_ok T.oForm).1
  have pq := partsB_ok T.pForm (nm := "floordiv") (by simp)
  have pm := partsB_ok T.pForm (nm := "mod") (by simp)
  have ps := partsB_ok T.pForm (nm := "lshift") (by simp)
  refine Df.mk' T.g_law_refused T.f_law_refused (fun _ _ _ _ _ _ us hl => match us, hl with | [_, _, _], _ => rfl) fun fd F => F.ok sc__law_refused (fun vs H Q E h => ?_) (fun cdv A outer s H vs Q E hr h => ?_)
  · obtain ⟨a, dx, d, ns, v, dv, way, rfl, _⟩ := h
    rfl
  · obtain ⟨a, dx, d, ns, v, dv, way, rfl, F, hn, av, hw, hbad, q⟩ := h
    have nd := sc__law_refused.nd
    have hrb := hr
    have hu0 := hr.units
    have ex : ∀ c y : Str, c ∈ raised → y ∈ exAll → ∀ b, (c == y || y == "DyeError") = b → PySem.W.exmOne K (.ref (ga K c)) (.ref (ga K y)) = some b := fun c y hc hy b hb => by rw [T.exm c hc y hy, hb]
    refine ⟨_, PSs.nox (pss_cons (ps_try_cls (Wout := fun _ _ _ _ => False) rfl rfl takes0 (fun W pn xe tk own => (pss_one (ps_if (pt_cmpR op_eq (pv 2) pe_int (nomark _)) (pss_one (ps_set (i := 0) nd rfl (by first | exact Or.inl rfl | exact Or.inr rfl) (show PE _ _ (tBinO K (cF K) (spFmQuo K (cF K)) _ (tVar 0) (tVar 1)) from pe_binO (nm := "floordiv") (pv 0) (pv 1) oq.at_ oq.fn hsf rfl pq Fq hrb bq (fun σ => passAt tk σ)))) (pss_one (ps_if (pt_cmpR op_eq (pv 2) pe_int (nomark _)) (pss_one (ps_set (i := 0) nd rfl (by first | exact Or.inl rfl | exact Or.inr rfl) (show PE _ _ (tBinO K (cF K) (spFmRem K (cF K)) _ (tVar 0) (tVar 1)) from pe_binO (nm := "mod") (pv 0) (pv 1) om.at_ om.fn hsf rfl pm Fm hrb bm (fun σ => passAt tk σ)))) (pss_one (ps_set (i := 0) nd rfl (by first | exact Or.inl rfl | exact Or.inr rfl) (show PE _ _ (tBinO K (cF K) (spFmShl K (cF K)) _ (tVar 0) (tVar 1)) from pe_binO (nm := "lshift") (pv 0) (pv 1) os.at_ os.fn hsf rfl ps Fs hrb bs (fun σ => passAt tk σ)))))))))
   (ClsOk.as (i := 3) nd rfl rfl ⟨by rfl, by decide, .inl T.gBadNumber⟩ (fun a oe cls d pn hz hf => (pss_one (ps_ret (pe_and (pe_cmpR (show OpR _ _ (rEqD K) from op_eqD hu0) (pe_xf T.xBadNumber.xf T.xBadNumber.noT hz hf (pv 3)) (pv 1) (nomark _)) (pe_and (pe_callB (call_isXe hz hf) (by rfl) T.bisinstance (by decide +kernel) (pa_cons (pv 3) (pa_cons (pe_glob (v := .ref (ga K "DyeError")) (by rfl) T.gDyeError rfl) pa_nil))) (pe_one (pe_not (pe_callB (call_isXe hz hf) (by rfl) T.bisinstance (by decide +kernel) (pa_cons (pv 3) (pa_cons (pe_glob (v := .ref (ga K "BadAmount")) (by rfl) T.gBadAmount rfl) pa_nil))))))))))
   (ClsOk.cons ⟨by rfl, by decide, .inl T.gDyeError⟩ (fun a oe cls d pn hz hf => (pss_one (ps_ret pe_bl)))
   .nil)))
   (pss_one (ps_ret pe_bl))), ?_⟩
    have pv' : Ptv K H v := av.ptv
    have sh := av.2.1.shaped
    refine ⟨_, rfl, rfl, _, rfl, ?_⟩
    refine ifd (fun h0 => ?_) (fun h0 => ?_)
    · have hw0 : way = 0 := by
        injection h0 with h0
        omega
      have hb : ¬ leastOk 1 v := by
        rcases hbad with ⟨_, h⟩ | ⟨h, _⟩
        · exact h
        · omega
      refine ⟨_, rfl, _, rfl, a, dx, _, rfl, pv', F.ob, a, dx, d, ns, v, rfl, F, hn, pv', fun _ => ?_, fun i hv hi => (hb ⟨i, hv, hi⟩).elim⟩
      intro dd H' hdd e hx'
      refine ⟨true, ex "BadNumber" "BadNumber" (by decide +kernel) (by decide +kernel) _ (by decide +kernel), fun _ a ha => ?_, fun z => nomatch z⟩
      refine ⟨_, rfl, rfl, rfl, dd, _, v, rfl, hx', rfl, _, rfl, dv, dv, (av.ext e).1.dp, (av.ext e).1.dp, sh, sh, ?_⟩
      rw [eqv_self sh]
      refine ⟨_, rfl, iteT ?_⟩
      refine ⟨_, rfl, _, _, true, _, dd, _, rfl, rfl, rfl, T.xBadNumber.ex, hx', .own _, (T.kit "BadNumber" (by decide +kernel) "DyeError" (by decide +kernel)).trans (by decide +kernel), ?_⟩
      refine ⟨_, rfl, iteT ?_⟩
      exact ⟨_, rfl, _, _, false, _, dd, _, rfl, rfl, rfl, T.xBadNumber.ex, hx', .own _, (T.kit "BadNumber" (by decide +kernel) "BadAmount" (by decide +kernel)).trans (by decide +kernel), ⟨_, rfl, q H' e⟩⟩
    · refine ⟨_, rfl, rfl, _, rfl, ?_⟩
      refine ifd (fun h1 => ?_) (fun h1 => ?_)
      · have hw1 : way = 1 := by
          injection h1 with h1
          omega
        have hb : ¬ leastOk 1 v := by
          rcases hbad with ⟨_, h⟩ | ⟨h, _⟩
          · exact h
          · omega
        refine ⟨_, rfl, _, rfl, a, dx, _, rfl, pv', F.ob, a, dx, d, ns, v, rfl, F, hn, pv', fun _ => ?_, fun i hv hi => (hb ⟨i, hv, hi⟩).elim⟩
        intro dd H' hdd e hx'
        refine ⟨true, ex "BadNumber" "BadNumber" (by decide +kernel) (by decide +kernel) _ (by decide +kernel), fun _ a ha => ?_, fun z => nomatch z⟩
        refine ⟨_, rfl, rfl, rfl, dd, _, v, rfl, hx', rfl, _, rfl, dv, dv, (av.ext e).1.dp, (av.ext e).1.dp, sh, sh, ?_⟩
        rw [eqv_self sh]
        refine ⟨_, rfl, iteT ?_⟩
        refine ⟨_, rfl, _, _, true, _, dd, _, rfl, rfl, rfl, T.xBadNumber.ex, hx', .own _, (T.kit "BadNumber" (by decide +kernel) "DyeError" (by decide +kernel)).trans (by decide +kernel), ?_⟩
        refine ⟨_, rfl, iteT ?_⟩
        exact ⟨_, rfl, _, _, false, _, dd, _, rfl, rfl, rfl, T.xBadNumber.ex, hx', .own _, (T.kit "BadNumber" (by decide +kernel) "BadAmount" (by decide +kernel)).trans (by decide +kernel), ⟨_, rfl, q H' e⟩⟩
      · have hw2 : way = 2 := by
          have a0 : way ≠ 0 := fun z => h0 (by rw [z]; rfl)
          have a1 : way ≠ 1 := fun z => h1 (by rw [z]; rfl)
          omega
        have hb : ¬ leastOk 0 v := by
          rcases hbad with ⟨h, _⟩ | ⟨_, h⟩
          · omega
          · exact h
        refine ⟨_, rfl, _, rfl, a, dx, _, rfl, pv', F.ob, a, dx, d, ns, v, rfl, F, hn, pv', fun _ => ?_, fun i hv hi => (hb ⟨i, hv, hi⟩).elim⟩
        intro dd H' hdd e hx'
        refine ⟨true, ex "BadNumber" "BadNumber" (by decide +kernel) (by decide +kernel) _ (by decide +kernel), fun _ a ha => ?_, fun z => nomatch z⟩
        refine ⟨_, rfl, rfl, rfl, dd, _, v, rfl, hx', rfl, _, rfl, dv, dv, (av.ext e).1.dp, (av.ext e).1.dp, sh, sh, ?_⟩
        rw [eqv_self sh]
        refine ⟨_, rfl, iteT ?_⟩
        refine ⟨_, rfl, _, _, true, _, dd, _, rfl, rfl, rfl, T.xBadNumber.ex, hx', .own _, (T.kit "BadNumber" (by decide +kernel) "DyeError" (by decide +kernel)).trans (by decide +kernel), ?_⟩
        refine ⟨_, rfl, iteT ?_⟩
        exact ⟨_, rfl, _, _, false, _, dd, _, rfl, rfl, rfl, T.xBadNumber.ex, hx', .own _, (T.kit "BadNumber" (by decide +kernel) "BadAmount" (by decide +kernel)).trans (by decide +kernel), ⟨_, rfl, q H' e⟩⟩
end

end K3
namespace K3
open PySem PySem.Spec PyProof.Rows L2 He Tp ClX LiI

section
variable {P : Program} {w : World} {K : PySem.W.Frag} {mg : Str → Option Value} {base : Heap}
/-- a draw out of any number -/
def spDrawX0 : Sp := fun vs H Q _ => ∃ (S L : Addr) (cells : List Int) (i k g many : Int), vs = [.ref S, .int many] ∧ H S = some (srcO L i k g) ∧ H L = some (.lst (cells.map V.int)) ∧ SrcOk cells i k g ∧ 0 < many ∧
  ∀ n i' k' g', 0 ≤ n → n < many → SrcOk cells i' k' g' → Q (.int n) (upd H S (srcO L i' k' g'))
def spDrawX : Sp := fun vs H Q _ => ∃ (S L : Addr) (many : Int), vs = [.ref S, .int many] ∧ SrcAt H S L ∧ 0 < many ∧ ∀ n H', 0 ≤ n → n < many → Ext [S] H H' → SrcAt H' S L → Q (.int n) H'
theorem drawX_imp : ∀ vs H Q E, spDrawX vs H Q E → spDrawX0 vs H Q E := by
  rintro vs H Q E ⟨S, L, many, rfl, ⟨cells, i, k, g, hS, hL, ok⟩, h1, q⟩
  refine ⟨S, L, cells, i, k, g, many, rfl, hS, hL, ok, h1, fun n i' k' g' n0 n1 ok' => q n _ n0 n1 (Ext.refl.mut (by simp) fun xs z => by rw [hS] at z; cases z) ⟨cells, i', k', g', upd_same, ?_, ok'⟩⟩
  rw [upd_ne (src_ne hS hL)]
  exact hL
theorem ok_drawX0 (T : Txt K mg) (hN : Seer2 base mg) (ht : P.given.tree = none) : Df P w K mg base CX0 36 "_law_draw" ["_law_source_here", "_law_many"] spDrawX0 := by
  refine Df.mk' T.g_law_draw T.f_law_draw (fun _ _ _ _ _ _ us hl => match us, hl with | [_, _], _ => rfl) fun fd F => F.ok sc__law_draw (fun vs H Q E h => ?_) (fun cdv A outer s H vs Q E hr h => ?_)
  · obtain ⟨S, L, cells, i, k, g, many, rfl, _⟩ := h
    rfl
  · obtain ⟨S, L, cells, i, k, g, many, rfl, hS, hL, ok, hm, kont⟩ := h
    have nd := sc__law_draw.nd
    have hdp : (A.deeper (envOfC "_law_draw" (defScope s__law_draw) s.heap.objs.size (ga K "_law_draw") cdv)).depth + Builtin.pylongFrames < recursionLimit := by
      have := hr.dp
      show _ + 100 < _
      omega
    have SL : S ≠ L := by
      intro e; rw [e, hL] at hS
      have z := Option.some.inj hS
      injection z with z
      cases cells <;> simp at z
    refine ⟨_, PSs.nox
   (pss_cons (ps_if (pt_cmpR op_ge (pe_ix ix_list (pv 0) pe_int (fun _ _ => rfl)) (pe_callB call_len_seq (by rfl) T.blen PySem.boot_len (pa_cons (pe_ix ix_list (pv 0) pe_int (fun _ _ => rfl)) pa_nil)) (nomark _)) (pss_one (ps_ret pe_int)) pss_nil)
   (pss_cons (ps_set (i := 2) nd rfl (by first | exact Or.inl rfl | exact Or.inr rfl) (pe_ix ix_list (pe_ix ix_list (pv 0) pe_int (fun _ _ => rfl)) (pe_ix ix_list (pv 0) pe_int (fun _ _ => rfl)) (fun _ _ => rfl)))
   (pss_cons (ps_set (i := 3) nd rfl (by first | exact Or.inl rfl | exact Or.inr rfl) (pe_or (pe_cmpR op_ge (pv 2) (pe_op op_pow pe_int pe_int) (nomark _)) (pe_one (pe_cmpR op_le (pv 2) (pe_op op_sub pe_int (pe_op op_pow pe_int pe_int)) (nomark _)))))
   (Evl.pss_cut (ps_if (PW.pt (pw_and (pt_val (pv 3)) (pw_and1 (pt_cmpR op_eq (pe_ix ix_list (pv 0) pe_int (fun _ _ => rfl)) pe_int (nomark _))))) (pss_one (ps_asg (pe_callB (call_abs) (by rfl) T.babs (by decide +kernel) (pa_cons (pv 2) pa_nil)) (pg_sub (pv 0) pe_int set_list))) pss_nil)
   (Evl.pss_cut (ps_if (pt_val (pv 3)) (pss_cons (ps_set (i := 4) nd rfl (by first | exact Or.inl rfl | exact Or.inr rfl) (pe_op op_mod (pe_callTy call_int1 (by rfl) T.bint (by decide +kernel) (pa_cons (pe_ix ix_list (pv 0) pe_int (fun _ _ => rfl)) pa_nil)) (pv 1)))
   (pss_one (ps_asg (pe_op (op_fdivP hN ht rfl rfl rfl hdp) (pe_ix ix_list (pv 0) pe_int (fun _ _ => rfl)) (pv 1)) (pg_sub (pv 0) pe_int set_list)))) (pss_cons (ps_set (i := 5) nd rfl (by first | exact Or.inl rfl | exact Or.inr rfl) (pe_op op_add (pe_op op_add (pe_op op_mul (pe_ix ix_list (pv 0) pe_int (fun _ _ => rfl)) pe_int) (pe_op op_mul (pe_ix ix_list (pv 0) pe_int (fun _ _ => rfl)) pe_int)) pe_int))
   (pss_cons (ps_set (i := 6) nd rfl (by first | exact Or.inl rfl | exact Or.inr rfl) (pe_op op_mod (pe_callTy call_int1 (by rfl) T.bint (by decide +kernel) (pa_cons (pe_op op_add (pe_op op_mul (pv 2) pe_int) (pv 5)) pa_nil)) pe_int))
   (pss_cons (ps_set (i := 6) nd rfl (by first | exact Or.inl rfl | exact Or.inr rfl) (pe_op op_mod (pe_callTy call_int1 (by rfl) T.bint (by decide +kernel) (pa_cons (pe_op op_add (pe_op op_add (pe_op op_mul (pv 6) (pv 6)) (pe_op op_mul (pv 2) pe_int)) (pe_ix ix_list (pv 0) pe_int (fun _ _ => rfl))) pa_nil)) pe_int))
   (pss_one (ps_set (i := 4) nd rfl (by first | exact Or.inl rfl | exact Or.inr rfl) (pe_op op_mod (pe_callTy call_int1 (by rfl) T.bint (by decide +kernel) (pa_cons (pv 6) pa_nil)) (pv 1))))))))
   (pss_cons (ps_asg (pe_op op_add (pe_ix ix_list (pv 0) pe_int (fun _ _ => rfl)) pe_int) (pg_sub (pv 0) pe_int set_list))
   (pss_cons (ps_if (PW.pt (pw_or (pt_cmpR op_ge (pe_ix ix_list (pv 0) pe_int (fun _ _ => rfl)) pe_int (nomark _)) (pw_or (PW.pt (pw_and (pt_not (pt_val (pv 3))) (pw_and1 (pt_cmpR op_ge (pe_ix ix_list (pv 0) pe_int (fun _ _ => rfl)) pe_int (nomark _))))) (pw_or1 (PW.pt (pw_and (pt_val (pv 3)) (pw_and1 (pt_cmpR op_eq (pe_ix ix_list (pv 0) pe_int (fun _ _ => rfl)) pe_int (nomark _))))))))) (pss_cons (ps_asg (pe_op op_add (pe_ix ix_list (pv 0) pe_int (fun _ _ => rfl)) pe_int) (pg_sub (pv 0) pe_int set_list))
   (pss_one (ps_asg pe_int (pg_sub (pv 0) pe_int set_list)))) pss_nil)
   (pss_one (ps_ret (pv 4)))))))))), ?_⟩
    have p18 : CPow 10 18 := ⟨by decide, by decide, by decide⟩
    have si : ∀ {σ : L2.St} {k' g' : Int} {j : Int} {v : V}, σ[0]? = some (some (.ref S)) → atI [V.ref L, .int i, .int k', .int g'] j = some v → Val (tOp (rIxL K) (tVar 0) (tC (.int j))) σ (upd H S (srcO L i k' g')) v := fun e a => val_ixL (val_var e) val_c (SqL.of upd_same) a
    have s0 : ∀ {σ : L2.St} {j : Int} {v : V}, σ[0]? = some (some (.ref S)) → atI [V.ref L, .int i, .int k, .int g] j = some v → Val (tOp (rIxL K) (tVar 0) (tC (.int j))) σ H v := fun e a => val_ixL (val_var e) val_c (SqL.of hS) a
    refine sq_when (ans_int (s0 rfl rfl) (val_len (s0 rfl rfl) (SqL.of hL))) (fun _ => ?_) (fun hi => ?_)
    · have := kont 0 i k g (Int.le_refl 0) hm ok
      rw [upd_self hS] at this
      exact this
    rw [List.length_map] at hi
    have hi' : i < (cells.length : Int) := by have := of_decide_eq_false hi; omega
    obtain ⟨c, hc⟩ := cell_at ok.i0 hi'
    refine sq_set (val_ixL (s0 rfl rfl) (s0 rfl rfl) (SqL.of hL) hc) ?_
    -- great
    refine sq_set (val_orV (val_int (val_var rfl) (val_intC val_c val_c p18)) (val_int (val_var rfl) (val_int val_c (val_intC val_c val_c p18)))) ?_
    rw [pow18]
    generalize eb : (decide ((1000000000000000000 : Int) ≤ c) || decide (c ≤ 0 - (1000000000000000000 : Int))) = b
    -- the first number of a great cell
    refine Evl.q_cut (M := fun σ' H' => σ' = [some (.ref S), some (.int many), some (.int c), some (.bl b), none, none, none] ∧ ∃ g', 0 ≤ g' ∧ H' = upd H S (srcO L i k g')) ?_ ?_
    · refine st_if (ans_and2 (ans_val (val_var rfl)) (ans_eq (s0 rfl rfl) val_c rfl rfl)) (fun _ => ?_) (fun _ => ?_)
      · exact st_setL hS (val_abs (val_var rfl)) (val_var rfl) val_c rfl ⟨rfl, _, by split <;> omega, rfl⟩
      · exact ⟨rfl, g, ok.g0, (upd_self hS).symm⟩
    rintro σ1 H1 ⟨rfl, g1, hg1, rfl⟩
    -- the number
    refine Evl.q_cut (M := fun σ' H' => ∃ n x5 x6 g', σ' = [some (.ref S), some (.int many), some (.int c), some (.bl b), some (.int n), x5, x6] ∧ 0 ≤ n ∧ n < many ∧ 0 ≤ g' ∧ H' = upd H S (srcO L i k g')) ?_ ?_
    · refine st_if (ans_val (val_var rfl)) (fun _ => ?_) (fun h => ?_)
      · refine sq_set (val_intC (val_toInt (si rfl rfl)) (val_var rfl) hm) ?_
        refine st_setL upd_same (val_intC (si rfl rfl) (val_var rfl) hm) (val_var rfl) val_c rfl ?_
        rw [upd_upd]
        exact ⟨_, _, _, _, rfl, Int.emod_nonneg _ (by omega), Int.emod_lt_of_pos _ hm, Int.ediv_nonneg hg1 (by omega), rfl⟩
      · have hc1 : -(2 ^ 64) < c ∧ c < 2 ^ 64 := by
          rw [h] at eb
          have e := Bool.or_eq_false_iff.mp eb
          have e1 := of_decide_eq_false e.1
          have e2 := of_decide_eq_false e.2
          omega
        have m1 : ∀ x : Int, -(2 ^ 64) < x % 2147483647 ∧ x % 2147483647 < 2 ^ 64 := fun x => by
          have a1 := Int.emod_nonneg x (show (2147483647 : Int) ≠ 0 by decide)
          have a2 := Int.emod_lt_of_pos x (show (0 : Int) < 2147483647 by decide)
          omega
        refine sq_set (val_int (val_int (val_intC (si rfl rfl) val_c (.inr (by decide))) (val_intC (si rfl rfl) val_c (.inr (by decide)))) val_c) ?_
        refine sq_set (val_intC (val_toInt (val_int (val_intC (val_var rfl) val_c (.inl hc1)) (val_var rfl))) val_c (by decide)) ?_
        refine sq_set (val_intC (val_toInt (val_int (val_int (val_intC (val_var rfl) (val_var rfl) (.inl (m1 _))) (val_intC (val_var rfl) val_c (.inl hc1))) (si rfl rfl))) val_c (by decide)) ?_
        refine st_set (val_intC (val_toInt (val_var rfl)) (val_var rfl) hm) ?_
        exact ⟨_, _, _, g1, rfl, Int.emod_nonneg _ (by omega), Int.emod_lt_of_pos _ hm, hg1, rfl⟩
    rintro σ2 H2 ⟨n, x5, x6, g2, rfl, n0, n1, hg2, rfl⟩
    -- one more draw out of this cell
    refine sq_setL upd_same (val_int (si rfl rfl) val_c) (val_var rfl) val_c rfl ?_
    rw [upd_upd]
    refine sq_when (ans_or2 (ans_int (si rfl rfl) val_c) (ans_or2 (ans_and2 (ans_not (ans_val (val_var rfl))) (ans_int (si rfl rfl) val_c)) (ans_and2 (ans_val (val_var rfl)) (ans_eq (si rfl rfl) val_c rfl rfl)))) (fun _ => ?_) (fun _ => ?_)
    · refine sq_setL upd_same (val_int (si rfl rfl) val_c) (val_var rfl) val_c rfl ?_
      refine st_setL upd_same val_c (val_var rfl) val_c rfl ?_
      rw [upd_upd, upd_upd]
      exact st_ret (val_var rfl) (kont n (i + 1) 0 g2 n0 n1 ⟨by have := ok.i0; omega, Int.le_refl 0, hg2, ok.len⟩)
    · exact st_ret (val_var rfl) (kont n i (k + 1) g2 n0 n1 ⟨ok.i0, by have := ok.k0; omega, hg2, ok.len⟩)

theorem ok_drawX (T : Txt K mg) (hN : Seer2 base mg) (ht : P.given.tree = none) : Df P w K mg base CX0 36 "_law_draw" ["_law_source_here", "_law_many"] spDrawX := by
  obtain ⟨a, b, fd, F, bb⟩ := ok_drawX0 (P := P) (w := w) (base := base) T hN ht
  exact ⟨a, b, fd, F.imp drawX_imp, bb⟩
end

end K3
namespace K3
open PySem PySem.Spec PyProof.Rows L2 He Tp ClX LiI

section
variable {P : Program} {w : World} {K : PySem.W.Frag} {mg : Str → Option Value} {base : Heap}
open LamX (TabB TabS)
theorem ne_kind {H : Hp} {a b : Addr} {x y : HO} (ha : H a = some x) (hb : H b = some y) (n : x ≠ y) : a ≠ b := fun z => n (Option.some.inj (ha.symm.trans (z ▸ hb)))
theorem tms_ne_src {H : Hp} {l S L : Addr} {qs : List Nm} (h : TmsAt H l qs) (s : SrcAt H S L) : l ≠ S := by
  obtain ⟨us, h1, _⟩ := h
  obtain ⟨c, i, k, g, h2, _⟩ := s
  refine ne_kind h1 h2 fun z => ?_
  have z2 : us.map V.ref = [V.ref L, .int i, .int k, .int g] := by
    have z3 : HO.lst (us.map V.ref) = HO.lst [V.ref L, .int i, .int k, .int g] := z
    injection z3
  match us, z2 with
  | [], z2 => cases z2
  | [_], z2 => cases z2
  | _ :: _ :: _, z2 =>
    injection z2 with _ z2
    injection z2 with z2 _
    cases z2
theorem tms_ne {H : Hp} {l a : Addr} {qs : List Nm} {x : HO} (h : TmsAt H l qs) (ha : H a = some x) (n : ∀ ys, x ≠ .lst ys) : l ≠ a := by
  obtain ⟨us, h1, _⟩ := h
  exact ne_kind h1 ha fun z => n _ z.symm
theorem code_ne {H : Hp} {m : Addr} {x : HO} (hx : H m = some x) (n : ∀ c q, x ≠ LamX.CodeO c q) : ∀ m' ∈ [m], ∀ c, H m' ≠ some (LamX.CodeO c rlQ) := fun m' hm c z => by
  rw [List.mem_singleton.mp hm, hx] at z
  exact n _ _ (Option.some.inj z)
structure F3 (K : PySem.W.Frag) (Pt : Addr) (H : Hp) (S L l fo fx fd r : Addr) (qs : List Nm) : Prop where
  s : SrcAt H S L
  F : FmAt (cF K) H fo fx fd (tidyD (sumN qs))
  d : TmsAt H r (tidyD (sumN qs))
  tb : TabS H Pt rlQ
section
variable {H H' : Hp} {Pt S L l fo fx fd r : Addr} {qs : List Nm}
theorem FmAt.apart {C a dx d b : Addr} {ns : List Nm} {x : HO} (F : FmAt C H a dx d ns) (hb : H b = some x) (n1 : ∀ dx fs, x ≠ .ins C dx fs) (n2 : ∀ k, x ≠ .dT k) : a ≠ b ∧ d ≠ b := ⟨ne_kind F.ob hb fun z => n1 _ _ z.symm, ne_kind F.nm hb fun z => n2 _ z.symm⟩
theorem F3.draw (j : F3 K Pt H S L l fo fx fd r qs) (e : Ext [S] H H') (s : SrcAt H' S L) : F3 K Pt H' S L l fo fx fd r qs := by
  obtain ⟨c, i, k, g, hS, _⟩ := id j.s
  obtain ⟨a1, a2⟩ := FmAt.apart j.F hS (fun _ _ z => nomatch z) (fun _ z => nomatch z)
  obtain ⟨ps, hP, _⟩ := id j.tb
  have p1 : Pt ≠ S := ne_kind hP hS fun z => nomatch z
  exact ⟨s, j.F.ext e (by simpa using a1) (by simpa using a2), j.d.ext e (by simpa using tms_ne_src j.d j.s), tabS_over j.tb e (by simpa using p1) (code_ne hS fun _ _ z => nomatch z)⟩
theorem F3.grow (j : F3 K Pt H S L l fo fx fd r qs) (e : Ext [] H H') : F3 K Pt H' S L l fo fx fd r qs := j.draw e.nil (j.s.ext e)
theorem F3.rows (j : F3 K Pt H S L l fo fx fd r qs) (e : Ext [Pt] H H') (tb : TabS H' Pt rlQ) : F3 K Pt H' S L l fo fx fd r qs := by
  obtain ⟨ps, hP, _⟩ := id j.tb
  obtain ⟨c, i, k, g, hS, hL, _⟩ := id j.s
  obtain ⟨a1, a2⟩ := FmAt.apart j.F hP (fun _ _ z => nomatch z) (fun _ z => nomatch z)
  have s1 : S ≠ Pt := ne_kind hS hP fun z => nomatch z
  have s2 : L ≠ Pt := ne_kind hL hP fun z => nomatch z
  exact ⟨src_extM j.s e (by simpa using s1) (by simpa using s2), j.F.ext e (by simpa using a1) (by simpa using a2), j.d.ext e (by simpa using tms_ne j.d hP fun _ z => nomatch z), tb⟩
/-- another form is written -/
theorem F3.other {m dm : Addr} {C : Addr} {fs : List (Str × V)} (j : F3 K Pt H S L l fo fx fd r qs) (hm : H m = some (.ins C dm fs)) (n : fo ≠ m) (e : Ext [m] H H') : F3 K Pt H' S L l fo fx fd r qs := by
  obtain ⟨ps, hP, _⟩ := id j.tb
  obtain ⟨c, i, k, g, hS, hL, _⟩ := id j.s
  have s1 : S ≠ m := ne_kind hS hm fun z => nomatch z
  have s2 : L ≠ m := ne_kind hL hm fun z => nomatch z
  have f2 : fd ≠ m := ne_kind j.F.nm hm fun z => nomatch z
  have p1 : Pt ≠ m := ne_kind hP hm fun z => nomatch z
  exact ⟨src_extM j.s e (by simpa using s1) (by simpa using s2), j.F.ext e (by simpa using n) (by simpa using f2), j.d.ext e (by simpa using tms_ne j.d hm fun _ z => nomatch z), tabS_over j.tb e (by simpa using p1) (code_ne hm fun _ _ z => nomatch z)⟩
/-- a form through the rows' table -/
theorem fm_rows {a dx d : Addr} {ns : List Nm} (F : FmAt (cF K) H a dx d ns) (tb : TabS H Pt rlQ) (e : Ext [Pt] H H') : FmAt (cF K) H' a dx d ns := by
  obtain ⟨ps, hP, _⟩ := id tb
  obtain ⟨a1, a2⟩ := FmAt.apart F hP (fun _ _ z => nomatch z) (fun _ z => nomatch z)
  exact F.ext e (by simpa using a1) (by simpa using a2)
theorem tms_rows {a : Addr} {ns : List Nm} (F : TmsAt H a ns) (tb : TabS H Pt rlQ) (e : Ext [Pt] H H') : TmsAt H' a ns := by
  obtain ⟨ps, hP, _⟩ := id tb
  exact F.ext e (by simpa using tms_ne F hP fun _ z => nomatch z)
end
end
section
variable {P : Program} {w : World} {K : PySem.W.Frag} {mg : Str → Option Value} {base : Heap}
open LamX (TabB TabS)
def Mds (K : PySem.W.Frag) (H : Hp) (fo : Addr) (n : Nat) (ms : List Addr) : Prop := ∀ m ∈ ms, m ≠ fo ∧ ∃ dx d ns, FmAt (cF K) H m dx d ns ∧ ns.length ≤ n
theorem Mds.ext {H H' : Hp} {fo : Addr} {n : Nat} {ms : List Addr} (h : Mds K H fo n ms) (e : Ext [] H H') : Mds K H' fo n ms := fun m hm => by
  obtain ⟨a, dx, d, ns, F, l⟩ := h m hm
  exact ⟨a, dx, d, ns, F.ext e (by simp) (by simp), l⟩
theorem Mds.snoc {H H0 : Hp} {fo m dx d : Addr} {x : HO} {n : Nat} {ms : List Addr} {ns : List Nm} (h : Mds K H fo n ms) (F : FmAt (cF K) H m dx d ns) (l : ns.length ≤ n) (hf : H0 fo = some x) (hm : H0 m = none) : Mds K H fo n (ms ++ [m]) := fun y hy => by
  rcases List.mem_append.mp hy with hy | hy
  · exact h y hy
  · have := List.mem_singleton.mp hy
    subst this
    exact ⟨fun z => (by rw [z, hf] at hm; cases hm), dx, d, ns, F, l⟩
theorem Mds.set {H H' : Hp} {fo m dm dx d : Addr} {fs : List (Str × V)} {n : Nat} {ms : List Addr} {ns : List Nm} (h : Mds K H fo n ms) (hm : H m = some (.ins (cF K) dm fs)) (e : Ext [m] H H') (F : FmAt (cF K) H' m dx d ns) (l : ns.length ≤ n + 1) : Mds K H' fo (n + 1) ms := fun y hy => by
  obtain ⟨a, dy, dd, ny, G, ly⟩ := h y hy
  by_cases hym : y = m
  · subst hym
    exact ⟨a, dx, d, ns, F, l⟩
  · exact ⟨a, dy, dd, ny, G.ext e (by simpa using hym) (by simpa using ne_kind G.nm hm fun z => nomatch z), by omega⟩
def badsP (sh : Nat) : List PyData := [.int (0 - 1), .none, .bool true, .str "2", .tuple [.int 1], .int (0 - (10 : Int) ^ (20 : Int).toNat - (sh : Int)), .bool false]
theorem badsP_ok {H : Hp} {v : V} {d : PyData} {sh : Nat} {lo : Int} (l0 : 0 ≤ lo) (a : Av H v d) (hd : d ∈ badsP sh) : ¬ leastOk lo v := by
  rintro ⟨i, rfl, hi⟩
  have h : d = .int i := by
    cases a.1
    rfl
  subst h
  simp only [badsP, List.mem_cons, List.not_mem_nil, or_false, PyData.int.injEq, reduceCtorEq, false_or] at hd
  have h0 : (0 : Int) < (10 : Int) ^ (20 : Int).toNat := by decide
  generalize (10 : Int) ^ (20 : Int).toNat = t at hd h0
  rcases hd with rfl | rfl <;> omega
def spLaw (K : PySem.W.Frag) (Pt : Addr) : Sp := fun vs H Q _ => ∃ (a : Addr) (ns : List Int), vs = [.ref a] ∧ SqL K H a (ns.map V.int) ∧ ns.length ≤ 63 ∧ H Pt = some (.tbl #[]) ∧ ∀ H', Q (.bl true) H'
theorem ok_law (T : Txt K mg) {c Pt : Addr} (TB : TabB base mg c Pt) (hc : cRows K = .ref c) (hS2 : Seer2 base mg) (ht : P.given.tree = none) {fd : FuncData} (F : FnP K "law" s_law fd) : FnOk P w K mg base CX0 37 (ga K "law") fd ["_law_script"] (spLaw K Pt) := by
  have D__law_source := ok_source (P := P) (w := w) (base := base) T
  have D__law_draw := ok_drawE (P := P) (w := w) (base := base) T
  have D__law_drawX := ok_drawX (P := P) (w := w) (base := base) T hS2 ht
  have D__law_terms := ok_lterms (P := P) (w := w) (base := base) T
  have D__law_rows := ok_lrows (P := P) (w := w) (base := base) T TB hc
  have D__law_shows := ok_lshows (P := P) (w := w) (base := base) T
  have D__law_refused := ok_lrefp (P := P) (w := w) (base := base) T
  obtain ⟨fi, fi_⟩ := T.fFormInit
  have Fi := ok_finit (P := P) (w := w) (base := base) T fi_
  obtain ⟨dsI, vsI, biI⟩ := b_finit fi_
  cases vsI
  have bi := biI
  obtain ⟨fq, fq_⟩ := T.fForm__floordiv__
  have Fq := ok_fquo (P := P) (w := w) (base := base) T fq_
  have bq : Binds K fq ["self", "other"] [] := fq_.bindsN (fun _ _ _ _ _ _ us hl => match us, hl with | [_, _], _ => rfl)
  have oq : OwnFn K (cF K) (ma K (cF K) "__floordiv__") "__floordiv__" := ⟨T.mForm__floordiv__.at_, T.mForm__floordiv__.fn⟩
  obtain ⟨fm, fm_⟩ := T.fForm__mod__
  have Fm := ok_frem (P := P) (w := w) (base := base) T fm_
  have bm : Binds K fm ["self", "other"] [] := fm_.bindsN (fun _ _ _ _ _ _ us hl => match us, hl with | [_, _], _ => rfl)
  have om : OwnFn K (cF K) (ma K (cF K) "__mod__") "__mod__" := ⟨T.mForm__mod__.at_, T.mForm__mod__.fn⟩
  obtain ⟨fs, fs_⟩ := T.fForm__lshift__
  have Fs := ok_fshl (P := P) (w := w) (base := base) T fs_
  have bs : Binds K fs ["self", "other"] [] := fs_.bindsN (fun _ _ _ _ _ _ us hl => match us, hl with | [_, _], _ => rfl)
  have os : OwnFn K (cF K) (ma K (cF K) "__lshift__") "__lshift__" := ⟨T.mForm__lshift__.at_, T.mForm__lshift__.fn⟩
  obtain ⟨fmu, fmu_⟩ := T.fForm__mul__
  have Fmu := ok_fmul (P := P) (w := w) (base := base) T fmu_
  have bmu : Binds K fmu ["self", "other"] [] := fmu_.bindsN (fun _ _ _ _ _ _ us hl => match us, hl with | [_, _], _ => rfl)
  have omu : OwnFn K (cF K) (ma K (cF K) "__mul__") "__mul__" := ⟨T.mForm__mul__.at_, T.mForm__mul__.fn⟩
  obtain ⟨fad, fad_⟩ := T.fForm__add__
  have Fad := ok_fadd (P := P) (w := w) (base := base) T fad_
  have bad : Binds K fad ["self", "other"] [] := fad_.bindsN (fun _ _ _ _ _ _ us hl => match us, hl with | [_, _], _ => rfl)
  have oad : OwnFn K (cF K) (ma K (cF K) "__add__") "__add__" := ⟨T.mForm__add__.at_, T.mForm__add__.fn⟩
  obtain ⟨fab, fab_⟩ := T.fForm__abs__
  have Fab := ok_fabs (P := P) (w := w) (base := base) T fab_
  have bab : Binds K fab ["self"] [] := fab_.bindsN (fun _ _ _ _ _ _ us hl => match us, hl with | [_], _ => rfl)
  have oab : OwnFn K (cF K) (ma K (cF K) "__abs__") "__abs__" := ⟨T.mForm__abs__.at_, T.mForm__abs__.fn⟩
  obtain ⟨fse, fse_⟩ := T.fForm__setitem__
  have Fse := ok_fset (P := P) (w := w) (base := base) T fse_
  have bse : Binds K fse ["self", "amount", "number"] [] := fse_.bindsN (fun _ _ _ _ _ _ us hl => match us, hl with | [_, _, _], _ => rfl)
  have ose : OwnFn K (cF K) (ma K (cF K) "__setitem__") "__setitem__" := ⟨T.mForm__setitem__.at_, T.mForm__setitem__.fn⟩
  obtain ⟨fe, fe_⟩ := T.fForm__eq__
  have Fe := ok_feq (P := P) (w := w) (base := base) T fe_
  have be : Binds K fe ["self", "other"] [] := fe_.bindsN (fun _ _ _ _ _ _ us hl => match us, hl with | [_, _], _ => rfl)
  have oe : OwnEq K (cF K) (ma K (cF K) "__eq__") := ⟨T.mForm__eq__.at_, T.mForm__eq__.fn, (insL_ok T.iForm).2⟩
  obtain ⟨hsf, hns, hbt⟩ := opsB_ok T.oForm
  have pq := partsB_ok T.pForm (nm := "floordiv") (by simp)
  have pm := partsB_ok T.pForm (nm := "mod") (by simp)
  have ps := partsB_ok T.pForm (nm := "lshift") (by simp)
  refine F.ok sc_law (fun vs H Q E h => ?_) (fun cdv A outer s H vs Q E hr h => ?_)
  · obtain ⟨a, ns, rfl, _⟩ := h
    rfl
  · obtain ⟨a, ns, rfl, hl, hn, hP, q⟩ := h
    have nd := sc_law.nd
    have hu := hu_of hr
    have hu0 := hr.units
    have hu64 := hr.units
    have hul : (A.deeper (envOfC "law" (defScope s_law) s.heap.objs.size (ga K "law") cdv)).units < cLine := by omega
    have hri := hr.mono (show 7 ≤ 36 by decide)
    have hrb := hr.mono (show 8 ≤ 36 by decide)
    have hrb8 := hr.mono (show 9 ≤ 36 by decide)
    have hrs := hr.mono (show 5 ≤ 36 by decide)
    have hre := hr.mono (show 2 ≤ 36 by decide)
    have hr__law_source := hr.mono (show 1 ≤ 36 by decide)
    have hr__law_draw := hr.mono (show 1 ≤ 36 by decide)
    have hr__law_drawX := hr
    have hr__law_terms := hr.mono (show 3 ≤ 36 by decide)
    have hr__law_rows := hr.mono (show 6 ≤ 36 by decide)
    have hr__law_shows := hr.mono (show 3 ≤ 36 by decide)
    have hr__law_refused := hr.mono (show 9 ≤ 36 by decide)
    refine ⟨_, PSs.nox (pss_cons (ps_set (i := 1) nd rfl (by first | exact Or.inl rfl | exact Or.inr rfl) (pe_cd D__law_source hr__law_source (by rfl) pass0 (pa_cons (pv 0) pa_nil)))
   (pss_cons (ps_set (i := 2) nd rfl (by first | exact Or.inl rfl | exact Or.inr rfl) (pe_cd D__law_terms hr__law_terms (by rfl) pass0 (pa_cons (pv 1) (pa_cons pe_int pa_nil))))
   (pss_cons (ps_set (i := 3) nd rfl (by first | exact Or.inl rfl | exact Or.inr rfl) (pe_make T.mk_Form Fi hri (by rfl) T.gForm bi .nil passL (pa_cons (pe_callTy call_list_of (by rfl) T.blist (by decide +kernel) (pa_cons (pv 2) pa_nil)) pa_nil)))
   (pss_cons (ps_set (i := 4) nd rfl (by first | exact Or.inl rfl | exact Or.inr rfl) (pe_cd D__law_rows hr__law_rows (by rfl) pass0 (pa_cons (pv 2) pa_nil)))
   (pss_cons (ps_for PassesOwn.never rfl (pi_range1 (by rfl) T.brange (pa_cons pe_int pa_nil)) (pg_name (i := 5) nd rfl (by first | exact Or.inl rfl | exact Or.inr rfl))
   (pss_cons (ps_set (i := 6) nd rfl (by first | exact Or.inl rfl | exact Or.inr rfl) (pe_op op_add pe_int (pe_op op_mod (pe_op op_sub (pe_op op_add (pe_cd D__law_draw hr__law_draw (by rfl) pass0 (pa_cons (pv 1) (pa_cons (pe_ix ix_list (pe_lst (pa_cons pe_int (pa_cons (pe_op op_pow pe_int pe_int) pa_nil))) (pv 5) (fun _ _ => rfl)) pa_nil))) pe_int) (pv 5)) (pe_ix ix_list (pe_lst (pa_cons pe_int (pa_cons (pe_op op_pow pe_int pe_int) pa_nil))) (pv 5) (fun _ _ => rfl)))))
   (pss_cons (ps_setLc (i := 7) (own := [("_law_row", 15)]) (g := gName 15) (tt := tYes) (by rfl) nd rfl rfl (sw_true rfl rfl rfl (by decide +kernel)) (pi_list (pv 4)) (blkOk_by (own := [("_law_row", 15)]) (N := n_law) (sc := defScope s_law) (by decide +kernel)) (fun _ _ _ _ _ => pg_name (i := 15) nd rfl (by first | exact Or.inl rfl | exact Or.inr rfl)) (fun _ _ _ _ _ => pts_nil) (fun _ _ _ _ _ => (pe_tup (pa_cons (pe_ix (show IxR _ (rIxT K) from ix_tup) (pv 15) pe_int (fun _ _ => rfl)) (pa_cons (pe_op op_fdivW (pe_ix (show IxR _ (rIxT K) from ix_tup) (pv 15) pe_int (fun _ _ => rfl)) (pv 6)) pa_nil)))))
   (pss_cons (ps_setLc (i := 8) (own := [("_law_row", 15)]) (g := gName 15) (tt := tYes) (by rfl) nd rfl rfl (sw_true rfl rfl rfl (by decide +kernel)) (pi_list (pv 4)) (blkOk_by (own := [("_law_row", 15)]) (N := n_law) (sc := defScope s_law) (by decide +kernel)) (fun _ _ _ _ _ => pg_name (i := 15) nd rfl (by first | exact Or.inl rfl | exact Or.inr rfl)) (fun _ _ _ _ _ => pts_nil) (fun _ _ _ _ _ => (pe_tup (pa_cons (pe_ix (show IxR _ (rIxT K) from ix_tup) (pv 15) pe_int (fun _ _ => rfl)) (pa_cons (pe_op op_sub (pe_ix (show IxR _ (rIxT K) from ix_tup) (pv 15) pe_int (fun _ _ => rfl)) (pe_op op_mul (pe_op op_fdivW (pe_ix (show IxR _ (rIxT K) from ix_tup) (pv 15) pe_int (fun _ _ => rfl)) (pv 6)) (pv 6))) pa_nil)))))
   (pss_cons (ps_if (pt_not (pt_val (pe_cd D__law_shows hr__law_shows (by rfl) pass0 (pa_cons (pe_op (op_binO (nm := "floordiv") oq.at_ oq.fn hsf rfl pq Fq hrb bq passL) (pv 3) (pv 6)) (pa_cons (pe_cd D__law_rows hr__law_rows (by rfl) pass0 (pa_cons (pv 7) pa_nil)) pa_nil))))) (pss_one (ps_ret pe_bl)) pss_nil)
   (pss_cons (ps_if (pt_not (pt_val (pe_cd D__law_shows hr__law_shows (by rfl) pass0 (pa_cons (pe_op (op_binO (nm := "mod") om.at_ om.fn hsf rfl pm Fm hrb bm passL) (pv 3) (pv 6)) (pa_cons (pe_cd D__law_rows hr__law_rows (by rfl) pass0 (pa_cons (pv 8) pa_nil)) pa_nil))))) (pss_one (ps_ret pe_bl)) pss_nil)
   (pss_one (ps_if (pt_not (pt_cmpR (op_eqOwn oe Fe hre hul be pass0) (pe_op (op_ownO (nm := "add") oad.at_ oad.fn hsf rfl Fad hrb bad pass0) (pe_op (op_mulO omu hsf hbt Fmu hrb bmu pass0) (pe_op (op_binO (nm := "floordiv") oq.at_ oq.fn hsf rfl pq Fq hrb bq passL) (pv 3) (pv 6)) (pv 6)) (pe_op (op_binO (nm := "mod") om.at_ om.fn hsf rfl pm Fm hrb bm passL) (pv 3) (pv 6))) (pv 3) (nomark _))) (pss_one (ps_ret pe_bl)) pss_nil))))))))
   (pss_cons (ps_set (i := 9) nd rfl (by first | exact Or.inl rfl | exact Or.inr rfl) (pe_cd D__law_drawX hr__law_drawX (by rfl) pass0 (pa_cons (pv 1) (pa_cons (pe_ix ix_list (pe_lst (pa_cons pe_int (pa_cons (pe_op op_pow pe_int pe_int) (pa_cons (pe_op op_add pe_int (pe_callB (call_abs) (by rfl) T.babs (by decide +kernel) (pa_cons (pe_callB (cr_sum rfl) (by rfl) T.bsum (by decide +kernel) (pa_cons (pe_ix ix_list (pv 1) pe_int (fun _ _ => rfl)) pa_nil)) pa_nil))) pa_nil)))) (pe_cd D__law_draw hr__law_draw (by rfl) pass0 (pa_cons (pv 1) (pa_cons pe_int pa_nil))) (fun _ _ => rfl)) pa_nil))))
   (pss_cons (ps_setLc (i := 10) (own := [("_law_row", 15)]) (g := gName 15) (tt := tYes) (by rfl) nd rfl rfl (sw_true rfl rfl rfl (by decide +kernel)) (pi_list (pv 4)) (blkOk_by (own := [("_law_row", 15)]) (N := n_law) (sc := defScope s_law) (by decide +kernel)) (fun _ _ _ _ _ => pg_name (i := 15) nd rfl (by first | exact Or.inl rfl | exact Or.inr rfl)) (fun _ _ _ _ _ => pts_nil) (fun _ _ _ _ _ => (pe_tup (pa_cons (pe_tup (pa_cons (pe_ix (show IxR _ (rIxT K) from ix_tup) (pe_ix (show IxR _ (rIxT K) from ix_tup) (pv 15) pe_int (fun _ _ => rfl)) pe_int (fun _ _ => rfl)) (pa_cons (pe_op op_add (pe_ix (show IxR _ (rIxT K) from ix_tup) (pe_ix (show IxR _ (rIxT K) from ix_tup) (pv 15) pe_int (fun _ _ => rfl)) pe_int (fun _ _ => rfl)) (pv 9)) pa_nil))) (pa_cons (pe_ix (show IxR _ (rIxT K) from ix_tup) (pv 15) pe_int (fun _ _ => rfl)) pa_nil)))))
   (pss_cons (ps_if (pt_not (pt_val (pe_cd D__law_shows hr__law_shows (by rfl) pass0 (pa_cons (pe_op (op_binO (nm := "lshift") os.at_ os.fn hsf rfl ps Fs hrb bs passL) (pv 3) (pv 9)) (pa_cons (pv 10) pa_nil))))) (pss_one (ps_ret pe_bl)) pss_nil)
   (pss_cons (ps_setLc (i := 11) (own := [("_law_row", 15)]) (g := gName 15) (tt := tYes) (by rfl) nd rfl rfl (sw_true rfl rfl rfl (by decide +kernel)) (pi_list (pv 4)) (blkOk_by (own := [("_law_row", 15)]) (N := n_law) (sc := defScope s_law) (by decide +kernel)) (fun _ _ _ _ _ => pg_name (i := 15) nd rfl (by first | exact Or.inl rfl | exact Or.inr rfl)) (fun _ _ _ _ _ => pts_nil) (fun _ _ _ _ _ => (pe_tup (pa_cons (pe_ix (show IxR _ (rIxT K) from ix_tup) (pv 15) pe_int (fun _ _ => rfl)) (pa_cons (pe_callB (call_max2 rfl) (by rfl) T.bmax (by decide +kernel) (pa_cons (pe_ix (show IxR _ (rIxT K) from ix_tup) (pv 15) pe_int (fun _ _ => rfl)) (pa_cons (pe_op op_sub pe_int (pe_ix (show IxR _ (rIxT K) from ix_tup) (pv 15) pe_int (fun _ _ => rfl))) pa_nil))) pa_nil)))))
   (pss_cons (ps_if (PW.pt (pw_or (pt_not (pt_val (pe_cd D__law_shows hr__law_shows (by rfl) pass0 (pa_cons (pe_callB (call_absO oab.at_ oab.fn Fab hrb8 bab pass0) (by rfl) T.babs (by decide +kernel) (pa_cons (pv 3) pa_nil)) (pa_cons (pv 11) pa_nil))))) (pw_or1 (pt_not (pt_val (pe_cd D__law_shows hr__law_shows (by rfl) pass0 (pa_cons (pe_op (op_binO (nm := "lshift") os.at_ os.fn hsf rfl ps Fs hrb bs passL) (pv 3) pe_int) (pa_cons (pv 4) pa_nil)))))))) (pss_one (ps_ret pe_bl)) pss_nil)
   (pss_cons (ps_set (i := 12) nd rfl (by first | exact Or.inl rfl | exact Or.inr rfl) (pe_lst (pa_cons (pe_op op_sub pe_int pe_int) (pa_cons pe_non (pa_cons pe_bl (pa_cons pe_str (pa_cons (pe_tup (pa_cons pe_int pa_nil)) (pa_cons (pe_op op_sub (pe_op op_sub pe_int (pe_op op_pow pe_int pe_int)) (pv 9)) (pa_cons pe_bl pa_nil)))))))))
   (pss_cons (ps_for PassesOwn.never rfl (pi_range1 (by rfl) T.brange (pa_cons pe_int pa_nil)) (pg_name (i := 13) nd rfl (by first | exact Or.inl rfl | exact Or.inr rfl))
   (pss_one (ps_if (pt_not (pt_val (pe_cd D__law_refused hr__law_refused (by rfl) pass0 (pa_cons (pv 3) (pa_cons (pe_ix ix_list (pv 12) (pe_op op_mod (pe_op op_add (pe_cd D__law_draw hr__law_draw (by rfl) pass0 (pa_cons (pv 1) (pa_cons pe_int pa_nil))) (pv 13)) pe_int) (fun _ _ => rfl)) (pa_cons (pv 13) pa_nil)))))) (pss_one (ps_ret pe_bl)) pss_nil)))
   (pss_cons (ps_if (PW.pt (pw_or (pt_not (pt_val (pe_cd D__law_refused hr__law_refused (by rfl) pass0 (pa_cons (pv 3) (pa_cons pe_int (pa_cons pe_int pa_nil)))))) (pw_or1 (pt_not (pt_val (pe_cd D__law_refused hr__law_refused (by rfl) pass0 (pa_cons (pv 3) (pa_cons pe_int (pa_cons pe_int pa_nil))))))))) (pss_one (ps_ret pe_bl)) pss_nil)
   (pss_cons (ps_for PassesOwn.never rfl (pi_list (pe_lst (pa_cons (pe_op (op_binO (nm := "floordiv") oq.at_ oq.fn hsf rfl pq Fq hrb bq passL) (pv 3) pe_int) (pa_cons (pe_op (op_binO (nm := "mod") om.at_ om.fn hsf rfl pm Fm hrb bm passL) (pv 3) (pe_op op_pow pe_int pe_int)) (pa_cons (pe_op (op_binO (nm := "lshift") os.at_ os.fn hsf rfl ps Fs hrb bs passL) (pv 3) pe_int) (pa_cons (pe_callB (call_absO oab.at_ oab.fn Fab hrb8 bab pass0) (by rfl) T.babs (by decide +kernel) (pa_cons (pv 3) pa_nil)) (pa_cons (pe_op (op_binO (nm := "floordiv") oq.at_ oq.fn hsf rfl pq Fq hrb bq passL) (pv 3) (pv 6)) (pa_cons (pe_op (op_binO (nm := "mod") om.at_ om.fn hsf rfl pm Fm hrb bm passL) (pv 3) (pv 6)) (pa_cons (pe_op (op_binO (nm := "lshift") os.at_ os.fn hsf rfl ps Fs hrb bs passL) (pv 3) (pv 9)) pa_nil))))))))) (pg_name (i := 14) nd rfl (by first | exact Or.inl rfl | exact Or.inr rfl))
   (pss_one (ps_asg pe_int (pg_sub (pv 14) (pe_tup (pa_cons pe_str (pa_cons pe_int pa_nil))) (set_own ose hns Fse hrs bse passL)))))
   (pss_one (ps_ret (pe_cd D__law_shows hr__law_shows (by rfl) pass0 (pa_cons (pv 3) (pa_cons (pv 4) pa_nil))))))))))))))))))), ?_⟩
    -- the source, the terms
    refine ⟨_, rfl, a, ns, rfl, hl, hn, fun S L H1 hS0 hL0 e1 S1 => ?_⟩
    have hPS : Pt ≠ S := fun z => by rw [← z, hP] at hS0; cases hS0
    have P1 := e1.keep _ _ hP (by simp)
    clear hl e1 hS0 hL0 hP
    refine gset ?_
    dsimp only
    refine ⟨_, rfl, S, L, 9, rfl, by decide, S1, fun l qs H2 hl0 e2 S2 t1 w1 n1 => ?_⟩
    have P2 := e2.keep _ _ P1 (by simpa using hPS)
    have wA : ∀ q ∈ qs, wdO q.1.1 := fun q hq => (w1 q hq).1
    clear e2 S1 P1 hl0
    refine gset ?_
    dsimp only
    -- the form, its rows
    obtain ⟨us, hus, hpu⟩ := id t1
    refine ⟨_, rfl, l, _, rfl, .inl (SqL.of hus), fun g hg => ?_⟩
    have e4 : Ext [] H2 (upd H2 g (.lst (us.map V.ref))) := Ext.new hg
    have tg : TmsAt (upd H2 g (.lst (us.map V.ref))) g qs := ⟨us, upd_same, paired_mono (fun _ _ h => h.ext e4) hpu⟩
    have t14 := t1.ext e4 (by simp)
    have S4 := S2.ext e4
    have P4 := e4.keep _ _ P2 (by simp)
    clear hus hpu t1 S2 P2 hg
    generalize upd H2 g (.lst (us.map V.ref)) = H4 at e4 t14 tg S4 P4 ⊢
    clear e4
    refine fun fo fx hfo hfx hne => mk_formT tg wA (by omega) hfo hfx hne fun fd H5 hfd e5 A5 => ⟨rfl, ?_⟩
    have t15 := t14.ext e5 (by simp)
    have S5 := S4.ext e5
    have tb5 : TabS H5 Pt rlQ := .nil (e5.keep _ _ P4 (by simp))
    clear hne hfx e5 t14 S4 P4 tg hfo hfd
    refine gset ?_
    dsimp only
    refine ⟨_, rfl, l, qs, rfl, t15, wA, by omega, tb5, fun r H6 _ e6 d6 tb6 => ?_⟩
    have j6 : F3 K Pt H6 S L l fo fx fd r qs := by
      obtain ⟨ps, hP, _⟩ := id tb5
      obtain ⟨c, i, k, g, hS, hL, _⟩ := id S5
      exact ⟨src_extM S5 e6 (by simpa using ne_kind hS hP fun z => nomatch z) (by simpa using ne_kind hL hP fun z => nomatch z), fm_rows A5 tb5 e6, d6, tb6⟩
    clear e6 d6 tb6 tb5 S5 A5 t15
    refine gset ?_
    dsimp only
    have lenN : (tidyD (sumN qs)).length ≤ 9 := Nat.le_trans len_tidy (Nat.le_trans (len_sumN qs) n1)
    have wN : ∀ q ∈ tidyD (sumN qs), wdO q.1.1 := wd_tidy (wd_sum wA)
    refine ⟨2, rfl, by decide, by decide, for_range (n := 2) (fun i σ' H' => ∃ x5 x6 x7 x8 x9 x10 x11 x12 x13 x14 x15, σ' = [some (.ref a), some (.ref S), some (.ref l), some (.ref fo), some (.ref r), x5, x6, x7, x8, x9, x10, x11, x12, x13, x14, x15] ∧ F3 K Pt H' S L l fo fx fd r qs ∧ (1 ≤ i → ∃ dv : Int, x6 = some (.int dv) ∧ 0 < dv ∧ dv ≤ 10 ^ 12))
      ⟨none, none, none, none, none, none, none, none, none, none, none, rfl, j6, fun z => absurd z (by decide)⟩ ?_ ?_⟩
    · clear j6
      rintro k σ' H0 hk ⟨x5, x6, x7, x8, x9, x10, x11, x12, x13, x14, x15, rfl, j0, _⟩
      refine gset ?_
      dsimp only
      have p12 : CPow 10 12 := ⟨by decide, by decide, by decide⟩
      obtain ⟨m, hz, m0, m1⟩ : ∃ m : Int, atI [V.int 4, .int ((10 : Int) ^ (12 : Int).toNat)] (0 + (k : Int)) = some (.int m) ∧ 0 < m ∧ m ≤ 10 ^ 12 := by
        have : k = 0 ∨ k = 1 := by omega
        rcases this with rfl | rfl
        · exact ⟨4, rfl, by decide, by decide⟩
        · exact ⟨_, rfl, by decide, by decide⟩
      refine ⟨_, rfl, 10, 12, rfl, rfl, p12, by show 2 ≤ sizeLine; decide, fun b hb => ?_⟩
      have j1 := j0.grow (Ext.new (o := .lst [.int 4, .int ((10 : Int) ^ (12 : Int).toNat)]) hb)
      refine ⟨_, rfl, b, _, 0 + (k : Int), .int m, rfl, rfl, SqL.of upd_same, hz, S, L, m, rfl, j1.s, m0, Int.lt_of_le_of_lt m1 (by decide), fun n H2 n0 n1 e2 s2 => ?_⟩
      have j2 := j1.draw e2 s2
      clear e2 s2 j1 j0 hb
      refine ⟨n, 1, rfl, rfl, _, rfl, n + 1, 0 + (k : Int), rfl, rfl, 10, 12, rfl, rfl, p12, by show 2 ≤ sizeLine; decide, fun b2 hb2 => ?_⟩
      have j3 := j2.grow (Ext.new (o := .lst [.int 4, .int ((10 : Int) ^ (12 : Int).toNat)]) hb2)
      refine ⟨_, rfl, b2, _, 0 + (k : Int), .int m, rfl, rfl, SqL.of upd_same, hz, n + 1 - (0 + (k : Int)), m, rfl, rfl, m0, 1, (n + 1 - (0 + (k : Int))) % m, rfl, rfl, ?_⟩
      clear j2 hb2 hz
      generalize upd H2 b2 (.lst [.int 4, .int ((10 : Int) ^ (12 : Int).toNat)]) = H3 at j3 ⊢
      have d0 := Int.emod_nonneg (n + 1 - (0 + (k : Int))) (show m ≠ 0 by omega)
      have d1 := Int.emod_lt_of_pos (n + 1 - (0 + (k : Int))) m0
      obtain ⟨dv, edv, hd, hd2⟩ : ∃ dv, dv = 1 + (n + 1 - (0 + (k : Int))) % m ∧ 0 < dv ∧ dv ≤ 10 ^ 12 := ⟨_, rfl, by omega, by omega⟩
      refine gset ?_
      dsimp only
      rw [← edv]
      clear edv d0 d1 n0 n1 m0 m1
      -- quotients, remainders
      obtain ⟨us, hus, hpu⟩ := id j3.d
      have hul : us.length = (tidyD (sumN qs)).length := Paired.length hpu
      refine ⟨_, rfl, r, rfl, ⟨_, SqL.of hus⟩, fun R4 hR4 => lc_list (xs := us.map V.ref) (fun i G => Ext [] H3 G ∧ ∃ vs : List Addr, G R4 = some (.lst (vs.map V.ref)) ∧ Paired (tmR G) vs (((tidyD (sumN qs)).take i).map fun q => ((q.1, q.2 / dv) : Nm))) ⟨Ext.new hR4, [], upd_same, .nil⟩ ?_ ?_ ?_⟩
      · rintro i G _ ⟨e, _⟩
        exact SqL.of (e.keep _ _ hus (by simp))
      · rintro i y G hy ⟨e, vs, hvs, hpv⟩
        rw [List.getElem?_map] at hy
        obtain ⟨u, hu1, rfl⟩ := Option.map_eq_some_iff.mp hy
        obtain ⟨q0, hq0, hrr⟩ := paired_getX hpu hu1
        have hi : i < us.length := (List.getElem?_eq_some_iff.mp hu1).1
        obtain ⟨aa, g1, g2⟩ := hrr.ext e
        refine ⟨wipe1, ?_⟩
        refine tyes ?_
        refine ⟨_, rfl, u, _, 0, .ref aa, rfl, rfl, .inl (.inl g1), rfl, _, rfl, u, _, 1, .int q0.2, rfl, rfl, .inl (.inl g1), rfl, _, rfl, q0.2, dv, rfl, rfl, wide_div (b := 50) hd (by omega) (by decide) (by decide), by show 2 ≤ sizeLine; decide, fun t ht => ?_⟩
        have eG : Ext [] G G := Ext.refl
        have gA : isAmt G aa q0.1 := g2
        have et : Ext [] G (upd G t (.tup [.ref aa, .int (q0.2 / dv)])) := Ext.new ht
        have new : tmR (upd G t (.tup [.ref aa, .int (q0.2 / dv)])) t ((fun q : Nm => ((q.1, q.2 / dv) : Nm)) q0) := ⟨aa, upd_same, et.tups _ _ gA⟩
        have hvs2 := (eG.trans et).keep _ _ hvs (by simp)
        have hpv2 := paired_mono (fun _ _ h => tmR.ext h (eG.trans et)) hpv
        have e2 := e.trans (eG.trans et)
        generalize upd G t (.tup [.ref aa, .int (q0.2 / dv)]) = G2 at new hvs2 hpv2 e2 ⊢
        have hlv : vs.length = _ := Paired.length hpv2
        rw [List.length_map, List.length_take] at hlv
        have eR4 : Ext [R4] G2 (upd G2 R4 (.lst (vs.map V.ref ++ [.ref t]))) := ext_at fun xs z => by rw [hvs2] at z; cases z
        refine ⟨vs.map V.ref, hvs2, by rw [List.length_map]; exact Evl.sz_lt (by omega), e2.fresh hR4, vs ++ [t], by rw [upd_same, List.map_append]; rfl, ?_⟩
        rw [take_snoc hq0, List.map_append]
        exact pair_snoc (new.ext eR4) (paired_mono (fun _ _ h => tmR.ext h eR4) hpv2)
      rintro H4 ⟨e, vs, hvs, hpv⟩
      rw [List.length_map, hul, List.take_length] at hpv
      have tq4 : TmsAt H4 R4 ((tidyD (sumN qs)).map fun q => ((q.1, q.2 / dv) : Nm)) := ⟨vs, hvs, hpv⟩
      have j4 := j3.grow e

      clear hus hpu hul hvs hpv e j3 hR4 vs us
      refine gset ?_
      try dsimp only
      obtain ⟨us, hus, hpu⟩ := id j4.d
      have hul : us.length = (tidyD (sumN qs)).length := Paired.length hpu
      refine ⟨_, rfl, r, rfl, ⟨_, SqL.of hus⟩, fun R5 hR5 => lc_list (xs := us.map V.ref) (fun i G => Ext [] H4 G ∧ ∃ vs : List Addr, G R5 = some (.lst (vs.map V.ref)) ∧ Paired (tmR G) vs (((tidyD (sumN qs)).take i).map fun q => ((q.1, q.2 - q.2 / dv * dv) : Nm))) ⟨Ext.new hR5, [], upd_same, .nil⟩ ?_ ?_ ?_⟩
      · rintro i G _ ⟨e, _⟩
        exact SqL.of (e.keep _ _ hus (by simp))
      · rintro i y G hy ⟨e, vs, hvs, hpv⟩
        rw [List.getElem?_map] at hy
        obtain ⟨u, hu1, rfl⟩ := Option.map_eq_some_iff.mp hy
        obtain ⟨q0, hq0, hrr⟩ := paired_getX hpu hu1
        have hi : i < us.length := (List.getElem?_eq_some_iff.mp hu1).1
        obtain ⟨aa, g1, g2⟩ := hrr.ext e
        refine ⟨wipe1, ?_⟩
        refine tyes ?_
        refine ⟨_, rfl, u, _, 0, .ref aa, rfl, rfl, .inl (.inl g1), rfl, _, rfl, u, _, 1, .int q0.2, rfl, rfl, .inl (.inl g1), rfl, _, rfl, u, _, 1, .int q0.2, rfl, rfl, .inl (.inl g1), rfl, _, rfl, q0.2, dv, rfl, rfl, wide_div (b := 50) hd (by omega) (by decide) (by decide), _, rfl, q0.2 / dv, dv, rfl, rfl, .inr ⟨by omega, by omega⟩, q0.2, q0.2 / dv * dv, rfl, rfl, by show 2 ≤ sizeLine; decide, fun t ht => ?_⟩
        have eG : Ext [] G G := Ext.refl
        have gA : isAmt G aa q0.1 := g2
        have et : Ext [] G (upd G t (.tup [.ref aa, .int (q0.2 - q0.2 / dv * dv)])) := Ext.new ht
        have new : tmR (upd G t (.tup [.ref aa, .int (q0.2 - q0.2 / dv * dv)])) t ((fun q : Nm => ((q.1, q.2 - q.2 / dv * dv) : Nm)) q0) := ⟨aa, upd_same, et.tups _ _ gA⟩
        have hvs2 := (eG.trans et).keep _ _ hvs (by simp)
        have hpv2 := paired_mono (fun _ _ h => tmR.ext h (eG.trans et)) hpv
        have e2 := e.trans (eG.trans et)
        generalize upd G t (.tup [.ref aa, .int (q0.2 - q0.2 / dv * dv)]) = G2 at new hvs2 hpv2 e2 ⊢
        have hlv : vs.length = _ := Paired.length hpv2
        rw [List.length_map, List.length_take] at hlv
        have eR5 : Ext [R5] G2 (upd G2 R5 (.lst (vs.map V.ref ++ [.ref t]))) := ext_at fun xs z => by rw [hvs2] at z; cases z
        refine ⟨vs.map V.ref, hvs2, by rw [List.length_map]; exact Evl.sz_lt (by omega), e2.fresh hR5, vs ++ [t], by rw [upd_same, List.map_append]; rfl, ?_⟩
        rw [take_snoc hq0, List.map_append]
        exact pair_snoc (new.ext eR5) (paired_mono (fun _ _ h => tmR.ext h eR5) hpv2)
      rintro H5 ⟨e, vs, hvs, hpv⟩
      rw [List.length_map, hul, List.take_length] at hpv
      have tr5 : TmsAt H5 R5 ((tidyD (sumN qs)).map fun q => ((q.1, q.2 - q.2 / dv * dv) : Nm)) := ⟨vs, hvs, hpv⟩
      have j5 := j4.grow e
      have tq5 := tq4.ext e (by simp)
      clear tq4
      clear hus hpu hul hvs hpv e j4 hR5 vs us
      refine gset ?_
      try dsimp only
      have er : ∀ z : Int, z - z / dv * dv = z % dv := fun z => by rw [Int.emod_def, Int.mul_comm]
      simp only [er] at tr5
      have wD : ∀ z : Int, CDivW z dv := fun z => wide_div (b := 50) hd (by omega) (by decide) (by decide)
      have wMp : ∀ f : Int → Int, ∀ q ∈ (tidyD (sumN qs)).map (fun q : Nm => ((q.1, f q.2) : Nm)), wdO q.1.1 := fun f => wd_map wN
      have lMp : ∀ f : Int → Int, ((tidyD (sumN qs)).map (fun q : Nm => ((q.1, f q.2) : Nm))).length ≤ 9 := fun f => by rw [List.length_map]; exact lenN
      have lTp : ∀ f : Int → Int, (tidyD (sumN ((tidyD (sumN qs)).map (fun q : Nm => ((q.1, f q.2) : Nm))))).length ≤ 9 := fun f => Nat.le_trans len_tidy (Nat.le_trans (len_sumN _) (lMp f))
      -- quotients
      refine ⟨_, rfl, _, rfl, fo, fx, _, rfl, .int _, j5.F.ob, fo, fx, fd, _, .int dv, rfl, j5.F, by omega, .int _, (fun hb => (hb ⟨dv, rfl, by omega⟩).elim), fun i hi _ => ?_⟩
      injection hi with hi
      subst hi
      refine ⟨fun q _ => wD _, fun r1 dx1 d1 H6 _ _ e6 F6 => ⟨r1, rfl, ?_⟩⟩
      have j6 := j5.grow e6
      have tq6 := tq5.ext e6 (by simp)
      have tr6 := tr5.ext e6 (by simp)
      clear e6 j5 tq5 tr5
      refine ⟨_, rfl, R4, _, rfl, tq6, wMp (· / dv), Nat.le_trans (lMp (· / dv)) (by decide), j6.tb, fun r7 H7 _ e7 d7 tb7 => ?_⟩
      have F7 := fm_rows F6 j6.tb e7
      have tr7 := tms_rows tr6 j6.tb e7
      have j7 := j6.rows e7 tb7
      clear e7 tb7 j6 tq6 tr6 F6
      refine ⟨r1, dx1, d1, r7, _, rfl, F7, d7, Nat.le_trans (lTp (· / dv)) (by decide), fun H8 e8 => ⟨_, rfl, iteF ?_⟩⟩
      have j8 := j7.grow e8
      have tr8 := tr7.ext e8 (by simp)
      clear e8 j7 tr7 F7 d7
      first | (unfold tNext; dsimp only) | dsimp only
      -- remainders
      refine ⟨_, rfl, _, rfl, fo, fx, _, rfl, .int _, j8.F.ob, fo, fx, fd, _, .int dv, rfl, j8.F, by omega, .int _, (fun hb => (hb ⟨dv, rfl, by omega⟩).elim), fun i hi _ => ?_⟩
      injection hi with hi
      subst hi
      refine ⟨fun q _ => trivial, fun r2 dx2 d2 H9 _ _ e9 F9 => ⟨r2, rfl, ?_⟩⟩
      have j9 := j8.grow e9
      have tr9 := tr8.ext e9 (by simp)
      clear e9 j8 tr8
      refine ⟨_, rfl, R5, _, rfl, tr9, wMp (· % dv), Nat.le_trans (lMp (· % dv)) (by decide), j9.tb, fun r10 H10 _ e10 d10 tb10 => ?_⟩
      have F10 := fm_rows F9 j9.tb e10
      have j10 := j9.rows e10 tb10
      clear e10 tb10 j9 tr9 F9
      refine ⟨r2, dx2, d2, r10, _, rfl, F10, d10, Nat.le_trans (lTp (· % dv)) (by decide), fun H11 e11 => ⟨_, rfl, iteF ?_⟩⟩
      have j11 := j10.grow e11
      clear e11 j10 F10 d10
      first | (unfold tNext; dsimp only) | dsimp only
      -- together
      refine ⟨_, rfl, _, rfl, fo, fx, _, rfl, .int _, j11.F.ob, fo, fx, fd, _, .int dv, rfl, j11.F, by omega, .int _, (fun hb => (hb ⟨dv, rfl, by omega⟩).elim), fun i hi _ => ?_⟩
      injection hi with hi
      subst hi
      refine ⟨fun q _ => wD _, fun r3 dx3 d3 H12 _ _ e12 F12 => ⟨r3, rfl, ?_⟩⟩
      have j12 := j11.grow e12
      clear e12 j11
      refine ⟨_, rfl, r3, dx3, _, dv, rfl, rfl, F12.ob, r3, dx3, d3, _, dv, rfl, F12, Nat.le_trans (lTp (· / dv)) (by decide), (fun q _ => .inr ⟨by omega, by omega⟩), fun r4 dx4 d4 H13 _ _ e13 F13 => ⟨r4, rfl, ?_⟩⟩
      have j13 := j12.grow e13
      clear e13 j12 F12
      refine ⟨_, rfl, _, rfl, fo, fx, _, rfl, .int _, j13.F.ob, fo, fx, fd, _, .int dv, rfl, j13.F, by omega, .int _, (fun hb => (hb ⟨dv, rfl, by omega⟩).elim), fun i hi _ => ?_⟩
      injection hi with hi
      subst hi
      refine ⟨fun q _ => trivial, fun r5 dx5 d5 H14 _ _ e14 F14 => ⟨r5, rfl, ?_⟩⟩
      have F134 := F13.ext e14 (by simp) (by simp)
      have j14 := j13.grow e14
      clear e14 j13 F13
      have l13 : (tidyD (sumN (mapN (fun z => z * dv) (tidyD (sumN (mapN (fun z => z / dv) (tidyD (sumN qs)))))))).length ≤ 400 := Nat.le_trans len_tidy (Nat.le_trans (len_sumN _) (by rw [List.length_map]; exact Nat.le_trans (lTp (· / dv)) (by decide)))
      refine ⟨r4, dx4, _, r5, dx5, _, rfl, rfl, F134.ob, F14.ob, r4, dx4, d4, _, r5, dx5, d5, _, rfl, F134, F14, l13, Nat.le_trans (lTp (· % dv)) (by decide), fun r6 dx6 d6 H15 _ e15 F15 => ⟨r6, rfl, ?_⟩⟩
      have F15' : FmAt (cF K) H15 r6 dx6 d6 (tidyD (sumN qs)) := by
        rw [← quo_rem hd wA]
        exact F15
      have j15 := j14.grow e15
      clear e15 j14 F14 F134 F15
      refine ⟨_, rfl, r6, dx6, _, fo, rfl, rfl, F15'.ob, .inl ⟨_, _, j15.F.ob⟩, r6, fo, dx6, d6, _, rfl, F15', .inl ⟨fx, fd, _, j15.F, ?_⟩⟩
      rw [eqN_refl (nodup_tidyD (nodup_sumN _))]
      refine ⟨_, rfl, _, rfl, iteF ?_⟩
      exact ⟨_, _, _, _, _, _, _, _, _, _, _, rfl, j15, fun _ => ⟨dv, rfl, hd, hd2⟩⟩
    · clear j6
      rintro σ' H0 ⟨x5, x6, x7, x8, x9, x10, x11, x12, x13, x14, x15, rfl, j0, hdv⟩
      obtain ⟨dv, h6, hd, hd2⟩ := hdv (by decide)
      subst h6
      dsimp only
      -- the shift
      have p9 : CPow 10 9 := ⟨by decide, by decide, by decide⟩
      obtain ⟨cells, ci, ck, cg, hS, hL, _⟩ := id j0.s
      refine ⟨_, rfl, 10, 9, rfl, rfl, p9, _, rfl, S, _, 0, .ref L, rfl, rfl, SqL.of hS, rfl, L, cells, rfl, SqL.of hL, cells.sum, rfl, 1, _, rfl, rfl, by show 3 ≤ sizeLine; decide, fun b hb => ?_⟩
      dsimp only
      have hmm : (0 : Int) < 1 + (if cells.sum < 0 then -cells.sum else cells.sum) := by split <;> omega
      generalize 1 + (if cells.sum < 0 then -cells.sum else cells.sum) = big at hmm ⊢
      have eb : Ext [] H0 (upd H0 b (.lst [.int 3, .int ((10 : Int) ^ (9 : Int).toNat), .int big])) := Ext.new hb
      have hb1 : (upd H0 b (.lst [.int 3, .int ((10 : Int) ^ (9 : Int).toNat), .int big])) b = some (.lst [.int 3, .int ((10 : Int) ^ (9 : Int).toNat), .int big]) := upd_same
      have bS : b ≠ S := (src_ne_new j0.s hb).1
      have j1 := j0.grow eb
      clear eb hb hS hL j0
      generalize upd H0 b (.lst [.int 3, .int ((10 : Int) ^ (9 : Int).toNat), .int big]) = H1 at hb1 j1 ⊢
      refine draw_ex (i := 1) rfl j1.s (by decide) (by decide) val_c (fun n H2 n0 n1 e2 s2 => ?_)
      have hb2 := e2.keep _ _ hb1 (by simpa using bS)
      have j2 := j1.draw e2 s2
      clear e2 s2 j1 hb1 bS
      obtain ⟨m, hz, m0⟩ : ∃ m : Int, atI [V.int 3, .int ((10 : Int) ^ (9 : Int).toNat), .int big] n = some (.int m) ∧ 0 < m := by
        have : n = 0 ∨ n = 1 ∨ n = 2 := by omega
        rcases this with rfl | rfl | rfl
        · exact ⟨3, rfl, by decide⟩
        · exact ⟨_, rfl, by decide⟩
        · exact ⟨big, rfl, hmm⟩
      refine ⟨b, _, n, .int m, rfl, rfl, SqL.of hb2, hz, S, L, m, rfl, j2.s, m0, fun sh' H3 sh0 _ e3 s3 => ?_⟩
      have j3 := j2.draw e3 s3
      clear e3 s3 j2 hb2 hz hmm n0 n1
      obtain ⟨sh, rfl⟩ := Int.eq_ofNat_of_zero_le sh0
      clear sh0
      refine gset ?_
      try dsimp only
      obtain ⟨us, hus, hpu⟩ := id j3.d
      have hul : us.length = (tidyD (sumN qs)).length := Paired.length hpu
      refine ⟨_, rfl, r, rfl, ⟨_, SqL.of hus⟩, fun R7 hR7 => lc_list (xs := us.map V.ref) (fun i G => Ext [] H3 G ∧ ∃ vs : List Addr, G R7 = some (.lst (vs.map V.ref)) ∧ Paired (tmR G) vs (((tidyD (sumN qs)).take i).map fun q => (((q.1.1, q.1.2 + sh), q.2) : Nm))) ⟨Ext.new hR7, [], upd_same, .nil⟩ ?_ ?_ ?_⟩
      · rintro i G _ ⟨e, _⟩
        exact SqL.of (e.keep _ _ hus (by simp))
      · rintro i y G hy ⟨e, vs, hvs, hpv⟩
        rw [List.getElem?_map] at hy
        obtain ⟨u, hu1, rfl⟩ := Option.map_eq_some_iff.mp hy
        obtain ⟨q0, hq0, hrr⟩ := paired_getX hpu hu1
        have hi : i < us.length := (List.getElem?_eq_some_iff.mp hu1).1
        obtain ⟨aa, g1, g2⟩ := hrr.ext e
        refine ⟨wipe1, ?_⟩
        refine tyes ?_
        refine ⟨_, rfl, u, _, 0, .ref aa, rfl, rfl, .inl (.inl g1), rfl, aa, _, 0, .str q0.1.1, rfl, rfl, .inl (.inl g2), rfl, _, rfl, u, _, 0, .ref aa, rfl, rfl, .inl (.inl g1), rfl, aa, _, 1, .int (q0.1.2 : Int), rfl, rfl, .inl (.inl g2), rfl, _, rfl, (q0.1.2 : Int), (sh : Int), rfl, rfl, by show 2 ≤ sizeLine; decide, fun tA hA => ?_⟩
        have eG : Ext [] G (upd G tA (.tup [.str q0.1.1, .int ((q0.1.2 : Int) + (sh : Int))])) := Ext.new hA
        have gA : isAmt (upd G tA (.tup [.str q0.1.1, .int ((q0.1.2 : Int) + (sh : Int))])) tA (q0.1.1, q0.1.2 + sh) := by
          show upd G tA _ tA = _
          rw [upd_same]
          rfl
        have g1' := eG.tups _ _ g1
        generalize hGX : upd G tA (.tup [.str q0.1.1, .int ((q0.1.2 : Int) + (sh : Int))]) = GX at eG gA g1' ⊢
        refine ⟨_, rfl, u, _, 1, .int q0.2, rfl, rfl, .inl (.inl g1'), rfl, by show 2 ≤ sizeLine; decide, fun t ht => ?_⟩
        have et : Ext [] GX (upd GX t (.tup [.ref tA, .int (q0.2)])) := Ext.new ht
        have new : tmR (upd GX t (.tup [.ref tA, .int (q0.2)])) t ((fun q : Nm => (((q.1.1, q.1.2 + sh), q.2) : Nm)) q0) := ⟨tA, upd_same, et.tups _ _ gA⟩
        have hvs2 := (eG.trans et).keep _ _ hvs (by simp)
        have hpv2 := paired_mono (fun _ _ h => tmR.ext h (eG.trans et)) hpv
        have e2 := e.trans (eG.trans et)
        generalize upd GX t (.tup [.ref tA, .int (q0.2)]) = G2 at new hvs2 hpv2 e2 ⊢
        have hlv : vs.length = _ := Paired.length hpv2
        rw [List.length_map, List.length_take] at hlv
        have eR7 : Ext [R7] G2 (upd G2 R7 (.lst (vs.map V.ref ++ [.ref t]))) := ext_at fun xs z => by rw [hvs2] at z; cases z
        refine ⟨vs.map V.ref, hvs2, by rw [List.length_map]; exact Evl.sz_lt (by omega), e2.fresh hR7, vs ++ [t], by rw [upd_same, List.map_append]; rfl, ?_⟩
        rw [take_snoc hq0, List.map_append]
        exact pair_snoc (new.ext eR7) (paired_mono (fun _ _ h => tmR.ext h eR7) hpv2)
      rintro H4 ⟨e, vs, hvs, hpv⟩
      rw [List.length_map, hul, List.take_length] at hpv
      have ts4 : TmsAt H4 R7 ((tidyD (sumN qs)).map fun q => (((q.1.1, q.1.2 + sh), q.2) : Nm)) := ⟨vs, hvs, hpv⟩
      have j4 := j3.grow e

      clear hus hpu hul hvs hpv e j3 hR7 vs us
      refine gset ?_
      try dsimp only
      have wSh : ∀ q ∈ (tidyD (sumN qs)).map (fun q : Nm => (((q.1.1, q.1.2 + sh), q.2) : Nm)), wdO q.1.1 := fun q hq => by
        obtain ⟨r, hr, rfl⟩ := List.mem_map.mp hq
        exact wN r hr
      refine ⟨_, rfl, _, rfl, fo, fx, _, rfl, .int _, j4.F.ob, fo, fx, fd, _, .int (sh : Int), rfl, j4.F, by omega, .int _, (fun hb => (hb ⟨sh, rfl, by omega⟩).elim), fun i hi _ => ?_⟩
      injection hi with hi
      subst hi
      refine ⟨fun q _ => trivial, fun r1 dx1 d1 H5 _ _ e5 F5 => ⟨r1, rfl, ?_⟩⟩
      have F5' : FmAt (cF K) H5 r1 dx1 d1 ((tidyD (sumN qs)).map fun q => ((q.1.1, q.1.2 + sh), q.2)) := by
        rw [← fix_shift wA]
        exact F5
      have ts5 := ts4.ext e5 (by simp)
      have j5 := j4.grow e5
      clear e5 j4 ts4 F5
      have lSh : ((tidyD (sumN qs)).map fun q => (((q.1.1, q.1.2 + sh), q.2) : Nm)).length ≤ 9 := by rw [List.length_map]; exact lenN
      refine ⟨_, rfl, r1, dx1, d1, R7, _, rfl, F5', ts5, by omega, fun H6 e6 => ⟨_, rfl, iteF ?_⟩⟩
      have j6 := j5.grow e6
      clear e6 j5 F5' ts5
      first | (unfold tNext; dsimp only) | dsimp only
      -- the absolute numbers
      obtain ⟨us, hus, hpu⟩ := id j6.d
      have hul : us.length = (tidyD (sumN qs)).length := Paired.length hpu
      refine ⟨_, rfl, r, rfl, ⟨_, SqL.of hus⟩, fun R8 hR8 => lc_list (xs := us.map V.ref) (fun i G => Ext [] H6 G ∧ ∃ vs : List Addr, G R8 = some (.lst (vs.map V.ref)) ∧ Paired (tmR G) vs (((tidyD (sumN qs)).take i).map fun q => ((q.1, if 0 - q.2 > q.2 then 0 - q.2 else q.2) : Nm))) ⟨Ext.new hR8, [], upd_same, .nil⟩ ?_ ?_ ?_⟩
      · rintro i G _ ⟨e, _⟩
        exact SqL.of (e.keep _ _ hus (by simp))
      · rintro i y G hy ⟨e, vs, hvs, hpv⟩
        rw [List.getElem?_map] at hy
        obtain ⟨u, hu1, rfl⟩ := Option.map_eq_some_iff.mp hy
        obtain ⟨q0, hq0, hrr⟩ := paired_getX hpu hu1
        have hi : i < us.length := (List.getElem?_eq_some_iff.mp hu1).1
        obtain ⟨aa, g1, g2⟩ := hrr.ext e
        refine ⟨wipe1, ?_⟩
        refine tyes ?_
        refine ⟨_, rfl, u, _, 0, .ref aa, rfl, rfl, .inl (.inl g1), rfl, _, rfl, u, _, 1, .int q0.2, rfl, rfl, .inl (.inl g1), rfl, _, rfl, u, _, 1, .int q0.2, rfl, rfl, .inl (.inl g1), rfl, 0, q0.2, rfl, rfl, q0.2, 0 - q0.2, rfl, by show 2 ≤ sizeLine; decide, fun t ht => ?_⟩
        have eG : Ext [] G G := Ext.refl
        have gA : isAmt G aa q0.1 := g2
        have et : Ext [] G (upd G t (.tup [.ref aa, .int (if 0 - q0.2 > q0.2 then 0 - q0.2 else q0.2)])) := Ext.new ht
        have new : tmR (upd G t (.tup [.ref aa, .int (if 0 - q0.2 > q0.2 then 0 - q0.2 else q0.2)])) t ((fun q : Nm => ((q.1, if 0 - q.2 > q.2 then 0 - q.2 else q.2) : Nm)) q0) := ⟨aa, upd_same, et.tups _ _ gA⟩
        have hvs2 := (eG.trans et).keep _ _ hvs (by simp)
        have hpv2 := paired_mono (fun _ _ h => tmR.ext h (eG.trans et)) hpv
        have e2 := e.trans (eG.trans et)
        generalize upd G t (.tup [.ref aa, .int (if 0 - q0.2 > q0.2 then 0 - q0.2 else q0.2)]) = G2 at new hvs2 hpv2 e2 ⊢
        have hlv : vs.length = _ := Paired.length hpv2
        rw [List.length_map, List.length_take] at hlv
        have eR8 : Ext [R8] G2 (upd G2 R8 (.lst (vs.map V.ref ++ [.ref t]))) := ext_at fun xs z => by rw [hvs2] at z; cases z
        refine ⟨vs.map V.ref, hvs2, by rw [List.length_map]; exact Evl.sz_lt (by omega), e2.fresh hR8, vs ++ [t], by rw [upd_same, List.map_append]; rfl, ?_⟩
        rw [take_snoc hq0, List.map_append]
        exact pair_snoc (new.ext eR8) (paired_mono (fun _ _ h => tmR.ext h eR8) hpv2)
      rintro H7 ⟨e, vs, hvs, hpv⟩
      rw [List.length_map, hul, List.take_length] at hpv
      have ta7 : TmsAt H7 R8 ((tidyD (sumN qs)).map fun q => ((q.1, if 0 - q.2 > q.2 then 0 - q.2 else q.2) : Nm)) := ⟨vs, hvs, hpv⟩
      have j7 := j6.grow e

      clear hus hpu hul hvs hpv e j6 hR8 vs us
      refine gset ?_
      try dsimp only
      have era : ∀ z : Int, (if 0 - z > z then 0 - z else z) = if z < 0 then -z else z := fun z => by split <;> split <;> omega
      simp only [era] at ta7
      refine ⟨_, rfl, fo, fx, _, rfl, j7.F.ob, fo, fx, fd, _, 0, rfl, j7.F, by omega, (fun _ _ => trivial), fun r2 dx2 d2 H8 _ _ e8 F8 => ⟨r2, rfl, ?_⟩⟩
      have F8' : FmAt (cF K) H8 r2 dx2 d2 ((tidyD (sumN qs)).map fun q => (q.1, if q.2 < 0 then -q.2 else q.2)) := by
        rw [← fix_map (f := fun z => if z < 0 then -z else z) wA fun z hz => by split <;> omega]
        exact F8
      have ta8 := ta7.ext e8 (by simp)
      have j8 := j7.grow e8
      clear e8 j7 ta7 F8
      refine ⟨_, rfl, r2, dx2, d2, R8, _, rfl, F8', ta8, by rw [List.length_map]; omega, fun H9 e9 => ⟨_, rfl, iteF ?_⟩⟩
      have j9 := j8.grow e9
      clear e9 j8 F8' ta8
      refine ⟨_, rfl, fo, fx, _, rfl, .int _, j9.F.ob, fo, fx, fd, _, .int 0, rfl, j9.F, by omega, .int _, (fun hb => (hb ⟨0, rfl, by omega⟩).elim), fun i hi _ => ?_⟩
      injection hi with hi
      subst hi
      refine ⟨fun q _ => trivial, fun r3 dx3 d3 H10 _ _ e10 F10 => ⟨r3, rfl, ?_⟩⟩
      have F10' : FmAt (cF K) H10 r3 dx3 d3 (tidyD (sumN qs)) := by
        have h : tidyD (sumN (shN (0 : Int).toNat (tidyD (sumN qs)))) = tidyD (sumN qs) := by
          rw [show shN (0 : Int).toNat (tidyD (sumN qs)) = tidyD (sumN qs) from by
            show (tidyD (sumN qs)).map (fun q : Nm => (((q.1.1, q.1.2 + 0), q.2) : Nm)) = _
            rw [show (fun q : Nm => (((q.1.1, q.1.2 + 0), q.2) : Nm)) = id from funext fun q => by simp]
            exact List.map_id _]
          exact sum_tidy wA
        rw [← h]
        exact F10
      have j10 := j9.grow e10
      clear e10 j9 F10
      refine ⟨_, rfl, r3, dx3, d3, r, _, rfl, F10', j10.d, by omega, fun H11 e11 => ⟨_, rfl, iteF ?_⟩⟩
      have j11 := j10.grow e11
      clear e11 j10 F10'
      first | (unfold tNext; dsimp only) | dsimp only
      -- what no number of these may be
      have p20 : CPow 10 20 := ⟨by decide, by decide, by decide⟩
      unfold tSeq
      dsimp only
      unfold tAsg
      dsimp only
      have m6 : ∀ σ : L2.St, σ[9]? = some (some (.int (sh : Int))) → Mks H11 (tOp (rI0 fun i j => V.int (i - j)) (tOp (rI0 fun i j => V.int (i - j)) (tC (V.int 0)) (tOp (rI CPow fun i j => V.int (i ^ j.toNat)) (tC (V.int 10)) (tC (V.int 20)))) (tVar 9)) σ (.int (0 - (10 : Int) ^ (20 : Int).toNat - (sh : Int))) := fun σ h => mk_of (fun _ => val_int (f := fun i j => V.int (i - j)) (val_int (f := fun i j => V.int (i - j)) val_c (val_intC (f := fun i j => V.int (i ^ j.toNat)) val_c val_c p20)) (val_var h)) (fun _ _ => av_int _)
      refine (show MksA H11 _ [some (.ref a), some (.ref S), some (.ref l), some (.ref fo), some (.ref r), x5, some (.int dv), x7, x8, some (.int (sh : Int)), some (.ref R7), some (.ref R8), x12, x13, x14, x15] (badsP sh) by exact (mka_cons (mk_of (v := .int (0 - 1)) (fun _ => val_int (f := fun i j => V.int (i - j)) val_c val_c) (fun _ _ => av_int _)) (mka_cons (mk_c fun _ => av_non) (mka_cons (mk_c fun _ => av_bl _) (mka_cons (mk_c fun _ => av_str (by decide +kernel) (by decide +kernel)) (mka_cons (mk_tup (mka_cons (mk_c fun _ => av_int _) mka_nil) (by decide) ⟨by decide +kernel, by simp [PyData.depth, PyData.depthAll]⟩) (mka_cons (m6 _ rfl) (mka_cons (mk_c fun _ => av_bl _) mka_nil)))))))) H11 _ Ext.refl fun ws H12 e12 aW => ?_
      have nw : ws.length = 7 := pav_len aW
      refine ⟨by rw [nw]; decide, fun p hp => ?_⟩
      have j12 := j11.grow e12
      have pS : p ≠ S := (src_ne_new j12.s hp).1
      have e13 : Ext [] H12 (upd H12 p (.lst ws)) := Ext.new hp
      have hpw : (upd H12 p (.lst ws)) p = some (.lst ws) := upd_same
      have j13 := j12.grow e13
      have aW13 := pav_ext e13 aW
      clear e12 e13 hp aW j11 j12
      generalize upd H12 p (.lst ws) = H13 at hpw j13 aW13 ⊢
      refine gset ?_
      try dsimp only
      refine ⟨3, rfl, by decide, by decide, for_range (n := 3) (fun i σ' H' => ∃ x13, σ' = [some (.ref a), some (.ref S), some (.ref l), some (.ref fo), some (.ref r), x5, some (.int dv), x7, x8, some (.int (sh : Int)), some (.ref R7), some (.ref R8), some (.ref p), x13, x14, x15] ∧ F3 K Pt H' S L l fo fx fd r qs ∧ H' p = some (.lst ws) ∧ Paired (Av H') ws (badsP sh)) ⟨_, rfl, j13, hpw, aW13⟩ ?_ ?_⟩
      · clear j13 hpw aW13
        rintro k σ' G hk ⟨x13, rfl, j14, hpw, aW14⟩
        refine gset ?_
        dsimp only
        try simp only [Int.zero_add]
        refine ⟨_, rfl, _, rfl, _, rfl, S, L, 7, rfl, j14.s, by decide, by decide, fun n G2 n0 n1 e15 s15 => ?_⟩
        have j15 := j14.draw e15 s15
        have hpw2 := e15.keep _ _ hpw (by simpa using pS)
        have aW15 := paired_mono (fun _ _ h => Av.ext h e15) aW14
        obtain ⟨m, em⟩ := Int.eq_ofNat_of_zero_le (Int.emod_nonneg (n + (k : Int)) (show (7 : Int) ≠ 0 by decide))
        have em1 := Int.emod_lt_of_pos (n + (k : Int)) (show (0 : Int) < 7 by decide)
        have hm1 : m < ws.length := by omega
        obtain ⟨wd, hwd, aV⟩ := paired_getX aW15 (List.getElem?_eq_getElem hm1)
        have wV := List.mem_of_getElem? hwd
        refine ⟨_, rfl, n, (k : Int), rfl, rfl, n + (k : Int), 7, rfl, rfl, (show (0 : Int) < 7 by decide), p, _, _, ws[m], rfl, rfl, SqL.of hpw2, by rw [em]; exact atI_nat (List.getElem?_eq_getElem hm1), ?_⟩
        generalize ws[m] = vw at aV
        have bad : (k ≤ 1 ∧ ¬ leastOk 1 vw) ∨ (k = 2 ∧ ¬ leastOk 0 vw) := by
          by_cases h : k ≤ 1
          · exact .inl ⟨h, badsP_ok (by decide) aV wV⟩
          · exact .inr ⟨by omega, badsP_ok (by decide) aV wV⟩
        refine ⟨_, rfl, fo, fx, fd, _, vw, wd, k, rfl, j15.F, by omega, aV, by omega, bad, fun G3 e16 => ⟨_, rfl, iteF ?_⟩⟩
        have j16 := j15.grow e16
        exact ⟨_, rfl, j16, e16.keep _ _ hpw2 (by simp), pav_ext e16 aW15⟩
      · clear j13 hpw aW13 pS nw
        rintro σ' G ⟨x13, rfl, j14, hpw, aW14⟩
        clear hpw aW14
        dsimp only
        refine ⟨_, rfl, fo, fx, fd, _, .int 0, .int 0, 0, rfl, j14.F, by omega, av_int 0, by decide, .inl ⟨by decide, fun ⟨i, e, h⟩ => by cases e; omega⟩, fun G2 e15 => ?_⟩
        have j15 := j14.grow e15
        clear e15 j14
        refine ⟨_, rfl, iteF ?_⟩
        refine ⟨_, rfl, fo, fx, fd, _, .int 0, .int 0, 1, rfl, j15.F, by omega, av_int 0, by decide, .inl ⟨by decide, fun ⟨i, e, h⟩ => by cases e; omega⟩, fun G3 e16 => ?_⟩
        have j16 := j15.grow e16
        clear e16 j15
        refine ⟨_, rfl, iteF ?_⟩
        first | (unfold tNext; dsimp only) | dsimp only | skip
        have lM : ∀ f : Int → Int, (tidyD (sumN (mapN f (tidyD (sumN qs))))).length ≤ 9 := fun f => Nat.le_trans len_tidy (Nat.le_trans (len_sumN _) (by rw [List.length_map]; exact lenN))
        have lS : ∀ k : Nat, (tidyD (sumN (shN k (tidyD (sumN qs))))).length ≤ 9 := fun k => Nat.le_trans len_tidy (Nat.le_trans (len_sumN _) (by rw [List.length_map]; exact lenN))
        have w1 : ∀ z : Int, CDivW z 1 := fun z => wide_div (b := 50) (by decide) (by decide) (by decide) (by decide)
        have wD : ∀ z : Int, CDivW z dv := fun z => wide_div (b := 50) hd (by omega) (by decide) (by decide)
        have p40 : CPow 10 40 := ⟨by decide, by decide, by decide⟩
        have md0 : Mds K G3 fo 9 [] := fun m hm => nomatch hm
        refine ⟨_, rfl, fo, fx, _, rfl, .int _, j16.F.ob, fo, fx, fd, _, .int 1, rfl, j16.F, by omega, .int _, (fun hb => (hb ⟨_, rfl, by decide⟩).elim), fun i hi _ => ?_⟩
        injection hi with hi
        subst hi
        refine ⟨fun q _ => w1 _, fun m1 mx1 mD1 G4 hm _ e F => ⟨m1, rfl, ?_⟩⟩
        have md1 := (md0.ext e).snoc F (lM _) j16.F.ob hm
        have j17 := j16.grow e
        clear hm e F md0 j16
        refine ⟨_, rfl, 10, 40, rfl, rfl, p40, fo, fx, _, rfl, .int _, j17.F.ob, fo, fx, fd, _, .int ((10 : Int) ^ (40 : Int).toNat), rfl, j17.F, by omega, .int _, (fun hb => (hb ⟨_, rfl, by decide⟩).elim), fun i hi _ => ?_⟩
        injection hi with hi
        subst hi
        refine ⟨fun q _ => trivial, fun m2 mx2 mD2 G5 hm _ e F => ⟨m2, rfl, ?_⟩⟩
        have md2 := (md1.ext e).snoc F (lM _) j17.F.ob hm
        have j18 := j17.grow e
        clear hm e F md1 j17
        refine ⟨_, rfl, fo, fx, _, rfl, .int _, j18.F.ob, fo, fx, fd, _, .int 0, rfl, j18.F, by omega, .int _, (fun hb => (hb ⟨_, rfl, by decide⟩).elim), fun i hi _ => ?_⟩
        injection hi with hi
        subst hi
        refine ⟨fun q _ => trivial, fun m3 mx3 mD3 G6 hm _ e F => ⟨m3, rfl, ?_⟩⟩
        have md3 := (md2.ext e).snoc F (lS _) j18.F.ob hm
        have j19 := j18.grow e
        clear hm e F md2 j18
        refine ⟨_, rfl, fo, fx, _, rfl, j19.F.ob, fo, fx, fd, _, 0, rfl, j19.F, by omega, (fun _ _ => trivial), fun m4 mx4 mD4 G7 hm _ e F => ⟨m4, rfl, ?_⟩⟩
        have md4 := (md3.ext e).snoc F (lM _) j19.F.ob hm
        have j20 := j19.grow e
        clear hm e F md3 j19
        refine ⟨_, rfl, _, rfl, fo, fx, _, rfl, .int _, j20.F.ob, fo, fx, fd, _, .int dv, rfl, j20.F, by omega, .int _, (fun hb => (hb ⟨_, rfl, by omega⟩).elim), fun i hi _ => ?_⟩
        injection hi with hi
        subst hi
        refine ⟨fun q _ => wD _, fun m5 mx5 mD5 G8 hm _ e F => ⟨m5, rfl, ?_⟩⟩
        have md5 := (md4.ext e).snoc F (lM _) j20.F.ob hm
        have j21 := j20.grow e
        clear hm e F md4 j20
        refine ⟨_, rfl, _, rfl, fo, fx, _, rfl, .int _, j21.F.ob, fo, fx, fd, _, .int dv, rfl, j21.F, by omega, .int _, (fun hb => (hb ⟨_, rfl, by omega⟩).elim), fun i hi _ => ?_⟩
        injection hi with hi
        subst hi
        refine ⟨fun q _ => trivial, fun m6 mx6 mD6 G9 hm _ e F => ⟨m6, rfl, ?_⟩⟩
        have md6 := (md5.ext e).snoc F (lM _) j21.F.ob hm
        have j22 := j21.grow e
        clear hm e F md5 j21
        refine ⟨_, rfl, _, rfl, fo, fx, _, rfl, .int _, j22.F.ob, fo, fx, fd, _, .int (sh : Int), rfl, j22.F, by omega, .int _, (fun hb => (hb ⟨_, rfl, by omega⟩).elim), fun i hi _ => ?_⟩
        injection hi with hi
        subst hi
        refine ⟨fun q _ => trivial, fun m7 mx7 mD7 G10 hm _ e F => ⟨m7, rfl, ?_⟩⟩
        have md7 := (md6.ext e).snoc F (lS _) j22.F.ob hm
        have j23 := j22.grow e
        clear hm e F md6 j22
        simp only [List.nil_append, List.cons_append] at md7
        refine ⟨by show 7 ≤ sizeLine; decide, fun ml hml => ?_⟩
        have e24 : Ext [] G10 (upd G10 ml (.lst [.ref m1, .ref m2, .ref m3, .ref m4, .ref m5, .ref m6, .ref m7])) := Ext.new hml
        have hL23 : (upd G10 ml (.lst [.ref m1, .ref m2, .ref m3, .ref m4, .ref m5, .ref m6, .ref m7])) ml = some (.lst ([m1, m2, m3, m4, m5, m6, m7].map V.ref)) := upd_same
        have j24 := j23.grow e24
        have md8 := md7.ext e24
        clear e24 hml md7 j23
        have lml0 : [m1, m2, m3, m4, m5, m6, m7].length = 7 := rfl
        obtain ⟨ml2, hL24, md8, lml⟩ : ∃ ml2 : List Addr, (upd G10 ml (.lst [.ref m1, .ref m2, .ref m3, .ref m4, .ref m5, .ref m6, .ref m7])) ml = some (.lst (ml2.map V.ref)) ∧ Mds K (upd G10 ml (.lst [.ref m1, .ref m2, .ref m3, .ref m4, .ref m5, .ref m6, .ref m7])) fo 9 ml2 ∧ ml2.length = 7 := ⟨_, hL23, md8, rfl⟩
        clear hL23 lml0
        refine ⟨ml, rfl, ⟨_, SqL.of hL24⟩, for_list (xs := ml2.map V.ref) (g := gName 14) (tb := tAsg (tC (V.int 7)) (gSub (tVar 14) (tTup (tCons (tC (V.str "take")) (tCons (tC (V.int 5)) tNil))) (rSetO (cF K) (spFmSet K (cF K)) E0))) (D := { nx := tRet (tCall (spLShows (cF K)) [] E0 (tCons (tVar 3) (tCons (tVar 4) tNil))) { nx := fun x H' => Q V.non H', rt := Q }, rt := Q }) (fun i σ' H' => ∃ x14, σ' = [some (.ref a), some (.ref S), some (.ref l), some (.ref fo), some (.ref r), x5, some (.int dv), x7, x8, some (.int (sh : Int)), some (.ref R7), some (.ref R8), some (.ref p), x13, x14, x15] ∧ F3 K Pt H' S L l fo fx fd r qs ∧ H' ml = some (.lst (ml2.map V.ref)) ∧ Mds K H' fo (9 + i) ml2) ⟨_, rfl, j24, hL24, md8⟩ ?_ ?_ ?_⟩
        · rintro i σ' H' _ ⟨_, _, _, g, _⟩
          exact SqL.of g
        · clear j24 hL24 md8
          rintro i y σ' H' hy ⟨x14, rfl, j25, hL25, md9⟩
          rw [List.getElem?_map] at hy
          obtain ⟨m, hm1, rfl⟩ := Option.map_eq_some_iff.mp hy
          have hi : i < 7 := by rw [← lml]; exact (List.getElem?_eq_some_iff.mp hm1).1
          obtain ⟨mfo, mx, mD, mns, FM, lmn⟩ := md9 m (List.mem_of_getElem? hm1)
          refine gset ?_
          try dsimp only
          refine ⟨_, rfl, by show 2 ≤ sizeLine; decide, fun t ht => ?_⟩
          have e26 : Ext [] H' (upd H' t (.tup [.str "take", .int 5])) := Ext.new ht
          have at26 : isAmt (upd H' t (.tup [.str "take", .int 5])) t ("take", 5) := by
            show upd H' t _ t = _
            rw [upd_same]
            rfl
          have j26 := j25.grow e26
          have hL26 := e26.keep _ _ hL25 (by simp)
          have md10 := md9.ext e26
          have FM26 := FM.ext e26 (by simp) (by simp)
          clear e26 ht j25 hL25 md9 FM hy hm1
          generalize upd H' t (.tup [.str "take", .int 5]) = H6 at at26 j26 hL26 md10 FM26 ⊢
          have wT : wdO ("take" : Str) := .inl rfl
          refine ⟨m, mx, _, rfl, FM26.ob, m, mx, mD, _, .ref t, dAmt ("take", 5), .int 7, rfl, FM26, by omega, amt_av at26 wT, .int _, (fun hb => by rw [amtB_amt wT] at hb; cases hb), (fun _ hw => nomatch hw), fun _ n' hn' da' H7 _ e27 F27 => ?_⟩
          exact ⟨_, rfl, j26.other FM26.ob (Ne.symm mfo) e27, e27.keep _ _ hL26 (by simpa using ne_kind hL26 FM26.ob fun z => nomatch z), by
            rw [← Nat.add_assoc]
            exact md10.set FM26.ob e27 F27 (Nat.le_trans len_tidy (Nat.le_trans len_add (by omega)))⟩
        · rintro σ' H' ⟨x14, rfl, j25, _, _⟩
          exact ⟨_, rfl, _, rfl, fo, fx, fd, r, _, rfl, j25.F, j25.d, by omega, fun H2 _ => q _⟩
end

end K3
namespace K3
open PySem PySem.Spec PyProof.Rows L2 He Tp ClX LiI
open Hd
theorem txt {K : PySem.W.Frag} {h : Heap} {mg : Str → Option Value} (X : K.In h) (G : h.Ns mainGlobals mg) (c : He.SaysD fa fn K) (x : xB K = true) (y : fxO fx K = fxV fx) : Txt K mg := by
  obtain ⟨X1, x⟩ := ba x
  obtain ⟨X2, x⟩ := ba x
  obtain ⟨X3, x⟩ := ba x
  obtain ⟨X4, x⟩ := ba x
  obtain ⟨X5, x⟩ := ba x
  obtain ⟨X6, x⟩ := ba x
  obtain ⟨X7, x⟩ := ba x
  obtain ⟨X8, x⟩ := ba x
  obtain ⟨X9, x⟩ := ba x
  obtain ⟨X10, x⟩ := ba x
  obtain ⟨X11, x⟩ := ba x
  obtain ⟨X12, X13⟩ := ba x
  exact {
    blen := He.free_ok X G (c.facts (f := .free "len") (by simp [fa]))
    babs := He.free_ok X G (c.facts (f := .free "abs") (by simp [fa]))
    bint := He.free_ok X G (c.facts (f := .free "int") (by simp [fa]))
    bisinstance := He.free_ok X G (c.facts (f := .free "isinstance") (by simp [fa]))
    ball := He.free_ok X G (c.facts (f := .free "all") (by simp [fa]))
    brange := He.free_ok X G (c.facts (f := .free "range") (by simp [fa]))
    blist := He.free_ok X G (c.facts (f := .free "list") (by simp [fa]))
    bstr := He.free_ok X G (c.facts (f := .free "str") (by simp [fa]))
    bbool := He.free_ok X G (c.facts (f := .free "bool") (by simp [fa]))
    bValueError := He.free_ok X G (c.facts (f := .free "ValueError") (by simp [fa]))
    btuple := He.free_ok X G (c.facts (f := .free "tuple") (by simp [fa]))
    bmin := He.free_ok X G (c.facts (f := .free "min") (by simp [fa]))
    bmax := He.free_ok X G (c.facts (f := .free "max") (by simp [fa]))
    bsum := He.free_ok X G (c.facts (f := .free "sum") (by simp [fa]))
    bsorted := He.free_ok X G (c.facts (f := .free "sorted") (by simp [fa]))
    benumerate := He.free_ok X G (c.facts (f := .free "enumerate") (by simp [fa]))
    bany := He.free_ok X G (c.facts (f := .free "any") (by simp [fa]))
    bzip := He.free_ok X G (c.facts (f := .free "zip") (by simp [fa]))
    bset := He.free_ok X G (c.facts (f := .free "set") (by simp [fa]))
    bdict := He.free_ok X G (c.facts (f := .free "dict") (by simp [fa]))
    biter := He.free_ok X G (c.facts (f := .free "iter") (by simp [fa]))
    gDyeError := He.glo_ok X G (c.facts (f := .glo "DyeError") (by simp [fa]))
    xDyeError := exBB_ok X1
    fDye := c.def_ 0 (d := d_DyeError___init__) rfl
    gBadNumber := He.glo_ok X G (c.facts (f := .glo "BadNumber") (by simp [fa]))
    xBadNumber := exBB_ok X2
    gBadAmount := He.glo_ok X G (c.facts (f := .glo "BadAmount") (by simp [fa]))
    xBadAmount := exBB_ok X3
    gis_whole := He.glo_ok X G (c.facts (f := .glo "is_whole") (by simp [fa]))
    fis_whole := c.def_ 1 (d := d_is_whole) rfl
    gis_amount := He.glo_ok X G (c.facts (f := .glo "is_amount") (by simp [fa]))
    fis_amount := c.def_ 2 (d := d_is_amount) rfl
    gamount_place := He.glo_ok X G (c.facts (f := .glo "amount_place") (by simp [fa]))
    famount_place := c.def_ 3 (d := d_amount_place) rfl
    gcheck_amount := He.glo_ok X G (c.facts (f := .glo "check_amount") (by simp [fa]))
    fcheck_amount := c.def_ 4 (d := d_check_amount) rfl
    gcheck_whole := He.glo_ok X G (c.facts (f := .glo "check_whole") (by simp [fa]))
    fcheck_whole := c.def_ 5 (d := d_check_whole) rfl
    gcheck_least := He.glo_ok X G (c.facts (f := .glo "check_least") (by simp [fa]))
    fcheck_least := c.def_ 6 (d := d_check_least) rfl
    g_tidy := He.glo_ok X G (c.facts (f := .glo "_tidy") (by simp [fa]))
    f_tidy := c.def_ 7 (d := d__tidy) rfl
    g_summed := He.glo_ok X G (c.facts (f := .glo "_summed") (by simp [fa]))
    f_summed := c.def_ 8 (d := d__summed) rfl
    gForm := He.glo_ok X G (c.facts (f := .glo "Form") (by simp [fa]))
    clForm := He.cls_ok (c.facts (f := .cls "Form") (by simp [fa]))
    mk_Form := He.mkr_ok (c.facts (f := .mkr "Form") (by simp [fa]))
    nForm_numbers := He.noat_ok (c.facts (f := .noat "Form" "_numbers") (by simp [fa]))
    fFormInit := c.def_ 9 (d := d_Form___init__) rfl
    eFormInit := X4
    mForm__getitem__ := He.meth_ok (c.facts (f := .meth "Form" "__getitem__") (by simp [fa]))
    fForm__getitem__ := c.def_ 10 (d := d_Form___getitem__) rfl
    mForm__setitem__ := He.meth_ok (c.facts (f := .meth "Form" "__setitem__") (by simp [fa]))
    fForm__setitem__ := c.def_ 11 (d := d_Form___setitem__) rfl
    mForm__contains__ := He.meth_ok (c.facts (f := .meth "Form" "__contains__") (by simp [fa]))
    fForm__contains__ := c.def_ 12 (d := d_Form___contains__) rfl
    mForm__len__ := He.meth_ok (c.facts (f := .meth "Form" "__len__") (by simp [fa]))
    fForm__len__ := c.def_ 13 (d := d_Form___len__) rfl
    mForm__iter__ := He.meth_ok (c.facts (f := .meth "Form" "__iter__") (by simp [fa]))
    fForm__iter__ := c.def_ 14 (d := d_Form___iter__) rfl
    mForm__eq__ := He.meth_ok (c.facts (f := .meth "Form" "__eq__") (by simp [fa]))
    fForm__eq__ := c.def_ 15 (d := d_Form___eq__) rfl
    mForm__add__ := He.meth_ok (c.facts (f := .meth "Form" "__add__") (by simp [fa]))
    fForm__add__ := c.def_ 16 (d := d_Form___add__) rfl
    mForm__iadd__ := He.meth_ok (c.facts (f := .meth "Form" "__iadd__") (by simp [fa]))
    fForm__iadd__ := c.def_ 17 (d := d_Form___iadd__) rfl
    mForm__sub__ := He.meth_ok (c.facts (f := .meth "Form" "__sub__") (by simp [fa]))
    fForm__sub__ := c.def_ 18 (d := d_Form___sub__) rfl
    mForm__neg__ := He.meth_ok (c.facts (f := .meth "Form" "__neg__") (by simp [fa]))
    fForm__neg__ := c.def_ 19 (d := d_Form___neg__) rfl
    mForm__mul__ := He.meth_ok (c.facts (f := .meth "Form" "__mul__") (by simp [fa]))
    fForm__mul__ := c.def_ 20 (d := d_Form___mul__) rfl
    mForm__rmul__ := He.meth_ok (c.facts (f := .meth "Form" "__rmul__") (by simp [fa]))
    fForm__rmul__ := c.def_ 21 (d := d_Form___rmul__) rfl
    mForm__floordiv__ := He.meth_ok (c.facts (f := .meth "Form" "__floordiv__") (by simp [fa]))
    fForm__floordiv__ := c.def_ 22 (d := d_Form___floordiv__) rfl
    mForm__mod__ := He.meth_ok (c.facts (f := .meth "Form" "__mod__") (by simp [fa]))
    fForm__mod__ := c.def_ 23 (d := d_Form___mod__) rfl
    mForm__lshift__ := He.meth_ok (c.facts (f := .meth "Form" "__lshift__") (by simp [fa]))
    fForm__lshift__ := c.def_ 24 (d := d_Form___lshift__) rfl
    mForm__abs__ := He.meth_ok (c.facts (f := .meth "Form" "__abs__") (by simp [fa]))
    fForm__abs__ := c.def_ 25 (d := d_Form___abs__) rfl
    mForm__call__ := He.meth_ok (c.facts (f := .meth "Form" "__call__") (by simp [fa]))
    fForm__call__ := c.def_ 26 (d := d_Form___call__) rfl
    g_law_is_whole := He.glo_ok X G (c.facts (f := .glo "_law_is_whole") (by simp [fa]))
    f_law_is_whole := c.def_ 27 (d := d__law_is_whole) rfl
    g_law_source := He.glo_ok X G (c.facts (f := .glo "_law_source") (by simp [fa]))
    f_law_source := c.def_ 28 (d := d__law_source) rfl
    g_law_draw := He.glo_ok X G (c.facts (f := .glo "_law_draw") (by simp [fa]))
    f_law_draw := c.def_ 29 (d := d__law_draw) rfl
    g_law_amount := He.glo_ok X G (c.facts (f := .glo "_law_amount") (by simp [fa]))
    f_law_amount := c.def_ 30 (d := d__law_amount) rfl
    g_law_terms := He.glo_ok X G (c.facts (f := .glo "_law_terms") (by simp [fa]))
    f_law_terms := c.def_ 31 (d := d__law_terms) rfl
    g_law_sum := He.glo_ok X G (c.facts (f := .glo "_law_sum") (by simp [fa]))
    f_law_sum := c.def_ 32 (d := d__law_sum) rfl
    g_law_rows := He.glo_ok X G (c.facts (f := .glo "_law_rows") (by simp [fa]))
    f_law_rows := c.def_ 33 (d := d__law_rows) rfl
    g_law_shows := He.glo_ok X G (c.facts (f := .glo "_law_shows") (by simp [fa]))
    f_law_shows := c.def_ 34 (d := d__law_shows) rfl
    g_law_refused := He.glo_ok X G (c.facts (f := .glo "_law_refused") (by simp [fa]))
    f_law_refused := c.def_ 35 (d := d__law_refused) rfl
    gWORDS := He.glo_ok X G (c.facts (f := .glo "WORDS") (by simp [fa]))
    tWORDS := fun H => He.tupB_ok (vs := [.str "take", .str "leave"]) X5 H
    iForm := X6
    oForm := X7
    qSeer := X8
    pForm := X9
    yWORDS := X10
    kit := fun x hx y hy => of_decide_eq_true (List.all_eq_true.mp (List.all_eq_true.mp X11 x hx) y hy)
    kitV := fun x hx => of_decide_eq_true (List.all_eq_true.mp X12 x hx)
    exm := fun x hx y hy => of_decide_eq_true (List.all_eq_true.mp (List.all_eq_true.mp X13 x hx) y hy) }
theorem facts {P : Program} {w : World} {K : PySem.W.Frag} {h : Heap} {mg : Str → Option Value} {f : Addr} (X : K.In h) (G : h.Ns mainGlobals mg) (hfa : mg ("law" : Str) = some (.ref f)) (c : He.SaysD fa fn K) (x : xB K = true) (y : fxO fx K = fxV fx) (z : SaysL [tl] h K) (ht : P.given.tree = none) :
    ∃ fd : FuncData, (∀ (s : Shared) (v : Value), BindsTo s fd ⟨[v], []⟩ [("_law_script", v)]) ∧ ∀ base : Heap, K.In base → base.Ns mainGlobals mg → LamX.TabB base mg (He.cT K tl).1 (He.cT K tl).2 → FnOk P w K mg base CX0 37 f fd ["_law_script"] (spLaw K (He.cT K tl).2) := by
  obtain ⟨fd, F⟩ := c.def_ 36 (d := d_law) rfl
  have e := hfa.symm.trans (He.glo_ok X G (c.facts (f := .glo "law") (by simp [fa])))
  cases e
  have b := FunD.bindsA (ps := ["_law_script"]) F fun _ _ _ _ _ _ us hl => match us, hl with | [_], _ => rfl
  exact ⟨fd, fun s v => b s [v] rfl, fun base KB _ TB => ok_law (txt X G c x y) TB (z.own tl List.mem_cons_self) (seerB_ok (txt X G c x y).qSeer KB TB) ht F⟩
end K3
open PySem PySem.W PySem.Calls PyProof.Rows
theorem PySem.Challenge.cw_tiredpots_k03_parts_of_forms_holds : PySem.Challenge.rw_tiredpots_k03_parts_of_forms.Holds := by
  w_on; o_law
  refine HandSHeadRun.head_any (r := OpenLaw.row PySem.Challenge.rw_tiredpots_k03_parts_of_forms) (q := view (OpenLaw.row PySem.Challenge.rw_tiredpots_k03_parts_of_forms).prog [26]) (H := K3.Hd.hk) (ob := K3.Hd.ob) (M := 6000) (loose := K3.Hd.loose) (d := HandSHeadRun.topDef (OpenLaw.row PySem.Challenge.rw_tiredpots_k03_parts_of_forms).prog 26) (kwd := []) K3.Hd.ob_eq
    (by kernel_rfl) (fun s => by kernel_rfl) K3.Hd.run (by kernel_rfl) (by kernel_rfl) (by kernel_rfl) (by rfl) (by first | assumption | decide +kernel) (by decide +kernel) ⟨rfl, rfl, rfl, rfl, rfl, by decide +kernel⟩ ?hw ?hc
  case hw => w_witness2
  case hc =>
    refine LamX.walk_ofTsE (l := PySem.Challenge.rw_tiredpots_k03_parts_of_forms) (n := 63) (k := 37) (x := "_law_script") (CX := fun _ => L2.CX0) rfl (by decide) (by kernel_rfl) ⟨rfl, by decide, by decide⟩ ?F (fun _ _ _ _ _ z => z)
    intro w mg fa h Y G hmg0
    obtain ⟨K, KX, c, x, y, z⟩ := Y
    have hmg : mg ("law" : PySem.Str) = some (.ref fa) := by
      have e : (HandSHeadRun.topDef (OpenLaw.row PySem.Challenge.rw_tiredpots_k03_parts_of_forms).prog 26).name = ("law" : PySem.Str) := by kernel_rfl
      rw [← e]
      exact hmg0
    obtain ⟨fd, hb, hF⟩ := K3.facts (P := (PySem.Challenge.rw_tiredpots_k03_parts_of_forms).prog) (w := w) KX G hmg c x y z (by rfl)
    have one : ∀ p ∈ [He.cT K K3.Hd.tl], p = He.cT K K3.Hd.tl := fun p hp => List.mem_singleton.mp hp
    exact ⟨K, KX, fd, [He.cT K K3.Hd.tl], K3.spLaw K (He.cT K K3.Hd.tl).2, (fun p hp => by rw [one p hp]; exact z.empty _ List.mem_cons_self), (fun p hp => by rw [one p hp]; exact z.out _ List.mem_cons_self), (fun p hp => by rw [one p hp]; exact PySem.W.codeHd_of_K KX (z.hd _ List.mem_cons_self)), hb,
      (fun H a ns hl _ hT hS => ⟨a, ns, rfl, hS, hl, hT _ List.mem_cons_self, fun _ => rfl⟩), fun base KB G2 hT => hF base KB G2 (hT _ List.mem_cons_self)⟩
