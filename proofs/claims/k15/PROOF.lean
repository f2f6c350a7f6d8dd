import PyProof.Rows.All
import Wide.All
import OpenK.AllK
import Wide.FinOn
import KE.KStateDown
import HandS.ForMost
import HandS.ForExc
import HandS.Wide
import HandS.Defaults
import HandS.HeadHook1
import HandS.Evl
import HandS.Steps
import HandS.HeadHook2
import HandS.TryMany
import HandS.ExcField
import HandS.ExcIs
import HandS.ExcInit
import HandS.HotCalls
import HandS.IsInst
import HandS.Deep
import HandS.ListItems
import HandS.ClsMeth
import HandS.MakeKwOnly
import HandS.Star
import HandS.Property
import HandS.SortKw
import KE.DatumOrd
import HandS.IterVal
import HandS.IterNext
import KE.KOwnIter
import OpenK.KOps
import KE.KParD
import HandS.Walk
import HandS.SetKeys
import HandS.Style
import HandS.DictComp
import HandS.OwnIter
import HandS.FltList
import KE.KDictDisplayH
import PyProof.DictMoreH
import PyProof.DictFindH
import HandS.Comp
import HandS.Conv
import HandS.TupLen
import OpenK.KMeth
import PyProof.WalksMore
import PyProof.CollectIter
import KE.KUnpackStar
import PyProof.RulesMatchSeq
import PyProof.Rows.MatchSeqLen
import KE.GoesEnum
import HandS.More
import HandS.Dict
import HandS.Text
import HandS.HeadHook3
import HandS.Codes
import HandS.WordsExc
import HandS.Head0
import HandS.Head1
import HandS.Head2
import HandS.HeadEnd
import HandS.HeadHook4
import PySem.Challenge.RW_tiredpots_k15_whole_text_and_back
set_option Elab.async false
set_option linter.all false
set_option maxRecDepth 100000
set_option maxHeartbeats 0
namespace Tp
open PySem PySem.Spec PyProof.Rows L2 He
/-! ### a def of the module without defaults: its promise, ready to be called -/
structure Df (P : Program) (w : World) (K : PySem.W.Frag) (mg : Str → Option Value) (base : Heap) (CX : CXT) (k : Nat) (x : Str) (ps : List Str) (sp : Sp) : Prop where
  mg_ : mg x = some (.ref (ga K x))
  kp : PySem.W.keepIn K (.ref (ga K x)) = true
  ex : ∃ fd, FnOk P w K mg base CX k (ga K x) fd ps sp ∧ Binds K fd ps []
abbrev FnP (K : PySem.W.Frag) (x : Str) (st : Stmt) (fd : FuncData) : Prop := FunD K x x (defArgs st) (defBody st) (defScope st) [] [] (ga K x) fd
section
variable {P : Program} {w : World} {K : PySem.W.Frag} {mg : Str → Option Value} {base : Heap}
theorem Df.mk' {CX : CXT} {k : Nat} {x : Str} {ps : List Str} {sp : Sp} {st : Stmt} (hm : mg x = some (.ref (ga K x))) (hF : ∃ fd, FnP K x st fd)
    (hb : ∀ (kV doc pm : Value) (an : Option Addr) (cdv ct : Value) (us : List Value), us.length = ps.length → bindArgs (PySem.W.fnOf x x (defArgs st) (defBody st) (defScope st) .none kV doc pm an cdv ct) ⟨us, []⟩ = pure (ps.zip us))
    (h : ∀ fd, FnP K x st fd → FnOk P w K mg base CX k (ga K x) fd ps sp) : Df P w K mg base CX k x ps sp := by
  obtain ⟨fd, F⟩ := hF
  exact ⟨hm, F.kp, fd, h fd F, F.bindsN hb⟩
end
section
variable {X : Cx} {CX : CXT} {k : Nat} {x : Str} {ps : List Str} {sp : Sp} {E : XK} {e : Expr} {es : List Expr} {t : TA} {p pos : Pos}
theorem pe_cd (D : Df X.prog X.w X.K X.mg X.base CX k x ps sp) (hr : Room k X.A) (hg : Gl X x) (hx : Passes CX X E) (ha : PA X (e :: es) t) (hdb : (x == ("__debug__" : Str)) = false := by decide)
    (he : starEach (e :: es) X.env = (false, eval e X.env) :: starEach es X.env := by rfl) (hpl : (backTo pos (starEach es X.env)).any (·.1) = false := by rfl) : PE X (.Call (.Name x p) (e :: es) [] pos) (tCall sp [] E t) := by
  obtain ⟨fd, F, b⟩ := D.ex
  exact pe_call F hr hg D.mg_ D.kp b .nil hx ha hdb he hpl
end
theorem hu65_of {A : Around} {k : Nat} (hr : Room k A) : A.units + 65 < cLine := by have := hr.un; omega
/-! ### heaps -/
theorem upd_self {H : Hp} {a : Addr} {o : HO} (h : H a = some o) : upd H a o = H := by
  funext b; unfold upd; split
  · rename_i e; rw [e, h]
  · rfl
theorem upd_none_iff {H : Hp} {a b : Addr} {o : HO} : upd H a o b = none ↔ b ≠ a ∧ H b = none := by
  constructor
  · intro h
    by_cases e : b = a
    · rw [e, upd_same] at h; cases h
    · rw [upd_ne e] at h; exact ⟨e, h⟩
  · rintro ⟨e, h⟩
    rw [upd_ne e]; exact h
/-- what stands in both is the same -/
theorem Same.upd {H H' : Hp} {a : Addr} {o : HO} (s : Same H H') (h : H a = none) : Same H (L2.upd H' a o) := fun b u e => by
  rw [upd_ne (ne_of_none e h)]
  exact s b u e
/-! ### tests and joins -/
theorem ifd {p : Prop} [Decidable p] {A B : Prop} (h1 : p → A) (h2 : ¬ p → B) : if decide p = true then A else B := by
  by_cases h : p
  · rw [decide_eq_true h, if_pos rfl]; exact h1 h
  · rw [decide_eq_false h, if_neg Bool.false_ne_true]; exact h2 h
theorem ifb {b : Bool} {A B : Prop} (h1 : b = true → A) (h2 : b = false → B) : if b = true then A else B := by
  cases b with
  | true => exact h1 rfl
  | false => rw [if_neg Bool.false_ne_true]; exact h2 rfl
section
variable {σ : L2.St} {H : Hp} {ta tb : TE} {D : Ends} {t1 t2 : TS} {c t u : TT} {a b : Bool} {Q : VK}
theorem val_orV (h1 : Val ta σ H (.bl a)) (h2 : Val tb σ H (.bl b)) : Val (tOrV ta tb) σ H (.bl (a || b)) := by
  intro Q q
  refine h1 _ ⟨a, rfl, ?_⟩
  cases a with
  | true => exact q
  | false => rw [if_neg Bool.false_ne_true]; exact h2 _ q
theorem val_andV (h1 : Val ta σ H (.bl a)) (h2 : Val tb σ H (.bl b)) : Val (tAndV ta tb) σ H (.bl (a && b)) := by
  intro Q q
  refine h1 _ ⟨a, rfl, ?_⟩
  cases a with
  | true => exact h2 _ q
  | false => rw [if_neg Bool.false_ne_true]; exact q
theorem val_notV (h1 : Val ta σ H (.bl a)) : Val (tNotV ta) σ H (.bl (!a)) := fun Q q => h1 _ ⟨a, rfl, q⟩
theorem ans_or2 {b1 b2 : Bool} (h1 : Ans t σ H b1) (h2 : Ans u σ H b2) : Ans (tOr t u) σ H (b1 || b2) := by
  cases b1 with
  | true => exact ans_or1 h1
  | false => exact ans_or h1 h2
theorem st_if {b : Bool} (h : Ans c σ H b) (h1 : b = true → t1 D σ H) (h2 : b = false → t2 D σ H) : tIfS c t1 t2 D σ H := by
  refine h _ ?_
  show (if b = true then t1 D σ H else t2 D σ H)
  exact ifb h1 h2
theorem val_int {f : Int → Int → V} {x y : Int} (ha : Val ta σ H (.int x)) (hb : Val tb σ H (.int y)) : Val (tOp (rI0 f) ta tb) σ H (f x y) := val_op ha hb fun _ q => ⟨_, _, rfl, rfl, q⟩
theorem val_intC {C : Int → Int → Prop} {f : Int → Int → V} {x y : Int} (ha : Val ta σ H (.int x)) (hb : Val tb σ H (.int y)) (h : C x y) : Val (tOp (rI C f) ta tb) σ H (f x y) := val_op ha hb fun _ q => ⟨_, _, rfl, rfl, h, q⟩
theorem val_ixL {K : PySem.W.Frag} {p : Addr} {xs : List V} {i : Int} {v : V} (ha : Val ta σ H (.ref p)) (hb : Val tb σ H (.int i)) (h : SqL K H p xs) (e : atI xs i = some v) : Val (tOp (rIxL K) ta tb) σ H v := val_op ha hb fun _ q => ⟨_, _, _, _, rfl, rfl, h, e, q⟩
theorem val_toInt {x : Int} (ha : Val ta σ H (.int x)) : Val (tCB (fun xs H Q => (∃ i, xs = [V.int i] ∧ Q (V.int i) H) ∨ ∃ k, xs = [V.bl k] ∧ Q (V.int (if k then 1 else 0)) H) (tCons ta tNil)) σ H (.int x) := fun Q q => ha _ (Or.inl ⟨x, rfl, q⟩)
end
section
variable {σ : L2.St} {H : Hp} {ta tb te : TE} {D : Ends} {t1 t2 tz : TS} {c : TT} {b : Bool} {v : V} {i : Nat}
theorem sq_set (h : Val te σ H v) (k : tz D (σ.set i (some v)) H) : tSeq (tAsg te (gName i)) tz D σ H := h _ k
theorem sq_when (h : Ans c σ H b) (h1 : b = true → t1 { D with nx := tz D } σ H) (h2 : b = false → tz D σ H) : tSeq (tIfS c t1 tNext) tz D σ H := st_if (D := { D with nx := tz D }) h h1 h2
theorem sq_setL {l : Addr} {xs : List V} {k : Int} {j : Nat} (hl : H l = some (.lst xs)) (h : Val te σ H v) (ho : Val ta σ H (.ref l)) (hi : Val tb σ H (.int k)) (hj : ixN xs.length k = some j) (q : tz D σ (upd H l (.lst (xs.set j v)))) : tSeq (tAsg te (gSub ta tb rSetL)) tz D σ H :=
  h _ (ho _ (hi _ ⟨l, xs, k, j, rfl, rfl, hl, hj, q⟩))
theorem st_setL {l : Addr} {xs : List V} {k : Int} {j : Nat} (hl : H l = some (.lst xs)) (h : Val te σ H v) (ho : Val ta σ H (.ref l)) (hi : Val tb σ H (.int k)) (hj : ixN xs.length k = some j) (q : D.nx σ (upd H l (.lst (xs.set j v)))) : tAsg te (gSub ta tb rSetL) D σ H :=
  h _ (ho _ (hi _ ⟨l, xs, k, j, rfl, rfl, hl, hj, q⟩))
theorem tyes {A B : Hp → Prop} (h : A H) : tYes σ H fun b H3 => if b = true then A H3 else B H3 := by
  show (if true = true then A H else B H)
  rw [if_pos rfl]; exact h
theorem val_len {K : PySem.W.Frag} {p : Addr} {xs : List V} (ha : Val ta σ H (.ref p)) (h : SqL K H p xs) : Val (tCB (fun xs H Q => ∃ p ys, xs = [.ref p] ∧ (SqL K H p ys ∨ SqT K H p ys) ∧ Q (.int ys.length) H) (tCons ta tNil)) σ H (.int (xs.length : Int)) := fun _ q => ha _ ⟨p, xs, rfl, .inl h, q⟩
theorem val_chain {r r' : R2} {tc : TE} {x y w : V} {a b : Bool} (ha : Val ta σ H x) (hb : Val tb σ H y) (hc : Val tc σ H w) (h1 : ∀ Q : VK, Q (.bl a) H → r x y H Q) (h2 : ∀ Q : VK, Q (.bl b) H → r' y w H Q) : Val (tChain r r' ta tb tc) σ H (.bl (a && b)) := by
  intro Q q
  refine ha _ (hb _ (h1 _ ⟨a, rfl, ?_⟩))
  cases a with
  | true => exact hc _ (h2 _ q)
  | false => exact q
theorem val_abs {x : Int} (ha : Val ta σ H (.int x)) : Val (tCB (fun xs H Q => ∃ i, xs = [.int i] ∧ Q (.int (if i < 0 then -i else i)) H) (tCons ta tNil)) σ H (.int (if x < 0 then -x else x)) := fun _ q => ha _ ⟨x, rfl, q⟩
theorem ans_int {f : Int → Int → Bool} {x y : Int} (ha : Val ta σ H (.int x)) (hb : Val tb σ H (.int y)) : Ans (tTest (tOp (rI0 fun i j => .bl (f i j)) ta tb)) σ H (f x y) := ans_cmp ha hb fun _ q => ⟨_, _, rfl, rfl, q⟩
end
/-! ### the source of draws: a list of cells at L, three numbers -/
structure SrcOk (cells : List Int) (i k g : Int) : Prop where
  i0 : 0 ≤ i
  k0 : 0 ≤ k
  g0 : 0 ≤ g
  len : cells.length ≤ 63
/-- the source object -/
abbrev srcO (L : Addr) (i k g : Int) : HO := .lst [.ref L, .int i, .int k, .int g]
/-- _law_draw(source, many): a number below many -/
def spDraw : Sp := fun vs H Q _ => ∃ (S L : Addr) (cells : List Int) (i k g many : Int), vs = [.ref S, .int many] ∧ H S = some (srcO L i k g) ∧ H L = some (.lst (cells.map V.int)) ∧ SrcOk cells i k g ∧ 0 < many ∧ many < 2 ^ 200 ∧
  ∀ n i' k' g', 0 ≤ n → n < many → SrcOk cells i' k' g' → Q (.int n) (upd H S (srcO L i' k' g'))
theorem cell_at {cells : List Int} {i : Int} (h0 : 0 ≤ i) (h : i < (cells.length : Int)) : ∃ c, atI (cells.map V.int) i = some (.int c) := by
  obtain ⟨j, rfl⟩ := Int.eq_ofNat_of_zero_le h0
  have hi : j < cells.length := by omega
  exact ⟨cells[j], atI_nat (by rw [List.getElem?_map, List.getElem?_eq_getElem hi]; rfl)⟩
theorem pow18 : (10 : Int) ^ (18 : Int).toNat = 1000000000000000000 := by decide +kernel
end Tp
namespace Tp
open PySem PySem.Spec PyProof.Rows L2
section
variable {X : Cx} {body : List Stmt} {h₀ : ExceptHandler} {hds : List ExceptHandler} {l : List (Value × Option Nat × (Addr → Value → Option Addr → TS))} {pos : Pos} {tb : WX → TS} {Wout : WX}
end
end Tp
namespace Tp
open PySem PySem.Spec PySem.Calls PyProof.Rows PySem.W
section
variable {prog : Program} {w : World} {A : Around} {E : Value → Shared → Prop} {s : Shared} {K : Frag} {x D : Addr} {ox : Obj} {od : Option Obj}
end
end Tp
namespace Tp
open PySem PySem.Spec PyProof.Rows L2
end Tp
namespace Tp
open PySem PySem.Spec PyProof.Rows L2
/-! ### how heaps go on: all that was tracked stays but what stands at ms; tuples stay -/
structure Ext (ms : List Addr) (H H' : Hp) : Prop where
  keep : ∀ b o, H b = some o → b ∉ ms → H' b = some o
  tups : ∀ b xs, H b = some (.tup xs) → H' b = some (.tup xs)
section
variable {ms ns : List Addr} {H H1 H2 H' : Hp} {a p : Addr} {o u : HO}
theorem Ext.refl : Ext ms H H := ⟨fun _ _ h _ => h, fun _ _ h => h⟩
theorem Ext.trans (e : Ext ms H H1) (f : Ext ms H1 H2) : Ext ms H H2 := ⟨fun b o h n => f.keep b o (e.keep b o h n) n, fun b xs h => f.tups b xs (e.tups b xs h)⟩
theorem Ext.mono (e : Ext ms H H1) (h : ∀ b, b ∈ ms → b ∈ ns) : Ext ns H H1 := ⟨fun b o q n => e.keep b o q fun z => n (h b z), e.tups⟩
theorem Ext.nil (e : Ext [] H H1) : Ext ms H H1 := e.mono fun _ z => nomatch z
theorem Ext.new (h : H p = none) : Ext ms H (upd H p o) := ⟨fun b o q _ => by rw [upd_ne (ne_of_none q h)]; exact q, fun b xs q => by rw [upd_ne (ne_of_none q h)]; exact q⟩
theorem Ext.mut (e : Ext ms H H1) (hm : a ∈ ms) (h : ∀ xs, H a ≠ some (.tup xs)) : Ext ms H (upd H1 a o) := ⟨fun b o q n => by rw [upd_ne (fun z => n (by rw [z]; exact hm))]; exact e.keep b o q n, fun b xs q => by rw [upd_ne (fun z => h xs (by rw [← z]; exact q))]; exact e.tups b xs q⟩
/-- an object that H does not know may change -/
theorem Ext.fresh (e : Ext ms H H1) (h : H a = none) : Ext ms H (upd H1 a o) := ⟨fun b o q n => by rw [upd_ne (ne_of_none q h)]; exact e.keep b o q n, fun b xs q => by rw [upd_ne (ne_of_none q h)]; exact e.tups b xs q⟩
theorem Ext.same (e : Ext [] H H1) : Same H H1 := fun b o h => e.keep b o h (by simp)
theorem Ext.of (s : Same H H1) : Ext ms H H1 := ⟨fun b o h _ => s b o h, fun b xs h => s b _ h⟩
theorem Ext.none (e : Ext ms H H1) (h : H1 a = none) (hm : a ∉ ms) : H a = none := by
  cases q : H a with
  | none => rfl
  | some o => rw [e.keep a o q hm] at h; cases h
end
/-! ### data that never changes: None, bools, ints, texts, tuples of these -/
mutual
inductive Im (H : Hp) : V → PyData → Prop
  | non : Im H .non .none
  | bl (b : Bool) : Im H (.bl b) (.bool b)
  | int (i : Int) : Im H (.int i) (.int i)
  | str (x : Str) : Im H (.str x) (.str x)
  | tup {a : Addr} {xs : List V} {ds : List PyData} : H a = some (.tup xs) → ImAll H xs ds → Im H (.ref a) (.tuple ds)
inductive ImAll (H : Hp) : List V → List PyData → Prop
  | nil : ImAll H [] []
  | cons {v : V} {vs : List V} {d : PyData} {ds : List PyData} : Im H v d → ImAll H vs ds → ImAll H (v :: vs) (d :: ds)
end
mutual
theorem Im.ext {ms : List Addr} {H H' : Hp} (e : Ext ms H H') : ∀ {d : PyData} {v : V}, Im H v d → Im H' v d
  | _, _, .non => .non
  | _, _, .bl b => .bl b
  | _, _, .int i => .int i
  | _, _, .str x => .str x
  | _, _, .tup h a => .tup (e.tups _ _ h) (ImAll.ext e a)
theorem ImAll.ext {ms : List Addr} {H H' : Hp} (e : Ext ms H H') : ∀ {ds : List PyData} {vs : List V}, ImAll H vs ds → ImAll H' vs ds
  | _, _, .nil => .nil
  | _, _, .cons h t => .cons (Im.ext e h) (ImAll.ext e t)
end
mutual
theorem Im.dp {K : PySem.W.Frag} {H : Hp} : ∀ {d : PyData} {v : V}, Im H v d → Dp K H v d
  | _, _, .non => .non
  | _, _, .bl b => .bl b
  | _, _, .int i => .int i
  | _, _, .str x => .str x
  | _, _, .tup h a => .tup (SqT.of h) (ImAll.dp a)
theorem ImAll.dp {K : PySem.W.Frag} {H : Hp} : ∀ {ds : List PyData} {vs : List V}, ImAll H vs ds → DpAll K H vs ds
  | _, _, .nil => .nil
  | _, _, .cons h t => .cons (Im.dp h) (ImAll.dp t)
end
theorem ImAll.length {H : Hp} : ∀ {vs : List V} {ds : List PyData}, ImAll H vs ds → vs.length = ds.length
  | _, _, .nil => rfl
  | _, _, .cons _ t => congrArg Nat.succ t.length
theorem ImAll.append {H : Hp} : ∀ {vs ws : List V} {ds es : List PyData}, ImAll H vs ds → ImAll H ws es → ImAll H (vs ++ ws) (ds ++ es)
  | _, _, _, _, .nil, s => s
  | _, _, _, _, .cons r t, s => .cons r (t.append s)
theorem ImAll.get {H : Hp} : ∀ {vs : List V} {ds : List PyData} {i : Nat} {v : V}, ImAll H vs ds → vs[i]? = some v → ∃ d, ds[i]? = some d ∧ Im H v d
  | _, _, _, _, .nil, e => by simp at e
  | _, _, 0, _, .cons r _, e => by simp at e; subst e; exact ⟨_, rfl, r⟩
  | _, _, i + 1, v, .cons _ t, e => by
    obtain ⟨d, h1, h2⟩ := ImAll.get (i := i) (v := v) t (by simpa using e)
    exact ⟨d, by simpa using h1, h2⟩
theorem ImAll.getD {H : Hp} : ∀ {vs : List V} {ds : List PyData} {i : Nat} {d : PyData}, ImAll H vs ds → ds[i]? = some d → ∃ v, vs[i]? = some v ∧ Im H v d
  | _, _, _, _, .nil, e => by simp at e
  | _, _, 0, _, .cons r _, e => by simp at e; subst e; exact ⟨_, rfl, r⟩
  | _, _, i + 1, v, .cons _ t, e => by
    obtain ⟨d, h1, h2⟩ := ImAll.getD (i := i) t (by simpa using e)
    exact ⟨d, by simpa using h1, h2⟩
/-- data with texts that may stand in a program's data -/
abbrev okS (z : Str) : Prop := PyData.strOk z = true
abbrev okD (d : PyData) : Prop := d.canLay0 = true ∧ d.depth ≤ 8
theorem okD.shaped {d : PyData} (h : okD d) : SeqAt.shaped d = true := by
  show (d.canLay0 && decide (d.depth ≤ 64)) = true
  rw [h.1, decide_eq_true (by have := h.2; omega)] <;> rfl
theorem okD.eqv {d : PyData} (h : okD d) : PyData.eqv d d = true := SeqAt.eqv_refl d h.1
theorem okD.str {z : Str} (h : okS z) : okD (.str z) := ⟨by rw [PyData.canLay0]; exact h, by simp [PyData.depth]⟩
theorem okD.none : okD .none := ⟨by simp [PyData.canLay0], by simp [PyData.depth]⟩
theorem okD.int {i : Int} : okD (.int i) := ⟨by simp [PyData.canLay0], by simp [PyData.depth]⟩
theorem okD.bool {b : Bool} : okD (.bool b) := ⟨by simp [PyData.canLay0], by simp [PyData.depth]⟩
theorem canLayAll_iff : ∀ {ds : List PyData}, PyData.canLayAll0 ds = true ↔ ∀ d ∈ ds, d.canLay0 = true
  | [] => by simp [PyData.canLayAll0]
  | d :: ds => by rw [PyData.canLayAll0, Bool.and_eq_true, canLayAll_iff (ds := ds)]; simp
theorem depthAll_le {n : Nat} : ∀ {ds : List PyData}, (∀ d ∈ ds, d.depth ≤ n) → PyData.depthAll ds ≤ n
  | [], _ => by simp [PyData.depthAll]
  | d :: ds, h => by
    rw [PyData.depthAll]
    have h1 := h d (List.mem_cons_self ..)
    have h2 := depthAll_le (ds := ds) fun e he => h e (List.mem_cons_of_mem _ he)
    omega
theorem shapedL {n : Nat} {ds : List PyData} (h : ∀ d ∈ ds, d.canLay0 = true ∧ d.depth ≤ n) (hn : n ≤ 60) : SeqAt.shaped (.list ds) = true := by
  show ((PyData.list ds).canLay0 && decide ((PyData.list ds).depth ≤ 64)) = true
  rw [Bool.and_eq_true]
  refine ⟨by rw [PyData.canLay0]; exact canLayAll_iff.mpr fun d hd => (h d hd).1, decide_eq_true ?_⟩
  rw [PyData.depth]
  have := depthAll_le fun d hd => (h d hd).2
  omega
theorem okD.tup {n : Nat} {ds : List PyData} (h : ∀ d ∈ ds, d.canLay0 = true ∧ d.depth ≤ n) (hn : n ≤ 7) : okD (.tuple ds) := by
  refine ⟨by rw [PyData.canLay0]; exact canLayAll_iff.mpr fun d hd => (h d hd).1, ?_⟩
  rw [PyData.depth]
  have := depthAll_le fun d hd => (h d hd).2
  omega
theorem okS_list {z : Str} : okS z ↔ ∀ c ∈ z.cps.toList, c < 0x110000 := by
  show z.cps.all _ = true ↔ _
  rw [← Array.all_toList, List.all_eq_true]
  simp
theorem len_append {a b : Str} : (a ++ b).length = a.length + b.length := by
  show (a.cps ++ b.cps).size = a.cps.size + b.cps.size
  exact Array.size_append
theorem atI_some {α : Type} {xs : List α} {i : Int} (h0 : 0 ≤ i) (h1 : i < (xs.length : Int)) : ∃ v, atI xs i = some v ∧ v ∈ xs := by
  obtain ⟨j, rfl⟩ := Int.eq_ofNat_of_zero_le h0
  have hj : j < xs.length := by omega
  exact ⟨xs[j], atI_nat (List.getElem?_eq_getElem hj), List.getElem_mem hj⟩
theorem len_list {z : Str} : z.cps.toList.length = z.length := by
  show _ = z.cps.size
  simp
/-! ### in, not in over tuples of data -/
section
variable {X : Cx}
def rInT (K : PySem.W.Frag) : R2 := fun x y H Q => ∃ d ds, Dp K H x d ∧ Dp K H y (.tuple ds) ∧ SeqAt.shaped d = true ∧ SeqAt.shaped (.tuple ds) = true ∧ Q (.bl (ds.any fun z => PyData.eqv z d)) H
def rNotInT (K : PySem.W.Frag) : R2 := fun x y H Q => ∃ d ds, Dp K H x d ∧ Dp K H y (.tuple ds) ∧ SeqAt.shaped d = true ∧ SeqAt.shaped (.tuple ds) = true ∧ Q (.bl (!ds.any fun z => PyData.eqv z d)) H
theorem op_inT (hu : X.A.units + 65 < cLine) : OpR X (compareOp .In) (rInT X.K) := by
  intro pins s σ H x y v u Q I rx ry h
  obtain ⟨d, ds, hd, he, sd, se, q⟩ := h
  obtain ⟨as, r1⟩ := Dp.reads I d x v hd rx
  obtain ⟨bs, r2⟩ := Dp.reads I (.tuple ds) y u he ry
  exact SeqAt.in_tuple_reads r2 r1 (SeqAt.canLay_of_shaped se) (SeqAt.canLay_of_shaped sd) (room_in_shaped sd hu) ⟨.bl _, H, I, rfl, q⟩
theorem op_notInT (hu : X.A.units + 65 < cLine) : OpR X (compareOp .NotIn) (rNotInT X.K) := by
  intro pins s σ H x y v u Q I rx ry h
  obtain ⟨d, ds, hd, he, sd, se, q⟩ := h
  obtain ⟨as, r1⟩ := Dp.reads I d x v hd rx
  obtain ⟨bs, r2⟩ := Dp.reads I (.tuple ds) y u he ry
  exact SeqAt.notIn_tuple_reads r2 r1 (SeqAt.canLay_of_shaped se) (SeqAt.canLay_of_shaped sd) (room_in_shaped sd hu) ⟨.bl _, H, I, rfl, q⟩
end
/-! ### more values -/
section
variable {σ : L2.St} {H : Hp} {ta tb te : TE} {D : Ends} {t1 t2 tz : TS} {c : TT} {b : Bool} {v : V} {i : Nat} {K : PySem.W.Frag}
theorem val_isi {x : V} {t : Value} {T : String} {b : Bool} (ha : Val ta σ H x) (ht : TyX K H x t) (hk : PySem.W.kitOne K t (.type T) = some b) : Val (tCB (rIsi K) (tCons ta (tCons (tC (.ty T)) tNil))) σ H (.bl b) :=
  fun _ q => ha _ ⟨x, .ty T, t, .type T, b, rfl, .ty T, ht, hk, q⟩
theorem val_addS {x y : Str} (ha : Val ta σ H (.str x)) (hb : Val tb σ H (.str y)) (h : x.length + y.length ≤ 100000) : Val (tOp (fun x y H Q => ∃ i j, x = .str i ∧ y = .str j ∧ i.length + j.length ≤ sizeLine ∧ Q (.str (i ++ j)) H) ta tb) σ H (.str (x ++ y)) :=
  val_op ha hb fun _ q => ⟨_, _, rfl, rfl, Evl.sz_of h, q⟩
theorem val_ixS {z : Str} {i : Int} {c : Nat} (ha : Val ta σ H (.str z)) (hb : Val tb σ H (.int i)) (h : z.length ≤ 100000) (e : atI z.cps.toList i = some c) : Val (tOp rIxS ta tb) σ H (.str ⟨#[c]⟩) := val_op ha hb fun _ q => ⟨_, _, _, rfl, rfl, Evl.sz_of h, e, q⟩
theorem val_lenS {z : Str} (ha : Val ta σ H (.str z)) (h : z.length ≤ 100000) : Val (tCB (fun xs H Q => ∃ z, xs = [.str z] ∧ z.length ≤ sizeLine ∧ Q (.int z.length) H) (tCons ta tNil)) σ H (.int (z.length : Int)) := fun _ q => ha _ ⟨z, rfl, Evl.sz_of h, q⟩
end
/-! ### o.m(e, .., k = v, ..) -/
def tMethKw (C : Addr) (m : Str) (n j : Nat) (sp : Sp) (gV : List V → List V → List V) (E : XK) (ta : TE) (t tk : TA) : TE := fun σ H Q => ta σ H fun x H1 => ∃ a dx fs, x = .ref a ∧ H1 a = some (.ins C dx fs) ∧ fs.lookup m = none ∧
  t σ H1 fun vs H2 => tk σ H2 fun zs H3 => vs.length = n ∧ zs.length = j ∧ sp (gV (.ref a :: vs) zs) H3 Q E
section
variable {X : Cx} {CX : CXT} {k n : Nat} {f C : Addr} {fd : FuncData} {ps ks : List Str} {sp : Sp} {E : XK} {x m : Str} {p pos apos : Pos} {o e : Expr} {es : List Expr} {kws : List Keyword} {ta : TE} {t tk : TA} {g : List Value → List Value → List Value} {gV : List V → List V → List V}
theorem run_kbn {pins : List (Addr × Obj)} {σ : L2.St} {H : Hp} {s : Shared} {Q : VK} {us ws : List Value} {vs zs : List V} (F : FnOk X.prog X.w X.K X.mg X.base CX k f fd ps sp) (hr : Room k X.A) (hb : KBn X.K fd ps n ks g gV) (hx : Passes CX X E)
    (I : Inv X pins σ H s) (r : Vals vs us) (rz : Vals zs ws) (l1 : vs.length = n) (l2 : zs.length = ks.length) (h : sp (gV vs zs) H Q E) : wpAny (model X.prog X.w) X.A (call (.ref f) us (ks.zip ws)) (EP X pins σ Q) X.xe s := by
  have r2 := hb.rel r rz
  refine wpAny_call (codeAny_mono (F.run X.A X.stack s H ⟨us, ks.zip ws⟩ (g us ws) (gV vs zs) Q E hr I.env0 (hb.to s us ws I.kIn (by rw [← r.length, l1]) (by rw [← rz.length, l2])) r2 h) fun r s' hq => ?_)
  cases r with
  | error e => exact hx pins σ H s e s' I hq
  | ok fl =>
    cases fl with
    | ret u => exact I.after hq
    | next => exact False.elim hq
    | brk => exact False.elim hq
    | cont => exact False.elim hq
theorem pe_methKw {pl : Sem Bool} (he : PE X o ta) (c : Cls X.K C) (hm : Meth X.K C m f) (F : FnOk X.prog X.w X.K X.mg X.base CX k f fd ps sp) (hr : Room k X.A) (hb : KBn X.K fd ps (n + 1) ks g gV) (hx : Passes CX X E) (ha : PA X (e :: es) t) (hkw : PK X kws tk)
    (hall : (backToKw pos (keywordEach kws X.env)).all (·.1.isSome) = true := by rfl) (hks : (backToKw pos (keywordEach kws X.env)).filterMap (·.1) = ks := by rfl)
    (hst : starEach (e :: es) X.env = (false, eval e X.env) :: starEach es X.env := by rfl) (hpl : ((backTo pos (starEach (e :: es) X.env)).any (·.1) || (backToKw pos (keywordEach kws X.env)).any (·.1.isNone)) = false := by rfl)
    (ht : eval (.Call (.Attribute o m apos) (e :: es) kws pos) X.env = (do
      let ov ← eval o X.env
      standAt apos.atName
      let (f, first) ← holding [ov] (getMethod ov m pl)
      callWith pos f first (backTo pos (starEach (e :: es) X.env)) (backToKw pos (keywordEach kws X.env))) := by rfl) :
    PE X (.Call (.Attribute o m apos) (e :: es) kws pos) (tMethKw C m n ks.length sp gV E ta t tk) := by
  refine ⟨fun pins s σ H Q I h => ?_⟩
  refine PySem.W.methodCall_KW (pl := pl) (thn (he.run pins s σ H _ I h) fun u s1 ⟨x, H1, I1, rx, a, dx, fs, ex, ea, l, q⟩ => ?_) ht
  subst ex
  obtain rfl : u = Value.ref a := rx
  refine getmeth_ok I1 ea c hm l ?_
  refine PySem.W.callWith_KW (first := [.ref a]) (h₀ := X.base) I.ok.mod.kin hm.kp hall (thn (ha.run pos pins s1 σ H1 _ I1 q) fun us s2 ⟨vs, H2, I2, r, q2⟩ => ?_) hpl hst
  refine thn (hkw.run pos pins s2 σ H2 _ I2 q2) fun ws s3 ⟨zs, H3, I3, rz, l1, l2, q3⟩ => ⟨I3.kIn, ?_⟩
  rw [hks]
  exact run_kbn (us := .ref a :: us) (vs := .ref a :: vs) F hr hb hx I3 (.cons rfl r) rz (by rw [List.length_cons, l1]) l2 q3
end
end Tp
namespace Tp
open PySem PySem.Spec PyProof.Rows L2
/-- what the written part says of an own error class over DyeError (or of DyeError): its __init__ at fI -/
structure ExB (K : PySem.W.Frag) (C fI : Addr) : Prop where
  oex : OexC K C
  iC : PySem.W.findIn K (.ref C) "__init__" = some (some (.ref fI))
  tI : PySem.W.typeIn K (.ref fI) = some (.type "function")
  noT : PySem.W.findIn K (.ref C) "thing" = some none
  xf : XfC K C
  ex : ExcC K C
/-- DyeError.__init__(self, thing) -/
def spDye (K : PySem.W.Frag) : Sp := fun vs H Q _ => ∃ (a C : Addr) (v : V), vs = [.ref a, v] ∧ OexC K C ∧ PySem.W.findIn K (.ref C) "thing" = some none ∧ H a = some (exo a C none) ∧
  ∀ dx, H dx = none → dx ≠ a → Q .non (upd (upd H dx (exd dx [("thing", v)])) a (exo a C (some dx)))
/-- raise C(e) -/
def tRaiseX (K : PySem.W.Frag) (C : Addr) (W : WX) (te : TE) : TS := fun _ σ H => tMkO C (spDye K) [] (tCons te tNil) σ H fun cls d H' => W cls d σ H'
/-- DyeError's __init__ as a def of the text -/
structure Dye (P : Program) (w : World) (K : PySem.W.Frag) (mg : Str → Option Value) (base : Heap) (fI : Addr) : Prop where
  ex : ∃ fd, FnOk P w K mg base CX0 1 fI fd ["self", "thing"] (spDye K) ∧ Binds K fd ["self", "thing"] []
section
variable {X : Cx} {C fI : Addr} {W : WX} {te : TE} {e : Expr} {x : Str} {p pos pos2 : Pos}
theorem ps_raiseX (hc : X.calm = true) (T : ExB X.K C fI) (D : Dye X.prog X.w X.K X.mg X.base fI) (hr : Room 2 X.A) (tk : Takes X W) (hg : Gl X x) (hm : X.mg x = some (.ref C)) (he : PE X e te)
    (hdb : (x == ("__debug__" : Str)) = false := by decide) (hs : starEach (e :: []) X.env = (false, eval e X.env) :: starEach [] X.env := by rfl) (hpl : (backTo pos (starEach [] X.env)).any (·.1) = false := by rfl) :
    PS X (.Raise (some (.Call (.Name x p) [e] [] pos)) none pos2) (tRaiseX X.K C W te) := by
  obtain ⟨fd, F, b⟩ := D.ex
  exact ps_raise hc tk (pmk_oex (dvs := []) (ds := []) T.oex T.iC T.tI F hr b .nil pass0 hg hm (pa_cons he pa_nil hs) hdb hs hpl)
end
theorem raise_post {K : PySem.W.Frag} {C fI : Addr} {H : Hp} {v : V} {Q : XK} (T : ExB K C fI) (h : ∀ d, H d = none → Q (.ref C) (some d) (upd H d (.xd [("thing", v)]))) :
    [v].length ≤ 1000 ∧ ∀ a, H a = none → spDye K (.ref a :: ([v] ++ [])) (upd H a (exo a C none)) (fun u H2 => u = .non ∧ ∃ (d : Addr) (fs : List (Str × V)), H2 a = some (exo a C (some d)) ∧ H2 d = some (exd d fs) ∧ H d = none ∧ Q (.ref C) (some d) (upd (del H2 a) d (.xd fs))) (fun _ _ _ => False) := by
  refine ⟨(by show 1 ≤ 1000; decide), fun a ha => ⟨a, C, v, rfl, T.oex, T.noT, upd_same, fun dx hdx ne => ⟨rfl, dx, [("thing", v)], upd_same, ?_, ?_, ?_⟩⟩⟩
  · rw [upd_ne ne, upd_same]
  · rw [upd_ne ne] at hdx; exact hdx
  · have hd : H dx = none := by rw [upd_ne ne] at hdx; exact hdx
    have e : upd (del (upd (upd (upd H a (exo a C none)) dx (exd dx [("thing", v)])) a (exo a C (some dx))) a) dx (.xd [("thing", v)]) = upd H dx (.xd [("thing", v)]) := by
      funext b
      by_cases hb : b = dx
      · rw [hb, upd_same, upd_same]
      · rw [upd_ne hb, upd_ne hb]
        by_cases hba : b = a
        · rw [hba, del_same, ha]
        · rw [del_ne hba, upd_ne hba, upd_ne hb, upd_ne hba]
    rw [e]
    exact h dx hd
/-- an error of the class at C with the thing v leaves, a new dict beside -/
def Leaves (K : PySem.W.Frag) (E : XK) (C : Addr) (v : V) (H : Hp) : Prop := ∀ d H', H d = none → Ext [] H H' → H' d = some (.xd [("thing", v)]) → E (.ref C) (some d) H'
end Tp
namespace Tp
open PySem PySem.Spec PyProof.Rows L2
/-! ### a comprehension over a text -/
theorem lc_str {x : Str} {g : TG} {tt : TT} {te : TE} {vs : List Nat} {σ : L2.St} {H1 : Hp} {D : Addr} {Qd : Hp → Prop} (Pv : Nat → Hp → Prop) (h0 : Pv 0 (upd H1 D (.lst [])))
    (hs : ∀ i c H, x.cps[i]? = some c → Pv i H → g (.str ⟨#[c]⟩) (wipe σ vs) H fun σ2 H2 => wipe σ2 vs = wipe σ vs ∧ tt σ2 H2 fun b H3 =>
      if b = true then te σ2 H3 fun y H4 => ∃ acc, H4 D = some (.lst acc) ∧ acc.length < sizeLine ∧ Pv (i + 1) (upd H4 D (.lst (acc ++ [y]))) else Pv (i + 1) H3) (hd : ∀ H, Pv x.cps.size H → Qd H) :
    ∃ W : Nat → Nat → Hp → Prop, (∃ m, W 0 m (upd H1 D (.lst []))) ∧ ∀ i m H, W i m H →
      ((Its x).stop i H ∧ Qd H) ∨ ((Its x).go i H ∧ ∃ Nx : Hp → Prop, (∀ H', Nx H' → ∃ m', m' < m ∧ W (i + 1) m' H') ∧ ∀ v H', (Its x).yld i H v H' → g v (wipe σ vs) H' fun σ2 H2 => wipe σ2 vs = wipe σ vs ∧ tt σ2 H2 fun b H3 =>
        if b = true then te σ2 H3 fun y H4 => ∃ acc, H4 D = some (.lst acc) ∧ acc.length < sizeLine ∧ Nx (upd H4 D (.lst (acc ++ [y]))) else Nx H3) := by
  refine ⟨fun i m H => m = x.cps.size - i ∧ i ≤ x.cps.size ∧ Pv i H, ⟨x.cps.size, by simp, Nat.zero_le _, h0⟩, ?_⟩
  rintro i m H ⟨rfl, hi, p⟩
  by_cases hlt : i < x.cps.size
  · refine .inr ⟨hlt, Pv (i + 1), fun H' p' => ⟨x.cps.size - (i + 1), by omega, rfl, hlt, p'⟩, fun v H' y => ?_⟩
    obtain ⟨e, c, y, ev⟩ := y
    subst e ev
    exact hs i c _ y p
  · have e : i = x.cps.size := by omega
    subst e
    exact .inl ⟨Nat.le_refl _, hd H p⟩
theorem wipe1 {σ : L2.St} {j : Nat} {x : V} : wipe ((wipe σ [j]).set j (some x)) [j] = wipe σ [j] := by
  show ((σ.set j none).set j (some x)).set j none = σ.set j none
  rw [List.set_set, List.set_set]
/-- the letters of z that stand in L -/
def insL (L z : Str) (n : Nat) : List Bool := (z.cps.toList.take n).map fun c => decide (c ∈ L.cps.toList)
theorem insL_succ {L z : Str} {n : Nat} {c : Nat} (h : z.cps[n]? = some c) : insL L z (n + 1) = insL L z n ++ [decide (c ∈ L.cps.toList)] := by
  unfold insL
  have h' : z.cps.toList[n]? = some c := by rw [Array.getElem?_toList]; exact h
  rw [List.take_add_one, h', List.map_append] <;> rfl
theorem insL_len {L z : Str} {n : Nat} : (insL L z n).length ≤ n := by
  unfold insL
  rw [List.length_map, List.length_take]
  omega
/-- every letter of z stands in L -/
def allL (L z : Str) : Bool := z.cps.toList.all fun c => decide (c ∈ L.cps.toList)
theorem insL_all {L z : Str} : (insL L z z.cps.size).all id = allL L z := by
  unfold insL allL
  rw [List.take_of_length_le (by simp), List.all_map]
  rfl
/-- all([c in L for c in z]) -/
theorem rd_all {K : PySem.W.Frag} {σ : L2.St} {H : Hp} {Q : VK} {j : Nat} {z L : Str} {tv tl : TE} (hj : j < σ.length) (hv : Val tv σ H (.str z)) (hz : z.length ≤ 100000) (hl : ∀ x H', Val tl ((wipe σ [j]).set j (some x)) H' (.str L))
    (q : ∀ D bs, H D = none → Q (.bl (allL L z)) (upd H D (.lst bs))) : tCB (rAll K) (tCons (tLc (iStr tv) (gName j) tYes (tOp rInS (tVar j) tl) [j]) tNil) σ H Q := by
  refine hv _ ⟨z, rfl, fun D hD => ?_⟩
  have hz' : z.cps.size ≤ 100000 := hz
  refine lc_str (fun i H' => i ≤ z.cps.size ∧ H' = upd H D (.lst ((insL L z i).map V.bl))) ⟨Nat.zero_le _, rfl⟩ ?_ ?_
  · rintro i c H' hc ⟨_, rfl⟩
    have hi : i < z.cps.size := (Array.getElem?_eq_some_iff.mp hc).1
    refine ⟨wipe1, ?_⟩
    have hx : ((wipe σ [j]).set j (some (V.str ⟨#[c]⟩)))[j]? = some (some (.str ⟨#[c]⟩)) := by
      rw [List.getElem?_set_self]
      rw [wipe_length]
      exact hj
    show tOp rInS (tVar j) tl ((wipe σ [j]).set j (some (V.str ⟨#[c]⟩))) (upd H D (.lst ((insL L z i).map V.bl))) _
    refine val_var hx _ (hl _ _ _ ⟨c, L, rfl, rfl, _, upd_same, ?_, hi, ?_⟩)
    · rw [List.length_map]
      exact Evl.sz_lt (by have := insL_len (L := L) (z := z) (n := i); omega)
    · rw [upd_upd, insL_succ hc, List.map_append]
      rfl
  · rintro H' ⟨_, rfl⟩
    refine ⟨D, insL L z z.cps.size, rfl, SqL.of upd_same, ?_⟩
    rw [insL_all]
    exact q D _ hD
/-! ### the kinds of values that are passed -/
/-- None, a bool, an int, a text of bounded length, a tuple -/
inductive Ptv (K : PySem.W.Frag) (H : Hp) : V → Prop
  | non : Ptv K H .non
  | bl (b : Bool) : Ptv K H (.bl b)
  | int (i : Int) : Ptv K H (.int i)
  | str {z : Str} (h : z.length ≤ 1000) : Ptv K H (.str z)
  | tup {a : Addr} {xs : List V} (h : SqT K H a xs) : Ptv K H (.ref a)
theorem Ptv.ext {K : PySem.W.Frag} {H H' : Hp} {ms : List Addr} {v : V} (e : Ext ms H H') (h : ∀ a xs, v = .ref a → SqT K H a xs → SqT K H' a xs) (p : Ptv K H v) : Ptv K H' v := by
  cases p with
  | non => exact .non
  | bl b => exact .bl b
  | int i => exact .int i
  | str z => exact .str z
  | tup z => exact .tup (h _ _ rfl z)
def tyNm : V → String
  | .non => "NoneType"
  | .bl _ => "bool"
  | .int _ => "int"
  | .str _ => "str"
  | _ => "tuple"
theorem Ptv.ty {K : PySem.W.Frag} {H : Hp} {v : V} (p : Ptv K H v) : TyX K H v (.type (tyNm v)) := by
  cases p with
  | non => exact .base .non
  | bl b => exact .base (.bl b)
  | int i => exact .base (.int i)
  | str z => exact .base (.str _)
  | tup h =>
    rcases h with (h | ⟨o, h⟩) | ⟨o, its, n, h, c, _⟩
    · exact .base (.tup h)
    · exact .fTuple h
    · exact .kTuple h c
/-- isinstance(v, T) of such a value -/
def isTn (T n : String) : Bool := n == T || (T == "int" && n == "bool")
abbrev isT (T : String) (v : V) : Bool := isTn T (tyNm v)
theorem kit_n {T n : String} (hn : n = "NoneType" ∨ n = "bool" ∨ n = "int" ∨ n = "str" ∨ n = "tuple") (hT : T = "int" ∨ T = "bool" ∨ T = "str" ∨ T = "tuple") : kitB n T = some (isTn T n) := by
  rcases hT with rfl | rfl | rfl | rfl <;> rcases hn with rfl | rfl | rfl | rfl | rfl <;> decide +kernel
theorem Ptv.nm {K : PySem.W.Frag} {H : Hp} {v : V} (p : Ptv K H v) : tyNm v = "NoneType" ∨ tyNm v = "bool" ∨ tyNm v = "int" ∨ tyNm v = "str" ∨ tyNm v = "tuple" := by
  cases p with
  | non => exact .inl rfl
  | bl b => exact .inr (.inl rfl)
  | int i => exact .inr (.inr (.inl rfl))
  | str z => exact .inr (.inr (.inr (.inl rfl)))
  | tup h => exact .inr (.inr (.inr (.inr rfl)))
theorem Ptv.kit {K : PySem.W.Frag} {H : Hp} {v : V} (p : Ptv K H v) {T : String} (hT : T = "int" ∨ T = "bool" ∨ T = "str" ∨ T = "tuple") : PySem.W.kitOne K (.type (tyNm v)) (.type T) = some (isT T v) := kit_ty (kit_n p.nm hT)
/-- a whole number -/
def isWhole : V → Bool
  | .int _ => true
  | _ => false
theorem whole_n {n : String} (hn : n = "NoneType" ∨ n = "bool" ∨ n = "int" ∨ n = "str" ∨ n = "tuple") : (isTn "int" n && !isTn "bool" n) = (n == "int") := by
  rcases hn with rfl | rfl | rfl | rfl | rfl <;> decide +kernel
theorem whole_eq {K : PySem.W.Frag} {H : Hp} {v : V} (p : Ptv K H v) : (isT "int" v && !isT "bool" v) = isWhole v := by
  rw [whole_n p.nm]
  cases p <;> rfl
theorem str_eq {K : PySem.W.Frag} {H : Hp} {v : V} (p : Ptv K H v) : isT "str" v = (match v with | .str _ => true | _ => false) := by
  cases p <;> rfl
def spWhole (K : PySem.W.Frag) : Sp := fun vs H Q _ => ∃ v, vs = [v] ∧ Ptv K H v ∧ Q (.bl (isWhole v)) H
end Tp
namespace Tp
open PySem PySem.Spec PyProof.Rows L2
/-! ### names -/
def Lz : Str := "abcdefghijklmnopqrstuvwxyz"
/-- 1 to 12 small letters -/
def nmS (z : Str) : Bool := decide ((1 : Int) ≤ (z.length : Int)) && (decide ((z.length : Int) ≤ 12) && allL Lz z)
def isNm : V → Bool
  | .str z => nmS z
  | _ => false
def spIsName (K : PySem.W.Frag) : Sp := fun vs H Q _ => ∃ v, vs = [v] ∧ Ptv K H v ∧ ∀ H', Ext [] H H' → Q (.bl (isNm v)) H'
/-- _check_new(name, known): B, N the classes that refuse; hit: the name is known -/
def spCheckNew (K : PySem.W.Frag) (B N : Addr) (kn : Hp → V → (Str → Bool) → Prop) : Sp := fun vs H Q E => ∃ v k hit, vs = [v, k] ∧ Ptv K H v ∧ kn H k hit ∧
  (isNm v = false → Leaves K E B v H) ∧ (∀ z, v = .str z → nmS z = true → hit z = true → Leaves K E N v H) ∧ (∀ z, v = .str z → nmS z = true → hit z = false → ∀ H', Ext [] H H' → Q .non H')
/-- what is known: the keys of a dict -/
def knD : Hp → V → (Str → Bool) → Prop := fun H k hit => ∃ d kvs, k = .ref d ∧ H d = some (.dK kvs) ∧ ∀ z, hit z = (valV kvs (Sum.inr z : Key)).isSome
/-- what is known: a list of texts -/
def knL (K : PySem.W.Frag) : Hp → V → (Str → Bool) → Prop := fun H k hit => ∃ (a : Addr) (zs : List Str), k = .ref a ∧ H a = some (.lst (zs.map V.str)) ∧ ∀ z, hit z = inV (.str z) (zs.map V.str)
/-- _check_known(name, known) -/
def spCheckKnown (K : PySem.W.Frag) (U : Addr) (kn : Hp → V → (Str → Bool) → Prop) : Sp := fun vs H Q E => ∃ v k hit, vs = [v, k] ∧ Ptv K H v ∧ kn H k hit ∧
  ((∀ z, v = .str z → hit z = false) → Leaves K E U v H) ∧ (∀ z, v = .str z → hit z = true → Q .non H)
/-- _check_room(things, most) -/
def szD : Hp → V → Nat → Prop := fun H k n => ∃ d kvs, k = .ref d ∧ H d = some (.dK kvs) ∧ n = kvs.length
def szL : Hp → V → Nat → Prop := fun H k n => ∃ a xs, k = .ref a ∧ H a = some (.lst xs) ∧ n = xs.length
def spCheckRoom (K : PySem.W.Frag) (F : Addr) (sz : Hp → V → Nat → Prop) : Sp := fun vs H Q E => ∃ k n most, vs = [k, .int most] ∧ sz H k n ∧ (most ≤ (n : Int) → Leaves K E F (.int most) H) ∧ ((n : Int) < most → Q .non H)
theorem leaves_now {K : PySem.W.Frag} {E : XK} {C fI : Addr} {v : V} {H H1 : Hp} (T : ExB K C fI) (L : Leaves K E C v H) (e : Ext [] H H1) :
    [v].length ≤ 1000 ∧ ∀ a, H1 a = none → spDye K (.ref a :: ([v] ++ [])) (upd H1 a (exo a C none)) (fun u H2 => u = .non ∧ ∃ (d : Addr) (fs : List (Str × V)), H2 a = some (exo a C (some d)) ∧ H2 d = some (exd d fs) ∧ H1 d = none ∧ E (.ref C) (some d) (upd (del H2 a) d (.xd fs))) (fun _ _ _ => False) :=
  raise_post T fun d hd => L d _ (e.none hd (by simp)) (e.trans (Ext.new hd)) upd_same
end Tp
namespace Tp
open PySem PySem.Spec PyProof.Rows L2
/-! ### the book as an object -/
structure Bk where
  dx : Addr
  dk : Addr
  lt : Addr
  lp : Addr
  dc : Addr
  ld : Addr
  lf : Addr
def fsB (b : Int) (A : Bk) : List (Str × V) := [("_bound", .int b), ("_kinds", .ref A.dk), ("_thirsts", .ref A.lt), ("_pots", .ref A.lp), ("_cloths", .ref A.dc), ("_dips", .ref A.ld), ("_facts", .ref A.lf)]
theorem fsB_bound {b : Int} {A : Bk} : (fsB b A).lookup ("_bound" : Str) = some (V.int b) := by rfl
theorem fsB_kinds {b : Int} {A : Bk} : (fsB b A).lookup ("_kinds" : Str) = some (V.ref A.dk) := by rfl
theorem fsB_thirsts {b : Int} {A : Bk} : (fsB b A).lookup ("_thirsts" : Str) = some (V.ref A.lt) := by rfl
theorem fsB_pots {b : Int} {A : Bk} : (fsB b A).lookup ("_pots" : Str) = some (V.ref A.lp) := by rfl
theorem fsB_cloths {b : Int} {A : Bk} : (fsB b A).lookup ("_cloths" : Str) = some (V.ref A.dc) := by rfl
theorem fsB_dips {b : Int} {A : Bk} : (fsB b A).lookup ("_dips" : Str) = some (V.ref A.ld) := by rfl
theorem fsB_facts {b : Int} {A : Bk} : (fsB b A).lookup ("_facts" : Str) = some (V.ref A.lf) := by rfl
/-- no attribute of that name -/
theorem fsB_no {b : Int} {A : Bk} {m : Str} (h : m = "add_kind" ∨ m = "add_pot" ∨ m = "add_cloth" ∨ m = "kinds" ∨ m = "pots" ∨ m = "cloths" ∨ m = "dip" ∨ m = "thirsts" ∨ m = "add_thirst") : (fsB b A).lookup m = none := by
  rcases h with rfl | rfl | rfl | rfl | rfl | rfl | rfl | rfl | rfl <;> rfl
theorem fsB_make {b : Int} {A : Bk} : putF "_facts" (.ref A.lf) (putF "_dips" (.ref A.ld) (putF "_cloths" (.ref A.dc) (putF "_pots" (.ref A.lp) (putF "_thirsts" (.ref A.lt) (putF "_kinds" (.ref A.dk) (putF "_bound" (.int b) [])))))) = fsB b A := by rfl
abbrev kvB (ks : List (Str × V)) : List (Key × V) := ks.map fun q => (Sum.inr q.1, q.2)
structure BookAt (C : Addr) (H : Hp) (p : Addr) (b : Int) (A : Bk) (ks : List (Str × V)) (ts : List V) (ps : List Str) (cs : List (Str × V)) (ds fs : List V) : Prop where
  ob : H p = some (.ins C A.dx (fsB b A))
  dk : H A.dk = some (.dK (kvB ks))
  lt : H A.lt = some (.lst ts)
  lp : H A.lp = some (.lst (ps.map V.str))
  dc : H A.dc = some (.dK (kvB cs))
  ld : H A.ld = some (.lst ds)
  lf : H A.lf = some (.lst fs)
  nk : A.dk ≠ A.dc
  n1 : A.lt ≠ A.lp
  n2 : A.lt ≠ A.ld
  n3 : A.lt ≠ A.lf
  n4 : A.lp ≠ A.ld
  n5 : A.lp ≠ A.lf
  n6 : A.ld ≠ A.lf
/-- where the book's parts stand -/
abbrev Bk.all (A : Bk) (p : Addr) : List Addr := [p, A.dk, A.lt, A.lp, A.dc, A.ld, A.lf]
section
variable {C p : Addr} {H H' : Hp} {b : Int} {A : Bk} {ks cs : List (Str × V)} {ts ds fs : List V} {ps : List Str} {ms : List Addr}
theorem BookAt.ext (B : BookAt C H p b A ks ts ps cs ds fs) (e : Ext ms H H') (h : ∀ a ∈ A.all p, a ∉ ms) : BookAt C H' p b A ks ts ps cs ds fs :=
  ⟨e.keep _ _ B.ob (h _ (by simp)), e.keep _ _ B.dk (h _ (by simp)), e.keep _ _ B.lt (h _ (by simp)), e.keep _ _ B.lp (h _ (by simp)), e.keep _ _ B.dc (h _ (by simp)), e.keep _ _ B.ld (h _ (by simp)), e.keep _ _ B.lf (h _ (by simp)),
    B.nk, B.n1, B.n2, B.n3, B.n4, B.n5, B.n6⟩
theorem BookAt.p_ne (B : BookAt C H p b A ks ts ps cs ds fs) : p ≠ A.dk ∧ p ≠ A.lt ∧ p ≠ A.lp ∧ p ≠ A.dc ∧ p ≠ A.ld ∧ p ≠ A.lf :=
  ⟨ne_of B.ob B.dk (by intro z; cases z), ne_of B.ob B.lt (by intro z; cases z), ne_of B.ob B.lp (by intro z; cases z), ne_of B.ob B.dc (by intro z; cases z), ne_of B.ob B.ld (by intro z; cases z), ne_of B.ob B.lf (by intro z; cases z)⟩
theorem BookAt.setK (B : BookAt C H p b A ks ts ps cs ds fs) (ks' : List (Str × V)) : BookAt C (upd H A.dk (.dK (kvB ks'))) p b A ks' ts ps cs ds fs :=
  ⟨by rw [upd_ne B.p_ne.1]; exact B.ob, upd_same, by rw [upd_ne (ne_of B.lt B.dk (by intro z; cases z))]; exact B.lt, by rw [upd_ne (ne_of B.lp B.dk (by intro z; cases z))]; exact B.lp, by rw [upd_ne B.nk.symm]; exact B.dc,
    by rw [upd_ne (ne_of B.ld B.dk (by intro z; cases z))]; exact B.ld, by rw [upd_ne (ne_of B.lf B.dk (by intro z; cases z))]; exact B.lf, B.nk, B.n1, B.n2, B.n3, B.n4, B.n5, B.n6⟩
theorem BookAt.setC (B : BookAt C H p b A ks ts ps cs ds fs) (cs' : List (Str × V)) : BookAt C (upd H A.dc (.dK (kvB cs'))) p b A ks ts ps cs' ds fs :=
  ⟨by rw [upd_ne B.p_ne.2.2.2.1]; exact B.ob, by rw [upd_ne B.nk]; exact B.dk, by rw [upd_ne (ne_of B.lt B.dc (by intro z; cases z))]; exact B.lt, by rw [upd_ne (ne_of B.lp B.dc (by intro z; cases z))]; exact B.lp, upd_same,
    by rw [upd_ne (ne_of B.ld B.dc (by intro z; cases z))]; exact B.ld, by rw [upd_ne (ne_of B.lf B.dc (by intro z; cases z))]; exact B.lf, B.nk, B.n1, B.n2, B.n3, B.n4, B.n5, B.n6⟩
theorem BookAt.setP (B : BookAt C H p b A ks ts ps cs ds fs) (ps' : List Str) : BookAt C (upd H A.lp (.lst (ps'.map V.str))) p b A ks ts ps' cs ds fs :=
  ⟨by rw [upd_ne B.p_ne.2.2.1]; exact B.ob, by rw [upd_ne (ne_of B.dk B.lp (by intro z; cases z))]; exact B.dk, by rw [upd_ne B.n1]; exact B.lt, upd_same, by rw [upd_ne (ne_of B.dc B.lp (by intro z; cases z))]; exact B.dc,
    by rw [upd_ne B.n4.symm]; exact B.ld, by rw [upd_ne B.n5.symm]; exact B.lf, B.nk, B.n1, B.n2, B.n3, B.n4, B.n5, B.n6⟩
end
/-- a whole number from lo to hi -/
def btw (lo hi : Int) : V → Prop
  | .int i => lo ≤ i ∧ i ≤ hi
  | _ => False
def spBetween (K : PySem.W.Frag) (N : Addr) : Sp := fun vs H Q E => ∃ v lo hi, vs = [v, .int lo, .int hi] ∧ Ptv K H v ∧ (btw lo hi v → Q .non H) ∧ (¬ btw lo hi v → Leaves K E N v H)
/-- Book.__init__(self, bound) -/
def spBookInit (K : PySem.W.Frag) (C N : Addr) : Sp := fun vs H Q E => ∃ (p dx : Addr) (v : V), vs = [.ref p, v] ∧ Ptv K H v ∧ H p = some (.ins C dx []) ∧ (¬ btw 0 24 v → Leaves K E N v H) ∧
  (∀ i A H', v = .int i → 0 ≤ i → i ≤ 24 → BookAt C H' p i A [] [] [] [] [] [] → (∀ a ∈ [A.dk, A.lt, A.lp, A.dc, A.ld, A.lf], H a = none) → A.dx = dx → Ext [p] H H' → Q .non H')
/-- what add_kind refuses: the class's name, the thing -/
def refK (ks : List (Str × V)) (v h : V) (okh : Bool) : Option (Str × V) :=
  match v with
  | .str z => if nmS z = false then some ("BadName", v) else if z ∈ ks.map (·.1) then some ("Known", v) else if okh = false then some (("BadHold" : Str), h) else if 8 ≤ ks.length then some (("Full" : Str), V.int 8) else none
  | _ => some ("BadName", v)
def refP (ps : List Str) (v : V) : Option (Str × V) :=
  match v with
  | .str z => if nmS z = false then some ("BadName", v) else if z ∈ ps then some ("Known", v) else if 8 ≤ ps.length then some (("Full" : Str), V.int 8) else none
  | _ => some ("BadName", v)
def refC2 (cs ks : List (Str × V)) : V → Option (Str × V)
  | .str y => if y ∈ ks.map (·.1) then (if 8 ≤ cs.length then some (("Full" : Str), V.int 8) else none) else some (("Unknown" : Str), .str y)
  | k => some (("Unknown" : Str), k)
def refC (cs ks : List (Str × V)) (v k : V) : Option (Str × V) :=
  match v with
  | .str z => if nmS z = false then some ("BadName", v) else if z ∈ cs.map (·.1) then some ("Known", v) else refC2 cs ks k
  | _ => some ("BadName", v)
theorem Leaves.ext {K : PySem.W.Frag} {E : XK} {C : Addr} {v : V} {H H1 : Hp} (L : Leaves K E C v H) (e : Ext [] H H1) : Leaves K E C v H1 := fun d H' h1 h2 h3 => L d H' (e.none h1 (by simp)) (e.trans h2) h3
def holdD (d : PyData) : Bool := [PyData.str "fast", .str "loose", .str "unsure"].any fun z => PyData.eqv z d
/-- Book.add_kind(self, name, hold) -/
def spAddKind (K : PySem.W.Frag) (C : Addr) : Sp := fun vs H Q E => ∃ p v h d i A ks ts ps cs ds fs, vs = [.ref p, v, h] ∧ Ptv K H v ∧ Im H h d ∧ okD d ∧ BookAt C H p i A ks ts ps cs ds fs ∧ ks.length ≤ 1000 ∧
  (∀ c t, refK ks v h (holdD d) = some (c, t) → Leaves K E (He.ga K c) t H) ∧
  (refK ks v h (holdD d) = none → ∀ H', Ext [A.dk] H H' → BookAt C H' p i A (ks ++ [(match v with | .str z => z | _ => ⟨#[]⟩, h)]) ts ps cs ds fs → Q .non H')
/-- Book.add_pot(self, name) -/
def spAddPot (K : PySem.W.Frag) (C : Addr) : Sp := fun vs H Q E => ∃ p v i A ks ts ps cs ds fs, vs = [.ref p, v] ∧ Ptv K H v ∧ BookAt C H p i A ks ts ps cs ds fs ∧ ps.length ≤ 1000 ∧
  (∀ c t, refP ps v = some (c, t) → Leaves K E (He.ga K c) t H) ∧
  (refP ps v = none → ∀ H', Ext [A.lp] H H' → BookAt C H' p i A ks ts (ps ++ [match v with | .str z => z | _ => ⟨#[]⟩]) cs ds fs → Q .non H')
/-- Book.add_cloth(self, name, kind) -/
def spAddCloth (K : PySem.W.Frag) (C : Addr) : Sp := fun vs H Q E => ∃ p v k i A ks ts ps cs ds fs, vs = [.ref p, v, k] ∧ Ptv K H v ∧ Ptv K H k ∧ (∀ H', Ext [] H H' → Ptv K H' k) ∧ BookAt C H p i A ks ts ps cs ds fs ∧ cs.length ≤ 1000 ∧
  (∀ c t, refC cs ks v k = some (c, t) → Leaves K E (He.ga K c) t H) ∧
  (refC cs ks v k = none → ∀ H', Ext [A.dc] H H' → BookAt C H' p i A ks ts ps (cs ++ [(match v with | .str z => z | _ => ⟨#[]⟩, k)]) ds fs → Q .non H')
theorem refK_name {ks : List (Str × V)} {v h : V} {o : Bool} (e : isNm v = false) : refK ks v h o = some (("BadName" : Str), v) := by
  cases v with
  | str z => exact if_pos (show nmS z = false from e)
  | _ => rfl
theorem refP_name {ps : List Str} {v : V} (e : isNm v = false) : refP ps v = some (("BadName" : Str), v) := by
  cases v with
  | str z => exact if_pos (show nmS z = false from e)
  | _ => rfl
theorem refC_name {cs ks : List (Str × V)} {v k : V} (e : isNm v = false) : refC cs ks v k = some (("BadName" : Str), v) := by
  cases v with
  | str z => exact if_pos (show nmS z = false from e)
  | _ => rfl
/-- a list of pairs (text, value), each a new tuple -/
def prsAt (H : Hp) (ts : List Addr) (ks : List (Str × V)) : Prop := Paired (fun (t : Addr) (q : Str × V) => H t = some (.tup [.str q.1, q.2])) ts ks
/-- kinds(), cloths(): a new list of new pairs -/
def spPairs (C : Addr) (which : Bool) : Sp := fun vs H Q _ => ∃ p i A ks ts ps cs ds fs, vs = [.ref p] ∧ BookAt C H p i A ks ts ps cs ds fs ∧
  ∀ a as H', H a = none → Ext [] H H' → H' a = some (.lst (as.map V.ref)) → prsAt H' as (if which then ks else cs) → Q (.ref a) H'
/-- pots(): a new list -/
def spPots (C : Addr) : Sp := fun vs H Q _ => ∃ p i A ks ts ps cs ds fs, vs = [.ref p] ∧ BookAt C H p i A ks ts ps cs ds fs ∧ ∀ a, H a = none → Q (.ref a) (upd H a (.lst (ps.map V.str)))
theorem paired_kvB {F : Addr → Key × V → Prop} {G : Addr → Str × V → Prop} (h : ∀ t z v, F t (Sum.inr z, v) → G t (z, v)) : ∀ {as : List Addr} {ks : List (Str × V)}, Paired F as (kvB ks) → Paired G as ks
  | [], [], _ => .nil
  | [], _ :: _, z => nomatch z
  | _ :: _, [], z => nomatch z
  | a :: as, q :: ks, .cons x r => .cons (h a q.1 q.2 x) (paired_kvB h r)
/-- the keys of such a dict -/
theorem valV_kvB {z : Str} : ∀ {ks : List (Str × V)}, (valV (kvB ks) (Sum.inr z : Key)).isSome = decide (z ∈ ks.map (·.1))
  | [] => rfl
  | q :: ks => by
    by_cases h : q.1 = z
    · have e : valV (kvB (q :: ks)) (Sum.inr z : Key) = some q.2 := valV_pos (p := (Sum.inr q.1, q.2)) (by rw [h])
      rw [e]
      subst h
      simp
    · have e : valV (kvB (q :: ks)) (Sum.inr z : Key) = valV (kvB ks) (Sum.inr z : Key) := valV_neg (p := (Sum.inr q.1, q.2)) (fun x => h (Sum.inr.inj x))
      rw [e, valV_kvB (ks := ks)]
      have h' : ¬ z = q.1 := fun x => h x.symm
      simp [h']
theorem putK_kvB {z : Str} {v : V} {ks : List (Str × V)} (h : z ∉ ks.map (·.1)) : putK (kvB ks) (Sum.inr z : Key) v = kvB (ks ++ [(z, v)]) := by
  have e : valV (kvB ks) (Sum.inr z : Key) = none := by
    have := valV_kvB (z := z) (ks := ks)
    rw [decide_eq_false h] at this
    simpa using this
  rw [putK_new _ e]
  show _ = List.map _ (ks ++ [(z, v)])
  rw [List.map_append]
  rfl
theorem inV_strs {z : Str} : ∀ {zs : List Str}, inV (.str z) (zs.map V.str) = decide (z ∈ zs)
  | [] => rfl
  | y :: zs => by
    show ((y == z) || inV (.str z) (zs.map V.str)) = _
    rw [inV_strs (zs := zs)]
    by_cases h : y = z
    · subst h; simp
    · have h' : ¬ z = y := fun x => h x.symm
      simp [h, h']
end Tp
namespace Tp
open PySem PySem.Spec PyProof.Rows L2
/-! ### the source of draws as it stands in a heap -/
def SrcAt (H : Hp) (S L : Addr) : Prop := ∃ (cells : List Int) (i k g : Int), H S = some (srcO L i k g) ∧ H L = some (.lst (cells.map V.int)) ∧ SrcOk cells i k g
/-- _law_draw(source, many), the heap told by what stays -/
def spDrawE : Sp := fun vs H Q _ => ∃ (S L : Addr) (many : Int), vs = [.ref S, .int many] ∧ SrcAt H S L ∧ 0 < many ∧ many < 2 ^ 200 ∧ ∀ n H', 0 ≤ n → n < many → Ext [S] H H' → SrcAt H' S L → Q (.int n) H'
theorem src_ne {H : Hp} {S L : Addr} {cells : List Int} {i k g : Int} (hS : H S = some (srcO L i k g)) (hL : H L = some (.lst (cells.map V.int))) : L ≠ S := by
  intro e; rw [e, hS] at hL
  have z := Option.some.inj hL
  injection z with z
  cases cells <;> simp at z
theorem draw_imp : ∀ vs H Q E, spDrawE vs H Q E → spDraw vs H Q E := by
  rintro vs H Q E ⟨S, L, many, rfl, ⟨cells, i, k, g, hS, hL, ok⟩, h1, h2, q⟩
  refine ⟨S, L, cells, i, k, g, many, rfl, hS, hL, ok, h1, h2, fun n i' k' g' n0 n1 ok' => q n _ n0 n1 (Ext.refl.mut (by simp) fun xs z => by rw [hS] at z; cases z) ⟨cells, i', k', g', upd_same, ?_, ok'⟩⟩
  rw [upd_ne (src_ne hS hL)]
  exact hL
theorem SrcAt.ext {H H' : Hp} {S L : Addr} (s : SrcAt H S L) (e : Ext [] H H') : SrcAt H' S L := by
  obtain ⟨cells, i, k, g, hS, hL, ok⟩ := s
  exact ⟨cells, i, k, g, e.same _ _ hS, e.same _ _ hL, ok⟩
/-- _law_source(script): a new source -/
def spSource (K : PySem.W.Frag) : Sp := fun vs H Q _ => ∃ (a : Addr) (ns : List Int), vs = [.ref a] ∧ SqL K H a (ns.map V.int) ∧ ns.length ≤ 63 ∧ ∀ S L H', H S = none → H L = none → Ext [] H H' → SrcAt H' S L → Q (.ref S) H'
end Tp
namespace Tp
open PySem PySem.Spec PyProof.Rows L2
section
variable {σ : L2.St} {H : Hp} {Q : VK} {E : XK} {te : TE} {S L : Addr} {many : Int} {i : Nat}
/-- a draw, as an expression -/
theorem draw_ex (h0 : σ[i]? = some (some (.ref S))) (hS : SrcAt H S L) (hm : 0 < many) (hm2 : many < 2 ^ 200) (he : Val te σ H (.int many)) (q : ∀ n H', 0 ≤ n → n < many → Ext [S] H H' → SrcAt H' S L → Q (.int n) H') :
    tCall spDrawE [] E (tCons (tVar i) (tCons te tNil)) σ H Q := ⟨_, h0, he _ ⟨S, L, many, rfl, hS, hm, hm2, q⟩⟩
theorem SrcAt.new {o : HO} {a : Addr} (s : SrcAt H S L) (h : H a = none) : SrcAt (upd H a o) S L := s.ext (Ext.new h)
end
end Tp
/-! F: a def called within an except suite, the error held as an argument; list.count of a bool -/
namespace Tp
open PySem PySem.Spec PyProof.Rows L2 He
abbrev SpE := Addr → Value → Option Addr → Sp
structure FnE (P : Program) (w : World) (K : PySem.W.Frag) (mg : Str → Option Value) (base : Heap) (CX : CXT) (k : Nat) (f : Addr) (fd : FuncData) (ps : List Str) (sp : SpE) : Prop where
  len : ∀ a cls d vs H Q E, sp a cls d vs H Q E → vs.length = ps.length
  run : ∀ (A : Around) (outer : List Env) (s : Shared) (H : Hp) (args : Args) (us : List Value) (vs : List V) (Q : VK) (E : XK) (p : Addr × Obj) (cls : Value) (d : Option Addr), L2H.RoomH k A → Zc cls d p.2 → (∃ v, p.2.data = .fields v) → L2H.PinOk outer H s p → Env0 P w K mg base A outer s H →
    BindsTo s fd args (ps.zip us) → Vals vs us → sp p.1 cls d vs H Q E → codeAny (model P w) A (.call (.ref f) args) (CR CX outer P w H s Q E) s
structure DfE (P : Program) (w : World) (K : PySem.W.Frag) (mg : Str → Option Value) (base : Heap) (CX : CXT) (k : Nat) (x : Str) (ps : List Str) (sp : SpE) : Prop where
  mg_ : mg x = some (.ref (ga K x))
  kp : PySem.W.keepIn K (.ref (ga K x)) = true
  ex : ∃ fd, FnE P w K mg base CX k (ga K x) fd ps sp ∧ Binds K fd ps []
theorem DfE.mk' {P : Program} {w : World} {K : PySem.W.Frag} {mg : Str → Option Value} {base : Heap} {CX : CXT} {k : Nat} {x : Str} {ps : List Str} {sp : SpE} {st : Stmt} (hm : mg x = some (.ref (ga K x))) (hF : ∃ fd, FnP K x st fd)
    (hb : ∀ (kV doc pm : Value) (an : Option Addr) (cdv ct : Value) (us : List Value), us.length = ps.length → bindArgs (PySem.W.fnOf x x (defArgs st) (defBody st) (defScope st) .none kV doc pm an cdv ct) ⟨us, []⟩ = pure (ps.zip us))
    (h : ∀ fd, FnP K x st fd → FnE P w K mg base CX k (ga K x) fd ps sp) : DfE P w K mg base CX k x ps sp := by
  obtain ⟨fd, F⟩ := hF
  exact ⟨hm, F.kp, fd, h fd F, F.bindsN hb⟩
section
variable {X : Cx} {CX : CXT} {k : Nat} {f : Addr} {fd : FuncData} {ps : List Str} {sp : SpE} {E : XK} {x : Str} {e : Expr} {es : List Expr} {t : TA} {q pos : Pos} {a : Addr} {oe : Obj} {cls : Value} {d : Option Addr} {pn : List (Addr × Obj)}
end
/-! ### list.count(True) -/
theorem gset {i : Nat} {x : V} {σ : L2.St} {H : Hp} {k : L2.St → Hp → Prop} (h : k (σ.set i (some x)) H) : gName i x σ H k := h
end Tp
/-! G: method calls in a try, what leaves told at the slots -/
namespace Tp
open PySem PySem.Spec PyProof.Rows L2 He
section
variable {X : Cx} {CX : CXT} {k n : Nat} {f C : Addr} {fd : FuncData} {ps ks : List Str} {sp : Sp} {E : L2.St → XK} {x m : Str} {p pos apos : Pos} {o e : Expr} {es : List Expr} {kws : List Keyword} {ta : TE} {t tk : TA} {dvs : List V} {ds : List Value}
  {g : List Value → List Value → List Value} {gV : List V → List V → List V}
end
end Tp
/-! W: the words of a law's numbers: which, that they differ -/
namespace Tp
open PySem PySem.Spec PyProof.Rows L2 He
/-- the digits of a number, the last first; 26 of them, no digit for nothing -/
def dig : Nat → Nat → List Nat
  | 0, _ => []
  | f + 1, n => n % 26 :: (if n / 26 = 0 then [] else dig f (n / 26 - 1))
def cap : Nat → Nat
  | 0 => 0
  | f + 1 => 26 + 26 * cap f
def valD26 : List Nat → Nat
  | [] => 0
  | d :: ds => d + 1 + 26 * valD26 ds
theorem val_dig : ∀ (f n : Nat), n + 1 ≤ cap f → valD26 (dig f n) = n + 1
  | 0, n, h => by simp [cap] at h
  | f + 1, n, h => by
    have hc : n + 1 ≤ 26 + 26 * cap f := h
    show n % 26 + 1 + 26 * valD26 (if n / 26 = 0 then [] else dig f (n / 26 - 1)) = n + 1
    by_cases h0 : n / 26 = 0
    · rw [if_pos h0]
      show n % 26 + 1 + 26 * 0 = n + 1
      omega
    · rw [if_neg h0, val_dig f (n / 26 - 1) (by omega)]
      omega
theorem dig_inj {f n m : Nat} (hn : n + 1 ≤ cap f) (hm : m + 1 ≤ cap f) (h : dig f n = dig f m) : n = m := by
  have h1 := val_dig f n hn
  have h2 := val_dig f m hm
  rw [h, h2] at h1
  omega
theorem dig_len : ∀ (f n : Nat), (dig f n).length ≤ f
  | 0, _ => Nat.le_refl _
  | f + 1, n => by
    show (if n / 26 = 0 then [] else dig f (n / 26 - 1)).length + 1 ≤ f + 1
    split
    · exact Nat.succ_le_succ (Nat.zero_le _)
    · exact Nat.succ_le_succ (dig_len f _)
theorem dig_lt : ∀ (f n : Nat), ∀ d ∈ dig f n, d < 26
  | 0, _, d, h => by cases h
  | f + 1, n, d, h => by
    have h' : d ∈ n % 26 :: (if n / 26 = 0 then [] else dig f (n / 26 - 1)) := h
    rcases List.mem_cons.mp h' with rfl | h2
    · exact Nat.mod_lt _ (by decide)
    · split at h2
      · cases h2
      · exact dig_lt f _ d h2
/-- digits as a text -/
def txtD (ds : List Nat) : Str := ⟨(ds.reverse.map (· + 97)).toArray⟩
def wordOf (n : Nat) : Str := txtD (dig 12 n)
theorem txtD_inj {a b : List Nat} (h : txtD a = txtD b) : a = b := by
  have h1 : (a.reverse.map (· + 97)) = (b.reverse.map (· + 97)) := by
    have := congrArg (fun z : Str => z.cps.toList) h
    simpa [txtD] using this
  have h2 := (List.map_inj_right (fun x y (e : x + 97 = y + 97) => by omega)).mp h1
  exact List.reverse_inj.mp h2
theorem word_inj {n m : Nat} (hn : n + 1 ≤ cap 12) (hm : m + 1 ≤ cap 12) (h : wordOf n = wordOf m) : n = m := dig_inj hn hm (txtD_inj h)
theorem txtD_len {ds : List Nat} : (txtD ds).length = ds.length := by
  show Array.size _ = _
  simp [txtD]
theorem txtD_app {a b : List Nat} : txtD (a ++ b) = txtD b ++ txtD a := by
  show (⟨_⟩ : Str) = ⟨_⟩
  congr 1
  simp [txtD]
theorem lz_at {d : Nat} (h : d < 26) : Lz.cps.toList[d]? = some (d + 97) := by
  have : ∀ d < 26, Lz.cps.toList[d]? = some (d + 97) := by decide +kernel
  exact this d h
theorem lz_mem {d : Nat} (h : d < 26) : d + 97 ∈ Lz.cps.toList := List.mem_of_getElem? (lz_at h)
/-- a text of letters -/
theorem nm_txtD {ds : List Nat} (h : ∀ d ∈ ds, d < 26) (h1 : 1 ≤ ds.length) (h2 : ds.length ≤ 12) : nmS (txtD ds) = true := by
  unfold nmS
  rw [txtD_len]
  refine Bool.and_eq_true_iff.mpr ⟨decide_eq_true (by omega), Bool.and_eq_true_iff.mpr ⟨decide_eq_true (by omega), ?_⟩⟩
  unfold allL
  rw [List.all_eq_true]
  intro c hc
  have : c ∈ ds.reverse.map (· + 97) := by simpa [txtD] using hc
  obtain ⟨d, hd, rfl⟩ := List.mem_map.mp this
  exact decide_eq_true (lz_mem (h d (List.mem_reverse.mp hd)))
theorem okS_txtD {ds : List Nat} (h : ∀ d ∈ ds, d < 26) : okS (txtD ds) := by
  rw [okS_list]
  intro c hc
  have : c ∈ ds.reverse.map (· + 97) := by simpa [txtD] using hc
  obtain ⟨d, hd, rfl⟩ := List.mem_map.mp this
  have := h d (List.mem_reverse.mp hd)
  omega
theorem dig_pos (n : Nat) : 1 ≤ (dig 12 n).length := by
  show 1 ≤ (if n / 26 = 0 then [] else dig 11 (n / 26 - 1)).length + 1
  omega
theorem nm_word (n : Nat) : nmS (wordOf n) = true := nm_txtD (dig_lt 12 n) (dig_pos n) (dig_len 12 n)
theorem okS_word (n : Nat) : okS (wordOf n) := okS_txtD (dig_lt 12 n)
/-- _law_word(number): the very text -/
def spWordX : Sp := fun vs H Q _ => ∃ n : Nat, vs = [.int (n : Int)] ∧ Q (.str (wordOf n)) H
end Tp
namespace Tp
open PySem PySem.Spec PyProof.Rows L2 He
theorem dig_len' : ∀ (f g n : Nat), n + 1 ≤ cap g → (dig f n).length ≤ g
  | 0, _, _, _ => Nat.zero_le _
  | f + 1, 0, n, h => by simp [cap] at h
  | f + 1, g + 1, n, h => by
    have hc : n + 1 ≤ 26 + 26 * cap g := h
    show (if n / 26 = 0 then [] else dig f (n / 26 - 1)).length + 1 ≤ g + 1
    split
    · exact Nat.succ_le_succ (Nat.zero_le _)
    · exact Nat.succ_le_succ (dig_len' f g _ (by omega))
theorem word_len {n g : Nat} (h : n + 1 ≤ cap g) : (wordOf n).length ≤ g := by
  unfold wordOf
  rw [txtD_len]
  exact dig_len' 12 g n h
/-- letters alone -/
def ltrs (z : Str) : Prop := ∀ c ∈ z.cps.toList, c ∈ Lz.cps.toList
theorem ltrs_txtD {ds : List Nat} (h : ∀ d ∈ ds, d < 26) : ltrs (txtD ds) := fun c hc => by
  have : c ∈ ds.reverse.map (· + 97) := by simpa [txtD] using hc
  obtain ⟨d, hd, rfl⟩ := List.mem_map.mp this
  exact lz_mem (h d (List.mem_reverse.mp hd))
theorem ltrs_word (n : Nat) : ltrs (wordOf n) := ltrs_txtD (dig_lt 12 n)
theorem app_list {a b : Str} : (a ++ b).cps.toList = a.cps.toList ++ b.cps.toList := by
  show (a.cps ++ b.cps).toList = _
  simp
theorem ltrs_app {a b : Str} (ha : ltrs a) (hb : ltrs b) : ltrs (a ++ b) := fun c hc => by
  rw [app_list] at hc
  rcases List.mem_append.mp hc with h | h
  · exact ha c h
  · exact hb c h
theorem ltrs_cut {z : Str} {lo hi : Option Int} (h : ltrs z) : ltrs (cutS z lo hi) := fun c hc => by
  unfold cutS at hc
  simp only at hc
  exact h c (List.mem_of_mem_drop (List.mem_of_mem_take hc))
theorem lz_ok : ∀ c ∈ Lz.cps.toList, c < 0x110000 := by decide +kernel
theorem ltrs_ok {z : Str} (h : ltrs z) : okS z := by
  rw [okS_list]
  exact fun c hc => lz_ok c (h c hc)
theorem ltrs_nm {z : Str} (h : ltrs z) (h1 : 1 ≤ z.length) (h2 : z.length ≤ 12) : nmS z = true := by
  unfold nmS
  refine Bool.and_eq_true_iff.mpr ⟨decide_eq_true (by omega), Bool.and_eq_true_iff.mpr ⟨decide_eq_true (by omega), ?_⟩⟩
  unfold allL
  rw [List.all_eq_true]
  exact fun c hc => decide_eq_true (h c hc)
theorem str_list {a b : Str} (h : a.cps.toList = b.cps.toList) : a = b := by
  obtain ⟨x⟩ := a
  obtain ⟨y⟩ := b
  have : x = y := Array.toList_inj.mp h
  rw [this]
theorem mid_inj {a b x y : Str} (h : (a ++ x) ++ b = (a ++ y) ++ b) : x = y := by
  have h1 := congrArg (fun z : Str => z.cps.toList) h
  simp only [app_list, List.append_assoc] at h1
  have h2 := List.append_cancel_left h1
  exact str_list (List.append_cancel_right h2)
theorem cut_len {z : Str} {p : Nat} (hp : p ≤ z.length) : (cutS z none (some (p : Int))).length + (cutS z (some (p : Int)) none).length = z.length := by
  show Array.size (List.toArray _) + Array.size (List.toArray _) = _
  rw [List.size_toArray, List.size_toArray, List.length_take, List.length_take, List.length_drop, List.length_drop, Tp.len_list]
  rw [HT.sIx_nat, HT.sIx_nat, HT.sIx_none, HT.sIx_none]
  omega
/-- one letter for each number below 8 -/
theorem one_len {n : Nat} (h : n < 8) : (wordOf n).length = 1 := by
  have h1 := word_len (n := n) (g := 1) (by simp [cap]; omega)
  have h2 := dig_pos n
  have h3 : (wordOf n).length = (dig 12 n).length := txtD_len
  omega
theorem cap12 : 8 * 10 ^ 15 + 8 ≤ cap 12 := by decide
theorem cap10 : 10 ^ 13 ≤ cap 10 := by decide
/-- _law_name(source, k): the very word -/
def spNameX : Sp := fun vs H Q _ => ∃ (S L : Addr) (k : Nat), vs = [.ref S, .int (k : Int)] ∧ SrcAt H S L ∧ ∀ (a : Nat) H', a < 10 ^ 15 → Ext [S] H H' → SrcAt H' S L → Q (.str (wordOf (8 * a + k))) H'
/-- good names, each another one -/
structure Names (zs : List Str) : Prop where
  nd : zs.Nodup
  nm : ∀ z ∈ zs, nmS z = true
  ok : ∀ z ∈ zs, okS z
def spNames : Sp := fun vs H Q _ => ∃ (S L : Addr) (many : Nat), vs = [.ref S, .int (many : Int)] ∧ many ≤ 8 ∧ SrcAt H S L ∧ ∀ (zs : List Str) (l : Addr) H', zs.length = many → Names zs → H l = none → Ext [S] H H' → SrcAt H' S L → H' l = some (.lst (zs.map V.str)) → Q (.ref l) H'
/-- names by number: distinct as the numbers are -/
theorem names_of {f : Nat → Str} {m : Nat} (hi : ∀ i j, i < m → j < m → f i = f j → i = j) (h1 : ∀ i, i < m → nmS (f i) = true) (h2 : ∀ i, i < m → okS (f i)) : Names ((List.range m).map f) := by
  refine ⟨?_, ?_, ?_⟩
  · refine List.pairwise_map.mpr (List.Pairwise.imp_of_mem (R := (· ≠ ·)) (fun {i j} hi' hj' hne e => hne (hi i j (List.mem_range.mp hi') (List.mem_range.mp hj') e)) List.nodup_range)
  · intro z hz
    obtain ⟨i, hi', rfl⟩ := List.mem_map.mp hz
    exact h1 i (List.mem_range.mp hi')
  · intro z hz
    obtain ⟨i, hi', rfl⟩ := List.mem_map.mp hz
    exact h2 i (List.mem_range.mp hi')
theorem SrcAt.keepM {ms : List Addr} {H H' : Hp} {S L : Addr} (s : SrcAt H S L) (e : Ext ms H H') (hS : S ∉ ms) (hL : L ∉ ms) : SrcAt H' S L := by
  obtain ⟨cells, i, k, g, h1, h2, ok⟩ := s
  exact ⟨cells, i, k, g, e.keep _ _ h1 hS, e.keep _ _ h2 hL, ok⟩
theorem src_ne_new {H : Hp} {S L a : Addr} (hS : SrcAt H S L) (ha : H a = none) : a ≠ S ∧ a ≠ L := by
  obtain ⟨cells, i, k, g, h1, h2, _⟩ := hS
  exact ⟨(ne_of_none h1 ha).symm, (ne_of_none h2 ha).symm⟩
end Tp
/-! R: rows of pairs of texts, values of draws -/
namespace Tp
open PySem PySem.Spec PyProof.Rows L2 He LiI
variable {K : PySem.W.Frag}
/-- values of a law's draw: data that never changes, a text of bounded length -/
def shortV : V → Prop
  | .str z => z.length ≤ 1000
  | _ => True
def Wv (H : Hp) (v : V) : Prop := ∃ d, Im H v d ∧ okD d ∧ shortV v
theorem Wv.ext {ms : List Addr} {H H' : Hp} {v : V} (h : Wv H v) (e : Ext ms H H') : Wv H' v := by
  obtain ⟨d, a, b, c⟩ := h
  exact ⟨d, a.ext e, b, c⟩
theorem Wv.ptv {K : PySem.W.Frag} {H : Hp} {v : V} (h : Wv H v) : Ptv K H v := by
  obtain ⟨d, a, b, c⟩ := h
  cases a with
  | non => exact .non
  | bl _ => exact .bl _
  | int i => exact .int i
  | str x => exact .str c
  | tup h _ => exact .tup (.inl (.inl h))
theorem Wv.str {H : Hp} {z : Str} (h : okS z) (hl : z.length ≤ 1000) : Wv H (.str z) := ⟨_, .str z, okD.str h, hl⟩
theorem Wv.non {H : Hp} : Wv H .non := ⟨_, .non, okD.none, trivial⟩
theorem Wv.int {H : Hp} {i : Int} : Wv H (.int i) := ⟨_, .int i, okD.int, trivial⟩
theorem Wv.bl {H : Hp} {b : Bool} : Wv H (.bl b) := ⟨_, .bl b, okD.bool, trivial⟩
theorem len_join {y : Str} : ∀ {zs : List Str}, (Str.join y zs).length ≤ (zs.map (·.length)).sum + zs.length * y.length
  | [] => Nat.zero_le _
  | [z] => by show z.length ≤ _; simp
  | x :: z :: r => by
    show (x ++ y ++ Str.join y (z :: r)).length ≤ _
    rw [len_append, len_append]
    have := len_join (y := y) (zs := z :: r)
    simp only [List.map_cons, List.sum_cons, List.length_cons, Nat.add_mul] at this ⊢
    omega
abbrev tv (q : Str × Str) : Str × V := (q.1, V.str q.2)
def RowAt (H : Hp) (r : Addr) (l : List (Str × Str)) : Prop := ∃ as : List Addr, H r = some (.lst (as.map V.ref)) ∧ Paired (fun (t : Addr) (q : Str × Str) => H t = some (.tup [.str q.1, .str q.2])) as l
abbrev okN (z : Str) : Prop := okS z ∧ z.length ≤ 12
theorem paired_ext {ms : List Addr} {H H' : Hp} (e : Ext ms H H') : ∀ {as : List Addr} {l : List (Str × Str)}, Paired (fun (t : Addr) (q : Str × Str) => H t = some (.tup [.str q.1, .str q.2])) as l → Paired (fun (t : Addr) (q : Str × Str) => H' t = some (.tup [.str q.1, .str q.2])) as l
  | _, _, .nil => .nil
  | _, _, .cons x r => .cons (e.tups _ _ x) (paired_ext e r)
theorem RowAt.ext {ms : List Addr} {H H' : Hp} {r : Addr} {l : List (Str × Str)} (h : RowAt H r l) (e : Ext ms H H') (hr : r ∉ ms) : RowAt H' r l := by
  obtain ⟨as, h1, h2⟩ := h
  exact ⟨as, e.keep _ _ h1 hr, paired_ext e h2⟩
abbrev dPair (q : Str × Str) : PyData := .tuple [.str q.1, .str q.2]
theorem paired_im {H : Hp} : ∀ {as : List Addr} {l : List (Str × Str)}, Paired (fun (t : Addr) (q : Str × Str) => H t = some (.tup [.str q.1, .str q.2])) as l → ImAll H (as.map V.ref) (l.map dPair)
  | _, _, .nil => .nil
  | _, _, .cons x r => .cons (.tup x (.cons (.str _) (.cons (.str _) .nil))) (paired_im r)
theorem RowAt.dp {H : Hp} {r : Addr} {l : List (Str × Str)} (h : RowAt H r l) : Dp K H (.ref r) (.list (l.map dPair)) := by
  obtain ⟨as, h1, h2⟩ := h
  exact .lst (SqL.of h1) (paired_im h2).dp
theorem okD_pair {q : Str × Str} (h : okN q.1 ∧ okN q.2) : okD (dPair q) := okD.tup (n := 1) (by
  intro d hd
  simp at hd
  rcases hd with rfl | rfl
  · exact ⟨(okD.str h.1.1).1, by simp [PyData.depth]⟩
  · exact ⟨(okD.str h.2.1).1, by simp [PyData.depth]⟩) (by decide)
theorem sh_row {l : List (Str × Str)} (h : ∀ q ∈ l, okN q.1 ∧ okN q.2) : SeqAt.shaped (.list (l.map dPair)) = true := shapedL (n := 8) (by
  intro x hx
  obtain ⟨q, hq, rfl⟩ := List.mem_map.mp hx
  exact okD_pair (h q hq)) (by decide)
theorem sh_strs {l : List Str} (h : ∀ q ∈ l, okS q) : SeqAt.shaped (.list (l.map PyData.str)) = true := shapedL (n := 8) (by
  intro x hx
  obtain ⟨q, hq, rfl⟩ := List.mem_map.mp hx
  exact ⟨(okD.str (h q hq)).1, by simp [PyData.depth]⟩) (by decide)
theorem eqv_self {d : PyData} (h : SeqAt.shaped d = true) : PyData.eqv d d = true := SeqAt.eqv_refl d (SeqAt.canLay_of_shaped h)
theorem paired_at {H : Hp} : ∀ {as : List Addr} {l : List (Str × Str)} {i : Nat} {t : Addr}, Paired (fun (t : Addr) (q : Str × Str) => H t = some (.tup [.str q.1, .str q.2])) as l → as[i]? = some t → ∃ q, l[i]? = some q ∧ H t = some (.tup [.str q.1, .str q.2])
  | _, _, _, _, .nil, e => by simp at e
  | _, _, 0, _, .cons x r, e => by simp at e; subst e; exact ⟨_, rfl, x⟩
  | _, _, i + 1, t, .cons _ r, e => by
    obtain ⟨q, h1, h2⟩ := paired_at (i := i) r (by simpa using e)
    exact ⟨q, by simpa using h1, h2⟩
theorem paired_len {H : Hp} : ∀ {as : List Addr} {l : List (Str × Str)}, Paired (fun (t : Addr) (q : Str × Str) => H t = some (.tup [.str q.1, .str q.2])) as l → as.length = l.length
  | _, _, .nil => rfl
  | _, _, .cons _ r => by simp [paired_len r]
/-- an item of a row -/
theorem row_at {H : Hp} {r : Addr} {l : List (Str × Str)} {n : Int} (h : RowAt H r l) (h0 : 0 ≤ n) (h1 : n < (l.length : Int)) : ∃ (as : List Addr) (t : Addr) (q : Str × Str), H r = some (.lst (as.map V.ref)) ∧ atI (as.map V.ref) n = some (.ref t) ∧ q ∈ l ∧ H t = some (.tup [.str q.1, .str q.2]) := by
  obtain ⟨as, e1, e2⟩ := h
  obtain ⟨j, rfl⟩ := Int.eq_ofNat_of_zero_le h0
  have hj : j < as.length := by rw [paired_len e2]; omega
  obtain ⟨q, hq, hT⟩ := paired_at e2 (List.getElem?_eq_getElem hj)
  exact ⟨as, as[j], q, e1, atI_nat (by rw [List.getElem?_map, List.getElem?_eq_getElem hj]; rfl), List.mem_of_getElem? hq, hT⟩
theorem row_len {H : Hp} {r : Addr} {l : List (Str × Str)} (h : RowAt H r l) : ∃ xs, H r = some (.lst xs) ∧ xs.length = l.length := by
  obtain ⟨as, e1, e2⟩ := h
  exact ⟨_, e1, by rw [List.length_map, paired_len e2]⟩
/-- a list of values of draws -/
def Nr (H : Hp) (n : Addr) (ys : List V) (k : Nat) : Prop := H n = some (.lst ys) ∧ ys.length ≤ k ∧ ∀ y ∈ ys, Wv H y
theorem Nr.ext {ms : List Addr} {H H' : Hp} {n : Addr} {ys : List V} {k : Nat} (h : Nr H n ys k) (e : Ext ms H H') (hn : n ∉ ms) : Nr H' n ys k := ⟨e.keep _ _ h.1 hn, h.2.1, fun y hy => (h.2.2 y hy).ext e⟩
theorem Nr.grow {H H' : Hp} {n : Addr} {ys : List V} {k : Nat} (h : Nr H n ys k) (e : Ext [] H H') : Nr H' n ys k := h.ext e (by simp)
theorem sq_asg {te : TE} {i : Nat} {tz : TS} {D : Ends} {σ : L2.St} {H : Hp} (h : te σ H fun v H1 => tz D (σ.set i (some v)) H1) : tSeq (tAsg te (gName i)) tz D σ H := h
theorem paired_snoc {F : Addr → Str × Str → Prop} {t : Addr} {q : Str × Str} (h : F t q) : ∀ {as : List Addr} {l : List (Str × Str)}, Paired F as l → Paired F (as ++ [t]) (l ++ [q])
  | _, _, .nil => .cons h .nil
  | _, _, .cons x r => .cons x (paired_snoc h r)
/-- a row grows -/
theorem RowAt.push {H : Hp} {r t : Addr} {l : List (Str × Str)} {xs : List V} {q : Str × Str} (h : RowAt H r l) (hxs : H r = some (.lst xs)) (ht : H t = none) : RowAt (upd (upd H t (.tup [.str q.1, .str q.2])) r (.lst (xs ++ [.ref t]))) r (l ++ [q]) := by
  obtain ⟨as, h1, h2⟩ := h
  rw [h1] at hxs
  cases hxs
  have e1 := Ext.new (ms := [r]) (o := .tup [.str q.1, .str q.2]) ht
  have e : Ext [r] H (upd (upd H t (.tup [.str q.1, .str q.2])) r (.lst (as.map V.ref ++ [.ref t]))) := e1.mut (by simp) fun xs z => by rw [h1] at z; cases z
  refine ⟨as ++ [t], by rw [upd_same, List.map_append]; rfl, paired_snoc ?_ (paired_ext e h2)⟩
  show upd _ r _ t = _
  rw [upd_ne (fun z => by rw [← z, ht] at h1; cases h1)]
  exact upd_same
theorem ext_push {H : Hp} {r t : Addr} {xs : List V} {o : HO} (hxs : H r = some (.lst xs)) (ht : H t = none) {o' : HO} : Ext [r] H (upd (upd H t o) r o') := (Ext.new (ms := [r]) ht).mut (by simp) fun xs z => by rw [hxs] at z; cases z
theorem mem_tv {z : Str} {l : List (Str × Str)} : z ∈ (l.map tv).map (·.1) ↔ z ∈ l.map (·.1) := by
  rw [List.map_map]
  exact Iff.rfl
end Tp
/-! M: a drawn model of a book, as it stands in a heap -/
namespace Tp
open PySem PySem.Spec PyProof.Rows L2 He
structure Mad where
  M : Addr
  m0 : Addr
  m1 : Addr
  m2 : Addr
  m3 : Addr
  m4 : Addr
  m5 : Addr
abbrev Mad.all (a : Mad) : List Addr := [a.M, a.m0, a.m1, a.m2, a.m3, a.m4, a.m5]
abbrev Mad.items (a : Mad) : List V := [.ref a.m0, .ref a.m1, .ref a.m2, .ref a.m3, .ref a.m4, .ref a.m5]
/-- kinds, thirsts, pots, cloths, dips; the facts as values -/
structure MdAt (H : Hp) (a : Mad) (k t : List (Str × Str)) (p : List Str) (c d : List (Str × Str)) (fs : List V) : Prop where
  nd : a.all.Nodup
  M : H a.M = some (.lst a.items)
  r0 : RowAt H a.m0 k
  r1 : RowAt H a.m1 t
  r2 : H a.m2 = some (.lst (p.map V.str))
  r3 : RowAt H a.m3 c
  r4 : RowAt H a.m4 d
  r5 : H a.m5 = some (.lst fs)
section
variable {H H' : Hp} {a : Mad} {k t c d : List (Str × Str)} {p : List Str} {fs : List V} {ms : List Addr} {z y : Str} {u : Addr} {xs : List V}
theorem MdAt.ext (v : MdAt H a k t p c d fs) (e : Ext ms H H') (h : ∀ x ∈ a.all, x ∉ ms) : MdAt H' a k t p c d fs :=
  ⟨v.nd, e.keep _ _ v.M (h _ (by simp)), v.r0.ext e (h _ (by simp)), v.r1.ext e (h _ (by simp)), e.keep _ _ v.r2 (h _ (by simp)), v.r3.ext e (h _ (by simp)), v.r4.ext e (h _ (by simp)), e.keep _ _ v.r5 (h _ (by simp))⟩
theorem MdAt.push0 (v : MdAt H a k t p c d fs) (hxs : H a.m0 = some (.lst xs)) (hu : H u = none) : MdAt (upd (upd H u (.tup [.str z, .str y])) a.m0 (.lst (xs ++ [.ref u]))) a (k ++ [(z, y)]) t p c d fs := by
  have nd := v.nd
  simp only [Mad.all, List.nodup_cons, List.mem_cons, List.not_mem_nil, not_or, or_false] at nd
  obtain ⟨⟨n0, n1, n2, n3, n4, n5⟩, ⟨n01, n02, n03, n04, n05⟩, ⟨n12, n13, n14, n15⟩, ⟨n23, n24, n25⟩, ⟨n34, n35⟩, n45, _⟩ := nd
  have e := ext_push (o := .tup [.str z, .str y]) (o' := .lst (xs ++ [.ref u])) hxs hu
  exact ⟨v.nd, e.keep _ _ v.M (by simpa using n0), v.r0.push (q := (z, y)) hxs hu, v.r1.ext e (by simpa using Ne.symm n01), e.keep _ _ v.r2 (by simpa using Ne.symm n02), v.r3.ext e (by simpa using Ne.symm n03), v.r4.ext e (by simpa using Ne.symm n04), e.keep _ _ v.r5 (by simpa using Ne.symm n05)⟩
theorem MdAt.push1 (v : MdAt H a k t p c d fs) (hxs : H a.m1 = some (.lst xs)) (hu : H u = none) : MdAt (upd (upd H u (.tup [.str z, .str y])) a.m1 (.lst (xs ++ [.ref u]))) a k (t ++ [(z, y)]) p c d fs := by
  have nd := v.nd
  simp only [Mad.all, List.nodup_cons, List.mem_cons, List.not_mem_nil, not_or, or_false] at nd
  obtain ⟨⟨n0, n1, n2, n3, n4, n5⟩, ⟨n01, n02, n03, n04, n05⟩, ⟨n12, n13, n14, n15⟩, ⟨n23, n24, n25⟩, ⟨n34, n35⟩, n45, _⟩ := nd
  have e := ext_push (o := .tup [.str z, .str y]) (o' := .lst (xs ++ [.ref u])) hxs hu
  exact ⟨v.nd, e.keep _ _ v.M (by simpa using n1), v.r0.ext e (by simpa using n01), v.r1.push (q := (z, y)) hxs hu, e.keep _ _ v.r2 (by simpa using Ne.symm n12), v.r3.ext e (by simpa using Ne.symm n13), v.r4.ext e (by simpa using Ne.symm n14), e.keep _ _ v.r5 (by simpa using Ne.symm n15)⟩
theorem MdAt.push3 (v : MdAt H a k t p c d fs) (hxs : H a.m3 = some (.lst xs)) (hu : H u = none) : MdAt (upd (upd H u (.tup [.str z, .str y])) a.m3 (.lst (xs ++ [.ref u]))) a k t p (c ++ [(z, y)]) d fs := by
  have nd := v.nd
  simp only [Mad.all, List.nodup_cons, List.mem_cons, List.not_mem_nil, not_or, or_false] at nd
  obtain ⟨⟨n0, n1, n2, n3, n4, n5⟩, ⟨n01, n02, n03, n04, n05⟩, ⟨n12, n13, n14, n15⟩, ⟨n23, n24, n25⟩, ⟨n34, n35⟩, n45, _⟩ := nd
  have e := ext_push (o := .tup [.str z, .str y]) (o' := .lst (xs ++ [.ref u])) hxs hu
  exact ⟨v.nd, e.keep _ _ v.M (by simpa using n3), v.r0.ext e (by simpa using n03), v.r1.ext e (by simpa using n13), e.keep _ _ v.r2 (by simpa using n23), v.r3.push (q := (z, y)) hxs hu, v.r4.ext e (by simpa using Ne.symm n34), e.keep _ _ v.r5 (by simpa using Ne.symm n35)⟩
theorem MdAt.push4 (v : MdAt H a k t p c d fs) (hxs : H a.m4 = some (.lst xs)) (hu : H u = none) : MdAt (upd (upd H u (.tup [.str z, .str y])) a.m4 (.lst (xs ++ [.ref u]))) a k t p c (d ++ [(z, y)]) fs := by
  have nd := v.nd
  simp only [Mad.all, List.nodup_cons, List.mem_cons, List.not_mem_nil, not_or, or_false] at nd
  obtain ⟨⟨n0, n1, n2, n3, n4, n5⟩, ⟨n01, n02, n03, n04, n05⟩, ⟨n12, n13, n14, n15⟩, ⟨n23, n24, n25⟩, ⟨n34, n35⟩, n45, _⟩ := nd
  have e := ext_push (o := .tup [.str z, .str y]) (o' := .lst (xs ++ [.ref u])) hxs hu
  exact ⟨v.nd, e.keep _ _ v.M (by simpa using n4), v.r0.ext e (by simpa using n04), v.r1.ext e (by simpa using n14), e.keep _ _ v.r2 (by simpa using n24), v.r3.ext e (by simpa using n34), v.r4.push (q := (z, y)) hxs hu, e.keep _ _ v.r5 (by simpa using Ne.symm n45)⟩
/-- model[2] = another list -/
theorem MdAt.set2 {q : List Str} (v : MdAt H a k t p c d fs) (hu : H u = some (.lst (q.map V.str))) (hn : u ∉ a.all) :
    MdAt (upd H a.M (.lst [.ref a.m0, .ref a.m1, .ref u, .ref a.m3, .ref a.m4, .ref a.m5])) { a with m2 := u } k t q c d fs := by
  have nd := v.nd
  simp only [Mad.all, List.nodup_cons, List.mem_cons, List.not_mem_nil, not_or, or_false] at nd hn
  obtain ⟨⟨n0, n1, n2, n3, n4, n5⟩, ⟨n01, n02, n03, n04, n05⟩, ⟨n12, n13, n14, n15⟩, ⟨n23, n24, n25⟩, ⟨n34, n35⟩, n45, _⟩ := nd
  obtain ⟨u0, u1, u2, u3, u4, u5, u6⟩ := hn
  have e : Ext [a.M] H (upd H a.M (.lst [.ref a.m0, .ref a.m1, .ref u, .ref a.m3, .ref a.m4, .ref a.m5])) := Ext.refl.mut (by simp) fun xs z => by rw [v.M] at z; cases z
  refine ⟨?_, upd_same, v.r0.ext e (by simpa using Ne.symm n0), v.r1.ext e (by simpa using Ne.symm n1), e.keep _ _ hu (by simpa using u0), v.r3.ext e (by simpa using Ne.symm n3), v.r4.ext e (by simpa using Ne.symm n4), e.keep _ _ v.r5 (by simpa using Ne.symm n5)⟩
  simp only [Mad.all, List.nodup_cons, List.mem_cons, List.not_mem_nil, not_or, or_false, List.nodup_nil, and_true, not_false_eq_true]
  exact ⟨⟨n0, n1, Ne.symm u0, n3, n4, n5⟩, ⟨n01, Ne.symm u1, n03, n04, n05⟩, ⟨Ne.symm u2, n13, n14, n15⟩, ⟨u4, u5, u6⟩, ⟨n34, n35⟩, n45⟩
end
/-- what a drawn model keeps -/
structure Good (most : Nat) (k t : List (Str × Str)) (p : List Str) (c d : List (Str × Str)) : Prop where
  kn : Names (k.map (·.1))
  kh : ∀ q ∈ k, q.2 = "loose" ∨ q.2 = "fast" ∨ q.2 = "unsure"
  k1 : 1 ≤ k.length
  k8 : k.length ≤ 8
  tk : ∀ q ∈ t, q.1 ∈ k.map (·.1) ∧ q.2 ∈ k.map (·.1)
  t3 : t.length ≤ 3
  pn : Names p
  p1 : 1 ≤ p.length
  p8 : p.length ≤ 8
  cn : Names (c.map (·.1))
  ck : ∀ q ∈ c, q.2 ∈ k.map (·.1)
  c2 : 2 ≤ c.length
  c8 : c.length ≤ 8
  dc : ∀ q ∈ d, q.1 ∈ c.map (·.1) ∧ q.2 ∈ p
  dm : d.length ≤ most
/-- _law_model(source, most) -/
def spModel : Sp := fun vs H Q _ => ∃ (S L : Addr) (most : Nat), vs = [.ref S, .int (most : Int)] ∧ most ≤ 100 ∧ SrcAt H S L ∧ ∀ (a : Mad) (k t : List (Str × Str)) (p : List Str) (c d : List (Str × Str)) (H' : Hp), Good most k t p c d → (∀ x ∈ a.all, H x = none) → Ext [S] H H' → SrcAt H' S L → MdAt H' a k t p c d [] → Q (.ref a.M) H'
/-- on the way: what stood in H0 stands, but for the source -/
structure MI (H0 : Hp) (S L : Addr) (H : Hp) (a : Mad) (k t : List (Str × Str)) (p : List Str) (c d : List (Str × Str)) : Prop where
  e : Ext [S] H0 H
  s : SrcAt H S L
  v : MdAt H a k t p c d []
  f : ∀ x ∈ a.all, H0 x = none
  s0 : SrcAt H0 S L
section
variable {H0 H H' : Hp} {S L : Addr} {a : Mad} {k t c d : List (Str × Str)} {p : List Str} {z y : Str} {u : Addr} {xs : List V}
theorem MI.ne (m : MI H0 S L H a k t p c d) : ∀ x ∈ a.all, x ≠ S ∧ x ≠ L := fun x hx => src_ne_new m.s0 (m.f x hx)
theorem MI.draw (m : MI H0 S L H a k t p c d) (e : Ext [S] H H') (s : SrcAt H' S L) : MI H0 S L H' a k t p c d :=
  ⟨m.e.trans e, s, m.v.ext e fun x hx => by simpa using (m.ne x hx).1, m.f, m.s0⟩
theorem MI.grow (m : MI H0 S L H a k t p c d) (e : Ext [] H H') : MI H0 S L H' a k t p c d := m.draw e.nil (m.s.ext e)
theorem MI.fresh (m : MI H0 S L H a k t p c d) (hu : H u = none) : H0 u = none := m.e.none hu (by simpa using (src_ne_new m.s hu).1)
theorem MI.mut2 (m : MI H0 S L H a k t p c d) {x : Addr} {o o' : HO} (hx : x ∈ a.all) (hu : H u = none) : Ext [S] H0 (upd (upd H u o) x o') ∧ SrcAt (upd (upd H u o) x o') S L := by
  refine ⟨(m.e.fresh (m.fresh hu)).fresh (m.f x hx), ?_⟩
  obtain ⟨cells, i, k', g, h1, h2, ok⟩ := m.s.new (o := o) hu
  have n := m.ne x hx
  exact ⟨cells, i, k', g, by rw [upd_ne (Ne.symm n.1)]; exact h1, by rw [upd_ne (Ne.symm n.2)]; exact h2, ok⟩
theorem MI.push0 (m : MI H0 S L H a k t p c d) (hxs : H a.m0 = some (.lst xs)) (hu : H u = none) : MI H0 S L (upd (upd H u (.tup [.str z, .str y])) a.m0 (.lst (xs ++ [.ref u]))) a (k ++ [(z, y)]) t p c d :=
  ⟨(m.mut2 (by simp) hu).1, (m.mut2 (by simp) hu).2, m.v.push0 hxs hu, m.f, m.s0⟩
theorem MI.push1 (m : MI H0 S L H a k t p c d) (hxs : H a.m1 = some (.lst xs)) (hu : H u = none) : MI H0 S L (upd (upd H u (.tup [.str z, .str y])) a.m1 (.lst (xs ++ [.ref u]))) a k (t ++ [(z, y)]) p c d :=
  ⟨(m.mut2 (by simp) hu).1, (m.mut2 (by simp) hu).2, m.v.push1 hxs hu, m.f, m.s0⟩
theorem MI.push3 (m : MI H0 S L H a k t p c d) (hxs : H a.m3 = some (.lst xs)) (hu : H u = none) : MI H0 S L (upd (upd H u (.tup [.str z, .str y])) a.m3 (.lst (xs ++ [.ref u]))) a k t p (c ++ [(z, y)]) d :=
  ⟨(m.mut2 (by simp) hu).1, (m.mut2 (by simp) hu).2, m.v.push3 hxs hu, m.f, m.s0⟩
theorem MI.push4 (m : MI H0 S L H a k t p c d) (hxs : H a.m4 = some (.lst xs)) (hu : H u = none) : MI H0 S L (upd (upd H u (.tup [.str z, .str y])) a.m4 (.lst (xs ++ [.ref u]))) a k t p c (d ++ [(z, y)]) :=
  ⟨(m.mut2 (by simp) hu).1, (m.mut2 (by simp) hu).2, m.v.push4 hxs hu, m.f, m.s0⟩
end
theorem mi_start {H H1 : Hp} {S L R r0 r1 r2 r3 r4 r5 : Addr} (eH : Ext [S] H H1) (s1 : SrcAt H1 S L) (s0 : SrcAt H S L) (h0 : H1 r0 = none) (h1 : upd H1 r0 (.lst []) r1 = none) (h2 : upd (upd H1 r0 (.lst [])) r1 (.lst []) r2 = none)
    (h3 : upd (upd (upd H1 r0 (.lst [])) r1 (.lst [])) r2 (.lst []) r3 = none) (h4 : upd (upd (upd (upd H1 r0 (.lst [])) r1 (.lst [])) r2 (.lst [])) r3 (.lst []) r4 = none)
    (h5 : upd (upd (upd (upd (upd H1 r0 (.lst [])) r1 (.lst [])) r2 (.lst [])) r3 (.lst [])) r4 (.lst []) r5 = none) (hR : upd (upd (upd (upd (upd (upd H1 r0 (.lst [])) r1 (.lst [])) r2 (.lst [])) r3 (.lst [])) r4 (.lst [])) r5 (.lst []) R = none) :
    Ext [] H1 (upd (upd (upd (upd (upd (upd (upd H1 r0 (.lst [])) r1 (.lst [])) r2 (.lst [])) r3 (.lst [])) r4 (.lst [])) r5 (.lst [])) R (.lst [.ref r0, .ref r1, .ref r2, .ref r3, .ref r4, .ref r5])) ∧
    MI H S L (upd (upd (upd (upd (upd (upd (upd H1 r0 (.lst [])) r1 (.lst [])) r2 (.lst [])) r3 (.lst [])) r4 (.lst [])) r5 (.lst [])) R (.lst [.ref r0, .ref r1, .ref r2, .ref r3, .ref r4, .ref r5])) ⟨R, r0, r1, r2, r3, r4, r5⟩ [] [] [] [] [] := by
  have n1 := h1
  have n2 := h2
  have n3 := h3
  have n4 := h4
  have n5 := h5
  have n6 := hR
  simp only [upd_none_iff] at n1 n2 n3 n4 n5 n6
  have ef := (Ext.new (ms := []) (o := .lst []) h0).trans ((Ext.new (o := .lst []) h1).trans ((Ext.new (o := .lst []) h2).trans ((Ext.new (o := .lst []) h3).trans ((Ext.new (o := .lst []) h4).trans ((Ext.new (o := .lst []) h5).trans (Ext.new (o := .lst [.ref r0, .ref r1, .ref r2, .ref r3, .ref r4, .ref r5]) hR))))))
  refine ⟨ef, eH.trans ef.nil, s1.ext ef, ⟨?_, upd_same, ⟨[], ?_, .nil⟩, ⟨[], ?_, .nil⟩, ?_, ⟨[], ?_, .nil⟩, ⟨[], ?_, .nil⟩, ?_⟩, ?_, s0⟩
  · simp only [Mad.all, List.nodup_cons, List.mem_cons, List.not_mem_nil, not_or, or_false, List.nodup_nil, and_true, not_false_eq_true]
    exact ⟨⟨n6.2.2.2.2.2.1, n6.2.2.2.2.1, n6.2.2.2.1, n6.2.2.1, n6.2.1, n6.1⟩, ⟨n1.1.symm, n2.2.1.symm, n3.2.2.1.symm, n4.2.2.2.1.symm, n5.2.2.2.2.1.symm⟩, ⟨n2.1.symm, n3.2.1.symm, n4.2.2.1.symm, n5.2.2.2.1.symm⟩, ⟨n3.1.symm, n4.2.1.symm, n5.2.2.1.symm⟩, ⟨n4.1.symm, n5.2.1.symm⟩, n5.1.symm⟩
  · show upd _ _ _ r0 = _
    rw [upd_ne n6.2.2.2.2.2.1.symm, upd_ne n5.2.2.2.2.1.symm, upd_ne n4.2.2.2.1.symm, upd_ne n3.2.2.1.symm, upd_ne n2.2.1.symm, upd_ne n1.1.symm]
    exact upd_same
  · show upd _ _ _ r1 = _
    rw [upd_ne n6.2.2.2.2.1.symm, upd_ne n5.2.2.2.1.symm, upd_ne n4.2.2.1.symm, upd_ne n3.2.1.symm, upd_ne n2.1.symm]
    exact upd_same
  · show upd _ _ _ r2 = _
    rw [upd_ne n6.2.2.2.1.symm, upd_ne n5.2.2.1.symm, upd_ne n4.2.1.symm, upd_ne n3.1.symm]
    exact upd_same
  · show upd _ _ _ r3 = _
    rw [upd_ne n6.2.2.1.symm, upd_ne n5.2.1.symm, upd_ne n4.1.symm]
    exact upd_same
  · show upd _ _ _ r4 = _
    rw [upd_ne n6.2.1.symm, upd_ne n5.1.symm]
    exact upd_same
  · show upd _ _ _ r5 = _
    rw [upd_ne n6.1.symm]
    exact upd_same
  · intro x hx
    have fin : ∀ {y : Addr}, H1 y = none → H y = none := fun hy => eH.none hy (by simpa using (src_ne_new s1 hy).1)
    simp only [Mad.all, List.mem_cons, List.not_mem_nil, or_false] at hx
    rcases hx with rfl | rfl | rfl | rfl | rfl | rfl | rfl
    · exact fin n6.2.2.2.2.2.2
    · exact fin h0
    · exact fin n1.2
    · exact fin n2.2.2
    · exact fin n3.2.2.2
    · exact fin n4.2.2.2.2
    · exact fin n5.2.2.2.2.2
theorem MdAt.some {H : Hp} {a : Mad} {k t c d : List (Str × Str)} {p : List Str} {fs : List V} (v : MdAt H a k t p c d fs) : ∀ x ∈ a.all, ∃ o, H x = some o := by
  intro x hx
  simp only [Mad.all, List.mem_cons, List.not_mem_nil, or_false] at hx
  rcases hx with rfl | rfl | rfl | rfl | rfl | rfl | rfl
  · exact ⟨_, v.M⟩
  · obtain ⟨_, h, _⟩ := v.r0; exact ⟨_, h⟩
  · obtain ⟨_, h, _⟩ := v.r1; exact ⟨_, h⟩
  · exact ⟨_, v.r2⟩
  · obtain ⟨_, h, _⟩ := v.r3; exact ⟨_, h⟩
  · obtain ⟨_, h, _⟩ := v.r4; exact ⟨_, h⟩
  · exact ⟨_, v.r5⟩
theorem MdAt.new {H : Hp} {a : Mad} {k t c d : List (Str × Str)} {p : List Str} {fs : List V} {l : Addr} (v : MdAt H a k t p c d fs) (h : H l = none) : ∀ x ∈ a.all, l ≠ x := fun x hx e => by
  obtain ⟨o, ho⟩ := v.some x hx
  rw [← e, h] at ho
  cases ho
/-- one of a row by a number, its first -/
theorem row_pick {K : PySem.W.Frag} {H : Hp} {r : Addr} {l : List (Str × Str)} {n : Int} (h : RowAt H r l) (h0 : 0 ≤ n) (h1 : n < (l.length : Int)) : ∃ (xs : List V) (t : Addr) (q : Str × Str), H r = some (.lst xs) ∧ atI xs n = some (.ref t) ∧ q ∈ l ∧ H t = some (.tup [.str q.1, .str q.2]) ∧ xs.length = l.length := by
  obtain ⟨as, t, q, h2, h3, h4, h5⟩ := row_at h h0 h1
  obtain ⟨ys, h6, h7⟩ := row_len h
  rw [h2] at h6
  cases h6
  exact ⟨_, t, q, h2, h3, h4, h5, h7⟩
theorem MI.set2 {H0 H : Hp} {S L l : Addr} {a : Mad} {k t c d : List (Str × Str)} {p zs : List Str} (m : MI H0 S L H a k t p c d) (hl0 : H0 l = none) (hl : H l = some (.lst (zs.map V.str))) (hn : ∀ x ∈ a.all, l ≠ x) :
    MI H0 S L (upd H a.M (.lst [.ref a.m0, .ref a.m1, .ref l, .ref a.m3, .ref a.m4, .ref a.m5])) { a with m2 := l } k t zs c d := by
  have n := m.ne a.M (by simp)
  obtain ⟨cells, i, k', g, h1, h2, ok⟩ := m.s
  refine ⟨m.e.fresh (m.f a.M (by simp)), ⟨cells, i, k', g, by rw [upd_ne (Ne.symm n.1)]; exact h1, by rw [upd_ne (Ne.symm n.2)]; exact h2, ok⟩, m.v.set2 hl fun h => hn l h rfl, ?_, m.s0⟩
  intro x hx
  simp only [Mad.all, List.mem_cons, List.not_mem_nil, or_false] at hx
  rcases hx with rfl | rfl | rfl | rfl | rfl | rfl | rfl
  · exact m.f _ (by simp)
  · exact m.f _ (by simp)
  · exact m.f _ (by simp)
  · exact hl0
  · exact m.f _ (by simp)
  · exact m.f _ (by simp)
  · exact m.f _ (by simp)
end Tp
/-! N: the book's thirsts and dips -/
namespace Tp
open PySem PySem.Spec PyProof.Rows L2 He
section
variable {C p : Addr} {H H' : Hp} {b : Int} {A : Bk} {ks cs : List (Str × V)} {ts ds fs : List V} {ps : List Str} {ms : List Addr}
theorem BookAt.setT (B : BookAt C H p b A ks ts ps cs ds fs) (ts' : List V) : BookAt C (upd H A.lt (.lst ts')) p b A ks ts' ps cs ds fs :=
  ⟨by rw [upd_ne B.p_ne.2.1]; exact B.ob, by rw [upd_ne (ne_of B.dk B.lt (by intro z; cases z))]; exact B.dk, upd_same, by rw [upd_ne (Ne.symm B.n1)]; exact B.lp, by rw [upd_ne (ne_of B.dc B.lt (by intro z; cases z))]; exact B.dc,
    by rw [upd_ne (Ne.symm B.n2)]; exact B.ld, by rw [upd_ne (Ne.symm B.n3)]; exact B.lf, B.nk, B.n1, B.n2, B.n3, B.n4, B.n5, B.n6⟩
/-- the dips' list is another one -/
theorem BookAt.setD (B : BookAt C H p b A ks ts ps cs ds fs) {l : Addr} {ds' : List V} (hl : H l = some (.lst ds')) (h1 : l ≠ A.lt) (h2 : l ≠ A.lp) (h3 : l ≠ A.lf) : BookAt C (upd H p (.ins C A.dx (fsB b { A with ld := l }))) p b { A with ld := l } ks ts ps cs ds' fs := by
  have n := B.p_ne
  exact ⟨upd_same, by rw [upd_ne (Ne.symm n.1)]; exact B.dk, by rw [upd_ne (Ne.symm n.2.1)]; exact B.lt, by rw [upd_ne (Ne.symm n.2.2.1)]; exact B.lp, by rw [upd_ne (Ne.symm n.2.2.2.1)]; exact B.dc,
    by rw [upd_ne (ne_of hl B.ob (by intro z; cases z))]; exact hl, by rw [upd_ne (Ne.symm n.2.2.2.2.2)]; exact B.lf, B.nk, B.n1, Ne.symm h1, B.n3, Ne.symm h2, B.n5, h3⟩
end
def knownK (ks : List (Str × V)) : V → Bool
  | .str z => decide (z ∈ ks.map (·.1))
  | _ => false
def knownP (ps : List Str) : V → Bool
  | .str z => decide (z ∈ ps)
  | _ => false
/-- what add_thirst refuses, n thirsts told -/
def refT (ks : List (Str × V)) (n : Nat) (v g : V) : Option (Str × V) :=
  if knownK ks v = false then some (("Unknown" : Str), v) else if knownK ks g = false then some (("Unknown" : Str), g) else if 32 ≤ n then some (("Full" : Str), V.int 32) else none
/-- what dip refuses, n dips told -/
def refDip (cs : List (Str × V)) (ps : List Str) (n : Nat) (b : Int) (v g : V) : Option (Str × V) :=
  if knownK cs v = false then some (("Unknown" : Str), v) else if knownP ps g = false then some (("Unknown" : Str), g) else if b ≤ (n : Int) then some (("Full" : Str), V.int b) else none
/-- Book.add_thirst(self, more, less) -/
def spAddThirst (K : PySem.W.Frag) (C : Addr) : Sp := fun vs H Q E => ∃ p v g i A ks ts ps cs ds fs, vs = [.ref p, v, g] ∧ Ptv K H v ∧ (∀ H', Ext [] H H' → Ptv K H' g) ∧ BookAt C H p i A ks ts ps cs ds fs ∧ ts.length ≤ 1000 ∧
  (∀ c t, refT ks ts.length v g = some (c, t) → Leaves K E (He.ga K c) t H) ∧
  (refT ks ts.length v g = none → ∀ H' t, Ext [A.lt] H H' → H t = none → H' t = some (.tup [v, g]) → BookAt C H' p i A ks (ts ++ [.ref t]) ps cs ds fs → Q .non H')
/-- Book.dip(self, cloth, pot) -/
def spDip (K : PySem.W.Frag) (C : Addr) : Sp := fun vs H Q E => ∃ p v g i A ks ts ps cs ds fs, vs = [.ref p, v, g] ∧ Ptv K H v ∧ (∀ H', Ext [] H H' → Ptv K H' g) ∧ BookAt C H p i A ks ts ps cs ds fs ∧ ds.length ≤ 1000 ∧ ps.length ≤ 1000 ∧
  (∀ c t, refDip cs ps ds.length i v g = some (c, t) → Leaves K E (He.ga K c) t H) ∧
  (refDip cs ps ds.length i v g = none → ∀ H' t l, Ext [p] H H' → H t = none → H l = none → H' t = some (.tup [v, g]) → BookAt C H' p i { A with ld := l } ks ts ps cs (ds ++ [.ref t]) fs → Q (.int (ds.length : Int)) H')
theorem fsB_dips' {b : Int} {A : Bk} {l : Addr} : putF "_dips" (.ref l) (fsB b A) = fsB b { A with ld := l } := by rfl
theorem refT_1 {ks : List (Str × V)} {n : Nat} {v g : V} (h : knownK ks v = false) : refT ks n v g = some (("Unknown" : Str), v) := if_pos h
theorem refT_2 {ks : List (Str × V)} {n : Nat} {v g : V} (h1 : knownK ks v = true) (h : knownK ks g = false) : refT ks n v g = some (("Unknown" : Str), g) := by
  unfold refT
  rw [if_neg (by rw [h1]; decide), if_pos h]
theorem refT_3 {ks : List (Str × V)} {n : Nat} {v g : V} (h1 : knownK ks v = true) (h : knownK ks g = true) : refT ks n v g = if 32 ≤ n then some (("Full" : Str), V.int 32) else none := by
  unfold refT
  rw [if_neg (by rw [h1]; decide), if_neg (by rw [h]; decide)]
theorem refDip_1 {cs : List (Str × V)} {ps : List Str} {n : Nat} {b : Int} {v g : V} (h : knownK cs v = false) : refDip cs ps n b v g = some (("Unknown" : Str), v) := if_pos h
theorem refDip_2 {cs : List (Str × V)} {ps : List Str} {n : Nat} {b : Int} {v g : V} (h1 : knownK cs v = true) (h : knownP ps g = false) : refDip cs ps n b v g = some (("Unknown" : Str), g) := by
  unfold refDip
  rw [if_neg (by rw [h1]; decide), if_pos h]
theorem refDip_3 {cs : List (Str × V)} {ps : List Str} {n : Nat} {b : Int} {v g : V} (h1 : knownK cs v = true) (h : knownP ps g = true) : refDip cs ps n b v g = if b ≤ (n : Int) then some (("Full" : Str), V.int b) else none := by
  unfold refDip
  rw [if_neg (by rw [h1]; decide), if_neg (by rw [h]; decide)]
theorem knownK_no {ks : List (Str × V)} {v : V} (h : ∀ z, v = .str z → decide (z ∈ ks.map (·.1)) = false) : knownK ks v = false := by
  cases v with
  | str z => exact h z rfl
  | _ => rfl
theorem knownP_no {ps : List Str} {v : V} (h : ∀ z, v = .str z → decide (z ∈ ps) = false) : knownP ps v = false := by
  cases v with
  | str z => exact h z rfl
  | _ => rfl
end Tp
/-! O: a book as it is built of a model -/
namespace Tp
open PySem PySem.Spec PyProof.Rows L2 He
theorem Ext.over {H0 H H' : Hp} {x : Addr} (e : Ext [] H0 H) (e2 : Ext [x] H H') (hx : H0 x = Option.none) : Ext [] H0 H' :=
  ⟨fun b o q _ => e2.keep b o (e.keep b o q (by simp)) (by simp only [List.mem_singleton]; exact ne_of_none q hx), fun b xs q => e2.tups b xs (e.tups b xs q)⟩
/-- items that are new pairs of texts -/
def PT (H : Hp) (ts : List V) (t : List (Str × Str)) : Prop := ∃ as : List Addr, ts = as.map V.ref ∧ Paired (fun (u : Addr) (q : Str × Str) => H u = some (.tup [.str q.1, .str q.2])) as t
theorem PT.nil {H : Hp} : PT H [] [] := ⟨[], rfl, .nil⟩
theorem PT.ext {ms : List Addr} {H H' : Hp} {ts : List V} {t : List (Str × Str)} (h : PT H ts t) (e : Ext ms H H') : PT H' ts t := by
  obtain ⟨as, h1, h2⟩ := h
  exact ⟨as, h1, paired_ext e h2⟩
theorem PT.snoc {H : Hp} {ts : List V} {t : List (Str × Str)} {u : Addr} {q : Str × Str} (h : PT H ts t) (hu : H u = some (.tup [.str q.1, .str q.2])) : PT H (ts ++ [.ref u]) (t ++ [q]) := by
  obtain ⟨as, h1, h2⟩ := h
  exact ⟨as ++ [u], by rw [h1, List.map_append]; rfl, paired_snoc hu h2⟩
theorem PT.len {H : Hp} {ts : List V} {t : List (Str × Str)} (h : PT H ts t) : ts.length = t.length := by
  obtain ⟨as, h1, h2⟩ := h
  rw [h1, List.length_map, paired_len h2]
structure BI (C : Addr) (H0 H : Hp) (b : Addr) (A : Bk) (k t : List (Str × Str)) (p : List Str) (c d : List (Str × Str)) (ts ds : List V) : Prop where
  e : Ext [] H0 H
  f : ∀ x ∈ A.all b, H0 x = none
  B : BookAt C H b 24 A (k.map tv) ts p (c.map tv) ds []
  T : PT H ts t
  D : PT H ds d
theorem take_snoc {α : Type} {l : List α} {i : Nat} {q : α} (h : l[i]? = some q) : l.take (i + 1) = l.take i ++ [q] := by
  rw [List.take_add_one, h]
  rfl
/-- a name that comes is not among those before -/
theorem not_before {l : List Str} (h : l.Nodup) {i : Nat} {z : Str} (e : l[i]? = some z) : z ∉ l.take i := by
  intro hz
  obtain ⟨j, hj, ej⟩ := List.mem_iff_getElem.mp hz
  rw [List.length_take] at hj
  have hi := (List.getElem?_eq_some_iff.mp e)
  obtain ⟨hi1, hi2⟩ := hi
  have := List.pairwise_iff_getElem.mp h j i (by omega) hi1 (by omega)
  rw [List.getElem_take] at ej
  exact this (ej.trans hi2.symm)
/-- what goes in without a word -/
theorem refK_ok {ks : List (Str × V)} {z : Str} {h : V} (h1 : nmS z = true) (h2 : z ∉ ks.map (·.1)) (h3 : ks.length < 8) : refK ks (.str z) h true = none := by
  show (if nmS z = false then _ else _) = _
  rw [if_neg (by rw [h1]; decide), if_neg h2, if_neg (by decide), if_neg (by omega)]
theorem refP_ok {ps : List Str} {z : Str} (h1 : nmS z = true) (h2 : z ∉ ps) (h3 : ps.length < 8) : refP ps (.str z) = none := by
  show (if nmS z = false then _ else _) = _
  rw [if_neg (by rw [h1]; decide), if_neg h2, if_neg (by omega)]
theorem refC_ok {cs ks : List (Str × V)} {z y : Str} (h1 : nmS z = true) (h2 : z ∉ cs.map (·.1)) (h3 : cs.length < 8) (h4 : y ∈ ks.map (·.1)) : refC cs ks (.str z) (.str y) = none := by
  show (if nmS z = false then _ else _) = _
  rw [if_neg (by rw [h1]; decide), if_neg h2]
  show (if y ∈ ks.map (·.1) then _ else _) = _
  rw [if_pos h4, if_neg (by omega)]
theorem hold_yes {y : Str} (h : y = "loose" ∨ y = "fast" ∨ y = "unsure") : holdD (.str y) = true := by
  rcases h with rfl | rfl | rfl <;> decide +kernel
theorem nm_len {z : Str} (h : nmS z = true) : z.length ≤ 12 := of_decide_eq_true (by
  have h3 := (Bool.and_eq_true_iff.mp h).2
  have h4 := of_decide_eq_true (Bool.and_eq_true_iff.mp h3).1
  exact decide_eq_true (by omega))
end Tp
/-! Q: questions to a drawn model -/
namespace Tp
open PySem PySem.Spec PyProof.Rows L2 He LiI
variable {K : PySem.W.Frag}
/-- the second parts of the pairs with this first -/
def selL (x : Str) (l : List (Str × Str)) : List Str := (l.filter fun q => decide (q.1 = x)).map (·.2)
theorem selL_snoc {x : Str} {l : List (Str × Str)} {q : Str × Str} : selL x (l ++ [q]) = if q.1 = x then selL x l ++ [q.2] else selL x l := by
  unfold selL
  rw [List.filter_append, List.map_append]
  by_cases h : q.1 = x
  · rw [if_pos h]
    simp [h]
  · rw [if_neg h]
    simp [h]
theorem selL_len {x : Str} {l : List (Str × Str)} : (selL x l).length ≤ l.length := by
  unfold selL
  rw [List.length_map]
  exact List.length_filter_le _ _
/-- [row[1] for row in rows if row[0] == x] -/
theorem rd_sel {σ : L2.St} {H : Hp} {Q : VK} {j : Nat} {r : Addr} {l : List (Str × Str)} {tl tx : TE} {x : Str} (hj : j < σ.length) (hl : Val tl σ H (.ref r)) (hrow : RowAt H r l) (hn : l.length ≤ 1000) (hx : ∀ y H', Val tx ((wipe σ [j]).set j (some y)) H' (.str x))
    (q : ∀ D H', H D = none → Ext [] H H' → H' D = some (.lst ((selL x l).map V.str)) → Q (.ref D) H') :
    tLc (iList K tl) (gName j) (tTest (tOp rEq (tOp (rIxT K) (tVar j) (tC (.int 0))) tx)) (tOp (rIxT K) (tVar j) (tC (.int 1))) [j] σ H Q := by
  obtain ⟨as, h1, h2⟩ := hrow
  have hlen := paired_len h2
  refine hl _ ⟨r, rfl, ⟨_, SqL.of h1⟩, fun D hD => lc_list (xs := as.map V.ref) (fun i H' => H' = upd H D (.lst ((selL x (l.take i)).map V.str))) (by simp [selL]) ?_ ?_ ?_⟩
  · rintro i H' _ rfl
    exact SqL.of (by rw [upd_ne (ne_of_none h1 hD)]; exact h1)
  · rintro i y H' hy rfl
    rw [List.getElem?_map] at hy
    obtain ⟨t, ht, rfl⟩ := Option.map_eq_some_iff.mp hy
    obtain ⟨p, hp, hT⟩ := paired_at h2 ht
    have hi : i < l.length := (List.getElem?_eq_some_iff.mp hp).1
    have hv : ((wipe σ [j]).set j (some (V.ref t)))[j]? = some (some (.ref t)) := by
      rw [List.getElem?_set_self]
      rw [wipe_length]
      exact hj
    have hT' : upd H D (.lst ((selL x (l.take i)).map V.str)) t = some (.tup [.str p.1, .str p.2]) := by rw [upd_ne (ne_of_none hT hD)]; exact hT
    refine ⟨wipe1, ?_⟩
    refine ⟨_, hv, t, _, 0, .str p.1, rfl, rfl, .inl (.inl hT'), rfl, ?_⟩
    refine hx _ _ _ ⟨rfl, _, rfl, ?_⟩
    have e : selL x (l.take (i + 1)) = if p.1 = x then selL x (l.take i) ++ [p.2] else selL x (l.take i) := by rw [take_snoc hp, selL_snoc]
    by_cases h : p.1 = x
    · rw [if_pos h] at e
      rw [decide_eq_true (by rw [h])]
      refine iteT ⟨_, hv, t, _, 1, .str p.2, rfl, rfl, .inl (.inl hT'), rfl, (selL x (l.take i)).map V.str, upd_same, ?_, ?_⟩
      · rw [List.length_map]
        have := selL_len (x := x) (l := l.take i)
        rw [List.length_take] at this
        exact Evl.sz_lt (by omega)
      · rw [upd_upd, e, List.map_append]
        rfl
    · rw [if_neg h] at e
      rw [decide_eq_false (fun z => h (by injection z))]
      refine iteF ?_
      show _ = _
      rw [e]
  · rintro H' rfl
    refine q D _ hD (Ext.new hD) ?_
    rw [upd_same, List.length_map, hlen, List.take_of_length_le (Nat.le_refl _)]
/-- of a list of distinct firsts: the one -/
theorem selL_one : ∀ {l : List (Str × Str)} {q : Str × Str}, (l.map (·.1)).Nodup → q ∈ l → selL q.1 l = [q.2]
  | [], _, _, h => by cases h
  | a :: l, q, nd, h => by
    rw [List.map_cons, List.nodup_cons] at nd
    rcases List.mem_cons.mp h with rfl | h2
    · have : selL q.1 l = [] := by
        unfold selL
        rw [List.map_eq_nil_iff, List.filter_eq_nil_iff]
        intro b hb hc
        exact nd.1 (List.mem_map.mpr ⟨b, hb, of_decide_eq_true hc⟩)
      show ((List.filter _ (q :: l)).map _) = _
      rw [List.filter_cons, if_pos (by simp), List.map_cons]
      show q.2 :: selL q.1 l = _
      rw [this]
    · have hne : ¬ a.1 = q.1 := fun e => nd.1 (e ▸ List.mem_map.mpr ⟨q, h2, rfl⟩)
      show ((List.filter _ (a :: l)).map _) = _
      rw [List.filter_cons, if_neg (by simpa using hne)]
      exact selL_one nd.2 h2
/-- _law_sort(model, garment): the kind of a cloth -/
def spSort : Sp := fun vs H Q _ => ∃ (a : Mad) (k t : List (Str × Str)) (p : List Str) (c d : List (Str × Str)) (fs : List V) (x y : Str), vs = [.ref a.M, .str x] ∧ MdAt H a k t p c d fs ∧ (c.map (·.1)).Nodup ∧ c.length ≤ 8 ∧ (x, y) ∈ c ∧ ∀ H', Ext [] H H' → Q (.str y) H'
/-- _law_grip(model, garment): the hold of a cloth's kind -/
def spGrip : Sp := fun vs H Q _ => ∃ (a : Mad) (k t : List (Str × Str)) (p : List Str) (c d : List (Str × Str)) (fs : List V) (x y z : Str), vs = [.ref a.M, .str x] ∧ MdAt H a k t p c d fs ∧ (c.map (·.1)).Nodup ∧ c.length ≤ 8 ∧ (k.map (·.1)).Nodup ∧ k.length ≤ 8 ∧ (x, y) ∈ c ∧ (y, z) ∈ k ∧ ∀ H', Ext [] H H' → Q (.str z) H'
theorem ret_ex {te : TE} {D : Ends} {σ : L2.St} {H : Hp} (h : te σ H D.rt) : tRet te D σ H := h
theorem op_ex {r : R2} {ta tb : TE} {σ : L2.St} {H : Hp} {Q : VK} (h : ta σ H fun x H1 => tb σ H1 fun y H2 => r x y H2 Q) : tOp r ta tb σ H Q := h
/-- the last before m with this first -/
def prevD (d : List (Str × Str)) (x : Str) : Nat → Option Nat
  | 0 => none
  | m + 1 => if (d[m]?.map (·.1)) = some x then some m else prevD d x m
abbrev vOpt : Option Nat → V
  | some j => .int (j : Int)
  | none => .non
/-- _law_before(model, i) -/
def spBefore : Sp := fun vs H Q _ => ∃ (a : Mad) (k t : List (Str × Str)) (p : List Str) (c d : List (Str × Str)) (fs : List V) (i : Nat) (q : Str × Str), vs = [.ref a.M, .int (i : Int)] ∧ MdAt H a k t p c d fs ∧ d.length ≤ 1000 ∧ d[i]? = some q ∧ Q (vOpt (prevD d q.1 i)) H
theorem prevD_lt {d : List (Str × Str)} {x : Str} : ∀ {m j : Nat}, prevD d x m = some j → j < m ∧ ∃ r, d[j]? = some r ∧ r.1 = x
  | 0, _, h => by cases h
  | m + 1, j, h => by
    have h' : (if (d[m]?.map (·.1)) = some x then some m else prevD d x m) = some j := h
    by_cases e : (d[m]?.map (·.1)) = some x
    · rw [if_pos e] at h'
      cases h'
      obtain ⟨r, hr, hx⟩ := Option.map_eq_some_iff.mp e
      exact ⟨Nat.lt_succ_self _, r, hr, hx⟩
    · rw [if_neg e] at h'
      obtain ⟨h1, h2⟩ := prevD_lt h'
      exact ⟨by omega, h2⟩
/-- the hold of a cloth's kind -/
def holdOf (k c : List (Str × Str)) (x : Str) : Str := (selL ((selL x c).headD ⟨#[]⟩) k).headD ⟨#[]⟩
theorem holdOf_eq {k c : List (Str × Str)} {x y z : Str} (hc : (c.map (·.1)).Nodup) (hk : (k.map (·.1)).Nodup) (h1 : (x, y) ∈ c) (h2 : (y, z) ∈ k) : holdOf k c x = z := by
  unfold holdOf
  rw [selL_one hc h1]
  show (selL y k).headD _ = _
  rw [selL_one hk h2]
  rfl
/-- whether dip i leaves something -/
def leaveD (k c d : List (Str × Str)) (i : Nat) : Bool := match d[i]? with
  | some q => (match prevD d q.1 i with
    | some j => (match d[j]? with
      | some r => !decide (r.2 = q.2) && !decide (holdOf k c q.1 = "fast")
      | none => false)
    | none => false)
  | none => false
/-- what a model keeps that stands behind its dips -/
structure Kept (k c d : List (Str × Str)) : Prop where
  kn : (k.map (·.1)).Nodup
  k8 : k.length ≤ 8
  cn : (c.map (·.1)).Nodup
  c8 : c.length ≤ 8
  ck : ∀ q ∈ c, q.2 ∈ k.map (·.1)
  dc : ∀ q ∈ d, q.1 ∈ c.map (·.1)
  dl : d.length ≤ 1000
theorem Kept.hold {k c d : List (Str × Str)} (h : Kept k c d) {q : Str × Str} (hq : q ∈ d) : ∃ y z, (q.1, y) ∈ c ∧ (y, z) ∈ k ∧ holdOf k c q.1 = z := by
  obtain ⟨⟨x, y⟩, h1, e1⟩ := List.mem_map.mp (h.dc q hq)
  obtain ⟨⟨y', z⟩, h2, e2⟩ := List.mem_map.mp (h.ck _ h1)
  have ex : x = q.1 := e1
  have ey : y' = y := e2
  subst ex ey
  exact ⟨_, z, h1, h2, holdOf_eq h.cn h.kn h1 h2⟩
/-- _law_leaves(model, i) -/
def spLeaves : Sp := fun vs H Q _ => ∃ (a : Mad) (k t : List (Str × Str)) (p : List Str) (c d : List (Str × Str)) (fs : List V) (i : Nat), vs = [.ref a.M, .int (i : Int)] ∧ MdAt H a k t p c d fs ∧ Kept k c d ∧ i < d.length ∧ ∀ H', Ext [] H H' → Q (.bl (leaveD k c d i)) H'
/-- the amounts of the first dips -/
def amtD (k c d : List (Str × Str)) : Nat → List (Str × Nat)
  | 0 => []
  | m + 1 => (amtD k c d m ++ [(("take" : Str), m)]) ++ (if leaveD k c d m = true then [(("leave" : Str), m)] else [])
theorem amtD_len {k c d : List (Str × Str)} : ∀ n, (amtD k c d n).length ≤ 2 * n
  | 0 => Nat.le_refl _
  | n + 1 => by
    have := amtD_len (k := k) (c := c) (d := d) n
    show ((amtD k c d n ++ [(("take" : Str), n)]) ++ (if leaveD k c d n = true then [(("leave" : Str), n)] else [])).length ≤ _
    rw [List.length_append, List.length_append]
    split
    · show (amtD k c d n).length + 1 + 1 ≤ _
      omega
    · show (amtD k c d n).length + 1 + 0 ≤ _
      omega
abbrev isAmt (H : Hp) (u : Addr) (q : Str × Nat) : Prop := H u = some (.tup [.str q.1, .int (q.2 : Int)])
theorem amt_ext {ms : List Addr} {H H' : Hp} (e : Ext ms H H') : ∀ {as : List Addr} {l : List (Str × Nat)}, Paired (isAmt H) as l → Paired (isAmt H') as l
  | _, _, .nil => .nil
  | _, _, .cons x r => .cons (e.tups _ _ x) (amt_ext e r)
theorem amt_snoc {H : Hp} {t : Addr} {q : Str × Nat} (h : isAmt H t q) : ∀ {as : List Addr} {l : List (Str × Nat)}, Paired (isAmt H) as l → Paired (isAmt H) (as ++ [t]) (l ++ [q])
  | _, _, .nil => .cons h .nil
  | _, _, .cons x r => .cons x (amt_snoc h r)
theorem amt_len {H : Hp} : ∀ {as : List Addr} {l : List (Str × Nat)}, Paired (isAmt H) as l → as.length = l.length
  | _, _, .nil => rfl
  | _, _, .cons _ r => by simp [amt_len r]
def AmtAt (H : Hp) (l : Addr) (xs : List (Str × Nat)) : Prop := ∃ as : List Addr, H l = some (.lst (as.map V.ref)) ∧ Paired (isAmt H) as xs
theorem AmtAt.push {H : Hp} {r t : Addr} {l : List (Str × Nat)} {xs : List V} {q : Str × Nat} (h : AmtAt H r l) (hxs : H r = some (.lst xs)) (ht : H t = none) : AmtAt (upd (upd H t (.tup [.str q.1, .int (q.2 : Int)])) r (.lst (xs ++ [.ref t]))) r (l ++ [q]) := by
  obtain ⟨as, h1, h2⟩ := h
  rw [h1] at hxs
  cases hxs
  have e := ext_push (o := .tup [.str q.1, .int (q.2 : Int)]) (o' := .lst (as.map V.ref ++ [.ref t])) h1 ht
  refine ⟨as ++ [t], by rw [upd_same, List.map_append]; rfl, amt_snoc ?_ (amt_ext e h2)⟩
  show upd _ r _ t = _
  rw [upd_ne (fun z => by rw [← z, ht] at h1; cases h1)]
  exact upd_same
theorem AmtAt.ext {ms : List Addr} {H H' : Hp} {r : Addr} {l : List (Str × Nat)} (h : AmtAt H r l) (e : Ext ms H H') (hr : r ∉ ms) : AmtAt H' r l := by
  obtain ⟨as, h1, h2⟩ := h
  exact ⟨as, e.keep _ _ h1 hr, amt_ext e h2⟩
theorem AmtAt.lst {H : Hp} {r : Addr} {l : List (Str × Nat)} (h : AmtAt H r l) : ∃ xs, H r = some (.lst xs) ∧ xs.length = l.length := by
  obtain ⟨as, h1, h2⟩ := h
  exact ⟨_, h1, by rw [List.length_map, amt_len h2]⟩
/-- _law_amounts(model) -/
def spAmts : Sp := fun vs H Q _ => ∃ (a : Mad) (k t : List (Str × Str)) (p : List Str) (c d : List (Str × Str)) (fs : List V), vs = [.ref a.M] ∧ MdAt H a k t p c d fs ∧ Kept k c d ∧ ∀ l H', H l = none → Ext [] H H' → AmtAt H' l (amtD k c d d.length) → Q (.ref l) H'
end Tp
/-! S: a property assigned; max with a default; the book's questions -/
namespace Tp
open PySem PySem.Spec PyProof.Rows L2 He
/-- the class has the name as a property at p, whose setter is the def at g -/
structure PropSet (K : PySem.W.Frag) (C : Addr) (f : Str) (p g : Addr) : Prop where
  tk : PySem.W.takerIn K C f = some (some (.ref p))
  ty : PySem.W.typeIn K (.ref p) = some (.type "property")
  rec_ : ∃ a rest, PySem.W.recIn K p "property" = some (a :: .ref g :: rest)
/-- o.f = e, a property: the setter's promise at the object and the value -/
def sFldP (C : Addr) (sp : Sp) (E : XK) (ta tv : TE) : TS := fun D σ H => tv σ H fun y H1 => ta σ H1 fun x H2 => ∃ a dx fs, x = .ref a ∧ H2 a = some (.ins C dx fs) ∧ sp [.ref a, y] H2 (fun _ H3 => D.nx σ H3) E
section
variable {X : Cx} {CX : CXT} {k : Nat} {C p g a dx : Addr} {fs : List (Str × V)} {f : Str} {fd : FuncData} {ps : List Str} {sp : Sp} {E : XK} {o value : Expr} {pos pos' : Pos} {ta tv : TE}
theorem setprop_ok {pins : List (Addr × Obj)} {σ : L2.St} {H : Hp} {s : Shared} {Q : VK} {y : V} {u : Value} (I : Inv X pins σ H s) (ea : H a = some (.ins C dx fs)) (c : Cls X.K C) (hp : PropSet X.K C f p g)
    (F : FnOk X.prog X.w X.K X.mg X.base CX k g fd ps sp) (hr : Room (k + 2) X.A) (hb : Binds X.K fd ps []) (hx : Passes CX X E) (ry : RelV y u) (h : sp [.ref a, y] H Q E) :
    wpAny (model X.prog X.w) X.A (setAttr (.ref a) f u) (fun _ s' => ∃ v H', Inv X pins σ H' s' ∧ Q v H') X.xe s := by
  obtain ⟨mA, O, _, _, _, _⟩ := ins_get I.hok ea
  obtain ⟨od, J, _⟩ := O.look
  obtain ⟨a0, rest, hrec⟩ := hp.rec_
  have I1 := I.tok (s.toks + 1)
  have hl : ([Value.ref a, u] ++ []).length = ps.length := by rw [← F.len _ _ _ _ h]; rfl
  refine PySem.W.set_plain I.kIn J c.sa (PySem.W.osa_descr (s := { s with toks := s.toks + 1 }) PySem.W.KF.slot_pset I.kIn J c.po hp.tk hp.ty (PySem.W.prop_set (s := { s with toks := s.toks + 1 }) I.kIn hrec ?_))
  refine codeAny_mono (F.run X.A.in1.in1 X.stack { s with toks := s.toks + 1 } H ⟨[.ref a, u], []⟩ [.ref a, u] [.ref a, y] Q E hr.in1.in1 I1.env0.in1.in1 (hb _ [.ref a, u] I1.kIn hl) (.cons rfl (.cons ry .nil)) h) fun r s' hq => ?_
  cases r with
  | error er => exact hx pins σ H { s with toks := s.toks + 1 } er s' I1 hq
  | ok fl =>
    cases fl with
    | ret u2 =>
      obtain ⟨v, H', I3, rv, q3⟩ := I1.after hq
      exact ⟨v, H', I3, q3⟩
    | next => exact False.elim hq
    | brk => exact False.elim hq
    | cont => exact False.elim hq
theorem ps_fldP (ha : PE X o ta) (hv : PE X value tv) (c : Cls X.K C) (hp : PropSet X.K C f p g) (F : FnOk X.prog X.w X.K X.mg X.base CX k g fd ps sp) (hr : Room (k + 2) X.A) (hb : Binds X.K fd ps []) (hx : Passes CX X E)
    (hs : swapsWith value (some (.Attribute o f pos')) pos.line X.env = pure false) : PS X (.Assign [.Attribute o f pos'] value pos) (sFldP C sp E ta tv) := by
  refine ⟨fun pins s σ H D I h => ?_⟩
  refine plainObj_wpAny_Assign_Attribute (thn (hv.run pins s σ H _ I h) fun u s1 ⟨y, H1, I1, ry, q⟩ => thn (ha.run pins s1 σ H1 _ I1 q) fun ov s2 ⟨x, H2, I2, rx, a, dx, fs, ex, ea, q2⟩ => ?_) hs
  subst ex
  obtain rfl : ov = Value.ref a := rx
  exact wpAny_mono (setprop_ok I2 ea c hp F hr hb hx ry q2) (fun _ s3 ⟨v, H', I3, q3⟩ => ⟨σ, H', I3, q3⟩) fun _ _ z => z
end
/-! ### max(xs, default=d) of ints -/
theorem maxOf_spec : ∀ (ys : List Int) (y : Int), PySem.W.maxOf y ys ∈ y :: ys ∧ ∀ z ∈ y :: ys, z ≤ PySem.W.maxOf y ys
  | [], y => ⟨by simp [PySem.W.maxOf], by simp [PySem.W.maxOf]⟩
  | x :: ys, y => by
    have e : PySem.W.maxOf y (x :: ys) = PySem.W.maxOf (if PySem.W.DatumOrd.lt y x = true then x else y) ys := rfl
    have e2 : (if PySem.W.DatumOrd.lt y x = true then x else y) = if y < x then x else y := by
      show (if decide (y < x) = true then x else y) = _
      by_cases h : y < x
      · rw [if_pos (decide_eq_true h), if_pos h]
      · rw [if_neg (by simpa using h), if_neg h]
    rw [e, e2]
    obtain ⟨h1, h2⟩ := maxOf_spec ys (if y < x then x else y)
    constructor
    · rcases List.mem_cons.mp h1 with h | h
      · rw [h]
        split
        · simp
        · simp
      · simp [h]
    · intro z hz
      have hh := h2 (if y < x then x else y) (by simp)
      rcases List.mem_cons.mp hz with rfl | hz
      · refine Int.le_trans ?_ hh
        split <;> omega
      · rcases List.mem_cons.mp hz with rfl | hz
        · refine Int.le_trans ?_ hh
          split <;> omega
        · exact h2 z (by simp [hz])
def rMaxDf (K : PySem.W.Frag) : List V → List V → Hp → VK → Prop := fun vs zs H Q => ∃ (a : Addr) (ns : List Int) (d : V), vs = [V.ref a] ∧ zs = [d] ∧ SqL K H a (ns.map V.int) ∧ (ns = [] → Q d H) ∧ ∀ m, m ∈ ns → (∀ y, y ∈ ns → y ≤ m) → Q (.int m) H
theorem ck_maxDf {X : Cx} (hc : X.calm = true) (hu : X.A.units + 1 < cLine) : CallRK X (.builtin "max") [Str.ofString "default"] (rMaxDf X.K) := by
  intro pins s σ H vs zs us ws Q I r rz h
  obtain ⟨a, ns, d, rfl, rfl, hs, q0, q⟩ := h
  obtain rfl := Vals.ref1 r
  obtain ⟨w1, rfl, e1⟩ := rz.one
  obtain ⟨its, rv, hl, _⟩ := I.list hs
  refine PySem.W.max_list_datum_default (α := Int) (I.ok.hd hc) hl.isList (PySem.W.HoldAll.of_ints (by simpa using rv.ints)) hu (fun e h' tk hk => ?_) fun y ys i v h' tk e hv hh hk => ?_
  · exact ⟨d, H, I.kept hk, e1, q0 e⟩
  · obtain ⟨t, rfl⟩ := PySem.W.int_of_holds hh
    obtain ⟨h1, h2⟩ := maxOf_spec ys y
    exact ⟨.int _, H, I.kept hk, ⟨t, rfl⟩, q _ (by rw [e]; exact h1) fun z hz => h2 z (by rw [← e]; exact hz)⟩
end Tp
/-! U: the book's questions, as promises -/
namespace Tp
open PySem PySem.Spec PyProof.Rows L2 He
theorem hu1_of {A : Around} {k : Nat} (hr : Room k A) : A.units + 1 < cLine := by have := hr.un; omega
theorem fsB_bound' {b j : Int} {A : Bk} : putF "_bound" (.int j) (fsB b A) = fsB j A := by rfl
theorem BookAt.setB {C p : Addr} {H : Hp} {b j : Int} {A : Bk} {ks cs : List (Str × V)} {ts ds fs : List V} {ps : List Str} (B : BookAt C H p b A ks ts ps cs ds fs) : BookAt C (upd H p (.ins C A.dx (fsB j A))) p j A ks ts ps cs ds fs := by
  have n := B.p_ne
  exact ⟨upd_same, by rw [upd_ne (Ne.symm n.1)]; exact B.dk, by rw [upd_ne (Ne.symm n.2.1)]; exact B.lt, by rw [upd_ne (Ne.symm n.2.2.1)]; exact B.lp, by rw [upd_ne (Ne.symm n.2.2.2.1)]; exact B.dc,
    by rw [upd_ne (Ne.symm n.2.2.2.2.1)]; exact B.ld, by rw [upd_ne (Ne.symm n.2.2.2.2.2)]; exact B.lf, B.nk, B.n1, B.n2, B.n3, B.n4, B.n5, B.n6⟩
theorem fsB_no2 {b : Int} {A : Bk} {m : Str} (h : m = "previous" ∨ m = "_has_leave" ∨ m = "amounts" ∨ m = "kind_of" ∨ m = "hold_of" ∨ m = "change_bound" ∨ m = "where" ∨ m = "thirstier") : (fsB b A).lookup m = none := by
  rcases h with rfl | rfl | rfl | rfl | rfl | rfl | rfl | rfl <;> rfl
/-- book.bound = v, book.change_bound(v) -/
def spSetBound (K : PySem.W.Frag) (C : Addr) : Sp := fun vs H Q E => ∃ p v i A ks ts ps cs ds fs, vs = [.ref p, v] ∧ Ptv K H v ∧ BookAt C H p i A ks ts ps cs ds fs ∧
  (¬ btw (ds.length : Int) 24 v → Leaves K E (He.ga K "BadNumber") v H) ∧ (∀ j, v = .int j → (ds.length : Int) ≤ j → j ≤ 24 → ∀ H', Ext [p] H H' → BookAt C H' p j A ks ts ps cs ds fs → Q .non H')
/-- the dips' items are pairs of texts -/
def spPrevious (K : PySem.W.Frag) (C : Addr) : Sp := fun vs H Q E => ∃ p v i A ks ts ps cs ds fs d, vs = [.ref p, v] ∧ Ptv K H v ∧ BookAt C H p i A ks ts ps cs ds fs ∧ PT H ds d ∧ d.length ≤ 1000 ∧
  (¬ btw 0 ((d.length : Int) - 1) v → Leaves K E (He.ga K "BadNumber") v H) ∧ (∀ (n : Nat) q, v = .int (n : Int) → d[n]? = some q → ∀ H', Ext [] H H' → Q (vOpt (prevD d q.1 n)) H')
def spHasLeave (C : Addr) : Sp := fun vs H Q _ => ∃ p i A k c ts ps ds fs d, ∃ n : Nat, vs = [.ref p, .int (n : Int)] ∧ BookAt C H p i A (k.map tv) ts ps (c.map tv) ds fs ∧ PT H ds d ∧ Kept k c d ∧ n < d.length ∧ ∀ H', Ext [] H H' → Q (.bl (leaveD k c d n)) H'
def spAmounts (C : Addr) : Sp := fun vs H Q _ => ∃ p i A k c ts ps ds fs d, vs = [.ref p] ∧ BookAt C H p i A (k.map tv) ts ps (c.map tv) ds fs ∧ PT H ds d ∧ Kept k c d ∧ ∀ l H', H l = none → Ext [] H H' → AmtAt H' l (amtD k c d d.length) → Q (.ref l) H'
/-- an item of such a list -/
theorem PT.get {H : Hp} {ds : List V} {d : List (Str × Str)} (h : PT H ds d) {n : Nat} {q : Str × Str} (e : d[n]? = some q) : ∃ u, atI ds (n : Int) = some (.ref u) ∧ H u = some (.tup [.str q.1, .str q.2]) := by
  obtain ⟨as, rfl, h2⟩ := h
  have hl := paired_len h2
  have hn := (List.getElem?_eq_some_iff.mp e).1
  obtain ⟨z', hz', hT⟩ := paired_at h2 (List.getElem?_eq_getElem (by omega : n < as.length))
  rw [e] at hz'
  cases hz'
  exact ⟨_, atI_nat (by rw [List.getElem?_map, List.getElem?_eq_getElem (by omega : n < as.length)]; rfl), hT⟩
/-- the dips ahead of m with this cloth -/
def hitsD (d : List (Str × Str)) (x : Str) : Nat → List Int
  | 0 => []
  | m + 1 => if (d[m]?.map (·.1)) = some x then hitsD d x m ++ [(m : Int)] else hitsD d x m
theorem hitsD_len {d : List (Str × Str)} {x : Str} : ∀ m, (hitsD d x m).length ≤ m
  | 0 => Nat.le_refl _
  | m + 1 => by
    have := hitsD_len (d := d) (x := x) m
    unfold hitsD
    split
    · rw [List.length_append]
      show _ + 1 ≤ _
      omega
    · omega
theorem hitsD_lt {d : List (Str × Str)} {x : Str} : ∀ m, ∀ y ∈ hitsD d x m, y < (m : Int)
  | 0, y, h => by cases h
  | m + 1, y, h => by
    unfold hitsD at h
    split at h
    · rcases List.mem_append.mp h with h | h
      · have := hitsD_lt m y h; omega
      · simp at h; omega
    · have := hitsD_lt m y h; omega
/-- the greatest of them is the last one -/
theorem hitsD_max {d : List (Str × Str)} {x : Str} : ∀ m, (hitsD d x m = [] → prevD d x m = none) ∧ ∀ y, y ∈ hitsD d x m → (∀ z, z ∈ hitsD d x m → z ≤ y) → vOpt (prevD d x m) = .int y
  | 0 => ⟨fun _ => rfl, fun y h => by cases h⟩
  | m + 1 => by
    have e : prevD d x (m + 1) = if (d[m]?.map (·.1)) = some x then some m else prevD d x m := rfl
    have e2 : hitsD d x (m + 1) = if (d[m]?.map (·.1)) = some x then hitsD d x m ++ [(m : Int)] else hitsD d x m := rfl
    rw [e, e2]
    obtain ⟨h1, h2⟩ := hitsD_max (d := d) (x := x) m
    by_cases h : (d[m]?.map (·.1)) = some x
    · rw [if_pos h, if_pos h]
      refine ⟨fun q => by simp at q, fun y hy hm => ?_⟩
      have := hm (m : Int) (by simp)
      rcases List.mem_append.mp hy with hy | hy
      · have := hitsD_lt m y hy; omega
      · simp at hy; rw [hy]
    · rw [if_neg h, if_neg h]
      exact ⟨h1, h2⟩
end Tp
/-! Y: odd names, refusals, lists of amounts -/
namespace Tp
open PySem PySem.Spec PyProof.Rows L2 He
theorem nm_ltrs {z : Str} (h : nmS z = true) : ltrs z := by
  have h2 := (Bool.and_eq_true_iff.mp (Bool.and_eq_true_iff.mp h).2).2
  unfold allL at h2
  rw [List.all_eq_true] at h2
  exact fun c hc => of_decide_eq_true (h2 c hc)
theorem nm_okN {z : Str} (h : nmS z = true) : okN z := ⟨ltrs_ok (nm_ltrs h), nm_len h⟩
end Tp
namespace Tp
open PySem PySem.Spec PyProof.Rows L2 He
/-- _law_lists(answer, due), both the same amounts -/
def spLists : Sp := fun vs H Q _ => ∃ (a b : Addr) (xs : List (Str × Nat)), vs = [.ref a, .ref b] ∧ AmtAt H a xs ∧ AmtAt H b xs ∧ xs.length ≤ 1000 ∧ (∀ q ∈ xs, okS q.1) ∧ Q (.bl true) H
theorem amt_at {H : Hp} : ∀ {as : List Addr} {l : List (Str × Nat)} {i : Nat} {t : Addr}, Paired (isAmt H) as l → as[i]? = some t → ∃ q, l[i]? = some q ∧ isAmt H t q
  | _, _, _, _, .nil, e => by simp at e
  | _, _, 0, _, .cons x r, e => by simp at e; subst e; exact ⟨_, rfl, x⟩
  | _, _, i + 1, t, .cons _ r, e => by
    obtain ⟨q, h1, h2⟩ := amt_at (i := i) r (by simpa using e)
    exact ⟨q, by simpa using h1, h2⟩
theorem AmtAt.get {H : Hp} {r : Addr} {l : List (Str × Nat)} (h : AmtAt H r l) : ∃ xs, H r = some (.lst xs) ∧ xs.length = l.length ∧ ∀ (i : Nat) (q : Str × Nat), l[i]? = some q → ∃ u, atI xs (i : Int) = some (.ref u) ∧ isAmt H u q := by
  obtain ⟨as, h1, h2⟩ := h
  have hl := amt_len h2
  refine ⟨_, h1, by rw [List.length_map, hl], fun i q hq => ?_⟩
  have hi := (List.getElem?_eq_some_iff.mp hq).1
  obtain ⟨z, hz, hT⟩ := amt_at h2 (List.getElem?_eq_getElem (by omega : i < as.length))
  rw [hq] at hz
  cases hz
  exact ⟨_, atI_nat (by rw [List.getElem?_map, List.getElem?_eq_getElem (by omega : i < as.length)]; rfl), hT⟩
abbrev dAmt (q : Str × Nat) : PyData := .tuple [.str q.1, .int (q.2 : Int)]
theorem isAmt.im {H : Hp} {u : Addr} {q : Str × Nat} (h : isAmt H u q) : Im H (.ref u) (dAmt q) := .tup h (.cons (.str _) (.cons (.int _) .nil))
theorem okD_amt {q : Str × Nat} (h : okS q.1) : okD (dAmt q) := okD.tup (n := 1) (by
  intro d hd
  simp at hd
  rcases hd with rfl | rfl
  · exact ⟨(okD.str h).1, by simp [PyData.depth]⟩
  · exact ⟨okD.int.1, by simp [PyData.depth]⟩) (by decide)
theorem amtD_ok {k c d : List (Str × Str)} : ∀ n, ∀ q ∈ amtD k c d n, okS q.1
  | 0, _, h => by cases h
  | n + 1, q, h => by
    have h' : q ∈ (amtD k c d n ++ [(("take" : Str), n)]) ++ (if leaveD k c d n = true then [(("leave" : Str), n)] else []) := h
    rcases List.mem_append.mp h' with h | h
    · rcases List.mem_append.mp h with h | h
      · exact amtD_ok n q h
      · simp at h; subst h; show okS ("take" : Str); decide +kernel
    · split at h
      · simp at h; subst h; show okS ("leave" : Str); decide +kernel
      · cases h
/-- tests that come out false, one by one -/
theorem or_no {σ : L2.St} {H : Hp} {c t : TT} (h1 : Ans c σ H false) (h2 : Ans t σ H false) : Ans (tOr c t) σ H false := ans_or h1 h2
end Tp
/-! J: a model and its book, side by side -/
namespace Tp
open PySem PySem.Spec PyProof.Rows L2 He
section
variable {H H' : Hp} {a : Mad} {k t c d : List (Str × Str)} {p : List Str} {fs : List V} {ms : List Addr} {z y : Str} {u : Addr} {xs : List V}
/-- a row grows by a pair that is there -/
theorem RowAt.pushU {r t : Addr} {l : List (Str × Str)} {q : Str × Str} (h : RowAt H r l) (hxs : H r = some (.lst xs)) (ht : H t = some (.tup [.str q.1, .str q.2])) : RowAt (upd H r (.lst (xs ++ [.ref t]))) r (l ++ [q]) := by
  obtain ⟨as, h1, h2⟩ := h
  rw [h1] at hxs
  cases hxs
  have e : Ext [r] H (upd H r (.lst (as.map V.ref ++ [.ref t]))) := Ext.refl.mut (by simp) fun xs z => by rw [h1] at z; cases z
  refine ⟨as ++ [t], by rw [upd_same, List.map_append]; rfl, paired_snoc ?_ (paired_ext e h2)⟩
  exact e.tups _ _ ht
theorem MdAt.push4u (v : MdAt H a k t p c d fs) (hxs : H a.m4 = Option.some (HO.lst xs)) (hu : H u = Option.some (HO.tup [V.str z, V.str y])) : MdAt (L2.upd H a.m4 (.lst (xs ++ [.ref u]))) a k t p c (d ++ [(z, y)]) fs := by
  have nd := v.nd
  simp only [Mad.all, List.nodup_cons, List.mem_cons, List.not_mem_nil, not_or, or_false] at nd
  obtain ⟨⟨n0, n1, n2, n3, n4, n5⟩, ⟨n01, n02, n03, n04, n05⟩, ⟨n12, n13, n14, n15⟩, ⟨n23, n24, n25⟩, ⟨n34, n35⟩, n45, _⟩ := nd
  have e : Ext [a.m4] H (upd H a.m4 (.lst (xs ++ [.ref u]))) := Ext.refl.mut (by simp) fun xs z => by rw [hxs] at z; cases z
  exact ⟨v.nd, e.keep _ _ v.M (by simpa using n4), v.r0.ext e (by simpa using n04), v.r1.ext e (by simpa using n14), e.keep _ _ v.r2 (by simpa using n24), v.r3.ext e (by simpa using n34), v.r4.pushU (q := (z, y)) hxs hu, e.keep _ _ v.r5 (by simpa using Ne.symm n45)⟩
end
/-- since H0: the source, the book's object, the model's dips may have changed -/
structure Jv (C : Addr) (H0 H : Hp) (S L b : Addr) (a : Mad) (A : Bk) (i : Int) (k t : List (Str × Str)) (p : List Str) (c d e : List (Str × Str)) (ts ds : List V) : Prop where
  x : Ext [S, b, a.m4] H0 H
  s : SrcAt H S L
  v : MdAt H a k t p c d []
  B : BookAt C H b i A (k.map tv) ts p (c.map tv) ds []
  D : PT H ds e
  f : ∀ y ∈ A.all b, y ≠ S ∧ y ≠ L ∧ y ∉ a.all
  g : ∀ y ∈ a.all, y ≠ S ∧ y ≠ L
section
variable {C : Addr} {H0 H H' : Hp} {S L b : Addr} {a : Mad} {A : Bk} {i : Int} {k t c d e : List (Str × Str)} {p : List Str} {ts ds : List V}
theorem Jv.draw (j : Jv C H0 H S L b a A i k t p c d e ts ds) (x : Ext [S] H H') (s : SrcAt H' S L) : Jv C H0 H' S L b a A i k t p c d e ts ds :=
  ⟨j.x.trans (x.mono fun y h => by simp at h; simp [h]), s, j.v.ext x fun y hy => by simpa using (j.g y hy).1, j.B.ext x fun y hy => by simpa using (j.f y hy).1, j.D.ext x, j.f, j.g⟩
theorem Jv.grow (j : Jv C H0 H S L b a A i k t p c d e ts ds) (x : Ext [] H H') : Jv C H0 H' S L b a A i k t p c d e ts ds := j.draw x.nil (j.s.ext x)
/-- the book's object changed -/
theorem Jv.bound (j : Jv C H0 H S L b a A i k t p c d e ts ds) {i' : Int} (x : Ext [b] H H') (B : BookAt C H' b i' A (k.map tv) ts p (c.map tv) ds []) : Jv C H0 H' S L b a A i' k t p c d e ts ds := by
  have fb := j.f b (by simp)
  exact ⟨j.x.trans (x.mono fun y h => by simp at h; simp [h]), j.s.keepM x (by simpa using Ne.symm fb.1) (by simpa using Ne.symm fb.2.1), j.v.ext x fun y hy => by simp only [List.mem_singleton]; exact fun h => fb.2.2 (by rw [← h]; exact hy), B, j.D.ext x, j.f, j.g⟩
/-- one dip more in the book -/
theorem Jv.dip (j : Jv C H0 H S L b a A i k t p c d e ts ds) {u l : Addr} {q : Str × Str} (x : Ext [b] H H') (hl : H l = none) (hu : H' u = some (.tup [.str q.1, .str q.2])) (B : BookAt C H' b i { A with ld := l } (k.map tv) ts p (c.map tv) (ds ++ [.ref u]) []) : Jv C H0 H' S L b a { A with ld := l } i k t p c d (e ++ [q]) ts (ds ++ [.ref u]) := by
  have fb := j.f b (by simp)
  refine ⟨j.x.trans (x.mono fun y h => by simp at h; simp [h]), j.s.keepM x (by simpa using Ne.symm fb.1) (by simpa using Ne.symm fb.2.1), j.v.ext x fun y hy => by simp only [List.mem_singleton]; exact fun h => fb.2.2 (by rw [← h]; exact hy), B, (j.D.ext x).snoc hu, ?_, j.g⟩
  have f := j.f
  intro y hy
  simp only [Bk.all, List.mem_cons, List.not_mem_nil, or_false] at hy
  rcases hy with rfl | rfl | rfl | rfl | rfl | rfl | rfl
  · exact f _ (by simp)
  · exact f _ (by simp)
  · exact f _ (by simp)
  · exact f _ (by simp)
  · exact f _ (by simp)
  · obtain ⟨h1, h2⟩ := src_ne_new j.s hl
    exact ⟨h1, h2, fun h => j.v.new hl _ h rfl⟩
  · exact f _ (by simp)
/-- one dip more in the model -/
theorem Jv.push (j : Jv C H0 H S L b a A i k t p c d e ts ds) {u : Addr} {q : Str × Str} {xs : List V} (hxs : H a.m4 = some (.lst xs)) (hu : H u = some (.tup [.str q.1, .str q.2])) : Jv C H0 (upd H a.m4 (.lst (xs ++ [.ref u]))) S L b a A i k t p c (d ++ [q]) e ts ds := by
  have x : Ext [a.m4] H (upd H a.m4 (.lst (xs ++ [.ref u]))) := Ext.refl.mut (by simp) fun xs z => by rw [hxs] at z; cases z
  have g4 := j.g a.m4 (by simp)
  exact ⟨j.x.trans (x.mono fun y h => by simp at h; simp [h]), j.s.keepM x (by simpa using Ne.symm g4.1) (by simpa using Ne.symm g4.2), j.v.push4u hxs hu, j.B.ext x fun y hy => by simp only [List.mem_singleton]; exact fun h => (j.f y hy).2.2 (by rw [h]; simp), j.D.ext x, j.f, j.g⟩
/-- what stood at H0 and is none of these -/
theorem Jv.old (j : Jv C H0 H S L b a A i k t p c d e ts ds) {y : Addr} {o : HO} (h : H0 y = some o) (h1 : y ≠ S) (h2 : y ≠ b) (h3 : y ≠ a.m4) : H y = some o := j.x.keep _ _ h (by simp [h1, h2, h3])
theorem Jv.off (j : Jv C H0 H S L b a A i k t p c d e ts ds) {l : Addr} (h : H l = none) : l ≠ S ∧ l ≠ b ∧ l ≠ a.m4 := ⟨(src_ne_new j.s h).1, (ne_of_none j.B.ob h).symm, j.v.new h _ (by simp)⟩
theorem Jv.kept (j : Jv C H0 H S L b a A i k t p c d e ts ds) {most : Nat} {d' : List (Str × Str)} (G : Good most k t p c d') (hd : ∀ q ∈ d, q.1 ∈ c.map (·.1)) (hl : d.length ≤ 1000) : Kept k c d := ⟨G.kn.nd, G.k8, G.cn.nd, G.c8, G.ck, hd, hl⟩
end
theorem Nr.le {H : Hp} {n : Addr} {ys : List V} {k j : Nat} (h : Nr H n ys k) (hk : k ≤ j) : Nr H n ys j := ⟨h.1, Nat.le_trans h.2.1 hk, h.2.2⟩
end Tp
/-! I: an object of an own class walked by its __iter__, its length by its __len__ -/
namespace Tp
open PySem PySem.Spec PyProof.Rows L2 He
/-- a def whose promise knows how many objects stand when it is called -/
structure FnN (P : Program) (w : World) (K : PySem.W.Frag) (mg : Str → Option Value) (base : Heap) (CX : CXT) (k : Nat) (f : Addr) (fd : FuncData) (ps : List Str) (sp : Nat → Sp) : Prop where
  len : ∀ n vs H Q E, sp n vs H Q E → vs.length = ps.length
  run : ∀ (A : Around) (outer : List Env) (s : Shared) (H : Hp) (args : Args) (us : List Value) (vs : List V) (Q : VK) (E : XK), Room k A → Env0 P w K mg base A outer s H → BindsTo s fd args (ps.zip us) → Vals vs us →
    sp s.heap.objs.size vs H Q E → codeAny (model P w) A (.call (.ref f) args) (CR CX outer P w H s Q E) s
theorem FunD.okN {P : Program} {w : World} {K : PySem.W.Frag} {mg : Str → Option Value} {base : Heap} {x qual : Str} {params : Arguments} {body : List Stmt} {scope : Scope} {dvs : List V} {kws : List (Str × V)} {f : Addr} {fd : FuncData}
    {CX : CXT} {N ps : List Str} {k : Nat} {sp : Nat → Sp} (F : FunD K x qual params body scope dvs kws f fd) (S : FnScope N ps scope) (len : ∀ n vs H Q E, sp n vs H Q E → vs.length = ps.length)
    (hbody : ∀ (cdv : Value) (A : Around) (outer : List Env) (s : Shared) (H : Hp) (vs : List V) (Q : VK) (E : XK), Room k (A.deeper (envOfC qual scope s.heap.objs.size f cdv)) → sp s.heap.objs.size vs H Q E →
      ∃ t, PSs (cxOf CX P w K mg base N qual scope f cdv A outer s H E) body t ∧ t { nx := fun _ H' => Q .non H', rt := Q } (start N vs) H) : FnN P w K mg base CX (k + 1) f fd ps sp := by
  obtain ⟨oc, od, dV, kV, doc, pm, an, cdv, ct, osl, rfl, lk, hcd, _, _⟩ := F.ex
  refine ⟨len, fun A outer s H args us vs Q E room env bnd vals prom => ?_⟩
  have inK : K.In s.heap := env.mod.kin.keeps fun b o e => (env.bs b o e).1
  have noLim : s.heap.NoLimit := env.mod.nolimit.keeps fun b o e => (env.bs b o e).1
  refine codeAny_call_function room.depth (inK _ _ lk) rfl S.co S.gen rfl (PySem.W.codeRec_of inK hcd) (bnd _ _ _ _ ?_)
  refine wpAny_newFunctionEnv_cells S.kind (fun y hy => ?_) fun fresh isFresh s1 x => ?_
  · obtain ⟨n, v⟩ := y
    exact (S.par n (List.of_mem_zip hy).1).elim .inl fun q => .inr ⟨q, PySem.W.cellsFrom_some _ _ _ (.inl q)⟩
  · subst isFresh
    refine ⟨noLim.keeps x.toInCall.keep, codeAny_func ?_⟩
    obtain ⟨t, runs, reads⟩ := hbody cdv A outer s H vs Q E (room.deeper _) prom
    refine wpAny_mono (runs.run [] s1 (start N vs) H _ (inv_start S room.hd env (len _ _ _ _ _ prom) vals x) reads) (fun fl s' got => ?_) fun e s' hs => hs
    cases fl with
    | ret u =>
      obtain ⟨v, σ', H', J, rv, q⟩ := got
      exact ⟨v, H', J.os, J.bare, J.base, J.hok, rv, q⟩
    | next =>
      obtain ⟨σ', H', J, q⟩ := got
      exact ⟨V.non, H', J.os, J.bare, J.base, J.hok, rfl, q⟩
    | brk =>
      obtain ⟨_, _, _, q⟩ := got
      exact q.elim
    | cont =>
      obtain ⟨_, _, _, q⟩ := got
      exact q.elim
/-- a class with its own __iter__ -/
structure OwnIt (K : PySem.W.Frag) (C g : Addr) : Prop where
  it : PySem.W.findIn K (.ref C) "__iter__" = some (some (.ref g))
  fn : PySem.W.isFn K (.ref g) = true
/-- what __iter__ is to answer: a new iterator over the list at l -/
abbrev itNew (n : Nat) (l : Addr) (H : Hp) : VK := fun v H' => ∃ it, v = .ref it ∧ H it = none ∧ n ≤ it ∧ H' = upd H it (ItO l it 0)
/-- for .. in o, o of a class with its own __iter__ that answers iter(a list) -/
def iOwn (K : PySem.W.Frag) (C : Addr) (sp : Nat → Sp) (E : XK) (te : TE) : TI := fun σ H R => te σ H fun x H1 => ∃ a dx fs l, x = .ref a ∧ H1 a = some (.ins C dx fs) ∧ (∀ n, sp n [.ref a] H1 (itNew n l H1) E) ∧ R (Itl K l) H1
section
variable {X : Cx} {CX : CXT} {k : Nat} {C g : Addr} {fd : FuncData} {ps : List Str} {sp : Nat → Sp} {E : XK} {e tg : Expr} {te : TE}
theorem pi_own (he : PE X e te) (hi : OwnIt X.K C g) (F : FnN X.prog X.w X.K X.mg X.base CX k g fd ps sp) (hr : Room k X.A) (hb : Binds X.K fd ps []) (hx : Passes CX X E) : PI X tg e (iOwn X.K C sp E te) := by
  refine ⟨fun pins s σ H R I h => ?_⟩
  refine thn (he.run pins s σ H _ I h) fun v s1 ⟨x, H1, I1, r1, a, dx, fs, l, ex, ea, hs, q⟩ => ?_
  subst ex
  obtain rfl : v = Value.ref a := r1
  obtain ⟨mA, O, _, _, _, _⟩ := ins_get I1.hok ea
  obtain ⟨od, J, _⟩ := O.look
  obtain ⟨m0, hF⟩ := I1.fr
  refine PySem.W.owit_iter hF I1.ok.mod.kin J hi.it hi.fn ?_
  have hsp := hs s1.heap.objs.size
  have hl := F.len _ _ _ _ _ hsp
  have bnd := hb s1 [.ref a] I1.kIn (by simpa using hl)
  refine wpAny_call (codeAny_mono (F.run X.A X.stack s1 H1 ⟨[.ref a], []⟩ [.ref a] [.ref a] _ E hr I1.env0 (by simpa using bnd) (.cons rfl .nil) hsp) fun r s' hq => ?_)
  cases r with
  | error er => exact hx pins σ H1 s1 er s' I1 hq
  | ok fl =>
    cases fl with
    | ret u =>
      obtain ⟨v, H', I3, rv, it, rfl, hn, hsz, rfl⟩ := I1.after hq
      obtain rfl : u = Value.ref it := rv
      have eo := itO_get I3 (upd_same (H := H1) (a := it) (o := ItO l it 0))
      show wpAny _ _ (specialOf _ _) _ _ _
      refine wpAny_specialOf (T := "list_iterator") ⟨_, eo, rfl⟩ slot_listiter_next.lookup ?_
      have hd : ItX.dropH (upd H1 it (ItO l it 0)) it = H1 := ItX.dropH_upd hn
      have I4 := ItX.inv_drop I3 (φ := fun h => h.get? it = some (GNX.itObj l 0)) upd_same
      have fp := ItX.inv_fp I3 (upd_same (H := H1) (a := it) (o := ItO l it 0)) (Nat.le_trans I1.sz hsz)
      rw [hd] at I4 fp
      refine ⟨it, [it], _, Itl X.K l, H1, rfl, I4, turn_list l it, ⟨_, eo, rfl, rfl⟩, fun b hb => ?_, q⟩
      have e : b = it := by simpa using hb
      rw [e]
      exact fp
    | next => exact False.elim hq
    | brk => exact False.elim hq
    | cont => exact False.elim hq
end
/-- a class with its own __len__ -/
structure OwnLn (K : PySem.W.Frag) (C g : Addr) : Prop where
  ln : PySem.W.findIn K (.ref C) "__len__" = some (some (.ref g))
  fn : PySem.W.isFn K (.ref g) = true
def rLenO (C : Addr) (sp : Sp) (E : XK) : List V → Hp → VK → Prop := fun xs H Q => ∃ a dx fs, xs = [.ref a] ∧ H a = some (.ins C dx fs) ∧ sp [.ref a] H (fun v H' => ∃ i : Int, v = .int i ∧ 0 ≤ i ∧ i < 2 ^ 63 ∧ Q (.int i) H') E
theorem call_lenO {X : Cx} {CX : CXT} {k : Nat} {C g : Addr} {fd : FuncData} {ps : List Str} {sp : Sp} {E : XK} (hi : OwnLn X.K C g) (F : FnOk X.prog X.w X.K X.mg X.base CX k g fd ps sp) (hr : Room (k + 1) X.A) (hb : Binds X.K fd ps []) (hx : Passes CX X E) : CallR X (.builtin "len") (rLenO C sp E) := by
  intro pins s σ H xs us Q I r h
  obtain ⟨a, dx, fs, rfl, ea, hs⟩ := h
  rw [Vals.ref1 r]
  obtain ⟨mA, O, _, _, _, _⟩ := ins_get I.hok ea
  obtain ⟨od, J, _⟩ := O.look
  obtain ⟨m0, hF⟩ := I.fr
  refine PySem.W.len_K hF I.ok.mod.kin J hi.ln hi.fn ?_
  have hl := F.len _ _ _ _ hs
  have bnd := hb s [.ref a] I.kIn (by simpa using hl)
  refine wpAny_call (codeAny_mono (F.run X.A.in1 X.stack s H ⟨[.ref a], []⟩ [.ref a] [.ref a] _ E hr.in1 I.env0.in1 (by simpa using bnd) (.cons rfl .nil) hs) fun r s' hq => ?_)
  cases r with
  | error er => exact hx pins σ H s er s' I hq
  | ok fl =>
    cases fl with
    | ret u =>
      obtain ⟨v, H', I3, rv, i, rfl, h0, h1, q⟩ := I.after hq
      obtain ⟨t, rfl⟩ := rv
      exact ⟨⟨h0, h1⟩, .int i, H', I3.tok _, ⟨_, rfl⟩, q⟩
    | next => exact False.elim hq
    | brk => exact False.elim hq
    | cont => exact False.elim hq
end Tp
namespace Tp
open PySem PySem.Spec PyProof.Rows L2 He
section
variable {X : Cx} {CX : CXT} {k : Nat} {f C : Addr} {fd : FuncData} {ps ks : List Str} {sp : Sp} {E : L2.St → XK} {x : Str} {p pos : Pos} {kws : List Keyword} {tk : TA} {g : List Value → List Value → List Value} {gV : List V → List V → List V}
end
/-- book.bound, a property -/
def spGetBound (C : Addr) : Sp := fun vs H Q _ => ∃ p i A ks ts ps cs ds fs, vs = [.ref p] ∧ BookAt C H p i A ks ts ps cs ds fs ∧ Q (.int i) H
/-- len(book) -/
def spBLen (C : Addr) : Sp := fun vs H Q _ => ∃ p i A ks ts ps cs ds fs, vs = [.ref p] ∧ BookAt C H p i A ks ts ps cs ds fs ∧ Q (.int (ds.length : Int)) H
/-- iter(book) -/
def spBIter (C : Addr) : Nat → Sp := fun n vs H Q _ => ∃ p i A ks ts ps cs ds fs, vs = [.ref p] ∧ BookAt C H p i A ks ts ps cs ds fs ∧ ∀ it, H it = none → n ≤ it → Q (.ref it) (upd H it (ItO A.ld it 0))
end Tp
namespace Tp
open PySem PySem.Spec PyProof.Rows L2 He
/-- since H0: the source, the book's object, one list of dips may have changed -/
structure Kv (C : Addr) (H0 H : Hp) (S L b l : Addr) (A : Bk) (i : Int) (k : List (Str × Str)) (p : List Str) (c d e : List (Str × Str)) (ds : List V) : Prop where
  x : Ext [S, b, l] H0 H
  s : SrcAt H S L
  B : BookAt C H b i A (k.map tv) [] p (c.map tv) ds []
  D : PT H ds e
  R : RowAt H l d
  f : ∀ y ∈ A.all b, y ≠ S ∧ y ≠ L ∧ y ≠ l
  g : l ≠ S ∧ l ≠ L
section
variable {C : Addr} {H0 H H' : Hp} {S L b l : Addr} {A : Bk} {i : Int} {k c d e : List (Str × Str)} {p : List Str} {ds : List V}
theorem Kv.draw (j : Kv C H0 H S L b l A i k p c d e ds) (x : Ext [S] H H') (s : SrcAt H' S L) : Kv C H0 H' S L b l A i k p c d e ds :=
  ⟨j.x.trans (x.mono fun y h => by simp at h; simp [h]), s, j.B.ext x fun y hy => by simpa using (j.f y hy).1, j.D.ext x, j.R.ext x (by simpa using j.g.1), j.f, j.g⟩
theorem Kv.grow (j : Kv C H0 H S L b l A i k p c d e ds) (x : Ext [] H H') : Kv C H0 H' S L b l A i k p c d e ds := j.draw x.nil (j.s.ext x)
theorem Kv.bl (j : Kv C H0 H S L b l A i k p c d e ds) : b ≠ l := (j.f b (by simp)).2.2
/-- another bound -/
theorem Kv.bound (j : Kv C H0 H S L b l A i k p c d e ds) {i' : Int} (x : Ext [S, b] H H') (s : SrcAt H' S L) (B : BookAt C H' b i' A (k.map tv) [] p (c.map tv) ds []) : Kv C H0 H' S L b l A i' k p c d e ds :=
  ⟨j.x.trans (x.mono fun y h => by simp at h; rcases h with h | h <;> simp [h]), s, B, j.D.ext x, j.R.ext x (by simp only [List.mem_cons, List.not_mem_nil, or_false, not_or]; exact ⟨j.g.1, Ne.symm j.bl⟩), j.f, j.g⟩
/-- one dip more in the book -/
theorem Kv.dip (j : Kv C H0 H S L b l A i k p c d e ds) {u m : Addr} {q : Str × Str} (x : Ext [b] H H') (hm : H m = none) (hu : H' u = some (.tup [.str q.1, .str q.2])) (B : BookAt C H' b i { A with ld := m } (k.map tv) [] p (c.map tv) (ds ++ [.ref u]) []) : Kv C H0 H' S L b l { A with ld := m } i k p c d (e ++ [q]) (ds ++ [.ref u]) := by
  have fb := j.f b (by simp)
  refine ⟨j.x.trans (x.mono fun y h => by simp at h; simp [h]), j.s.keepM x (by simpa using Ne.symm fb.1) (by simpa using Ne.symm fb.2.1), B, (j.D.ext x).snoc hu, j.R.ext x (by simpa using Ne.symm fb.2.2), ?_, j.g⟩
  have f := j.f
  intro y hy
  simp only [Bk.all, List.mem_cons, List.not_mem_nil, or_false] at hy
  rcases hy with rfl | rfl | rfl | rfl | rfl | rfl | rfl
  · exact f _ (by simp)
  · exact f _ (by simp)
  · exact f _ (by simp)
  · exact f _ (by simp)
  · exact f _ (by simp)
  · obtain ⟨h1, h2⟩ := src_ne_new j.s hm
    obtain ⟨_, h3, _⟩ := j.R
    exact ⟨h1, h2, (ne_of_none h3 hm).symm⟩
  · exact f _ (by simp)
/-- one dip more in the list -/
theorem Kv.push (j : Kv C H0 H S L b l A i k p c d e ds) {t : Addr} {z y : Str} {xs : List V} (hxs : H l = some (.lst xs)) (ht : H t = none) : Kv C H0 (upd (upd H t (.tup [.str z, .str y])) l (.lst (xs ++ [.ref t]))) S L b l A i k p c (d ++ [(z, y)]) e ds := by
  have x := ext_push (o := .tup [.str z, .str y]) (o' := .lst (xs ++ [.ref t])) hxs ht
  exact ⟨j.x.trans (x.mono fun y h => by simp at h; simp [h]), j.s.keepM x (by simpa using Ne.symm j.g.1) (by simpa using Ne.symm j.g.2), j.B.ext x fun y hy => by simpa using (j.f y hy).2.2, j.D.ext x, j.R.push (q := (z, y)) hxs ht, j.f, j.g⟩
theorem Kv.old (j : Kv C H0 H S L b l A i k p c d e ds) {y : Addr} {o : HO} (h : H0 y = some o) (h1 : y ≠ S) (h2 : y ≠ b) (h3 : y ≠ l) : H y = some o := j.x.keep _ _ h (by simp [h1, h2, h3])
end
/-- two lists of a text, a value, a truth value -/
theorem ne3 {K : PySem.W.Frag} {a b : Addr} {s : Str} {v : V} {t : Bool} {H : Hp} {Q : VK} (hs : okS s) (hw : Wv H v) (ha : H a = some (.lst [.str s, v, .bl t])) (hb : H b = some (.lst [.str s, v, .bl t])) (q : Q (.bl false) H) : rNeD K (.ref a) (.ref b) H Q := by
  obtain ⟨d, d1, d2, _⟩ := hw
  have sh : SeqAt.shaped (.list [.str s, d, .bool t]) = true := shapedL (n := 8) (by
    intro x hx
    simp at hx
    rcases hx with rfl | rfl | rfl
    · exact ⟨(okD.str hs).1, by simp [PyData.depth]⟩
    · exact d2
    · exact ⟨okD.bool.1, by simp [PyData.depth]⟩) (by decide)
  exact ⟨.list [.str s, d, .bool t], .list [.str s, d, .bool t], .lst (SqL.of ha) (ImAll.cons (.str s) (.cons d1 (.cons (.bl t) .nil))).dp, .lst (SqL.of hb) (ImAll.cons (.str s) (.cons d1 (.cons (.bl t) .nil))).dp, sh, sh, by rw [eqv_self sh]; exact q⟩
end Tp
/-! V: a method with one parameter for all keywords, called by keywords -/
namespace Tp
open PySem PySem.Spec PyProof.Rows L2 He
section
variable {P : Program} {w : World} {A : Around} {E : Value → Shared → Prop}
open PySem.W in
open PySem.W in
end
section
variable {CX : CXT} {P : Program} {w : World} {K : PySem.W.Frag} {mg : Str → Option Value} {base : Heap} {k : Nat} {f : Addr} {x qual : Str} {params : Arguments} {body : List Stmt} {scope : Scope} {fd : FuncData} {N : List Str} {p1 pd : Str} {spB : Sp} {ks : List Str}
end
section
variable {X : Cx} {CX : CXT} {k : Nat} {f C : Addr} {ks : List Str} {sp : Sp} {E : L2.St → XK} {m : Str} {pos apos : Pos} {o : Expr} {kws : List Keyword} {ta : TE} {tk : TA}
end
end Tp
/-! Z: the dips that match -/
namespace Tp
open PySem PySem.Spec PyProof.Rows L2 He
/-- the kind of a cloth -/
def kdOf (c : List (Str × Str)) (z : Str) : Str := ((c.find? fun q => decide (q.1 = z)).map (·.2)).getD ""
/-- does the dip match -/
def hitQ (og ov os : Option Str) (c : List (Str × Str)) (q : Str × Str) : Bool := decide (og.getD q.1 = q.1) && (decide (ov.getD q.2 = q.2) && decide (os.getD (kdOf c q.1) = kdOf c q.1))
def whereD (og ov os : Option Str) (c d : List (Str × Str)) : Nat → List Int
  | 0 => []
  | m + 1 => match d[m]? with
    | some q => if hitQ og ov os c q = true then whereD og ov os c d m ++ [(m : Int)] else whereD og ov os c d m
    | none => whereD og ov os c d m
section
variable {og ov os : Option Str} {c d : List (Str × Str)}
end
end Tp
namespace Tp
open PySem PySem.Spec PyProof.Rows L2 He
end Tp
namespace Tp
open PySem PySem.Spec PyProof.Rows L2 He
end Tp
namespace Tp
open PySem PySem.Spec PyProof.Rows L2 He
end Tp
namespace Tp
open PySem PySem.Spec PyProof.Rows L2 He
def vS : Option Str → V
  | none => .non
  | some z => .str z
end Tp
namespace Tp
open PySem PySem.Spec PyProof.Rows L2 He
end Tp
namespace Tp
open PySem PySem.Spec PyProof.Rows L2 He
/-- what stands in a row of the questions: the answer, what was given -/
def AskRow (c d : List (Str × Str)) (H : Hp) (u : Addr) (o : Option Str × Option Str × Option Str) : Prop := ∃ l g, H u = some (.tup [.ref l, .ref g]) ∧ H l = some (.lst ((whereD o.1 o.2.1 o.2.2 c d d.length).map V.int)) ∧ H g = some (.lst [vS o.1, vS o.2.1, vS o.2.2])
theorem AskRow.ext {c d : List (Str × Str)} {H H' : Hp} {u : Addr} {o : Option Str × Option Str × Option Str} (h : AskRow c d H u o) (e : Ext [] H H') : AskRow c d H' u o := by
  obtain ⟨l, g, h1, h2, h3⟩ := h
  exact ⟨l, g, e.keep _ _ h1 (by simp), e.keep _ _ h2 (by simp), e.keep _ _ h3 (by simp)⟩
end Tp
namespace Tp
open PySem PySem.Spec PyProof.Rows L2 He
theorem paired_app {α β : Type} {F : α → β → Prop} : ∀ {a1 : List α} {b1 : List β} {a2 : List α} {b2 : List β}, Paired F a1 b1 → Paired F a2 b2 → Paired F (a1 ++ a2) (b1 ++ b2)
  | _, _, _, _, .nil, r => r
  | _, _, _, _, .cons a r, r2 => .cons a (paired_app r r2)
end Tp
namespace Tp
open PySem PySem.Spec PyProof.Rows L2 He
section
variable {t1 t2 : TE} {σ : L2.St} {H : Hp} {tz : TS} {D : Ends} {i : Nat} {v : V}
end
end Tp
namespace Tp
open PySem PySem.Spec PyProof.Rows L2 He
theorem paired_atG {α β : Type} {F : α → β → Prop} : ∀ {as : List α} {l : List β} {i : Nat} {t : α}, Paired F as l → as[i]? = some t → ∃ q, l[i]? = some q ∧ F t q
  | _, _, _, _, .nil, e => by simp at e
  | _, _, 0, _, .cons x r, e => by simp at e; subst e; exact ⟨_, rfl, x⟩
  | _, _, i + 1, t, .cons _ r, e => by
    obtain ⟨q, h1, h2⟩ := paired_atG (i := i) r (by simpa using e)
    exact ⟨q, by simpa using h1, h2⟩
end Tp
namespace Tp
open PySem PySem.Spec PyProof.Rows L2 He
end Tp
namespace Tp
open PySem PySem.Spec PyProof.Rows L2 He
end Tp
/-! Gr: chains of pairs -/
namespace Tp
open PySem PySem.Spec PyProof.Rows L2 He
/-- a chain of pairs of t leads from x to y -/
inductive Reach (t : List (Str × Str)) : Str → Str → Prop
  | refl (x : Str) : Reach t x x
  | step {x y z : Str} : Reach t x y → (y, z) ∈ t → Reach t x z
theorem Reach.trans {t : List (Str × Str)} {x y z : Str} (h : Reach t x y) (h2 : Reach t y z) : Reach t x z := by
  induction h2 with
  | refl => exact h
  | step _ e ih => exact .step ih e
theorem Reach.mono {t t' : List (Str × Str)} {x y : Str} (h : Reach t x y) (hs : ∀ q ∈ t, q ∈ t') : Reach t' x y := by
  induction h with
  | refl => exact .refl _
  | step _ e ih => exact .step ih (hs _ e)
/-- chains over the first k places -/
def War (f : Nat → Nat → Bool) : Nat → Nat → Nat → Bool
  | 0, i, j => f i j
  | k + 1, i, j => War f k i j || (War f k i k && War f k k j)
section
variable {f : Nat → Nat → Bool}
theorem War.le {k i j : Nat} (h : War f k i j = true) : War f (k + 1) i j = true := by
  show (War f k i j || _) = true
  rw [h]
  rfl
theorem War.col {k i : Nat} : War f (k + 1) i k = War f k i k := by
  show (War f k i k || (War f k i k && War f k k k)) = _
  cases War f k i k <;> rfl
theorem War.row {k j : Nat} : War f (k + 1) k j = War f k k j := by
  show (War f k k j || (War f k k k && War f k k j)) = _
  cases War f k k j <;> cases War f k k k <;> rfl
theorem War.cases {k i j : Nat} (h : War f (k + 1) i j = true) : War f k i j = true ∨ (War f k i k = true ∧ War f k k j = true) := by
  have h' : (War f k i j || (War f k i k && War f k k j)) = true := h
  cases e : War f k i j with
  | true => exact .inl rfl
  | false =>
    rw [e, Bool.false_or, Bool.and_eq_true] at h'
    exact .inr h'
end
/-- a square of truth values -/
structure TabAt (H : Hp) (R : Addr) (rows : List Addr) (n : Nat) (M : Nat → Nat → Bool) : Prop where
  top : H R = some (.lst (rows.map V.ref))
  len : rows.length = n
  nd : rows.Nodup
  off : R ∉ rows
  row : ∀ i r, rows[i]? = some r → H r = some (.lst ((List.range n).map fun j => V.bl (M i j)))
end Tp
namespace Tp
open PySem PySem.Spec PyProof.Rows L2 He
/-- the row of a table under way -/
def rowL (g : Nat → Bool) (n : Nat) : List V := (List.range n).map fun j => V.bl (g j)
theorem rowL_len {g : Nat → Bool} {n : Nat} : (rowL g n).length = n := by
  unfold rowL
  rw [List.length_map, List.length_range]
theorem rowL_at {g : Nat → Bool} {n j : Nat} (h : j < n) : (rowL g n)[j]? = some (V.bl (g j)) := by
  unfold rowL
  rw [List.getElem?_map, List.getElem?_range h]
  rfl
theorem rowL_congr {g g' : Nat → Bool} {n : Nat} (h : ∀ j, j < n → g j = g' j) : rowL g n = rowL g' n := by
  unfold rowL
  exact List.map_congr_left fun j hj => by rw [h j (List.mem_range.mp hj)]
theorem rowL_set {g g' : Nat → Bool} {n j : Nat} {b : Bool} (hb : g' j = b) (h : ∀ m, m ≠ j → g' m = g m) : (rowL g n).set j (V.bl b) = rowL g' n := by
  apply List.ext_getElem?
  intro m
  by_cases e : m = j
  · subst e
    by_cases hm : m < n
    · rw [List.getElem?_set_self (by rw [rowL_len]; exact hm), rowL_at hm, hb]
    · rw [List.getElem?_eq_none (by rw [List.length_set, rowL_len]; omega), List.getElem?_eq_none (by rw [rowL_len]; omega)]
  · rw [List.getElem?_set_ne (fun q => e q.symm)]
    by_cases hm : m < n
    · rw [rowL_at hm, rowL_at hm, h m e]
    · rw [List.getElem?_eq_none (by rw [rowL_len]; omega), List.getElem?_eq_none (by rw [rowL_len]; omega)]
end Tp
namespace Tp
open PySem PySem.Spec PyProof.Rows L2 He
end Tp
namespace Tp
open PySem PySem.Spec PyProof.Rows L2 He
section
variable {H H' : Hp} {R : Addr} {rows : List Addr} {n : Nat} {M M' : Nat → Nat → Bool}
theorem TabAt.congr (T : TabAt H R rows n M) (h : ∀ i j, i < n → j < n → M i j = M' i j) : TabAt H R rows n M' := by
  refine ⟨T.top, T.len, T.nd, T.off, fun i r hr => ?_⟩
  have hi : i < n := by rw [← T.len]; exact (List.getElem?_eq_some_iff.mp hr).1
  rw [T.row i r hr]
  exact congrArg (fun l => some (HO.lst l)) (rowL_congr fun j hj => h i j hi hj)
theorem TabAt.ext (T : TabAt H R rows n M) (e : Ext [] H H') : TabAt H' R rows n M :=
  ⟨e.keep _ _ T.top (by simp), T.len, T.nd, T.off, fun i r hr => e.keep _ _ (T.row i r hr) (by simp)⟩
theorem TabAt.set (T : TabAt H R rows n M) {i j : Nat} {r : Addr} {b : Bool} (hr : rows[i]? = some r) : TabAt (upd H r (.lst ((rowL (M i) n).set j (V.bl b)))) R rows n (fun x c => if x = i ∧ c = j then b else M x c) := by
  have hRr : R ≠ r := fun q => T.off (by rw [q]; exact List.mem_of_getElem? hr)
  refine ⟨by rw [upd_ne hRr]; exact T.top, T.len, T.nd, T.off, fun m r' hm => ?_⟩
  by_cases e : m = i
  · subst e
    rw [hr] at hm
    cases hm
    rw [upd_same]
    exact congrArg (fun l => some (HO.lst l)) (rowL_set (g' := fun c => if m = m ∧ c = j then b else M m c) (by simp) fun c hc => by simp [hc])
  · have hne : r' ≠ r := fun q => by
      subst q
      exact e ((List.getElem?_inj (List.getElem?_eq_some_iff.mp hm).1 T.nd).mp (by rw [hm, hr]))
    rw [upd_ne hne, T.row m r' hm]
    exact congrArg (fun l => some (HO.lst l)) (rowL_congr fun c _ => by simp [e])
end
end Tp
namespace Tp
open PySem PySem.Spec PyProof.Rows L2 He
/-- the dict of what each first leads to, t told yet -/
structure StepsAt (H : Hp) (D : Addr) (ks : List (Str × Addr)) (t : List (Str × Str)) : Prop where
  top : H D = some (.dK (kvB (ks.map fun q => (q.1, V.ref q.2))))
  kn : (ks.map (·.1)).Nodup
  an : (ks.map (·.2)).Nodup
  row : ∀ q ∈ ks, H q.2 = some (.lst ((selL q.1 t).map V.str))
  all : ∀ p ∈ t, p.1 ∈ ks.map (·.1)
theorem StepsAt.ext {H H' : Hp} {D : Addr} {ks : List (Str × Addr)} {t : List (Str × Str)} (S : StepsAt H D ks t) (e : Ext [] H H') : StepsAt H' D ks t :=
  ⟨e.keep _ _ S.top (by simp), S.kn, S.an, fun q hq => e.keep _ _ (S.row q hq) (by simp), S.all⟩
theorem StepsAt.off {H : Hp} {D : Addr} {ks : List (Str × Addr)} {t : List (Str × Str)} (S : StepsAt H D ks t) : ∀ q ∈ ks, q.2 ≠ D := fun q hq h => by
  have := S.row q hq
  rw [h, S.top] at this
  cases this
theorem valV_ks {ks : List (Str × Addr)} {x : Str} {l : Addr} (nd : (ks.map (·.1)).Nodup) (h : (x, l) ∈ ks) : valV (kvB (ks.map fun q => (q.1, V.ref q.2))) (Sum.inr x : Key) = some (.ref l) := by
  induction ks with
  | nil => cases h
  | cons q ks ih =>
    rw [List.map_cons, List.nodup_cons] at nd
    rcases List.mem_cons.mp h with rfl | h2
    · exact valV_pos (p := (Sum.inr x, V.ref l)) rfl
    · have hne : ¬ q.1 = x := fun e => nd.1 (e ▸ List.mem_map.mpr ⟨(x, l), h2, rfl⟩)
      exact (valV_neg (p := (Sum.inr q.1, V.ref q.2)) (fun y => hne (Sum.inr.inj y))).trans (ih nd.2 h2)
/-- one pair more, its first known -/
theorem StepsAt.push {H : Hp} {D : Addr} {ks : List (Str × Addr)} {t : List (Str × Str)} (S : StepsAt H D ks t) {x y : Str} {l : Addr} (h : (x, l) ∈ ks) : StepsAt (upd H l (.lst ((selL x t).map V.str ++ [.str y]))) D ks (t ++ [(x, y)]) := by
  refine ⟨by rw [upd_ne (Ne.symm (S.off _ h))]; exact S.top, S.kn, S.an, fun q hq => ?_, fun p hp => ?_⟩
  · rw [selL_snoc]
    by_cases e : q.2 = l
    · have : q = (x, l) := by
        obtain ⟨i, hi⟩ := List.mem_iff_getElem?.mp hq
        obtain ⟨j, hj⟩ := List.mem_iff_getElem?.mp h
        have h1 : (ks.map (·.2))[i]? = some l := by rw [List.getElem?_map, hi, ← e]; rfl
        have h2 : (ks.map (·.2))[j]? = some l := by rw [List.getElem?_map, hj]; rfl
        have this : i = j := (List.getElem?_inj (List.getElem?_eq_some_iff.mp h1).1 S.an).mp (h1.trans h2.symm)
        rw [this, hj] at hi
        exact (Option.some.inj hi).symm
      subst this
      rw [upd_same, if_pos rfl, List.map_append]
      rfl
    · rw [upd_ne e, S.row q hq]
      have : ¬ x = q.1 := fun h2 => e (by
        have a1 := valV_ks S.kn h
        have a2 := valV_ks (x := q.1) (l := q.2) S.kn hq
        rw [← h2, a1] at a2
        exact (V.ref.inj (Option.some.inj a2)).symm)
      rw [if_neg this]
  · rcases List.mem_append.mp hp with hp | hp
    · exact S.all p hp
    · rw [List.mem_singleton.mp hp]
      exact List.mem_map.mpr ⟨_, h, rfl⟩
end Tp
namespace Tp
open PySem PySem.Spec PyProof.Rows L2 He
theorem nodup_le {α : Type} [DecidableEq α] : ∀ {l m : List α}, l.Nodup → (∀ x ∈ l, x ∈ m) → l.length ≤ m.length
  | [], _, _, _ => Nat.zero_le _
  | a :: l, m, nd, h => by
    rw [List.nodup_cons] at nd
    have ha := h a (by simp)
    have ih := nodup_le (l := l) (m := m.erase a) nd.2 fun x hx => (List.mem_erase_of_ne (fun e => nd.1 (by rw [← e]; exact hx))).mpr (h x (by simp [hx]))
    have := List.length_erase_of_mem ha
    have hm : 0 < m.length := List.length_pos_of_mem ha
    show l.length + 1 ≤ _
    omega
theorem reach_end {t : List (Str × Str)} {x y : Str} (h : Reach t x y) : y ∈ x :: t.map (·.2) := by
  cases h with
  | refl => simp
  | step _ e => exact List.mem_cons_of_mem _ (List.mem_map.mpr ⟨_, e, rfl⟩)
theorem reach_in {t : List (Str × Str)} {x y : Str} {bs : List Str} (hx : x ∈ bs) (hc : ∀ y ∈ bs, ∀ z, (y, z) ∈ t → z ∈ bs) (h : Reach t x y) : y ∈ bs := by
  induction h with
  | refl => exact hx
  | step _ e ih => exact hc _ ih _ e
end Tp
namespace Tp
open PySem PySem.Spec PyProof.Rows L2 He
/-- what a walk has met -/
structure WkI (t : List (Str × Str)) (x : Str) (bs : List (Str × V)) : Prop where
  nd : (bs.map (·.1)).Nodup
  sub : ∀ y ∈ bs.map (·.1), Reach t x y
  hx : x ∈ bs.map (·.1)
theorem WkI.le {t : List (Str × Str)} {x : Str} {bs : List (Str × V)} (w : WkI t x bs) : bs.length ≤ t.length + 1 := by
  have h := nodup_le w.nd (m := x :: t.map (·.2)) fun y hy => reach_end (w.sub y hy)
  rw [List.length_map] at h
  have e : (x :: t.map (·.2)).length = t.length + 1 := by rw [List.length_cons, List.length_map]
  omega
end Tp
namespace Tp
open PySem PySem.Spec PyProof.Rows L2 He
section
variable {X : Cx} {n : Nat} {nm : Str} {np cp ap : Pos} {kx vx tgt src : Expr} {tests : List Expr} {inner : Scope} {own : List (Str × Nat)} {wi : TI} {g : TG} {tt : TT} {tk tv : TE}
end
end Tp
namespace Tp
open PySem PySem.Spec PyProof.Rows L2 He
/-- kinds as the book holds them -/
abbrev kU (z : Str) : Str × V := (z, V.str "unsure")
/-- since H0: the source, the book's kinds and thirsts, the three lists may have changed -/
structure Hv (C : Addr) (H0 H : Hp) (S L b So Wa Th : Addr) (A : Bk) (ss ws : List Str) (t : List (Str × Str)) (ts : List V) : Prop where
  x : Ext [S, A.dk, A.lt, So, Wa, Th] H0 H
  s : SrcAt H S L
  B : BookAt C H b 24 A (ss.map kU) ts [] [] [] []
  D : PT H ts t
  so : H So = some (.lst (ss.map V.str))
  wa : H Wa = some (.lst (ws.map V.str))
  th : RowAt H Th t
  f : ∀ y ∈ A.all b, y ≠ S ∧ y ≠ L ∧ y ≠ So ∧ y ≠ Wa ∧ y ≠ Th
  g : ∀ y ∈ [So, Wa, Th], y ≠ S ∧ y ≠ L
  m : So ≠ Wa ∧ So ≠ Th ∧ Wa ≠ Th
section
variable {C : Addr} {H0 H H' : Hp} {S L b So Wa Th : Addr} {A : Bk} {ss ws : List Str} {t : List (Str × Str)} {ts : List V}
theorem Hv.draw (j : Hv C H0 H S L b So Wa Th A ss ws t ts) (x : Ext [S] H H') (s : SrcAt H' S L) : Hv C H0 H' S L b So Wa Th A ss ws t ts := by
  have g1 := j.g So (by simp)
  have g2 := j.g Wa (by simp)
  have g3 := j.g Th (by simp)
  exact ⟨j.x.trans (x.mono fun y h => by simp at h; simp [h]), s, j.B.ext x fun y hy => by simpa using (j.f y hy).1, j.D.ext x, x.keep _ _ j.so (by simpa using g1.1), x.keep _ _ j.wa (by simpa using g2.1), j.th.ext x (by simpa using g3.1), j.f, j.g, j.m⟩
theorem Hv.grow (j : Hv C H0 H S L b So Wa Th A ss ws t ts) (x : Ext [] H H') : Hv C H0 H' S L b So Wa Th A ss ws t ts := j.draw x.nil (j.s.ext x)
/-- the next waiting name is a kind from now on -/
theorem Hv.kind (j : Hv C H0 H S L b So Wa Th A ss ws t ts) {z : Str} {ws' : List Str} (x : Ext [So, Wa, A.dk] H H') (so : H' So = some (.lst ((ss ++ [z]).map V.str))) (wa : H' Wa = some (.lst (ws'.map V.str))) (B : BookAt C H' b 24 A ((ss ++ [z]).map kU) ts [] [] [] []) : Hv C H0 H' S L b So Wa Th A (ss ++ [z]) ws' t ts := by
  have fk := j.f A.dk (by simp)
  have g1 := j.g So (by simp)
  have g2 := j.g Wa (by simp)
  have g3 := j.g Th (by simp)
  refine ⟨j.x.trans (x.mono fun y h => by simp at h; rcases h with h | h | h <;> simp [h]), j.s.keepM x ?_ ?_, B, j.D.ext x, so, wa, j.th.ext x ?_, j.f, j.g, j.m⟩
  · simp only [List.mem_cons, List.not_mem_nil, or_false, not_or]
    exact ⟨Ne.symm g1.1, Ne.symm g2.1, Ne.symm fk.1⟩
  · simp only [List.mem_cons, List.not_mem_nil, or_false, not_or]
    exact ⟨Ne.symm g1.2, Ne.symm g2.2, Ne.symm fk.2.1⟩
  · simp only [List.mem_cons, List.not_mem_nil, or_false, not_or]
    exact ⟨Ne.symm j.m.2.1, Ne.symm j.m.2.2, Ne.symm fk.2.2.2.2⟩
/-- one thirst more, told in the list and in the book -/
theorem Hv.thirst (j : Hv C H0 H S L b So Wa Th A ss ws t ts) {u : Addr} {q : Str × Str} (x : Ext [Th, A.lt] H H') (th : RowAt H' Th (t ++ [q])) (hu : H' u = some (.tup [.str q.1, .str q.2])) (B : BookAt C H' b 24 A (ss.map kU) (ts ++ [.ref u]) [] [] [] []) : Hv C H0 H' S L b So Wa Th A ss ws (t ++ [q]) (ts ++ [.ref u]) := by
  have fl := j.f A.lt (by simp)
  have g3 := j.g Th (by simp)
  refine ⟨j.x.trans (x.mono fun y h => by simp at h; rcases h with h | h <;> simp [h]), j.s.keepM x ?_ ?_, B, (j.D.ext x).snoc hu, x.keep _ _ j.so ?_, x.keep _ _ j.wa ?_, th, j.f, j.g, j.m⟩
  · simp only [List.mem_cons, List.not_mem_nil, or_false, not_or]
    exact ⟨Ne.symm g3.1, Ne.symm fl.1⟩
  · simp only [List.mem_cons, List.not_mem_nil, or_false, not_or]
    exact ⟨Ne.symm g3.2, Ne.symm fl.2.1⟩
  · simp only [List.mem_cons, List.not_mem_nil, or_false, not_or]
    exact ⟨j.m.2.1, Ne.symm fl.2.2.1⟩
  · simp only [List.mem_cons, List.not_mem_nil, or_false, not_or]
    exact ⟨j.m.2.2, Ne.symm fl.2.2.2.1⟩
end
end Tp
namespace Tp
open PySem PySem.Spec PyProof.Rows L2 He
theorem cut_take {xs : List V} {k : Nat} (h : k ≤ xs.length) : cutV xs none (some (k : Int)) = xs.take k := by
  have e : HT.sIx xs.length xs.length (some (k : Int)) = k := by
    rw [HT.sIx_nat]
    omega
  unfold cutV
  rw [e]
  show (xs.drop 0).take (k - 0) = _
  simp
end Tp
namespace Tp
open PySem PySem.Spec PyProof.Rows L2 He
/-- two lists of a text and a value: equal -/
theorem two_eqv {K : PySem.W.Frag} {a b : Addr} {s : Str} {v : V} {H : Hp} (hs : okS s) (hw : Wv H v) (ha : H a = some (.lst [.str s, v])) (hb : H b = some (.lst [.str s, v])) : ∃ d, Dp K H (.ref a) d ∧ Dp K H (.ref b) d ∧ SeqAt.shaped d = true := by
  obtain ⟨d, d1, d2, _⟩ := hw
  have sh : SeqAt.shaped (.list [.str s, d]) = true := shapedL (n := 8) (by
    intro x hx
    simp at hx
    rcases hx with rfl | rfl
    · exact ⟨(okD.str hs).1, by simp [PyData.depth]⟩
    · exact d2) (by decide)
  exact ⟨.list [.str s, d], .lst (SqL.of ha) (ImAll.cons (.str s) (.cons d1 .nil)).dp, .lst (SqL.of hb) (ImAll.cons (.str s) (.cons d1 .nil)).dp, sh⟩
theorem ne2 {K : PySem.W.Frag} {a b : Addr} {s : Str} {v : V} {H : Hp} {Q : VK} (hs : okS s) (hw : Wv H v) (ha : H a = some (.lst [.str s, v])) (hb : H b = some (.lst [.str s, v])) (q : Q (.bl false) H) : rNeD K (.ref a) (.ref b) H Q := by
  obtain ⟨d, h1, h2, sh⟩ := two_eqv (K := K) hs hw ha hb
  exact ⟨d, d, h1, h2, sh, sh, by rw [eqv_self sh]; exact q⟩
end Tp
namespace Tp
open PySem PySem.Spec PyProof.Rows L2 He
end Tp
namespace Tp
open PySem PySem.Spec PyProof.Rows L2 He
end Tp
/-! Fx: facts, comparisons, what is told to be there -/
namespace Tp
open PySem PySem.Spec PyProof.Rows L2 He
abbrev Am := Str × Nat
/-- a fact about two amounts, or about one -/
inductive Fk where
  | tell (x y : Am)
  | some (x : Am)
  deriving DecidableEq
abbrev dFk : Fk → PyData
  | .tell x y => .tuple [.str "tell", dAmt x, dAmt y]
  | .some x => .tuple [.str "some", dAmt x]
def isFk (H : Hp) (u : Addr) : Fk → Prop
  | .tell x y => ∃ a b, H u = Option.some (.tup [.str "tell", .ref a, .ref b]) ∧ isAmt H a x ∧ isAmt H b y
  | .some x => ∃ a, H u = Option.some (.tup [.str "some", .ref a]) ∧ isAmt H a x
theorem isFk.ext {ms : List Addr} {H H' : Hp} {u : Addr} {f : Fk} (h : isFk H u f) (e : Ext ms H H') : isFk H' u f := by
  cases f with
  | tell x y =>
    obtain ⟨a, b, h1, h2, h3⟩ := h
    exact ⟨a, b, e.tups _ _ h1, e.tups _ _ h2, e.tups _ _ h3⟩
  | some x =>
    obtain ⟨a, h1, h2⟩ := h
    exact ⟨a, e.tups _ _ h1, e.tups _ _ h2⟩
theorem isFk.im {H : Hp} {u : Addr} {f : Fk} (h : isFk H u f) : Im H (.ref u) (dFk f) := by
  cases f with
  | tell x y =>
    obtain ⟨a, b, h1, h2, h3⟩ := h
    exact .tup h1 (.cons (.str _) (.cons h2.im (.cons h3.im .nil)))
  | some x =>
    obtain ⟨a, h1, h2⟩ := h
    exact .tup h1 (.cons (.str _) (.cons h2.im .nil))
section
variable {α β : Type} {F G : α → β → Prop}
theorem pairedG_mono (h : ∀ a b, F a b → G a b) : ∀ {as : List α} {bs : List β}, Paired F as bs → Paired G as bs
  | _, _, .nil => .nil
  | _, _, .cons x r => .cons (h _ _ x) (pairedG_mono h r)
theorem pairedG_len : ∀ {as : List α} {bs : List β}, Paired F as bs → as.length = bs.length
  | _, _, .nil => rfl
  | _, _, .cons _ r => by simp [pairedG_len r]
theorem pairedG_one {a : α} {b : β} (h : F a b) : Paired F [a] [b] := .cons h .nil
end
/-- values that are these facts -/
def FL (H : Hp) (vs : List V) (fs : List Fk) : Prop := ∃ as : List Addr, vs = as.map V.ref ∧ Paired (isFk H) as fs
theorem FL.nil {H : Hp} : FL H [] [] := ⟨[], rfl, .nil⟩
theorem FL.ext {ms : List Addr} {H H' : Hp} {vs : List V} {fs : List Fk} (h : FL H vs fs) (e : Ext ms H H') : FL H' vs fs := by
  obtain ⟨as, h1, h2⟩ := h
  exact ⟨as, h1, pairedG_mono (fun a b h => h.ext e) h2⟩
theorem FL.len {H : Hp} {vs : List V} {fs : List Fk} (h : FL H vs fs) : vs.length = fs.length := by
  obtain ⟨as, rfl, h2⟩ := h
  rw [List.length_map, pairedG_len h2]
theorem FL.snoc {H : Hp} {vs : List V} {fs : List Fk} {u : Addr} {f : Fk} (h : FL H vs fs) (hu : isFk H u f) : FL H (vs ++ [.ref u]) (fs ++ [f]) := by
  obtain ⟨as, rfl, h2⟩ := h
  exact ⟨as ++ [u], by rw [List.map_append]; rfl, paired_app h2 (pairedG_one hu)⟩
theorem FL.get {H : Hp} {vs : List V} {fs : List Fk} {i : Nat} {v : V} (h : FL H vs fs) (e : vs[i]? = Option.some v) : ∃ u f, v = .ref u ∧ fs[i]? = Option.some f ∧ isFk H u f := by
  obtain ⟨as, rfl, h2⟩ := h
  rw [List.getElem?_map] at e
  obtain ⟨u, hu, rfl⟩ := Option.map_eq_some_iff.mp e
  obtain ⟨f, hf, hF⟩ := paired_atG h2 hu
  exact ⟨u, f, rfl, hf, hF⟩
theorem fk_im {H : Hp} : ∀ {as : List Addr} {fs : List Fk}, Paired (isFk H) as fs → ImAll H (as.map V.ref) (fs.map dFk)
  | _, _, .nil => .nil
  | _, _, .cons x r => .cons x.im (fk_im r)
theorem FL.dp {K : PySem.W.Frag} {H : Hp} {l : Addr} {vs : List V} {fs : List Fk} (h : FL H vs fs) (hl : H l = Option.some (.lst vs)) : Dp K H (.ref l) (.list (fs.map dFk)) := by
  obtain ⟨as, rfl, h2⟩ := h
  exact .lst (SqL.of hl) (fk_im h2).dp
def okF : Fk → Prop
  | .tell x y => okS x.1 ∧ okS y.1
  | .some x => okS x.1
theorem okS_tell : okS ("tell" : Str) := by decide +kernel
theorem okS_some : okS ("some" : Str) := by decide +kernel
theorem okD_amt_le {q : Am} (h : okS q.1) : (dAmt q).depth ≤ 2 := by simp [dAmt, PyData.depth, PyData.depthAll]
theorem okD_fk {f : Fk} (h : okF f) : okD (dFk f) := by
  cases f with
  | tell x y =>
    refine okD.tup (n := 3) ?_ (by decide)
    intro d hd
    simp only [List.mem_cons, List.not_mem_nil, or_false] at hd
    rcases hd with rfl | rfl | rfl
    · exact ⟨(okD.str okS_tell).1, by simp [PyData.depth]⟩
    · exact ⟨(okD_amt h.1).1, by have := okD_amt_le h.1; omega⟩
    · exact ⟨(okD_amt h.2).1, by have := okD_amt_le h.2; omega⟩
  | some x =>
    refine okD.tup (n := 3) ?_ (by decide)
    intro d hd
    simp only [List.mem_cons, List.not_mem_nil, or_false] at hd
    rcases hd with rfl | rfl
    · exact ⟨(okD.str okS_some).1, by simp [PyData.depth]⟩
    · exact ⟨(okD_amt h).1, by have := okD_amt_le h; omega⟩
theorem sh_fk {fs : List Fk} (h : ∀ f ∈ fs, okF f) : SeqAt.shaped (.list (fs.map dFk)) = true := shapedL (n := 8) (by
  intro x hx
  obtain ⟨f, hf, rfl⟩ := List.mem_map.mp hx
  exact okD_fk (h f hf)) (by decide)
theorem eqv_amt {p q : Am} : PyData.eqv (dAmt p) (dAmt q) = decide (p = q) := by
  rw [Bool.eq_iff_iff]
  obtain ⟨a, b⟩ := p
  obtain ⟨c, d⟩ := q
  simp [dAmt, PyData.eqv, PyData.eqvAll]
  intro _
  omega
theorem any_amt {t : List Am} {q : Am} : ((t.map dAmt).any fun z => PyData.eqv z (dAmt q)) = decide (q ∈ t) := by
  rw [Bool.eq_iff_iff, List.any_eq_true, decide_eq_true_eq]
  constructor
  · rintro ⟨x, hx, h⟩
    obtain ⟨p, hp, rfl⟩ := List.mem_map.mp hx
    rw [eqv_amt] at h
    rw [← of_decide_eq_true h]
    exact hp
  · intro h
    exact ⟨_, List.mem_map.mpr ⟨q, h, rfl⟩, by rw [eqv_amt]; simp⟩
theorem sh_amts {xs : List Am} (h : ∀ q ∈ xs, okS q.1) : SeqAt.shaped (.list (xs.map dAmt)) = true := shapedL (n := 8) (by
  intro x hx
  obtain ⟨q, hq, rfl⟩ := List.mem_map.mp hx
  exact okD_amt (h q hq)) (by decide)
theorem amts_im {H : Hp} : ∀ {as : List Addr} {l : List Am}, Paired (isAmt H) as l → ImAll H (as.map V.ref) (l.map dAmt)
  | _, _, .nil => .nil
  | _, _, .cons x r => .cons (isAmt.im x) (amts_im r)
theorem AmtAt.dp {K : PySem.W.Frag} {H : Hp} {l : Addr} {xs : List Am} (h : AmtAt H l xs) : Dp K H (.ref l) (.list (xs.map dAmt)) := by
  obtain ⟨as, h1, h2⟩ := h
  exact .lst (SqL.of h1) (amts_im h2).dp
/-- a pair of amounts -/
abbrev Pa := Am × Am
abbrev dPr (q : Pa) : PyData := .tuple [dAmt q.1, dAmt q.2]
def isPr (H : Hp) (u : Addr) (q : Pa) : Prop := ∃ a b, H u = Option.some (.tup [.ref a, .ref b]) ∧ isAmt H a q.1 ∧ isAmt H b q.2
theorem isPr.ext {ms : List Addr} {H H' : Hp} {u : Addr} {q : Pa} (h : isPr H u q) (e : Ext ms H H') : isPr H' u q := by
  obtain ⟨a, b, h1, h2, h3⟩ := h
  exact ⟨a, b, e.tups _ _ h1, e.tups _ _ h2, e.tups _ _ h3⟩
theorem isPr.im {H : Hp} {u : Addr} {q : Pa} (h : isPr H u q) : Im H (.ref u) (dPr q) := by
  obtain ⟨a, b, h1, h2, h3⟩ := h
  exact .tup h1 (.cons h2.im (.cons h3.im .nil))
def PrL (H : Hp) (vs : List V) (xs : List Pa) : Prop := ∃ as : List Addr, vs = as.map V.ref ∧ Paired (isPr H) as xs
theorem PrL.nil {H : Hp} : PrL H [] [] := ⟨[], rfl, .nil⟩
theorem PrL.ext {ms : List Addr} {H H' : Hp} {vs : List V} {xs : List Pa} (h : PrL H vs xs) (e : Ext ms H H') : PrL H' vs xs := by
  obtain ⟨as, h1, h2⟩ := h
  exact ⟨as, h1, pairedG_mono (fun a b h => h.ext e) h2⟩
theorem PrL.len {H : Hp} {vs : List V} {xs : List Pa} (h : PrL H vs xs) : vs.length = xs.length := by
  obtain ⟨as, rfl, h2⟩ := h
  rw [List.length_map, pairedG_len h2]
theorem PrL.app {H : Hp} {vs ws : List V} {xs ys : List Pa} (h : PrL H vs xs) (h2 : PrL H ws ys) : PrL H (vs ++ ws) (xs ++ ys) := by
  obtain ⟨as, rfl, p1⟩ := h
  obtain ⟨bs, rfl, p2⟩ := h2
  exact ⟨as ++ bs, by rw [List.map_append], paired_app p1 p2⟩
theorem PrL.one {H : Hp} {u : Addr} {q : Pa} (h : isPr H u q) : PrL H [.ref u] [q] := ⟨[u], rfl, pairedG_one h⟩
theorem PrL.get {H : Hp} {vs : List V} {xs : List Pa} {i : Nat} {v : V} (h : PrL H vs xs) (e : vs[i]? = Option.some v) : ∃ u f, v = .ref u ∧ xs[i]? = Option.some f ∧ isPr H u f := by
  obtain ⟨as, rfl, h2⟩ := h
  rw [List.getElem?_map] at e
  obtain ⟨u, hu, rfl⟩ := Option.map_eq_some_iff.mp e
  obtain ⟨f, hf, hF⟩ := paired_atG h2 hu
  exact ⟨u, f, rfl, hf, hF⟩
theorem pr_im {H : Hp} : ∀ {as : List Addr} {xs : List Pa}, Paired (isPr H) as xs → ImAll H (as.map V.ref) (xs.map dPr)
  | _, _, .nil => .nil
  | _, _, .cons x r => .cons x.im (pr_im r)
theorem PrL.dp {K : PySem.W.Frag} {H : Hp} {l : Addr} {vs : List V} {xs : List Pa} (h : PrL H vs xs) (hl : H l = Option.some (.lst vs)) : Dp K H (.ref l) (.list (xs.map dPr)) := by
  obtain ⟨as, rfl, h2⟩ := h
  exact .lst (SqL.of hl) (pr_im h2).dp
/-- a list of pairs of amounts -/
def PrAt (H : Hp) (l : Addr) (xs : List Pa) : Prop := ∃ vs, H l = Option.some (.lst vs) ∧ PrL H vs xs
theorem PrAt.ext {ms : List Addr} {H H' : Hp} {l : Addr} {xs : List Pa} (h : PrAt H l xs) (e : Ext ms H H') (hl : l ∉ ms) : PrAt H' l xs := by
  obtain ⟨vs, h1, h2⟩ := h
  exact ⟨vs, e.keep _ _ h1 hl, h2.ext e⟩
theorem PrAt.dp {K : PySem.W.Frag} {H : Hp} {l : Addr} {xs : List Pa} (h : PrAt H l xs) : Dp K H (.ref l) (.list (xs.map dPr)) := by
  obtain ⟨vs, h1, h2⟩ := h
  exact h2.dp h1
end Tp
namespace Tp
open PySem PySem.Spec PyProof.Rows L2 He
/-- at least as thirsty as -/
noncomputable def thB (t : List (Str × Str)) (x y : Str) : Bool := @decide (Reach t x y) (Classical.propDecidable _)
theorem thB_iff {t : List (Str × Str)} {x y : Str} : thB t x y = true ↔ Reach t x y := by
  unfold thB
  exact @decide_eq_true_iff _ (Classical.propDecidable _)
/-- an amount's number is a dip's -/
theorem amtD_lt {k c d : List (Str × Str)} : ∀ n, ∀ q ∈ amtD k c d n, q.2 < n
  | 0, q, h => by cases h
  | n + 1, q, h => by
    have h' : q ∈ (amtD k c d n ++ [(("take" : Str), n)]) ++ (if leaveD k c d n = true then [(("leave" : Str), n)] else []) := h
    rcases List.mem_append.mp h' with h | h
    · rcases List.mem_append.mp h with h | h
      · have := amtD_lt n q h; omega
      · simp at h; subst h; exact Nat.lt_succ_self n
    · split at h
      · simp at h; subst h; exact Nat.lt_succ_self n
      · cases h
end Tp
namespace Tp
open PySem PySem.Spec PyProof.Rows L2 He
/-- what is reached from x, so far -/
structure RchI (k t : List (Str × Str)) (x : Str) (rs : List Str) : Prop where
  nd : rs.Nodup
  hx : x ∈ rs
  rc : ∀ z ∈ rs, Reach t x z
  sub : ∀ z ∈ rs, z ∈ k.map (·.1)
def RchC (t : List (Str × Str)) (rs : List Str) : Prop := ∀ q ∈ t, q.1 ∈ rs → q.2 ∈ rs
/-- j items of a pass that began with rs -/
def RchJ (t : List (Str × Str)) (rs ws : List Str) (j : Nat) : Prop := (ws = rs ∧ ∀ q ∈ t.take j, q.1 ∈ rs → q.2 ∈ rs) ∨ (rs.length + 1 ≤ ws.length ∧ ¬ RchC t rs)
section
variable {k t : List (Str × Str)} {x : Str} {rs ws : List Str}
theorem RchI.start (hx : x ∈ k.map (·.1)) : RchI k t x [x] := ⟨by simp, by simp, fun z hz => by simp at hz; rw [hz]; exact .refl _, fun z hz => by simp at hz; rw [hz]; exact hx⟩
theorem RchI.le (R : RchI k t x rs) : rs.length ≤ k.length := by
  have := nodup_le R.nd R.sub
  rw [List.length_map] at this
  exact this
theorem RchJ.done (J : RchJ t rs ws t.length) {i : Nat} (hc : RchC t rs ∨ i + 1 ≤ rs.length) : RchC t ws ∨ i + 1 + 1 ≤ ws.length := by
  rcases J with ⟨rfl, h⟩ | ⟨h1, h2⟩
  · exact .inl fun q hq => h q (by rw [List.take_of_length_le (Nat.le_refl _)]; exact hq)
  · rcases hc with hc | hc
    · exact absurd hc h2
    · exact .inr (by omega)
theorem RchI.fin (R : RchI k t x rs) (hc : RchC t rs ∨ k.length + 1 ≤ rs.length) (y : Str) : y ∈ rs ↔ thB t x y = true := by
  have hc' : RchC t rs := by
    rcases hc with h | h
    · exact h
    · have := R.le
      omega
  rw [thB_iff]
  exact ⟨R.rc y, fun h => reach_in R.hx (fun z hz z' hzz => hc' (z, z') hzz hz) h⟩
end
end Tp
namespace Tp
open PySem PySem.Spec PyProof.Rows L2 He
theorem flat_strs : ∀ {zs : List Str}, (zs.map V.str).all flatV = true
  | [] => rfl
  | z :: zs => flat_strs (zs := zs)
section
variable {K : PySem.W.Frag} {σ : L2.St} {H : Hp} {ta tb : TE} {l : Addr} {zs : List Str} {z : Str} {t u : TT} {a b : Bool}
end
end Tp
namespace Tp
open PySem PySem.Spec PyProof.Rows L2 He
section
variable {H : Hp} {F u u1 u2 u3 : Addr} {vs ws : List V} {xs : List Pa} {q : Pa}
theorem ext_lst (hF : H F = some (.lst vs)) : Ext [F] H (upd H F (.lst ws)) := Ext.refl.mut (by simp) fun xs z => by rw [hF] at z; cases z
theorem PrL.push (P : PrL H vs xs) (hF : H F = some (.lst vs)) (hu : isPr H u q) : PrL (upd H F (.lst (vs ++ [.ref u]))) (vs ++ [.ref u]) (xs ++ [q]) :=
  (P.ext (ext_lst hF)).app (PrL.one (hu.ext (ext_lst hF)))
end
end Tp
namespace Tp
open PySem PySem.Spec PyProof.Rows L2 He
theorem AmtAt.pushU {H : Hp} {r t : Addr} {l : List Am} {xs : List V} {q : Am} (h : AmtAt H r l) (hxs : H r = some (.lst xs)) (ht : isAmt H t q) : AmtAt (upd H r (.lst (xs ++ [.ref t]))) r (l ++ [q]) := by
  obtain ⟨as, h1, h2⟩ := h
  rw [h1] at hxs
  cases hxs
  have e : Ext [r] H (upd H r (.lst (as.map V.ref ++ [.ref t]))) := ext_lst h1
  refine ⟨as ++ [t], by rw [upd_same, List.map_append]; rfl, amt_snoc ?_ (amt_ext e h2)⟩
  exact e.tups _ _ ht
end Tp
namespace Tp
open PySem PySem.Spec PyProof.Rows L2 He
end Tp
namespace Tp
theorem filter_snoc {α : Type} {p : α → Bool} {l : List α} {a : α} : (l ++ [a]).filter p = l.filter p ++ (if p a = true then [a] else []) := by
  rw [List.filter_append]
  by_cases h : p a = true <;> simp [h]
end Tp
namespace Tp
open PySem PySem.Spec PyProof.Rows L2 He
/-- data whose texts, and those of its items, are short -/
def Av (H : Hp) (v : V) (d : PyData) : Prop := Im H v d ∧ okD d ∧ shortV v ∧ ∀ u xs, v = .ref u → H u = some (.tup xs) → ∀ x ∈ xs, shortV x
theorem Av.wv {H : Hp} {v : V} {d : PyData} (h : Av H v d) : Wv H v := ⟨d, h.1, h.2.1, h.2.2.1⟩
theorem Av.ext {ms : List Addr} {H H' : Hp} {v : V} {d : PyData} (h : Av H v d) (e : Ext ms H H') : Av H' v d := by
  refine ⟨h.1.ext e, h.2.1, h.2.2.1, fun u xs hv hx => ?_⟩
  have h1 := h.1
  subst hv
  cases h1 with
  | tup h2 h3 =>
    have e2 := e.tups _ _ h2
    rw [e2] at hx
    cases hx
    exact h.2.2.2 _ _ rfl h2
theorem short_amt {w : Str} (h : w = "take" ∨ w = "leave") : w.length ≤ 1000 := by
  rcases h with rfl | rfl <;> decide +kernel
theorem Av.amt {H : Hp} {u : Addr} {q : Am} (h : isAmt H u q) (hw : q.1 = "take" ∨ q.1 = "leave") : Av H (.ref u) (dAmt q) := by
  refine ⟨isAmt.im h, okD_amt (by rcases hw with e | e <;> rw [e] <;> decide +kernel), trivial, fun u' xs hv hx => ?_⟩
  cases hv
  rw [show H u = some (.tup [.str q.1, .int (q.2 : Int)]) from h] at hx
  cases hx
  intro x hx
  simp only [List.mem_cons, List.not_mem_nil, or_false] at hx
  rcases hx with rfl | rfl
  · exact short_amt hw
  · trivial
theorem amtD_word {k c d : List (Str × Str)} : ∀ n, ∀ q ∈ amtD k c d n, q.1 = "take" ∨ q.1 = "leave"
  | 0, _, h => by cases h
  | n + 1, q, h => by
    have h' : q ∈ (amtD k c d n ++ [(("take" : Str), n)]) ++ (if leaveD k c d n = true then [(("leave" : Str), n)] else []) := h
    rcases List.mem_append.mp h' with h | h
    · rcases List.mem_append.mp h with h | h
      · exact amtD_word n q h
      · simp at h; subst h; exact .inl rfl
    · split at h
      · simp at h; subst h; exact .inr rfl
      · cases h
/-- an amount, of whatever book -/
def amtB : PyData → Bool
  | .tuple [.str w, .int n] => (decide (w = "take") || decide (w = "leave")) && decide (0 ≤ n)
  | _ => false
/-- one of these amounts -/
def ownD (xs : List Am) : PyData → Bool
  | .tuple [.str w, .int n] => decide (0 ≤ n) && decide ((w, n.toNat) ∈ xs)
  | _ => false
theorem ownD_eq {xs : List Am} (hx : ∀ q ∈ xs, q.1 = "take" ∨ q.1 = "leave") {d : PyData} : ownD xs d = (amtB d && (xs.map dAmt).any fun z => PyData.eqv z d) := by
  unfold ownD amtB
  split
  · rename_i w n
    by_cases hn : 0 ≤ n
    · have e : PyData.tuple [.str w, .int n] = dAmt (w, n.toNat) := by
        show _ = PyData.tuple [.str w, .int ((n.toNat : Nat) : Int)]
        rw [Int.toNat_of_nonneg hn]
      rw [e, any_amt, decide_eq_true hn, Bool.true_and, Bool.and_true]
      by_cases hm : (w, n.toNat) ∈ xs
      · rw [decide_eq_true hm]
        rcases hx _ hm with h | h
        · have h' : w = "take" := h
          rw [decide_eq_true h', Bool.true_or, Bool.true_and]
        · have h' : w = "leave" := h
          rw [decide_eq_true h', Bool.or_true, Bool.true_and]
      · rw [decide_eq_false hm, Bool.and_false]
    · rw [decide_eq_false hn, Bool.false_and, Bool.and_false, Bool.false_and]
  · rfl
theorem ownD_amt {xs : List Am} {q : Am} : ownD xs (dAmt q) = decide (q ∈ xs) := by
  show (decide (0 ≤ ((q.2 : Nat) : Int)) && decide ((q.1, ((q.2 : Nat) : Int).toNat) ∈ xs)) = _
  rw [decide_eq_true (Int.natCast_nonneg _), Bool.true_and, Int.toNat_natCast]
theorem Leaves.grow {K : PySem.W.Frag} {E : XK} {C : Addr} {v : V} {H H1 : Hp} (h : Leaves K E C v H) (e : Ext [] H H1) : Leaves K E C v H1 := fun d H' hd e2 hx => h d H' (e.none hd (by simp)) (e.trans e2) hx
theorem okS_wd {q : Str} (h : q = "take" ∨ q = "leave") : okS q := by rcases h with rfl | rfl <;> decide +kernel
theorem amtB_ne {ds : List PyData} (h : ds.length ≠ 2) : amtB (.tuple ds) = false := by
  unfold amtB
  split
  · rename_i w n heq
    injection heq with h1
    rw [h1] at h
    exact absurd rfl h
  · rfl
def wordV : V → Bool
  | .str w => decide (w = "take") || decide (w = "leave")
  | _ => false
theorem words_any {H : Hp} {x : V} {d : PyData} (h : Im H x d) : ([PyData.str "take", PyData.str "leave"].any fun z => PyData.eqv z d) = wordV x := by
  cases h with
  | str w =>
    show (PyData.eqv (.str "take") (.str w) || (PyData.eqv (.str "leave") (.str w) || false)) = (decide (w = "take") || decide (w = "leave"))
    have e : ∀ a : Str, PyData.eqv (.str a) (.str w) = decide (w = a) := fun a => by
      rw [PyData.eqv, Bool.eq_iff_iff, beq_iff_eq, decide_eq_true_eq]
      exact eq_comm
    rw [e, e, Bool.or_false]
  | non => simp [PyData.eqv, wordV]
  | bl b => simp [PyData.eqv, wordV]
  | int i => simp [PyData.eqv, wordV]
  | tup _ _ => simp [PyData.eqv, wordV]
theorem item_ok {ds : List PyData} {d : PyData} (h : okD (.tuple ds)) (hd : d ∈ ds) : okD d := by
  refine ⟨?_, ?_⟩
  · have h1 := h.1
    rw [PyData.canLay0] at h1
    exact canLayAll_iff.mp h1 d hd
  · have h2 := h.2
    rw [PyData.depth] at h2
    have h3 : ∀ {ds : List PyData}, d ∈ ds → d.depth ≤ PyData.depthAll ds := by
      intro ds
      induction ds with
      | nil => intro h; cases h
      | cons a ds ih =>
        intro h
        rw [PyData.depthAll]
        rcases List.mem_cons.mp h with rfl | h
        · exact Nat.le_max_left _ _
        · exact Nat.le_trans (ih h) (Nat.le_max_right _ _)
    have := h3 hd
    omega
section
variable {C : Addr} {H : Hp} {p : Addr} {b : Int} {A : Bk} {ks cs : List (Str × V)} {ts ds fs : List V} {ps : List Str}
theorem BookAt.setF (B : BookAt C H p b A ks ts ps cs ds fs) (fs' : List V) : BookAt C (upd H A.lf (.lst fs')) p b A ks ts ps cs ds fs' := by
  have n := B.p_ne
  refine ⟨by rw [upd_ne n.2.2.2.2.2]; exact B.ob, ?_, by rw [upd_ne B.n3]; exact B.lt, by rw [upd_ne B.n5]; exact B.lp, ?_, by rw [upd_ne B.n6]; exact B.ld, upd_same, B.nk, B.n1, B.n2, B.n3, B.n4, B.n5, B.n6⟩
  · rw [upd_ne (fun h => by have := B.dk; rw [h, B.lf] at this; cases this)]; exact B.dk
  · rw [upd_ne (fun h => by have := B.dc; rw [h, B.lf] at this; cases this)]; exact B.dc
end
theorem fsB_no3 {b : Int} {A : Bk} {m : Str} (h : m = "facts" ∨ m = "tell" ∨ m = "tell_some" ∨ m = "_check_own" ∨ m = "thirsts") : (fsB b A).lookup m = none := by
  rcases h with rfl | rfl | rfl | rfl | rfl <;> rfl
end Tp
namespace Tp
open PySem PySem.Spec PyProof.Rows L2 He
end Tp
/-! Li: list(o), o of a class with its own __iter__ (a list's iterator) and its own __len__ -/
namespace Tp
open PySem PySem.Spec PyProof.Rows L2 He
section
variable {X : Cx} {pins : List (Addr × Obj)} {σ : L2.St} {it l q : Addr} {A1 : Around} {zs : List V} {H0 : Hp} {Rs : Result → Shared → Prop}
end
section
variable {M : Model} {A : Around} {E : Value → Shared → Prop} {s : Shared} {K : PySem.W.Frag} {C a fl : Addr} {ox : Obj} {od : Option Obj} {Q : Bool → Shared → Prop}
end
end Tp
namespace Tp
open PySem PySem.Spec PyProof.Rows L2 He
/-- nothing leaves -/
abbrev never : XK := fun _ _ _ => False
section
variable {X : Cx} {k : Nat} {C g gl : Addr} {fd fdl : FuncData} {ps psl : List Str} {sp : Nat → Sp} {spl : Sp}
end
end Tp
namespace Tp
open PySem PySem.Spec PyProof.Rows L2 He
end Tp
namespace Tp
open PySem PySem.Spec PyProof.Rows L2 He
/-- a book and what stands in it -/
structure BkI (C : Addr) (H : Hp) (p : Addr) (i : Int) (A : Bk) (k t : List (Str × Str)) (ps : List Str) (c d : List (Str × Str)) (fs : List Fk) (ts ds us : List V) : Prop where
  B : BookAt C H p i A (k.map tv) ts ps (c.map tv) ds us
  T : PT H ts t
  D : PT H ds d
  F : FL H us fs
  G : Kept k c d
  nl : ∀ z, z ∈ k.map (·.1) ∨ z ∈ c.map (·.1) → z.length ≤ 1000
  dl : d.length ≤ 100
  fl : fs.length ≤ 1000
  tl : t.length ≤ 1000
  fo : ∀ f ∈ fs, okF f
theorem BkI.ext {C : Addr} {H H' : Hp} {p : Addr} {i : Int} {A : Bk} {k t : List (Str × Str)} {ps : List Str} {c d : List (Str × Str)} {fs : List Fk} {ts ds us : List V} (b : BkI C H p i A k t ps c d fs ts ds us) (e : Ext [] H H') : BkI C H' p i A k t ps c d fs ts ds us :=
  ⟨b.B.ext e fun _ _ => by simp, b.T.ext e, b.D.ext e, b.F.ext e, b.G, b.nl, b.dl, b.fl, b.tl, b.fo⟩
end Tp
/-! Fm: facts that are asked to be let, a model and its book with facts -/
namespace Tp
open PySem PySem.Spec PyProof.Rows L2 He
/-- a fact to be: its values and their data -/
inductive Gk where
  | tell (v w : V) (dv dw : PyData)
  | some (v : V) (dv : PyData)
def isGk (H : Hp) (u : Addr) : Gk → Prop
  | .tell v w dv dw => H u = Option.some (.tup [.str "tell", v, w]) ∧ Av H v dv ∧ Av H w dw
  | .some v dv => H u = Option.some (.tup [.str "some", v]) ∧ Av H v dv
theorem isGk.ext {ms : List Addr} {H H' : Hp} {u : Addr} {g : Gk} (h : isGk H u g) (e : Ext ms H H') : isGk H' u g := by
  cases g with
  | tell v w dv dw => exact ⟨e.tups _ _ h.1, h.2.1.ext e, h.2.2.ext e⟩
  | some v dv => exact ⟨e.tups _ _ h.1, h.2.ext e⟩
inductive Vd where
  | bad (v : V)
  | full
  | ok
def Gk.vd (xs : List Am) (n : Nat) : Gk → Vd
  | .tell v w dv dw => if ownD xs dv = false then .bad v else if ownD xs dw = false then .bad w else if 32 ≤ n then .full else .ok
  | .some v dv => if ownD xs dv = false then .bad v else if 32 ≤ n then .full else .ok
def amOf : PyData → Am
  | .tuple [.str w, .int n] => (w, n.toNat)
  | _ => (⟨#[]⟩, 0)
def Gk.fk : Gk → Fk
  | .tell _ _ dv dw => .tell (amOf dv) (amOf dw)
  | .some _ dv => .some (amOf dv)
end Tp
namespace Tp
open PySem PySem.Spec PyProof.Rows L2 He
section
variable {xs : List Am} {n : Nat} {v w : V} {dv dw : PyData}
end
/-- the answer to a fact that is asked to be let -/
def Told (Q : VK) (H : Hp) : Vd → Prop
  | .bad v => ∀ a H', H a = none → Ext [] H H' → H' a = some (.lst [.str "amount", v, .bl false]) → Q (.ref a) H'
  | .full => ∀ a H', H a = none → Ext [] H H' → H' a = some (.lst [.str "full", .int 32, .bl false]) → Q (.ref a) H'
  | .ok => True
end Tp
namespace Tp
open PySem PySem.Spec PyProof.Rows L2 He
def Gk.items : Gk → List (V × PyData)
  | .tell v w dv dw => [(v, dv), (w, dw)]
  | .some v dv => [(v, dv)]
def Gk.word : Gk → Str
  | .tell _ _ _ _ => "tell"
  | .some _ _ => "some"
theorem isGk.tup {H : Hp} {u : Addr} {g : Gk} (h : isGk H u g) : H u = some (.tup (.str g.word :: g.items.map (·.1))) := by
  cases g with
  | tell v w dv dw => exact h.1
  | some v dv => exact h.1
theorem isGk.av {H : Hp} {u : Addr} {g : Gk} (h : isGk H u g) : ∀ q ∈ g.items, Av H q.1 q.2 := by
  cases g with
  | tell v w dv dw =>
    intro q hq
    simp only [Gk.items, List.mem_cons, List.not_mem_nil, or_false] at hq
    rcases hq with rfl | rfl
    · exact h.2.1
    · exact h.2.2
  | some v dv =>
    intro q hq
    simp only [Gk.items, List.mem_cons, List.not_mem_nil, or_false] at hq
    subst hq
    exact h.2
theorem eqv_nil {ds : List PyData} : PyData.eqv (.list ds) (.list []) = decide (ds = []) := by
  rw [PyData.eqv]
  cases ds with
  | nil => rw [PyData.eqvAll]; rfl
  | cons a l => rw [PyData.eqvAll]; rfl
end Tp
namespace Tp
open PySem PySem.Spec PyProof.Rows L2 He
def AvL (H : Hp) (vs : List V) : Prop := ∀ v ∈ vs, ∃ d, Av H v d
theorem AvL.ext {ms : List Addr} {H H' : Hp} {vs : List V} (h : AvL H vs) (e : Ext ms H H') : AvL H' vs := fun v hv => by
  obtain ⟨d, hd⟩ := h v hv
  exact ⟨d, hd.ext e⟩
theorem AvL.snoc {H : Hp} {vs : List V} {v : V} {d : PyData} (h : AvL H vs) (hv : Av H v d) : AvL H (vs ++ [v]) := fun x hx => by
  rcases List.mem_append.mp hx with hx | hx
  · exact h x hx
  · simp at hx
    subst hx
    exact ⟨d, hv⟩
theorem Av.new {H : Hp} {u : Addr} {xs : List V} {ds : List PyData} (hi : ∀ G, ImAll G xs ds) (ok : okD (.tuple ds)) (sh : ∀ x ∈ xs, shortV x) : Av (upd H u (.tup xs)) (.ref u) (.tuple ds) := by
  refine ⟨.tup upd_same (hi _), ok, trivial, fun u' ys hv hx => ?_⟩
  cases hv
  rw [upd_same] at hx
  cases hx
  exact sh
theorem AvL.push {H : Hp} {vs : List V} {u : Addr} {xs : List V} {ds : List PyData} (h : AvL H vs) (hu : H u = none) (hi : ∀ G, ImAll G xs ds) (ok : okD (.tuple ds)) (sh : ∀ x ∈ xs, shortV x) : AvL (upd H u (.tup xs)) (vs ++ [.ref u]) :=
  (h.ext (ms := []) (Ext.new hu)).snoc (Av.new hi ok sh)
/-- texts, numbers, truth values, None -/
inductive Fl1 : V → PyData → Prop
  | non : Fl1 .non .none
  | bl (b : Bool) : Fl1 (.bl b) (.bool b)
  | int (i : Int) : Fl1 (.int i) (.int i)
  | str {z : Str} (h : okS z) (hl : z.length ≤ 1000) : Fl1 (.str z) (.str z)
theorem Fl1.im {v : V} {d : PyData} (h : Fl1 v d) (G : Hp) : Im G v d := by
  cases h with
  | non => exact .non
  | bl b => exact .bl b
  | int i => exact .int i
  | str _ _ => exact .str _
theorem Fl1.ok {v : V} {d : PyData} (h : Fl1 v d) : d.canLay0 = true ∧ d.depth ≤ 1 := by
  cases h with
  | non => exact ⟨okD.none.1, by simp [PyData.depth]⟩
  | bl b => exact ⟨okD.bool.1, by simp [PyData.depth]⟩
  | int i => exact ⟨okD.int.1, by simp [PyData.depth]⟩
  | str h hl => exact ⟨(okD.str h).1, by simp [PyData.depth]⟩
theorem Fl1.short {v : V} {d : PyData} (h : Fl1 v d) : shortV v := by
  cases h with
  | non => trivial
  | bl b => trivial
  | int i => trivial
  | str _ hl => exact hl
theorem Fl1.av {H : Hp} {v : V} {d : PyData} (h : Fl1 v d) : Av H v d := ⟨h.im H, ⟨h.ok.1, by have := h.ok.2; omega⟩, h.short, fun u xs hv _ => by cases h <;> cases hv⟩
end Tp
namespace Tp
open PySem PySem.Spec PyProof.Rows L2 He
section
variable {H H' : Hp} {a : Mad} {k t c d : List (Str × Str)} {p : List Str} {fs : List V}
theorem MdAt.setF5 (v : MdAt H a k t p c d fs) (gs : List V) : MdAt (upd H a.m5 (.lst gs)) a k t p c d gs := by
  have nd := v.nd
  simp only [Mad.all, List.nodup_cons, List.mem_cons, List.not_mem_nil, not_or, or_false] at nd
  obtain ⟨⟨n0, n1, n2, n3, n4, n5⟩, ⟨n01, n02, n03, n04, n05⟩, ⟨n12, n13, n14, n15⟩, ⟨n23, n24, n25⟩, ⟨n34, n35⟩, n45, _⟩ := nd
  have e : Ext [a.m5] H (upd H a.m5 (.lst gs)) := ext_lst v.r5
  exact ⟨v.nd, e.keep _ _ v.M (by simpa using n5), v.r0.ext e (by simpa using n05), v.r1.ext e (by simpa using n15), e.keep _ _ v.r2 (by simpa using n25), v.r3.ext e (by simpa using n35), v.r4.ext e (by simpa using n45), upd_same⟩
end
/-- a model, its book, the dips still to come: d, fs in the model, db, fb in the book -/
structure Lw (C : Addr) (H : Hp) (S L b md : Addr) (a : Mad) (A : Bk) (k t : List (Str × Str)) (p : List Str) (c d db rest : List (Str × Str)) (fs fb : List Fk) (ts ds us ms : List V) : Prop where
  s : SrcAt H S L
  M : MdAt H a k t p c d ms
  W : FL H ms fs
  B : BkI C H b 24 A k t p c db fb ts ds us
  R : RowAt H md rest
  f : ∀ y ∈ A.all b, y ≠ S ∧ y ≠ L ∧ y ≠ md ∧ y ∉ a.all
  g : ∀ y ∈ a.all, y ≠ S ∧ y ≠ L ∧ y ≠ md
  h : md ≠ S ∧ md ≠ L
section
variable {C : Addr} {H H' : Hp} {S L b md : Addr} {a : Mad} {A : Bk} {k t : List (Str × Str)} {p : List Str} {c d db rest : List (Str × Str)} {fs fb : List Fk} {ts ds us ms : List V}
theorem BkI.extM {ms : List Addr} {H H' : Hp} {p : Addr} {i : Int} {A : Bk} {k t : List (Str × Str)} {ps : List Str} {c d : List (Str × Str)} {fs : List Fk} {ts ds us : List V} (b : BkI C H p i A k t ps c d fs ts ds us) (e : Ext ms H H') (h : ∀ y ∈ A.all p, y ∉ ms) : BkI C H' p i A k t ps c d fs ts ds us :=
  ⟨b.B.ext e h, b.T.ext e, b.D.ext e, b.F.ext e, b.G, b.nl, b.dl, b.fl, b.tl, b.fo⟩
theorem Lw.draw (j : Lw C H S L b md a A k t p c d db rest fs fb ts ds us ms) (x : Ext [S] H H') (s : SrcAt H' S L) : Lw C H' S L b md a A k t p c d db rest fs fb ts ds us ms :=
  ⟨s, j.M.ext x fun y hy => by simpa using (j.g y hy).1, j.W.ext x, j.B.extM x fun y hy => by simpa using (j.f y hy).1, j.R.ext x (by simpa using j.h.1), j.f, j.g, j.h⟩
theorem Lw.grow (j : Lw C H S L b md a A k t p c d db rest fs fb ts ds us ms) (x : Ext [] H H') : Lw C H' S L b md a A k t p c d db rest fs fb ts ds us ms := j.draw x.nil (j.s.ext x)
theorem mem_all_lf {A : Bk} {b : Addr} : A.lf ∈ A.all b := by simp
/-- the book lets a fact -/
theorem Lw.told (j : Lw C H S L b md a A k t p c d db rest fs fb ts ds us ms) {u : Addr} {f : Fk} (x : Ext [A.lf] H H') (hu : isFk H' u f) (hf : okF f) (hl : us.length < 32) (B : BookAt C H' b 24 A (k.map tv) ts p (c.map tv) ds (us ++ [.ref u])) : Lw C H' S L b md a A k t p c d db rest fs (fb ++ [f]) ts ds (us ++ [.ref u]) ms := by
  have fl := j.f A.lf mem_all_lf
  have hlen := j.B.F.len
  refine ⟨j.s.keepM x (by simpa using Ne.symm fl.1) (by simpa using Ne.symm fl.2.1), j.M.ext x fun y hy => by simp only [List.mem_singleton]; exact fun h => fl.2.2.2 (by rw [← h]; exact hy), j.W.ext x, ⟨B, j.B.T.ext x, j.B.D.ext x, (j.B.F.ext x).snoc hu, j.B.G, j.B.nl, j.B.dl, by rw [List.length_append]; show fb.length + 1 ≤ 1000; omega, j.B.tl, fun g hg => ?_⟩, j.R.ext x (by simpa using Ne.symm fl.2.2.1), j.f, j.g, j.h⟩
  rcases List.mem_append.mp hg with hg | hg
  · exact j.B.fo g hg
  · simp at hg
    rw [hg]
    exact hf
/-- the model notes a fact -/
theorem Lw.note (j : Lw C H S L b md a A k t p c d db rest fs fb ts ds us ms) {u : Addr} {f : Fk} (hu : isFk H u f) : Lw C (upd H a.m5 (.lst (ms ++ [.ref u]))) S L b md a A k t p c d db rest (fs ++ [f]) fb ts ds us (ms ++ [.ref u]) := by
  have x : Ext [a.m5] H (upd H a.m5 (.lst (ms ++ [.ref u]))) := ext_lst j.M.r5
  have g5 := j.g a.m5 (by simp)
  exact ⟨j.s.keepM x (by simpa using Ne.symm g5.1) (by simpa using Ne.symm g5.2.1), j.M.setF5 _, (j.W.ext x).snoc (hu.ext x), j.B.extM x fun y hy => by simp only [List.mem_singleton]; exact fun h => (j.f y hy).2.2.2 (by rw [h]; simp), j.R.ext x (by simpa using Ne.symm g5.2.2), j.f, j.g, j.h⟩
/-- the model notes a dip -/
theorem Lw.push (j : Lw C H S L b md a A k t p c d db rest fs fb ts ds us ms) {u : Addr} {q : Str × Str} {xs : List V} (hxs : H a.m4 = some (.lst xs)) (hu : H u = some (.tup [.str q.1, .str q.2])) : Lw C (upd H a.m4 (.lst (xs ++ [.ref u]))) S L b md a A k t p c (d ++ [q]) db rest fs fb ts ds us ms := by
  have x : Ext [a.m4] H (upd H a.m4 (.lst (xs ++ [.ref u]))) := ext_lst hxs
  have g4 := j.g a.m4 (by simp)
  exact ⟨j.s.keepM x (by simpa using Ne.symm g4.1) (by simpa using Ne.symm g4.2.1), j.M.push4u hxs hu, j.W.ext x, j.B.extM x fun y hy => by simp only [List.mem_singleton]; exact fun h => (j.f y hy).2.2.2 (by rw [h]; simp), j.R.ext x (by simpa using Ne.symm g4.2.2), j.f, j.g, j.h⟩
/-- the book has a dip more -/
theorem Lw.dip (j : Lw C H S L b md a A k t p c d db rest fs fb ts ds us ms) {u l : Addr} {q : Str × Str} (x : Ext [b] H H') (hl : H l = none) (hu : H' u = some (.tup [.str q.1, .str q.2])) (hq : q.1 ∈ c.map (·.1)) (hd : db.length < 100) (B : BookAt C H' b 24 { A with ld := l } (k.map tv) ts p (c.map tv) (ds ++ [.ref u]) us) : Lw C H' S L b md a { A with ld := l } k t p c d (db ++ [q]) rest fs fb ts (ds ++ [.ref u]) us ms := by
  have fb' := j.f b (by simp)
  have len1 : (db ++ [q]).length = db.length + 1 := by rw [List.length_append]; rfl
  refine ⟨j.s.keepM x (by simpa using Ne.symm fb'.1) (by simpa using Ne.symm fb'.2.1), j.M.ext x fun y hy => by simp only [List.mem_singleton]; exact fun h => fb'.2.2.2 (by rw [← h]; exact hy), j.W.ext x, ⟨B, j.B.T.ext x, (j.B.D.ext x).snoc hu, j.B.F.ext x, ⟨j.B.G.kn, j.B.G.k8, j.B.G.cn, j.B.G.c8, j.B.G.ck, fun z hz => ?_, by omega⟩, j.B.nl, by omega, j.B.fl, j.B.tl, j.B.fo⟩, j.R.ext x (by simpa using Ne.symm fb'.2.2.1), ?_, j.g, j.h⟩
  · rcases List.mem_append.mp hz with hz | hz
    · exact j.B.G.dc z hz
    · simp at hz
      rw [hz]
      exact hq
  · have f := j.f
    intro y hy
    simp only [Bk.all, List.mem_cons, List.not_mem_nil, or_false] at hy
    rcases hy with rfl | rfl | rfl | rfl | rfl | rfl | rfl
    · exact f _ (by simp)
    · exact f _ (by simp)
    · exact f _ (by simp)
    · exact f _ (by simp)
    · exact f _ (by simp)
    · obtain ⟨h1, h2⟩ := src_ne_new j.s hl
      obtain ⟨_, h3, _⟩ := j.R
      exact ⟨h1, h2, (ne_of_none h3 hl).symm, fun h => j.M.new hl _ h rfl⟩
    · exact f _ (by simp)
theorem Lw.kept (j : Lw C H S L b md a A k t p c d db rest fs fb ts ds us ms) (hd : ∀ q ∈ d, q.1 ∈ c.map (·.1)) (hl : d.length ≤ 1000) : Kept k c d := ⟨j.B.G.kn, j.B.G.k8, j.B.G.cn, j.B.G.c8, j.B.G.ck, hd, hl⟩
end
end Tp
namespace Tp
open PySem PySem.Spec PyProof.Rows L2 He
/-- the answer stands -/
def Due (H : Hp) : Vd → V → Prop
  | .bad v, x => ∃ l, x = .ref l ∧ H l = some (.lst [.str "amount", v, .bl false])
  | .full, x => ∃ l, x = .ref l ∧ H l = some (.lst [.str "full", .int 32, .bl false])
  | .ok, x => x = .non
theorem Due.ext {H H' : Hp} {vd : Vd} {x : V} (h : Due H vd x) (e : Ext [] H H') : Due H' vd x := by
  cases vd with
  | bad v =>
    obtain ⟨l, h1, h2⟩ := h
    exact ⟨l, h1, e.keep _ _ h2 (by simp)⟩
  | full =>
    obtain ⟨l, h1, h2⟩ := h
    exact ⟨l, h1, e.keep _ _ h2 (by simp)⟩
  | ok => exact h
theorem Told.of {Q : VK} {H : Hp} {vd : Vd} (h : ∀ x H', Ext [] H H' → vd ≠ .ok → Due H' vd x → Q x H') : Told Q H vd := by
  cases vd with
  | bad v => exact fun a H' ha e hx => h _ H' e (by simp) ⟨a, rfl, hx⟩
  | full => exact fun a H' ha e hx => h _ H' e (by simp) ⟨a, rfl, hx⟩
  | ok => trivial
end Tp
namespace Tp
open PySem PySem.Spec PyProof.Rows L2 He
theorem Due.ref {H : Hp} {vd : Vd} {x : V} (h : Due H vd x) (hn : vd ≠ .ok) : ∃ l, x = .ref l := by
  cases vd with
  | bad v => exact ⟨_, h.choose_spec.1⟩
  | full => exact ⟨_, h.choose_spec.1⟩
  | ok => exact absurd rfl hn
theorem Due.non {H : Hp} {vd : Vd} {x : V} (h : Due H vd x) (hn : vd = .ok) : x = .non := by
  subst hn
  exact h
end Tp
/-! Fg: a model and its book, both growing -/
namespace Tp
open PySem PySem.Spec PyProof.Rows L2 He
/-- a fact about these amounts -/
def inA (xs : List Am) : Fk → Prop
  | .tell x y => x ∈ xs ∧ y ∈ xs
  | .some x => x ∈ xs
theorem inA.ok {xs : List Am} {f : Fk} (h : inA xs f) (hx : ∀ q ∈ xs, okS q.1) : okF f := by
  cases f with
  | tell x y => exact ⟨hx _ h.1, hx _ h.2⟩
  | some x => exact hx _ h
section
variable {H H' : Hp} {a : Mad} {k t c d : List (Str × Str)} {p : List Str} {fs : List V}
end
/-- a model (m) and its book (b), each as it is now -/
structure Lx (C : Addr) (H : Hp) (S L b : Addr) (a : Mad) (A : Bk) (k t : List (Str × Str)) (p : List Str) (c d : List (Str × Str)) (kb tb : List (Str × Str)) (pb : List Str) (cb db : List (Str × Str)) (fs fb : List Fk) (ts ds us ms : List V) : Prop where
  s : SrcAt H S L
  M : MdAt H a k t p c d ms
  W : FL H ms fs
  B : BkI C H b 24 A kb tb pb cb db fb ts ds us
  f : ∀ y ∈ A.all b, y ≠ S ∧ y ≠ L ∧ y ∉ a.all
  g : ∀ y ∈ a.all, y ≠ S ∧ y ≠ L
section
variable {C : Addr} {H H' : Hp} {S L b : Addr} {a : Mad} {A : Bk} {k t : List (Str × Str)} {p : List Str} {c d kb tb : List (Str × Str)} {pb : List Str} {cb db : List (Str × Str)} {fs fb : List Fk} {ts ds us ms : List V}
theorem Lx.draw (j : Lx C H S L b a A k t p c d kb tb pb cb db fs fb ts ds us ms) (x : Ext [S] H H') (s : SrcAt H' S L) : Lx C H' S L b a A k t p c d kb tb pb cb db fs fb ts ds us ms :=
  ⟨s, j.M.ext x fun y hy => by simpa using (j.g y hy).1, j.W.ext x, j.B.extM x fun y hy => by simpa using (j.f y hy).1, j.f, j.g⟩
theorem Lx.grow (j : Lx C H S L b a A k t p c d kb tb pb cb db fs fb ts ds us ms) (x : Ext [] H H') : Lx C H' S L b a A k t p c d kb tb pb cb db fs fb ts ds us ms := j.draw x.nil (j.s.ext x)
/-- a part of the model changes -/
theorem Lx.md (j : Lx C H S L b a A k t p c d kb tb pb cb db fs fb ts ds us ms) {y : Addr} (hy : y ∈ a.all) (x : Ext [y] H H') {k' t' : List (Str × Str)} {p' : List Str} {c' d' : List (Str × Str)} {ms' : List V} {fs' : List Fk} (M : MdAt H' a k' t' p' c' d' ms') (W : FL H' ms' fs') : Lx C H' S L b a A k' t' p' c' d' kb tb pb cb db fs' fb ts ds us ms' := by
  have gy := j.g y hy
  exact ⟨j.s.keepM x (by simpa using Ne.symm gy.1) (by simpa using Ne.symm gy.2), M, W, j.B.extM x fun z hz => by simp only [List.mem_singleton]; exact fun h => (j.f z hz).2.2 (by rw [h]; exact hy), j.f, j.g⟩
/-- a part of the book changes -/
theorem Lx.bk (j : Lx C H S L b a A k t p c d kb tb pb cb db fs fb ts ds us ms) {y : Addr} (hy : y ∈ A.all b) (x : Ext [y] H H') {k' t' : List (Str × Str)} {p' : List Str} {c' d' : List (Str × Str)} {fb' : List Fk} {ts' ds' us' : List V} (B : BkI C H' b 24 A k' t' p' c' d' fb' ts' ds' us') : Lx C H' S L b a A k t p c d k' t' p' c' d' fs fb' ts' ds' us' ms := by
  have fy := j.f y hy
  exact ⟨j.s.keepM x (by simpa using Ne.symm fy.1) (by simpa using Ne.symm fy.2.1), j.M.ext x fun z hz => by simp only [List.mem_singleton]; exact fun h => fy.2.2 (by rw [← h]; exact hz), j.W.ext x, B, j.f, j.g⟩
theorem Lx.note (j : Lx C H S L b a A k t p c d kb tb pb cb db fs fb ts ds us ms) {u : Addr} {f : Fk} (hu : isFk H u f) : Lx C (upd H a.m5 (.lst (ms ++ [.ref u]))) S L b a A k t p c d kb tb pb cb db (fs ++ [f]) fb ts ds us (ms ++ [.ref u]) := by
  have x : Ext [a.m5] H (upd H a.m5 (.lst (ms ++ [.ref u]))) := ext_lst j.M.r5
  exact j.md (by simp) x (j.M.setF5 _) ((j.W.ext x).snoc (hu.ext x))
theorem Lx.told (j : Lx C H S L b a A k t p c d kb tb pb cb db fs fb ts ds us ms) {u : Addr} {f : Fk} (x : Ext [A.lf] H H') (hu : isFk H' u f) (hf : okF f) (hl : us.length < 100) (B : BookAt C H' b 24 A (kb.map tv) ts pb (cb.map tv) ds (us ++ [.ref u])) : Lx C H' S L b a A k t p c d kb tb pb cb db fs (fb ++ [f]) ts ds (us ++ [.ref u]) ms := by
  have hlen := j.B.F.len
  refine j.bk mem_all_lf x ⟨B, j.B.T.ext x, j.B.D.ext x, (j.B.F.ext x).snoc hu, j.B.G, j.B.nl, j.B.dl, by rw [List.length_append]; show fb.length + 1 ≤ 1000; omega, j.B.tl, fun g hg => ?_⟩
  rcases List.mem_append.mp hg with hg | hg
  · exact j.B.fo g hg
  · simp at hg
    rw [hg]
    exact hf
theorem Lx.dip (j : Lx C H S L b a A k t p c d kb tb pb cb db fs fb ts ds us ms) {u l : Addr} {q : Str × Str} (x : Ext [b] H H') (hl : H l = none) (hu : H' u = some (.tup [.str q.1, .str q.2])) (hq : q.1 ∈ cb.map (·.1)) (hd : db.length < 100) (B : BookAt C H' b 24 { A with ld := l } (kb.map tv) ts pb (cb.map tv) (ds ++ [.ref u]) us) : Lx C H' S L b a { A with ld := l } k t p c d kb tb pb cb (db ++ [q]) fs fb ts (ds ++ [.ref u]) us ms := by
  have fb' := j.f b (by simp)
  have len1 : (db ++ [q]).length = db.length + 1 := by rw [List.length_append]; rfl
  refine ⟨j.s.keepM x (by simpa using Ne.symm fb'.1) (by simpa using Ne.symm fb'.2.1), j.M.ext x fun y hy => by simp only [List.mem_singleton]; exact fun h => fb'.2.2 (by rw [← h]; exact hy), j.W.ext x, ⟨B, j.B.T.ext x, (j.B.D.ext x).snoc hu, j.B.F.ext x, ⟨j.B.G.kn, j.B.G.k8, j.B.G.cn, j.B.G.c8, j.B.G.ck, fun z hz => ?_, by omega⟩, j.B.nl, by omega, j.B.fl, j.B.tl, j.B.fo⟩, ?_, j.g⟩
  · rcases List.mem_append.mp hz with hz | hz
    · exact j.B.G.dc z hz
    · simp at hz
      rw [hz]
      exact hq
  · have f := j.f
    intro y hy
    simp only [Bk.all, List.mem_cons, List.not_mem_nil, or_false] at hy
    rcases hy with rfl | rfl | rfl | rfl | rfl | rfl | rfl
    · exact f _ (by simp)
    · exact f _ (by simp)
    · exact f _ (by simp)
    · exact f _ (by simp)
    · exact f _ (by simp)
    · obtain ⟨h1, h2⟩ := src_ne_new j.s hl
      exact ⟨h1, h2, fun h => j.M.new hl _ h rfl⟩
    · exact f _ (by simp)
theorem Lx.thirst (j : Lx C H S L b a A k t p c d kb tb pb cb db fs fb ts ds us ms) {u : Addr} {q : Str × Str} (x : Ext [A.lt] H H') (hu : H' u = some (.tup [.str q.1, .str q.2])) (hl : tb.length < 1000) (B : BookAt C H' b 24 A (kb.map tv) (ts ++ [.ref u]) pb (cb.map tv) ds us) : Lx C H' S L b a A k t p c d kb (tb ++ [q]) pb cb db fs fb (ts ++ [.ref u]) ds us ms :=
  j.bk (by simp) x ⟨B, (j.B.T.ext x).snoc hu, j.B.D.ext x, j.B.F.ext x, j.B.G, j.B.nl, j.B.dl, j.B.fl, by rw [List.length_append]; show tb.length + 1 ≤ 1000; omega, j.B.fo⟩
end
end Tp
namespace Tp
open PySem PySem.Spec PyProof.Rows L2 He
theorem am_pick {H : Hp} {as : List Addr} {l : List Am} {n : Int} (h : Paired (isAmt H) as l) (n0 : 0 ≤ n) (n1 : n < (as.length : Int)) : ∃ u q, atI (as.map V.ref) n = some (.ref u) ∧ q ∈ l ∧ isAmt H u q := by
  obtain ⟨m, rfl⟩ := Int.eq_ofNat_of_zero_le n0
  have hm : m < as.length := by omega
  obtain ⟨q, hq, hT⟩ := amt_at h (List.getElem?_eq_getElem hm)
  exact ⟨_, q, atI_nat (by rw [List.getElem?_map, List.getElem?_eq_getElem hm]; rfl), List.mem_of_getElem? hq, hT⟩
/-- facts are drawn about the amounts -/
def spMore (n : Nat) : Sp := fun vs H Q _ => ∃ (S L : Addr) (a : Mad) (k t : List (Str × Str)) (p : List Str) (c d : List (Str × Str)) (ms : List V) (fs : List Fk), vs = [.ref S, .ref a.M] ∧ SrcAt H S L ∧ MdAt H a k t p c d ms ∧ FL H ms fs ∧ Kept k c d ∧ d.length ≤ 100 ∧ (∀ f ∈ fs, inA (amtD k c d d.length) f) ∧ (∀ x ∈ a.all, x ≠ S ∧ x ≠ L) ∧ fs.length ≤ 500 ∧
  ∀ H' ms' fs', Ext [S, a.m5] H H' → SrcAt H' S L → MdAt H' a k t p c d ms' → FL H' ms' fs' → (∀ f ∈ fs', inA (amtD k c d d.length) f) → fs'.length ≤ fs.length + n → Q .non H'
/-- what changes while facts are noted -/
structure Nt (H0 H : Hp) (S L : Addr) (a : Mad) (k t : List (Str × Str)) (p : List Str) (c d : List (Str × Str)) (ms : List V) (fs : List Fk) : Prop where
  x : Ext [S, a.m5] H0 H
  s : SrcAt H S L
  M : MdAt H a k t p c d ms
  W : FL H ms fs
  i : ∀ f ∈ fs, inA (amtD k c d d.length) f
  g : ∀ x ∈ a.all, x ≠ S ∧ x ≠ L
section
variable {H0 H H' : Hp} {S L : Addr} {a : Mad} {k t : List (Str × Str)} {p : List Str} {c d : List (Str × Str)} {ms : List V} {fs : List Fk}
theorem Nt.draw (j : Nt H0 H S L a k t p c d ms fs) (x : Ext [S] H H') (s : SrcAt H' S L) : Nt H0 H' S L a k t p c d ms fs :=
  ⟨j.x.trans (x.mono fun y h => by simp at h; simp [h]), s, j.M.ext x fun y hy => by simpa using (j.g y hy).1, j.W.ext x, j.i, j.g⟩
theorem Nt.grow (j : Nt H0 H S L a k t p c d ms fs) (x : Ext [] H H') : Nt H0 H' S L a k t p c d ms fs := j.draw x.nil (j.s.ext x)
theorem Nt.note (j : Nt H0 H S L a k t p c d ms fs) {u : Addr} {f : Fk} (hu : isFk H u f) (hf : inA (amtD k c d d.length) f) : Nt H0 (upd H a.m5 (.lst (ms ++ [.ref u]))) S L a k t p c d (ms ++ [.ref u]) (fs ++ [f]) := by
  have x : Ext [a.m5] H (upd H a.m5 (.lst (ms ++ [.ref u]))) := ext_lst j.M.r5
  have g5 := j.g a.m5 (by simp)
  refine ⟨j.x.trans (x.mono fun y h => by simp at h; simp [h]), j.s.keepM x (by simpa using Ne.symm g5.1) (by simpa using Ne.symm g5.2), j.M.setF5 _, (j.W.ext x).snoc (hu.ext x), fun g hg => ?_, j.g⟩
  rcases List.mem_append.mp hg with hg | hg
  · exact j.i g hg
  · simp at hg
    rw [hg]
    exact hf
end
end Tp
namespace Tp
open PySem PySem.Spec PyProof.Rows L2 He
end Tp
namespace Tp
open PySem PySem.Spec PyProof.Rows L2 He
end Tp
namespace Tp
open PySem PySem.Spec PyProof.Rows L2 He
/-- kinds, pots, cloths and dips that go together -/
structure GX (k t : List (Str × Str)) (p : List Str) (c d : List (Str × Str)) : Prop where
  kn : Names (k.map (·.1))
  kh : ∀ q ∈ k, q.2 = "loose" ∨ q.2 = "fast" ∨ q.2 = "unsure"
  k1 : 1 ≤ k.length
  k8 : k.length ≤ 8
  tk : ∀ q ∈ t, q.1 ∈ k.map (·.1) ∧ q.2 ∈ k.map (·.1)
  pn : Names p
  p1 : 1 ≤ p.length
  p8 : p.length ≤ 8
  cn : Names (c.map (·.1))
  ck : ∀ q ∈ c, q.2 ∈ k.map (·.1)
  c1 : 1 ≤ c.length
  c8 : c.length ≤ 8
  dc : ∀ q ∈ d, q.1 ∈ c.map (·.1) ∧ q.2 ∈ p
theorem Good.gx {most : Nat} {k t : List (Str × Str)} {p : List Str} {c d : List (Str × Str)} (G : Good most k t p c d) : GX k t p c d :=
  ⟨G.kn, G.kh, G.k1, G.k8, G.tk, G.pn, G.p1, G.p8, G.cn, G.ck, by have := G.c2; omega, G.c8, G.dc⟩
theorem Names.snoc {zs : List Str} {z : Str} (h : Names zs) (h1 : z ∉ zs) (h2 : nmS z = true) (h3 : okS z) : Names (zs ++ [z]) := by
  refine ⟨?_, fun x hx => ?_, fun x hx => ?_⟩
  · rw [List.nodup_append]
    exact ⟨h.nd, by simp, fun a ha b hb e => by simp at hb; exact h1 (by rw [← hb, ← e]; exact ha)⟩
  · rcases List.mem_append.mp hx with hx | hx
    · exact h.nm x hx
    · simp at hx
      rw [hx]
      exact h2
  · rcases List.mem_append.mp hx with hx | hx
    · exact h.ok x hx
    · simp at hx
      rw [hx]
      exact h3
section
variable {k t : List (Str × Str)} {p : List Str} {c d : List (Str × Str)} {q : Str × Str} {z : Str}
theorem GX.kept (G : GX k t p c d) (hd : d.length ≤ 1000) : Kept k c d := ⟨G.kn.nd, G.k8, G.cn.nd, G.c8, G.ck, fun q hq => (G.dc q hq).1, hd⟩
theorem GX.nl (G : GX k t p c d) : ∀ z, z ∈ k.map (·.1) ∨ z ∈ c.map (·.1) → z.length ≤ 1000 := fun z hz => by
  rcases hz with hz | hz
  · have := nm_len (G.kn.nm z hz); omega
  · have := nm_len (G.cn.nm z hz); omega
theorem GX.okd (G : GX k t p c d) : ∀ q ∈ d, okN q.1 ∧ okN q.2 := fun q hq => ⟨nm_okN (G.cn.nm _ (G.dc q hq).1), nm_okN (G.pn.nm _ (G.dc q hq).2)⟩
theorem GX.kind (G : GX k t p c d) (h1 : q.1 ∉ k.map (·.1)) (h2 : nmS q.1 = true) (h3 : okS q.1) (h4 : q.2 = "loose" ∨ q.2 = "fast" ∨ q.2 = "unsure") (h5 : k.length < 8) : GX (k ++ [q]) t p c d := by
  have e : (k ++ [q]).map (·.1) = k.map (·.1) ++ [q.1] := by rw [List.map_append]; rfl
  have l : (k ++ [q]).length = k.length + 1 := by rw [List.length_append]; rfl
  refine ⟨by rw [e]; exact G.kn.snoc h1 h2 h3, fun x hx => ?_, by omega, by omega, fun x hx => ?_, G.pn, G.p1, G.p8, G.cn, fun x hx => ?_, G.c1, G.c8, G.dc⟩
  · rcases List.mem_append.mp hx with hx | hx
    · exact G.kh x hx
    · simp at hx
      rw [hx]
      exact h4
  · rw [e]
    exact ⟨List.mem_append_left _ (G.tk x hx).1, List.mem_append_left _ (G.tk x hx).2⟩
  · rw [e]
    exact List.mem_append_left _ (G.ck x hx)
theorem GX.pot (G : GX k t p c d) (h1 : z ∉ p) (h2 : nmS z = true) (h3 : okS z) (h5 : p.length < 8) : GX k t (p ++ [z]) c d := by
  have l : (p ++ [z]).length = p.length + 1 := by rw [List.length_append]; rfl
  exact ⟨G.kn, G.kh, G.k1, G.k8, G.tk, G.pn.snoc h1 h2 h3, by omega, by omega, G.cn, G.ck, G.c1, G.c8, fun x hx => ⟨(G.dc x hx).1, List.mem_append_left _ (G.dc x hx).2⟩⟩
theorem GX.cloth (G : GX k t p c d) (h1 : q.1 ∉ c.map (·.1)) (h2 : nmS q.1 = true) (h3 : okS q.1) (h4 : q.2 ∈ k.map (·.1)) (h5 : c.length < 8) : GX k t p (c ++ [q]) d := by
  have e : (c ++ [q]).map (·.1) = c.map (·.1) ++ [q.1] := by rw [List.map_append]; rfl
  have l : (c ++ [q]).length = c.length + 1 := by rw [List.length_append]; rfl
  refine ⟨G.kn, G.kh, G.k1, G.k8, G.tk, G.pn, G.p1, G.p8, by rw [e]; exact G.cn.snoc h1 h2 h3, fun x hx => ?_, by omega, by omega, fun x hx => ?_⟩
  · rcases List.mem_append.mp hx with hx | hx
    · exact G.ck x hx
    · simp at hx
      rw [hx]
      exact h4
  · rw [e]
    exact ⟨List.mem_append_left _ (G.dc x hx).1, (G.dc x hx).2⟩
theorem GX.dip (G : GX k t p c d) (h1 : q.1 ∈ c.map (·.1)) (h2 : q.2 ∈ p) : GX k t p c (d ++ [q]) := ⟨G.kn, G.kh, G.k1, G.k8, G.tk, G.pn, G.p1, G.p8, G.cn, G.ck, G.c1, G.c8, fun x hx => by
  rcases List.mem_append.mp hx with hx | hx
  · exact G.dc x hx
  · simp at hx
    rw [hx]
    exact ⟨h1, h2⟩⟩
theorem GX.thirst (G : GX k t p c d) (h1 : q.1 ∈ k.map (·.1)) (h2 : q.2 ∈ k.map (·.1)) : GX k (t ++ [q]) p c d := ⟨G.kn, G.kh, G.k1, G.k8, fun x hx => by
  rcases List.mem_append.mp hx with hx | hx
  · exact G.tk x hx
  · simp at hx
    rw [hx]
    exact ⟨h1, h2⟩, G.pn, G.p1, G.p8, G.cn, G.ck, G.c1, G.c8, G.dc⟩
end
/-- what a book is, told by what it is made of -/
theorem BkI.of {C : Addr} {H : Hp} {b : Addr} {A : Bk} {k t : List (Str × Str)} {p : List Str} {c d : List (Str × Str)} {fs : List Fk} {ts ds us : List V} (G : GX k t p c d) (B : BookAt C H b 24 A (k.map tv) ts p (c.map tv) ds us) (T : PT H ts t) (D : PT H ds d) (F : FL H us fs) (hd : d.length ≤ 100) (hf : fs.length ≤ 1000) (ht : t.length ≤ 1000) (ho : ∀ f ∈ fs, okF f) : BkI C H b 24 A k t p c d fs ts ds us :=
  ⟨B, T, D, F, G.kept (by omega), G.nl, hd, hf, ht, ho⟩
end Tp
namespace Tp
open PySem PySem.Spec PyProof.Rows L2 He
end Tp
/-! Dt: dicts whose keys are tuples: setdefault, displays, comprehensions -/
namespace Tp
open PySem PySem.Spec PyProof.Rows L2 He
section
variable {X : Cx} {pins : List (Addr × Obj)} {σ : L2.St} {H : Hp} {s : Shared} {a b : Addr} {r : Value} {d v : V} {k : List Key} {kvs : List (List Key × V)} {A : Around} {E : Value → Shared → Prop}
end
section
variable {X : Cx} {o e f : Expr} {td ty tx : TE} {apos cpos : Pos}
end
/-! ### displays -/
/-! ### comprehensions -/
section
variable {X : Cx} {kx vx tgt src : Expr} {tests : List Expr} {inner : Scope} {own : List (Str × Nat)} {cp p2 : Pos} {wi : TI} {g : TG} {tt : TT} {tk tv : TE} {use : Option (Value → Sem Unit)} {Qf : Value → Shared → Prop}
variable {n : Nat} {nm : Str} {np ap : Pos}
end
end Tp
/-! Wa: chains of amounts, dicts whose keys are amounts -/
namespace Tp
open PySem PySem.Spec PyProof.Rows L2 He
/-- a chain of pairs of t leads from x to y -/
inductive Rc {α : Type} (t : List (α × α)) : α → α → Prop
  | refl (x : α) : Rc t x x
  | step {x y z : α} : Rc t x y → (y, z) ∈ t → Rc t x z
theorem Rc.trans {α : Type} {t : List (α × α)} {x y z : α} (h : Rc t x y) (h2 : Rc t y z) : Rc t x z := by
  induction h2 with
  | refl => exact h
  | step _ e ih => exact .step ih e
theorem rc_in {α : Type} {t : List (α × α)} {x y : α} {bs : List α} (hx : x ∈ bs) (hc : ∀ y ∈ bs, ∀ z, (y, z) ∈ t → z ∈ bs) (h : Rc t x y) : y ∈ bs := by
  induction h with
  | refl => exact hx
  | step _ e ih => exact hc _ ih _ e
theorem rc_end {α : Type} {t : List (α × α)} {x y : α} (h : Rc t x y) : y ∈ x :: t.map (·.2) := by
  cases h with
  | refl => simp
  | step _ e => exact List.mem_cons_of_mem _ (List.mem_map.mpr ⟨_, e, rfl⟩)
/-- an amount as a key -/
def amK (q : Am) : List Key := [Sum.inr q.1, Sum.inl (q.2 : Int)]
theorem amK_inj {a b : Am} (h : amK a = amK b) : a = b := by
  obtain ⟨x, i⟩ := a
  obtain ⟨y, j⟩ := b
  unfold amK at h
  injection h with h1 h2
  injection h2 with h2 _
  have e1 : x = y := Sum.inr.inj h1
  have e2 : (i : Int) = j := Sum.inl.inj h2
  rw [e1, Int.ofNat.inj e2]
theorem isAmt.key {H : Hp} {u : Addr} {q : Am} (h : isAmt H u q) : H u = some (.tup ((amK q).map kV)) := h
/-- what a dict of amounts holds -/
def dA (bs : List (Am × V)) : List (List Key × V) := bs.map fun q => (amK q.1, q.2)
theorem valV_dA_none {bs : List (Am × V)} {x : Am} (h : x ∉ bs.map (·.1)) : valV (dA bs) (amK x) = none := by
  induction bs with
  | nil => rfl
  | cons q bs ih =>
    rw [List.map_cons, List.mem_cons, not_or] at h
    exact (valV_neg (p := (amK q.1, q.2)) fun e => h.1 (amK_inj e).symm).trans (ih h.2)
theorem valV_dA {bs : List (Am × V)} {x : Am} {v : V} (nd : (bs.map (·.1)).Nodup) (h : (x, v) ∈ bs) : valV (dA bs) (amK x) = some v := by
  induction bs with
  | nil => cases h
  | cons q bs ih =>
    rw [List.map_cons, List.nodup_cons] at nd
    rcases List.mem_cons.mp h with rfl | h2
    · exact valV_pos (p := (amK x, v)) rfl
    · have hne : ¬ q.1 = x := fun e => nd.1 (e ▸ List.mem_map.mpr ⟨(x, v), h2, rfl⟩)
      exact (valV_neg (p := (amK q.1, q.2)) fun e => hne (amK_inj e)).trans (ih nd.2 h2)
theorem mem_keys {bs : List (Am × V)} {x : Am} (h : x ∈ bs.map (·.1)) : ∃ v, (x, v) ∈ bs := by
  obtain ⟨⟨a, v⟩, hq, rfl⟩ := List.mem_map.mp h
  exact ⟨v, hq⟩
theorem isSome_dA {bs : List (Am × V)} {x : Am} : (valV (dA bs) (amK x)).isSome = decide (x ∈ bs.map (·.1)) := by
  induction bs with
  | nil => rfl
  | cons q bs ih =>
    by_cases e : q.1 = x
    · rw [show valV (dA (q :: bs)) (amK x) = some q.2 from valV_pos (p := (amK q.1, q.2)) (by rw [e])]
      simp [e]
    · rw [show valV (dA (q :: bs)) (amK x) = valV (dA bs) (amK x) from valV_neg (p := (amK q.1, q.2)) fun z => e (amK_inj z), ih]
      rw [List.map_cons, decide_eq_decide, List.mem_cons]
      exact ⟨.inr, fun h => h.resolve_left fun z => e z.symm⟩
/-- what x leads to, t told -/
def selA (x : Am) (t : List Pa) : List Am := (t.filter fun p => decide (p.1 = x)).map (·.2)
theorem selA_snoc {t : List Pa} {x y z : Am} : selA z (t ++ [(x, y)]) = if x = z then selA z t ++ [y] else selA z t := by
  unfold selA
  rw [filter_snoc]
  by_cases h : x = z
  · rw [if_pos h, if_pos (by simpa using h), List.map_append]
    rfl
  · rw [if_neg h, if_neg (by simpa using h), List.append_nil]
section
variable {H H' : Hp} {a r : Addr} {q : Am} {vs ws : List V} {xs : List Am} {o : HO}
theorem ext_at (h : ∀ xs, H a ≠ some (.tup xs)) : Ext [a] H (upd H a o) := Ext.refl.mut (by simp) h
theorem AmtAt.off (h : AmtAt H r xs) (na : ∀ xs, H a ≠ some (.tup xs)) (ne : r ≠ a) : AmtAt (upd H a o) r xs := h.ext (ext_at na) (by simpa using ne)
theorem AmtAt.len (h : AmtAt H r xs) (hl : H r = some (.lst vs)) : vs.length = xs.length := by
  obtain ⟨as, h1, h2⟩ := h
  rw [h1] at hl
  cases hl
  rw [List.length_map, amt_len h2]
theorem AmtAt.ne_dT {kvs : List (List Key × V)} (h : AmtAt H r xs) (hd : H a = some (.dT kvs)) : r ≠ a := fun e => by
  obtain ⟨as, h1, _⟩ := h
  rw [e, hd] at h1
  cases h1
/-- the dict of what each first leads to, t told yet -/
structure StepsA (H : Hp) (D : Addr) (ks : List (Am × Addr)) (t : List Pa) : Prop where
  top : H D = some (.dT (dA (ks.map fun q => (q.1, V.ref q.2))))
  kn : (ks.map (·.1)).Nodup
  an : (ks.map (·.2)).Nodup
  row : ∀ q ∈ ks, AmtAt H q.2 (selA q.1 t)
  all : ∀ p ∈ t, p.1 ∈ ks.map (·.1)
variable {D : Addr} {ks : List (Am × Addr)} {t : List Pa} {x y : Am} {l : Addr}
theorem StepsA.ext {ms : List Addr} (S : StepsA H D ks t) (e : Ext ms H H') (hD : D ∉ ms) (hk : ∀ q ∈ ks, q.2 ∉ ms) : StepsA H' D ks t :=
  ⟨e.keep _ _ S.top hD, S.kn, S.an, fun q hq => (S.row q hq).ext e (hk q hq), S.all⟩
theorem StepsA.off (S : StepsA H D ks t) : ∀ q ∈ ks, q.2 ≠ D := fun q hq => (S.row q hq).ne_dT S.top
theorem keysA : (ks.map fun q => (q.1, V.ref q.2)).map (·.1) = ks.map (·.1) := by
  rw [List.map_map]
  rfl
theorem StepsA.at (S : StepsA H D ks t) (h : (x, l) ∈ ks) : valV (dA (ks.map fun q => (q.1, V.ref q.2))) (amK x) = some (.ref l) :=
  valV_dA (by rw [keysA]; exact S.kn) (List.mem_map.mpr ⟨_, h, rfl⟩)
theorem StepsA.no (h : x ∉ ks.map (·.1)) : valV (dA (ks.map fun q => (q.1, V.ref q.2))) (amK x) = none := valV_dA_none (by rw [keysA]; exact h)
/-- one pair more, its first known -/
theorem StepsA.push (S : StepsA H D ks t) (h : (x, l) ∈ ks) (hl : H l = some (.lst vs)) (hr : isAmt H r y) : StepsA (upd H l (.lst (vs ++ [.ref r]))) D ks (t ++ [(x, y)]) := by
  have e := ext_lst (ws := vs ++ [.ref r]) hl
  refine ⟨by rw [upd_ne (Ne.symm (S.off _ h))]; exact S.top, S.kn, S.an, fun q hq => ?_, fun p hp => ?_⟩
  · rw [selA_snoc]
    by_cases e2 : q.2 = l
    · have : q = (x, l) := by
        obtain ⟨i, hi⟩ := List.mem_iff_getElem?.mp hq
        obtain ⟨j, hj⟩ := List.mem_iff_getElem?.mp h
        have h1 : (ks.map (·.2))[i]? = some l := by rw [List.getElem?_map, hi, ← e2]; rfl
        have h2 : (ks.map (·.2))[j]? = some l := by rw [List.getElem?_map, hj]; rfl
        have this : i = j := (List.getElem?_inj (List.getElem?_eq_some_iff.mp h1).1 S.an).mp (h1.trans h2.symm)
        rw [this, hj] at hi
        exact (Option.some.inj hi).symm
      subst this
      rw [if_pos rfl]
      exact (S.row _ hq).pushU hl hr
    · have : ¬ x = q.1 := fun h2 => e2 (by
        have a1 := S.at h
        have a2 := S.at (x := q.1) (l := q.2) hq
        rw [← h2, a1] at a2
        exact (V.ref.inj (Option.some.inj a2)).symm)
      rw [if_neg this]
      exact (S.row _ hq).ext e (by simpa using e2)
  · rcases List.mem_append.mp hp with hp | hp
    · exact S.all p hp
    · rw [List.mem_singleton.mp hp]
      exact List.mem_map.mpr ⟨_, h, rfl⟩
end
/-! ### a walk -/
/-- what a walk has met, in its order, each with what led to it -/
structure BwI (t : List Pa) (x : Am) (H : Hp) (bs : List (Am × V)) : Prop where
  nd : (bs.map (·.1)).Nodup
  hx : x ∈ bs.map (·.1)
  val : ∀ (i : Nat) (y : Am) (v : V), bs[i]? = some (y, v) → (y = x ∧ v = .non) ∨ ∃ u p j w, v = .ref u ∧ isAmt H u p ∧ (p, y) ∈ t ∧ j < i ∧ bs[j]? = some (p, w)
section
variable {H H' : Hp} {t : List Pa} {x y z : Am} {bs : List (Am × V)} {u : Addr}
theorem BwI.ext {ms : List Addr} (B : BwI t x H bs) (e : Ext ms H H') : BwI t x H' bs :=
  ⟨B.nd, B.hx, fun i y v h => (B.val i y v h).imp id fun ⟨u, p, j, w, h1, h2, h3⟩ => ⟨u, p, j, w, h1, e.tups _ _ h2, h3⟩⟩
theorem BwI.tk (B : BwI t x H bs) (e : ∀ b ys, H b = some (.tup ys) → H' b = some (.tup ys)) : BwI t x H' bs :=
  ⟨B.nd, B.hx, fun i y v h => (B.val i y v h).imp id fun ⟨u, p, j, w, h1, h2, h3⟩ => ⟨u, p, j, w, h1, e _ _ h2, h3⟩⟩
theorem BwI.one : BwI t x H [(x, .non)] := by
  refine ⟨by simp, by simp, fun i y v h => .inl ?_⟩
  cases i with
  | zero =>
    have : (x, V.non) = (y, v) := by simpa using h
    cases this
    exact ⟨rfl, rfl⟩
  | succ i => simp at h
theorem BwI.sub (B : BwI t x H bs) : ∀ y ∈ bs.map (·.1), Rc t x y := by
  intro y hy
  obtain ⟨⟨y, v⟩, hq, rfl⟩ := List.mem_map.mp hy
  obtain ⟨i, hi⟩ := List.mem_iff_getElem?.mp hq
  clear hq hy
  induction i using Nat.strongRecOn generalizing y v with
  | ind i ih =>
    rcases B.val i y v hi with ⟨rfl, _⟩ | ⟨u, p, j, w, _, _, h3, h4, h5⟩
    · exact .refl _
    · exact .step (ih j h4 p w h5) h3
theorem BwI.le (B : BwI t x H bs) : bs.length ≤ t.length + 1 := by
  have h := nodup_le B.nd (m := x :: t.map (·.2)) fun y hy => rc_end (B.sub y hy)
  rw [List.length_map] at h
  have e : (x :: t.map (·.2)).length = t.length + 1 := by rw [List.length_cons, List.length_map]
  omega
theorem BwI.fin (B : BwI t x H bs) (hc : ∀ y ∈ bs.map (·.1), ∀ z, (y, z) ∈ t → z ∈ bs.map (·.1)) (y : Am) : y ∈ bs.map (·.1) ↔ Rc t x y := ⟨B.sub y, fun h => rc_in B.hx hc h⟩
end
/-- the dict of a walk from x, ended -/
def WalkAt (H : Hp) (B : Addr) (t : List Pa) (x : Am) : Prop := ∃ bs, H B = some (.dT (dA bs)) ∧ BwI t x H bs ∧ ∀ y, y ∈ bs.map (·.1) ↔ Rc t x y
theorem WalkAt.ext {ms : List Addr} {H H' : Hp} {B : Addr} {t : List Pa} {x : Am} (h : WalkAt H B t x) (e : Ext ms H H') (hB : B ∉ ms) : WalkAt H' B t x := by
  obtain ⟨bs, h1, h2, h3⟩ := h
  exact ⟨bs, e.keep _ _ h1 hB, h2.ext e, h3⟩
end Tp
/-! Od: the order of a book -/
namespace Tp
open PySem PySem.Spec PyProof.Rows L2 He
/-- the order of a book: what each of its amounts leads to, what is told to be there -/
structure OrdAt (C : Addr) (H : Hp) (p : Addr) (dx D L : Addr) (ws : List (Am × V)) (t : List Pa) (th : List Am) : Prop where
  ob : H p = some (.ins C dx [("_below", .ref D), ("_told", .ref L)])
  dt : H D = some (.dT (dA ws))
  nd : (ws.map (·.1)).Nodup
  wk : ∀ q ∈ ws, ∃ B, q.2 = .ref B ∧ WalkAt H B t q.1
  tl : AmtAt H L th
  tn : t.length ≤ 20000
  wd : ∀ q ∈ ws.map (·.1), q.1 = ("take" : Str) ∨ q.1 = ("leave" : Str)
  cl : ∀ q ∈ t, q.1 ∈ ws.map (·.1) ∧ q.2 ∈ ws.map (·.1)
theorem OrdAt.ext {C : Addr} {H H' : Hp} {p dx D L : Addr} {ws : List (Am × V)} {t : List Pa} {th : List Am} (o : OrdAt C H p dx D L ws t th) (e : Ext [] H H') : OrdAt C H' p dx D L ws t th :=
  ⟨e.keep _ _ o.ob (by simp), e.keep _ _ o.dt (by simp), o.nd, fun q hq => let ⟨B, h1, h2⟩ := o.wk q hq; ⟨B, h1, h2.ext e (by simp)⟩, o.tl.ext e (by simp), o.tn, o.wd, o.cl⟩
/-- what is reached from x, round by round -/
structure RbI (as : List Am) (t : List Pa) (x : Am) (rs : List Am) : Prop where
  nd : rs.Nodup
  hx : x ∈ rs
  rc : ∀ y ∈ rs, Rc t x y
  sub : ∀ y ∈ rs, y ∈ as
theorem RbI.le {as : List Am} {t : List Pa} {x : Am} {rs : List Am} (R : RbI as t x rs) : rs.length ≤ as.length := nodup_le R.nd R.sub
theorem RbI.one {as : List Am} {t : List Pa} {x : Am} (h : x ∈ as) : RbI as t x [x] := ⟨by simp, by simp, fun y hy => by simp at hy; rw [hy]; exact .refl _, fun y hy => by simp at hy; rw [hy]; exact h⟩
def RbC (t : List Pa) (rs : List Am) : Prop := ∀ q ∈ t, q.1 ∈ rs → q.2 ∈ rs
theorem RbI.fin {as : List Am} {t : List Pa} {x : Am} {rs : List Am} (R : RbI as t x rs) (hc : RbC t rs) (y : Am) : y ∈ rs ↔ Rc t x y :=
  ⟨R.rc y, fun h => rc_in R.hx (fun z hz z' hzz => hc (z, z') hzz hz) h⟩
/-- what is below each amount, by the law's own reckoning -/
def BelowAt (H : Hp) (D : Addr) (as : List Am) (t : List Pa) : Prop := ∃ ws : List (Am × V), H D = some (.dT (dA ws)) ∧ ws.map (·.1) = as ∧ ∀ q ∈ ws, ∃ l rs, q.2 = .ref l ∧ l ≠ D ∧ AmtAt H l rs ∧ rs.length ≤ as.length ∧ (∀ y ∈ rs, y ∈ as) ∧ ∀ y, y ∈ rs ↔ Rc t q.1 y
theorem BelowAt.ext {H H' : Hp} {D : Addr} {as : List Am} {t : List Pa} (B : BelowAt H D as t) (e : Ext [] H H') : BelowAt H' D as t := by
  obtain ⟨ws, h1, h2, h3⟩ := B
  refine ⟨ws, e.keep _ _ h1 (by simp), h2, fun q hq => ?_⟩
  obtain ⟨l, rs, a1, a2, a3, a4⟩ := h3 q hq
  exact ⟨l, rs, a1, a2, a3.ext e (by simp), a4⟩
theorem BelowAt.get {H : Hp} {D u : Addr} {as : List Am} {t : List Pa} {x : Am} (B : BelowAt H D as t) (nd : as.Nodup) (hx : x ∈ as) (hu : isAmt H u x) : ∃ l rs, DGet H D (.ref u) (some (.ref l)) ∧ AmtAt H l rs ∧ rs.length ≤ as.length ∧ (∀ y ∈ rs, y ∈ as) ∧ ∀ y, y ∈ rs ↔ Rc t x y := by
  obtain ⟨ws, h1, h2, h3⟩ := B
  rw [← h2] at hx nd
  obtain ⟨v, hv⟩ := mem_keys hx
  obtain ⟨l, rs, a1, a2, a3, a4⟩ := h3 _ hv
  have a1 : v = .ref l := a1
  subst a1
  exact ⟨l, rs, by rw [← valV_dA nd hv]; exact DGet.t (k := amK x) h1 hu, a3, a4⟩
end Tp
/-! Ol: an order, and what the law reckons beside it -/
namespace Tp
open PySem PySem.Spec PyProof.Rows L2 He
section
variable {H H' : Hp} {S L l : Addr} {as : List Am} {t : List Pa}
theorem src_refs (s : SrcAt H S L) {vs : List V} (hl : H l = some (.lst vs)) (hv : ∀ v ∈ vs, ∃ u, v = .ref u) : l ≠ S := by
  intro e
  obtain ⟨cells, i, k, g, h1, _, _⟩ := s
  rw [e, h1] at hl
  have hl : [V.ref L, .int i, .int k, .int g] = vs := by
    injection hl with hl
    injection hl
  obtain ⟨u, hu⟩ := hv (.int i) (by rw [← hl]; simp)
  cases hu
theorem AmtAt.ne_src (h : AmtAt H l as) (s : SrcAt H S L) : l ≠ S := by
  obtain ⟨us, h1, _⟩ := h
  exact src_refs s h1 fun v hv => let ⟨u, _, e⟩ := List.mem_map.mp hv; ⟨u, e.symm⟩
theorem PrAt.ne_src (h : PrAt H l t) (s : SrcAt H S L) : l ≠ S := by
  obtain ⟨vs, h1, us, rfl, _⟩ := h
  exact src_refs s h1 fun v hv => let ⟨u, _, e⟩ := List.mem_map.mp hv; ⟨u, e.symm⟩
theorem src_dT (s : SrcAt H S L) {kvs : List (List Key × V)} (h : H l = some (.dT kvs)) : l ≠ S := by
  intro e
  obtain ⟨cells, i, k, g, h1, _, _⟩ := s
  rw [e, h1] at h
  cases h
theorem WalkAt.ne_src {x : Am} (h : WalkAt H l t x) (s : SrcAt H S L) : l ≠ S := let ⟨_, h1, _⟩ := h; src_dT s h1
theorem OrdAt.extS {C p dx D Lt : Addr} {ws : List (Am × V)} {th : List Am} (o : OrdAt C H p dx D Lt ws t th) (s : SrcAt H S L) (e : Ext [S] H H') : OrdAt C H' p dx D Lt ws t th := by
  have hp : p ≠ S := fun z => by
    obtain ⟨cells, i, k, g, h1, _, _⟩ := s
    have := o.ob
    rw [z, h1] at this
    cases this
  exact ⟨e.keep _ _ o.ob (by simpa using hp), e.keep _ _ o.dt (by simpa using src_dT s o.dt), o.nd, fun q hq => let ⟨B, h1, h2⟩ := o.wk q hq; ⟨B, h1, h2.ext e (by simpa using h2.ne_src s)⟩, o.tl.ext e (by simpa using o.tl.ne_src s), o.tn, o.wd, o.cl⟩
theorem BelowAt.extS {D : Addr} (b : BelowAt H D as t) (s : SrcAt H S L) (e : Ext [S] H H') : BelowAt H' D as t := by
  obtain ⟨ws, h1, h2, h3⟩ := b
  refine ⟨ws, e.keep _ _ h1 (by simpa using src_dT s h1), h2, fun q hq => ?_⟩
  obtain ⟨l, rs, a1, a2, a3, a4⟩ := h3 q hq
  exact ⟨l, rs, a1, a2, a3.ext e (by simpa using a3.ne_src s), a4⟩
/-- values that are none of these amounts -/
def BadL (as : List Am) (H : Hp) (vs : List V) : Prop := ∀ v ∈ vs, ∃ d, Av H v d ∧ ownD as d = false
theorem BadL.nil : BadL as H [] := fun _ h => by cases h
theorem BadL.ext {ms : List Addr} {vs : List V} (h : BadL as H vs) (e : Ext ms H H') : BadL as H' vs := fun v hv => let ⟨d, h1, h2⟩ := h v hv; ⟨d, h1.ext e, h2⟩
theorem BadL.snoc {vs : List V} {v : V} {d : PyData} (h : BadL as H vs) (hv : Av H v d) (hd : ownD as d = false) : BadL as H (vs ++ [v]) := fun x hx => by
  rcases List.mem_append.mp hx with hx | hx
  · exact h x hx
  · rw [List.mem_singleton.mp hx]
    exact ⟨d, hv, hd⟩
theorem BadL.app {vs ws : List V} (h : BadL as H vs) (h2 : BadL as H ws) : BadL as H (vs ++ ws) := fun x hx => (List.mem_append.mp hx).elim (h x) (h2 x)
/-- what stands between the questions -/
structure Oz (O : Addr) (H : Hp) (S L o dx D Lt lo ls Db lb : Addr) (as : List Am) (t : List Pa) (th : List Am) (ws : List (Am × V)) (bv : List V) : Prop where
  s : SrcAt H S L
  o : OrdAt O H o dx D Lt ws t th
  hw : ws.map (·.1) = as
  am : AmtAt H lo as
  pr : PrAt H ls t
  bl : BelowAt H Db as t
  bd : H lb = some (.lst bv)
  bS : lb ≠ S
  bb : BadL as H bv
  nd : as.Nodup
  al : as.length ≤ 100
  wd : ∀ q ∈ as, q.1 = ("take" : Str) ∨ q.1 = ("leave" : Str)
  ok : ∀ q ∈ t, okS q.1.1 ∧ okS q.2.1
  b0 : 0 < bv.length
  b1 : bv.length ≤ 1000
variable {O o dx D Lt lo ls Db lb : Addr} {th : List Am} {ws : List (Am × V)} {bv : List V}
theorem Oz.ext (z : Oz O H S L o dx D Lt lo ls Db lb as t th ws bv) (e : Ext [] H H') : Oz O H' S L o dx D Lt lo ls Db lb as t th ws bv :=
  ⟨z.s.ext e, z.o.ext e, z.hw, z.am.ext e (by simp), z.pr.ext e (by simp), z.bl.ext e, e.keep _ _ z.bd (by simp), z.bS, z.bb.ext e, z.nd, z.al, z.wd, z.ok, z.b0, z.b1⟩
theorem Oz.draw (z : Oz O H S L o dx D Lt lo ls Db lb as t th ws bv) (e : Ext [S] H H') (s : SrcAt H' S L) : Oz O H' S L o dx D Lt lo ls Db lb as t th ws bv :=
  ⟨s, z.o.extS z.s e, z.hw, z.am.ext e (by simpa using z.am.ne_src z.s), z.pr.ext e (by simpa using z.pr.ne_src z.s), z.bl.extS z.s e, e.keep _ _ z.bd (by simpa using z.bS), z.bS, z.bb.ext e, z.nd, z.al, z.wd, z.ok, z.b0, z.b1⟩
noncomputable def Rc' (t : List Pa) (x y : Am) : Bool := @decide (Rc t x y) (Classical.propDecidable _)
theorem rc_yes {t : List Pa} {x y : Am} (h : Rc t x y) : Rc' t x y = true := @decide_eq_true _ (Classical.propDecidable _) h
theorem rc_no {t : List Pa} {x y : Am} (h : ¬ Rc t x y) : Rc' t x y = false := @decide_eq_false _ (Classical.propDecidable _) h
theorem rc_mem {t : List Pa} {x y : Am} {rs : List Am} (h : ∀ y, y ∈ rs ↔ Rc t x y) : decide (y ∈ rs) = Rc' t x y := by
  by_cases hc : Rc t x y
  · rw [rc_yes hc, decide_eq_true ((h y).mpr hc)]
  · rw [rc_no hc, decide_eq_false fun z => hc ((h y).mp z)]
end
end Tp
/-! Ct: x in o, o of a class with its own __contains__; an order asked -/
namespace Tp
open PySem PySem.Spec PyProof.Rows L2 He
section
variable {X : Cx} {CX : CXT} {k : Nat} {C g : Addr} {fd : FuncData} {ps : List Str} {sp : Sp} {E : XK}
end
end Tp
namespace Tp
open PySem PySem.Spec PyProof.Rows L2 He
/-! ### a dict that is locked while it is walked -/
theorem rd_ext {H H' : Hp} {a : Addr} {u : HO} (h : Rd H a u) (e : Ext [] H H') : Rd H' a u := h.imp (fun h => e.keep _ _ h (by simp)) fun ⟨o, h⟩ => ⟨o, e.keep _ _ h (by simp)⟩
theorem DGet.rd {H : Hp} {a b : Addr} {kvs : List (List Key × V)} {k : List Key} (e : Rd H a (.dT kvs)) (eb : H b = some (.tup (k.map kV))) : DGet H a (.ref b) (valV kvs k) := .inr ⟨kvs, k, b, e, rfl, eb, rfl⟩
/-- an order as far as it is read while its dict is walked -/
structure OrdR (C : Addr) (H : Hp) (p dx D L : Addr) (ws : List (Am × V)) (t : List Pa) : Prop where
  ob : H p = some (.ins C dx [("_below", .ref D), ("_told", .ref L)])
  dt : Rd H D (.dT (dA ws))
  nd : (ws.map (·.1)).Nodup
  wk : ∀ q ∈ ws, ∃ B bs, q.2 = .ref B ∧ Rd H B (.dT (dA bs)) ∧ ∀ y, y ∈ bs.map (·.1) ↔ Rc t q.1 y
section
variable {C : Addr} {H H' : Hp} {p dx D L u v : Addr} {ws : List (Am × V)} {t : List Pa} {th : List Am} {x y : Am}
theorem OrdR.ext (o : OrdR C H p dx D L ws t) (e : Ext [] H H') : OrdR C H' p dx D L ws t :=
  ⟨e.keep _ _ o.ob (by simp), rd_ext o.dt e, o.nd, fun q hq => let ⟨B, bs, h1, h2, h3⟩ := o.wk q hq; ⟨B, bs, h1, rd_ext h2 e, h3⟩⟩
theorem OrdAt.rd (o : OrdAt C H p dx D L ws t th) : OrdR C H p dx D L ws t :=
  ⟨o.ob, .inl o.dt, o.nd, fun q hq => let ⟨B, h1, bs, h2, _, h3⟩ := o.wk q hq; ⟨B, bs, h1, .inl h2, h3⟩⟩
theorem OrdR.get (o : OrdR C H p dx D L ws t) (hx : x ∈ ws.map (·.1)) (hu : isAmt H u x) (hv : isAmt H v y) : ∃ B r, DGet H D (.ref u) (some (.ref B)) ∧ DGet H B (.ref v) r ∧ r.isSome = Rc' t x y := by
  obtain ⟨bv, hbv⟩ := mem_keys hx
  obtain ⟨B, bs, hB, hr, hiff⟩ := o.wk _ hbv
  have hB : bv = .ref B := hB
  subst hB
  refine ⟨B, valV (dA bs) (amK y), ?_, DGet.rd (k := amK y) hr hv, ?_⟩
  · rw [← valV_dA o.nd hbv]
    exact DGet.rd (k := amK x) o.dt hu
  · rw [isSome_dA]
    exact rc_mem hiff
end
theorem paired_getX {α β : Type} {R : α → β → Prop} : ∀ {xs : List α} {ys : List β} {i : Nat} {x : α}, Paired R xs ys → xs[i]? = some x → ∃ y, ys[i]? = some y ∧ R x y
  | _, _, _, _, .nil, h => by simp at h
  | _, _, 0, _, .cons r _, h => by
    simp at h
    exact ⟨_, rfl, h ▸ r⟩
  | _, _, i + 1, _, .cons _ p, h => by
    simp at h
    obtain ⟨y, h1, h2⟩ := paired_getX p h
    exact ⟨y, by simpa using h1, h2⟩
/-- an order and what the law reckons beside it -/
structure Ow (O : Addr) (H : Hp) (S L o dx D Lt lo ls Db lt : Addr) (as : List Am) (t : List Pa) (th : List Am) (ws : List (Am × V)) : Prop where
  s : SrcAt H S L
  o : OrdAt O H o dx D Lt ws t th
  hw : ws.map (·.1) = as
  am : AmtAt H lo as
  pr : PrAt H ls t
  bl : BelowAt H Db as t
  tt : AmtAt H lt th
  nd : as.Nodup
  al : as.length ≤ 100
  wd : ∀ q ∈ as, q.1 = ("take" : Str) ∨ q.1 = ("leave" : Str)
  ok : ∀ q ∈ t, okS q.1.1 ∧ okS q.2.1
  hn : ∀ q ∈ th, q ∈ as
  tl : th.length ≤ 100
section
variable {O S L o dx D Lt lo ls Db lt : Addr} {H H' : Hp} {as : List Am} {t : List Pa} {th : List Am} {ws : List (Am × V)}
theorem Ow.draw (z : Ow O H S L o dx D Lt lo ls Db lt as t th ws) (e : Ext [S] H H') (s : SrcAt H' S L) : Ow O H' S L o dx D Lt lo ls Db lt as t th ws :=
  ⟨s, z.o.extS z.s e, z.hw, z.am.ext e (by simpa using z.am.ne_src z.s), z.pr.ext e (by simpa using z.pr.ne_src z.s), z.bl.extS z.s e, z.tt.ext e (by simpa using z.tt.ne_src z.s), z.nd, z.al, z.wd, z.ok, z.hn, z.tl⟩
theorem Ow.ext (z : Ow O H S L o dx D Lt lo ls Db lt as t th ws) (e : Ext [] H H') : Ow O H' S L o dx D Lt lo ls Db lt as t th ws := z.draw e.nil (z.s.ext e)
end
end Tp
namespace Tp
open PySem PySem.Spec PyProof.Rows L2 He
end Tp
namespace Tp
open PySem PySem.Spec PyProof.Rows L2 He
/-- how many are taken, and which are none -/
structure Mny (as : List Am) (n : Nat) : Prop where
  tk : (as.filter fun q => decide (q.1 = ("take" : Str))).length = n
  lt : ∀ q ∈ as, q.2 < n
  le : n ≤ 50
  l0 : (("leave" : Str), 0) ∉ as
end Tp
namespace Tp
open PySem PySem.Spec PyProof.Rows L2 He
end Tp
/-! Rw: orders kept beside a book that grows -/
namespace Tp
open PySem PySem.Spec PyProof.Rows L2 He
theorem prevD_app {d : List (Str × Str)} {q : Str × Str} {x : Str} : ∀ n, n ≤ d.length → prevD (d ++ [q]) x n = prevD d x n
  | 0, _ => rfl
  | n + 1, h => by
    show (if ((d ++ [q])[n]?.map (·.1)) = some x then some n else prevD (d ++ [q]) x n) = (if (d[n]?.map (·.1)) = some x then some n else prevD d x n)
    rw [prevD_app n (by omega), List.getElem?_append_left (by omega)]
theorem leaveD_app {k c d : List (Str × Str)} {q : Str × Str} {i : Nat} (hi : i < d.length) : leaveD k c (d ++ [q]) i = leaveD k c d i := by
  unfold leaveD
  rw [List.getElem?_append_left hi]
  cases d[i]? with
  | none => rfl
  | some r =>
    dsimp only
    rw [prevD_app i (by omega)]
    cases hp : prevD d r.1 i with
    | none => rfl
    | some j =>
      have := (prevD_lt hp).1
      dsimp only
      rw [List.getElem?_append_left (by omega)]
theorem amtD_app {k c d : List (Str × Str)} {q : Str × Str} : ∀ n, n ≤ d.length → amtD k c (d ++ [q]) n = amtD k c d n
  | 0, _ => rfl
  | n + 1, h => by
    show (amtD k c (d ++ [q]) n ++ [(("take" : Str), n)]) ++ (if leaveD k c (d ++ [q]) n = true then [(("leave" : Str), n)] else []) = (amtD k c d n ++ [(("take" : Str), n)]) ++ (if leaveD k c d n = true then [(("leave" : Str), n)] else [])
    rw [amtD_app n (by omega), leaveD_app (by omega)]
theorem amtD_more {k c d : List (Str × Str)} {q : Str × Str} : ∀ x ∈ amtD k c d d.length, x ∈ amtD k c (d ++ [q]) (d ++ [q]).length := by
  intro x hx
  rw [List.length_append]
  show x ∈ (amtD k c (d ++ [q]) d.length ++ [(("take" : Str), d.length)]) ++ _
  rw [amtD_app d.length (Nat.le_refl _)]
  exact List.mem_append_left _ (List.mem_append_left _ hx)
theorem inA.more {xs ys : List Am} {f : Fk} (h : inA xs f) (hs : ∀ x ∈ xs, x ∈ ys) : inA ys f := by
  cases f with
  | tell x y => exact ⟨hs _ h.1, hs _ h.2⟩
  | some x => exact hs _ h
/-- neither a dict of amounts nor a list that begins with one -/
structure OffA (H : Hp) (x : Addr) : Prop where
  d : ∀ kvs, H x ≠ some (.dT kvs)
  l : ∀ u us q, H x = some (.lst (.ref u :: us)) → ¬ isAmt H u q
section
variable {O S L o dx D Lt lo ls Db lt : Addr} {H H' : Hp} {as : List Am} {t : List Pa} {th : List Am} {ws : List (Am × V)} {ms : List Addr}
theorem Ow.keep (z : Ow O H S L o dx D Lt lo ls Db lt as t th ws) (e : Ext ms H H') (s : SrcAt H' S L) (ho : ∀ x ∈ ms, OffA H x) (hn : ∀ x ∈ ms, x ≠ o ∧ x ≠ Lt ∧ x ≠ lo ∧ x ≠ ls ∧ x ≠ lt) : Ow O H' S L o dx D Lt lo ls Db lt as t th ws := by
  have nd : ∀ {x : Addr} {kvs : List (List Key × V)}, H x = some (.dT kvs) → x ∉ ms := fun h hm => (ho _ hm).d _ h
  have no : o ∉ ms := fun h => (hn o h).1 rfl
  have nt : Lt ∉ ms := fun h => (hn _ h).2.1 rfl
  have n1 : lo ∉ ms := fun h => (hn _ h).2.2.1 rfl
  have n2 : ls ∉ ms := fun h => (hn _ h).2.2.2.1 rfl
  have n3 : lt ∉ ms := fun h => (hn _ h).2.2.2.2 rfl
  refine ⟨s, ⟨e.keep _ _ z.o.ob no, e.keep _ _ z.o.dt (nd z.o.dt), z.o.nd, fun q hq => ?_, z.o.tl.ext e nt, z.o.tn, z.o.wd, z.o.cl⟩, z.hw, z.am.ext e n1, z.pr.ext e n2, ?_, z.tt.ext e n3, z.nd, z.al, z.wd, z.ok, z.hn, z.tl⟩
  · obtain ⟨B, h1, h2⟩ := z.o.wk q hq
    obtain ⟨bs, hb, _⟩ := id h2
    exact ⟨B, h1, h2.ext e (nd hb)⟩
  · obtain ⟨vs, h1, h2, h3⟩ := z.bl
    refine ⟨vs, e.keep _ _ h1 (nd h1), h2, fun q hq => ?_⟩
    obtain ⟨l, rs, a1, a2, a3, a4, a5, a6⟩ := h3 q hq
    refine ⟨l, rs, a1, a2, a3.ext e (fun hm => ?_), a4, a5, a6⟩
    obtain ⟨us, hus, hp⟩ := a3
    have hr : q.1 ∈ rs := (a6 _).mpr (.refl _)
    cases hp with
    | nil => cases hr
    | cons r p => exact (ho _ hm).l _ _ _ hus r
end
/-- one row: an order and what was reckoned beside it; fx may change -/
def Rw (O : Addr) (H : Hp) (S L R : Addr) (fx : List Addr) : Prop := ∃ o dx D Lt lo ls Db lt as t th ws n, H R = some (.lst [.ref o, .ref lo, .ref Db, .ref lt, .ref ls]) ∧ Ow O H S L o dx D Lt lo ls Db lt as t th ws ∧ Mny as n ∧ ∀ x ∈ fx, x ≠ R ∧ x ≠ o ∧ x ≠ Lt ∧ x ≠ lo ∧ x ≠ ls ∧ x ≠ lt
section
variable {O S L R : Addr} {H H' : Hp} {fx : List Addr}
theorem src_off (s : SrcAt H S L) : OffA H S := by
  obtain ⟨cells, i, k, g, h1, h2, _⟩ := s
  refine ⟨fun kvs h => (by rw [h1] at h; cases h), fun u us q h hu => ?_⟩
  rw [h1] at h
  injection h with h
  injection h with h
  injection h with h _
  injection h with h
  subst h
  have hu : H L = some (.tup _) := hu
  rw [h2] at hu
  cases hu
theorem Rw.keep (r : Rw O H S L R fx) (e : Ext (S :: fx) H H') (s : SrcAt H' S L) (hf : ∀ x ∈ fx, OffA H x) : Rw O H' S L R fx := by
  obtain ⟨o, dx, D, Lt, lo, ls, Db, lt, as, t, th, ws, n, hR, z, my, hn⟩ := r
  have RS : R ≠ S := src_refs z.s hR fun v hv => by
    simp only [List.mem_cons, List.not_mem_nil, or_false] at hv
    rcases hv with rfl | rfl | rfl | rfl | rfl <;> exact ⟨_, rfl⟩
  have oS : o ≠ S := fun h => by
    obtain ⟨cells, i, k, g, h1, _⟩ := z.s
    have := z.o.ob
    rw [h, h1] at this
    cases this
  refine ⟨o, dx, D, Lt, lo, ls, Db, lt, as, t, th, ws, n, e.keep _ _ hR ?_, z.keep e s (fun x hx => ?_) (fun x hx => ?_), my, hn⟩
  · intro hm
    rcases List.mem_cons.mp hm with h | h
    · exact RS h
    · exact (hn _ h).1 rfl
  · rcases List.mem_cons.mp hx with h | h
    · rw [h]; exact src_off z.s
    · exact hf x h
  · rcases List.mem_cons.mp hx with h | h
    · rw [h]
      exact ⟨Ne.symm oS, Ne.symm (z.o.tl.ne_src z.s), Ne.symm (z.am.ne_src z.s), Ne.symm (z.pr.ne_src z.s), Ne.symm (z.tt.ne_src z.s)⟩
    · exact (hn x h).2
theorem Rw.draw (r : Rw O H S L R []) (e : Ext [S] H H') (s : SrcAt H' S L) : Rw O H' S L R [] := r.keep e s fun x h => nomatch h
theorem Rw.grow (r : Rw O H S L R []) (s0 : SrcAt H S L) (e : Ext [] H H') : Rw O H' S L R [] := r.draw e.nil (s0.ext e)
theorem Rw.rest (r : Rw O H S L R fx) : Rw O H S L R [] := by
  obtain ⟨o, dx, D, Lt, lo, ls, Db, lt, as, t, th, ws, n, hR, z, my, hn⟩ := r
  exact ⟨o, dx, D, Lt, lo, ls, Db, lt, as, t, th, ws, n, hR, z, my, fun x h => nomatch h⟩
/-- lists of texts' pairs, of facts, an object -/
theorem OffA.ins {C dx : Addr} {fs : List (Str × V)} {x : Addr} (h : H x = some (.ins C dx fs)) : OffA H x := ⟨fun kvs z => (by rw [h] at z; cases z), fun u us q z => (by rw [h] at z; cases z)⟩
theorem OffA.pt {x : Addr} {vs : List V} {d : List (Str × Str)} (h : H x = some (.lst vs)) (p : PT H vs d) : OffA H x := by
  refine ⟨fun kvs z => (by rw [h] at z; cases z), fun u us q z hu => ?_⟩
  rw [h] at z
  cases z
  obtain ⟨as, h1, hp⟩ := p
  cases hp with
  | nil => cases h1
  | cons r _ =>
    cases h1
    have hu : H _ = some (.tup [.str q.1, .int (q.2 : Int)]) := hu
    rw [r] at hu
    injection hu with hu
    injection hu with hu
    injection hu with _ hu
    injection hu with hu _
    cases hu
theorem OffA.fl {x : Addr} {vs : List V} {fs : List Fk} (h : H x = some (.lst vs)) (p : FL H vs fs) : OffA H x := by
  refine ⟨fun kvs z => (by rw [h] at z; cases z), fun u us q z hu => ?_⟩
  rw [h] at z
  cases z
  obtain ⟨v, f, h1, h2, h3⟩ := p.get (i := 0) (v := .ref u) rfl
  cases h1
  have hu : H _ = some (.tup [.str q.1, .int (q.2 : Int)]) := hu
  cases f with
  | some y =>
    obtain ⟨b, g1, _⟩ := h3
    rw [g1] at hu
    injection hu with hu
    injection hu with hu
    injection hu with _ hu
    injection hu with hu _
    cases hu
  | tell y w =>
    obtain ⟨b, b', g1, _⟩ := h3
    rw [g1] at hu
    injection hu with hu
    injection hu with hu
    injection hu with _ hu
    injection hu with hu _
    cases hu
end
end Tp
namespace Tp
open PySem PySem.Spec PyProof.Rows L2 He
section
variable {C : Addr} {H H' : Hp} {S L b y : Addr} {a : Mad} {A : Bk} {k t : List (Str × Str)} {p : List Str} {c d kb tb : List (Str × Str)} {pb : List Str} {cb db : List (Str × Str)} {fs fb : List Fk} {ts ds us ms : List V}
theorem OffA.row {x : Addr} {d : List (Str × Str)} (r : RowAt H x d) : OffA H x := by
  obtain ⟨as, h, hp⟩ := r
  exact OffA.pt h ⟨as, rfl, hp⟩
/-- a list of lists -/
theorem OffA.lists {rs : List Addr} (h : H y = some (.lst (rs.map V.ref))) (hr : ∀ R ∈ rs, ∃ vs, H R = some (.lst vs)) : OffA H y := by
  refine ⟨fun kvs z => (by rw [h] at z; cases z), fun u us q z hu => ?_⟩
  rw [h] at z
  cases rs with
  | nil => cases z
  | cons R rs =>
    cases z
    obtain ⟨vs, hv⟩ := hr u (by simp)
    have hu : H u = some (.tup _) := hu
    rw [hv] at hu
    cases hu
theorem Rw.lst {O R : Addr} {fx : List Addr} (r : Rw O H S L R fx) : ∃ vs, H R = some (.lst vs) := let ⟨_, _, _, _, _, _, _, _, _, _, _, _, _, h, _⟩ := r; ⟨_, h⟩
end
end Tp
namespace Tp
open PySem PySem.Spec PyProof.Rows L2 He
theorem Lx.some {C : Addr} {H : Hp} {S L b y : Addr} {a : Mad} {A : Bk} {k t : List (Str × Str)} {p : List Str} {c d kb tb : List (Str × Str)} {pb : List Str} {cb db : List (Str × Str)} {fs fb : List Fk} {ts ds us ms : List V} (j : Lx C H S L b a A k t p c d kb tb pb cb db fs fb ts ds us ms) (hy : ∃ v, H y = .some v) : ∀ x ∈ [b, A.lf, A.lt, a.m1, a.m4, a.m5, y], ∃ v, H x = .some v := by
  intro x hx
  simp only [List.mem_cons, List.not_mem_nil, or_false] at hx
  rcases hx with rfl | rfl | rfl | rfl | rfl | rfl | rfl
  · exact ⟨_, j.B.B.ob⟩
  · exact ⟨_, j.B.B.lf⟩
  · exact ⟨_, j.B.B.lt⟩
  · exact let ⟨_, h, _⟩ := j.M.r1; ⟨_, h⟩
  · exact let ⟨_, h, _⟩ := j.M.r4; ⟨_, h⟩
  · exact ⟨_, j.M.r5⟩
  · exact hy
end Tp
namespace Tp
open PySem PySem.Spec PyProof.Rows L2 He
theorem BookAt.some {C : Addr} {H : Hp} {p : Addr} {b : Int} {A : Bk} {ks cs : List (Str × V)} {ts ds fs : List V} {ps : List Str} (B : BookAt C H p b A ks ts ps cs ds fs) : ∀ a ∈ A.all p, ∃ v, H a = .some v := by
  intro a ha
  simp only [Bk.all, List.mem_cons, List.not_mem_nil, or_false] at ha
  rcases ha with rfl | rfl | rfl | rfl | rfl | rfl | rfl
  · exact ⟨_, B.ob⟩
  · exact ⟨_, B.dk⟩
  · exact ⟨_, B.lt⟩
  · exact ⟨_, B.lp⟩
  · exact ⟨_, B.dc⟩
  · exact ⟨_, B.ld⟩
  · exact ⟨_, B.lf⟩
end Tp
/-! Su: first, *rest = a tuple -/
namespace Tp
open PySem PySem.Spec PyProof.Rows L2 He
theorem walks_shift {prog : Program} {w : World} {A : Around} {I : Addr} {fp wr : List Addr} {G : Array GenState → Array GenState → Prop} {n : Nat} {P : Nat → Value → Prop} {St : Nat → Shared → Prop} (k : Nat) (hk : k ≤ n) (W : WalksS prog w A I fp wr G n P St) :
    WalksS prog w A I fp wr G (n - k) (fun i => P (i + k)) (fun i => St (i + k)) where
  sub := W.sub
  grefl := W.grefl
  gtrans := W.gtrans
  frame := fun i => W.frame (i + k)
  item := fun i s Q E hi st hQ => W.item (i + k) s Q E (by omega) st fun v s' h1 h2 h3 => hQ v s' h1 (by rw [show i + 1 + k = i + k + 1 by omega]; exact h2) h3
  done := fun s Q E st hQ => W.done s Q E (by rw [show n - k + k = n by omega] at st; exact st) hQ
  self := fun i => W.self (i + k)
/-- first, *rest = a tuple -/
def gStar (K : PySem.W.Frag) (t : TGs) : TG := fun v σ H Q => ∃ a x xs, v = .ref a ∧ SqT K H a (x :: xs) ∧ ∀ l, H l = none → t [x, .ref l] σ (upd H l (.lst xs)) Q
section
variable {X : Cx} {e1 e2 : Expr} {p pos : Pos} {k : Nat} {t : TGs}
theorem pg_star (hc : X.calm = true) (h : PGs X [e1, e2] t) (hst : assignEach [e1, .Starred e2 p] X.env = [(false, assign e1 X.env), (true, assign e2 X.env)] := by rfl) (he : (assignEach [e1, e2] X.env).map (·.2) = [assign e1 X.env, assign e2 X.env] := by rfl) : PG X (.Tuple [e1, .Starred e2 p] k pos) (gStar X.K t) := by
  refine ⟨fun pins s σ H v u Q I r hw => ?_⟩
  obtain ⟨a, x, xs, e0, hq, hw⟩ := hw
  subst e0
  cases r
  obtain ⟨its, rv, ht, hz⟩ := I.tuple hq
  cases rv with
  | @cons _ ux _ uxs rx rxs =>
  rw [assign_Tuple]
  refine wpAny_bind (wpAny_standAt ?_)
  unfold unpack
  rw [hst]
  refine wpAny_bind (wpAny_holding ?_)
  have hlt : a ≠ s.heap.objs.size := by obtain ⟨o, ho, _⟩ := ht; exact Nat.ne_of_lt (Heap.lt_size ho)
  show wpAny _ _ (unpackItems (.ref a) 2 (some 1)) _ _ _
  unfold unpackItems
  refine wpAny_bind ?_
  unfold notIterableAtAll
  refine wpAny_bind (wpAny_specialOf ht.typeIs slot_tuple_iter.lookup ?_)
  refine wpAny_pure ?_
  simp only [Bool.false_eq_true, if_false]
  have fp0 : FpOk X pins H s.heap.objs.size := I.fpOk (Nat.le_refl _) (I.hok.fresh (Nat.le_refl _))
  refine wpAny_bind (wpAny_holding (iter_tuple ht ?_))
  have I1 : Inv X pins σ H { s with heap := s.heap.push { cls := .type "tuple_iterator", data := .fields #[.ref a, .int 0 0] } } := I.kept (t' := s.toks) fun b o e => Heap.get?_push_of_some _ e
  refine wpAny_bind (wpAny_holding (draw_tuple hlt 1 0 _ _ ⟨_, Heap.get?_push_size _ rfl, rfl, rfl⟩ (ht.push _) (by simp) fun h₁ hit₁ hs₁ => ?_))
  have ht1 : IsTup h₁ a (ux :: uxs).toArray := (ht.push _).extBut hs₁.extBut hlt
  have I2 := I1.turnedL (h' := h₁) (t' := s.toks) (ch := [s.heap.objs.size]) (fun b o hb e => hs₁.extBut b o (by simpa using hb) e) fun b hb => by
    rw [List.mem_singleton.mp hb]
    exact fp0
  have hlen : ((ux :: uxs).toArray.toList.drop 0).take 1 = [ux] := by simp
  rw [hlen]
  rw [if_neg (show ¬ [ux].length < 1 from Nat.lt_irrefl 1)]
  have hul := rxs.length
  have hsz : uxs.length + 1 ≤ sizeLine := by
    have h1 : xs.length + 1 ≤ sizeLine := by simpa using hz
    omega
  have W := walks_shift 1 (by simp) (Walks.tuple (prog := X.prog) (w := X.w) (A := X.A.in1) (I.ok.hd hc) s.heap.objs.size a hlt (ux :: uxs).toArray).toS
  refine wpAny_bind (wpAny_holding (wpAny_collect_iter (T := "tuple_iterator") (.inr (.inr (.inr rfl))) W (fun i s2 st => st.1.typeIs) ⟨hit₁, ht1⟩ (fun b hb => ?_) (by simp) (fun s' acc hm hacc => ?_) (by simp; omega)))
  · simp only [List.mem_cons, List.not_mem_nil, or_false] at hb
    rcases hb with rfl | rfl
    · obtain ⟨o, ho, _⟩ := hit₁
      exact Heap.lt_size ho
    · obtain ⟨o, ho, _⟩ := ht1
      exact Heap.lt_size ho
  · obtain ⟨hp', g', d', tk', os'⟩ := s'
    obtain ⟨m1, m2, m3, m4, m5⟩ := hm
    dsimp only at m1 m2 m3 m4 m5
    subst m2 m3 m4
    have hacc2 : acc.toList = uxs := by
      refine List.ext_getElem? fun j => ?_
      rw [Array.getElem?_toList]
      by_cases hj : j < acc.size
      · have h1 := hacc.2 j _ (Array.getElem?_eq_getElem hj)
        rw [Array.getElem?_eq_getElem hj]
        simpa using h1.symm
      · rw [Array.getElem?_eq_none (by omega)]
        have h2 := hacc.1
        simp at h2
        rw [List.getElem?_eq_none (by omega)]
    rw [hacc2]
    rw [if_neg (by simp)]
    have ht2 : uxs.take (uxs.length - (2 - 1 - 1)) = uxs := List.take_of_length_le (by omega)
    have hd2 : uxs.drop (uxs.length - (2 - 1 - 1)) = [] := List.drop_of_length_le (by omega)
    rw [ht2, hd2]
    refine wpAny_bind (PySem.wpAny_newList ?_ (by show uxs.toArray.size ≤ sizeLine; simp; omega))
    refine wpAny_pure ?_
    have I3 := I2.turnedL (h' := hp') (t' := tk') (ch := [s.heap.objs.size]) (fun b o hb e => m1 b o hb e) fun b hb => by
      rw [List.mem_singleton.mp hb]
      exact fp0
    have hf : H hp'.objs.size = none := I3.hok.fresh (Nat.le_refl _)
    have I4 := I3.laid (a := hp'.objs.size) (o := .lst xs) (h' := hp'.push { cls := .type "list", data := .seq uxs.toArray }) (t' := tk') (fun b u e => Heap.get?_push_of_some _ e) (Nat.le_refl _) ⟨by omega, uxs, 0, rxs, Heap.get?_push_size _ rfl⟩
    have q := hw _ hf
    have e0 : (List.map (fun x : Bool × (Value → Sem Unit) => x.2) [(false, assign e1 X.env), (true, assign e2 X.env)]) = (assignEach [e1, e2] X.env).map (·.2) := he.symm
    show wpAny _ _ (assignInOrder (List.map (fun x => x.2) [(false, assign e1 X.env), (true, assign e2 X.env)]) ([ux] ++ [Value.ref hp'.objs.size] ++ [])) _ _ _
    rw [e0]
    exact h.run pins _ σ _ [x, .ref hp'.objs.size] [ux, .ref hp'.objs.size] Q I4 (.cons rx (.cons rfl .nil)) q
end
end Tp
/-! Tx: a book's text -/
namespace Tp
open PySem PySem.Spec PyProof.Rows L2 He
abbrev nS (n : Nat) : Str := Str.ofString (toString (n : Int))
theorem nS_len : ∀ n, n < 100 → (nS n).length ≤ 2 := by decide +kernel
theorem str_assoc (a b c : Str) : a ++ b ++ c = a ++ (b ++ c) := by
  obtain ⟨x⟩ := a
  obtain ⟨y⟩ := b
  obtain ⟨z⟩ := c
  show Str.mk ((x ++ y) ++ z) = Str.mk (x ++ (y ++ z))
  rw [Array.append_assoc]
theorem str_nil (a : Str) : (⟨#[]⟩ : Str) ++ a = a := by
  obtain ⟨x⟩ := a
  show Str.mk (#[] ++ x) = Str.mk x
  rw [Array.empty_append]
theorem nil_str (a : Str) : a ++ (⟨#[]⟩ : Str) = a := by
  obtain ⟨x⟩ := a
  show Str.mk (x ++ #[]) = Str.mk x
  rw [Array.append_empty]
theorem str_len (a b : Str) : (a ++ b).length = a.length + b.length := by
  obtain ⟨x⟩ := a
  obtain ⟨y⟩ := b
  show (x ++ y).size = x.size + y.size
  exact Array.size_append
/-- all these, one behind the other -/
def catS : List Str → Str
  | [] => ⟨#[]⟩
  | z :: r => z ++ catS r
theorem catS_app : ∀ (a b : List Str), catS (a ++ b) = catS a ++ catS b
  | [], b => (str_nil _).symm
  | z :: r, b => by
    show z ++ catS (r ++ b) = (z ++ catS r) ++ catS b
    rw [catS_app r b, str_assoc]
theorem catS_len : ∀ (a : List Str), (catS a).length = (a.map (·.length)).sum
  | [] => rfl
  | z :: r => by
    show (z ++ catS r).length = z.length + (r.map (·.length)).sum
    rw [str_len, catS_len r]
theorem join_is (y : Str) (zs : List Str) : Txt.join y zs = Str.join y zs := StrLaws.glued_eq_join ..
theorem join_nil : ∀ (a : List Str), Txt.join ⟨#[]⟩ a = catS a := by
  intro a
  rw [join_is]
  induction a with
  | nil => rfl
  | cons x r ih =>
    cases r with
    | nil => exact (nil_str x).symm
    | cons z r =>
      show x ++ ⟨#[]⟩ ++ Str.join ⟨#[]⟩ (z :: r) = x ++ catS (z :: r)
      rw [ih, nil_str]
/-- the words of a fact -/
def fwD : Fk → List Str
  | .tell x y => ["tell", x.1, nS x.2, y.1, nS y.2]
  | .some x => ["some", x.1, nS x.2]
/-- all words of a book -/
def rowsD (k t : List (Str × Str)) (p : List Str) (c d : List (Str × Str)) (fs : List Fk) : List (List Str) :=
  k.map (fun q => [("kind" : Str), q.1, q.2]) ++ (t.map (fun q => [("thirst" : Str), q.1, q.2]) ++ (p.map (fun z => [("pot" : Str), z]) ++ (c.map (fun q => [("cloth" : Str), q.1, q.2]) ++ (d.map (fun q => [("dip" : Str), q.1, q.2]) ++ fs.map fwD))))
abbrev nl : Str := "\n"
abbrev sp1 : Str := " "
abbrev lineD (ws : List Str) : Str := Txt.join sp1 ws ++ nl
def textD (rows : List (List Str)) : Str := catS (rows.map lineD)
theorem j2 (a b : Str) : Txt.join sp1 [a, b] = a ++ sp1 ++ b := by rw [join_is]; rfl
theorem j3 (a b c : Str) : Txt.join sp1 [a, b, c] = a ++ sp1 ++ b ++ sp1 ++ c := by
  rw [join_is]
  show a ++ sp1 ++ (b ++ sp1 ++ c) = _
  rw [str_assoc (a ++ sp1) b sp1, str_assoc (a ++ sp1) (b ++ sp1) c]
theorem j5 (a b c d e : Str) : Txt.join sp1 [a, b, c, d, e] = Txt.join sp1 [a, b ++ sp1 ++ c, d ++ sp1 ++ e] := by
  rw [join_is, join_is]
  show a ++ sp1 ++ (b ++ sp1 ++ (c ++ sp1 ++ (d ++ sp1 ++ e))) = a ++ sp1 ++ ((b ++ sp1 ++ c) ++ sp1 ++ (d ++ sp1 ++ e))
  simp only [str_assoc]
/-- the lines by the law's reckoning -/
def linesD (k t : List (Str × Str)) (p : List Str) (c d : List (Str × Str)) (fs : List Fk) : List (List Str) :=
  [k.map fun q => ("kind " : Str) ++ q.1 ++ sp1 ++ q.2, t.map fun q => ("thirst " : Str) ++ q.1 ++ sp1 ++ q.2, p.map fun z => ("pot " : Str) ++ z, c.map fun q => ("cloth " : Str) ++ q.1 ++ sp1 ++ q.2, d.map fun q => ("dip " : Str) ++ q.1 ++ sp1 ++ q.2,
    fs.map fun f => Txt.join sp1 (fwD f)]
def textL (gs : List (List Str)) : Str := catS (gs.map fun g => catS (g.map (· ++ nl)))
theorem text_same {k t : List (Str × Str)} {p : List Str} {c d : List (Str × Str)} {fs : List Fk} : textL (linesD k t p c d fs) = textD (rowsD k t p c d fs) := by
  have h3 : ∀ (w w' : Str), w' = w ++ sp1 → ∀ l : List (Str × Str), (l.map fun q => w' ++ q.1 ++ sp1 ++ q.2).map (· ++ nl) = (l.map fun q => [w, q.1, q.2]).map lineD := by
    intro w w' e l
    rw [List.map_map, List.map_map]
    refine List.map_congr_left fun q _ => ?_
    show w' ++ q.1 ++ sp1 ++ q.2 ++ nl = Txt.join sp1 [w, q.1, q.2] ++ nl
    rw [j3, e]
  have h2 : (p.map fun z => ("pot " : Str) ++ z).map (· ++ nl) = (p.map fun z => [("pot" : Str), z]).map lineD := by
    rw [List.map_map, List.map_map]
    refine List.map_congr_left fun z _ => ?_
    show ("pot " : Str) ++ z ++ nl = Txt.join sp1 ["pot", z] ++ nl
    rw [j2, show ("pot " : Str) = ("pot" : Str) ++ sp1 from by decide +kernel]
  have hf : (fs.map fun f => Txt.join sp1 (fwD f)).map (· ++ nl) = (fs.map fwD).map lineD := by
    rw [List.map_map, List.map_map]
    rfl
  unfold textL textD linesD rowsD
  simp only [List.map_cons, List.map_nil, List.map_append, catS_app]
  rw [h3 "kind" "kind " (by decide +kernel), h3 "thirst" "thirst " (by decide +kernel), h3 "cloth" "cloth " (by decide +kernel), h3 "dip" "dip " (by decide +kernel), h2, hf]
  simp only [catS, nil_str]
end Tp
namespace Tp
open PySem PySem.Spec PyProof.Rows L2 He
/-- the words of amounts -/
def wdA : List Am → List Str
  | [] => []
  | q :: r => q.1 :: nS q.2 :: wdA r
theorem wdA_snoc : ∀ (l : List Am) (q : Am), wdA (l ++ [q]) = wdA l ++ [q.1, nS q.2]
  | [], _ => rfl
  | x :: r, q => by
    show x.1 :: nS x.2 :: wdA (r ++ [q]) = _
    rw [wdA_snoc r q]
    rfl
theorem wdA_len : ∀ (l : List Am), (wdA l).length = 2 * l.length
  | [] => rfl
  | x :: r => by
    show (wdA r).length + 1 + 1 = _
    rw [wdA_len r, List.length_cons]
    omega
/-- a fact of low numbers -/
def lowF : Fk → Prop
  | .tell x y => x.2 < 100 ∧ y.2 < 100
  | .some x => x.2 < 100
/-- lists of texts -/
def LnP (H : Hp) (as : List Addr) (rows : List (List Str)) : Prop := Paired (fun a ws => H a = some (.lst (ws.map V.str))) as rows
theorem LnP.ext {H H' : Hp} {as : List Addr} {rows : List (List Str)} (h : LnP H as rows) (e : Ext [] H H') : LnP H' as rows := by
  induction h with
  | nil => exact .nil
  | cons x _ ih => exact .cons (e.keep _ _ x (by simp)) ih
/-- _lines_of(book) -/
def spLinesOf (C : Addr) : Sp := fun vs H Q _ => ∃ p i A k t ps c d fs ts ds us, vs = [.ref p] ∧ BkI C H p i A k t ps c d fs ts ds us ∧ ps.length ≤ 1000 ∧ (∀ f ∈ fs, lowF f) ∧ ∀ l as H', H l = none → Ext [] H H' → H' l = some (.lst (as.map V.ref)) → LnP H' as (rowsD k t ps c d fs) → Q (.ref l) H'
end Tp
namespace Tp
open PySem PySem.Spec PyProof.Rows L2 He
theorem LnP.snoc {H : Hp} {as : List Addr} {rows : List (List Str)} {a : Addr} {ws : List Str} (h : LnP H as rows) (ha : H a = some (.lst (ws.map V.str))) : LnP H (as ++ [a]) (rows ++ [ws]) := by
  induction h with
  | nil => exact .cons ha .nil
  | cons x _ ih => exact .cons x ih
theorem LnP.len {H : Hp} {as : List Addr} {rows : List (List Str)} (h : LnP H as rows) : as.length = rows.length := Paired.length h
theorem LnP.app {H : Hp} {as bs : List Addr} {rows rows' : List (List Str)} (h : LnP H as rows) (h2 : LnP H bs rows') : LnP H (as ++ bs) (rows ++ rows') := by
  induction h with
  | nil => exact h2
  | cons x _ ih => exact .cons x ih
theorem ln_off {H : Hp} {R : Addr} {o : HO} {as : List Addr} {rows : List (List Str)} (h : LnP H as rows) (hn : R ∉ as) : LnP (upd H R o) as rows := by
  induction h with
  | nil => exact .nil
  | @cons a ws as rows x _ ih =>
    rw [List.mem_cons, not_or] at hn
    exact .cons (by rw [upd_ne (Ne.symm hn.1)]; exact x) (ih hn.2)
/-- over pairs of texts: a list of three texts each -/
theorem lc_pairs {K : PySem.W.Frag} {a R : Addr} {as : List Addr} {prs : List (Str × Str)} {σ : L2.St} {H1 : Hp} {i j : Nat} {w : Str} {Qd : Hp → Prop} (hl : H1 a = some (.lst (as.map V.ref))) (hp : Paired (fun (t : Addr) (q : Str × Str) => H1 t = some (.tup [.str q.1, .str q.2])) as prs) (hR : H1 R = none) (hn : as.length ≤ 1000)
    (hw : ∀ x y, wipe (((wipe σ [i, j]).set i (some x)).set j (some y)) [i, j] = wipe σ [i, j]) (h1 : ∀ x y, (((wipe σ [i, j]).set i (some x)).set j (some y))[i]? = some (some x)) (h2 : ∀ x y, (((wipe σ [i, j]).set i (some x)).set j (some y))[j]? = some (some y))
    (hd : ∀ H' rs, Ext [] H1 H' → H' R = some (.lst (rs.map V.ref)) → LnP H' rs (prs.map fun q => [w, q.1, q.2]) → R ∉ rs → Qd H') :
    ∃ W : Nat → Nat → Hp → Prop, (∃ m, W 0 m (upd H1 R (.lst []))) ∧ ∀ n m H, W n m H →
      ((Itl K a).stop n H ∧ Qd H) ∨ ((Itl K a).go n H ∧ ∃ Nx : Hp → Prop, (∀ H', Nx H' → ∃ m', m' < m ∧ W (n + 1) m' H') ∧ ∀ x H', (Itl K a).yld n H x H' → gTup K 2 (gCons (gName i) (gCons (gName j) gNil)) x (wipe σ [i, j]) H' fun σ2 H2 => wipe σ2 [i, j] = wipe σ [i, j] ∧ tYes σ2 H2 fun b H3 =>
        if b = true then tLst (tCons (tC (.str w)) (tCons (tVar i) (tCons (tVar j) tNil))) σ2 H3 fun y H4 => ∃ acc, H4 R = some (.lst acc) ∧ acc.length < sizeLine ∧ Nx (upd H4 R (.lst (acc ++ [y]))) else Nx H3) := by
  have hpl : as.length = prs.length := Paired.length hp
  refine lc_list (xs := as.map V.ref) (fun n H' => Ext [] H1 H' ∧ ∃ rs, H' R = some (.lst (rs.map V.ref)) ∧ LnP H' rs ((prs.take n).map fun q => [w, q.1, q.2]) ∧ R ∉ rs) ⟨Ext.new hR, [], upd_same, .nil, by simp⟩ ?_ ?_ ?_
  · rintro n H' _ ⟨e, _⟩
    exact SqL.of (e.keep _ _ hl (by simp))
  · rintro n x H' hx ⟨e, rs, hrs, hln, hnr⟩
    rw [List.getElem?_map] at hx
    obtain ⟨u, hu, rfl⟩ := Option.map_eq_some_iff.mp hx
    obtain ⟨q, hq, hT⟩ := paired_getX hp hu
    have hT1 := e.tups _ _ hT
    refine ⟨u, _, rfl, .inl (.inl hT1), rfl, _, _, rfl, _, _, rfl, rfl, hw _ _, ?_⟩
    refine tyes ?_
    refine ⟨_, h1 _ _, _, h2 _ _, by show 3 ≤ sizeLine; decide, fun l hl2 => ?_⟩
    have e2 : Ext [] H' (upd H' l (.lst [.str w, .str q.1, .str q.2])) := Ext.new hl2
    have hrs2 := e2.keep _ _ hrs (by simp)
    have hRl : R ≠ l := ne_of_none hrs hl2
    have hrl := hln.len
    rw [List.length_map, List.length_take] at hrl
    have hln2 : LnP (upd H' l (.lst [.str w, .str q.1, .str q.2])) (rs ++ [l]) ((prs.take n).map (fun q => [w, q.1, q.2]) ++ [[w, q.1, q.2]]) := (hln.ext e2).snoc upd_same
    refine ⟨_, hrs2, by rw [List.length_map]; exact Evl.sz_lt (by omega), (e.trans e2).fresh hR, rs ++ [l], by rw [upd_same, List.map_append]; rfl, ?_, ?_⟩
    · rw [take_snoc hq, List.map_append]
      exact ln_off hln2 (by simp [hnr, hRl])
    · simp [hnr, hRl]
  · rintro H' ⟨e, rs, hrs, hln, hnr⟩
    rw [List.length_map, List.take_of_length_le (by omega)] at hln
    exact hd H' rs e hrs hln hnr
theorem prs_tv {H : Hp} : ∀ {as : List Addr} {k : List (Str × Str)}, prsAt H as (k.map tv) → Paired (fun (t : Addr) (q : Str × Str) => H t = some (.tup [.str q.1, .str q.2])) as k
  | _, [], h => by
    cases h
    exact .nil
  | _, q :: k, h => by
    cases h with
    | cons x r => exact .cons x (prs_tv r)
/-- over texts: a list of two texts each -/
theorem lc_strs {K : PySem.W.Frag} {a R : Addr} {zs : List Str} {σ : L2.St} {H1 : Hp} {i : Nat} {w : Str} {Qd : Hp → Prop} (hl : H1 a = some (.lst (zs.map V.str))) (hR : H1 R = none) (hn : zs.length ≤ 1000)
    (hw : ∀ x, wipe ((wipe σ [i]).set i (some x)) [i] = wipe σ [i]) (h1 : ∀ x, ((wipe σ [i]).set i (some x))[i]? = some (some x))
    (hd : ∀ H' rs, Ext [] H1 H' → H' R = some (.lst (rs.map V.ref)) → LnP H' rs (zs.map fun z => [w, z]) → R ∉ rs → Qd H') :
    ∃ W : Nat → Nat → Hp → Prop, (∃ m, W 0 m (upd H1 R (.lst []))) ∧ ∀ n m H, W n m H →
      ((Itl K a).stop n H ∧ Qd H) ∨ ((Itl K a).go n H ∧ ∃ Nx : Hp → Prop, (∀ H', Nx H' → ∃ m', m' < m ∧ W (n + 1) m' H') ∧ ∀ x H', (Itl K a).yld n H x H' → gName i x (wipe σ [i]) H' fun σ2 H2 => wipe σ2 [i] = wipe σ [i] ∧ tYes σ2 H2 fun b H3 =>
        if b = true then tLst (tCons (tC (.str w)) (tCons (tVar i) tNil)) σ2 H3 fun y H4 => ∃ acc, H4 R = some (.lst acc) ∧ acc.length < sizeLine ∧ Nx (upd H4 R (.lst (acc ++ [y]))) else Nx H3) := by
  refine lc_list (xs := zs.map V.str) (fun n H' => Ext [] H1 H' ∧ ∃ rs, H' R = some (.lst (rs.map V.ref)) ∧ LnP H' rs ((zs.take n).map fun z => [w, z]) ∧ R ∉ rs) ⟨Ext.new hR, [], upd_same, .nil, by simp⟩ ?_ ?_ ?_
  · rintro n H' _ ⟨e, _⟩
    exact SqL.of (e.keep _ _ hl (by simp))
  · rintro n x H' hx ⟨e, rs, hrs, hln, hnr⟩
    rw [List.getElem?_map] at hx
    obtain ⟨z, hz, rfl⟩ := Option.map_eq_some_iff.mp hx
    refine ⟨hw _, ?_⟩
    refine tyes ?_
    refine ⟨_, h1 _, by show 2 ≤ sizeLine; decide, fun l hl2 => ?_⟩
    have e2 : Ext [] H' (upd H' l (.lst [.str w, .str z])) := Ext.new hl2
    have hrs2 := e2.keep _ _ hrs (by simp)
    have hRl : R ≠ l := ne_of_none hrs hl2
    have hrl := hln.len
    rw [List.length_map, List.length_take] at hrl
    have hln2 : LnP (upd H' l (.lst [.str w, .str z])) (rs ++ [l]) ((zs.take n).map (fun z => [w, z]) ++ [[w, z]]) := (hln.ext e2).snoc upd_same
    refine ⟨_, hrs2, by rw [List.length_map]; exact Evl.sz_lt (by omega), (e.trans e2).fresh hR, rs ++ [l], by rw [upd_same, List.map_append]; rfl, ?_, ?_⟩
    · rw [take_snoc hz, List.map_append]
      exact ln_off hln2 (by simp [hnr, hRl])
    · simp [hnr, hRl]
  · rintro H' ⟨e, rs, hrs, hln, hnr⟩
    rw [List.length_map, List.take_of_length_le (Nat.le_refl _)] at hln
    exact hd H' rs e hrs hln hnr
end Tp
namespace Tp
open PySem PySem.Spec PyProof.Rows L2 He
theorem sum_bd {B : Nat} : ∀ {l : List Nat}, (∀ x ∈ l, x ≤ B) → l.sum ≤ l.length * B
  | [], _ => Nat.zero_le _
  | x :: r, h => by
    have h1 := sum_bd (l := r) fun y hy => h y (by simp [hy])
    have h2 := h x (by simp)
    rw [List.sum_cons, List.length_cons, Nat.succ_mul]
    omega
/-- rows short enough -/
def rowOk (rows : List (List Str)) : Prop := ∀ ws ∈ rows, ws.length ≤ 5 ∧ ∀ z ∈ ws, z.length ≤ 100
theorem row_sum {ws : List Str} (h : ws.length ≤ 5 ∧ ∀ z ∈ ws, z.length ≤ 100) : (ws.map (·.length)).sum ≤ 500 := by
  have h1 := sum_bd (B := 100) (l := ws.map (·.length)) fun x hx => by
    obtain ⟨z, hz, rfl⟩ := List.mem_map.mp hx
    exact h.2 z hz
  rw [List.length_map] at h1
  have := h.1
  omega
theorem line_len {ws : List Str} (h : ws.length ≤ 5 ∧ ∀ z ∈ ws, z.length ≤ 100) : (Txt.join sp1 ws).length ≤ 505 := by
  rw [join_is]
  have h1 := len_join (y := sp1) (zs := ws)
  have h2 := row_sum h
  have h3 : sp1.length = 1 := by decide +kernel
  rw [h3] at h1
  have := h.1
  omega
theorem nl_len : nl.length = 1 := by decide +kernel
theorem sp_len : sp1.length = 1 := by decide +kernel
theorem lineD_len {ws : List Str} (h : ws.length ≤ 5 ∧ ∀ z ∈ ws, z.length ≤ 100) : (lineD ws).length ≤ 506 := by
  have := line_len h
  show (Txt.join sp1 ws ++ nl).length ≤ 506
  rw [str_len, nl_len]
  omega
theorem lines_sum {rows : List (List Str)} (h : rowOk rows) : ((rows.map lineD).map (·.length)).sum ≤ rows.length * 506 := by
  have h1 := sum_bd (B := 506) (l := (rows.map lineD).map (·.length)) fun x hx => by
    obtain ⟨z, hz, rfl⟩ := List.mem_map.mp hx
    obtain ⟨ws, hws, rfl⟩ := List.mem_map.mp hz
    exact lineD_len (h ws hws)
  rwa [List.length_map, List.length_map] at h1
theorem rows_len {k t : List (Str × Str)} {p : List Str} {c d : List (Str × Str)} {fs : List Fk} : (rowsD k t p c d fs).length = k.length + (t.length + (p.length + (c.length + (d.length + fs.length)))) := by
  unfold rowsD
  simp only [List.length_append, List.length_map]
theorem rows_ok {k t : List (Str × Str)} {p : List Str} {c d : List (Str × Str)} {fs : List Fk} (hk : ∀ q ∈ k, q.1.length ≤ 100 ∧ q.2.length ≤ 100) (ht : ∀ q ∈ t, q.1.length ≤ 100 ∧ q.2.length ≤ 100) (hp : ∀ z ∈ p, z.length ≤ 100) (hc : ∀ q ∈ c, q.1.length ≤ 100 ∧ q.2.length ≤ 100) (hd : ∀ q ∈ d, q.1.length ≤ 100 ∧ q.2.length ≤ 100)
    (hf : ∀ f ∈ fs, lowF f ∧ okF f ∧ ∀ z ∈ fwD f, z.length ≤ 100) : rowOk (rowsD k t p c d fs) := by
  have h3 : ∀ (w : Str), w.length ≤ 100 → ∀ l : List (Str × Str), (∀ q ∈ l, q.1.length ≤ 100 ∧ q.2.length ≤ 100) → ∀ ws ∈ l.map (fun q => [w, q.1, q.2]), ws.length ≤ 5 ∧ ∀ z ∈ ws, z.length ≤ 100 := by
    intro w hw l hl ws hws
    obtain ⟨q, hq, rfl⟩ := List.mem_map.mp hws
    refine ⟨by show 3 ≤ 5; decide, fun z hz => ?_⟩
    simp only [List.mem_cons, List.not_mem_nil, or_false] at hz
    rcases hz with rfl | rfl | rfl
    · exact hw
    · exact (hl q hq).1
    · exact (hl q hq).2
  intro ws hws
  unfold rowsD at hws
  simp only [List.mem_append] at hws
  rcases hws with h | h | h | h | h | h
  · exact h3 _ (by decide +kernel) k hk ws h
  · exact h3 _ (by decide +kernel) t ht ws h
  · obtain ⟨z, hz, rfl⟩ := List.mem_map.mp h
    refine ⟨by show 2 ≤ 5; decide, fun y hy => ?_⟩
    simp only [List.mem_cons, List.not_mem_nil, or_false] at hy
    rcases hy with rfl | rfl
    · decide +kernel
    · exact hp _ hz
  · exact h3 _ (by decide +kernel) c hc ws h
  · exact h3 _ (by decide +kernel) d hd ws h
  · obtain ⟨f, hfm, rfl⟩ := List.mem_map.mp h
    refine ⟨?_, (hf f hfm).2.2⟩
    cases f with
    | tell x y => show 5 ≤ 5; decide
    | some x => show 3 ≤ 5; decide
/-- write_book(book) -/
def spWrite (C : Addr) : Sp := fun vs H Q _ => ∃ p i A k t ps c d fs ts ds us, vs = [.ref p] ∧ BkI C H p i A k t ps c d fs ts ds us ∧ ps.length ≤ 1000 ∧ (∀ f ∈ fs, lowF f) ∧ rowOk (rowsD k t ps c d fs) ∧ ∀ H', Ext [] H H' → Q (.str (textD (rowsD k t ps c d fs))) H'
end Tp
namespace Tp
open PySem PySem.Spec PyProof.Rows L2 He
def rJoin (K : PySem.W.Frag) : V → List V → Hp → VK → Prop := fun x xs H Q => ∃ a p, ∃ ys : List Str, x = .str a ∧ xs = [.ref p] ∧ (SqL K H p (ys.map V.str) ∨ SqT K H p (ys.map V.str)) ∧ (ys.map (·.length)).sum + ys.length * a.length ≤ 16777216 ∧ Q (.str (Txt.join a ys)) H
end Tp
namespace Tp
open PySem PySem.Spec PyProof.Rows L2 He
def rAddS : R2 := fun x y H Q => ∃ i j, x = .str i ∧ y = .str j ∧ i.length + j.length ≤ sizeLine ∧ Q (.str (i ++ j)) H
/-- over pairs of texts: a text of them each -/
theorem lc_rows {K : PySem.W.Frag} {a R : Addr} {as : List Addr} {prs : List (Str × Str)} {σ : L2.St} {H1 : Hp} {i : Nat} {w : Str} {Qd : Hp → Prop} (hl : H1 a = some (.lst (as.map V.ref))) (hp : Paired (fun (t : Addr) (q : Str × Str) => H1 t = some (.tup [.str q.1, .str q.2])) as prs) (hR : H1 R = none) (hn : as.length ≤ 1000)
    (hwl : w.length ≤ 100) (hq : ∀ q ∈ prs, q.1.length ≤ 100 ∧ q.2.length ≤ 100) (hw : ∀ x, wipe ((wipe σ [i]).set i (some x)) [i] = wipe σ [i]) (h1 : ∀ x, ((wipe σ [i]).set i (some x))[i]? = some (some x))
    (hd : ∀ H', Ext [] H1 H' → H' R = some (.lst ((prs.map fun q => w ++ q.1 ++ sp1 ++ q.2).map V.str)) → Qd H') :
    ∃ W : Nat → Nat → Hp → Prop, (∃ m, W 0 m (upd H1 R (.lst []))) ∧ ∀ n m H, W n m H →
      ((Itl K a).stop n H ∧ Qd H) ∨ ((Itl K a).go n H ∧ ∃ Nx : Hp → Prop, (∀ H', Nx H' → ∃ m', m' < m ∧ W (n + 1) m' H') ∧ ∀ x H', (Itl K a).yld n H x H' → gName i x (wipe σ [i]) H' fun σ2 H2 => wipe σ2 [i] = wipe σ [i] ∧ tYes σ2 H2 fun b H3 =>
        if b = true then tOp rAddS (tOp rAddS (tOp rAddS (tC (.str w)) (tOp (rIxT K) (tVar i) (tC (.int 0)))) (tC (.str sp1))) (tOp (rIxT K) (tVar i) (tC (.int 1))) σ2 H3 fun y H4 => ∃ acc, H4 R = some (.lst acc) ∧ acc.length < sizeLine ∧ Nx (upd H4 R (.lst (acc ++ [y]))) else Nx H3) := by
  have hpl : as.length = prs.length := Paired.length hp
  refine lc_list (xs := as.map V.ref) (fun n H' => Ext [] H1 H' ∧ H' R = some (.lst (((prs.take n).map fun q => w ++ q.1 ++ sp1 ++ q.2).map V.str))) ⟨Ext.new hR, upd_same⟩ ?_ ?_ ?_
  · rintro n H' _ ⟨e, _⟩
    exact SqL.of (e.keep _ _ hl (by simp))
  · rintro n x H' hx ⟨e, hrs⟩
    rw [List.getElem?_map] at hx
    obtain ⟨u, hu, rfl⟩ := Option.map_eq_some_iff.mp hx
    obtain ⟨q, hqi, hT⟩ := paired_getX hp hu
    have hT1 := e.tups _ _ hT
    have hqq := hq q (List.mem_of_getElem? hqi)
    have hsp := sp_len
    refine ⟨hw _, ?_⟩
    refine tyes ?_
    refine ⟨_, h1 _, u, _, 0, _, rfl, rfl, .inl (.inl hT1), rfl, _, _, rfl, rfl, ?_, _, _, rfl, rfl, ?_, _, h1 _, u, _, 1, _, rfl, rfl, .inl (.inl hT1), rfl, _, _, rfl, rfl, ?_, _, hrs, ?_, e.fresh hR, ?_⟩
    · exact Nat.le_of_lt (Evl.sz_lt (by omega))
    · rw [str_len]
      exact Nat.le_of_lt (Evl.sz_lt (by omega))
    · rw [str_len, str_len]
      exact Nat.le_of_lt (Evl.sz_lt (by omega))
    · rw [List.length_map, List.length_map, List.length_take]
      exact Evl.sz_lt (by omega)
    · rw [upd_same, take_snoc hqi, List.map_append, List.map_append]
      rfl
  · rintro H' ⟨e, hrs⟩
    rw [List.length_map, List.take_of_length_le (by omega)] at hrs
    exact hd H' e hrs
/-- _law_lines(model) -/
def spLLines : Sp := fun vs H Q _ => ∃ (a : Mad) (k t : List (Str × Str)) (p : List Str) (c d : List (Str × Str)) (ms : List V) (fs : List Fk), vs = [.ref a.M] ∧ MdAt H a k t p c d ms ∧ FL H ms fs ∧ (k.length ≤ 1000 ∧ t.length ≤ 1000 ∧ p.length ≤ 1000 ∧ c.length ≤ 1000 ∧ d.length ≤ 1000 ∧ fs.length ≤ 1000) ∧ (∀ f ∈ fs, lowF f) ∧
  (∀ q ∈ k, q.1.length ≤ 100 ∧ q.2.length ≤ 100) ∧ (∀ q ∈ t, q.1.length ≤ 100 ∧ q.2.length ≤ 100) ∧ (∀ z ∈ p, z.length ≤ 100) ∧ (∀ q ∈ c, q.1.length ≤ 100 ∧ q.2.length ≤ 100) ∧ (∀ q ∈ d, q.1.length ≤ 100 ∧ q.2.length ≤ 100) ∧ (∀ f ∈ fs, ∀ z ∈ fwD f, z.length ≤ 100) ∧
  ∀ l as H', H l = none → Ext [] H H' → H' l = some (.lst (as.map V.ref)) → LnP H' as (linesD k t p c d fs) → Q (.ref l) H'
end Tp
namespace Tp
open PySem PySem.Spec PyProof.Rows L2 He
/-- groups being gathered -/
structure GrS (H : Hp) (lg : Addr) (H1 : Hp) (as : List Addr) (gs : List (List Str)) : Prop where
  x : Ext [] H H1
  g : H1 lg = some (.lst (as.map V.ref))
  l : LnP H1 as gs
  n : lg ∉ as
  z : H lg = none
theorem GrS.step {H H1 H2 : Hp} {lg R : Addr} {as : List Addr} {gs : List (List Str)} {zs : List Str} (s : GrS H lg H1 as gs) (e : Ext [] H1 H2) (h0 : H1 R = none) (hR : H2 R = some (.lst (zs.map V.str))) :
    GrS H lg (upd H2 lg (.lst (as.map V.ref ++ [.ref R]))) (as ++ [R]) (gs ++ [zs]) := by
  have hne : lg ≠ R := ne_of_none s.g h0
  refine ⟨(s.x.trans e).fresh s.z, by rw [upd_same, List.map_append]; rfl, ln_off ((s.l.ext e).snoc hR) (by simp [s.n, hne]), by simp [s.n, hne], s.z⟩
theorem GrS.lst {H H1 H2 : Hp} {lg : Addr} {as : List Addr} {gs : List (List Str)} (s : GrS H lg H1 as gs) (e : Ext [] H1 H2) : H2 lg = some (.lst (as.map V.ref)) := e.keep _ _ s.g (by simp)
end Tp
namespace Tp
open PySem PySem.Spec PyProof.Rows L2 He
theorem fk_parts {H : Hp} {u : Addr} {f : Fk} (hu : isFk H u f) : ∃ w0 as qs, H u = some (.tup (.str w0 :: as.map V.ref)) ∧ Paired (isAmt H) as qs ∧ fwD f = w0 :: wdA qs ∧ (lowF f → ∀ q ∈ qs, q.2 < 100) ∧ as.length ≤ 2 ∧ 1 ≤ as.length := by
  cases f with
  | tell x y =>
    obtain ⟨a, b, h1, h2, h3⟩ := hu
    exact ⟨_, [a, b], [x, y], h1, .cons h2 (.cons h3 .nil), rfl, fun hl q hq => (by simp only [List.mem_cons, List.not_mem_nil, or_false] at hq; rcases hq with rfl | rfl; exact hl.1; exact hl.2), by simp, by simp⟩
  | some x =>
    obtain ⟨a, h1, h2⟩ := hu
    exact ⟨_, [a], [x], h1, .cons h2 .nil, rfl, fun hl q hq => (by rw [List.mem_singleton.mp hq]; exact hl), by simp, by simp⟩
theorem join_head (a b : Str) (l : List Str) : Str.join sp1 ((a ++ b) :: l) = a ++ Str.join sp1 (b :: l) := by
  cases l with
  | nil => rfl
  | cons z r =>
    show (a ++ b) ++ sp1 ++ Str.join sp1 (z :: r) = a ++ (b ++ sp1 ++ Str.join sp1 (z :: r))
    simp only [str_assoc]
theorem join_wd : ∀ (qs : List Am) (w0 : Str), Txt.join sp1 (w0 :: qs.map fun q => q.1 ++ sp1 ++ nS q.2) = Txt.join sp1 (w0 :: wdA qs) := by
  intro qs
  induction qs with
  | nil => intro w0; rfl
  | cons q r ih =>
    intro w0
    have h1 := ih (q.1 ++ sp1 ++ nS q.2)
    rw [join_is, join_is] at h1 ⊢
    show w0 ++ sp1 ++ Str.join sp1 ((q.1 ++ sp1 ++ nS q.2) :: r.map fun q => q.1 ++ sp1 ++ nS q.2) = w0 ++ sp1 ++ Str.join sp1 (q.1 :: nS q.2 :: wdA r)
    rw [h1, join_head]
    rfl
theorem wd_mem {qs : List Am} {q : Am} (h : q ∈ qs) : q.1 ∈ wdA qs ∧ nS q.2 ∈ wdA qs := by
  induction qs with
  | nil => cases h
  | cons x r ih =>
    rcases List.mem_cons.mp h with rfl | h
    · exact ⟨List.mem_cons_self .., List.mem_cons_of_mem _ (List.mem_cons_self ..)⟩
    · exact ⟨List.mem_cons_of_mem _ (List.mem_cons_of_mem _ (ih h).1), List.mem_cons_of_mem _ (List.mem_cons_of_mem _ (ih h).2)⟩
end Tp
namespace Tp
open PySem PySem.Spec PyProof.Rows L2 He
theorem cut_rest {v : V} {vs : List V} : cutV (v :: vs) (some 1) none = vs := by
  unfold cutV
  have h : HT.sIx (v :: vs).length 0 (some (1 : Int)) = 1 := by
    show HT.sIx (v :: vs).length 0 (some ((1 : Nat) : Int)) = 1
    rw [HT.sIx_nat, List.length_cons]
    omega
  rw [h, HT.sIx_none, List.drop_succ_cons, List.drop_zero, List.length_cons]
  exact List.take_of_length_le (by omega)
theorem cut_rest_n {v : V} {vs : List V} (h : vs ≠ []) : ¬ (HT.sIx (v :: vs).length 0 (some (1 : Int)) = 0 ∧ HT.sIx (v :: vs).length (v :: vs).length none = (v :: vs).length) := by
  have h : HT.sIx (v :: vs).length 0 (some (1 : Int)) = 1 := by
    show HT.sIx (v :: vs).length 0 (some ((1 : Nat) : Int)) = 1
    rw [HT.sIx_nat, List.length_cons]
    omega
  rw [h]
  omega
end Tp
namespace Tp
open PySem PySem.Spec PyProof.Rows L2 He
theorem lines_bd {k t : List (Str × Str)} {p : List Str} {c d : List (Str × Str)} {fs : List Fk} (l0 : k.length ≤ 1000 ∧ t.length ≤ 1000 ∧ p.length ≤ 1000 ∧ c.length ≤ 1000 ∧ d.length ≤ 1000 ∧ fs.length ≤ 1000) (hk : ∀ q ∈ k, q.1.length ≤ 100 ∧ q.2.length ≤ 100) (ht : ∀ q ∈ t, q.1.length ≤ 100 ∧ q.2.length ≤ 100) (hp : ∀ z ∈ p, z.length ≤ 100) (hc : ∀ q ∈ c, q.1.length ≤ 100 ∧ q.2.length ≤ 100) (hd : ∀ q ∈ d, q.1.length ≤ 100 ∧ q.2.length ≤ 100)
    (hf : ∀ f ∈ fs, ∀ z ∈ fwD f, z.length ≤ 100) : ∀ g ∈ linesD k t p c d fs, g.length ≤ 1000 ∧ ∀ z ∈ g, z.length ≤ 505 := by
  have h3 : ∀ (w : Str), w.length ≤ 100 → ∀ l : List (Str × Str), (∀ q ∈ l, q.1.length ≤ 100 ∧ q.2.length ≤ 100) → ∀ z ∈ l.map (fun q => w ++ q.1 ++ sp1 ++ q.2), z.length ≤ 505 := by
    intro w hw l hl z hz
    obtain ⟨q, hq, rfl⟩ := List.mem_map.mp hz
    have := hl q hq
    have hsp := sp_len
    rw [str_len, str_len, str_len]
    omega
  obtain ⟨a0, a1, a2, a3, a4, a5⟩ := l0
  intro g hg
  simp only [linesD, List.mem_cons, List.not_mem_nil, or_false] at hg
  rcases hg with rfl | rfl | rfl | rfl | rfl | rfl
  · exact ⟨by rw [List.length_map]; exact a0, h3 _ (by decide +kernel) k hk⟩
  · exact ⟨by rw [List.length_map]; exact a1, h3 _ (by decide +kernel) t ht⟩
  · refine ⟨by rw [List.length_map]; exact a2, fun z hz => ?_⟩
    obtain ⟨y, hy, rfl⟩ := List.mem_map.mp hz
    have h1 := hp y hy
    have h2 : ("pot " : Str).length = 4 := by decide +kernel
    rw [str_len]
    omega
  · exact ⟨by rw [List.length_map]; exact a3, h3 _ (by decide +kernel) c hc⟩
  · exact ⟨by rw [List.length_map]; exact a4, h3 _ (by decide +kernel) d hd⟩
  · refine ⟨by rw [List.length_map]; exact a5, fun z hz => ?_⟩
    obtain ⟨f, hfm, rfl⟩ := List.mem_map.mp hz
    refine line_len ⟨?_, hf f hfm⟩
    cases f with
    | tell x y => show 5 ≤ 5; decide
    | some x => show 3 ≤ 5; decide
theorem group_sum {g : List Str} (h : g.length ≤ 1000 ∧ ∀ z ∈ g, z.length ≤ 505) : ((g.map (· ++ nl)).map (·.length)).sum ≤ 506000 := by
  have h1 := sum_bd (B := 506) (l := (g.map (· ++ nl)).map (·.length)) fun x hx => by
    obtain ⟨z, hz, rfl⟩ := List.mem_map.mp hx
    obtain ⟨y, hy, rfl⟩ := List.mem_map.mp hz
    have := h.2 y hy
    have h2 := nl_len
    rw [str_len]
    omega
  rw [List.length_map, List.length_map] at h1
  have := h.1
  omega
/-- _law_text(model) -/
def spLText : Sp := fun vs H Q _ => ∃ (a : Mad) (k t : List (Str × Str)) (p : List Str) (c d : List (Str × Str)) (ms : List V) (fs : List Fk), vs = [.ref a.M] ∧ MdAt H a k t p c d ms ∧ FL H ms fs ∧ (k.length ≤ 1000 ∧ t.length ≤ 1000 ∧ p.length ≤ 1000 ∧ c.length ≤ 1000 ∧ d.length ≤ 1000 ∧ fs.length ≤ 1000) ∧ (∀ f ∈ fs, lowF f) ∧
  (∀ q ∈ k, q.1.length ≤ 100 ∧ q.2.length ≤ 100) ∧ (∀ q ∈ t, q.1.length ≤ 100 ∧ q.2.length ≤ 100) ∧ (∀ z ∈ p, z.length ≤ 100) ∧ (∀ q ∈ c, q.1.length ≤ 100 ∧ q.2.length ≤ 100) ∧ (∀ q ∈ d, q.1.length ≤ 100 ∧ q.2.length ≤ 100) ∧ (∀ f ∈ fs, ∀ z ∈ fwD f, z.length ≤ 100) ∧
  ∀ H', Ext [] H H' → Q (.str (textD (rowsD k t p c d fs))) H'
theorem textL_snoc (gs : List (List Str)) (g : List Str) : textL (gs ++ [g]) = textL gs ++ catS (g.map (· ++ nl)) := by
  unfold textL
  rw [List.map_append, catS_app]
  show _ ++ (catS (g.map (· ++ nl)) ++ ⟨#[]⟩) = _
  rw [nil_str]
end Tp
namespace Tp
open PySem PySem.Spec PyProof.Rows L2 He
end Tp
/-! Sv: a model with a seventh part, a number (made by mk7.py) -/
namespace Tp
open PySem PySem.Spec PyProof.Rows L2 He
structure Ma7 where
  M : Addr
  m0 : Addr
  m1 : Addr
  m2 : Addr
  m3 : Addr
  m4 : Addr
  m5 : Addr
  b : Int
abbrev Ma7.all (a : Ma7) : List Addr := [a.M, a.m0, a.m1, a.m2, a.m3, a.m4, a.m5]
abbrev Ma7.items (a : Ma7) : List V := [.ref a.m0, .ref a.m1, .ref a.m2, .ref a.m3, .ref a.m4, .ref a.m5, .int a.b]
structure Md7 (H : Hp) (a : Ma7) (k t : List (Str × Str)) (p : List Str) (c d : List (Str × Str)) (fs : List V) : Prop where
  nd : a.all.Nodup
  M : H a.M = some (.lst a.items)
  r0 : RowAt H a.m0 k
  r1 : RowAt H a.m1 t
  r2 : H a.m2 = some (.lst (p.map V.str))
  r3 : RowAt H a.m3 c
  r4 : RowAt H a.m4 d
  r5 : H a.m5 = some (.lst fs)
section
variable {H H' : Hp} {a : Ma7} {k t c d : List (Str × Str)} {p : List Str} {fs : List V} {ms : List Addr} {z y : Str} {u : Addr} {xs : List V}
theorem Md7.ext (v : Md7 H a k t p c d fs) (e : Ext ms H H') (h : ∀ x ∈ a.all, x ∉ ms) : Md7 H' a k t p c d fs :=
  ⟨v.nd, e.keep _ _ v.M (h _ (by simp)), v.r0.ext e (h _ (by simp)), v.r1.ext e (h _ (by simp)), e.keep _ _ v.r2 (h _ (by simp)), v.r3.ext e (h _ (by simp)), v.r4.ext e (h _ (by simp)), e.keep _ _ v.r5 (h _ (by simp))⟩
theorem Md7.push0 (v : Md7 H a k t p c d fs) (hxs : H a.m0 = some (.lst xs)) (hu : H u = none) : Md7 (upd (upd H u (.tup [.str z, .str y])) a.m0 (.lst (xs ++ [.ref u]))) a (k ++ [(z, y)]) t p c d fs := by
  have nd := v.nd
  simp only [Ma7.all, List.nodup_cons, List.mem_cons, List.not_mem_nil, not_or, or_false] at nd
  obtain ⟨⟨n0, n1, n2, n3, n4, n5⟩, ⟨n01, n02, n03, n04, n05⟩, ⟨n12, n13, n14, n15⟩, ⟨n23, n24, n25⟩, ⟨n34, n35⟩, n45, _⟩ := nd
  have e := ext_push (o := .tup [.str z, .str y]) (o' := .lst (xs ++ [.ref u])) hxs hu
  exact ⟨v.nd, e.keep _ _ v.M (by simpa using n0), v.r0.push (q := (z, y)) hxs hu, v.r1.ext e (by simpa using Ne.symm n01), e.keep _ _ v.r2 (by simpa using Ne.symm n02), v.r3.ext e (by simpa using Ne.symm n03), v.r4.ext e (by simpa using Ne.symm n04), e.keep _ _ v.r5 (by simpa using Ne.symm n05)⟩
theorem Md7.push1 (v : Md7 H a k t p c d fs) (hxs : H a.m1 = some (.lst xs)) (hu : H u = none) : Md7 (upd (upd H u (.tup [.str z, .str y])) a.m1 (.lst (xs ++ [.ref u]))) a k (t ++ [(z, y)]) p c d fs := by
  have nd := v.nd
  simp only [Ma7.all, List.nodup_cons, List.mem_cons, List.not_mem_nil, not_or, or_false] at nd
  obtain ⟨⟨n0, n1, n2, n3, n4, n5⟩, ⟨n01, n02, n03, n04, n05⟩, ⟨n12, n13, n14, n15⟩, ⟨n23, n24, n25⟩, ⟨n34, n35⟩, n45, _⟩ := nd
  have e := ext_push (o := .tup [.str z, .str y]) (o' := .lst (xs ++ [.ref u])) hxs hu
  exact ⟨v.nd, e.keep _ _ v.M (by simpa using n1), v.r0.ext e (by simpa using n01), v.r1.push (q := (z, y)) hxs hu, e.keep _ _ v.r2 (by simpa using Ne.symm n12), v.r3.ext e (by simpa using Ne.symm n13), v.r4.ext e (by simpa using Ne.symm n14), e.keep _ _ v.r5 (by simpa using Ne.symm n15)⟩
theorem Md7.push3 (v : Md7 H a k t p c d fs) (hxs : H a.m3 = some (.lst xs)) (hu : H u = none) : Md7 (upd (upd H u (.tup [.str z, .str y])) a.m3 (.lst (xs ++ [.ref u]))) a k t p (c ++ [(z, y)]) d fs := by
  have nd := v.nd
  simp only [Ma7.all, List.nodup_cons, List.mem_cons, List.not_mem_nil, not_or, or_false] at nd
  obtain ⟨⟨n0, n1, n2, n3, n4, n5⟩, ⟨n01, n02, n03, n04, n05⟩, ⟨n12, n13, n14, n15⟩, ⟨n23, n24, n25⟩, ⟨n34, n35⟩, n45, _⟩ := nd
  have e := ext_push (o := .tup [.str z, .str y]) (o' := .lst (xs ++ [.ref u])) hxs hu
  exact ⟨v.nd, e.keep _ _ v.M (by simpa using n3), v.r0.ext e (by simpa using n03), v.r1.ext e (by simpa using n13), e.keep _ _ v.r2 (by simpa using n23), v.r3.push (q := (z, y)) hxs hu, v.r4.ext e (by simpa using Ne.symm n34), e.keep _ _ v.r5 (by simpa using Ne.symm n35)⟩
theorem Md7.push4 (v : Md7 H a k t p c d fs) (hxs : H a.m4 = some (.lst xs)) (hu : H u = none) : Md7 (upd (upd H u (.tup [.str z, .str y])) a.m4 (.lst (xs ++ [.ref u]))) a k t p c (d ++ [(z, y)]) fs := by
  have nd := v.nd
  simp only [Ma7.all, List.nodup_cons, List.mem_cons, List.not_mem_nil, not_or, or_false] at nd
  obtain ⟨⟨n0, n1, n2, n3, n4, n5⟩, ⟨n01, n02, n03, n04, n05⟩, ⟨n12, n13, n14, n15⟩, ⟨n23, n24, n25⟩, ⟨n34, n35⟩, n45, _⟩ := nd
  have e := ext_push (o := .tup [.str z, .str y]) (o' := .lst (xs ++ [.ref u])) hxs hu
  exact ⟨v.nd, e.keep _ _ v.M (by simpa using n4), v.r0.ext e (by simpa using n04), v.r1.ext e (by simpa using n14), e.keep _ _ v.r2 (by simpa using n24), v.r3.ext e (by simpa using n34), v.r4.push (q := (z, y)) hxs hu, e.keep _ _ v.r5 (by simpa using Ne.symm n45)⟩
theorem Md7.setF5 (v : Md7 H a k t p c d fs) (gs : List V) : Md7 (upd H a.m5 (.lst gs)) a k t p c d gs := by
  have nd := v.nd
  simp only [Ma7.all, List.nodup_cons, List.mem_cons, List.not_mem_nil, not_or, or_false] at nd
  obtain ⟨⟨n0, n1, n2, n3, n4, n5⟩, ⟨n01, n02, n03, n04, n05⟩, ⟨n12, n13, n14, n15⟩, ⟨n23, n24, n25⟩, ⟨n34, n35⟩, n45, _⟩ := nd
  have e : Ext [a.m5] H (upd H a.m5 (.lst gs)) := ext_lst v.r5
  exact ⟨v.nd, e.keep _ _ v.M (by simpa using n5), v.r0.ext e (by simpa using n05), v.r1.ext e (by simpa using n15), e.keep _ _ v.r2 (by simpa using n25), v.r3.ext e (by simpa using n35), v.r4.ext e (by simpa using n45), upd_same⟩
end
theorem Md7.some {H : Hp} {a : Ma7} {k t c d : List (Str × Str)} {p : List Str} {fs : List V} (v : Md7 H a k t p c d fs) : ∀ x ∈ a.all, ∃ o, H x = some o := by
  intro x hx
  simp only [Ma7.all, List.mem_cons, List.not_mem_nil, or_false] at hx
  rcases hx with rfl | rfl | rfl | rfl | rfl | rfl | rfl
  · exact ⟨_, v.M⟩
  · obtain ⟨_, h, _⟩ := v.r0; exact ⟨_, h⟩
  · obtain ⟨_, h, _⟩ := v.r1; exact ⟨_, h⟩
  · exact ⟨_, v.r2⟩
  · obtain ⟨_, h, _⟩ := v.r3; exact ⟨_, h⟩
  · obtain ⟨_, h, _⟩ := v.r4; exact ⟨_, h⟩
  · exact ⟨_, v.r5⟩
theorem Md7.new {H : Hp} {a : Ma7} {k t c d : List (Str × Str)} {p : List Str} {fs : List V} {l : Addr} (v : Md7 H a k t p c d fs) (h : H l = none) : ∀ x ∈ a.all, l ≠ x := fun x hx e => by
  obtain ⟨o, ho⟩ := v.some x hx
  rw [← e, h] at ho
  cases ho
end Tp
/-! Pq: a model of seven parts and its book -/
namespace Tp
open PySem PySem.Spec PyProof.Rows L2 He
structure Pq (C : Addr) (H : Hp) (S L b : Addr) (a : Ma7) (A : Bk) (k t : List (Str × Str)) (p : List Str) (c d : List (Str × Str)) (fs : List Fk) (ts ds us ms : List V) : Prop where
  s : SrcAt H S L
  M : Md7 H a k t p c d ms
  W : FL H ms fs
  B : BkI C H b a.b A k t p c d fs ts ds us
  f : ∀ y ∈ A.all b, y ≠ S ∧ y ≠ L ∧ y ∉ a.all
  g : ∀ y ∈ a.all, y ≠ S ∧ y ≠ L
  G : GX k t p c d
  inn : ∀ f ∈ fs, inA (amtD k c d d.length) f
  b0 : (d.length : Int) ≤ a.b
  b1 : a.b ≤ 24
section
variable {C : Addr} {H H' : Hp} {S L b : Addr} {a : Ma7} {A : Bk} {k t : List (Str × Str)} {p : List Str} {c d : List (Str × Str)} {fs : List Fk} {ts ds us ms : List V}
/-- what these two are made of -/
abbrev ownP (b : Addr) (a : Ma7) (A : Bk) : List Addr := A.all b ++ a.all
theorem Pq.keep (j : Pq C H S L b a A k t p c d fs ts ds us ms) {xs : List Addr} (x : Ext xs H H') (s : SrcAt H' S L) (h : ∀ y ∈ ownP b a A, y ∉ xs) : Pq C H' S L b a A k t p c d fs ts ds us ms :=
  ⟨s, j.M.ext x fun y hy => h y (List.mem_append_right _ hy), j.W.ext x, j.B.extM x fun y hy => h y (List.mem_append_left _ hy), j.f, j.g, j.G, j.inn, j.b0, j.b1⟩
theorem Pq.draw (j : Pq C H S L b a A k t p c d fs ts ds us ms) (x : Ext [S] H H') (s : SrcAt H' S L) : Pq C H' S L b a A k t p c d fs ts ds us ms :=
  j.keep x s fun y hy => by
    rcases List.mem_append.mp hy with h | h
    · simpa using (j.f y h).1
    · simpa using (j.g y h).1
theorem Pq.grow (j : Pq C H S L b a A k t p c d fs ts ds us ms) (x : Ext [] H H') : Pq C H' S L b a A k t p c d fs ts ds us ms := j.draw x.nil (j.s.ext x)
theorem Pq.some (j : Pq C H S L b a A k t p c d fs ts ds us ms) : ∀ y ∈ ownP b a A, ∃ v, H y = .some v := by
  intro y hy
  rcases List.mem_append.mp hy with h | h
  · exact j.B.B.some y h
  · exact j.M.some y h
theorem Pq.d24 (j : Pq C H S L b a A k t p c d fs ts ds us ms) : d.length ≤ 24 := by
  have h0 := j.b0
  have h1 := j.b1
  omega
theorem Pq.kept (j : Pq C H S L b a A k t p c d fs ts ds us ms) : Kept k c d := j.G.kept (by have := j.d24; omega)
theorem low_of {xs : List Am} {n : Nat} {f : Fk} (h : inA xs f) (hx : ∀ q ∈ xs, q.2 < n) (hn : n ≤ 100) : lowF f := by
  cases f with
  | tell x y => exact ⟨by have := hx _ h.1; omega, by have := hx _ h.2; omega⟩
  | some x => exact (by have := hx _ h; omega : x.2 < 100)
theorem fw_of {xs : List Am} {n : Nat} {f : Fk} (h : inA xs f) (hx : ∀ q ∈ xs, q.2 < n) (hn : n ≤ 100) (hw : ∀ q ∈ xs, q.1 = ("take" : Str) ∨ q.1 = ("leave" : Str)) : ∀ z ∈ fwD f, z.length ≤ 100 := by
  have hq : ∀ q ∈ xs, q.1.length ≤ 100 ∧ (nS q.2).length ≤ 100 := fun q hq => by
    have h1 := hx q hq
    have h2 := nS_len q.2 (by omega)
    refine ⟨?_, by omega⟩
    rcases hw q hq with h | h <;> rw [h] <;> decide +kernel
  intro z hz
  cases f with
  | tell x y =>
    simp only [fwD, List.mem_cons, List.not_mem_nil, or_false] at hz
    rcases hz with rfl | rfl | rfl | rfl | rfl
    · decide +kernel
    · exact (hq _ h.1).1
    · exact (hq _ h.1).2
    · exact (hq _ h.2).1
    · exact (hq _ h.2).2
  | some x =>
    simp only [fwD, List.mem_cons, List.not_mem_nil, or_false] at hz
    rcases hz with rfl | rfl | rfl
    · decide +kernel
    · exact (hq _ h).1
    · exact (hq _ h).2
/-- what the texts ask for -/
theorem Pq.txt (j : Pq C H S L b a A k t p c d fs ts ds us ms) (ht : t.length ≤ 1000) (hf : fs.length ≤ 1000) : (k.length ≤ 1000 ∧ t.length ≤ 1000 ∧ p.length ≤ 1000 ∧ c.length ≤ 1000 ∧ d.length ≤ 1000 ∧ fs.length ≤ 1000) ∧ (∀ f ∈ fs, lowF f) ∧
    (∀ q ∈ k, q.1.length ≤ 100 ∧ q.2.length ≤ 100) ∧ (∀ q ∈ t, q.1.length ≤ 100 ∧ q.2.length ≤ 100) ∧ (∀ z ∈ p, z.length ≤ 100) ∧ (∀ q ∈ c, q.1.length ≤ 100 ∧ q.2.length ≤ 100) ∧ (∀ q ∈ d, q.1.length ≤ 100 ∧ q.2.length ≤ 100) ∧ (∀ f ∈ fs, ∀ z ∈ fwD f, z.length ≤ 100) := by
  have G := j.G
  have h24 := j.d24
  have hk8 := G.k8
  have hp8 := G.p8
  have hc8 := G.c8
  have hkn : ∀ z ∈ k.map (·.1), z.length ≤ 100 := fun z hz => by have := nm_len (G.kn.nm z hz); omega
  have hcn : ∀ z ∈ c.map (·.1), z.length ≤ 100 := fun z hz => by have := nm_len (G.cn.nm z hz); omega
  have hpn : ∀ z ∈ p, z.length ≤ 100 := fun z hz => by have := nm_len (G.pn.nm z hz); omega
  have hlt := amtD_lt (k := k) (c := c) (d := d) d.length
  have hwd := amtD_word (k := k) (c := c) (d := d) d.length
  refine ⟨⟨by omega, ht, by omega, by omega, by omega, hf⟩, fun f hf => low_of (j.inn f hf) hlt (by omega), fun q hq => ⟨hkn _ (List.mem_map.mpr ⟨q, hq, rfl⟩), ?_⟩, fun q hq => ⟨hkn _ (G.tk q hq).1, hkn _ (G.tk q hq).2⟩, hpn, fun q hq => ⟨hcn _ (List.mem_map.mpr ⟨q, hq, rfl⟩), hkn _ (G.ck q hq)⟩,
    fun q hq => ⟨hcn _ (G.dc q hq).1, hpn _ (G.dc q hq).2⟩, fun f hf => fw_of (j.inn f hf) hlt (by omega) hwd⟩
  rcases G.kh q hq with h | h | h <;> rw [h] <;> decide +kernel
end
end Tp
namespace Tp
open PySem PySem.Spec PyProof.Rows L2 He
theorem row_ne {K : PySem.W.Frag} {H : Hp} {l1 l2 : Addr} {prs : List (Str × Str)} {Q : VK} (r1 : RowAt H l1 prs) (r2 : RowAt H l2 prs) (ok : ∀ q ∈ prs, okN q.1 ∧ okN q.2) (q : Q (.bl false) H) : rNeD K (.ref l1) (.ref l2) H Q :=
  ⟨.list (prs.map dPair), .list (prs.map dPair), r1.dp, r2.dp, sh_row ok, sh_row ok, by rw [eqv_self (sh_row ok)]; exact q⟩
theorem hold_ok {z : Str} (h : z = "loose" ∨ z = "fast" ∨ z = "unsure") : okN z := by
  rcases h with h | h | h <;> rw [h] <;> exact ⟨by decide +kernel, by decide +kernel⟩
end Tp
namespace Tp
open PySem PySem.Spec PyProof.Rows L2 He
theorem im_strsP {H : Hp} : ∀ {zs : List Str}, ImAll H (zs.map V.str) (zs.map PyData.str)
  | [] => .nil
  | _ :: _ => .cons (.str _) im_strsP
theorem strs_ne {K : PySem.W.Frag} {H : Hp} {l1 l2 : Addr} {zs : List Str} {Q : VK} (h1 : H l1 = some (.lst (zs.map V.str))) (h2 : H l2 = some (.lst (zs.map V.str))) (ok : ∀ z ∈ zs, okS z) (q : Q (.bl false) H) : rNeD K (.ref l1) (.ref l2) H Q :=
  ⟨.list (zs.map PyData.str), .list (zs.map PyData.str), .lst (SqL.of h1) im_strsP.dp, .lst (SqL.of h2) im_strsP.dp, sh_strs ok, sh_strs ok, by rw [eqv_self (sh_strs ok)]; exact q⟩
theorem facts_ne {K : PySem.W.Frag} {H : Hp} {l1 l2 : Addr} {us ms : List V} {fs : List Fk} {Q : VK} (h1 : H l1 = some (.lst us)) (h2 : H l2 = some (.lst ms)) (f1 : FL H us fs) (f2 : FL H ms fs) (ok : ∀ f ∈ fs, okF f) (q : Q (.bl false) H) : rNeD K (.ref l1) (.ref l2) H Q :=
  ⟨.list (fs.map dFk), .list (fs.map dFk), f1.dp h1, f2.dp h2, sh_fk ok, sh_fk ok, by rw [eqv_self (sh_fk ok)]; exact q⟩
end Tp
/-! Px (made by mk7b.py) -/
namespace Tp
open PySem PySem.Spec PyProof.Rows L2 He
/-- a model (m) and its book (b), each as it is now -/
structure Lx7 (C : Addr) (H : Hp) (S L b : Addr) (i : Int) (a : Ma7) (A : Bk) (k t : List (Str × Str)) (p : List Str) (c d : List (Str × Str)) (kb tb : List (Str × Str)) (pb : List Str) (cb db : List (Str × Str)) (fs fb : List Fk) (ts ds us ms : List V) : Prop where
  s : SrcAt H S L
  M : Md7 H a k t p c d ms
  W : FL H ms fs
  B : BkI C H b i A kb tb pb cb db fb ts ds us
  f : ∀ y ∈ A.all b, y ≠ S ∧ y ≠ L ∧ y ∉ a.all
  g : ∀ y ∈ a.all, y ≠ S ∧ y ≠ L
section
variable {C : Addr} {H H' : Hp} {S L b : Addr} {i : Int} {a : Ma7} {A : Bk} {k t : List (Str × Str)} {p : List Str} {c d kb tb : List (Str × Str)} {pb : List Str} {cb db : List (Str × Str)} {fs fb : List Fk} {ts ds us ms : List V}
theorem Lx7.draw (j : Lx7 C H S L b i a A k t p c d kb tb pb cb db fs fb ts ds us ms) (x : Ext [S] H H') (s : SrcAt H' S L) : Lx7 C H' S L b i a A k t p c d kb tb pb cb db fs fb ts ds us ms :=
  ⟨s, j.M.ext x fun y hy => by simpa using (j.g y hy).1, j.W.ext x, j.B.extM x fun y hy => by simpa using (j.f y hy).1, j.f, j.g⟩
theorem Lx7.grow (j : Lx7 C H S L b i a A k t p c d kb tb pb cb db fs fb ts ds us ms) (x : Ext [] H H') : Lx7 C H' S L b i a A k t p c d kb tb pb cb db fs fb ts ds us ms := j.draw x.nil (j.s.ext x)
/-- a part of the model changes -/
theorem Lx7.md (j : Lx7 C H S L b i a A k t p c d kb tb pb cb db fs fb ts ds us ms) {y : Addr} (hy : y ∈ a.all) (x : Ext [y] H H') {k' t' : List (Str × Str)} {p' : List Str} {c' d' : List (Str × Str)} {ms' : List V} {fs' : List Fk} (M : Md7 H' a k' t' p' c' d' ms') (W : FL H' ms' fs') : Lx7 C H' S L b i a A k' t' p' c' d' kb tb pb cb db fs' fb ts ds us ms' := by
  have gy := j.g y hy
  exact ⟨j.s.keepM x (by simpa using Ne.symm gy.1) (by simpa using Ne.symm gy.2), M, W, j.B.extM x fun z hz => by simp only [List.mem_singleton]; exact fun h => (j.f z hz).2.2 (by rw [h]; exact hy), j.f, j.g⟩
/-- a part of the book changes -/
theorem Lx7.bk (j : Lx7 C H S L b i a A k t p c d kb tb pb cb db fs fb ts ds us ms) {y : Addr} (hy : y ∈ A.all b) (x : Ext [y] H H') {k' t' : List (Str × Str)} {p' : List Str} {c' d' : List (Str × Str)} {fb' : List Fk} {ts' ds' us' : List V} (B : BkI C H' b i A k' t' p' c' d' fb' ts' ds' us') : Lx7 C H' S L b i a A k t p c d k' t' p' c' d' fs fb' ts' ds' us' ms := by
  have fy := j.f y hy
  exact ⟨j.s.keepM x (by simpa using Ne.symm fy.1) (by simpa using Ne.symm fy.2.1), j.M.ext x fun z hz => by simp only [List.mem_singleton]; exact fun h => fy.2.2 (by rw [← h]; exact hz), j.W.ext x, B, j.f, j.g⟩
theorem Lx7.note (j : Lx7 C H S L b i a A k t p c d kb tb pb cb db fs fb ts ds us ms) {u : Addr} {f : Fk} (hu : isFk H u f) : Lx7 C (upd H a.m5 (.lst (ms ++ [.ref u]))) S L b i a A k t p c d kb tb pb cb db (fs ++ [f]) fb ts ds us (ms ++ [.ref u]) := by
  have x : Ext [a.m5] H (upd H a.m5 (.lst (ms ++ [.ref u]))) := ext_lst j.M.r5
  exact j.md (by simp) x (j.M.setF5 _) ((j.W.ext x).snoc (hu.ext x))
theorem Lx7.told (j : Lx7 C H S L b i a A k t p c d kb tb pb cb db fs fb ts ds us ms) {u : Addr} {f : Fk} (x : Ext [A.lf] H H') (hu : isFk H' u f) (hf : okF f) (hl : us.length < 100) (B : BookAt C H' b i A (kb.map tv) ts pb (cb.map tv) ds (us ++ [.ref u])) : Lx7 C H' S L b i a A k t p c d kb tb pb cb db fs (fb ++ [f]) ts ds (us ++ [.ref u]) ms := by
  have hlen := j.B.F.len
  refine j.bk mem_all_lf x ⟨B, j.B.T.ext x, j.B.D.ext x, (j.B.F.ext x).snoc hu, j.B.G, j.B.nl, j.B.dl, by rw [List.length_append]; show fb.length + 1 ≤ 1000; omega, j.B.tl, fun g hg => ?_⟩
  rcases List.mem_append.mp hg with hg | hg
  · exact j.B.fo g hg
  · simp at hg
    rw [hg]
    exact hf
theorem Lx7.dip (j : Lx7 C H S L b i a A k t p c d kb tb pb cb db fs fb ts ds us ms) {u l : Addr} {q : Str × Str} (x : Ext [b] H H') (hl : H l = none) (hu : H' u = some (.tup [.str q.1, .str q.2])) (hq : q.1 ∈ cb.map (·.1)) (hd : db.length < 100) (B : BookAt C H' b i { A with ld := l } (kb.map tv) ts pb (cb.map tv) (ds ++ [.ref u]) us) : Lx7 C H' S L b i a { A with ld := l } k t p c d kb tb pb cb (db ++ [q]) fs fb ts (ds ++ [.ref u]) us ms := by
  have fb' := j.f b (by simp)
  have len1 : (db ++ [q]).length = db.length + 1 := by rw [List.length_append]; rfl
  refine ⟨j.s.keepM x (by simpa using Ne.symm fb'.1) (by simpa using Ne.symm fb'.2.1), j.M.ext x fun y hy => by simp only [List.mem_singleton]; exact fun h => fb'.2.2 (by rw [← h]; exact hy), j.W.ext x, ⟨B, j.B.T.ext x, (j.B.D.ext x).snoc hu, j.B.F.ext x, ⟨j.B.G.kn, j.B.G.k8, j.B.G.cn, j.B.G.c8, j.B.G.ck, fun z hz => ?_, by omega⟩, j.B.nl, by omega, j.B.fl, j.B.tl, j.B.fo⟩, ?_, j.g⟩
  · rcases List.mem_append.mp hz with hz | hz
    · exact j.B.G.dc z hz
    · simp at hz
      rw [hz]
      exact hq
  · have f := j.f
    intro y hy
    simp only [Bk.all, List.mem_cons, List.not_mem_nil, or_false] at hy
    rcases hy with rfl | rfl | rfl | rfl | rfl | rfl | rfl
    · exact f _ (by simp)
    · exact f _ (by simp)
    · exact f _ (by simp)
    · exact f _ (by simp)
    · exact f _ (by simp)
    · obtain ⟨h1, h2⟩ := src_ne_new j.s hl
      exact ⟨h1, h2, fun h => j.M.new hl _ h rfl⟩
    · exact f _ (by simp)
theorem Lx7.thirst (j : Lx7 C H S L b i a A k t p c d kb tb pb cb db fs fb ts ds us ms) {u : Addr} {q : Str × Str} (x : Ext [A.lt] H H') (hu : H' u = some (.tup [.str q.1, .str q.2])) (hl : tb.length < 1000) (B : BookAt C H' b i A (kb.map tv) (ts ++ [.ref u]) pb (cb.map tv) ds us) : Lx7 C H' S L b i a A k t p c d kb (tb ++ [q]) pb cb db fs fb (ts ++ [.ref u]) ds us ms :=
  j.bk (by simp) x ⟨B, (j.B.T.ext x).snoc hu, j.B.D.ext x, j.B.F.ext x, j.B.G, j.B.nl, j.B.dl, j.B.fl, by rw [List.length_append]; show tb.length + 1 ≤ 1000; omega, j.B.fo⟩
end
end Tp
namespace Tp
open PySem PySem.Spec PyProof.Rows L2 He
section
variable {C : Addr} {H : Hp} {S L b : Addr} {a : Ma7} {A : Bk} {k t : List (Str × Str)} {p : List Str} {c d : List (Str × Str)} {fs : List Fk} {ts ds us ms : List V}
end
end Tp
namespace Tp
open PySem PySem.Spec PyProof.Rows L2 He
theorem leaveD_hold {k c k' c' d : List (Str × Str)} (h : ∀ q ∈ d, holdOf k' c' q.1 = holdOf k c q.1) (i : Nat) : leaveD k' c' d i = leaveD k c d i := by
  unfold leaveD
  cases hd : d[i]? with
  | none => rfl
  | some q =>
    dsimp only
    rw [h q (List.mem_of_getElem? hd)]
theorem amtD_hold {k c k' c' d : List (Str × Str)} (h : ∀ q ∈ d, holdOf k' c' q.1 = holdOf k c q.1) : ∀ n, amtD k' c' d n = amtD k c d n
  | 0 => rfl
  | n + 1 => by
    show (amtD k' c' d n ++ [(("take" : Str), n)]) ++ (if leaveD k' c' d n = true then [(("leave" : Str), n)] else []) = (amtD k c d n ++ [(("take" : Str), n)]) ++ (if leaveD k c d n = true then [(("leave" : Str), n)] else [])
    rw [amtD_hold h n, leaveD_hold h n]
theorem GX.holds {k t : List (Str × Str)} {p : List Str} {c d k' t' : List (Str × Str)} {p' : List Str} {c' d' : List (Str × Str)} (G : GX k t p c d) (G' : GX k' t' p' c' d') (hd : d.length ≤ 1000) (hk : ∀ q ∈ k, q ∈ k') (hc : ∀ q ∈ c, q ∈ c') : ∀ q ∈ d, holdOf k' c' q.1 = holdOf k c q.1 := fun q hq => by
  obtain ⟨y, z, h1, h2, e⟩ := (G.kept hd).hold hq
  rw [e]
  exact holdOf_eq G'.cn.nd G'.kn.nd (hc _ h1) (hk _ h2)
end Tp
namespace Tp
open PySem PySem.Spec PyProof.Rows L2 He
section
variable {C : Addr} {H H' : Hp} {S L b : Addr} {i : Int} {a : Ma7} {A : Bk} {k t : List (Str × Str)} {p : List Str} {c d kb tb : List (Str × Str)} {pb : List Str} {cb db : List (Str × Str)} {fs fb : List Fk} {ts ds us ms : List V}
theorem Md7.setB (v : Md7 H a k t p c d ms) (nb : Int) : Md7 (upd H a.M (.lst (a.items.set 6 (.int nb)))) { a with b := nb } k t p c d ms := by
  have nd := v.nd
  simp only [Ma7.all, List.nodup_cons, List.mem_cons, List.not_mem_nil, not_or, or_false] at nd
  obtain ⟨⟨n0, n1, n2, n3, n4, n5⟩, _⟩ := nd
  have e : Ext [a.M] H (upd H a.M (.lst (a.items.set 6 (.int nb)))) := ext_lst v.M
  exact ⟨v.nd, upd_same, v.r0.ext e (by simpa using Ne.symm n0), v.r1.ext e (by simpa using Ne.symm n1), e.keep _ _ v.r2 (by simpa using Ne.symm n2), v.r3.ext e (by simpa using Ne.symm n3), v.r4.ext e (by simpa using Ne.symm n4), e.keep _ _ v.r5 (by simpa using Ne.symm n5)⟩
/-- the seventh part of the model changes -/
theorem Lx7.setB (j : Lx7 C H S L b i a A k t p c d kb tb pb cb db fs fb ts ds us ms) (nb : Int) : Lx7 C (upd H a.M (.lst (a.items.set 6 (.int nb)))) S L b i { a with b := nb } A k t p c d kb tb pb cb db fs fb ts ds us ms := by
  have x : Ext [a.M] H (upd H a.M (.lst (a.items.set 6 (.int nb)))) := ext_lst j.M.M
  have gy := j.g a.M (by simp)
  exact ⟨j.s.keepM x (by simpa using Ne.symm gy.1) (by simpa using Ne.symm gy.2), j.M.setB nb, j.W.ext x, j.B.extM x fun z hz => by simp only [List.mem_singleton]; exact fun h => (j.f z hz).2.2 (by rw [h]; simp), j.f, j.g⟩
/-- the book's number changes -/
theorem Lx7.bnd {n : Int} (j : Lx7 C H S L b i a A k t p c d kb tb pb cb db fs fb ts ds us ms) (x : Ext [b] H H') (B : BookAt C H' b n A (kb.map tv) ts pb (cb.map tv) ds us) : Lx7 C H' S L b n a A k t p c d kb tb pb cb db fs fb ts ds us ms := by
  have fb' := j.f b (by simp)
  exact ⟨j.s.keepM x (by simpa using Ne.symm fb'.1) (by simpa using Ne.symm fb'.2.1), j.M.ext x fun y hy => by simp only [List.mem_singleton]; exact fun h => fb'.2.2 (by rw [← h]; exact hy), j.W.ext x, ⟨B, j.B.T.ext x, j.B.D.ext x, j.B.F.ext x, j.B.G, j.B.nl, j.B.dl, j.B.fl, j.B.tl, j.B.fo⟩, j.f, j.g⟩
end
end Tp
/-! Tw: two books and their models, apart -/
namespace Tp
open PySem PySem.Spec PyProof.Rows L2 He
/-- a model of six parts gets a seventh -/
theorem MdAt.seven {H : Hp} {a : Mad} {k t : List (Str × Str)} {p : List Str} {c d : List (Str × Str)} {fs : List V} (v : MdAt H a k t p c d fs) (n : Int) : Md7 (upd H a.M (.lst ([.ref a.m0, .ref a.m1, .ref a.m2, .ref a.m3, .ref a.m4, .ref a.m5] ++ [.int n]))) ⟨a.M, a.m0, a.m1, a.m2, a.m3, a.m4, a.m5, n⟩ k t p c d fs := by
  have nd := v.nd
  simp only [Mad.all, List.nodup_cons, List.mem_cons, List.not_mem_nil, not_or, or_false] at nd
  obtain ⟨⟨n0, n1, n2, n3, n4, n5⟩, _⟩ := nd
  have e : Ext [a.M] H (upd H a.M (.lst ([.ref a.m0, .ref a.m1, .ref a.m2, .ref a.m3, .ref a.m4, .ref a.m5] ++ [.int n]))) := ext_lst v.M
  exact ⟨v.nd, upd_same, v.r0.ext e (by simpa using Ne.symm n0), v.r1.ext e (by simpa using Ne.symm n1), e.keep _ _ v.r2 (by simpa using Ne.symm n2), v.r3.ext e (by simpa using Ne.symm n3), v.r4.ext e (by simpa using Ne.symm n4), e.keep _ _ v.r5 (by simpa using Ne.symm n5)⟩
abbrev rLo (K : PySem.W.Frag) : List V → Hp → VK → Prop := fun xs H Q => ∃ p ys, xs = [.ref p] ∧ (SqL K H p ys ∨ SqT K H p ys) ∧ ∀ l, H l = none → Q (.ref l) (upd H l (.lst ys))
def isCp (H' : Hp) (n m : Addr) : Prop := ∃ xs, H' m = some (.lst xs) ∧ H' n = some (.lst xs)
theorem isCp.ext {H H' : Hp} {ms : List Addr} {n m : Addr} (h : isCp H n m) (e : Ext ms H H') (h1 : n ∉ ms) (h2 : m ∉ ms) : isCp H' n m := by
  obtain ⟨xs, a, b⟩ := h
  exact ⟨xs, e.keep _ _ a h2, e.keep _ _ b h1⟩
theorem isCp.row {H : Hp} {n m : Addr} {l : List (Str × Str)} (h : isCp H n m) (r : RowAt H m l) : RowAt H n l := by
  obtain ⟨xs, a, b⟩ := h
  obtain ⟨as, ha, hp⟩ := r
  rw [a] at ha
  cases ha
  exact ⟨as, b, hp⟩
theorem isCp.lst {H : Hp} {n m : Addr} {xs : List V} (h : isCp H n m) (r : H m = some (.lst xs)) : H n = some (.lst xs) := by
  obtain ⟨ys, a, b⟩ := h
  rw [a] at r
  cases r
  exact b
/-- one of the two: a book, its model, and what they are made of -/
def Side (C : Addr) (S L : Addr) (n : Nat) (H : Hp) (b M : Addr) (O : List Addr) : Prop := ∃ a A k t p c d fs ts ds us ms, M = a.M ∧ O = ownP b a A ∧ Pq C H S L b a A k t p c d fs ts ds us ms ∧ fs.length ≤ 3 + n ∧ t.length ≤ 3 + n
structure Two (C : Addr) (S L B M : Addr) (n : Nat) (H : Hp) : Prop where
  s : SrcAt H S L
  n1 : B ≠ S ∧ B ≠ L
  n2 : M ≠ S ∧ M ≠ L
  n3 : B ≠ M
  w : ∃ b0 M0 O0 b1 M1 O1, Side C S L n H b0 M0 O0 ∧ Side C S L n H b1 M1 O1 ∧ H B = some (.lst [.ref b0, .ref b1]) ∧ H M = some (.lst [.ref M0, .ref M1]) ∧ (∀ y ∈ O0, y ∉ O1) ∧ (∀ y ∈ O0, y ≠ B ∧ y ≠ M) ∧ ∀ y ∈ O1, y ≠ B ∧ y ≠ M
section
variable {C S L B M : Addr} {n m : Nat} {H H' : Hp} {b Mm : Addr} {O : List Addr}
theorem Side.keep (t : Side C S L n H b Mm O) {xs : List Addr} (x : Ext xs H H') (s : SrcAt H' S L) (h : ∀ y ∈ O, y ∉ xs) (hn : n ≤ m) : Side C S L m H' b Mm O := by
  obtain ⟨a, A, k, tt, p, c, d, fs, ts, ds, us, ms, rfl, rfl, j, hf, ht⟩ := t
  exact ⟨a, A, k, tt, p, c, d, fs, ts, ds, us, ms, rfl, rfl, j.keep x s h, by omega, by omega⟩
theorem Side.offS (t : Side C S L n H b Mm O) : ∀ y ∈ O, y ≠ S := by
  obtain ⟨a, A, k, tt, p, c, d, fs, ts, ds, us, ms, rfl, rfl, j, hf, ht⟩ := t
  intro y hy
  rcases List.mem_append.mp hy with h | h
  · exact (j.f y h).1
  · exact (j.g y h).1
theorem Side.some (t : Side C S L n H b Mm O) : ∀ y ∈ O, ∃ v, H y = .some v := by
  obtain ⟨a, A, k, tt, p, c, d, fs, ts, ds, us, ms, rfl, rfl, j, hf, ht⟩ := t
  exact j.some
theorem Two.draw (t : Two C S L B M n H) (x : Ext [S] H H') (s : SrcAt H' S L) : Two C S L B M n H' := by
  obtain ⟨b0, M0, O0, b1, M1, O1, s0, s1, hB, hM, dj, f0, f1⟩ := t.w
  exact ⟨s, t.n1, t.n2, t.n3, b0, M0, O0, b1, M1, O1, s0.keep x s (fun y hy => by simpa using s0.offS y hy) (Nat.le_refl _), s1.keep x s (fun y hy => by simpa using s1.offS y hy) (Nat.le_refl _), x.keep _ _ hB (by simpa using t.n1.1), x.keep _ _ hM (by simpa using t.n2.1), dj, f0, f1⟩
theorem Two.grow (t : Two C S L B M n H) (x : Ext [] H H') : Two C S L B M n H' := t.draw x.nil (t.s.ext x)
theorem Two.more (t : Two C S L B M n H) (h : n ≤ m) : Two C S L B M m H := by
  obtain ⟨b0, M0, O0, b1, M1, O1, s0, s1, r⟩ := t.w
  exact ⟨t.s, t.n1, t.n2, t.n3, b0, M0, O0, b1, M1, O1, s0.keep (Ext.refl (ms := [])) t.s (by simp) h, s1.keep (Ext.refl (ms := [])) t.s (by simp) h, r⟩
end
theorem lc_copies {K : PySem.W.Frag} {l R : Addr} {ps : List Addr} {σ : L2.St} {H1 : Hp} {i : Nat} {Qd : Hp → Prop} (hl : H1 l = some (.lst (ps.map V.ref))) (hp : ∀ m ∈ ps, ∃ xs, H1 m = some (.lst xs)) (hR : H1 R = none) (hn : ps.length ≤ 1000)
    (hw : ∀ x, wipe ((wipe σ [i]).set i (some x)) [i] = wipe σ [i]) (h1 : ∀ x, ((wipe σ [i]).set i (some x))[i]? = some (some x))
    (hd : ∀ H' (rs : List Addr), Ext [] H1 H' → H' R = some (.lst (rs.map V.ref)) → rs.length = ps.length → (∀ r ∈ rs, H1 r = none ∧ r ≠ R) → rs.Nodup → (∀ (j : Nat) (n m : Addr), rs[j]? = some n → ps[j]? = some m → isCp H' n m) → Qd H') :
    ∃ W : Nat → Nat → Hp → Prop, (∃ m, W 0 m (upd H1 R (.lst []))) ∧ ∀ n m H, W n m H →
      ((Itl K l).stop n H ∧ Qd H) ∨ ((Itl K l).go n H ∧ ∃ Nx : Hp → Prop, (∀ H', Nx H' → ∃ m', m' < m ∧ W (n + 1) m' H') ∧ ∀ x H', (Itl K l).yld n H x H' → gName i x (wipe σ [i]) H' fun σ2 H2 => wipe σ2 [i] = wipe σ [i] ∧ tYes σ2 H2 fun b H3 =>
        if b = true then tCB (rLo K) (tCons (tVar i) tNil) σ2 H3 fun y H4 => ∃ acc, H4 R = some (.lst acc) ∧ acc.length < sizeLine ∧ Nx (upd H4 R (.lst (acc ++ [y]))) else Nx H3) := by
  refine lc_list (xs := ps.map V.ref) (fun n H' => Ext [] H1 H' ∧ ∃ rs : List Addr, H' R = some (.lst (rs.map V.ref)) ∧ rs.length = n ∧ (∀ r ∈ rs, H1 r = none ∧ r ≠ R ∧ ∃ o, H' r = some o) ∧ rs.Nodup ∧ ∀ (j : Nat) (n m : Addr), rs[j]? = some n → ps[j]? = some m → isCp H' n m) ⟨Ext.new hR, [], upd_same, rfl, by simp, .nil, fun j n m h => by simp at h⟩ ?_ ?_ ?_
  · rintro n H' _ ⟨e, _⟩
    exact SqL.of (e.keep _ _ hl (by simp))
  · rintro n x H' hx ⟨e, rs, hrs, hln, hnr, hnd, hcp⟩
    have hi := (List.getElem?_eq_some_iff.mp hx).1
    rw [List.length_map] at hi
    rw [List.getElem?_map] at hx
    obtain ⟨m, hm, rfl⟩ := Option.map_eq_some_iff.mp hx
    obtain ⟨xs, hxs⟩ := hp m (List.mem_of_getElem? hm)
    have hxs' := e.keep _ _ hxs (by simp)
    refine ⟨hw _, ?_⟩
    refine tyes ?_
    refine ⟨_, h1 _, m, xs, rfl, .inl (SqL.of hxs'), fun u hu => ?_⟩
    have e2 : Ext [] H' (upd H' u (.lst xs)) := Ext.new hu
    have hrs2 := e2.keep _ _ hrs (by simp)
    have hRu : R ≠ u := ne_of_none hrs hu
    have hu2 : (upd H' u (.lst xs)) u = some (.lst xs) := upd_same
    have hx2 := e2.keep _ _ hxs' (by simp)
    have x3 : Ext [R] (upd H' u (.lst xs)) (upd (upd H' u (.lst xs)) R (.lst (rs.map V.ref ++ [.ref u]))) := ext_lst hrs2
    have hmR : m ≠ R := ne_of_none hxs hR
    refine ⟨_, hrs2, by rw [List.length_map]; exact Evl.sz_lt (by omega), (e.trans e2).fresh hR, rs ++ [u], by rw [upd_same, List.map_append]; rfl, by rw [List.length_append, hln]; rfl, ?_, ?_, ?_⟩
    · intro r hr
      rcases List.mem_append.mp hr with hr | hr
      · obtain ⟨a, b, o, ho⟩ := hnr r hr
        exact ⟨a, b, o, by rw [upd_ne b]; exact e2.keep _ _ ho (by simp)⟩
      · rw [List.mem_singleton.mp hr]
        exact ⟨e.none hu (by simp), Ne.symm hRu, _, by rw [upd_ne (Ne.symm hRu)]; exact hu2⟩
    · rw [List.nodup_append]
      refine ⟨hnd, by simp, fun a ha b hb h => ?_⟩
      rw [List.mem_singleton.mp hb] at h
      obtain ⟨_, _, o, ho⟩ := hnr a ha
      rw [h, hu] at ho
      cases ho
    · intro j n' m' hj hm'
      rcases Nat.lt_trichotomy j rs.length with h | h | h
      · rw [List.getElem?_append_left h] at hj
        have hz := hcp j n' m' hj hm'
        have hmem := List.mem_of_getElem? hj
        obtain ⟨xs', hxs2⟩ := hp m' (List.mem_of_getElem? hm')
        exact (hz.ext e2 (by simp) (by simp)).ext x3 (by simpa using (hnr n' hmem).2.1) (by simpa using ne_of_none hxs2 hR)
      · subst h
        rw [List.getElem?_append_right (Nat.le_refl _), Nat.sub_self] at hj
        cases hj
        rw [hln, hm] at hm'
        cases hm'
        exact ⟨xs, x3.keep _ _ hx2 (by simpa using hmR), x3.keep _ _ hu2 (by simpa using Ne.symm hRu)⟩
      · rw [List.getElem?_eq_none (by rw [List.length_append]; show rs.length + 1 ≤ j; omega)] at hj
        cases hj
  · rintro H' ⟨e, rs, hrs, hln, hnr, hnd, hcp⟩
    rw [List.length_map] at hln
    exact hd H' rs e hrs hln (fun r hr => ⟨(hnr r hr).1, (hnr r hr).2.1⟩) hnd hcp
end Tp
/-! Sm: *rest, last = a list -/
namespace Tp
open PySem PySem.Spec PyProof.Rows L2 He
theorem vals_snoc {x : V} : ∀ {xs : List V} {its : List Value}, Vals (xs ++ [x]) its → ∃ us u, its = us ++ [u] ∧ Vals xs us ∧ RelV x u
  | [], _, .cons r .nil => ⟨[], _, rfl, .nil, r⟩
  | _ :: xs, _, .cons r rs => by
    obtain ⟨us, u, e, h1, h2⟩ := vals_snoc (xs := xs) rs
    exact ⟨_ :: us, u, by rw [e]; rfl, .cons r h1, h2⟩
/-- *rest, last = a list -/
def gStarL (K : PySem.W.Frag) (t : TGs) : TG := fun v σ H Q => ∃ a xs x, v = .ref a ∧ SqL K H a (xs ++ [x]) ∧ ∀ l, H l = none → t [.ref l, x] σ (upd H l (.lst xs)) Q
section
variable {X : Cx} {e1 e2 : Expr} {p pos : Pos} {k : Nat} {t : TGs}
theorem pg_starL (hc : X.calm = true) (h : PGs X [e1, e2] t) (hst : assignEach [.Starred e1 p, e2] X.env = [(true, assign e1 X.env), (false, assign e2 X.env)] := by rfl) (he : (assignEach [e1, e2] X.env).map (·.2) = [assign e1 X.env, assign e2 X.env] := by rfl) : PG X (.Tuple [.Starred e1 p, e2] k pos) (gStarL X.K t) := by
  refine ⟨fun pins s σ H v u Q I r hw => ?_⟩
  obtain ⟨a, xs, x, e0, hq, hw⟩ := hw
  subst e0
  cases r
  obtain ⟨its, rv, ht, hz⟩ := I.list hq
  obtain ⟨us, u, rfl, rus, ru⟩ := vals_snoc rv
  rw [assign_Tuple]
  refine wpAny_bind (wpAny_standAt ?_)
  unfold unpack
  rw [hst]
  refine wpAny_bind (wpAny_holding ?_)
  have hlt : a ≠ s.heap.objs.size := Nat.ne_of_lt ht.lt
  show wpAny _ _ (unpackItems (.ref a) 2 (some 0)) _ _ _
  unfold unpackItems
  refine wpAny_bind ?_
  unfold notIterableAtAll
  refine wpAny_bind (wpAny_specialOf ht.isList.typeIs slot_list_iter.lookup ?_)
  refine wpAny_pure ?_
  simp only [Bool.false_eq_true, if_false]
  have fp0 : FpOk X pins H s.heap.objs.size := I.fpOk (Nat.le_refl _) (I.hok.fresh (Nat.le_refl _))
  refine wpAny_bind (wpAny_holding (wpAny_pyIter_list ht.isList ?_))
  have I1 : Inv X pins σ H { s with heap := s.heap.push { cls := .type "list_iterator", data := .fields #[.ref a, .int 0 0] } } := I.kept (t' := s.toks) fun b o e => Heap.get?_push_of_some _ e
  have ht1 := ht.isList.push { cls := .type "list_iterator", data := .fields #[.ref a, .int 0 0] }
  have hul := rus.length
  have hsz : us.length + 1 ≤ sizeLine := by
    have h1 : xs.length + 1 ≤ sizeLine := by simpa using hz
    omega
  unfold draw
  refine wpAny_bind (wpAny_holding (wpAny_pure ?_))
  rw [if_neg (show ¬ ([] : List Value).length < 0 from Nat.lt_irrefl 0)]
  refine wpAny_bind (wpAny_holding (PySem.W.kun_collect (T := "list_iterator") (.inr (.inr (.inl rfl))) (Walks.list (A := X.A.in1) (I.ok.hd hc) s.heap.objs.size a hlt (us ++ [u]).toArray) (fun j u st => st.1.typeIs) (k := 0) (Nat.zero_le _) ⟨⟨_, Heap.get?_push_size _ rfl, rfl, rfl⟩, ht1⟩ (Heap.lt_size (Heap.get?_push_size _ rfl)) (by obtain ⟨o, ho, _⟩ := ht1; exact Heap.lt_size ho) (fun h₂ tk hk => ?_) (by simp; omega)))
  have hl : ((us ++ [u]).toArray.toList.drop 0) = us ++ [u] := by simp
  rw [hl]
  rw [if_neg (by simp)]
  have ht2 : (us ++ [u]).take ((us ++ [u]).length - (2 - 1 - 0)) = us := by
    rw [List.length_append]
    exact List.take_left' (by show us.length = us.length + 1 - 1; omega)
  have hd2 : (us ++ [u]).drop ((us ++ [u]).length - (2 - 1 - 0)) = [u] := by
    rw [List.length_append]
    exact List.drop_left' (by show us.length = us.length + 1 - 1; omega)
  rw [ht2, hd2]
  refine wpAny_bind (PySem.wpAny_newList ?_ (by show us.toArray.size ≤ sizeLine; simp; omega))
  refine wpAny_pure ?_
  have I3 := I1.turnedL (h' := h₂) (t' := tk) (ch := [s.heap.objs.size]) (fun b o hb e => hk b o (by simpa using hb) e) fun b hb => by
    rw [List.mem_singleton.mp hb]
    exact fp0
  have hf : H h₂.objs.size = none := I3.hok.fresh (Nat.le_refl _)
  have I4 := I3.laid (a := h₂.objs.size) (o := .lst xs) (h' := h₂.push { cls := .type "list", data := .seq us.toArray }) (t' := tk) (fun b u e => Heap.get?_push_of_some _ e) (Nat.le_refl _) ⟨by omega, us, 0, rus, Heap.get?_push_size _ rfl⟩
  have q := hw _ hf
  have e0 : (List.map (fun x : Bool × (Value → Sem Unit) => x.2) [(true, assign e1 X.env), (false, assign e2 X.env)]) = (assignEach [e1, e2] X.env).map (·.2) := he.symm
  show wpAny _ _ (assignInOrder (List.map (fun x => x.2) [(true, assign e1 X.env), (false, assign e2 X.env)]) ([] ++ [Value.ref h₂.objs.size] ++ [u])) _ _ _
  rw [e0]
  exact h.run pins _ σ _ [.ref h₂.objs.size, x] [.ref h₂.objs.size, u] Q I4 (.cons rfl (.cons ru .nil)) q
end
end Tp
/-! Sn: match over a list of texts, by cases of a first word and names -/
namespace Tp
open PySem PySem.Spec PyProof.Rows L2 He
def setAll : L2.St → List Nat → List Str → L2.St
  | σ, i :: is, z :: zs => setAll (σ.set i (some (.str z))) is zs
  | σ, _, _ => σ
def bsOf : List Pattern → List Value → List (Str × Value)
  | .MatchAs none (some n) _ :: ps, u :: us => (n, u) :: bsOf ps us
  | _, _ => []
/-- patterns that are names of the def -/
inductive Caps (X : Cx) : List Pattern → List Nat → Prop
  | nil : Caps X [] []
  | cons {n : Str} {i : Nat} {p : Pos} {ps : List Pattern} {is : List Nat} (hi : X.N[i]? = some n) (hx : Loc X.env.scope n) (hf : X.fn n = true ∨ X.env.scope.names.lookup n = some .local) (r : Caps X ps is) : Caps X (.MatchAs none (some n) p :: ps) (i :: is)
theorem Caps.star {X : Cx} {ps : List Pattern} {is : List Nat} (c : Caps X ps is) : ps.findIdx? (·.isStar) = none := by
  induction c with
  | nil => rfl
  | cons _ _ _ _ ih => rw [List.findIdx?_cons, ih]; rfl
theorem Caps.len {X : Cx} {ps : List Pattern} {is : List Nat} (c : Caps X ps is) : is.length = ps.length := by
  induction c with
  | nil => rfl
  | cons _ _ _ _ ih => rw [List.length_cons, List.length_cons, ih]
section
variable {X : Cx} {pins : List (Addr × Obj)} {A : Around} {E : Value → Shared → Prop}
theorem Caps.each {M : PySem.Model} {ps : List Pattern} {is : List Nat} (c : Caps X ps is) : ∀ {us : List Value} {s : Shared} {Q : Option (List (Str × Value)) → Shared → Prop}, us.length = ps.length → Q (some (bsOf ps us)) s → wpAny M A (matchEach ps X.env us) Q E s := by
  induction c with
  | nil =>
    intro us s Q hl hq
    exact wpAny_matchEach_nil (by simpa [bsOf] using hq)
  | cons hi hx hf r ih =>
    intro us s Q hl hq
    cases us with
    | nil => simp at hl
    | cons u us =>
      refine wpAny_matchEach_cons (wpAny_matchPattern_Capture ?_)
      exact ih (by simpa using hl) hq
theorem Caps.bind {M : PySem.Model} {ps : List Pattern} {is : List Nat} (hN : X.N.Nodup) (c : Caps X ps is) : ∀ {us : List Value} {zs : List Str} {σ : L2.St} {H : Hp} {s : Shared} {Q : Unit → Shared → Prop}, Inv X pins σ H s → Vals (zs.map V.str) us → zs.length = ps.length → (∀ s', Inv X pins (setAll σ is zs) H s' → Q () s') →
    wpAny M A (assignInOrder ((bsOf ps us).map fun (n, _) => bindName X.env n) ((bsOf ps us).map (·.2))) Q E s := by
  induction c with
  | nil =>
    intro us zs σ H s Q I r hl hq
    have : bsOf [] us = [] := by cases us <;> rfl
    rw [this]
    refine assignInOrder_nil (hq s ?_)
    have : setAll σ [] zs = σ := by cases zs <;> rfl
    rw [this]
    exact I
  | cons hi hx hf r ih =>
    intro us zs σ H s Q I rv hl hq
    cases zs with
    | nil => simp at hl
    | cons z zs =>
      cases rv with
      | cons ru rus =>
        refine assignInOrder_cons (wpAny_bindName (store_ok I hN hi hx ru (fun s' I' => ?_) hf))
        exact ih I' rus (by simpa using hl) hq
end
/-- cases: the first word, where the others go, what is done -/
def tCs : List (Str × List Nat × TS) → List Str → TS
  | [], _ => fun D σ H => D.nx σ H
  | (w, is, t) :: r, zs => fun D σ H => if zs.length = is.length + 1 ∧ zs.head? = some w then t D (setAll σ is zs.tail) H else tCs r zs D σ H
def tMatch (K : PySem.W.Frag) (te : TE) (cs : List (Str × List Nat × TS)) : TS := fun D σ H => te σ H fun v H1 => ∃ a zs, v = .ref a ∧ SqL K H1 a (zs.map V.str) ∧ tCs cs zs D σ H1
structure PMs (X : Cx) (cases : List MatchCase) (cs : List (Str × List Nat × TS)) : Prop where
  run : ∀ (pins : List (Addr × Obj)) (s : Shared) (σ : L2.St) (H : Hp) (D : Ends) (a : Addr) (zs : List Str) (first : Bool), Inv X pins σ H s → SqL X.K H a (zs.map V.str) → tCs cs zs D σ H → wpAny (model X.prog X.w) X.A (matchCases cases X.env (.ref a) first) (SP X pins D) X.xe s
section
variable {X : Cx}
theorem pm_nil : PMs X [] [] := ⟨fun pins s σ H D a zs first I _ h => wpAny_matchCases_nil ⟨σ, H, I, h⟩⟩
theorem pm_cons {w : Str} {e : Expr} {ps : List Pattern} {is : List Nat} {body : List Stmt} {t : TS} {rest : List MatchCase} {cs : List (Str × List Nat × TS)} {p2 p3 : Pos} (hc : X.calm = true) (hN : X.N.Nodup) (he : PE X e (tC (.str w))) (c : Caps X ps is) (hb : PSs X body t) (hr : PMs X rest cs) :
    PMs X (⟨.MatchSequence (.MatchValue e p2 :: ps) p3, none, body⟩ :: rest) ((w, is, t) :: cs) := by
  refine ⟨fun pins s σ H D a zs first I hq h => ?_⟩
  obtain ⟨its, rv, ht, hz⟩ := I.list hq
  have hul := rv.length
  rw [List.length_map] at hul hz
  have hcl := c.len
  refine wpAny_matchCases_cons (wpAny_matchPattern_Sequence (wpAny_collectionFlag ht.isList.typeIs flag_seq_list ?_) (by rw [List.findIdx?_cons, c.star]; rfl) (by rw [List.all_cons]; rfl))
  rw [if_pos rfl]
  refine pyLen_list ht.isList (by
    have : sizeLine < 2 ^ 62 := by decide
    have h2 : its.toArray.size = its.length := by simp
    omega) ?_
  have I1 : Inv X pins σ H { s with toks := s.toks + 1 + 1 } := I.kept (h' := s.heap) (t' := s.toks + 1 + 1) fun b o e => e
  by_cases hl : zs.length = is.length + 1
  · rw [if_neg (by
      simp only [List.length_cons, bne_iff_ne, ne_eq, Decidable.not_not, List.size_toArray]
      omega)]
    have hn : (Pattern.MatchValue e p2 :: ps).length = its.toArray.size := by simp only [List.length_cons, List.size_toArray]; omega
    rw [hn]
    refine PySem.W.kun_itemsOf (I.ok.hd hc) ht.isList fun h' he' => ?_
    have I2 : Inv X pins σ H { s with heap := h', toks := s.toks + 1 + 1 } := I1.kept (h' := h') (t' := s.toks + 1 + 1) fun b o e => he' b o (Nat.ne_of_lt (Heap.lt_size e)) e
    show wpAny _ _ (matchEach _ _ its) _ _ _
    cases zs with
    | nil => simp at hl
    | cons z zs =>
      cases rv with
      | @cons _ u _ us ru rus =>
      have hlz : zs.length = ps.length := by simp at hl; omega
      have hlu : us.length = ps.length := by
        have := rus.length
        rw [List.length_map] at this
        omega
      refine wpAny_matchEach_cons (wpAny_matchPattern_Value ?_)
      refine thn (he.run pins _ σ H (fun v H1 => v = .str w ∧ H1 = H) I2 ⟨rfl, rfl⟩) fun x s1 ⟨v, H1, I3, rx, e1, e2⟩ => ?_
      subst e1 e2
      refine thn (op_eq (X := X) pins s1 σ H1 (.str z) (.str w) u x (fun v H2 => v = .bl (decide (V.str z = V.str w)) ∧ H2 = H1) I3 ru rx ⟨rfl, rfl, rfl⟩) fun y s2 ⟨v2, H2, I4, ry, e3, e4⟩ => ?_
      subst e3 e4
      cases ry
      refine wpAny_truthy_bool ?_
      by_cases hw : z = w
      · rw [decide_eq_true (congrArg V.str hw)]
        rw [if_pos rfl]
        refine c.each hlu ?_
        refine c.bind hN I4 rus hlz fun s' I5 => ?_
        refine hb.run pins s' _ H2 D I5 ?_
        have h : tCs ((w, is, t) :: cs) (z :: zs) D σ H2 := h
        unfold tCs at h
        rw [if_pos ⟨hl, by rw [hw]; rfl⟩] at h
        exact h
      · rw [decide_eq_false (fun h => hw (by cases h; rfl))]
        rw [if_neg (by decide)]
        refine hr.run pins s2 σ H2 D a (z :: zs) false I4 hq ?_
        have h : tCs ((w, is, t) :: cs) (z :: zs) D σ H2 := h
        unfold tCs at h
        rw [if_neg (fun hh => hw (by simpa using hh.2))] at h
        exact h
  · rw [if_pos (by
      simp only [List.length_cons, bne_iff_ne, ne_eq, List.size_toArray]
      omega)]
    refine hr.run pins _ σ H D a zs false I1 hq ?_
    unfold tCs at h
    rw [if_neg (fun hh => hl hh.1)] at h
    exact h
theorem ps_match {e : Expr} {te : TE} {cases : List MatchCase} {cs : List (Str × List Nat × TS)} {pos : Pos} (he : PE X e te) (h : PMs X cases cs) : PS X (.Match e cases pos) (tMatch X.K te cs) := by
  refine ⟨fun pins s σ H D I hw => ?_⟩
  refine wpAny_Match (thn (he.run pins s σ H _ I hw) fun v s1 ⟨x, H1, I1, r1, a, zs, e1, hq, q⟩ => ?_)
  subst e1
  cases r1
  exact h.run pins s1 σ H1 D a zs true I1 hq q
end
theorem tcs_no {w : Str} {is : List Nat} {t : TS} {r : List (Str × List Nat × TS)} {zs : List Str} {D : Ends} {σ : L2.St} {H : Hp} (h : zs.head? ≠ some w) (q : tCs r zs D σ H) : tCs ((w, is, t) :: r) zs D σ H := by
  unfold tCs
  rw [if_neg (fun hh => h hh.2)]
  exact q
theorem tcs_yes {w : Str} {is : List Nat} {t : TS} {r : List (Str × List Nat × TS)} {zs : List Str} {D : Ends} {σ : L2.St} {H : Hp} (h1 : zs.length = is.length + 1) (h : zs.head? = some w) (q : t D (setAll σ is zs.tail) H) : tCs ((w, is, t) :: r) zs D σ H := by
  unfold tCs
  rw [if_pos ⟨h1, h⟩]
  exact q
theorem hd_ne {x y : Str} {r : List Str} (h : x ≠ y) : (x :: r).head? ≠ some y := fun e => h (Option.some.inj e)
end Tp
/-! En: enumerate(a list, start) -/
namespace Tp
open PySem PySem.Spec PyProof.Rows L2 He
/-- as Ite, counted from k -/
def ItF (K : PySem.W.Frag) (a : Addr) (k : Nat) : It :=
  ⟨fun i H => ∃ (xs : List V) (x : V), SqL K H a xs ∧ xs[i]? = some x, fun i H v H' => ∃ T x, v = .ref T ∧ H T = none ∧ H' = upd H T (.tup [.int ((i + k : Nat) : Int), x]) ∧ ∀ xs, SqL K H a xs → xs[i]? = some x, fun i H => ∃ xs : List V, SqL K H a xs ∧ xs.length ≤ i⟩
theorem enum_over {prog : Program} {w : World} {A : Around} {E : Value → Shared → Prop} {s : Shared} {e it l : Addr} {i : Nat} {c : Int} {items : Array Value} {old : Value} {Q : Option Value → Shared → Prop} (hh : A.handled = none)
    (he : IsEnum s.heap e it c old) (hit : s.heap.IsListIter it l i) (hl : s.heap.IsList l items) (hx : items[i]? = none) (hQ : ∀ h', Heap.ExtBut it s.heap h' → Q none { s with heap := h' }) : wpAny (model prog w) A (pyNext (.ref e)) Q E s := by
  unfold pyNext
  refine wpAny_bind (wpAny_attempt (wpAny_callSpecial?_slot (name := Str.ofString "__next__") ⟨_, he, rfl⟩ F.slot_enumerate_next (wpAny_call_entry F.slot_enumerate_next ⟨_, he, rfl⟩ F.entry_enumerate_next ?_ (F.args_enumerate_next_1 _))))
  show wpAny _ _ (field (.ref e) 2 >>= _) _ _ _
  refine wpAny_bind (wpAny_field he rfl (x := .ref it) rfl (wpAny_bind (wpAny_nextOf_list_end hh hit hl hx fun h' x he' ⟨o, ho, hc⟩ => ?_)))
  exact wpAny_bind (wpAny_isInstance (T := "StopIteration") (b := true) ⟨o, ho, hc⟩ isSubtype_stop (wpAny_pure (hQ _ he')))
theorem turn_enumF {P : Program} {w : World} {K : PySem.W.Frag} {elts : List Expr} {kk : Nat} {tpos : Pos} (a e it : Addr) (k : Nat) :
    Turn P w K (.Tuple elts kk tpos) (ItF K a k) [e, it] e (fun i h => (∃ old, IsEnum h e it ((i + k : Nat) : Int) old) ∧ h.IsListIter it a i ∧ e ≠ it ∧ e ≠ a ∧ a ≠ it) where
  mem := by simp
  obj := fun i h st b hb => by
    obtain ⟨⟨old, he⟩, ⟨o, ho, hc, hd⟩, _⟩ := st
    have e' : b = e ∨ b = it := by simpa using hb
    rcases e' with z | z
    · rw [z]; exact ⟨_, he, fun v q => nomatch q⟩
    · rw [z]; exact ⟨o, ho, fun v q => by rw [hd] at q; cases q⟩
  keep := fun i h h' st kp => let ⟨⟨old, he⟩, hi, hne⟩ := st; ⟨⟨old, kp e (by simp) _ he⟩, hi.at fun o q => kp it (by simp) o q, hne⟩
  item := by
    intro X hP hw hK hc i pins s σ H E I hf st hg
    subst hP hw hK
    obtain ⟨⟨old, he⟩, hit, hne, hea, hai⟩ := st
    obtain ⟨xs, x, hq, hx⟩ := hg
    obtain ⟨its, rv, p, hz⟩ := I.list hq
    obtain ⟨u, hu, ru⟩ := rv.get hx
    have hlt := (List.getElem?_eq_some_iff.mp hu).1
    have hel : e < s.heap.objs.size := Heap.lt_size he
    have hil : it < s.heap.objs.size := by obtain ⟨_, q, _⟩ := hit; exact Heap.lt_size q
    refine wpAny_pyNext_enum_itemC (Draws.list (A := X.A.in1) (I.ok.hd hc) it a hai its.toArray) he ⟨hit, p.isList⟩ (by simpa using hlt) hne (by simp [hne, hea]) fun u' h' tk hu' ho hst' hT hsz hk => ?_
    have huu : u' = u := by
      have h1 : its[i]? = some u' := by simpa using hu'
      rw [hu] at h1
      cases h1
      rfl
    subst huu
    refine ⟨_, rfl, wpAny_letOwnedTupleGo_enum (s := { s with heap := h', toks := tk + 1 }) ho fun h'' he' sb => ?_⟩
    have hT2 : h''.get? s.heap.objs.size = some { cls := .type "tuple", data := .seq #[.int ((i + k : Nat) : Int) tk, u'] } := (sb.2 _ (Nat.ne_of_gt hel)).trans hT
    have new : ObjOk X.prog X.w (upd H s.heap.objs.size (.tup [.int ((i + k : Nat) : Int), x])) h'' s.heap.objs.size (.tup [.int ((i + k : Nat) : Int), x]) :=
      ⟨by show 2 ≤ sizeLine; decide, [.int ((i + k : Nat) : Int) tk, u'], .cons ⟨_, rfl⟩ (.cons ru .nil), ⟨_, hT2, rfl, _, rfl⟩⟩
    have I1 : Inv X pins σ (upd H s.heap.objs.size (.tup [.int ((i + k : Nat) : Int), x])) { s with heap := h'', toks := tk + 1 } :=
      I.turnedNew (ch := [e, it]) (fun b ob hb q => (sb.2 b (fun z => hb (by simp [z]))).trans (hk b ob (fun z => hb (by simp [z])) (fun z => hb (by simp [z])) q)) hf (Nat.le_refl _) new
    refine ⟨.ref s.heap.objs.size, _, I1, rfl, ⟨_, x, rfl, I.hok.fresh (Nat.le_refl _), rfl, fun ys hy => by rw [I.list_inj hy hq]; exact hx⟩, ⟨⟨u', ?_⟩, hst'.1.at fun o q => (sb.2 it (Ne.symm hne)).trans q, hne, hea, hai⟩, fun b hb => ?_⟩
    · have e1 : ((i + 1 + k : Nat) : Int) = ((i + k : Nat) : Int) + 1 := by omega
      rw [e1]; exact he'
    · have hb' : b < s.heap.objs.size := by
        have e' : b = e ∨ b = it := by simpa using hb
        rcases e' with z | z
        · rw [z]; exact hel
        · rw [z]; exact hil
      rw [upd_ne (Nat.ne_of_lt hb')]
      exact (hf b hb).1
  done := by
    intro X hP hw hK hc i pins s σ H E I hf st hg
    subst hP hw hK
    obtain ⟨⟨old, he⟩, hit, hne, _⟩ := st
    obtain ⟨xs, hq, hx⟩ := hg
    obtain ⟨its, rv, p, hz⟩ := I.list hq
    obtain ⟨f0, f1, f2, f3, f4, f5⟩ := hf it (by simp)
    have hl := rv.length
    exact enum_over (I.ok.hd hc) he hit p.isList (by simp; omega) fun h' eb => ⟨rfl, I.turned (t' := s.toks) (fun b o hb q => eb b o hb q) f0 f1 f3 f4 f5⟩
  self := fun A i s Q E st h => let ⟨⟨_, he⟩, _⟩ := st; wpAny_pyIter_enum he h
/-- enumerate(list, k) -/
def iEnumF (K : PySem.W.Frag) (ta : TA) : TI := fun σ H R => ta σ H fun vs H1 => ∃ (a : Addr) (k : Nat) (xs : List V), vs = [.ref a, .int (k : Int)] ∧ k ≤ 1000 ∧ SqL K H1 a xs ∧ R (ItF K a k) H1
theorem pi_enumF {X : Cx} {e e2 : Expr} {ta : TA} {p pos tpos : Pos} {elts : List Expr} {kk : Nat} (hg : Gl X "enumerate") (hm : X.mg "enumerate" = none) (ha : PA X [e, e2] ta) (hs : starEach [e, e2] X.env = [(false, eval e X.env), (false, eval e2 X.env)] := by rfl) (hs2 : starEach [e2] X.env = [(false, eval e2 X.env)] := by rfl) :
    PI X (.Tuple elts kk tpos) (.Call (.Name "enumerate" p) [e, e2] [] pos) (iEnumF X.K ta) := by
  refine ⟨fun pins s σ H R I h => ?_⟩
  refine Call_ (ld_blt I hg hm boot_enumerate (PyProof.Rows.callWith_type1 (thn (ha.run pos pins s σ H _ I h) fun us s1 ⟨vs, H1, I1, r1, q1⟩ => ?_) (by rw [hs, hs2]) (by rw [hs2]; rfl)))
  obtain ⟨a, k, xs, ex, hk, hq, q⟩ := q1
  subst ex
  cases r1 with
  | cons r rr =>
    cases rr with
    | cons r' rr =>
    cases rr
    cases r
    obtain ⟨t, rfl⟩ := r'
    obtain ⟨its, rv, p', hz⟩ := I1.list hq
    refine enum_begins (begins_list a its.toArray) p'.isList (by omega) (by omega) fun h' he hit hsz hkp => wpAny_pyIter_enum he ?_
    have hal := p'.lt
    have I2 : Inv X pins σ H1 { s1 with heap := h' } := I1.kept (t' := s1.toks) hkp
    refine ⟨s1.heap.objs.size + 1, [s1.heap.objs.size + 1, s1.heap.objs.size], _, _, H1, rfl, I2, turn_enumF a (s1.heap.objs.size + 1) s1.heap.objs.size k, ⟨⟨.none, by rw [Nat.zero_add]; exact he⟩, ⟨_, hit, rfl, rfl⟩, Nat.succ_ne_self _, Nat.ne_of_gt (Nat.lt_succ_of_lt hal), Nat.ne_of_lt hal⟩, fun b hb => ?_, q⟩
    have e' : b = s1.heap.objs.size + 1 ∨ b = s1.heap.objs.size := by simpa using hb
    have hle : s1.heap.objs.size ≤ b := by
      rcases e' with z | z
      · rw [z]; exact Nat.le_add_right _ _
      · rw [z]; exact Nat.le_refl _
    exact I1.fpOk hle (I1.hok.fresh hle)
end Tp
/-! Kg: d.get(a text, default), d a dict that a module holds -/
namespace Tp
open PySem PySem.Spec PyProof.Rows L2 He
def tKGet2 (K : PySem.W.Frag) (w : World) (td ty tx : TE) : TE := fun σ H Q => td σ H fun x H1 => ∃ a es n, x = .ref a ∧ KDict K w a es n ∧ ty σ H1 fun y H2 => tx σ H2 fun z H3 => ∃ (k : Str) (r : Option Value), y = .str k ∧ PySem.W.nsIn K a k = some r ∧
  (∀ u0, r = some u0 → ∃ v0, RelV v0 u0 ∧ Q v0 H3) ∧ (r = none → Q z H3)
theorem pe_kget2 {X : Cx} {o e f : Expr} {apos cpos : Pos} {td ty tx : TE} (ho : PE X o td) (he : PE X e ty) (hf : PE X f tx) (m : M2 X o "get" apos e f cpos) : PE X (.Call (.Attribute o "get" apos) [e, f] [] cpos) (tKGet2 X.K X.w td ty tx) := by
  refine ⟨fun pins s σ H Q I h => ?_⟩
  refine wpAny_Call_method m.base m.few m.line PySem.F.plainAttrs_dict PySem.F.slot_dict_get PySem.F.type_dict_get (thn (ho.run pins s σ H _ I h) fun u s1 ⟨x, H1, I1, rx, a, es, n, ex, D, q1⟩ => ?_)
  subst ex
  obtain rfl : u = Value.ref a := rx
  have mo := PySem.W.mapOf_K (prog := X.prog) (w := X.w) I1.kIn D.at_ D.lit
  refine ⟨mo.typeIs, mo.noDict, ?_⟩
  rw [m.trees]
  refine Calls.callWith_builtin rfl (Calls.evalArgs_plain (Calls.spliced_cons (thn (he.run pins s1 σ H1 _ I1 q1) fun iv s2 ⟨y, H2, I2, ry, q2⟩ =>
    Calls.spliced_cons (thn (hf.run pins s2 σ H2 _ I2 q2) fun fv s3 ⟨z, H3, I3, rz, k, r, ey, hk, qs, qn⟩ => Calls.spliced_nil ?_))))
  subst ey
  obtain ⟨t, rfl⟩ := ry
  have mo3 := PySem.W.mapOf_K (prog := X.prog) (w := X.w) I3.kIn D.at_ D.lit
  refine call_meetsIn PySem.F.slot_dict_get mo3.typeIs PySem.F.entry_dict_get (PySem.F.args_dict_get_3 _ _ _) (meets_dict_get_default _ a (PySem.strKind_is X.prog X.w k t) D.low fv) ⟨_, mo3, ?_⟩
  rw [PySem.W.find_K D.at_ hk]
  cases r with
  | none => exact ⟨_, H3, I3.tok _, rz, qn rfl⟩
  | some u0 =>
    obtain ⟨v0, rv, q⟩ := qs u0 rfl
    exact ⟨v0, H3, I3.tok _, rv, q⟩
theorem walk_enumF {K : PySem.W.Frag} {a : Addr} {k : Nat} {xs : List V} : Walk (ItF K a k) xs.length (fun H => SqL K H a xs) (YPair (fun i => some (.int ((i + k : Nat) : Int))) fun i => xs[i]?) where
  goes := fun i H hi hq => ⟨xs, xs[i], hq, by simp [hi]⟩
  stops := fun H hq => ⟨xs, hq, Nat.le_refl _⟩
  yields := fun i H x H' hi hq ⟨T, y, e1, hT, e2, hy⟩ => ⟨T, _, y, e1, hT, e2, rfl, hy xs hq⟩
end Tp
/-! Sh: the lines of a model in any order that fits -/
namespace Tp
open PySem PySem.Spec PyProof.Rows L2 He
/-- the lines' words, by groups -/
def rowG (k t : List (Str × Str)) (p : List Str) (c d : List (Str × Str)) (fs : List Fk) : Nat → List (List Str)
  | 0 => k.map fun q => [("kind" : Str), q.1, q.2]
  | 1 => t.map fun q => [("thirst" : Str), q.1, q.2]
  | 2 => p.map fun z => [("pot" : Str), z]
  | 3 => c.map fun q => [("cloth" : Str), q.1, q.2]
  | 4 => d.map fun q => [("dip" : Str), q.1, q.2]
  | 5 => fs.map fwD
  | _ => []
def amF : Fk → List Am
  | .tell x y => [x, y]
  | .some x => [x]
theorem amF_in {f : Fk} {xs : List Am} (h : inA xs f) : ∀ q ∈ amF f, q ∈ xs := by
  cases f with
  | tell x y =>
    intro q hq
    simp only [amF, List.mem_cons, List.not_mem_nil, or_false] at hq
    rcases hq with rfl | rfl
    · exact h.1
    · exact h.2
  | some x =>
    intro q hq
    simp only [amF, List.mem_cons, List.not_mem_nil, or_false] at hq
    subst hq
    exact h
/-- whether the next line of a group has all that it needs, n: how many are done of each -/
def rdB (k t : List (Str × Str)) (p : List Str) (c d : List (Str × Str)) (fs : List Fk) (n : Nat → Nat) : Nat → Bool
  | 0 => decide (n 0 < k.length)
  | 1 => match t[n 1]? with
    | some q => decide (q.1 ∈ (k.take (n 0)).map (·.1)) && decide (q.2 ∈ (k.take (n 0)).map (·.1))
    | none => false
  | 2 => decide (n 2 < p.length)
  | 3 => match c[n 3]? with
    | some q => decide (q.2 ∈ (k.take (n 0)).map (·.1))
    | none => false
  | 4 => match d[n 4]? with
    | some q => decide (q.1 ∈ (c.take (n 3)).map (·.1)) && decide (q.2 ∈ p.take (n 2))
    | none => false
  | 5 => match fs[n 5]? with
    | some f => (amF f).all fun q => decide (q.2 < n 4)
    | none => false
  | _ => false
abbrev bump (n : Nat → Nat) (g : Nat) : Nat → Nat := fun x => n x + if x = g then 1 else 0
theorem cnt_snoc {gs : List Nat} {g : Nat} : (fun x => (gs ++ [g]).count x) = bump (fun x => gs.count x) g := by
  funext x
  show (gs ++ [g]).count x = gs.count x + if x = g then 1 else 0
  rw [List.count_append, List.count_singleton]
  by_cases h : x = g
  · subst h; simp
  · simp [h, Ne.symm h]
section
variable {k t : List (Str × Str)} {p : List Str} {c d : List (Str × Str)} {fs : List Fk}
theorem lines_rowG : ∀ g, g < 6 → (linesD k t p c d fs)[g]? = some ((rowG k t p c d fs g).map (Txt.join sp1)) := by
  have h3 : ∀ (w w' : Str), w' = w ++ sp1 → ∀ l : List (Str × Str), (l.map fun q => w' ++ q.1 ++ sp1 ++ q.2) = (l.map fun q => [w, q.1, q.2]).map (Txt.join sp1) := by
    intro w w' e l
    rw [List.map_map]
    refine List.map_congr_left fun q _ => ?_
    show w' ++ q.1 ++ sp1 ++ q.2 = Txt.join sp1 [w, q.1, q.2]
    rw [j3, e]
  intro g hg
  match g, hg with
  | 0, _ => exact congrArg some (h3 "kind" "kind " (by decide +kernel) k)
  | 1, _ => exact congrArg some (h3 "thirst" "thirst " (by decide +kernel) t)
  | 2, _ =>
    refine congrArg some ?_
    show (p.map fun z => ("pot " : Str) ++ z) = (p.map fun z => [("pot" : Str), z]).map (Txt.join sp1)
    rw [List.map_map]
    refine List.map_congr_left fun z _ => ?_
    show ("pot " : Str) ++ z = Txt.join sp1 ["pot", z]
    rw [j2, show ("pot " : Str) = ("pot" : Str) ++ sp1 from by decide +kernel]
  | 3, _ => exact congrArg some (h3 "cloth" "cloth " (by decide +kernel) c)
  | 4, _ => exact congrArg some (h3 "dip" "dip " (by decide +kernel) d)
  | 5, _ =>
    refine congrArg some ?_
    show (fs.map fun f => Txt.join sp1 (fwD f)) = (fs.map fwD).map (Txt.join sp1)
    rw [List.map_map]
    rfl
theorem rows_rowG : rowsD k t p c d fs = rowG k t p c d fs 0 ++ (rowG k t p c d fs 1 ++ (rowG k t p c d fs 2 ++ (rowG k t p c d fs 3 ++ (rowG k t p c d fs 4 ++ rowG k t p c d fs 5)))) := rfl
theorem rdB_row {n : Nat → Nat} {g : Nat} (h : rdB k t p c d fs n g = true) : g < 6 ∧ ∃ ws, (rowG k t p c d fs g)[n g]? = some ws := by
  match g, h with
  | 0, h =>
    have h1 : n 0 < k.length := of_decide_eq_true h
    exact ⟨by decide, _, by show (k.map _)[n 0]? = some _; rw [List.getElem?_map, List.getElem?_eq_getElem h1]; rfl⟩
  | 1, h =>
    have h' : (match t[n 1]? with
      | some q => decide (q.1 ∈ (k.take (n 0)).map (·.1)) && decide (q.2 ∈ (k.take (n 0)).map (·.1))
      | none => false) = true := h
    cases hq : t[n 1]? with
    | none =>
      rw [hq] at h'
      cases h'
    | some q => exact ⟨by decide, _, by show (t.map _)[n 1]? = some _; rw [List.getElem?_map, hq]; rfl⟩
  | 2, h =>
    have h1 : n 2 < p.length := of_decide_eq_true h
    exact ⟨by decide, _, by show (p.map _)[n 2]? = some _; rw [List.getElem?_map, List.getElem?_eq_getElem h1]; rfl⟩
  | 3, h =>
    have h' : (match c[n 3]? with
      | some q => decide (q.2 ∈ (k.take (n 0)).map (·.1))
      | none => false) = true := h
    cases hq : c[n 3]? with
    | none =>
      rw [hq] at h'
      cases h'
    | some q => exact ⟨by decide, _, by show (c.map _)[n 3]? = some _; rw [List.getElem?_map, hq]; rfl⟩
  | 4, h =>
    have h' : (match d[n 4]? with
      | some q => decide (q.1 ∈ (c.take (n 3)).map (·.1)) && decide (q.2 ∈ p.take (n 2))
      | none => false) = true := h
    cases hq : d[n 4]? with
    | none =>
      rw [hq] at h'
      cases h'
    | some q => exact ⟨by decide, _, by show (d.map _)[n 4]? = some _; rw [List.getElem?_map, hq]; rfl⟩
  | 5, h =>
    have h' : (match fs[n 5]? with
      | some q => (amF q).all fun q => decide (q.2 < n 4)
      | none => false) = true := h
    cases hq : fs[n 5]? with
    | none =>
      rw [hq] at h'
      cases h'
    | some q => exact ⟨by decide, _, by show (fs.map _)[n 5]? = some _; rw [List.getElem?_map, hq]; rfl⟩
/-- an order of lines that fits -/
inductive Sh (k t : List (Str × Str)) (p : List Str) (c d : List (Str × Str)) (fs : List Fk) : List Nat → List (List Str) → Prop where
  | nil : Sh k t p c d fs [] []
  | snoc {gs : List Nat} {rows : List (List Str)} {g : Nat} {ws : List Str} : Sh k t p c d fs gs rows → rdB k t p c d fs (fun x => gs.count x) g = true → (rowG k t p c d fs g)[gs.count g]? = some ws → Sh k t p c d fs (gs ++ [g]) (rows ++ [ws])
theorem Sh.len {gs : List Nat} {rows : List (List Str)} (h : Sh k t p c d fs gs rows) : rows.length = gs.length := by
  induction h with
  | nil => rfl
  | snoc _ _ _ ih => rw [List.length_append, List.length_append, ih]; rfl
theorem Sh.lt6 {gs : List Nat} {rows : List (List Str)} (h : Sh k t p c d fs gs rows) : ∀ g ∈ gs, g < 6 := by
  induction h with
  | nil => simp
  | snoc _ h1 _ ih =>
    intro g hg
    rcases List.mem_append.mp hg with hg | hg
    · exact ih g hg
    · rw [List.mem_singleton.mp hg]
      exact (rdB_row h1).1
theorem Sh.le {gs : List Nat} {rows : List (List Str)} (h : Sh k t p c d fs gs rows) : ∀ g, gs.count g ≤ (rowG k t p c d fs g).length := by
  induction h with
  | nil => intro g; exact Nat.zero_le _
  | @snoc gs rows g ws _ h1 h2 ih =>
    intro x
    have e : (gs ++ [g]).count x = gs.count x + if x = g then 1 else 0 := congrFun (cnt_snoc (gs := gs) (g := g)) x
    have h3 := (List.getElem?_eq_some_iff.mp h2).1
    have h4 := ih x
    rw [e]
    by_cases hx : x = g
    · subst hx
      rw [if_pos rfl]
      exact h3
    · rw [if_neg hx]
      exact h4
theorem Sh.get {gs : List Nat} {rows : List (List Str)} (h : Sh k t p c d fs gs rows) : ∀ {i : Nat} {ws : List Str}, rows[i]? = some ws → ∃ g, g < 6 ∧ gs[i]? = some g ∧ rdB k t p c d fs (fun x => (gs.take i).count x) g = true ∧ (rowG k t p c d fs g)[(gs.take i).count g]? = some ws := by
  induction h with
  | nil => intro i ws h; simp at h
  | @snoc gs rows g ws' hs h1 h2 ih =>
    intro i ws hi
    have hl := hs.len
    by_cases hlt : i < rows.length
    · rw [List.getElem?_append_left hlt] at hi
      obtain ⟨g', a1, a2, a3, a4⟩ := ih hi
      refine ⟨g', a1, by rw [List.getElem?_append_left (by omega)]; exact a2, ?_⟩
      rw [List.take_append_of_le_length (by omega)]
      exact ⟨a3, a4⟩
    · rw [List.getElem?_append_right (by omega)] at hi
      have h0 : i - rows.length = 0 := by
        have := (List.getElem?_eq_some_iff.mp hi).1
        rw [List.length_singleton] at this
        omega
      rw [h0] at hi
      cases hi
      have hi2 : i = gs.length := by omega
      subst hi2
      refine ⟨g, (rdB_row h1).1, by rw [List.getElem?_append_right (Nat.le_refl _), Nat.sub_self]; rfl, ?_⟩
      rw [List.take_left]
      exact ⟨h1, h2⟩
theorem cnt_sum : ∀ gs : List Nat, (∀ g ∈ gs, g < 6) → gs.length = gs.count 0 + gs.count 1 + gs.count 2 + gs.count 3 + gs.count 4 + gs.count 5
  | [], _ => rfl
  | x :: r, h => by
    have ih := cnt_sum r fun g hg => h g (List.mem_cons_of_mem _ hg)
    have hx := h x (List.mem_cons_self ..)
    have hc : ∀ y, (x :: r).count y = r.count y + if x = y then 1 else 0 := fun y => by
      rw [List.count_cons]
      by_cases e : x = y
      · subst e; simp
      · simp [e]
    rw [List.length_cons, hc 0, hc 1, hc 2, hc 3, hc 4, hc 5, ih]
    match x, hx with
    | 0, _ => simp; omega
    | 1, _ => simp; omega
    | 2, _ => simp; omega
    | 3, _ => simp; omega
    | 4, _ => simp; omega
    | 5, _ => simp; omega
/-- what goes together of what is done -/
structure Fit (k t : List (Str × Str)) (p : List Str) (c d : List (Str × Str)) (n : Nat → Nat) : Prop where
  tk : ∀ q ∈ t.take (n 1), q.1 ∈ (k.take (n 0)).map (·.1) ∧ q.2 ∈ (k.take (n 0)).map (·.1)
  ck : ∀ q ∈ c.take (n 3), q.2 ∈ (k.take (n 0)).map (·.1)
  dc : ∀ q ∈ d.take (n 4), q.1 ∈ (c.take (n 3)).map (·.1) ∧ q.2 ∈ p.take (n 2)
theorem take_bump {α : Type} {l : List α} {n : Nat → Nat} {g x : Nat} {q : α} (h : q ∈ l.take (bump n g x)) : q ∈ l.take (n x) ∨ (x = g ∧ l[n x]? = some q) := by
  unfold bump at h
  by_cases e : x = g
  · rw [if_pos e] at h
    rw [List.take_add_one] at h
    rcases List.mem_append.mp h with h | h
    · exact .inl h
    · exact .inr ⟨e, by simpa using h⟩
  · rw [if_neg e] at h
    exact .inl h
theorem take_le {α : Type} {l : List α} {a b : Nat} {q : α} (h : q ∈ l.take a) (hab : a ≤ b) : q ∈ l.take b := by
  have : l.take a = (l.take b).take a := by rw [List.take_take, Nat.min_eq_left hab]
  rw [this] at h
  exact List.mem_of_mem_take h
theorem take_leM {l : List (Str × Str)} {a b : Nat} {q : Str} (h : q ∈ (l.take a).map (·.1)) (hab : a ≤ b) : q ∈ (l.take b).map (·.1) := by
  obtain ⟨z, hz, rfl⟩ := List.mem_map.mp h
  exact List.mem_map.mpr ⟨z, take_le hz hab, rfl⟩
theorem Fit.step {n : Nat → Nat} {g : Nat} (F : Fit k t p c d n) (h : rdB k t p c d fs n g = true) : Fit k t p c d (bump n g) := by
  have le : ∀ x, n x ≤ bump n g x := fun x => Nat.le_add_right _ _
  refine ⟨fun q hq => ?_, fun q hq => ?_, fun q hq => ?_⟩
  · rcases take_bump hq with hq | ⟨e1, hq2⟩
    · exact ⟨take_leM (F.tk q hq).1 (le 0), take_leM (F.tk q hq).2 (le 0)⟩
    · subst e1
      have h' : (match t[n 1]? with
        | some q => decide (q.1 ∈ (k.take (n 0)).map (·.1)) && decide (q.2 ∈ (k.take (n 0)).map (·.1))
        | none => false) = true := h
      rw [hq2] at h'
      simp only [Bool.and_eq_true, decide_eq_true_eq] at h'
      exact ⟨take_leM h'.1 (le 0), take_leM h'.2 (le 0)⟩
  · rcases take_bump hq with hq | ⟨e1, hq2⟩
    · exact take_leM (F.ck q hq) (le 0)
    · subst e1
      have h' : (match c[n 3]? with
        | some q => decide (q.2 ∈ (k.take (n 0)).map (·.1))
        | none => false) = true := h
      rw [hq2] at h'
      simp only [decide_eq_true_eq] at h'
      exact take_leM h' (le 0)
  · rcases take_bump hq with hq | ⟨e1, hq2⟩
    · exact ⟨take_leM (F.dc q hq).1 (le 3), take_le (F.dc q hq).2 (le 2)⟩
    · subst e1
      have h' : (match d[n 4]? with
        | some q => decide (q.1 ∈ (c.take (n 3)).map (·.1)) && decide (q.2 ∈ p.take (n 2))
        | none => false) = true := h
      rw [hq2] at h'
      simp only [Bool.and_eq_true, decide_eq_true_eq] at h'
      exact ⟨take_leM h'.1 (le 3), take_le h'.2 (le 2)⟩
theorem Sh.fit {gs : List Nat} {rows : List (List Str)} (h : Sh k t p c d fs gs rows) : ∀ i, Fit k t p c d fun x => (gs.take i).count x := by
  induction h with
  | nil =>
    intro i
    have e : (fun x => (([] : List Nat).take i).count x) = fun _ => 0 := by
      funext x
      rw [List.take_nil]
      rfl
    rw [e]
    exact ⟨by simp, by simp, by simp⟩
  | @snoc gs rows g ws hs h1 h2 ih =>
    intro i
    by_cases hi : i ≤ gs.length
    · rw [List.take_append_of_le_length hi]
      exact ih i
    · rw [List.take_of_length_le (by rw [List.length_append, List.length_singleton]; omega), cnt_snoc]
      have h0 := ih gs.length
      rw [List.take_length] at h0
      exact h0.step h1
theorem Sh.run {gs : List Nat} {rows : List (List Str)} {g : Nat} (h : Sh k t p c d fs gs rows) (h0 : gs.count g = 0) : ∀ m, m ≤ (rowG k t p c d fs g).length → (∀ i, i < m → rdB k t p c d fs (fun x => gs.count x + if x = g then i else 0) g = true) → Sh k t p c d fs (gs ++ List.replicate m g) (rows ++ (rowG k t p c d fs g).take m)
  | 0, _, _ => by
    rw [List.replicate_zero, List.append_nil, List.take_zero, List.append_nil]
    exact h
  | m + 1, hm, hr => by
    have ih := Sh.run h h0 m (by omega) fun i hi => hr i (by omega)
    have hc : ∀ x, (gs ++ List.replicate m g).count x = gs.count x + if x = g then m else 0 := fun x => by
      rw [List.count_append, List.count_replicate]
      by_cases e : x = g
      · subst e; simp
      · simp [e, Ne.symm e]
    have h1 : rdB k t p c d fs (fun x => (gs ++ List.replicate m g).count x) g = true := by
      rw [funext hc]
      exact hr m (by omega)
    have hgm : (gs ++ List.replicate m g).count g = m := by rw [hc, if_pos rfl, h0, Nat.zero_add]
    have hm' : m < (rowG k t p c d fs g).length := by omega
    rw [List.replicate_succ', ← List.append_assoc, take_snoc (List.getElem?_eq_getElem hm'), ← List.append_assoc]
    exact ih.snoc h1 (by rw [hgm]; exact List.getElem?_eq_getElem hm')
theorem cnt_rep {m g x : Nat} : (List.replicate m g).count x = if x = g then m else 0 := by
  rw [List.count_replicate]
  by_cases e : x = g
  · subst e; simp
  · simp [e, Ne.symm e]
/-- the lines in the told order fit -/
theorem Sh.told (tk : ∀ q ∈ t, q.1 ∈ k.map (·.1) ∧ q.2 ∈ k.map (·.1)) (ck : ∀ q ∈ c, q.2 ∈ k.map (·.1)) (dc : ∀ q ∈ d, q.1 ∈ c.map (·.1) ∧ q.2 ∈ p) (hf : ∀ f ∈ fs, ∀ q ∈ amF f, q.2 < d.length) : ∃ gs, Sh k t p c d fs gs (rowsD k t p c d fs) := by
  have mk : ∀ {l : List (Str × Str)}, l.take l.length = l := fun {l} => List.take_length
  have s0 := Sh.run (g := 0) (Sh.nil (k := k) (t := t) (p := p) (c := c) (d := d) (fs := fs)) rfl k.length (by show _ ≤ (k.map _).length; rw [List.length_map]; exact Nat.le_refl _) fun i hi => by
    show decide (_ < k.length) = true
    exact decide_eq_true (by simpa using hi)
  have s1 := Sh.run (g := 1) s0 (by simp [cnt_rep]) t.length (by show _ ≤ (t.map _).length; rw [List.length_map]; exact Nat.le_refl _) fun i hi => by
    unfold rdB
    simp only [List.count_append, cnt_rep, List.count_nil, List.nil_append, if_true, if_false, Nat.zero_add, Nat.add_zero, reduceIte]
    simp only [show ((1 : Nat) = 0) = False from by simp, show ((0 : Nat) = 1) = False from by simp, if_false, Nat.zero_add, Nat.add_zero, mk, List.getElem?_eq_getElem hi]
    have := tk _ (List.getElem_mem hi)
    simp only [decide_eq_true this.1, decide_eq_true this.2, Bool.and_self]
  have s2 := Sh.run (g := 2) s1 (by simp [cnt_rep]) p.length (by show _ ≤ (p.map _).length; rw [List.length_map]; exact Nat.le_refl _) fun i hi => by
    show decide (_ < p.length) = true
    exact decide_eq_true (by simpa [cnt_rep] using hi)
  have s3 := Sh.run (g := 3) s2 (by simp [cnt_rep]) c.length (by show _ ≤ (c.map _).length; rw [List.length_map]; exact Nat.le_refl _) fun i hi => by
    unfold rdB
    have := ck _ (List.getElem_mem hi)
    simp [cnt_rep, List.getElem?_eq_getElem hi]
    simpa using this
  have s4 := Sh.run (g := 4) s3 (by simp [cnt_rep]) d.length (by show _ ≤ (d.map _).length; rw [List.length_map]; exact Nat.le_refl _) fun i hi => by
    unfold rdB
    have := dc _ (List.getElem_mem hi)
    simp [cnt_rep, List.getElem?_eq_getElem hi]
    simpa using this
  have s5 := Sh.run (g := 5) s4 (by simp [cnt_rep]) fs.length (by show _ ≤ (fs.map _).length; rw [List.length_map]; exact Nat.le_refl _) fun i hi => by
    unfold rdB
    have := hf _ (List.getElem_mem hi)
    simp [cnt_rep, List.getElem?_eq_getElem hi]
    exact fun a b h => this _ h
  rw [rows_rowG]
  have e : ∀ g, (rowG k t p c d fs g).take (rowG k t p c d fs g).length = rowG k t p c d fs g := fun g => List.take_length
  rw [show k.length = (rowG k t p c d fs 0).length from (List.length_map ..).symm, show t.length = (rowG k t p c d fs 1).length from (List.length_map ..).symm, show p.length = (rowG k t p c d fs 2).length from (List.length_map ..).symm, show c.length = (rowG k t p c d fs 3).length from (List.length_map ..).symm, show d.length = (rowG k t p c d fs 4).length from (List.length_map ..).symm, show fs.length = (rowG k t p c d fs 5).length from (List.length_map ..).symm, e, e, e, e, e, e, List.nil_append] at s5
  simp only [List.append_assoc] at s5
  exact ⟨_, s5⟩
abbrev totG (k t : List (Str × Str)) (p : List Str) (c d : List (Str × Str)) (fs : List Fk) : Nat := k.length + (t.length + (p.length + (c.length + (d.length + fs.length))))
theorem len_rowG : (rowG k t p c d fs 0).length = k.length ∧ (rowG k t p c d fs 1).length = t.length ∧ (rowG k t p c d fs 2).length = p.length ∧ (rowG k t p c d fs 3).length = c.length ∧ (rowG k t p c d fs 4).length = d.length ∧ (rowG k t p c d fs 5).length = fs.length :=
  ⟨List.length_map .., List.length_map .., List.length_map .., List.length_map .., List.length_map .., List.length_map ..⟩
theorem Sh.full {gs : List Nat} {rows : List (List Str)} (h : Sh k t p c d fs gs rows) (hl : gs.length = totG k t p c d fs) : gs.count 0 = k.length ∧ gs.count 1 = t.length ∧ gs.count 2 = p.length ∧ gs.count 3 = c.length ∧ gs.count 4 = d.length ∧ gs.count 5 = fs.length := by
  obtain ⟨e0, e1, e2, e3, e4, e5⟩ := len_rowG (k := k) (t := t) (p := p) (c := c) (d := d) (fs := fs)
  have h0 := h.le 0
  have h1 := h.le 1
  have h2 := h.le 2
  have h3 := h.le 3
  have h4 := h.le 4
  have h5 := h.le 5
  have hs := cnt_sum gs h.lt6
  unfold totG at hl
  refine ⟨?_, ?_, ?_, ?_, ?_, ?_⟩ <;> omega
/-- some group is always ready -/
theorem Sh.ready {gs : List Nat} {rows : List (List Str)} (h : Sh k t p c d fs gs rows) (tk : ∀ q ∈ t, q.1 ∈ k.map (·.1) ∧ q.2 ∈ k.map (·.1)) (ck : ∀ q ∈ c, q.2 ∈ k.map (·.1)) (dc : ∀ q ∈ d, q.1 ∈ c.map (·.1) ∧ q.2 ∈ p) (hf : ∀ f ∈ fs, ∀ q ∈ amF f, q.2 < d.length)
    (hl : gs.length < totG k t p c d fs) : ∃ g, g < 6 ∧ rdB k t p c d fs (fun x => gs.count x) g = true := by
  obtain ⟨e0, e1, e2, e3, e4, e5⟩ := len_rowG (k := k) (t := t) (p := p) (c := c) (d := d) (fs := fs)
  have h0 := h.le 0
  have h1 := h.le 1
  have h2 := h.le 2
  have h3 := h.le 3
  have h4 := h.le 4
  have h5 := h.le 5
  have hs := cnt_sum gs h.lt6
  unfold totG at hl
  by_cases c0 : gs.count 0 < k.length
  · exact ⟨0, by decide, decide_eq_true c0⟩
  have k0 : k.take (gs.count 0) = k := List.take_of_length_le (by omega)
  by_cases c2 : gs.count 2 < p.length
  · exact ⟨2, by decide, decide_eq_true c2⟩
  have p2 : p.take (gs.count 2) = p := List.take_of_length_le (by omega)
  by_cases c1 : gs.count 1 < t.length
  · refine ⟨1, by decide, ?_⟩
    have := tk _ (List.getElem_mem c1)
    unfold rdB
    simp only [List.getElem?_eq_getElem c1, k0, decide_eq_true this.1, decide_eq_true this.2, Bool.and_self]
  by_cases c3 : gs.count 3 < c.length
  · refine ⟨3, by decide, ?_⟩
    have := ck _ (List.getElem_mem c3)
    unfold rdB
    simp only [List.getElem?_eq_getElem c3, k0, decide_eq_true this]
  have p3 : c.take (gs.count 3) = c := List.take_of_length_le (by omega)
  by_cases c4 : gs.count 4 < d.length
  · refine ⟨4, by decide, ?_⟩
    have := dc _ (List.getElem_mem c4)
    unfold rdB
    simp only [List.getElem?_eq_getElem c4, p3, p2, decide_eq_true this.1, decide_eq_true this.2, Bool.and_self]
  have c5 : gs.count 5 < fs.length := by omega
  refine ⟨5, by decide, ?_⟩
  have := hf _ (List.getElem_mem c5)
  unfold rdB
  simp only [List.getElem?_eq_getElem c5]
  refine List.all_eq_true.mpr fun q hq => decide_eq_true ?_
  have := this q hq
  omega
/-! ### amounts of what is done -/
theorem prevD_take {x : Str} {m : Nat} : ∀ {n : Nat}, n ≤ m → prevD (d.take m) x n = prevD d x n
  | 0, _ => rfl
  | n + 1, h => by
    have ih := prevD_take (x := x) (m := m) (n := n) (by omega)
    show (if ((d.take m)[n]?.map (·.1)) = some x then some n else prevD (d.take m) x n) = if (d[n]?.map (·.1)) = some x then some n else prevD d x n
    rw [List.getElem?_take_of_lt (by omega), ih]
theorem leaveD_take {m i : Nat} (h : i < m) : leaveD k c (d.take m) i = leaveD k c d i := by
  unfold leaveD
  rw [List.getElem?_take_of_lt h]
  cases d[i]? with
  | none => rfl
  | some q =>
    dsimp only
    rw [prevD_take (by omega)]
    cases e : prevD d q.1 i with
    | none => rfl
    | some j =>
      dsimp only
      rw [List.getElem?_take_of_lt (by have := (prevD_lt e).1; omega)]
theorem amtD_take {m : Nat} : ∀ {n : Nat}, n ≤ m → amtD k c (d.take m) n = amtD k c d n
  | 0, _ => rfl
  | n + 1, h => by
    have ih := amtD_take (m := m) (n := n) (by omega)
    show (amtD k c (d.take m) n ++ _) ++ (if leaveD k c (d.take m) n = true then _ else _) = (amtD k c d n ++ _) ++ (if leaveD k c d n = true then _ else _)
    rw [ih, leaveD_take (by omega)]
theorem amtD_mono {n : Nat} {q : Am} (h : q ∈ amtD k c d n) : ∀ m, n ≤ m → q ∈ amtD k c d m
  | 0, hm => by
    rw [Nat.le_zero.mp hm] at h
    exact h
  | m + 1, hm => by
    by_cases e : n = m + 1
    · rw [← e]
      exact h
    · exact List.mem_append_left _ (List.mem_append_left _ (amtD_mono h m (by omega)))
theorem amtD_at {n : Nat} {q : Am} : ∀ {m : Nat}, q ∈ amtD k c d m → q.2 < n → q ∈ amtD k c d n
  | 0, h, _ => by cases h
  | m + 1, h, hn => by
    rcases List.mem_append.mp h with h1 | h1
    · rcases List.mem_append.mp h1 with h2 | h2
      · exact amtD_at h2 hn
      · have e : q.2 = m := by rw [List.mem_singleton.mp h2]
        exact amtD_mono h n (by omega)
    · have e : q.2 = m := by
        split at h1
        · rw [List.mem_singleton.mp h1]
        · cases h1
      exact amtD_mono h n (by omega)
/-- an amount of the whole is one of the part that has its dip -/
theorem amt_part {n0 n3 n4 m : Nat} (Kf : Kept k c d) (Kp : Kept (k.take n0) (c.take n3) (d.take n4)) {q : Am} (h : q ∈ amtD k c d m) (hq : q.2 < n4) (hn : n4 ≤ d.length) : q ∈ amtD (k.take n0) (c.take n3) (d.take n4) (d.take n4).length := by
  rw [amtD_hold (k := k) (c := c) (k' := k.take n0) (c' := c.take n3) (d := d.take n4) fun r hr => ?_, List.length_take, Nat.min_eq_left hn, amtD_take (Nat.le_refl _)]
  · exact amtD_at h hq
  · obtain ⟨y, z, h1, h2, h3⟩ := Kp.hold hr
    rw [h3, holdOf_eq Kf.cn Kf.kn (List.mem_of_mem_take h1) (List.mem_of_mem_take h2)]
end
/-! ### lines read back -/
open TL
theorem catS_nl : ∀ ls : List Str, catS (ls.map (· ++ nl)) = Txt.join nl (ls ++ [("" : Str)]) := by
  intro ls
  rw [join_is]
  induction ls with
  | nil => rfl
  | cons x r ih =>
    show (x ++ nl) ++ catS (r.map (· ++ nl)) = Str.join nl (x :: (r ++ [("" : Str)]))
    rw [ih]
    cases r with
    | nil => rfl
    | cons y r => rfl
theorem mem_joinL {s : Nat} {S : List Nat} : ∀ {ps : List (List Nat)}, s ∈ joinL S ps → s ∈ S ∨ ∃ p ∈ ps, s ∈ p
  | [], h => by cases h
  | [p], h => .inr ⟨p, by simp, h⟩
  | p :: q :: r, h => by
    have h' : s ∈ p ++ (S ++ joinL S (q :: r)) := h
    rcases List.mem_append.mp h' with h1 | h1
    · exact .inr ⟨p, by simp, h1⟩
    · rcases List.mem_append.mp h1 with h2 | h2
      · exact .inl h2
      · rcases mem_joinL h2 with h3 | ⟨z, h3, h4⟩
        · exact .inl h3
        · exact .inr ⟨z, List.mem_cons_of_mem _ h3, h4⟩
theorem split_words {ws : List Str} (hn : ws ≠ []) (h : ∀ z ∈ ws, 32 ∉ tl z) : Txt.split (Txt.join sp1 ws) sp1 = ws := split_join (s := 32) (S := []) rfl (by decide +kernel) hn h
theorem split_lines {ls : List Str} (h : ∀ l ∈ ls, 10 ∉ tl l) : Txt.split (catS (ls.map (· ++ nl))) nl = ls ++ [("" : Str)] := by
  rw [catS_nl]
  refine split_join (s := 10) (S := []) rfl (by decide +kernel) (by simp) fun p hp => ?_
  rcases List.mem_append.mp hp with hp | hp
  · exact h p hp
  · rw [List.mem_singleton.mp hp]
    decide +kernel
/-- a word of a line -/
abbrev clW (z : Str) : Prop := z ≠ "" ∧ 10 ∉ tl z ∧ 32 ∉ tl z
theorem nm_clW {z : Str} (h : nmS z = true) : clW z := by
  unfold nmS allL at h
  simp only [Bool.and_eq_true, decide_eq_true_eq, List.all_eq_true] at h
  obtain ⟨h1, _, h3⟩ := h
  refine ⟨fun e => ?_, fun e => ?_, fun e => ?_⟩
  · subst e
    exact absurd h1 (by decide +kernel)
  · exact absurd (h3 10 e) (by decide +kernel)
  · exact absurd (h3 32 e) (by decide +kernel)
theorem nS_clW : ∀ n, n < 100 → clW (nS n) := by decide +kernel
theorem nS_int : ∀ n, n < 100 → PySem.intText? (nS n) = some (n : Int) := by decide +kernel
theorem line_no_nl {ws : List Str} (h : ∀ z ∈ ws, clW z) : 10 ∉ tl (Txt.join sp1 ws) := by
  rw [join_eq, tl_join]
  intro hm
  rcases mem_joinL hm with h1 | ⟨p, h1, h2⟩
  · exact absurd h1 (by decide +kernel)
  · obtain ⟨z, hz, rfl⟩ := List.mem_map.mp h1
    exact (h z hz).2.1 h2
theorem textD_snoc (rows : List (List Str)) (ws : List Str) : textD (rows ++ [ws]) = textD rows ++ Txt.join sp1 ws ++ nl := by
  unfold textD
  rw [List.map_append, catS_app]
  show _ ++ ((Txt.join sp1 ws ++ nl) ++ ⟨#[]⟩) = _
  rw [nil_str, str_assoc]
theorem textD_split {rows : List (List Str)} (h : ∀ ws ∈ rows, ∀ z ∈ ws, clW z) : Txt.split (textD rows) nl = rows.map (Txt.join sp1) ++ [("" : Str)] := by
  have e : textD rows = catS ((rows.map (Txt.join sp1)).map (· ++ nl)) := by
    unfold textD
    rw [List.map_map]
    rfl
  rw [e]
  refine split_lines fun l hl => ?_
  obtain ⟨ws, hws, rfl⟩ := List.mem_map.mp hl
  exact line_no_nl (h ws hws)
theorem Sh.mem {k t : List (Str × Str)} {p : List Str} {c d : List (Str × Str)} {fs : List Fk} {gs : List Nat} {rows : List (List Str)} (S : Sh k t p c d fs gs rows) {ws : List Str} (h : ws ∈ rows) : ws ∈ rowsD k t p c d fs := by
  obtain ⟨i, hi⟩ := List.getElem?_of_mem h
  obtain ⟨g, hg, _, _, hr⟩ := S.get hi
  have hm := List.mem_of_getElem? hr
  rw [rows_rowG]
  simp only [List.mem_append]
  match g, hg, hm with
  | 0, _, hm => exact .inl hm
  | 1, _, hm => exact .inr (.inl hm)
  | 2, _, hm => exact .inr (.inr (.inl hm))
  | 3, _, hm => exact .inr (.inr (.inr (.inl hm)))
  | 4, _, hm => exact .inr (.inr (.inr (.inr (.inl hm))))
  | 5, _, hm => exact .inr (.inr (.inr (.inr (.inr hm))))
theorem rows_cl {k t : List (Str × Str)} {p : List Str} {c d : List (Str × Str)} {fs : List Fk} (hk : ∀ q ∈ k, clW q.1 ∧ clW q.2) (ht : ∀ q ∈ t, clW q.1 ∧ clW q.2) (hp : ∀ z ∈ p, clW z) (hc : ∀ q ∈ c, clW q.1 ∧ clW q.2) (hd : ∀ q ∈ d, clW q.1 ∧ clW q.2) (hf : ∀ f ∈ fs, ∀ q ∈ amF f, clW q.1 ∧ q.2 < 100) :
    ∀ ws ∈ rowsD k t p c d fs, ws ≠ [] ∧ ∀ z ∈ ws, clW z := by
  have h3 : ∀ (w : Str), clW w → ∀ l : List (Str × Str), (∀ q ∈ l, clW q.1 ∧ clW q.2) → ∀ ws ∈ l.map (fun q => [w, q.1, q.2]), ws ≠ [] ∧ ∀ z ∈ ws, clW z := by
    intro w hw l hl ws hws
    obtain ⟨q, hq, rfl⟩ := List.mem_map.mp hws
    refine ⟨by simp, fun z hz => ?_⟩
    simp only [List.mem_cons, List.not_mem_nil, or_false] at hz
    rcases hz with rfl | rfl | rfl
    · exact hw
    · exact (hl q hq).1
    · exact (hl q hq).2
  intro ws hws
  unfold rowsD at hws
  simp only [List.mem_append] at hws
  rcases hws with h | h | h | h | h | h
  · exact h3 _ (by decide +kernel) k hk ws h
  · exact h3 _ (by decide +kernel) t ht ws h
  · obtain ⟨z, hz, rfl⟩ := List.mem_map.mp h
    refine ⟨by simp, fun y hy => ?_⟩
    simp only [List.mem_cons, List.not_mem_nil, or_false] at hy
    rcases hy with rfl | rfl
    · decide +kernel
    · exact hp _ hz
  · exact h3 _ (by decide +kernel) c hc ws h
  · exact h3 _ (by decide +kernel) d hd ws h
  · obtain ⟨f, hfm, rfl⟩ := List.mem_map.mp h
    have hq := hf f hfm
    cases f with
    | tell x y =>
      have h1 := hq x (by simp [amF])
      have h2 := hq y (by simp [amF])
      refine ⟨by simp [fwD], fun z hz => ?_⟩
      simp only [fwD, List.mem_cons, List.not_mem_nil, or_false] at hz
      rcases hz with rfl | rfl | rfl | rfl | rfl
      · decide +kernel
      · exact h1.1
      · exact nS_clW _ h1.2
      · exact h2.1
      · exact nS_clW _ h2.2
    | some x =>
      have h1 := hq x (by simp [amF])
      refine ⟨by simp [fwD], fun z hz => ?_⟩
      simp only [fwD, List.mem_cons, List.not_mem_nil, or_false] at hz
      rcases hz with rfl | rfl | rfl
      · decide +kernel
      · exact h1.1
      · exact nS_clW _ h1.2
theorem paired_takeX {α β : Type} {R : α → β → Prop} : ∀ {as : List α} {bs : List β} {n : Nat}, Paired R as bs → Paired R (as.take n) (bs.take n)
  | _, _, 0, _ => .nil
  | _, _, _ + 1, .nil => .nil
  | _, _, _ + 1, .cons x r => .cons x (paired_takeX r)
/-- over pairs of texts: the first ones -/
theorem lc_heads {K : PySem.W.Frag} {a R : Addr} {as : List Addr} {prs : List (Str × Str)} {σ : L2.St} {H1 : Hp} {i : Nat} {Qd : Hp → Prop} (hl : H1 a = some (.lst (as.map V.ref))) (hp : Paired (fun (t : Addr) (q : Str × Str) => H1 t = some (.tup [.str q.1, .str q.2])) as prs) (hR : H1 R = none) (hn : as.length ≤ 1000)
    (hw : ∀ x, wipe ((wipe σ [i]).set i (some x)) [i] = wipe σ [i]) (h1 : ∀ x, ((wipe σ [i]).set i (some x))[i]? = some (some x))
    (hd : ∀ H', Ext [] H1 H' → H' R = some (.lst ((prs.map (·.1)).map V.str)) → Qd H') :
    ∃ W : Nat → Nat → Hp → Prop, (∃ m, W 0 m (upd H1 R (.lst []))) ∧ ∀ n m H, W n m H →
      ((Itl K a).stop n H ∧ Qd H) ∨ ((Itl K a).go n H ∧ ∃ Nx : Hp → Prop, (∀ H', Nx H' → ∃ m', m' < m ∧ W (n + 1) m' H') ∧ ∀ x H', (Itl K a).yld n H x H' → gName i x (wipe σ [i]) H' fun σ2 H2 => wipe σ2 [i] = wipe σ [i] ∧ tYes σ2 H2 fun b H3 =>
        if b = true then tOp (rIxT K) (tVar i) (tC (.int 0)) σ2 H3 fun y H4 => ∃ acc, H4 R = some (.lst acc) ∧ acc.length < sizeLine ∧ Nx (upd H4 R (.lst (acc ++ [y]))) else Nx H3) := by
  have hpl : as.length = prs.length := Paired.length hp
  refine lc_list (xs := as.map V.ref) (fun n H' => Ext [] H1 H' ∧ H' R = some (.lst (((prs.take n).map (·.1)).map V.str))) ⟨Ext.new hR, upd_same⟩ ?_ ?_ ?_
  · rintro n H' _ ⟨e, _⟩
    exact SqL.of (e.keep _ _ hl (by simp))
  · rintro n x H' hx ⟨e, hrs⟩
    rw [List.getElem?_map] at hx
    obtain ⟨u, hu, rfl⟩ := Option.map_eq_some_iff.mp hx
    obtain ⟨q, hq, hT⟩ := paired_getX hp hu
    have hT1 := e.tups _ _ hT
    refine ⟨hw _, ?_⟩
    refine tyes ?_
    refine ⟨_, h1 _, u, _, 0, .str q.1, rfl, rfl, .inl (.inl hT1), rfl, _, hrs, ?_, e.fresh hR, ?_⟩
    · rw [List.length_map, List.length_map, List.length_take]
      exact Evl.sz_lt (by omega)
    · rw [upd_same, take_snoc hq, List.map_append, List.map_append]
      rfl
  · rintro H' ⟨e, hrs⟩
    rw [List.length_map, List.take_of_length_le (by omega)] at hrs
    exact hd H' e hrs
theorem ext_over {H0 H H' : Hp} {ms : List Addr} {x : Addr} (e : Ext ms H0 H) (e2 : Ext [x] H H') (hx : H0 x = none) : Ext ms H0 H' :=
  ⟨fun b o q n => e2.keep _ _ (e.keep b o q n) (by
    intro h
    rw [List.mem_singleton.mp h, hx] at q
    cases q), fun b xs q => e2.tups _ _ (e.tups b xs q)⟩
theorem src_extM {H H' : Hp} {ms : List Addr} {S L : Addr} (s : SrcAt H S L) (e : Ext ms H H') (hS : S ∉ ms) (hL : L ∉ ms) : SrcAt H' S L := by
  obtain ⟨cells, i, k, g, h1, h2, h3⟩ := s
  exact ⟨cells, i, k, g, e.keep _ _ h1 hS, e.keep _ _ h2 hL, h3⟩
theorem row_cut {H : Hp} {l p : Addr} {q : List (Str × Str)} {xs : List V} {n : Nat} (r : RowAt H l q) (hx : H l = some (.lst xs)) (hn : n ≤ xs.length) {H' : Hp} (e : Ext [] H H') (hp : H' p = some (.lst (cutV xs none (some (n : Int))))) : RowAt H' p (q.take n) := by
  obtain ⟨as, h1, h2⟩ := r
  rw [h1] at hx
  cases hx
  rw [cut_take hn, ← List.map_take] at hp
  exact ⟨as.take n, hp, pairedG_mono (fun _ _ h => e.tups _ _ h) (paired_takeX h2)⟩
theorem names_sub {zs ys : List Str} (h : Names zs) (s : List.Sublist ys zs) : Names ys := ⟨h.nd.sublist s, fun z hz => h.nm z (s.subset hz), fun z hz => h.ok z (s.subset hz)⟩
/-- those of the pairs that pass -/
theorem lc_pass {K : PySem.W.Frag} {a R : Addr} {as : List Addr} {prs : List (Str × Str)} {pr : Str × Str → Bool} {σ : L2.St} {H1 : Hp} {i : Nat} {tt : TT} {Qd : Hp → Prop} (hl : H1 a = some (.lst (as.map V.ref))) (hp : Paired (fun (t : Addr) (q : Str × Str) => H1 t = some (.tup [.str q.1, .str q.2])) as prs) (hR : H1 R = none) (hn : as.length ≤ 1000)
    (hw : ∀ x, wipe ((wipe σ [i]).set i (some x)) [i] = wipe σ [i]) (h1 : ∀ x, ((wipe σ [i]).set i (some x))[i]? = some (some x))
    (ht : ∀ (u : Addr) (q : Str × Str) (G : Hp) (k : Bool → Hp → Prop), Ext [] H1 G → G u = some (.tup [.str q.1, .str q.2]) → k (pr q) G → tt ((wipe σ [i]).set i (some (.ref u))) G k)
    (hd : ∀ H' bs, Ext [] H1 H' → H' R = some (.lst (bs.map V.ref)) → Paired (fun (t : Addr) (q : Str × Str) => H' t = some (.tup [.str q.1, .str q.2])) bs (prs.filter pr) → Qd H') :
    ∃ W : Nat → Nat → Hp → Prop, (∃ m, W 0 m (upd H1 R (.lst []))) ∧ ∀ n m H, W n m H →
      ((Itl K a).stop n H ∧ Qd H) ∨ ((Itl K a).go n H ∧ ∃ Nx : Hp → Prop, (∀ H', Nx H' → ∃ m', m' < m ∧ W (n + 1) m' H') ∧ ∀ x H', (Itl K a).yld n H x H' → gName i x (wipe σ [i]) H' fun σ2 H2 => wipe σ2 [i] = wipe σ [i] ∧ tt σ2 H2 fun b H3 =>
        if b = true then tVar i σ2 H3 fun y H4 => ∃ acc, H4 R = some (.lst acc) ∧ acc.length < sizeLine ∧ Nx (upd H4 R (.lst (acc ++ [y]))) else Nx H3) := by
  have hpl : as.length = prs.length := Paired.length hp
  refine lc_list (xs := as.map V.ref) (fun n H' => Ext [] H1 H' ∧ ∃ bs : List Addr, H' R = some (.lst (bs.map V.ref)) ∧ bs.length ≤ n ∧ Paired (fun (t : Addr) (q : Str × Str) => H' t = some (.tup [.str q.1, .str q.2])) bs ((prs.take n).filter pr)) ⟨Ext.new hR, [], upd_same, Nat.zero_le _, by rw [List.take_zero]; exact .nil⟩ ?_ ?_ ?_
  · rintro n H' _ ⟨e, _⟩
    exact SqL.of (e.keep _ _ hl (by simp))
  · rintro n x H' hx ⟨e, bs, hbs, hbl, hbp⟩
    have hi := (List.getElem?_eq_some_iff.mp hx).1
    rw [List.length_map] at hi
    rw [List.getElem?_map] at hx
    obtain ⟨u, hu, rfl⟩ := Option.map_eq_some_iff.mp hx
    obtain ⟨q, hq, hT⟩ := paired_getX hp hu
    have hT1 := e.tups _ _ hT
    refine ⟨hw _, ht u q H' _ e hT1 ?_⟩
    rw [take_snoc hq, List.filter_append]
    refine ifb (fun hb => ?_) (fun hb => ?_)
    · refine ⟨_, h1 _, _, hbs, by rw [List.length_map]; exact Evl.sz_lt (by omega), e.fresh hR, bs ++ [u], by rw [upd_same, List.map_append]; rfl, by rw [List.length_append]; show bs.length + 1 ≤ n + 1; omega, ?_⟩
      have x2 : Ext [R] H' (upd H' R (.lst (bs.map V.ref ++ [.ref u]))) := ext_lst hbs
      rw [show [q].filter pr = [q] from by simp [hb]]
      exact paired_app (pairedG_mono (fun _ _ h => x2.tups _ _ h) hbp) (pairedG_one (x2.tups _ _ hT1))
    · rw [show [q].filter pr = [] from by simp [hb], List.append_nil]
      exact ⟨e, bs, hbs, by omega, hbp⟩
  · rintro H' ⟨e, bs, hbs, hbl, hbp⟩
    rw [List.length_map, List.take_of_length_le (by omega)] at hbp
    exact hd H' bs e hbs hbp
/-- [list(rows) for rows in model] -/
theorem cp_six {K : PySem.W.Frag} {σ : L2.St} {H : Hp} {te : TE} {i : Nat} {a : Mad} {k t : List (Str × Str)} {p : List Str} {c d : List (Str × Str)} {ms : List V} {Q : VK} (he : Val te σ H (.ref a.M)) (M : MdAt H a k t p c d ms)
    (hw : ∀ x, wipe ((wipe σ [i]).set i (some x)) [i] = wipe σ [i]) (h1 : ∀ x, ((wipe σ [i]).set i (some x))[i]? = some (some x))
    (q : ∀ a' H', Ext [] H H' → (∀ y ∈ a'.all, H y = none) → MdAt H' a' k t p c d ms → Q (.ref a'.M) H') :
    tLc (iList K te) (gName i) tYes (tCB (rLo K) (tCons (tVar i) tNil)) [i] σ H Q := by
  refine he _ ⟨a.M, rfl, ⟨_, SqL.of M.M⟩, fun R hR => lc_copies (l := a.M) (ps := [a.m0, a.m1, a.m2, a.m3, a.m4, a.m5]) M.M (fun m hm => ?_) hR (by show 6 ≤ 1000; decide) hw h1 fun H2 rs e2 hR2 hrl hrf hrn hcp => ?_⟩
  · simp only [List.mem_cons, List.not_mem_nil, or_false] at hm
    rcases hm with rfl | rfl | rfl | rfl | rfl | rfl
    · exact ⟨_, M.r0.choose_spec.1⟩
    · exact ⟨_, M.r1.choose_spec.1⟩
    · exact ⟨_, M.r2⟩
    · exact ⟨_, M.r3.choose_spec.1⟩
    · exact ⟨_, M.r4.choose_spec.1⟩
    · exact ⟨_, M.r5⟩
  · have M2 := M.ext e2 fun _ _ => by simp
    match rs, hrl with
    | [n0, n1, n2, n3, n4, n5], _ =>
      refine q ⟨R, n0, n1, n2, n3, n4, n5⟩ H2 e2 (fun y hy => ?_) ⟨?_, hR2, (hcp 0 n0 a.m0 rfl rfl).row M2.r0, (hcp 1 n1 a.m1 rfl rfl).row M2.r1, (hcp 2 n2 a.m2 rfl rfl).lst M2.r2, (hcp 3 n3 a.m3 rfl rfl).row M2.r3, (hcp 4 n4 a.m4 rfl rfl).row M2.r4, (hcp 5 n5 a.m5 rfl rfl).lst M2.r5⟩
      · rcases List.mem_cons.mp hy with rfl | hy
        · exact hR
        · exact (hrf y hy).1
      · exact List.nodup_cons.mpr ⟨fun h => (hrf R h).2 rfl, hrn⟩
end Tp
/-! Is: isinstance(x, C) of an own class, as a check of a head -/
namespace Tp
open PySem PySem.Spec PyProof.Rows L2 He C8
def insB (K : PySem.W.Frag) (C : Addr) : Bool := eqO (PySem.W.findIn K (.ref C) "__class__") (some (some (.builtin "object.__class__"))) && (eqO (PySem.W.specialIn K (.builtin "object.__class__") "__get__") (some (some (.builtin "getset_descriptor.__get__"))) && (decide (PySem.W.takesIn K (.builtin "object.__class__") = some true) &&
  (decide (PySem.W.mroIn K C (.type "object") = some true) && decide (PySem.W.kitOne K (.ref C) (.ref C) = some true))))
theorem insB_ok {K : PySem.W.Frag} {C : Addr} (c : Cls K C) (h : insB K C = true) : InsC K C := by
  obtain ⟨h1, h⟩ := ba h
  obtain ⟨h2, h⟩ := ba h
  obtain ⟨h3, h⟩ := ba h
  obtain ⟨h4, h5⟩ := ba h
  exact ⟨c, eqO_ok h1, eqO_ok h2, of_decide_eq_true h3, of_decide_eq_true h4, of_decide_eq_true h5⟩
end Tp
/-! Hb: Bool checks of a head for own error classes, class constants -/
namespace Tp
open PySem PySem.Spec PyProof.Rows L2 He ClX
def oexB (K : PySem.W.Frag) (C : Addr) : Bool := match K.lookup C with
  | some ⟨.type "type", _, .cls cd, sl⟩ => (match cd.mro, sl.toList with
    | .ref C' :: bm, [_, _, _, _, some (.builtin n), _] => C' == C && n == "ValueError.__new__" && !cd.hasDel && cd.hasDict && PySem.HandSPX.refsVE bm
    | _, _ => false)
  | _ => false
theorem oexB_ok {K : PySem.W.Frag} {C : Addr} (q : oexB K C = true) : ∃ nm q N bs bm sn sub ab col dd k0 k1 k2 k3 k5, K.lookup C = some (excClassObj nm q C N bs bm true sn sub ab col dd k0 k1 k2 k3 k5 "ValueError.__new__") ∧ PySem.HandSPX.refsVE bm = true := by
  unfold oexB at q
  split at q
  · rename_i dd cd sl ho
    split at q
    · rename_i C' bm k0 k1 k2 k3 n k5 hm hs
      simp only [Bool.and_eq_true, beq_iff_eq, Bool.not_eq_true'] at q
      obtain ⟨⟨⟨⟨rfl, rfl⟩, hdel⟩, hdict⟩, ht⟩ := q
      obtain ⟨nm, bs, mro, ns, qn, hd, sn, sub, ab, col, del⟩ := cd
      dsimp only at hm hdel hdict
      subst hm hdel hdict
      have hsl : sl = #[k0, k1, k2, k3, some (.builtin "ValueError.__new__"), k5] := by
        obtain ⟨l⟩ := sl
        simp only at hs
        rw [hs]
      subst hsl
      exact ⟨nm, qn, ns, bs, bm, sn, sub, ab, col, dd, k0, k1, k2, k3, k5, ho, ht⟩
    · cases q
  · cases q
def excCB (K : PySem.W.Frag) (D : Addr) : Bool := eqO (PySem.W.findIn K (.ref D) "__getattribute__") (some (some (.builtin "BaseException.__getattribute__"))) && (eqO (PySem.W.findIn K (.ref D) "__getattr__") (some none) && (decide (PySem.W.subIn K (.ref D) (.type "BaseException") = some true) && (PySem.W.hasDictIn K D &&
  (eqO (PySem.W.findIn K (.ref D) "__class__") (some (some (.builtin "object.__class__"))) && (eqO (PySem.W.specialIn K (.builtin "object.__class__") "__get__") (some (some (.builtin "getset_descriptor.__get__"))) && (decide (PySem.W.takesIn K (.builtin "object.__class__") = some true) && decide (PySem.W.mroIn K D (.type "object") = some true)))))))
theorem excCB_ok {K : PySem.W.Frag} {D : Addr} (h : excCB K D = true) : ExcC K D := by
  obtain ⟨h1, h⟩ := ba h
  obtain ⟨h2, h⟩ := ba h
  obtain ⟨h3, h⟩ := ba h
  obtain ⟨h4, h⟩ := ba h
  obtain ⟨h5, h⟩ := ba h
  obtain ⟨h6, h⟩ := ba h
  obtain ⟨h7, h8⟩ := ba h
  exact ⟨eqO_ok h1, eqO_ok h2, of_decide_eq_true h3, h4, eqO_ok h5, eqO_ok h6, of_decide_eq_true h7, of_decide_eq_true h8⟩
/-- an own error class over the class named y, whose __init__ sets the field -/
def exBB (K : PySem.W.Frag) (y x : Str) : Bool := oexB K (ga K x) && (eqO (PySem.W.findIn K (.ref (ga K x)) "__setattr__") (some (some (.builtin "object.__setattr__"))) && (decide (PySem.W.subIn K (.ref (ga K x)) (.type "BaseException") = some true) && (decide (PySem.W.typeIn K (.ref (ga K x)) = some (.type "type")) &&
  (PySem.W.keepIn K (.ref (ga K x)) && (eqO (PySem.W.findIn K (.ref (ga K x)) "__init__") (some (some (.ref (ma K (ga K y) "__init__")))) && (decide (PySem.W.typeIn K (.ref (ma K (ga K y) "__init__")) = some (.type "function")) && (eqO (PySem.W.findIn K (.ref (ga K x)) "thing") (some none) && (xfB K (ga K x) && excCB K (ga K x)))))))))
theorem exBB_ok {K : PySem.W.Frag} {y x : Str} (h : exBB K y x = true) : ExB K (ga K x) (ma K (ga K y) "__init__") := by
  obtain ⟨h1, h⟩ := ba h
  obtain ⟨h2, h⟩ := ba h
  obtain ⟨h3, h⟩ := ba h
  obtain ⟨h4, h⟩ := ba h
  obtain ⟨h5, h⟩ := ba h
  obtain ⟨h6, h⟩ := ba h
  obtain ⟨h7, h⟩ := ba h
  obtain ⟨h8, h⟩ := ba h
  obtain ⟨h9, h10⟩ := ba h
  exact ⟨⟨oexB_ok h1, eqO_ok h2, of_decide_eq_true h3, of_decide_eq_true h4, h5⟩, eqO_ok h6, of_decide_eq_true h7, eqO_ok h8, xfB_ok h9, excCB_ok h10⟩
/-- a class is read, its constant -/
def creadB (K : PySem.W.Frag) (C : Addr) (mc : Value) : Bool := PySem.W.readsIn K C mc && eqO (PySem.W.specialIn K (.ref C) "__getattribute__") (some (some (.builtin "type.__getattribute__")))
theorem creadB_ok {K : PySem.W.Frag} {C : Addr} {mc : Value} (h : creadB K C mc = true) : CRead K C mc := by
  obtain ⟨h1, h2⟩ := ba h
  exact ⟨h1, eqO_ok h2⟩
def cvalB (K : PySem.W.Frag) (C : Addr) (mc : Value) (f : Str) (v : V) : Bool := match PySem.W.findCls K (.ref C) mc f with
  | some (.val u) => relB v u
  | _ => false
theorem cvalB_ok {K : PySem.W.Frag} {C : Addr} {mc : Value} {f : Str} {v : V} (h : cvalB K C mc f v = true) : ∃ u, CVal K C mc f v u := by
  unfold cvalB at h
  split at h
  · rename_i u e
    exact ⟨u, e, relB_ok h⟩
  · cases h
/-! ### the hook: facts, defs, an own Bool; the statics' table beside -/
def asZ (g : Addr → Option Obj) (n : Nat) : List Addr := asD g n ++ [cStatics]
abbrev AlZ : Type := AlD × Bool
end Tp
/-! Hc: a hook that also reads defs at addresses of one's own (a property's getter, its setter) -/
namespace Tp
open PySem PySem.Spec PyProof.Rows L2 He ClX
def pgetA (x f : Str) (K : PySem.W.Frag) : Addr := match PySem.W.recIn K (ma K (ga K x) f) "property" with
  | some (.ref g :: _) => g
  | _ => 0
def psetA (x f : Str) (K : PySem.W.Frag) : Addr := match PySem.W.recIn K (ma K (ga K x) f) "property" with
  | some (_ :: .ref g :: _) => g
  | _ => 0
def fnWa (K : PySem.W.Frag) (a : Addr) : FnW := match K.lookup a with
  | some ⟨_, _, .func fd, _⟩ => some (fd.name, fd.qualname, fd.params, fd.body, fd.scope, fd.globals, fd.closure, fd.builtins)
  | _ => none
def okA (K : PySem.W.Frag) (a : Addr) (d : DefD) : Bool := PySem.W.keepIn K (.ref a) && (match K.lookup a with
  | some ⟨_, _, .func fd, _⟩ => PySem.W.codeIn K fd.code d.qual && (dflB K fd.defaults (d.dvs K) && kwdB K fd.kwdefaults (d.kws K))
  | _ => false)
theorem okA_funD {K : PySem.W.Frag} {a : Addr} {d : DefD} (e : fnWa K a = d.val) (c : okA K a d = true) : ∃ fd, FunD K d.name d.qual d.params d.body d.scope (d.dvs K) (d.kws K) a fd := by
  obtain ⟨kp, c2⟩ := ba c
  unfold fnWa at e
  cases q : K.lookup a with
  | none =>
    rw [q] at c2
    cases c2
  | some o =>
    obtain ⟨oc, od, dt, osl⟩ := o
    rw [q] at c2 e
    cases dt with
    | func fd =>
      obtain ⟨n1, n2, n3, n4, n5, n6, n7, n8, n9, n10, n11, n12, n13, n14, n15⟩ := fd
      have e2 : (some (n1, n2, n3, n4, n5, n6, n7, n15) : FnW) = some (d.name, d.qual, d.params, .stmts d.body, d.scope, mainGlobals, [], builtinsNs) := e
      simp only [Option.some.injEq, Prod.mk.injEq] at e2
      obtain ⟨h1, h2, h3, h4, h5, h6, h7, h8⟩ := e2
      subst h1 h2 h3 h4 h5 h6 h7 h8
      have c3 : (PySem.W.codeIn K n13 d.qual && (dflB K n8 (d.dvs K) && kwdB K n9 (d.kws K))) = true := c2
      obtain ⟨k1, k2⟩ := ba c3
      obtain ⟨k3, k4⟩ := ba k2
      exact ⟨_, ⟨oc, od, n8, n9, n10, n11, n12, n13, n14, osl, rfl, q, k1, dflB_ok k3, kwdB_ok k4⟩, kp⟩
    | _ => cases c2
def psetB (x f : Str) (K : PySem.W.Frag) : Bool := eqO (PySem.W.takerIn K (ga K x) f) (some (some (.ref (ma K (ga K x) f)))) && (decide (PySem.W.typeIn K (.ref (ma K (ga K x) f)) = some (.type "property")) && (match PySem.W.recIn K (ma K (ga K x) f) "property" with
  | some (_ :: .ref _ :: _) => true
  | _ => false))
theorem psetB_ok {x f : Str} {K : PySem.W.Frag} (h : psetB x f K = true) : PropSet K (ga K x) f (ma K (ga K x) f) (psetA x f K) := by
  obtain ⟨h1, h⟩ := ba h
  obtain ⟨h2, h3⟩ := ba h
  refine ⟨eqO_ok h1, of_decide_eq_true h2, ?_⟩
  unfold psetA
  split at h3
  · rename_i a g r e
    rw [e]
    exact ⟨a, r, rfl⟩
  · cases h3
def pgetB (x f : Str) (K : PySem.W.Frag) : Bool := eqO (PySem.W.findIn K (.ref (ga K x)) f) (some (some (.ref (ma K (ga K x) f)))) && (eqO (PySem.W.specialIn K (.ref (ma K (ga K x) f)) "__get__") (some (some (.builtin "property.__get__"))) && (decide (PySem.W.takesIn K (.ref (ma K (ga K x) f)) = some true) && (match PySem.W.recIn K (ma K (ga K x) f) "property" with
  | some (.ref _ :: _) => true
  | _ => false)))
theorem pgetB_ok {x f : Str} {K : PySem.W.Frag} (h : pgetB x f K = true) : PropOf K (ga K x) f (ma K (ga K x) f) (pgetA x f K) := by
  obtain ⟨h1, h⟩ := ba h
  obtain ⟨h2, h⟩ := ba h
  obtain ⟨h3, h4⟩ := ba h
  refine ⟨eqO_ok h1, eqO_ok h2, of_decide_eq_true h3, ?_⟩
  unfold pgetA
  split at h4
  · rename_i g r e
    rw [e]
    exact ⟨r, rfl⟩
  · cases h4
abbrev FxL : Type := List ((PySem.W.Frag → Addr) × DefD)
abbrev AlY : Type := AlZ × List FnW
def fxO (fx : FxL) (K : PySem.W.Frag) : List FnW := fx.map fun p => fnWa K (p.1 K)
def fxV (fx : FxL) : List FnW := fx.map fun p => p.2.val
def obsK (fa : List Fa) (fn : List DefD) (fx : FxL) (ex : PySem.W.Frag → Bool) (K : PySem.W.Frag) : AlY := ((obsD fa fn K, ex K), fxO fx K)
theorem fx_at {fx : FxL} {K : PySem.W.Frag} (e : fxO fx K = fxV fx) {i : Nat} {p : (PySem.W.Frag → Addr) × DefD} (h : fx[i]? = some p) : fnWa K (p.1 K) = p.2.val := by
  have h1 : (fxO fx K)[i]? = (fxV fx)[i]? := by rw [e]
  unfold fxO fxV at h1
  rw [List.getElem?_map, List.getElem?_map, h] at h1
  exact Option.some.inj h1
end Tp
/-! Hd: the hook of Hc that also reads dicts with text keys -/
namespace Tp
open PySem PySem.Spec PyProof.Rows L2 He ClX
abbrev TbA : Type := List (Option (List (Option (Str × Int))))
abbrev AlYT : Type := AlY × TbA
def tabsO (ts : List Tab) (K : PySem.W.Frag) : TbA := ts.map fun t => dicW K (t.1 K)
def tabsV (ts : List Tab) (w : World) : TbA := ts.map fun t => some (keysIn w.params t.2)
def obsKT (fa : List Fa) (fn : List DefD) (fx : FxL) (ts : List Tab) (ex : PySem.W.Frag → Bool) (K : PySem.W.Frag) : AlYT := (obsK fa fn fx ex K, tabsO ts K)
def obsYT (n : Nat) (fa : List Fa) (fn : List DefD) (fx : FxL) (ts : List Tab) (ex : PySem.W.Frag → Bool) (g : Addr → Option Obj) : AlYT := obsKT fa fn fx ts ex (frG g (asZ g n))
def hookYT (n : Nat) (fa : List Fa) (fn : List DefD) (fx : FxL) (ts : List Tab) (ex : PySem.W.Frag → Bool) : PySem.W.Hook where
  α := AlYT
  obs := fun s => obsYT n fa fn fx ts ex s.heap.get?
  val := fun w => (((valD fn, true), fxV fx), tabsV ts w)
  says := fun w h => ∃ K : PySem.W.Frag, K.In h ∧ SaysD fa fn K ∧ ex K = true ∧ fxO fx K = fxV fx ∧ tabsO ts K = tabsV ts w
  of := fun _ _ e => ⟨_, frG_in, congrArg (fun z : AlYT => z.1.1.1) e, congrArg (fun z : AlYT => z.1.1.2) e, congrArg (fun z : AlYT => z.1.2) e, congrArg (fun z : AlYT => z.2) e⟩
  keeps := fun _ _ _ ⟨K, hK, c⟩ k => ⟨K, PySem.W.Frag.In.keeps hK k, c⟩
theorem obsYT_eq {n : Nat} {fa : List Fa} {fn : List DefD} {fx : FxL} {ts : List Tab} {ex : PySem.W.Frag → Bool} {g : Addr → Option Obj} {s : Shared} (h : ∀ a, g a = s.heap.get? a) : obsYT n fa fn fx ts ex g = (hookYT n fa fn fx ts ex).obs s := by
  have e : g = s.heap.get? := funext h
  rw [e] <;> rfl
theorem tab_at {ts : List Tab} {K : PySem.W.Frag} {w : World} (e : tabsO ts K = tabsV ts w) (i : Nat) {t : Tab} (h : ts[i]? = some t := by rfl) : ∃ es n, KDict K w (t.1 K) es n := by
  have e2 : (tabsO ts K)[i]? = (tabsV ts w)[i]? := by rw [e]
  unfold tabsO tabsV at e2
  rw [List.getElem?_map, List.getElem?_map, h] at e2
  exact dicW_ok (Option.some.inj e2)
end Tp
namespace K15
open PySem PySem.Spec PyProof.Rows L2 He Tp ClX LiI

def top (i : Nat) : Stmt := PySem.Challenge.pw_tiredpots_k15_whole_text_and_back.main.body.getD i (.Pass ⟨0, 0, 0, 0⟩)
abbrev s_DyeError___init__ : Stmt := inClass (top 2) 0
abbrev n_DyeError___init__ : List Str := ["self", "thing"]
theorem sc_DyeError___init__ : FnScope n_DyeError___init__ ["self", "thing"] (defScope s_DyeError___init__) := ⟨rfl, rfl, rfl, by decide +kernel, rfl, by decide +kernel, by decide +kernel⟩

abbrev s_is_whole : Stmt := top 13
abbrev n_is_whole : List Str := ["value"]
theorem sc_is_whole : FnScope n_is_whole ["value"] (defScope s_is_whole) := ⟨rfl, rfl, rfl, by decide +kernel, rfl, by decide +kernel, by decide +kernel⟩

abbrev s_is_amount : Stmt := top 14
abbrev n_is_amount : List Str := ["value"]
theorem sc_is_amount : FnScope n_is_amount ["value"] (defScope s_is_amount) := ⟨rfl, rfl, rfl, by decide +kernel, rfl, by decide +kernel, by decide +kernel⟩

abbrev s_check_between : Stmt := top 15
abbrev n_check_between : List Str := ["value", "least", "most"]
theorem sc_check_between : FnScope n_check_between ["value", "least", "most"] (defScope s_check_between) := ⟨rfl, rfl, rfl, by decide +kernel, rfl, by decide +kernel, by decide +kernel⟩

abbrev s__is_name : Stmt := top 20
abbrev n__is_name : List Str := ["value", "letter"]
theorem sc__is_name : FnScope n__is_name ["value"] (defScope s__is_name) := ⟨rfl, rfl, rfl, by decide +kernel, rfl, by decide +kernel, by decide +kernel⟩

abbrev s__check_new : Stmt := top 21
abbrev n__check_new : List Str := ["name", "known"]
theorem sc__check_new : FnScope n__check_new ["name", "known"] (defScope s__check_new) := ⟨rfl, rfl, rfl, by decide +kernel, rfl, by decide +kernel, by decide +kernel⟩

abbrev s__check_known : Stmt := top 22
abbrev n__check_known : List Str := ["name", "known"]
theorem sc__check_known : FnScope n__check_known ["name", "known"] (defScope s__check_known) := ⟨rfl, rfl, rfl, by decide +kernel, rfl, by decide +kernel, by decide +kernel⟩

abbrev s__check_room : Stmt := top 23
abbrev n__check_room : List Str := ["things", "most"]
theorem sc__check_room : FnScope n__check_room ["things", "most"] (defScope s__check_room) := ⟨rfl, rfl, rfl, by decide +kernel, rfl, by decide +kernel, by decide +kernel⟩

abbrev s_Book_bound : Stmt := inClass (top 24) 5
abbrev n_Book_bound : List Str := ["self"]
theorem sc_Book_bound : FnScope n_Book_bound ["self"] (defScope s_Book_bound) := ⟨rfl, rfl, rfl, by decide +kernel, rfl, by decide +kernel, by decide +kernel⟩

abbrev s_Book_bound_set : Stmt := inClass (top 24) 6
abbrev n_Book_bound_set : List Str := ["self", "number"]
theorem sc_Book_bound_set : FnScope n_Book_bound_set ["self", "number"] (defScope s_Book_bound_set) := ⟨rfl, rfl, rfl, by decide +kernel, rfl, by decide +kernel, by decide +kernel⟩

abbrev s_Book___init__ : Stmt := inClass (top 24) 4
abbrev n_Book___init__ : List Str := ["self", "bound"]
theorem sc_Book___init__ : FnScope n_Book___init__ ["self", "bound"] (defScope s_Book___init__) := ⟨rfl, rfl, rfl, by decide +kernel, rfl, by decide +kernel, by decide +kernel⟩

abbrev s_Book_change_bound : Stmt := inClass (top 24) 7
abbrev n_Book_change_bound : List Str := ["self", "number"]
theorem sc_Book_change_bound : FnScope n_Book_change_bound ["self", "number"] (defScope s_Book_change_bound) := ⟨rfl, rfl, rfl, by decide +kernel, rfl, by decide +kernel, by decide +kernel⟩

abbrev s_Book_add_kind : Stmt := inClass (top 24) 8
abbrev n_Book_add_kind : List Str := ["self", "name", "hold"]
theorem sc_Book_add_kind : FnScope n_Book_add_kind ["self", "name", "hold"] (defScope s_Book_add_kind) := ⟨rfl, rfl, rfl, by decide +kernel, rfl, by decide +kernel, by decide +kernel⟩

abbrev s_Book_add_thirst : Stmt := inClass (top 24) 9
abbrev n_Book_add_thirst : List Str := ["self", "more", "less"]
theorem sc_Book_add_thirst : FnScope n_Book_add_thirst ["self", "more", "less"] (defScope s_Book_add_thirst) := ⟨rfl, rfl, rfl, by decide +kernel, rfl, by decide +kernel, by decide +kernel⟩

abbrev s_Book_add_pot : Stmt := inClass (top 24) 10
abbrev n_Book_add_pot : List Str := ["self", "name"]
theorem sc_Book_add_pot : FnScope n_Book_add_pot ["self", "name"] (defScope s_Book_add_pot) := ⟨rfl, rfl, rfl, by decide +kernel, rfl, by decide +kernel, by decide +kernel⟩

abbrev s_Book_add_cloth : Stmt := inClass (top 24) 11
abbrev n_Book_add_cloth : List Str := ["self", "name", "kind"]
theorem sc_Book_add_cloth : FnScope n_Book_add_cloth ["self", "name", "kind"] (defScope s_Book_add_cloth) := ⟨rfl, rfl, rfl, by decide +kernel, rfl, by decide +kernel, by decide +kernel⟩

abbrev s_Book_dip : Stmt := inClass (top 24) 12
abbrev n_Book_dip : List Str := ["self", "cloth", "pot"]
theorem sc_Book_dip : FnScope n_Book_dip ["self", "cloth", "pot"] (defScope s_Book_dip) := ⟨rfl, rfl, rfl, by decide +kernel, rfl, by decide +kernel, by decide +kernel⟩

abbrev s_Book_tell : Stmt := inClass (top 24) 13
abbrev n_Book_tell : List Str := ["self", "more", "less"]
theorem sc_Book_tell : FnScope n_Book_tell ["self", "more", "less"] (defScope s_Book_tell) := ⟨rfl, rfl, rfl, by decide +kernel, rfl, by decide +kernel, by decide +kernel⟩

abbrev s_Book_tell_some : Stmt := inClass (top 24) 14
abbrev n_Book_tell_some : List Str := ["self", "amount"]
theorem sc_Book_tell_some : FnScope n_Book_tell_some ["self", "amount"] (defScope s_Book_tell_some) := ⟨rfl, rfl, rfl, by decide +kernel, rfl, by decide +kernel, by decide +kernel⟩

abbrev s_Book_kinds : Stmt := inClass (top 24) 15
abbrev n_Book_kinds : List Str := ["self"]
theorem sc_Book_kinds : FnScope n_Book_kinds ["self"] (defScope s_Book_kinds) := ⟨rfl, rfl, rfl, by decide +kernel, rfl, by decide +kernel, by decide +kernel⟩

abbrev s_Book_thirsts : Stmt := inClass (top 24) 16
abbrev n_Book_thirsts : List Str := ["self"]
theorem sc_Book_thirsts : FnScope n_Book_thirsts ["self"] (defScope s_Book_thirsts) := ⟨rfl, rfl, rfl, by decide +kernel, rfl, by decide +kernel, by decide +kernel⟩

abbrev s_Book_pots : Stmt := inClass (top 24) 17
abbrev n_Book_pots : List Str := ["self"]
theorem sc_Book_pots : FnScope n_Book_pots ["self"] (defScope s_Book_pots) := ⟨rfl, rfl, rfl, by decide +kernel, rfl, by decide +kernel, by decide +kernel⟩

abbrev s_Book_cloths : Stmt := inClass (top 24) 18
abbrev n_Book_cloths : List Str := ["self"]
theorem sc_Book_cloths : FnScope n_Book_cloths ["self"] (defScope s_Book_cloths) := ⟨rfl, rfl, rfl, by decide +kernel, rfl, by decide +kernel, by decide +kernel⟩

abbrev s_Book_facts : Stmt := inClass (top 24) 19
abbrev n_Book_facts : List Str := ["self"]
theorem sc_Book_facts : FnScope n_Book_facts ["self"] (defScope s_Book_facts) := ⟨rfl, rfl, rfl, by decide +kernel, rfl, by decide +kernel, by decide +kernel⟩

abbrev s_Book___len__ : Stmt := inClass (top 24) 20
abbrev n_Book___len__ : List Str := ["self"]
theorem sc_Book___len__ : FnScope n_Book___len__ ["self"] (defScope s_Book___len__) := ⟨rfl, rfl, rfl, by decide +kernel, rfl, by decide +kernel, by decide +kernel⟩

abbrev s_Book___iter__ : Stmt := inClass (top 24) 21
abbrev n_Book___iter__ : List Str := ["self"]
theorem sc_Book___iter__ : FnScope n_Book___iter__ ["self"] (defScope s_Book___iter__) := ⟨rfl, rfl, rfl, by decide +kernel, rfl, by decide +kernel, by decide +kernel⟩

abbrev s_Book_previous : Stmt := inClass (top 24) 25
abbrev n_Book_previous : List Str := ["self", "number", "cloth", "_", "dip"]
theorem sc_Book_previous : FnScope n_Book_previous ["self", "number"] (defScope s_Book_previous) := ⟨rfl, rfl, rfl, by decide +kernel, rfl, by decide +kernel, by decide +kernel⟩

abbrev s_Book_amounts : Stmt := inClass (top 24) 26
abbrev n_Book_amounts : List Str := ["self", "found", "number"]
theorem sc_Book_amounts : FnScope n_Book_amounts ["self"] (defScope s_Book_amounts) := ⟨rfl, rfl, rfl, by decide +kernel, rfl, by decide +kernel, by decide +kernel⟩

abbrev s_Book__check_own : Stmt := inClass (top 24) 32
abbrev n_Book__check_own : List Str := ["self", "amount"]
theorem sc_Book__check_own : FnScope n_Book__check_own ["self", "amount"] (defScope s_Book__check_own) := ⟨rfl, rfl, rfl, by decide +kernel, rfl, by decide +kernel, by decide +kernel⟩

abbrev s_Book__has_leave : Stmt := inClass (top 24) 33
abbrev n_Book__has_leave : List Str := ["self", "number", "cloth", "pot", "previous"]
theorem sc_Book__has_leave : FnScope n_Book__has_leave ["self", "number"] (defScope s_Book__has_leave) := ⟨rfl, rfl, rfl, by decide +kernel, rfl, by decide +kernel, by decide +kernel⟩

abbrev s_write_book : Stmt := top 29
abbrev n_write_book : List Str := ["book", "words"]
theorem sc_write_book : FnScope n_write_book ["book"] (defScope s_write_book) := ⟨rfl, rfl, rfl, by decide +kernel, rfl, by decide +kernel, by decide +kernel⟩

abbrev s_read_book : Stmt := top 30
abbrev n_read_book : List Str := ["text", "book", "lines", "rest", "number", "line", "words", "refusal"]
theorem sc_read_book : FnScope n_read_book ["text"] (defScope s_read_book) := ⟨rfl, rfl, rfl, by decide +kernel, rfl, by decide +kernel, by decide +kernel⟩

abbrev s__lines_of : Stmt := top 31
abbrev n__lines_of : List Str := ["book", "name", "hold", "more", "less", "kind", "cloth", "pot", "fact"]
theorem sc__lines_of : FnScope n__lines_of ["book"] (defScope s__lines_of) := ⟨rfl, rfl, rfl, by decide +kernel, rfl, by decide +kernel, by decide +kernel⟩

abbrev s__fact_words : Stmt := top 32
abbrev n__fact_words : List Str := ["fact", "first", "amounts", "words", "word", "number"]
theorem sc__fact_words : FnScope n__fact_words ["fact"] (defScope s__fact_words) := ⟨rfl, rfl, rfl, by decide +kernel, rfl, by decide +kernel, by decide +kernel⟩

abbrev s__has_form : Stmt := top 33
abbrev n__has_form : List Str := ["words", "at"]
theorem sc__has_form : FnScope n__has_form ["words"] (defScope s__has_form) := ⟨rfl, rfl, rfl, by decide +kernel, rfl, by decide +kernel, by decide +kernel⟩

abbrev s__is_amount_text : Stmt := top 34
abbrev n__is_amount_text : List Str := ["word", "digits", "number"]
theorem sc__is_amount_text : FnScope n__is_amount_text ["word", "digits"] (defScope s__is_amount_text) := ⟨rfl, rfl, rfl, by decide +kernel, rfl, by decide +kernel, by decide +kernel⟩

abbrev s__carry_out : Stmt := top 35
abbrev n__carry_out : List Str := ["book", "words", "name", "hold", "more", "less", "kind", "cloth", "pot", "word", "digits", "other", "others"]
theorem sc__carry_out : FnScope n__carry_out ["book", "words"] (defScope s__carry_out) := ⟨rfl, rfl, rfl, by decide +kernel, rfl, by decide +kernel, by decide +kernel⟩

abbrev s__law_is_whole : Stmt := top 37
abbrev n__law_is_whole : List Str := ["_law_value"]
theorem sc__law_is_whole : FnScope n__law_is_whole ["_law_value"] (defScope s__law_is_whole) := ⟨rfl, rfl, rfl, by decide +kernel, rfl, by decide +kernel, by decide +kernel⟩

abbrev s__law_source : Stmt := top 38
abbrev n__law_source : List Str := ["_law_script", "_law_cell"]
theorem sc__law_source : FnScope n__law_source ["_law_script"] (defScope s__law_source) := ⟨rfl, rfl, rfl, by decide +kernel, rfl, by decide +kernel, by decide +kernel⟩

abbrev s__law_draw : Stmt := top 39
abbrev n__law_draw : List Str := ["_law_source_here", "_law_many", "_law_cell", "_law_great", "_law_number", "_law_shift", "_law_mixed"]
theorem sc__law_draw : FnScope n__law_draw ["_law_source_here", "_law_many"] (defScope s__law_draw) := ⟨rfl, rfl, rfl, by decide +kernel, rfl, by decide +kernel, by decide +kernel⟩

abbrev s__law_word : Stmt := top 40
abbrev n__law_word : List Str := ["_law_number", "_law_letters", "_law_word_here", "_law_k"]
theorem sc__law_word : FnScope n__law_word ["_law_number"] (defScope s__law_word) := ⟨rfl, rfl, rfl, by decide +kernel, rfl, by decide +kernel, by decide +kernel⟩

abbrev s__law_name : Stmt := top 41
abbrev n__law_name : List Str := ["_law_source_here", "_law_k", "_law_size"]
theorem sc__law_name : FnScope n__law_name ["_law_source_here", "_law_k"] (defScope s__law_name) := ⟨rfl, rfl, rfl, by decide +kernel, rfl, by decide +kernel, by decide +kernel⟩

abbrev s__law_names : Stmt := top 42
abbrev n__law_names : List Str := ["_law_source_here", "_law_many", "_law_word_here", "_law_place", "_law_turn", "_law_k"]
theorem sc__law_names : FnScope n__law_names ["_law_source_here", "_law_many"] (defScope s__law_names) := ⟨rfl, rfl, rfl, by decide +kernel, rfl, by decide +kernel, by decide +kernel⟩

abbrev s__law_model : Stmt := top 43
abbrev n__law_model : List Str := ["_law_source_here", "_law_most", "_law_grips", "_law_many", "_law_model_here", "_law_name_here", "_law_k", "_law_first", "_law_garment"]
theorem sc__law_model : FnScope n__law_model ["_law_source_here", "_law_most"] (defScope s__law_model) := ⟨rfl, rfl, rfl, by decide +kernel, rfl, by decide +kernel, by decide +kernel⟩

abbrev s__law_facts : Stmt := top 44
abbrev n__law_facts : List Str := ["_law_source_here", "_law_model_here", "_law_amounts_here", "_law_k", "_law_first", "_law_second"]
theorem sc__law_facts : FnScope n__law_facts ["_law_source_here", "_law_model_here"] (defScope s__law_facts) := ⟨rfl, rfl, rfl, by decide +kernel, rfl, by decide +kernel, by decide +kernel⟩

abbrev s__law_sort : Stmt := top 45
abbrev n__law_sort : List Str := ["_law_model_here", "_law_garment", "_law_row"]
theorem sc__law_sort : FnScope n__law_sort ["_law_model_here", "_law_garment"] (defScope s__law_sort) := ⟨rfl, rfl, rfl, by decide +kernel, rfl, by decide +kernel, by decide +kernel⟩

abbrev s__law_grip : Stmt := top 46
abbrev n__law_grip : List Str := ["_law_model_here", "_law_garment", "_law_sort_here", "_law_row"]
theorem sc__law_grip : FnScope n__law_grip ["_law_model_here", "_law_garment"] (defScope s__law_grip) := ⟨rfl, rfl, rfl, by decide +kernel, rfl, by decide +kernel, by decide +kernel⟩

abbrev s__law_before : Stmt := top 47
abbrev n__law_before : List Str := ["_law_model_here", "_law_i", "_law_k"]
theorem sc__law_before : FnScope n__law_before ["_law_model_here", "_law_i"] (defScope s__law_before) := ⟨rfl, rfl, rfl, by decide +kernel, rfl, by decide +kernel, by decide +kernel⟩

abbrev s__law_leaves : Stmt := top 48
abbrev n__law_leaves : List Str := ["_law_model_here", "_law_i", "_law_k"]
theorem sc__law_leaves : FnScope n__law_leaves ["_law_model_here", "_law_i"] (defScope s__law_leaves) := ⟨rfl, rfl, rfl, by decide +kernel, rfl, by decide +kernel, by decide +kernel⟩

abbrev s__law_amounts : Stmt := top 49
abbrev n__law_amounts : List Str := ["_law_model_here", "_law_found", "_law_i"]
theorem sc__law_amounts : FnScope n__law_amounts ["_law_model_here"] (defScope s__law_amounts) := ⟨rfl, rfl, rfl, by decide +kernel, rfl, by decide +kernel, by decide +kernel⟩

abbrev s__law_build : Stmt := top 50
abbrev n__law_build : List Str := ["_law_model_here", "_law_book", "_law_name_here", "_law_grip_here", "_law_more", "_law_less", "_law_sort_here", "_law_garment", "_law_vat", "_law_fact"]
theorem sc__law_build : FnScope n__law_build ["_law_model_here"] (defScope s__law_build) := ⟨rfl, rfl, rfl, by decide +kernel, rfl, by decide +kernel, by decide +kernel⟩

abbrev s__law_lists : Stmt := top 51
abbrev n__law_lists : List Str := ["_law_answer", "_law_due", "_law_k", "_law_amount"]
theorem sc__law_lists : FnScope n__law_lists ["_law_answer", "_law_due"] (defScope s__law_lists) := ⟨rfl, rfl, rfl, by decide +kernel, rfl, by decide +kernel, by decide +kernel⟩

abbrev s__law_lines : Stmt := top 52
abbrev n__law_lines : List Str := ["_law_model_here", "_law_groups", "_law_facts_here", "_law_fact", "_law_row", "_law_name_here", "_law_amount"]
theorem sc__law_lines : FnScope n__law_lines ["_law_model_here"] (defScope s__law_lines) := ⟨rfl, rfl, rfl, by decide +kernel, rfl, by decide +kernel, by decide +kernel⟩

abbrev s__law_text : Stmt := top 53
abbrev n__law_text : List Str := ["_law_model_here", "_law_text_here", "_law_group", "_law_line"]
theorem sc__law_text : FnScope n__law_text ["_law_model_here"] (defScope s__law_text) := ⟨rfl, rfl, rfl, by decide +kernel, rfl, by decide +kernel, by decide +kernel⟩

abbrev s__law_ready : Stmt := top 54
abbrev n__law_ready : List Str := ["_law_model_here", "_law_group", "_law_done", "_law_row", "_law_sorts", "_law_sort_here", "_law_amount", "_law_garment"]
theorem sc__law_ready : FnScope n__law_ready ["_law_model_here", "_law_group", "_law_done"] (defScope s__law_ready) := ⟨rfl, rfl, rfl, by decide +kernel, rfl, by decide +kernel, by decide +kernel⟩

abbrev s__law_shuffled : Stmt := top 55
abbrev n__law_shuffled : List Str := ["_law_source_here", "_law_model_here", "_law_groups", "_law_done", "_law_text_here", "_law_group", "_law_k", "_law_first", "_law_ready_here", "_law_t"]
theorem sc__law_shuffled : FnScope n__law_shuffled ["_law_source_here", "_law_model_here"] (defScope s__law_shuffled) := ⟨rfl, rfl, rfl, by decide +kernel, rfl, by decide +kernel, by decide +kernel⟩

abbrev s__law_same : Stmt := top 56
abbrev n__law_same : List Str := ["_law_book", "_law_model_here", "_law_row"]
theorem sc__law_same : FnScope n__law_same ["_law_book", "_law_model_here"] (defScope s__law_same) := ⟨rfl, rfl, rfl, by decide +kernel, rfl, by decide +kernel, by decide +kernel⟩

abbrev s__law_part : Stmt := top 57
abbrev n__law_part : List Str := ["_law_source_here", "_law_model_here", "_law_part_here", "_law_k", "_law_sorts", "_law_sort_here", "_law_row", "_law_rows"]
theorem sc__law_part : FnScope n__law_part ["_law_source_here", "_law_model_here"] (defScope s__law_part) := ⟨rfl, rfl, rfl, by decide +kernel, rfl, by decide +kernel, by decide +kernel⟩

abbrev s_law : Stmt := top 58
abbrev n_law : List Str := ["_law_script", "_law_source_here", "_law_model_here", "_law_k", "_law_more", "_law_part_here", "_law_book", "_law_text_here", "_law_twisted", "_law_later", "_law_given", "_law_back", "_law_rows"]
theorem sc_law : FnScope n_law ["_law_script"] (defScope s_law) := ⟨rfl, rfl, rfl, by decide +kernel, rfl, by decide +kernel, by decide +kernel⟩

abbrev fI (K : PySem.W.Frag) : Addr := ma K (ga K "DyeError") "__init__"
abbrev cB (K : PySem.W.Frag) : Addr := ga K "Book"
abbrev FnM (K : PySem.W.Frag) (c m qual : Str) (st : Stmt) (kws : List (Str × V)) (fd : FuncData) : Prop := FunD K m qual (defArgs st) (defBody st) (defScope st) [] kws (ma K (ga K c) m) fd
def raised : List Str := ["BadName", "Known", "BadHold", "Unknown", "Full", "BadNumber", "BadAmount"]
def exAll : List Str := ["DyeError", "BadName", "BadHold", "BadNumber", "BadAmount", "Known", "Unknown", "Full", "BadLine"]
structure Txt (K : PySem.W.Frag) (mg : Str → Option Value) : Prop where
  blen : mg "len" = none
  babs : mg "abs" = none
  bint : mg "int" = none
  bisinstance : mg "isinstance" = none
  ball : mg "all" = none
  brange : mg "range" = none
  blist : mg "list" = none
  bstr : mg "str" = none
  bbool : mg "bool" = none
  bValueError : mg "ValueError" = none
  btuple : mg "tuple" = none
  bmin : mg "min" = none
  bmax : mg "max" = none
  bsum : mg "sum" = none
  bsorted : mg "sorted" = none
  benumerate : mg "enumerate" = none
  bany : mg "any" = none
  bzip : mg "zip" = none
  bset : mg "set" = none
  bdict : mg "dict" = none
  biter : mg "iter" = none
  gDyeError : mg "DyeError" = some (.ref (ga K "DyeError"))
  xDyeError : ExB K (ga K "DyeError") (fI K)
  fDye : ∃ fd, FunD K "__init__" "DyeError.__init__" (defArgs s_DyeError___init__) (defBody s_DyeError___init__) (defScope s_DyeError___init__) [] [] (fI K) fd
  gBadName : mg "BadName" = some (.ref (ga K "BadName"))
  xBadName : ExB K (ga K "BadName") (fI K)
  gBadHold : mg "BadHold" = some (.ref (ga K "BadHold"))
  xBadHold : ExB K (ga K "BadHold") (fI K)
  gBadNumber : mg "BadNumber" = some (.ref (ga K "BadNumber"))
  xBadNumber : ExB K (ga K "BadNumber") (fI K)
  gBadAmount : mg "BadAmount" = some (.ref (ga K "BadAmount"))
  xBadAmount : ExB K (ga K "BadAmount") (fI K)
  gKnown : mg "Known" = some (.ref (ga K "Known"))
  xKnown : ExB K (ga K "Known") (fI K)
  gUnknown : mg "Unknown" = some (.ref (ga K "Unknown"))
  xUnknown : ExB K (ga K "Unknown") (fI K)
  gFull : mg "Full" = some (.ref (ga K "Full"))
  xFull : ExB K (ga K "Full") (fI K)
  gBadLine : mg "BadLine" = some (.ref (ga K "BadLine"))
  xBadLine : ExB K (ga K "BadLine") (fI K)
  gis_whole : mg "is_whole" = some (.ref (ga K "is_whole"))
  fis_whole : ∃ fd, FnP K "is_whole" s_is_whole fd
  gis_amount : mg "is_amount" = some (.ref (ga K "is_amount"))
  fis_amount : ∃ fd, FnP K "is_amount" s_is_amount fd
  gcheck_between : mg "check_between" = some (.ref (ga K "check_between"))
  fcheck_between : ∃ fd, FnP K "check_between" s_check_between fd
  g_is_name : mg "_is_name" = some (.ref (ga K "_is_name"))
  f_is_name : ∃ fd, FnP K "_is_name" s__is_name fd
  g_check_new : mg "_check_new" = some (.ref (ga K "_check_new"))
  f_check_new : ∃ fd, FnP K "_check_new" s__check_new fd
  g_check_known : mg "_check_known" = some (.ref (ga K "_check_known"))
  f_check_known : ∃ fd, FnP K "_check_known" s__check_known fd
  g_check_room : mg "_check_room" = some (.ref (ga K "_check_room"))
  f_check_room : ∃ fd, FnP K "_check_room" s__check_room fd
  gBook : mg "Book" = some (.ref (ga K "Book"))
  cl : Cls K (ga K "Book")
  mk_ : Mk K (ga K "Book") (ma K (ga K "Book") "__init__")
  n_bound : NoAttr K (ga K "Book") "_bound"
  n_cloths : NoAttr K (ga K "Book") "_cloths"
  n_dips : NoAttr K (ga K "Book") "_dips"
  n_facts : NoAttr K (ga K "Book") "_facts"
  n_kinds : NoAttr K (ga K "Book") "_kinds"
  n_pots : NoAttr K (ga K "Book") "_pots"
  n_thirsts : NoAttr K (ga K "Book") "_thirsts"
  pget_bound : ∃ p g fd, PropOf K (ga K "Book") "bound" p g ∧ FunD K "bound" "Book.bound" (defArgs s_Book_bound) (defBody s_Book_bound) (defScope s_Book_bound) [] [] g fd
  pset_bound : ∃ p g fd, PropSet K (ga K "Book") "bound" p g ∧ FunD K "bound" "Book.bound" (defArgs s_Book_bound_set) (defBody s_Book_bound_set) (defScope s_Book_bound_set) [] [] g fd
  fInit : ∃ fd, FnM K "Book" "__init__" "Book.__init__" s_Book___init__ [("bound", .int 24)] fd
  mchange_bound : Meth K (ga K "Book") "change_bound" (ma K (ga K "Book") "change_bound")
  fchange_bound : ∃ fd, FnM K "Book" "change_bound" "Book.change_bound" s_Book_change_bound [] fd
  madd_kind : Meth K (ga K "Book") "add_kind" (ma K (ga K "Book") "add_kind")
  fadd_kind : ∃ fd, FnM K "Book" "add_kind" "Book.add_kind" s_Book_add_kind [("hold", .str "unsure")] fd
  madd_thirst : Meth K (ga K "Book") "add_thirst" (ma K (ga K "Book") "add_thirst")
  fadd_thirst : ∃ fd, FnM K "Book" "add_thirst" "Book.add_thirst" s_Book_add_thirst [] fd
  madd_pot : Meth K (ga K "Book") "add_pot" (ma K (ga K "Book") "add_pot")
  fadd_pot : ∃ fd, FnM K "Book" "add_pot" "Book.add_pot" s_Book_add_pot [] fd
  madd_cloth : Meth K (ga K "Book") "add_cloth" (ma K (ga K "Book") "add_cloth")
  fadd_cloth : ∃ fd, FnM K "Book" "add_cloth" "Book.add_cloth" s_Book_add_cloth [] fd
  mdip : Meth K (ga K "Book") "dip" (ma K (ga K "Book") "dip")
  fdip : ∃ fd, FnM K "Book" "dip" "Book.dip" s_Book_dip [] fd
  mtell : Meth K (ga K "Book") "tell" (ma K (ga K "Book") "tell")
  ftell : ∃ fd, FnM K "Book" "tell" "Book.tell" s_Book_tell [] fd
  mtell_some : Meth K (ga K "Book") "tell_some" (ma K (ga K "Book") "tell_some")
  ftell_some : ∃ fd, FnM K "Book" "tell_some" "Book.tell_some" s_Book_tell_some [] fd
  mkinds : Meth K (ga K "Book") "kinds" (ma K (ga K "Book") "kinds")
  fkinds : ∃ fd, FnM K "Book" "kinds" "Book.kinds" s_Book_kinds [] fd
  mthirsts : Meth K (ga K "Book") "thirsts" (ma K (ga K "Book") "thirsts")
  fthirsts : ∃ fd, FnM K "Book" "thirsts" "Book.thirsts" s_Book_thirsts [] fd
  mpots : Meth K (ga K "Book") "pots" (ma K (ga K "Book") "pots")
  fpots : ∃ fd, FnM K "Book" "pots" "Book.pots" s_Book_pots [] fd
  mcloths : Meth K (ga K "Book") "cloths" (ma K (ga K "Book") "cloths")
  fcloths : ∃ fd, FnM K "Book" "cloths" "Book.cloths" s_Book_cloths [] fd
  mfacts : Meth K (ga K "Book") "facts" (ma K (ga K "Book") "facts")
  ffacts : ∃ fd, FnM K "Book" "facts" "Book.facts" s_Book_facts [] fd
  m__len__ : Meth K (ga K "Book") "__len__" (ma K (ga K "Book") "__len__")
  f__len__ : ∃ fd, FnM K "Book" "__len__" "Book.__len__" s_Book___len__ [] fd
  m__iter__ : Meth K (ga K "Book") "__iter__" (ma K (ga K "Book") "__iter__")
  f__iter__ : ∃ fd, FnM K "Book" "__iter__" "Book.__iter__" s_Book___iter__ [] fd
  mprevious : Meth K (ga K "Book") "previous" (ma K (ga K "Book") "previous")
  fprevious : ∃ fd, FnM K "Book" "previous" "Book.previous" s_Book_previous [] fd
  mamounts : Meth K (ga K "Book") "amounts" (ma K (ga K "Book") "amounts")
  famounts : ∃ fd, FnM K "Book" "amounts" "Book.amounts" s_Book_amounts [] fd
  m_check_own : Meth K (ga K "Book") "_check_own" (ma K (ga K "Book") "_check_own")
  f_check_own : ∃ fd, FnM K "Book" "_check_own" "Book._check_own" s_Book__check_own [] fd
  m_has_leave : Meth K (ga K "Book") "_has_leave" (ma K (ga K "Book") "_has_leave")
  f_has_leave : ∃ fd, FnM K "Book" "_has_leave" "Book._has_leave" s_Book__has_leave [] fd
  gwrite_book : mg "write_book" = some (.ref (ga K "write_book"))
  fwrite_book : ∃ fd, FnP K "write_book" s_write_book fd
  gread_book : mg "read_book" = some (.ref (ga K "read_book"))
  fread_book : ∃ fd, FnP K "read_book" s_read_book fd
  g_lines_of : mg "_lines_of" = some (.ref (ga K "_lines_of"))
  f_lines_of : ∃ fd, FnP K "_lines_of" s__lines_of fd
  g_fact_words : mg "_fact_words" = some (.ref (ga K "_fact_words"))
  f_fact_words : ∃ fd, FnP K "_fact_words" s__fact_words fd
  g_has_form : mg "_has_form" = some (.ref (ga K "_has_form"))
  f_has_form : ∃ fd, FnP K "_has_form" s__has_form fd
  g_is_amount_text : mg "_is_amount_text" = some (.ref (ga K "_is_amount_text"))
  f_is_amount_text : ∃ fd, FnP K "_is_amount_text" s__is_amount_text fd
  g_carry_out : mg "_carry_out" = some (.ref (ga K "_carry_out"))
  f_carry_out : ∃ fd, FnP K "_carry_out" s__carry_out fd
  g_law_is_whole : mg "_law_is_whole" = some (.ref (ga K "_law_is_whole"))
  f_law_is_whole : ∃ fd, FnP K "_law_is_whole" s__law_is_whole fd
  g_law_source : mg "_law_source" = some (.ref (ga K "_law_source"))
  f_law_source : ∃ fd, FnP K "_law_source" s__law_source fd
  g_law_draw : mg "_law_draw" = some (.ref (ga K "_law_draw"))
  f_law_draw : ∃ fd, FnP K "_law_draw" s__law_draw fd
  g_law_word : mg "_law_word" = some (.ref (ga K "_law_word"))
  f_law_word : ∃ fd, FnP K "_law_word" s__law_word fd
  g_law_name : mg "_law_name" = some (.ref (ga K "_law_name"))
  f_law_name : ∃ fd, FnP K "_law_name" s__law_name fd
  g_law_names : mg "_law_names" = some (.ref (ga K "_law_names"))
  f_law_names : ∃ fd, FnP K "_law_names" s__law_names fd
  g_law_model : mg "_law_model" = some (.ref (ga K "_law_model"))
  f_law_model : ∃ fd, FnP K "_law_model" s__law_model fd
  g_law_facts : mg "_law_facts" = some (.ref (ga K "_law_facts"))
  f_law_facts : ∃ fd, FnP K "_law_facts" s__law_facts fd
  g_law_sort : mg "_law_sort" = some (.ref (ga K "_law_sort"))
  f_law_sort : ∃ fd, FnP K "_law_sort" s__law_sort fd
  g_law_grip : mg "_law_grip" = some (.ref (ga K "_law_grip"))
  f_law_grip : ∃ fd, FnP K "_law_grip" s__law_grip fd
  g_law_before : mg "_law_before" = some (.ref (ga K "_law_before"))
  f_law_before : ∃ fd, FnP K "_law_before" s__law_before fd
  g_law_leaves : mg "_law_leaves" = some (.ref (ga K "_law_leaves"))
  f_law_leaves : ∃ fd, FnP K "_law_leaves" s__law_leaves fd
  g_law_amounts : mg "_law_amounts" = some (.ref (ga K "_law_amounts"))
  f_law_amounts : ∃ fd, FnP K "_law_amounts" s__law_amounts fd
  g_law_build : mg "_law_build" = some (.ref (ga K "_law_build"))
  f_law_build : ∃ fd, FnP K "_law_build" s__law_build fd
  g_law_lists : mg "_law_lists" = some (.ref (ga K "_law_lists"))
  f_law_lists : ∃ fd, FnP K "_law_lists" s__law_lists fd
  g_law_lines : mg "_law_lines" = some (.ref (ga K "_law_lines"))
  f_law_lines : ∃ fd, FnP K "_law_lines" s__law_lines fd
  g_law_text : mg "_law_text" = some (.ref (ga K "_law_text"))
  f_law_text : ∃ fd, FnP K "_law_text" s__law_text fd
  g_law_ready : mg "_law_ready" = some (.ref (ga K "_law_ready"))
  f_law_ready : ∃ fd, FnP K "_law_ready" s__law_ready fd
  g_law_shuffled : mg "_law_shuffled" = some (.ref (ga K "_law_shuffled"))
  f_law_shuffled : ∃ fd, FnP K "_law_shuffled" s__law_shuffled fd
  g_law_same : mg "_law_same" = some (.ref (ga K "_law_same"))
  f_law_same : ∃ fd, FnP K "_law_same" s__law_same fd
  g_law_part : mg "_law_part" = some (.ref (ga K "_law_part"))
  f_law_part : ∃ fd, FnP K "_law_part" s__law_part fd
  gWORDS : mg "WORDS" = some (.ref (ga K "WORDS"))
  tWORDS : ∀ H, SqT K H (ga K "WORDS") [.str "take", .str "leave"]
  gHOLDS : mg "HOLDS" = some (.ref (ga K "HOLDS"))
  tHOLDS : ∀ H, SqT K H (ga K "HOLDS") [.str "fast", .str "loose", .str "unsure"]
  cLETTERS : ∃ t, mg "LETTERS" = some (.str "abcdefghijklmnopqrstuvwxyz" t)
  cLONGEST_NAME : ∃ t, mg "LONGEST_NAME" = some (.int 12 t)
  gSIZES : mg "SIZES" = some (.ref (ga K "SIZES"))
  zSIZES : valsB K (ga K "SIZES") [("kind", .int 3), ("thirst", .int 3), ("pot", .int 2), ("cloth", .int 3), ("dip", .int 3), ("tell", .int 5), ("some", .int 3)] = true
  gFACT_WORDS : mg "FACT_WORDS" = some (.ref (ga K "FACT_WORDS"))
  tFACT_WORDS : ∀ H, SqT K H (ga K "FACT_WORDS") [.str "tell", .str "some"]
  cNUMBERS : ∃ t, mg "NUMBERS" = some (.int 100 t)
  iBook : insB K (ga K "Book") = true
  crd : CRead K (ga K "Book") (.type "type")
  vNAMES : ∃ u, CVal K (ga K "Book") (.type "type") "NAMES" (.int 8) u
  vTHIRSTS : ∃ u, CVal K (ga K "Book") (.type "type") "THIRSTS" (.int 32) u
  vFACTS : ∃ u, CVal K (ga K "Book") (.type "type") "FACTS" (.int 32) u
  vDIPS : ∃ u, CVal K (ga K "Book") (.type "type") "DIPS" (.int 24) u
  kit : ∀ x ∈ raised, ∀ y ∈ exAll, PySem.W.kitOne K (.ref (ga K x)) (.ref (ga K y)) = some (x == y || y == "DyeError")
  kitV : ∀ x ∈ raised, PySem.W.kitOne K (.ref (ga K x)) (.type "ValueError") = some true
  exm : ∀ x ∈ raised, ∀ y ∈ exAll, PySem.W.exmOne K (.ref (ga K x)) (.ref (ga K y)) = some (x == y || y == "DyeError")
theorem Txt.rd {K : PySem.W.Frag} {mg : Str → Option Value} (T : Txt K mg) : ∃ mc, CRead K (cB K) mc ∧ (∃ u, CVal K (cB K) mc "NAMES" (.int 8) u) ∧ ∃ u, CVal K (cB K) mc "DIPS" (.int 24) u := ⟨_, T.crd, T.vNAMES, T.vDIPS⟩


end K15
namespace K15.Hd
open PySem PySem.Spec PyProof.Rows L2 He Tp ClX LiI
def d_DyeError___init__ : He.DefD := ⟨("DyeError", some "__init__"), "__init__", "DyeError.__init__", defArgs s_DyeError___init__, defBody s_DyeError___init__, defScope s_DyeError___init__, [], []⟩
def d_is_whole : He.DefD := ⟨("is_whole", none), "is_whole", "is_whole", defArgs s_is_whole, defBody s_is_whole, defScope s_is_whole, [], []⟩
def d_is_amount : He.DefD := ⟨("is_amount", none), "is_amount", "is_amount", defArgs s_is_amount, defBody s_is_amount, defScope s_is_amount, [], []⟩
def d_check_between : He.DefD := ⟨("check_between", none), "check_between", "check_between", defArgs s_check_between, defBody s_check_between, defScope s_check_between, [], []⟩
def d__is_name : He.DefD := ⟨("_is_name", none), "_is_name", "_is_name", defArgs s__is_name, defBody s__is_name, defScope s__is_name, [], []⟩
def d__check_new : He.DefD := ⟨("_check_new", none), "_check_new", "_check_new", defArgs s__check_new, defBody s__check_new, defScope s__check_new, [], []⟩
def d__check_known : He.DefD := ⟨("_check_known", none), "_check_known", "_check_known", defArgs s__check_known, defBody s__check_known, defScope s__check_known, [], []⟩
def d__check_room : He.DefD := ⟨("_check_room", none), "_check_room", "_check_room", defArgs s__check_room, defBody s__check_room, defScope s__check_room, [], []⟩
def d_Book___init__ : He.DefD := ⟨("Book", some "__init__"), "__init__", "Book.__init__", defArgs s_Book___init__, defBody s_Book___init__, defScope s_Book___init__, [], [("bound", .int 24)]⟩
def d_Book_change_bound : He.DefD := ⟨("Book", some "change_bound"), "change_bound", "Book.change_bound", defArgs s_Book_change_bound, defBody s_Book_change_bound, defScope s_Book_change_bound, [], []⟩
def d_Book_add_kind : He.DefD := ⟨("Book", some "add_kind"), "add_kind", "Book.add_kind", defArgs s_Book_add_kind, defBody s_Book_add_kind, defScope s_Book_add_kind, [], [("hold", .str "unsure")]⟩
def d_Book_add_thirst : He.DefD := ⟨("Book", some "add_thirst"), "add_thirst", "Book.add_thirst", defArgs s_Book_add_thirst, defBody s_Book_add_thirst, defScope s_Book_add_thirst, [], []⟩
def d_Book_add_pot : He.DefD := ⟨("Book", some "add_pot"), "add_pot", "Book.add_pot", defArgs s_Book_add_pot, defBody s_Book_add_pot, defScope s_Book_add_pot, [], []⟩
def d_Book_add_cloth : He.DefD := ⟨("Book", some "add_cloth"), "add_cloth", "Book.add_cloth", defArgs s_Book_add_cloth, defBody s_Book_add_cloth, defScope s_Book_add_cloth, [], []⟩
def d_Book_dip : He.DefD := ⟨("Book", some "dip"), "dip", "Book.dip", defArgs s_Book_dip, defBody s_Book_dip, defScope s_Book_dip, [], []⟩
def d_Book_tell : He.DefD := ⟨("Book", some "tell"), "tell", "Book.tell", defArgs s_Book_tell, defBody s_Book_tell, defScope s_Book_tell, [], []⟩
def d_Book_tell_some : He.DefD := ⟨("Book", some "tell_some"), "tell_some", "Book.tell_some", defArgs s_Book_tell_some, defBody s_Book_tell_some, defScope s_Book_tell_some, [], []⟩
def d_Book_kinds : He.DefD := ⟨("Book", some "kinds"), "kinds", "Book.kinds", defArgs s_Book_kinds, defBody s_Book_kinds, defScope s_Book_kinds, [], []⟩
def d_Book_thirsts : He.DefD := ⟨("Book", some "thirsts"), "thirsts", "Book.thirsts", defArgs s_Book_thirsts, defBody s_Book_thirsts, defScope s_Book_thirsts, [], []⟩
def d_Book_pots : He.DefD := ⟨("Book", some "pots"), "pots", "Book.pots", defArgs s_Book_pots, defBody s_Book_pots, defScope s_Book_pots, [], []⟩
def d_Book_cloths : He.DefD := ⟨("Book", some "cloths"), "cloths", "Book.cloths", defArgs s_Book_cloths, defBody s_Book_cloths, defScope s_Book_cloths, [], []⟩
def d_Book_facts : He.DefD := ⟨("Book", some "facts"), "facts", "Book.facts", defArgs s_Book_facts, defBody s_Book_facts, defScope s_Book_facts, [], []⟩
def d_Book___len__ : He.DefD := ⟨("Book", some "__len__"), "__len__", "Book.__len__", defArgs s_Book___len__, defBody s_Book___len__, defScope s_Book___len__, [], []⟩
def d_Book___iter__ : He.DefD := ⟨("Book", some "__iter__"), "__iter__", "Book.__iter__", defArgs s_Book___iter__, defBody s_Book___iter__, defScope s_Book___iter__, [], []⟩
def d_Book_previous : He.DefD := ⟨("Book", some "previous"), "previous", "Book.previous", defArgs s_Book_previous, defBody s_Book_previous, defScope s_Book_previous, [], []⟩
def d_Book_amounts : He.DefD := ⟨("Book", some "amounts"), "amounts", "Book.amounts", defArgs s_Book_amounts, defBody s_Book_amounts, defScope s_Book_amounts, [], []⟩
def d_Book__check_own : He.DefD := ⟨("Book", some "_check_own"), "_check_own", "Book._check_own", defArgs s_Book__check_own, defBody s_Book__check_own, defScope s_Book__check_own, [], []⟩
def d_Book__has_leave : He.DefD := ⟨("Book", some "_has_leave"), "_has_leave", "Book._has_leave", defArgs s_Book__has_leave, defBody s_Book__has_leave, defScope s_Book__has_leave, [], []⟩
def d_write_book : He.DefD := ⟨("write_book", none), "write_book", "write_book", defArgs s_write_book, defBody s_write_book, defScope s_write_book, [], []⟩
def d_read_book : He.DefD := ⟨("read_book", none), "read_book", "read_book", defArgs s_read_book, defBody s_read_book, defScope s_read_book, [], []⟩
def d__lines_of : He.DefD := ⟨("_lines_of", none), "_lines_of", "_lines_of", defArgs s__lines_of, defBody s__lines_of, defScope s__lines_of, [], []⟩
def d__fact_words : He.DefD := ⟨("_fact_words", none), "_fact_words", "_fact_words", defArgs s__fact_words, defBody s__fact_words, defScope s__fact_words, [], []⟩
def d__has_form : He.DefD := ⟨("_has_form", none), "_has_form", "_has_form", defArgs s__has_form, defBody s__has_form, defScope s__has_form, [], []⟩
def d__is_amount_text : He.DefD := ⟨("_is_amount_text", none), "_is_amount_text", "_is_amount_text", defArgs s__is_amount_text, defBody s__is_amount_text, defScope s__is_amount_text, [], []⟩
def d__carry_out : He.DefD := ⟨("_carry_out", none), "_carry_out", "_carry_out", defArgs s__carry_out, defBody s__carry_out, defScope s__carry_out, [], []⟩
def d__law_is_whole : He.DefD := ⟨("_law_is_whole", none), "_law_is_whole", "_law_is_whole", defArgs s__law_is_whole, defBody s__law_is_whole, defScope s__law_is_whole, [], []⟩
def d__law_source : He.DefD := ⟨("_law_source", none), "_law_source", "_law_source", defArgs s__law_source, defBody s__law_source, defScope s__law_source, [], []⟩
def d__law_draw : He.DefD := ⟨("_law_draw", none), "_law_draw", "_law_draw", defArgs s__law_draw, defBody s__law_draw, defScope s__law_draw, [], []⟩
def d__law_word : He.DefD := ⟨("_law_word", none), "_law_word", "_law_word", defArgs s__law_word, defBody s__law_word, defScope s__law_word, [], []⟩
def d__law_name : He.DefD := ⟨("_law_name", none), "_law_name", "_law_name", defArgs s__law_name, defBody s__law_name, defScope s__law_name, [], []⟩
def d__law_names : He.DefD := ⟨("_law_names", none), "_law_names", "_law_names", defArgs s__law_names, defBody s__law_names, defScope s__law_names, [], []⟩
def d__law_model : He.DefD := ⟨("_law_model", none), "_law_model", "_law_model", defArgs s__law_model, defBody s__law_model, defScope s__law_model, [], []⟩
def d__law_facts : He.DefD := ⟨("_law_facts", none), "_law_facts", "_law_facts", defArgs s__law_facts, defBody s__law_facts, defScope s__law_facts, [], []⟩
def d__law_sort : He.DefD := ⟨("_law_sort", none), "_law_sort", "_law_sort", defArgs s__law_sort, defBody s__law_sort, defScope s__law_sort, [], []⟩
def d__law_grip : He.DefD := ⟨("_law_grip", none), "_law_grip", "_law_grip", defArgs s__law_grip, defBody s__law_grip, defScope s__law_grip, [], []⟩
def d__law_before : He.DefD := ⟨("_law_before", none), "_law_before", "_law_before", defArgs s__law_before, defBody s__law_before, defScope s__law_before, [], []⟩
def d__law_leaves : He.DefD := ⟨("_law_leaves", none), "_law_leaves", "_law_leaves", defArgs s__law_leaves, defBody s__law_leaves, defScope s__law_leaves, [], []⟩
def d__law_amounts : He.DefD := ⟨("_law_amounts", none), "_law_amounts", "_law_amounts", defArgs s__law_amounts, defBody s__law_amounts, defScope s__law_amounts, [], []⟩
def d__law_build : He.DefD := ⟨("_law_build", none), "_law_build", "_law_build", defArgs s__law_build, defBody s__law_build, defScope s__law_build, [], []⟩
def d__law_lists : He.DefD := ⟨("_law_lists", none), "_law_lists", "_law_lists", defArgs s__law_lists, defBody s__law_lists, defScope s__law_lists, [], []⟩
def d__law_lines : He.DefD := ⟨("_law_lines", none), "_law_lines", "_law_lines", defArgs s__law_lines, defBody s__law_lines, defScope s__law_lines, [], []⟩
def d__law_text : He.DefD := ⟨("_law_text", none), "_law_text", "_law_text", defArgs s__law_text, defBody s__law_text, defScope s__law_text, [], []⟩
def d__law_ready : He.DefD := ⟨("_law_ready", none), "_law_ready", "_law_ready", defArgs s__law_ready, defBody s__law_ready, defScope s__law_ready, [], []⟩
def d__law_shuffled : He.DefD := ⟨("_law_shuffled", none), "_law_shuffled", "_law_shuffled", defArgs s__law_shuffled, defBody s__law_shuffled, defScope s__law_shuffled, [], []⟩
def d__law_same : He.DefD := ⟨("_law_same", none), "_law_same", "_law_same", defArgs s__law_same, defBody s__law_same, defScope s__law_same, [], []⟩
def d__law_part : He.DefD := ⟨("_law_part", none), "_law_part", "_law_part", defArgs s__law_part, defBody s__law_part, defScope s__law_part, [], []⟩
def d_law : He.DefD := ⟨("law", none), "law", "law", defArgs s_law, defBody s_law, defScope s_law, [], []⟩
def dx_Of_bound : He.DefD := ⟨("", none), "bound", "Book.bound", defArgs s_Book_bound, defBody s_Book_bound, defScope s_Book_bound, [], []⟩
def dx_Set_bound : He.DefD := ⟨("", none), "bound", "Book.bound", defArgs s_Book_bound_set, defBody s_Book_bound_set, defScope s_Book_bound_set, [], []⟩
def fn : List He.DefD := [d_DyeError___init__, d_is_whole, d_is_amount, d_check_between, d__is_name, d__check_new, d__check_known, d__check_room, d_Book___init__, d_Book_change_bound, d_Book_add_kind, d_Book_add_thirst, d_Book_add_pot, d_Book_add_cloth, d_Book_dip, d_Book_tell, d_Book_tell_some, d_Book_kinds, d_Book_thirsts, d_Book_pots, d_Book_cloths, d_Book_facts, d_Book___len__, d_Book___iter__, d_Book_previous, d_Book_amounts, d_Book__check_own, d_Book__has_leave, d_write_book, d_read_book, d__lines_of, d__fact_words, d__has_form, d__is_amount_text, d__carry_out, d__law_is_whole, d__law_source, d__law_draw, d__law_word, d__law_name, d__law_names, d__law_model, d__law_facts, d__law_sort, d__law_grip, d__law_before, d__law_leaves, d__law_amounts, d__law_build, d__law_lists, d__law_lines, d__law_text, d__law_ready, d__law_shuffled, d__law_same, d__law_part, d_law]
def fa : List He.Fa := [.free "len", .free "abs", .free "int", .free "isinstance", .free "all", .free "range", .free "list", .free "str", .free "bool", .free "ValueError", .free "tuple", .free "min", .free "max", .free "sum", .free "sorted", .free "enumerate", .free "any", .free "zip", .free "set", .free "dict", .free "iter", .glo "DyeError", .glo "BadName", .glo "BadHold", .glo "BadNumber", .glo "BadAmount", .glo "Known", .glo "Unknown", .glo "Full", .glo "BadLine", .glo "is_whole", .glo "is_amount", .glo "check_between", .glo "_is_name", .glo "_check_new", .glo "_check_known", .glo "_check_room", .glo "Book", .cls "Book", .mkr "Book", .noat "Book" "_bound", .noat "Book" "_cloths", .noat "Book" "_dips", .noat "Book" "_facts", .noat "Book" "_kinds", .noat "Book" "_pots", .noat "Book" "_thirsts", .meth "Book" "change_bound", .meth "Book" "add_kind", .meth "Book" "add_thirst", .meth "Book" "add_pot", .meth "Book" "add_cloth", .meth "Book" "dip", .meth "Book" "tell", .meth "Book" "tell_some", .meth "Book" "kinds", .meth "Book" "thirsts", .meth "Book" "pots", .meth "Book" "cloths", .meth "Book" "facts", .meth "Book" "__len__", .meth "Book" "__iter__", .meth "Book" "previous", .meth "Book" "amounts", .meth "Book" "_check_own", .meth "Book" "_has_leave", .glo "write_book", .glo "read_book", .glo "_lines_of", .glo "_fact_words", .glo "_has_form", .glo "_is_amount_text", .glo "_carry_out", .glo "_law_is_whole", .glo "_law_source", .glo "_law_draw", .glo "_law_word", .glo "_law_name", .glo "_law_names", .glo "_law_model", .glo "_law_facts", .glo "_law_sort", .glo "_law_grip", .glo "_law_before", .glo "_law_leaves", .glo "_law_amounts", .glo "_law_build", .glo "_law_lists", .glo "_law_lines", .glo "_law_text", .glo "_law_ready", .glo "_law_shuffled", .glo "_law_same", .glo "_law_part", .glo "WORDS", .glo "HOLDS", .str "LETTERS" "abcdefghijklmnopqrstuvwxyz", .int "LONGEST_NAME" 12, .glo "SIZES", .glo "FACT_WORDS", .int "NUMBERS" 100, .glo "law"]
def fx : FxL := [(pgetA "Book" "bound", dx_Of_bound), (psetA "Book" "bound", dx_Set_bound)]
abbrev loose : List Str := ("_wall" : Str) :: ("DyeError" : Str) :: ("BadName" : Str) :: ("BadHold" : Str) :: ("BadNumber" : Str) :: ("BadAmount" : Str) :: ("Known" : Str) :: ("Unknown" : Str) :: ("Full" : Str) :: ("BadLine" : Str) :: ("WORDS" : Str) :: ("is_whole" : Str) :: ("is_amount" : Str) :: ("check_between" : Str) :: ("HOLDS" : Str) :: ("LETTERS" : Str) :: ("LONGEST_NAME" : Str) :: ("_is_name" : Str) :: ("_check_new" : Str) :: ("_check_known" : Str) :: ("_check_room" : Str) :: ("Book" : Str) :: ("SIZES" : Str) :: ("FACT_WORDS" : Str) :: ("NUMBERS" : Str) :: ("write_book" : Str) :: ("read_book" : Str) :: ("_lines_of" : Str) :: ("_fact_words" : Str) :: ("_has_form" : Str) :: ("_is_amount_text" : Str) :: ("_carry_out" : Str) :: ("_law_is_whole" : Str) :: ("_law_source" : Str) :: ("_law_draw" : Str) :: ("_law_word" : Str) :: ("_law_name" : Str) :: ("_law_names" : Str) :: ("_law_model" : Str) :: ("_law_facts" : Str) :: ("_law_sort" : Str) :: ("_law_grip" : Str) :: ("_law_before" : Str) :: ("_law_leaves" : Str) :: ("_law_amounts" : Str) :: ("_law_build" : Str) :: ("_law_lists" : Str) :: ("_law_lines" : Str) :: ("_law_text" : Str) :: ("_law_ready" : Str) :: ("_law_shuffled" : Str) :: ("_law_same" : Str) :: ("_law_part" : Str) :: []
def xB (K : PySem.W.Frag) : Bool := exBB K "DyeError" "DyeError" && (exBB K "DyeError" "BadName" && (exBB K "DyeError" "BadHold" && (exBB K "DyeError" "BadNumber" && (exBB K "DyeError" "BadAmount" && (exBB K "DyeError" "Known" && (exBB K "DyeError" "Unknown" && (exBB K "DyeError" "Full" && (exBB K "DyeError" "BadLine" && (pgetB "Book" "bound" K && (okA K (pgetA "Book" "bound" K) dx_Of_bound && (psetB "Book" "bound" K && (okA K (psetA "Book" "bound" K) dx_Set_bound && (He.tupB K "WORDS" [.str "take", .str "leave"] && (He.tupB K "HOLDS" [.str "fast", .str "loose", .str "unsure"] && (valsB K (ga K "SIZES") [("kind", .int 3), ("thirst", .int 3), ("pot", .int 2), ("cloth", .int 3), ("dip", .int 3), ("tell", .int 5), ("some", .int 3)] && (He.tupB K "FACT_WORDS" [.str "tell", .str "some"] && (insB K (ga K "Book") && (creadB K (ga K "Book") (.type "type") && (cvalB K (ga K "Book") (.type "type") "NAMES" (.int 8) && (cvalB K (ga K "Book") (.type "type") "THIRSTS" (.int 32) && (cvalB K (ga K "Book") (.type "type") "FACTS" (.int 32) && (cvalB K (ga K "Book") (.type "type") "DIPS" (.int 24) && ((raised.all fun x => exAll.all fun y => decide (PySem.W.kitOne K (.ref (ga K x)) (.ref (ga K y)) = some (x == y || y == "DyeError"))) && ((raised.all fun x => decide (PySem.W.kitOne K (.ref (ga K x)) (.type "ValueError") = some true)) && ((raised.all fun x => exAll.all fun y => decide (PySem.W.exmOne K (.ref (ga K x)) (.ref (ga K y)) = some (x == y || y == "DyeError"))))))))))))))))))))))))))))
abbrev R : PySem.W.OpenRow := PySem.W.OpenLaw.row PySem.Challenge.rw_tiredpots_k15_whole_text_and_back
def tb : List He.Tab := [(fun K => ga K "SIZES", ["kind", "thirst", "pot", "cloth", "dip", "tell", "some"])]
abbrev hk : PySem.W.Hook := hookYT 5 fa fn fx tb xB
def ob (s : PySem.W.SharedT) : AlYT := obsYT 5 fa fn fx tb xB (HandSHeadRun.getT s)
theorem ob_eq (s : PySem.W.SharedT) : ob s = hk.obs s.abs := obsYT_eq (HandSHeadRun.getT_eq s)
theorem runT (w : World) : HandSHeadRun.RunEq R (PySem.W.view R.prog [58]) hk ob 6000 K15.Hd.loose (w.withFollow "special-get-raises" true) := by
  intro os
  kernel_rfl
theorem runF (w : World) : HandSHeadRun.RunEq R (PySem.W.view R.prog [58]) hk ob 6000 K15.Hd.loose (w.withFollow "special-get-raises" false) := by
  intro os
  kernel_rfl
theorem run (w : World) : HandSHeadRun.RunEq R (PySem.W.view R.prog [58]) hk ob 6000 K15.Hd.loose w := by
  have h : ∀ b : Bool, HandSHeadRun.RunEq R (PySem.W.view R.prog [58]) hk ob 6000 K15.Hd.loose (w.withFollow "special-get-raises" b) := fun b => by
    cases b
    · exact runF w
    · exact runT w
  have h2 := h (w.params.followText "special-get-raises")
  rwa [World.withFollow_self] at h2
end K15.Hd
namespace K15
open PySem PySem.Spec PyProof.Rows L2 He Tp ClX LiI

section
variable {P : Program} {w : World} {K : PySem.W.Frag} {mg : Str → Option Value} {base : Heap}
theorem dye (T : Txt K mg) : Dye P w K mg base (fI K) := by
  obtain ⟨fd, F⟩ := T.fDye
  refine ⟨fd, F.ok sc_DyeError___init__ (fun vs H Q E h => ?_) (fun cdv A outer s H vs Q E hr h => ?_), F.bindsN fun _ _ _ _ _ _ us hl => match us, hl with | [_, _], _ => rfl⟩
  · obtain ⟨a, C, v, rfl, _⟩ := h
    rfl
  · obtain ⟨a, C, v, rfl, T, hn, ha, k⟩ := h
    refine ⟨_, PSs.nox (pss_one (ps_ost (pv 0) (pv 1))), ?_⟩
    exact ⟨_, rfl, _, rfl, a, C, rfl, T, hn, .inl ⟨ha, fun dx h1 h2 => k dx h1 h2⟩⟩
theorem ok_is_whole (T : Txt K mg) : Df P w K mg base CX0 1 "is_whole" ["value"] (spWhole K) := by
  refine Df.mk' T.gis_whole T.fis_whole (fun _ _ _ _ _ _ us hl => match us, hl with | [_], _ => rfl) fun fd F => F.ok sc_is_whole (fun vs H Q E h => ?_) (fun cdv A outer s H vs Q E hr h => ?_)
  · obtain ⟨v, rfl, _⟩ := h
    rfl
  · obtain ⟨v, rfl, p, q⟩ := h
    refine ⟨_, PSs.nox
   (pss_one (ps_ret (pe_and (pe_callB (call_isi) (by rfl) T.bisinstance (by decide +kernel) (pa_cons (pv 0) (pa_cons (pe_bltn (v := .ty "int") (u := .type "int") (by rfl) T.bint (by decide +kernel) rfl) pa_nil))) (pe_one (pe_not (pe_callB (call_isi) (by rfl) T.bisinstance (by decide +kernel) (pa_cons (pv 0) (pa_cons (pe_bltn (v := .ty "bool") (u := .type "bool") (by rfl) T.bbool (by decide +kernel) rfl) pa_nil)))))))), ?_⟩
    refine st_ret (val_andV (val_isi (val_var rfl) p.ty (p.kit (.inl rfl))) (val_notV (val_isi (val_var rfl) p.ty (p.kit (.inr (.inl rfl)))))) ?_
    rw [whole_eq p]
    exact q
end

end K15
namespace K15
open PySem PySem.Spec PyProof.Rows L2 He Tp ClX LiI

section
variable {P : Program} {w : World} {K : PySem.W.Frag} {mg : Str → Option Value} {base : Heap}
theorem ok_is_name (T : Txt K mg) : Df P w K mg base CX0 1 "_is_name" ["value"] (spIsName K) := by
  refine Df.mk' T.g_is_name T.f_is_name (fun _ _ _ _ _ _ us hl => match us, hl with | [_], _ => rfl) fun fd F => F.ok sc__is_name (fun vs H Q E h => ?_) (fun cdv A outer s H vs Q E hr h => ?_)
  · obtain ⟨v, rfl, _⟩ := h
    rfl
  · obtain ⟨v, rfl, p, q⟩ := h
    have nd := sc__is_name.nd
    obtain ⟨t1, c_LETTERS⟩ := T.cLETTERS
    obtain ⟨t2, c_LONGEST_NAME⟩ := T.cLONGEST_NAME
    refine ⟨_, PSs.nox
   (pss_one (ps_ret (pe_and (pe_callB (call_isi) (by rfl) T.bisinstance (by decide +kernel) (pa_cons (pv 0) (pa_cons (pe_bltn (v := .ty "str") (u := .type "str") (by rfl) T.bstr (by decide +kernel) rfl) pa_nil))) (pe_and (pe_chain op_le op_le pe_int (pe_callB call_len_str (by rfl) T.blen PySem.boot_len (pa_cons (pv 0) pa_nil)) (pe_glob (v := .int 12) (by rfl) c_LONGEST_NAME ⟨_, rfl⟩)) (pe_one (pe_callB (cr_all rfl) (by rfl) T.ball (by decide +kernel) (pa_cons (pe_lc (own := [("letter", 1)]) (g := gName 1) (tt := tYes) (by rfl) nd (pi_str (pv 0)) (blkOk_by (own := [("letter", 1)]) (N := n__is_name) (sc := defScope s__is_name) (by decide +kernel)) (fun _ _ _ _ _ => pg_name (i := 1) nd rfl (by first | exact Or.inl rfl | exact Or.inr rfl)) (fun _ _ _ _ _ => pts_nil) (fun _ _ _ _ _ => (pe_cmpR op_in_sign (pv 1) (pe_glob (v := .str "abcdefghijklmnopqrstuvwxyz") (by rfl) c_LETTERS ⟨_, rfl⟩) (by rfl)))) pa_nil))))))), ?_⟩
    refine val_isi (val_var rfl) p.ty (p.kit (.inr (.inr (.inl rfl)))) _ ⟨_, rfl, ?_⟩
    rw [str_eq p]
    cases p with
    | @str z hz =>
      refine iteT ?_
      refine val_chain val_c (val_lenS (val_var rfl) (by omega)) val_c (fun _ q => ⟨1, _, rfl, rfl, q⟩) (fun _ q => ⟨_, 12, rfl, rfl, q⟩) _ ⟨_, rfl, ?_⟩
      have e : isNm (.str z) = ((decide ((1 : Int) ≤ (z.length : Int)) && decide ((z.length : Int) ≤ 12)) && allL Lz z) := by
        rw [Bool.and_assoc]
        rfl
      rw [e] at q
      refine ifb (fun h1 => ?_) (fun h1 => ?_)
      · rw [h1] at q
        exact rd_all (L := Lz) (by show 1 < 2; decide) (val_var rfl) (by omega) (fun _ _ => val_c) fun D bs hD => q _ (Ext.new hD)
      · rw [h1] at q
        exact q _ Ext.refl
    | _ => exact iteF (q _ Ext.refl)
end

end K15
namespace K15
open PySem PySem.Spec PyProof.Rows L2 He Tp ClX LiI

section
variable {P : Program} {w : World} {K : PySem.W.Frag} {mg : Str → Option Value} {base : Heap}
theorem ok_check_newD (T : Txt K mg) : Df P w K mg base (L2.CX P w) 3 "_check_new" ["name", "known"] (spCheckNew K (ga K "BadName") (ga K "Known") knD) := by
  have D__is_name := ok_is_name (P := P) (w := w) (base := base) T
  have D_dye := dye (P := P) (w := w) (base := base) T
  refine Df.mk' T.g_check_new T.f_check_new (fun _ _ _ _ _ _ us hl => match us, hl with | [_, _], _ => rfl) fun fd F => F.ok sc__check_new (fun vs H Q E h => ?_) (fun cdv A outer s H vs Q E hr h => ?_)
  · obtain ⟨v, k, hit, rfl, _⟩ := h
    rfl
  · obtain ⟨v, k, hit, rfl, p, ⟨d, kvs, rfl, hd, hh⟩, kB, kK, kN⟩ := h
    have hu := hu_of hr
    have hr__is_name := hr.mono (show 1 ≤ 2 by decide)
    refine ⟨_, (pss_cons (ps_if (pt_not (pt_val (pe_cd D__is_name hr__is_name (by rfl) pass0 (pa_cons (pv 0) pa_nil)))) (pss_one (ps_raiseX rfl T.xBadName D_dye (hr.mono (by decide)) (takes_of rfl rfl rfl rfl) (by rfl) T.gBadName (pv 0))) pss_nil)
   (pss_one (ps_if (pt_cmp (pc_din hu (pv 0) (pv 1))) (pss_one (ps_raiseX rfl T.xKnown D_dye (hr.mono (by decide)) (takes_of rfl rfl rfl rfl) (by rfl) T.gKnown (pv 0))) pss_nil))), ?_⟩
    refine ⟨_, rfl, v, rfl, p, fun H1 e1 => ⟨_, rfl, ?_⟩⟩
    refine ifb (fun h1 => ?_) (fun h1 => ?_)
    · exact ⟨v, rfl, leaves_now T.xBadName (kB (by simpa using h1)) e1⟩
    · have hn : isNm v = true := by simpa using h1
      cases v with
      | str z =>
        refine ⟨_, rfl, _, rfl, d, _, rfl, DGet.k (k := Sum.inr z) (e1.same d _ hd), _, rfl, ?_⟩
        refine ifb (fun h2 => ?_) (fun h2 => ?_)
        · exact ⟨_, rfl, leaves_now T.xKnown (kK z rfl hn (by rw [hh]; exact h2)) e1⟩
        · exact kN z rfl hn (by rw [hh]; exact h2) H1 e1
      | _ => exact absurd (show false = true from hn) Bool.false_ne_true
theorem ok_check_newL (T : Txt K mg) : Df P w K mg base (L2.CX P w) 3 "_check_new" ["name", "known"] (spCheckNew K (ga K "BadName") (ga K "Known") (knL K)) := by
  have D__is_name := ok_is_name (P := P) (w := w) (base := base) T
  have D_dye := dye (P := P) (w := w) (base := base) T
  refine Df.mk' T.g_check_new T.f_check_new (fun _ _ _ _ _ _ us hl => match us, hl with | [_, _], _ => rfl) fun fd F => F.ok sc__check_new (fun vs H Q E h => ?_) (fun cdv A outer s H vs Q E hr h => ?_)
  · obtain ⟨v, k, hit, rfl, _⟩ := h
    rfl
  · obtain ⟨v, k, hit, rfl, p, ⟨d, zs, rfl, hd, hh⟩, kB, kK, kN⟩ := h
    have hu := hu_of hr
    have hr__is_name := hr.mono (show 1 ≤ 2 by decide)
    refine ⟨_, (pss_cons (ps_if (pt_not (pt_val (pe_cd D__is_name hr__is_name (by rfl) pass0 (pa_cons (pv 0) pa_nil)))) (pss_one (ps_raiseX rfl T.xBadName D_dye (hr.mono (by decide)) (takes_of rfl rfl rfl rfl) (by rfl) T.gBadName (pv 0))) pss_nil)
   (pss_one (ps_if (pt_cmpR op_in_seq (pv 0) (pv 1) (by rfl)) (pss_one (ps_raiseX rfl T.xKnown D_dye (hr.mono (by decide)) (takes_of rfl rfl rfl rfl) (by rfl) T.gKnown (pv 0))) pss_nil))), ?_⟩
    refine ⟨_, rfl, v, rfl, p, fun H1 e1 => ⟨_, rfl, ?_⟩⟩
    refine ifb (fun h1 => ?_) (fun h1 => ?_)
    · exact ⟨v, rfl, leaves_now T.xBadName (kB (by simpa using h1)) e1⟩
    · have hn : isNm v = true := by simpa using h1
      cases v with
      | str z =>
        refine ⟨_, rfl, _, rfl, d, _, rfl, .inl (SqL.of (e1.same d _ hd)), rfl, (by simp [flatV]), _, rfl, ?_⟩
        refine ifb (fun h2 => ?_) (fun h2 => ?_)
        · exact ⟨_, rfl, leaves_now T.xKnown (kK z rfl hn (by rw [hh]; exact h2)) e1⟩
        · exact kN z rfl hn (by rw [hh]; exact h2) H1 e1
      | _ => exact absurd (show false = true from hn) Bool.false_ne_true
theorem ok_check_knownD (T : Txt K mg) : Df P w K mg base (L2.CX P w) 3 "_check_known" ["name", "known"] (spCheckKnown K (ga K "Unknown") knD) := by
  have D_dye := dye (P := P) (w := w) (base := base) T
  refine Df.mk' T.g_check_known T.f_check_known (fun _ _ _ _ _ _ us hl => match us, hl with | [_, _], _ => rfl) fun fd F => F.ok sc__check_known (fun vs H Q E h => ?_) (fun cdv A outer s H vs Q E hr h => ?_)
  · obtain ⟨v, k, hit, rfl, _⟩ := h
    rfl
  · obtain ⟨v, k, hit, rfl, p, ⟨d, kvs, rfl, hd, hh⟩, kU, kN⟩ := h
    have hu := hu_of hr
    refine ⟨_, (pss_one (ps_if (PW.pt (pw_or (pt_not (pt_val (pe_callB (call_isi) (by rfl) T.bisinstance (by decide +kernel) (pa_cons (pv 0) (pa_cons (pe_bltn (v := .ty "str") (u := .type "str") (by rfl) T.bstr (by decide +kernel) rfl) pa_nil))))) (pw_or1 (pt_cmp (pc_dnotin hu (pv 0) (pv 1)))))) (pss_one (ps_raiseX rfl T.xUnknown D_dye (hr.mono (by decide)) (takes_of rfl rfl rfl rfl) (by rfl) T.gUnknown (pv 0))) pss_nil)), ?_⟩
    refine val_isi (val_var rfl) p.ty (p.kit (.inr (.inr (.inl rfl)))) _ ⟨_, rfl, ?_⟩
    rw [str_eq p]
    cases p with
    | @str z hz =>
      refine iteF ?_
      refine ⟨_, rfl, _, rfl, d, _, rfl, DGet.k (k := Sum.inr z) hd, _, rfl, ?_⟩
      refine ifb (fun h2 => ?_) (fun h2 => ?_)
      · exact ⟨_, rfl, leaves_now T.xUnknown (kU fun z' e => by cases e; rw [hh]; simpa using h2) Ext.refl⟩
      · exact kN z rfl (by rw [hh]; simpa using h2)
    | _ => exact iteT ⟨_, rfl, leaves_now T.xUnknown (kU fun z' e => nomatch e) Ext.refl⟩
theorem ok_check_roomD (T : Txt K mg) : Df P w K mg base (L2.CX P w) 3 "_check_room" ["things", "most"] (spCheckRoom K (ga K "Full") szD) := by
  have D_dye := dye (P := P) (w := w) (base := base) T
  refine Df.mk' T.g_check_room T.f_check_room (fun _ _ _ _ _ _ us hl => match us, hl with | [_, _], _ => rfl) fun fd F => F.ok sc__check_room (fun vs H Q E h => ?_) (fun cdv A outer s H vs Q E hr h => ?_)
  · obtain ⟨k, n, most, rfl, _⟩ := h
    rfl
  · obtain ⟨k, n, most, rfl, ⟨d, kvs, rfl, hd, rfl⟩, kF, kN⟩ := h
    refine ⟨_, (pss_one (ps_if (pt_cmpR op_ge (pe_callB call_lenD (by rfl) T.blen PySem.boot_len (pa_cons (pv 0) pa_nil)) (pv 1) (nomark _)) (pss_one (ps_raiseX rfl T.xFull D_dye (hr.mono (by decide)) (takes_of rfl rfl rfl rfl) (by rfl) T.gFull (pv 1))) pss_nil)), ?_⟩
    refine ⟨_, rfl, d, kvs, rfl, hd, _, rfl, _, _, rfl, rfl, _, rfl, ?_⟩
    refine ifd (fun h2 => ?_) (fun h2 => ?_)
    · exact ⟨_, rfl, leaves_now T.xFull (kF h2) Ext.refl⟩
    · exact kN (by omega)
theorem ok_check_roomL (T : Txt K mg) : Df P w K mg base (L2.CX P w) 3 "_check_room" ["things", "most"] (spCheckRoom K (ga K "Full") szL) := by
  have D_dye := dye (P := P) (w := w) (base := base) T
  refine Df.mk' T.g_check_room T.f_check_room (fun _ _ _ _ _ _ us hl => match us, hl with | [_, _], _ => rfl) fun fd F => F.ok sc__check_room (fun vs H Q E h => ?_) (fun cdv A outer s H vs Q E hr h => ?_)
  · obtain ⟨k, n, most, rfl, _⟩ := h
    rfl
  · obtain ⟨k, n, most, rfl, ⟨d, xs, rfl, hd, rfl⟩, kF, kN⟩ := h
    refine ⟨_, (pss_one (ps_if (pt_cmpR op_ge (pe_callB call_len_seq (by rfl) T.blen PySem.boot_len (pa_cons (pv 0) pa_nil)) (pv 1) (nomark _)) (pss_one (ps_raiseX rfl T.xFull D_dye (hr.mono (by decide)) (takes_of rfl rfl rfl rfl) (by rfl) T.gFull (pv 1))) pss_nil)), ?_⟩
    refine ⟨_, rfl, d, xs, rfl, .inl (SqL.of hd), _, rfl, _, _, rfl, rfl, _, rfl, ?_⟩
    refine ifd (fun h2 => ?_) (fun h2 => ?_)
    · exact ⟨_, rfl, leaves_now T.xFull (kF h2) Ext.refl⟩
    · exact kN (by omega)
end

end K15
namespace K15
open PySem PySem.Spec PyProof.Rows L2 He Tp ClX LiI

section
variable {P : Program} {w : World} {K : PySem.W.Frag} {mg : Str → Option Value} {base : Heap}
theorem ok_check_between (T : Txt K mg) : Df P w K mg base (L2.CX P w) 3 "check_between" ["value", "least", "most"] (spBetween K (ga K "BadNumber")) := by
  have D_is_whole := ok_is_whole (P := P) (w := w) (base := base) T
  have D_dye := dye (P := P) (w := w) (base := base) T
  refine Df.mk' T.gcheck_between T.fcheck_between (fun _ _ _ _ _ _ us hl => match us, hl with | [_, _, _], _ => rfl) fun fd F => F.ok sc_check_between (fun vs H Q E h => ?_) (fun cdv A outer s H vs Q E hr h => ?_)
  · obtain ⟨v, lo, hi, rfl, _⟩ := h
    rfl
  · obtain ⟨v, lo, hi, rfl, p, kY, kN⟩ := h
    have hr_is_whole := hr.mono (show 1 ≤ 2 by decide)
    refine ⟨_, (pss_one (ps_if (PW.pt (pw_or (pt_not (pt_val (pe_cd D_is_whole hr_is_whole (by rfl) pass0 (pa_cons (pv 0) pa_nil)))) (pw_or1 (pt_not (pt_chain op_le op_le (pv 1) (pv 0) (pv 2)))))) (pss_one (ps_raiseX rfl T.xBadNumber D_dye (hr.mono (by decide)) (takes_of rfl rfl rfl rfl) (by rfl) T.gBadNumber (pv 0))) pss_nil)), ?_⟩
    refine ⟨_, rfl, v, rfl, p, _, rfl, ?_⟩
    cases p with
    | int i =>
      refine iteF ?_
      refine val_chain (val_var rfl) (val_var rfl) (val_var rfl) (fun _ q => ⟨lo, i, rfl, rfl, q⟩) (fun _ q => ⟨i, hi, rfl, rfl, q⟩) _ ⟨_, rfl, ?_⟩
      refine ifb (fun h => ?_) (fun h => ?_)
      · refine ⟨_, rfl, leaves_now T.xBadNumber (kN fun z => ?_) Ext.refl⟩
        rw [decide_eq_true z.1, decide_eq_true z.2] at h
        cases h
      · have h' : (decide (lo ≤ i) && decide (i ≤ hi)) = true := by simpa using h
        rw [Bool.and_eq_true] at h'
        exact kY ⟨of_decide_eq_true h'.1, of_decide_eq_true h'.2⟩
    | _ => exact iteT ⟨_, rfl, leaves_now T.xBadNumber (kN fun z => z) Ext.refl⟩
theorem ok_init (T : Txt K mg) {fd : FuncData} (F : FnM K "Book" "__init__" "Book.__init__" s_Book___init__ [("bound", .int 24)] fd) : FnOk P w K mg base (L2.CX P w) 4 (ma K (cB K) "__init__") fd ["self", "bound"] (spBookInit K (cB K) (ga K "BadNumber")) := by
  have D_check_between := ok_check_between (P := P) (w := w) (base := base) T
  refine F.ok sc_Book___init__ (fun vs H Q E h => ?_) (fun cdv A outer s H vs Q E hr h => ?_)
  · obtain ⟨p, dx, v, rfl, _⟩ := h
    rfl
  · obtain ⟨p, dx, v, rfl, pv_, hp, kN, kY⟩ := h
    have hr_check_between := hr.mono (show 3 ≤ 3 by decide)
    obtain ⟨mc, rd, ⟨u1, c1⟩, u2, c2⟩ := T.rd
    refine ⟨_, (pss_cons (ps_expr (pe_cd D_check_between hr_check_between (by rfl) (passes_call (takes_of rfl rfl rfl rfl) (fun _ _ _ _ z => z)) (pa_cons (pv 1) (pa_cons pe_int (pa_cons (pe_cval (pe_glob (v := .ref (ga K "Book")) (by rfl) T.gBook rfl)) pa_nil)))))
   (pss_cons (ps_fld (pv 0) (pv 1) rfl)
   (pss_cons (ps_fld (pv 0) pe_dnewK rfl)
   (pss_cons (ps_fld (pv 0) (pe_lst pa_nil) rfl)
   (pss_cons (ps_fld (pv 0) (pe_lst pa_nil) rfl)
   (pss_cons (ps_fld (pv 0) pe_dnewK rfl)
   (pss_cons (ps_fld (pv 0) (pe_lst pa_nil) rfl)
   (pss_one (ps_fld (pv 0) (pe_lst pa_nil) rfl))))))))), ?_⟩
    refine ⟨_, rfl, cB K, mc, .int 24, u2, rfl, rd, c2, ?_⟩
    refine ⟨v, 0, 24, rfl, pv_, fun hb => ?_, kN⟩
    obtain ⟨i, rfl, h0, h1⟩ : ∃ i, v = .int i ∧ 0 ≤ i ∧ i ≤ 24 := by
      cases v with
      | int i => exact ⟨i, rfl, hb⟩
      | _ => exact hb.elim
    -- the seven fields, one after the other
    refine ⟨_, rfl, _, rfl, p, cB K, dx, [], rfl, hp, T.cl, T.n_bound, (by show 0 < 1000; decide), ?_⟩
    refine fun dk hdk => ?_
    simp only [upd_none_iff] at hdk
    refine ⟨_, rfl, p, cB K, dx, _, rfl, by rw [upd_ne (Ne.symm hdk.1)]; exact upd_same, T.cl, T.n_kinds, (by show 1 < 1000; decide), ?_⟩
    refine ⟨(by show 0 ≤ sizeLine; decide), fun lt hlt => ?_⟩
    simp only [upd_none_iff] at hlt
    refine ⟨_, rfl, p, cB K, dx, _, rfl, by rw [upd_ne (Ne.symm hlt.1)]; exact upd_same, T.cl, T.n_thirsts, (by show 2 < 1000; decide), ?_⟩
    refine ⟨(by show 0 ≤ sizeLine; decide), fun lp hlp => ?_⟩
    simp only [upd_none_iff] at hlp
    refine ⟨_, rfl, p, cB K, dx, _, rfl, by rw [upd_ne (Ne.symm hlp.1)]; exact upd_same, T.cl, T.n_pots, (by show 3 < 1000; decide), ?_⟩
    refine fun dc hdc => ?_
    simp only [upd_none_iff] at hdc
    refine ⟨_, rfl, p, cB K, dx, _, rfl, by rw [upd_ne (Ne.symm hdc.1)]; exact upd_same, T.cl, T.n_cloths, (by show 4 < 1000; decide), ?_⟩
    refine ⟨(by show 0 ≤ sizeLine; decide), fun ld hld => ?_⟩
    simp only [upd_none_iff] at hld
    refine ⟨_, rfl, p, cB K, dx, _, rfl, by rw [upd_ne (Ne.symm hld.1)]; exact upd_same, T.cl, T.n_dips, (by show 5 < 1000; decide), ?_⟩
    refine ⟨(by show 0 ≤ sizeLine; decide), fun lf hlf => ?_⟩
    simp only [upd_none_iff] at hlf
    refine ⟨_, rfl, p, cB K, dx, _, rfl, by rw [upd_ne (Ne.symm hlf.1)]; exact upd_same, T.cl, T.n_facts, (by show 6 < 1000; decide), ?_⟩
    obtain ⟨k1, k2⟩ := hdk
    obtain ⟨l1, l2, _, l3⟩ := hlt
    obtain ⟨p1, p2, _, p3, _, p4⟩ := hlp
    obtain ⟨c1', c2', _, c3, _, c4, _, c5⟩ := hdc
    obtain ⟨d1, d2, _, d3, _, d4, _, d5, _, d6⟩ := hld
    obtain ⟨f1, f2, _, f3, _, f4, _, f5, _, f6, _, f7⟩ := hlf
    refine kY i ⟨dx, dk, lt, lp, dc, ld, lf⟩ _ rfl h0 h1 ?_ ?_ rfl ?_
    · have k1' := k1.symm; have l1' := l1.symm; have l2' := l2.symm; have p1' := p1.symm; have p2' := p2.symm; have p3' := p3.symm
      have c1'' := c1'.symm; have c2'' := c2'.symm; have c3' := c3.symm; have c4' := c4.symm; have d1' := d1.symm; have d2' := d2.symm; have d3' := d3.symm; have d4' := d4.symm; have d5' := d5.symm
      have f1' := f1.symm; have f2' := f2.symm; have f3' := f3.symm; have f4' := f4.symm; have f5' := f5.symm; have f6' := f6.symm
      refine ⟨Eq.trans upd_same (congrArg (fun l => some (HO.ins (cB K) dx l)) (fsB_make (b := i) (A := ⟨dx, dk, lt, lp, dc, ld, lf⟩))), ?_, ?_, ?_, ?_, ?_, ?_, ?_, ?_, ?_, ?_, ?_, ?_, ?_⟩ <;>
        first | assumption | simp [upd_ne, upd_same, kvB, *]
    · intro a ha
      simp only [List.mem_cons, List.not_mem_nil, or_false] at ha
      rcases ha with rfl | rfl | rfl | rfl | rfl | rfl <;> assumption
    · refine ⟨fun b o q n => ?_, fun b xs q => ?_⟩
      · have hb : b ≠ p := fun e => n (by rw [e]; simp)
        simp [upd_ne, hb, ne_of_none q, *]
      · have hb : b ≠ p := fun e => by rw [e, hp] at q; cases q
        simp [upd_ne, hb, ne_of_none q, *]
end

end K15
namespace K15
open PySem PySem.Spec PyProof.Rows L2 He Tp ClX LiI

section
variable {P : Program} {w : World} {K : PySem.W.Frag} {mg : Str → Option Value} {base : Heap}
theorem dpHOLDS (T : Txt K mg) (H : Hp) : Dp K H (.ref (ga K "HOLDS")) (.tuple [.str "fast", .str "loose", .str "unsure"]) := .tup (T.tHOLDS H) (.cons (.str _) (.cons (.str _) (.cons (.str _) .nil)))
theorem ok_add_kind (T : Txt K mg) {fd : FuncData} (F : FnM K "Book" "add_kind" "Book.add_kind" s_Book_add_kind [("hold", .str "unsure")] fd) : FnOk P w K mg base (L2.CX P w) 4 (ma K (cB K) "add_kind") fd ["self", "name", "hold"] (spAddKind K (cB K)) := by
  have D__check_new := ok_check_newD (P := P) (w := w) (base := base) T
  have D__check_room := ok_check_roomD (P := P) (w := w) (base := base) T
  have D_dye := dye (P := P) (w := w) (base := base) T
  refine F.ok sc_Book_add_kind (fun vs H Q E h => ?_) (fun cdv A outer s H vs Q E hr h => ?_)
  · obtain ⟨p, v, h, d, i, A, ks, ts, ps, cs, ds, fs, rfl, _⟩ := h
    rfl
  · obtain ⟨p, v, h, d, i, A, ks, ts, ps, cs, ds, fs, rfl, pv_, hh, okd, B, hl, kX, kN⟩ := h
    have hu := hu_of hr
    have hu65 := hu65_of hr
    have hr__check_new := hr
    have hr__check_room := hr
    obtain ⟨mc, rd, ⟨u1, c1⟩, u2, c2⟩ := T.rd
    refine ⟨_, (pss_cons (ps_expr (pe_cd D__check_new hr__check_new (by rfl) (passes_call (takes_of rfl rfl rfl rfl) (fun _ _ _ _ z => z)) (pa_cons (pv 1) (pa_cons (pe_fld (pv 0) rfl) pa_nil))))
   (pss_cons (ps_if (pt_cmpR (op_notInT hu65) (pv 2) (pe_glob (v := .ref (ga K "HOLDS")) (by rfl) T.gHOLDS rfl) (by rfl)) (pss_one (ps_raiseX rfl T.xBadHold D_dye (hr.mono (by decide)) (takes_of rfl rfl rfl rfl) (by rfl) T.gBadHold (pv 2))) pss_nil)
   (pss_cons (ps_expr (pe_cd D__check_room hr__check_room (by rfl) (passes_call (takes_of rfl rfl rfl rfl) (fun _ _ _ _ z => z)) (pa_cons (pe_fld (pv 0) rfl) (pa_cons (pe_cval (pe_glob (v := .ref (ga K "Book")) (by rfl) T.gBook rfl)) pa_nil))))
   (pss_one (ps_dput hu (pe_fld (pv 0) rfl) (pv 1) (pv 2) rfl))))), ?_⟩
    refine ⟨_, rfl, _, rfl, p, cB K, A.dx, _, _, rfl, B.ob, T.cl, T.n_kinds, fsB_kinds, ?_⟩
    refine ⟨v, _, fun z => decide (z ∈ ks.map (·.1)), rfl, pv_, ⟨A.dk, kvB ks, rfl, B.dk, fun z => valV_kvB.symm⟩, fun e => kX _ _ (refK_name e), fun z ev hn hit => ?_, fun z ev hn hit H1 e1 => ?_⟩
    · subst ev
      refine kX _ _ ?_
      show (if nmS z = false then _ else _) = _
      rw [if_neg (by rw [hn]; decide), if_pos (of_decide_eq_true hit)]
    · subst ev
      have hz : z ∉ ks.map (·.1) := of_decide_eq_false hit
      have hk : refK ks (.str z) h (holdD d) = if holdD d = false then some (("BadHold" : Str), h) else if 8 ≤ ks.length then some (("Full" : Str), V.int 8) else none := by
        show (if nmS z = false then _ else _) = _
        rw [if_neg (by rw [hn]; decide), if_neg hz]
      have B1 := B.ext e1 (fun _ _ => by simp)
      refine ⟨_, rfl, d, _, (hh.ext e1).dp, dpHOLDS T H1, okd.shaped, (by decide +kernel), _, rfl, ?_⟩
      refine ifb (fun h1 => ?_) (fun h1 => ?_)
      · have h1' : holdD d = false := by
          have h2 : (!holdD d) = true := h1
          simpa using h2
        exact ⟨_, rfl, leaves_now T.xBadHold (kX _ _ (by rw [hk, if_pos h1'])) e1⟩
      · have h1' : holdD d = true := by
          have h2 : (!holdD d) = false := h1
          simpa using h2
        rw [if_neg (by rw [h1']; decide)] at hk
        refine ⟨_, rfl, p, cB K, A.dx, _, _, rfl, B1.ob, T.cl, T.n_kinds, fsB_kinds, cB K, mc, .int 8, u1, rfl, rd, c1, ?_⟩
        refine ⟨_, ks.length, 8, rfl, ⟨A.dk, _, rfl, B1.dk, by rw [List.length_map]⟩, fun h2 => (kX _ _ (by rw [hk, if_pos (by omega)])).ext e1, fun h2 => ?_⟩
        rw [if_neg (by omega)] at hk
        refine ⟨_, rfl, _, rfl, p, cB K, A.dx, _, _, rfl, B1.ob, T.cl, T.n_kinds, fsB_kinds, _, rfl, A.dk, _, rfl, DPut.k (k := Sum.inr z) B1.dk (by rw [List.length_map]; exact small1000 hl), ?_⟩
        rw [putK_kvB hz]
        refine kN hk _ ((e1.nil).mut (by simp) (fun xs z => by rw [B.dk] at z; cases z)) (B1.setK _)
end

end K15
namespace K15
open PySem PySem.Spec PyProof.Rows L2 He Tp ClX LiI

section
variable {P : Program} {w : World} {K : PySem.W.Frag} {mg : Str → Option Value} {base : Heap}
theorem ok_add_pot (T : Txt K mg) {fd : FuncData} (F : FnM K "Book" "add_pot" "Book.add_pot" s_Book_add_pot [] fd) : FnOk P w K mg base (L2.CX P w) 4 (ma K (cB K) "add_pot") fd ["self", "name"] (spAddPot K (cB K)) := by
  have D__check_new := ok_check_newL (P := P) (w := w) (base := base) T
  have D__check_room := ok_check_roomL (P := P) (w := w) (base := base) T
  refine F.ok sc_Book_add_pot (fun vs H Q E h => ?_) (fun cdv A outer s H vs Q E hr h => ?_)
  · obtain ⟨p, v, i, A, ks, ts, ps, cs, ds, fs, rfl, _⟩ := h
    rfl
  · obtain ⟨p, v, i, A, ks, ts, ps, cs, ds, fs, rfl, pv_, B, hl, kX, kN⟩ := h
    have hr__check_new := hr
    have hr__check_room := hr
    obtain ⟨mc, rd, ⟨u1, c1⟩, u2, c2⟩ := T.rd
    refine ⟨_, (pss_cons (ps_expr (pe_cd D__check_new hr__check_new (by rfl) (passes_call (takes_of rfl rfl rfl rfl) (fun _ _ _ _ z => z)) (pa_cons (pv 1) (pa_cons (pe_fld (pv 0) rfl) pa_nil))))
   (pss_cons (ps_expr (pe_cd D__check_room hr__check_room (by rfl) (passes_call (takes_of rfl rfl rfl rfl) (fun _ _ _ _ z => z)) (pa_cons (pe_fld (pv 0) rfl) (pa_cons (pe_cval (pe_glob (v := .ref (ga K "Book")) (by rfl) T.gBook rfl)) pa_nil))))
   (pss_one (ps_expr (pe_bm PySem.F.plainAttrs_list PySem.F.slot_list_append PySem.F.type_list_append mt_append (pe_fld (pv 0) rfl) (pa_cons (pv 1) pa_nil)))))), ?_⟩
    refine ⟨_, rfl, _, rfl, p, cB K, A.dx, _, _, rfl, B.ob, T.cl, T.n_pots, fsB_pots, ?_⟩
    refine ⟨v, _, fun z => decide (z ∈ ps), rfl, pv_, ⟨A.lp, ps, rfl, B.lp, fun z => inV_strs.symm⟩, fun e => kX _ _ (refP_name e), fun z ev hn hit => ?_, fun z ev hn hit H1 e1 => ?_⟩
    · subst ev
      refine kX _ _ ?_
      show (if nmS z = false then _ else _) = _
      rw [if_neg (by rw [hn]; decide), if_pos (of_decide_eq_true hit)]
    · subst ev
      have hz : z ∉ ps := of_decide_eq_false hit
      have hk : refP ps (.str z) = if 8 ≤ ps.length then some (("Full" : Str), V.int 8) else none := by
        show (if nmS z = false then _ else _) = _
        rw [if_neg (by rw [hn]; decide), if_neg hz]
      have B1 := B.ext e1 (fun _ _ => by simp)
      refine ⟨_, rfl, p, cB K, A.dx, _, _, rfl, B1.ob, T.cl, T.n_pots, fsB_pots, cB K, mc, .int 8, u1, rfl, rd, c1, ?_⟩
      refine ⟨_, ps.length, 8, rfl, ⟨A.lp, _, rfl, B1.lp, by rw [List.length_map]⟩, fun h2 => (kX _ _ (by rw [hk, if_pos (by omega)])).ext e1, fun h2 => ?_⟩
      rw [if_neg (by omega)] at hk
      refine ⟨_, rfl, p, cB K, A.dx, _, _, rfl, B1.ob, T.cl, T.n_pots, fsB_pots, .inl ⟨rfl, _, SqL.of B1.lp⟩, _, rfl, A.lp, _, _, rfl, rfl, B1.lp, (by rw [List.length_map]; exact small1000 hl), ?_⟩
      have e : ps.map V.str ++ [V.str z] = (ps ++ [z]).map V.str := by rw [List.map_append] <;> rfl
      rw [e]
      exact kN hk _ ((e1.nil).mut (by simp) (fun xs z => by rw [B.lp] at z; cases z)) (B1.setP _)
end

end K15
namespace K15
open PySem PySem.Spec PyProof.Rows L2 He Tp ClX LiI

section
variable {P : Program} {w : World} {K : PySem.W.Frag} {mg : Str → Option Value} {base : Heap}
theorem ok_add_cloth (T : Txt K mg) {fd : FuncData} (F : FnM K "Book" "add_cloth" "Book.add_cloth" s_Book_add_cloth [] fd) : FnOk P w K mg base (L2.CX P w) 4 (ma K (cB K) "add_cloth") fd ["self", "name", "kind"] (spAddCloth K (cB K)) := by
  have D__check_new := ok_check_newD (P := P) (w := w) (base := base) T
  have D__check_known := ok_check_knownD (P := P) (w := w) (base := base) T
  have D__check_room := ok_check_roomD (P := P) (w := w) (base := base) T
  refine F.ok sc_Book_add_cloth (fun vs H Q E h => ?_) (fun cdv A outer s H vs Q E hr h => ?_)
  · obtain ⟨p, v, k, i, A, ks, ts, ps, cs, ds, fs, rfl, _⟩ := h
    rfl
  · obtain ⟨p, v, k, i, A, ks, ts, ps, cs, ds, fs, rfl, pv_, pk0, pk, B, hl, kX, kN⟩ := h
    have hu := hu_of hr
    have hr__check_new := hr
    have hr__check_known := hr
    have hr__check_room := hr
    obtain ⟨mc, rd, ⟨u1, c1⟩, u2, c2⟩ := T.rd
    refine ⟨_, (pss_cons (ps_expr (pe_cd D__check_new hr__check_new (by rfl) (passes_call (takes_of rfl rfl rfl rfl) (fun _ _ _ _ z => z)) (pa_cons (pv 1) (pa_cons (pe_fld (pv 0) rfl) pa_nil))))
   (pss_cons (ps_expr (pe_cd D__check_known hr__check_known (by rfl) (passes_call (takes_of rfl rfl rfl rfl) (fun _ _ _ _ z => z)) (pa_cons (pv 2) (pa_cons (pe_fld (pv 0) rfl) pa_nil))))
   (pss_cons (ps_expr (pe_cd D__check_room hr__check_room (by rfl) (passes_call (takes_of rfl rfl rfl rfl) (fun _ _ _ _ z => z)) (pa_cons (pe_fld (pv 0) rfl) (pa_cons (pe_cval (pe_glob (v := .ref (ga K "Book")) (by rfl) T.gBook rfl)) pa_nil))))
   (pss_one (ps_dput hu (pe_fld (pv 0) rfl) (pv 1) (pv 2) rfl))))), ?_⟩
    refine ⟨_, rfl, _, rfl, p, cB K, A.dx, _, _, rfl, B.ob, T.cl, T.n_cloths, fsB_cloths, ?_⟩
    refine ⟨v, _, fun z => decide (z ∈ cs.map (·.1)), rfl, pv_, ⟨A.dc, kvB cs, rfl, B.dc, fun z => valV_kvB.symm⟩, fun e => kX _ _ (refC_name e), fun z ev hn hit => ?_, fun z ev hn hit H1 e1 => ?_⟩
    · subst ev
      refine kX _ _ ?_
      show (if nmS z = false then _ else _) = _
      rw [if_neg (by rw [hn]; decide), if_pos (of_decide_eq_true hit)]
    · subst ev
      have hz : z ∉ cs.map (·.1) := of_decide_eq_false hit
      have hk : refC cs ks (.str z) k = refC2 cs ks k := by
        show (if nmS z = false then _ else _) = _
        rw [if_neg (by rw [hn]; decide), if_neg hz]
      have B1 := B.ext e1 (fun _ _ => by simp)
      refine ⟨_, rfl, _, rfl, p, cB K, A.dx, _, _, rfl, B1.ob, T.cl, T.n_kinds, fsB_kinds, ?_⟩
      refine ⟨k, _, fun z => decide (z ∈ ks.map (·.1)), rfl, pk H1 e1, ⟨A.dk, kvB ks, rfl, B1.dk, fun z => valV_kvB.symm⟩, fun e => (kX _ _ ?_).ext e1, fun y ey hit => ?_⟩
      · rw [hk]
        cases k with
        | str y => exact if_neg (of_decide_eq_false (e y rfl))
        | _ => rfl
      subst ey
      have hy : y ∈ ks.map (·.1) := of_decide_eq_true hit
      have hk2 : refC cs ks (.str z) (.str y) = if 8 ≤ cs.length then some (("Full" : Str), V.int 8) else none := by
        rw [hk]
        exact if_pos hy
      refine ⟨_, rfl, p, cB K, A.dx, _, _, rfl, B1.ob, T.cl, T.n_cloths, fsB_cloths, cB K, mc, .int 8, u1, rfl, rd, c1, ?_⟩
      refine ⟨_, cs.length, 8, rfl, ⟨A.dc, _, rfl, B1.dc, by rw [List.length_map]⟩, fun h2 => (kX _ _ (by rw [hk2, if_pos (by omega)])).ext e1, fun h2 => ?_⟩
      rw [if_neg (by omega)] at hk2
      refine ⟨_, rfl, _, rfl, p, cB K, A.dx, _, _, rfl, B1.ob, T.cl, T.n_cloths, fsB_cloths, _, rfl, A.dc, _, rfl, DPut.k (k := Sum.inr z) B1.dc (by rw [List.length_map]; exact small1000 hl), ?_⟩
      rw [putK_kvB hz]
      refine kN hk2 _ ((e1.nil).mut (by simp) (fun xs z => by rw [B.dc] at z; cases z)) (B1.setC _)
end

end K15
namespace K15
open PySem PySem.Spec PyProof.Rows L2 He Tp ClX LiI

section
variable {P : Program} {w : World} {K : PySem.W.Frag} {mg : Str → Option Value} {base : Heap}
theorem ok_kinds (T : Txt K mg) {fd : FuncData} (F : FnM K "Book" "kinds" "Book.kinds" s_Book_kinds [] fd) : FnOk P w K mg base CX0 1 (ma K (cB K) "kinds") fd ["self"] (spPairs (cB K) true) := by
  refine F.ok sc_Book_kinds (fun vs H Q E h => ?_) (fun cdv A outer s H vs Q E hr h => ?_)
  · obtain ⟨p, i, A, ks, ts, ps, cs, ds, fs, rfl, _⟩ := h
    rfl
  · obtain ⟨p, i, A, ks, ts, ps, cs, ds, fs, rfl, B, q⟩ := h
    refine ⟨_, PSs.nox (pss_one (ps_ret (pe_listItems rfl (pe_fld (pv 0) rfl) (by rfl) T.blist (by decide +kernel)))), ?_⟩
    refine ⟨_, rfl, p, cB K, A.dx, _, _, rfl, B.ob, T.cl, T.n_kinds, fsB_kinds, A.dk, kvB ks, rfl, B.dk, fun H' a as k1 k2 k3 k4 k5 k6 => ?_⟩
    exact q a as H' k2 (Ext.of k1) k5 (paired_kvB (fun t z v e => e) k6)
theorem ok_cloths (T : Txt K mg) {fd : FuncData} (F : FnM K "Book" "cloths" "Book.cloths" s_Book_cloths [] fd) : FnOk P w K mg base CX0 1 (ma K (cB K) "cloths") fd ["self"] (spPairs (cB K) false) := by
  refine F.ok sc_Book_cloths (fun vs H Q E h => ?_) (fun cdv A outer s H vs Q E hr h => ?_)
  · obtain ⟨p, i, A, ks, ts, ps, cs, ds, fs, rfl, _⟩ := h
    rfl
  · obtain ⟨p, i, A, ks, ts, ps, cs, ds, fs, rfl, B, q⟩ := h
    refine ⟨_, PSs.nox (pss_one (ps_ret (pe_listItems rfl (pe_fld (pv 0) rfl) (by rfl) T.blist (by decide +kernel)))), ?_⟩
    refine ⟨_, rfl, p, cB K, A.dx, _, _, rfl, B.ob, T.cl, T.n_cloths, fsB_cloths, A.dc, kvB cs, rfl, B.dc, fun H' a as k1 k2 k3 k4 k5 k6 => ?_⟩
    exact q a as H' k2 (Ext.of k1) k5 (paired_kvB (fun t z v e => e) k6)
theorem ok_pots (T : Txt K mg) {fd : FuncData} (F : FnM K "Book" "pots" "Book.pots" s_Book_pots [] fd) : FnOk P w K mg base CX0 1 (ma K (cB K) "pots") fd ["self"] (spPots (cB K)) := by
  refine F.ok sc_Book_pots (fun vs H Q E h => ?_) (fun cdv A outer s H vs Q E hr h => ?_)
  · obtain ⟨p, i, A, ks, ts, ps, cs, ds, fs, rfl, _⟩ := h
    rfl
  · obtain ⟨p, i, A, ks, ts, ps, cs, ds, fs, rfl, B, q⟩ := h
    refine ⟨_, PSs.nox (pss_one (ps_ret (pe_callTy call_list_of (by rfl) T.blist (by decide +kernel) (pa_cons (pe_fld (pv 0) rfl) pa_nil)))), ?_⟩
    exact ⟨_, rfl, p, cB K, A.dx, _, _, rfl, B.ob, T.cl, T.n_pots, fsB_pots, A.lp, _, rfl, .inl (SqL.of B.lp), fun l hl => q l hl⟩
end


end K15
namespace K15
open PySem PySem.Spec PyProof.Rows L2 He Tp ClX LiI

section
variable {P : Program} {w : World} {K : PySem.W.Frag} {mg : Str → Option Value} {base : Heap}
theorem ok_draw (T : Txt K mg) : Df P w K mg base CX0 1 "_law_draw" ["_law_source_here", "_law_many"] spDraw := by
  refine Df.mk' T.g_law_draw T.f_law_draw (fun _ _ _ _ _ _ us hl => match us, hl with | [_, _], _ => rfl) fun fd F => F.ok sc__law_draw (fun vs H Q E h => ?_) (fun cdv A outer s H vs Q E hr h => ?_)
  · obtain ⟨S, L, cells, i, k, g, many, rfl, _⟩ := h
    rfl
  · obtain ⟨S, L, cells, i, k, g, many, rfl, hS, hL, ok, hm, hm2, kont⟩ := h
    have nd := sc__law_draw.nd
    have SL : S ≠ L := by
      intro e; rw [e, hL] at hS
      have z := Option.some.inj hS
      injection z with z
      cases cells <;> simp at z
    refine ⟨_, PSs.nox
   (pss_cons (ps_if (pt_cmpR op_ge (pe_ix ix_list (pv 0) pe_int (fun _ _ => rfl)) (pe_callB call_len_seq (by rfl) T.blen PySem.boot_len (pa_cons (pe_ix ix_list (pv 0) pe_int (fun _ _ => rfl)) pa_nil)) (nomark _)) (pss_one (ps_ret pe_int)) pss_nil)
   (pss_cons (ps_set (i := 2) nd rfl (by first | exact Or.inl rfl | exact Or.inr rfl) (pe_ix ix_list (pe_ix ix_list (pv 0) pe_int (fun _ _ => rfl)) (pe_ix ix_list (pv 0) pe_int (fun _ _ => rfl)) (fun _ _ => rfl)))
   (pss_cons (ps_set (i := 3) nd rfl (by first | exact Or.inl rfl | exact Or.inr rfl) (pe_or (pe_cmpR op_ge (pv 2) (pe_op op_pow pe_int pe_int) (nomark _)) (pe_one (pe_cmpR op_le (pv 2) (pe_op op_sub pe_int (pe_op op_pow pe_int pe_int)) (nomark _)))))
   (Evl.pss_cut (ps_if (PW.pt (pw_and (pt_val (pv 3)) (pw_and1 (pt_cmpR op_eq (pe_ix ix_list (pv 0) pe_int (fun _ _ => rfl)) pe_int (nomark _))))) (pss_one (ps_asg (pe_callB (call_abs) (by rfl) T.babs (by decide +kernel) (pa_cons (pv 2) pa_nil)) (pg_sub (pv 0) pe_int set_list))) pss_nil)
   (Evl.pss_cut (ps_if (pt_val (pv 3)) (pss_cons (ps_set (i := 4) nd rfl (by first | exact Or.inl rfl | exact Or.inr rfl) (pe_op op_mod (pe_callTy call_int1 (by rfl) T.bint (by decide +kernel) (pa_cons (pe_ix ix_list (pv 0) pe_int (fun _ _ => rfl)) pa_nil)) (pv 1)))
   (pss_one (ps_asg (pe_op op_fdivW (pe_ix ix_list (pv 0) pe_int (fun _ _ => rfl)) (pv 1)) (pg_sub (pv 0) pe_int set_list)))) (pss_cons (ps_set (i := 5) nd rfl (by first | exact Or.inl rfl | exact Or.inr rfl) (pe_op op_add (pe_op op_add (pe_op op_mul (pe_ix ix_list (pv 0) pe_int (fun _ _ => rfl)) pe_int) (pe_op op_mul (pe_ix ix_list (pv 0) pe_int (fun _ _ => rfl)) pe_int)) pe_int))
   (pss_cons (ps_set (i := 6) nd rfl (by first | exact Or.inl rfl | exact Or.inr rfl) (pe_op op_mod (pe_callTy call_int1 (by rfl) T.bint (by decide +kernel) (pa_cons (pe_op op_add (pe_op op_mul (pv 2) pe_int) (pv 5)) pa_nil)) pe_int))
   (pss_cons (ps_set (i := 6) nd rfl (by first | exact Or.inl rfl | exact Or.inr rfl) (pe_op op_mod (pe_callTy call_int1 (by rfl) T.bint (by decide +kernel) (pa_cons (pe_op op_add (pe_op op_add (pe_op op_mul (pv 6) (pv 6)) (pe_op op_mul (pv 2) pe_int)) (pe_ix ix_list (pv 0) pe_int (fun _ _ => rfl))) pa_nil)) pe_int))
   (pss_one (ps_set (i := 4) nd rfl (by first | exact Or.inl rfl | exact Or.inr rfl) (pe_op op_mod (pe_callTy call_int1 (by rfl) T.bint (by decide +kernel) (pa_cons (pv 6) pa_nil)) (pv 1))))))))
   (pss_cons (ps_asg (pe_op op_add (pe_ix ix_list (pv 0) pe_int (fun _ _ => rfl)) pe_int) (pg_sub (pv 0) pe_int set_list))
   (pss_cons (ps_if (PW.pt (pw_or (pt_cmpR op_ge (pe_ix ix_list (pv 0) pe_int (fun _ _ => rfl)) pe_int (nomark _)) (pw_or (PW.pt (pw_and (pt_not (pt_val (pv 3))) (pw_and1 (pt_cmpR op_ge (pe_ix ix_list (pv 0) pe_int (fun _ _ => rfl)) pe_int (nomark _))))) (pw_or1 (PW.pt (pw_and (pt_val (pv 3)) (pw_and1 (pt_cmpR op_eq (pe_ix ix_list (pv 0) pe_int (fun _ _ => rfl)) pe_int (nomark _))))))))) (pss_cons (ps_asg (pe_op op_add (pe_ix ix_list (pv 0) pe_int (fun _ _ => rfl)) pe_int) (pg_sub (pv 0) pe_int set_list))
   (pss_one (ps_asg pe_int (pg_sub (pv 0) pe_int set_list)))) pss_nil)
   (pss_one (ps_ret (pv 4)))))))))), ?_⟩
    have p18 : CPow 10 18 := ⟨by decide, by decide, by decide⟩
    have si : ∀ {σ : L2.St} {k' g' : Int} {j : Int} {v : V}, σ[0]? = some (some (.ref S)) → atI [V.ref L, .int i, .int k', .int g'] j = some v → Val (tOp (rIxL K) (tVar 0) (tC (.int j))) σ (upd H S (srcO L i k' g')) v := fun e a => val_ixL (val_var e) val_c (SqL.of upd_same) a
    have s0 : ∀ {σ : L2.St} {j : Int} {v : V}, σ[0]? = some (some (.ref S)) → atI [V.ref L, .int i, .int k, .int g] j = some v → Val (tOp (rIxL K) (tVar 0) (tC (.int j))) σ H v := fun e a => val_ixL (val_var e) val_c (SqL.of hS) a
    refine sq_when (ans_int (s0 rfl rfl) (val_len (s0 rfl rfl) (SqL.of hL))) (fun _ => ?_) (fun hi => ?_)
    · have := kont 0 i k g (Int.le_refl 0) hm ok
      rw [upd_self hS] at this
      exact this
    rw [List.length_map] at hi
    have hi' : i < (cells.length : Int) := by have := of_decide_eq_false hi; omega
    obtain ⟨c, hc⟩ := cell_at ok.i0 hi'
    refine sq_set (val_ixL (s0 rfl rfl) (s0 rfl rfl) (SqL.of hL) hc) ?_
    -- great
    refine sq_set (val_orV (val_int (val_var rfl) (val_intC val_c val_c p18)) (val_int (val_var rfl) (val_int val_c (val_intC val_c val_c p18)))) ?_
    rw [pow18]
    generalize eb : (decide ((1000000000000000000 : Int) ≤ c) || decide (c ≤ 0 - (1000000000000000000 : Int))) = b
    -- the first number of a great cell
    refine Evl.q_cut (M := fun σ' H' => σ' = [some (.ref S), some (.int many), some (.int c), some (.bl b), none, none, none] ∧ ∃ g', 0 ≤ g' ∧ H' = upd H S (srcO L i k g')) ?_ ?_
    · refine st_if (ans_and2 (ans_val (val_var rfl)) (ans_eq (s0 rfl rfl) val_c rfl rfl)) (fun _ => ?_) (fun _ => ?_)
      · exact st_setL hS (val_abs (val_var rfl)) (val_var rfl) val_c rfl ⟨rfl, _, by split <;> omega, rfl⟩
      · exact ⟨rfl, g, ok.g0, (upd_self hS).symm⟩
    rintro σ1 H1 ⟨rfl, g1, hg1, rfl⟩
    -- the number
    refine Evl.q_cut (M := fun σ' H' => ∃ n x5 x6 g', σ' = [some (.ref S), some (.int many), some (.int c), some (.bl b), some (.int n), x5, x6] ∧ 0 ≤ n ∧ n < many ∧ 0 ≤ g' ∧ H' = upd H S (srcO L i k g')) ?_ ?_
    · refine st_if (ans_val (val_var rfl)) (fun _ => ?_) (fun h => ?_)
      · refine sq_set (val_intC (val_toInt (si rfl rfl)) (val_var rfl) hm) ?_
        refine st_setL upd_same (val_intC (si rfl rfl) (val_var rfl) (wide_div (b := 200) hm (by omega) (by decide) (by decide))) (val_var rfl) val_c rfl ?_
        rw [upd_upd]
        exact ⟨_, _, _, _, rfl, Int.emod_nonneg _ (by omega), Int.emod_lt_of_pos _ hm, Int.ediv_nonneg hg1 (by omega), rfl⟩
      · have hc1 : -(2 ^ 64) < c ∧ c < 2 ^ 64 := by
          rw [h] at eb
          have e := Bool.or_eq_false_iff.mp eb
          have e1 := of_decide_eq_false e.1
          have e2 := of_decide_eq_false e.2
          omega
        have m1 : ∀ x : Int, -(2 ^ 64) < x % 2147483647 ∧ x % 2147483647 < 2 ^ 64 := fun x => by
          have a1 := Int.emod_nonneg x (show (2147483647 : Int) ≠ 0 by decide)
          have a2 := Int.emod_lt_of_pos x (show (0 : Int) < 2147483647 by decide)
          omega
        refine sq_set (val_int (val_int (val_intC (si rfl rfl) val_c (.inr (by decide))) (val_intC (si rfl rfl) val_c (.inr (by decide)))) val_c) ?_
        refine sq_set (val_intC (val_toInt (val_int (val_intC (val_var rfl) val_c (.inl hc1)) (val_var rfl))) val_c (by decide)) ?_
        refine sq_set (val_intC (val_toInt (val_int (val_int (val_intC (val_var rfl) (val_var rfl) (.inl (m1 _))) (val_intC (val_var rfl) val_c (.inl hc1))) (si rfl rfl))) val_c (by decide)) ?_
        refine st_set (val_intC (val_toInt (val_var rfl)) (val_var rfl) hm) ?_
        exact ⟨_, _, _, g1, rfl, Int.emod_nonneg _ (by omega), Int.emod_lt_of_pos _ hm, hg1, rfl⟩
    rintro σ2 H2 ⟨n, x5, x6, g2, rfl, n0, n1, hg2, rfl⟩
    -- one more draw out of this cell
    refine sq_setL upd_same (val_int (si rfl rfl) val_c) (val_var rfl) val_c rfl ?_
    rw [upd_upd]
    refine sq_when (ans_or2 (ans_int (si rfl rfl) val_c) (ans_or2 (ans_and2 (ans_not (ans_val (val_var rfl))) (ans_int (si rfl rfl) val_c)) (ans_and2 (ans_val (val_var rfl)) (ans_eq (si rfl rfl) val_c rfl rfl)))) (fun _ => ?_) (fun _ => ?_)
    · refine sq_setL upd_same (val_int (si rfl rfl) val_c) (val_var rfl) val_c rfl ?_
      refine st_setL upd_same val_c (val_var rfl) val_c rfl ?_
      rw [upd_upd, upd_upd]
      exact st_ret (val_var rfl) (kont n (i + 1) 0 g2 n0 n1 ⟨by have := ok.i0; omega, Int.le_refl 0, hg2, ok.len⟩)
    · exact st_ret (val_var rfl) (kont n i (k + 1) g2 n0 n1 ⟨ok.i0, by have := ok.k0; omega, hg2, ok.len⟩)

theorem ok_drawE (T : Txt K mg) : Df P w K mg base CX0 1 "_law_draw" ["_law_source_here", "_law_many"] spDrawE := by
  obtain ⟨a, b, fd, F, bb⟩ := ok_draw (P := P) (w := w) (base := base) T
  exact ⟨a, b, fd, F.imp draw_imp, bb⟩
end

end K15
namespace K15
open PySem PySem.Spec PyProof.Rows L2 He Tp ClX LiI

section
variable {P : Program} {w : World} {K : PySem.W.Frag} {mg : Str → Option Value} {base : Heap}
theorem ok_source (T : Txt K mg) : Df P w K mg base CX0 1 "_law_source" ["_law_script"] (spSource K) := by
  refine Df.mk' T.g_law_source T.f_law_source (fun _ _ _ _ _ _ us hl => match us, hl with | [_], _ => rfl) fun fd F => F.ok sc__law_source (fun vs H Q E h => ?_) (fun cdv A outer s H vs Q E hr h => ?_)
  · obtain ⟨a, ns, rfl, _⟩ := h
    rfl
  · obtain ⟨a, ns, rfl, hS, hl, q⟩ := h
    have nd := sc__law_source.nd
    refine ⟨_, PSs.nox
   (pss_one (ps_ret (pe_lst (pa_cons (pe_lc (own := [("_law_cell", 1)]) (g := gName 1) (tt := tYes) (by rfl) nd (pi_list (pe_slice sl_list (pv 0) po_none (po_some pe_int))) (blkOk_by (own := [("_law_cell", 1)]) (N := n__law_source) (sc := defScope s__law_source) (by decide +kernel)) (fun _ _ _ _ _ => pg_name (i := 1) nd rfl (by first | exact Or.inl rfl | exact Or.inr rfl)) (fun _ _ _ _ _ => pts_nil) (fun _ _ _ _ _ => (pe_callTy call_int1 (by rfl) T.bint (by decide +kernel) (pa_cons (pv 1) pa_nil)))) (pa_cons pe_int (pa_cons pe_int (pa_cons pe_int pa_nil))))))), ?_⟩
    refine ⟨_, rfl, _, rfl, a, _, rfl, hS, fun c hc => ?_⟩
    have hlen : (cutV (ns.map V.int) none (some 63)).length ≤ 63 := by
      have := cutV_length (ns.map V.int) none (some 63)
      rw [List.length_map] at this
      omega
    have hint : ∀ x ∈ cutV (ns.map V.int) none (some 63), ∃ z, x = V.int z := by
      intro x hx
      have h1 : x ∈ ns.map V.int := by
        unfold cutV at hx
        exact List.mem_of_mem_drop (List.mem_of_mem_take hx)
      obtain ⟨z, _, e⟩ := List.mem_map.mp h1
      exact ⟨z, e.symm⟩
    refine ⟨c, rfl, ⟨_, SqL.of upd_same⟩, fun D hD => ?_⟩
    refine lc_list (K := K) (a := c) (xs := cutV (ns.map V.int) none (some 63)) (fun i H' => ∃ acc : List Int, H' = upd (upd H c (.lst (cutV (ns.map V.int) none (some 63)))) D (.lst (acc.map V.int)) ∧ acc.length = i) ⟨[], rfl, rfl⟩ ?_ ?_ ?_
    · rintro i H' _ ⟨acc, rfl, _⟩
      exact SqL.of (by rw [upd_ne (ne_of_none upd_same hD)]; exact upd_same)
    · rintro i x H' hx ⟨acc, rfl, hacc⟩
      obtain ⟨z, rfl⟩ := hint x (List.mem_of_getElem? hx)
      have hi := (List.getElem?_eq_some_iff.mp hx).1
      refine ⟨wipe1, ?_⟩
      refine tyes ?_
      refine val_toInt (x := z) (val_var rfl) _ ⟨acc.map V.int, upd_same, by rw [List.length_map]; exact small1000 (by omega), acc ++ [z], ?_, by rw [List.length_append, hacc]; rfl⟩
      rw [upd_upd, List.map_append]
      rfl
    · rintro H' ⟨acc, rfl, hacc⟩
      refine ⟨(by show 4 ≤ sizeLine; decide), fun S hS2 => ?_⟩
      simp only [upd_none_iff] at hS2 hD
      refine q S D _ hS2.2.2 hD.2 ⟨fun b o z n => ?_, fun b xs z => ?_⟩ ⟨acc, 0, 0, 0, upd_same, ?_, ⟨Int.le_refl 0, Int.le_refl 0, Int.le_refl 0, by omega⟩⟩
      · rw [upd_ne (ne_of_none z hS2.2.2), upd_ne (ne_of_none z hD.2), upd_ne (ne_of_none z hc)]; exact z
      · rw [upd_ne (ne_of_none z hS2.2.2), upd_ne (ne_of_none z hD.2), upd_ne (ne_of_none z hc)]; exact z
      · rw [upd_ne (Ne.symm hS2.1)]; exact upd_same
end

end K15
namespace K15
open PySem PySem.Spec PyProof.Rows L2 He Tp ClX LiI

section
variable {P : Program} {w : World} {K : PySem.W.Frag} {mg : Str → Option Value} {base : Heap}
theorem ok_wordX (T : Txt K mg) : Df P w K mg base CX0 1 "_law_word" ["_law_number"] spWordX := by
  refine Df.mk' T.g_law_word T.f_law_word (fun _ _ _ _ _ _ us hl => match us, hl with | [_], _ => rfl) fun fd F => F.ok sc__law_word (fun vs H Q E h => ?_) (fun cdv A outer s H vs Q E hr h => ?_)
  · obtain ⟨n, rfl, _⟩ := h
    rfl
  · obtain ⟨n, rfl, q⟩ := h
    have nd := sc__law_word.nd
    refine ⟨_, PSs.nox
   (pss_cons (ps_set (i := 1) nd rfl (by first | exact Or.inl rfl | exact Or.inr rfl) pe_str)
   (pss_cons (ps_set (i := 2) nd rfl (by first | exact Or.inl rfl | exact Or.inr rfl) pe_str)
   (pss_cons (ps_for PassesOwn.never rfl (pi_range1 (by rfl) T.brange (pa_cons pe_int pa_nil)) (pg_name (i := 3) nd rfl (by first | exact Or.inl rfl | exact Or.inr rfl))
   (pss_cons (ps_set (i := 2) nd rfl (by first | exact Or.inl rfl | exact Or.inr rfl) (pe_op op_add_str (pe_ix ix_str (pv 1) (pe_op op_mod (pe_callTy call_int1 (by rfl) T.bint (by decide +kernel) (pa_cons (pv 0) pa_nil)) pe_int) (fun _ _ => rfl)) (pv 2)))
   (pss_cons (ps_set (i := 0) nd rfl (by first | exact Or.inl rfl | exact Or.inr rfl) (pe_op op_sub (pe_op op_fdiv (pv 0) pe_int) pe_int))
   (pss_one (ps_if (pt_cmpR op_lt (pv 0) pe_int (nomark _)) (pss_one ps_break) pss_nil)))))
   (pss_one (ps_ret (pv 2)))))), ?_⟩
    refine sq_set val_c (sq_set val_c ?_)
    refine ⟨12, rfl, by decide, by decide, for_range (n := 12) (fun i σ H' => H' = H ∧ i ≤ 12 ∧ ∃ (m : Nat) (lo : List Nat) (kv : Option V), σ = [some (.int (m : Int)), some (.str Lz), some (.str (txtD lo)), kv] ∧ lo.length = i ∧ dig 12 n = lo ++ dig (12 - i) m) ⟨rfl, by decide, n, [], none, rfl, rfl, rfl⟩ ?_ ?_⟩
    · rintro i σ H' hi ⟨rfl, _, m, lo, kv, rfl, hll, hd⟩
      obtain ⟨f, hf⟩ : ∃ f, 12 - i = f + 1 := ⟨12 - i - 1, by omega⟩
      have hf2 : 12 - (i + 1) = f := by omega
      have hm : m % 26 < 26 := Nat.mod_lt _ (by decide)
      have hc : atI Lz.cps.toList ((m : Int) % 26) = some (m % 26 + 97) := by
        have e : (m : Int) % 26 = ((m % 26 : Nat) : Int) := by omega
        rw [e]
        exact atI_nat (lz_at hm)
      have hlo : (txtD lo).length ≤ 12 := by rw [txtD_len]; omega
      refine sq_set (val_addS (x := ⟨#[m % 26 + 97]⟩) (y := txtD lo) (val_ixS (val_var rfl) (val_intC (val_toInt (val_var rfl)) val_c (by decide)) (by decide +kernel) hc) (val_var rfl) (by have h1 : (⟨#[m % 26 + 97]⟩ : Str).length = 1 := rfl; omega)) ?_
      have hz : (⟨#[m % 26 + 97]⟩ : Str) ++ txtD lo = txtD (lo ++ [m % 26]) := by rw [txtD_app]; rfl
      rw [hz]
      have hdg : dig (12 - i) m = m % 26 :: (if m / 26 = 0 then [] else dig f (m / 26 - 1)) := by rw [hf]; rfl
      refine sq_set (val_int (val_intC (val_var rfl) val_c ⟨by decide, by decide⟩) val_c) ?_
      refine st_if (ans_int (val_var rfl) val_c) (fun h => ?_) (fun h => ?_)
      · have h0 : m / 26 = 0 := by have := of_decide_eq_true h; omega
        refine st_ret (val_var rfl) ?_
        have e : wordOf n = txtD (lo ++ [m % 26]) := by
          unfold wordOf
          rw [hd, hdg, if_pos h0]
        rw [← e]
        exact q
      · have h0 : ¬ m / 26 = 0 := by have := of_decide_eq_false h; omega
        refine ⟨rfl, by omega, m / 26 - 1, lo ++ [m % 26], some (.int (0 + (i : Int))), ?_, by rw [List.length_append, hll]; rfl, ?_⟩
        · have e : (m : Int) / 26 - 1 = ((m / 26 - 1 : Nat) : Int) := by omega
          show [some (V.int ((m : Int) / 26 - 1)), some (V.str Lz), some (V.str (txtD (lo ++ [m % 26]))), some (.int (0 + (i : Int)))] = _
          rw [e]
        · rw [hd, hdg, if_neg h0, hf2, List.append_assoc]
          rfl
    · rintro σ H' ⟨rfl, _, m, lo, kv, rfl, hll, hd⟩
      refine st_ret (val_var rfl) ?_
      have e : wordOf n = txtD lo := by
        unfold wordOf
        rw [hd]
        show txtD (lo ++ []) = _
        rw [List.append_nil]
      rw [← e]
      exact q
end

end K15
namespace K15
open PySem PySem.Spec PyProof.Rows L2 He Tp ClX LiI

section
variable {P : Program} {w : World} {K : PySem.W.Frag} {mg : Str → Option Value} {base : Heap}
theorem ok_nameX (T : Txt K mg) : Df P w K mg base CX0 2 "_law_name" ["_law_source_here", "_law_k"] spNameX := by
  have D__law_draw := ok_drawE (P := P) (w := w) (base := base) T
  have D__law_word := ok_wordX (P := P) (w := w) (base := base) T
  refine Df.mk' T.g_law_name T.f_law_name (fun _ _ _ _ _ _ us hl => match us, hl with | [_, _], _ => rfl) fun fd F => F.ok sc__law_name (fun vs H Q E h => ?_) (fun cdv A outer s H vs Q E hr h => ?_)
  · obtain ⟨S, L, k, rfl, _⟩ := h
    rfl
  · obtain ⟨S, L, k, rfl, hS, q⟩ := h
    have nd := sc__law_name.nd
    have hr__law_draw := hr
    have hr__law_word := hr
    refine ⟨_, PSs.nox
   (pss_cons (ps_set (i := 2) nd rfl (by first | exact Or.inl rfl | exact Or.inr rfl) (pe_ix ix_list (pe_lst (pa_cons pe_int (pa_cons pe_int (pa_cons (pe_op op_pow pe_int pe_int) pa_nil)))) (pe_cd D__law_draw hr__law_draw (by rfl) pass0 (pa_cons (pv 0) (pa_cons pe_int pa_nil))) (fun _ _ => rfl)))
   (pss_one (ps_ret (pe_cd D__law_word hr__law_word (by rfl) pass0 (pa_cons (pe_op op_add (pe_op op_mul (pe_cd D__law_draw hr__law_draw (by rfl) pass0 (pa_cons (pv 0) (pa_cons (pv 2) pa_nil))) pe_int) (pv 1)) pa_nil))))), ?_⟩
    have p15 : CPow 10 15 := ⟨by decide, by decide, by decide⟩
    refine ⟨10, 15, rfl, rfl, p15, ?_⟩
    refine ⟨(by show 3 ≤ sizeLine; decide), fun a ha => ?_⟩
    have S1 : SrcAt (upd H a (.lst [.int 3, .int 1000, .int ((10 : Int) ^ (15 : Int).toNat)])) S L := hS.new ha
    refine draw_ex (i := 0) rfl S1 (by decide) (by decide) val_c (fun n H1 n0 n1 e1 S2 => ?_)
    have aS : a ≠ S := (src_ne_new hS ha).1
    have hL : H1 a = some (.lst [.int 3, .int 1000, .int ((10 : Int) ^ (15 : Int).toNat)]) := e1.keep _ _ upd_same (by simp [aS])
    obtain ⟨m, hm, m0, m1⟩ : ∃ m : Int, atI [V.int 3, .int 1000, .int ((10 : Int) ^ (15 : Int).toNat)] n = some (.int m) ∧ 0 < m ∧ m ≤ 10 ^ 15 := by
      have : n = 0 ∨ n = 1 ∨ n = 2 := by omega
      rcases this with rfl | rfl | rfl
      · exact ⟨3, rfl, by decide, by decide⟩
      · exact ⟨1000, rfl, by decide, by decide⟩
      · exact ⟨_, rfl, by decide, by decide⟩
    refine ⟨a, _, n, _, rfl, rfl, SqL.of hL, hm, ?_⟩
    refine draw_ex (i := 0) rfl S2 m0 (Int.lt_of_le_of_lt m1 (by decide)) (val_var rfl) (fun n' H2 n0' n1' e2 S3 => ?_)
    obtain ⟨a', rfl⟩ := Int.eq_ofNat_of_zero_le n0'
    have hmul : CMul (a' : Int) 8 := .inr (by decide)
    refine ⟨_, 8, rfl, rfl, hmul, ?_⟩
    refine ⟨_, rfl, _, _, rfl, rfl, ?_⟩
    refine ⟨8 * a' + k, ?_, q a' H2 (by omega) (((Ext.new ha).trans e1).trans e2) S3⟩
    show [V.int ((a' : Int) * 8 + (k : Int))] = [V.int ((8 * a' + k : Nat) : Int)]
    have e : (a' : Int) * 8 + (k : Int) = ((8 * a' + k : Nat) : Int) := by omega
    rw [e]
end

end K15
namespace K15
open PySem PySem.Spec PyProof.Rows L2 He Tp ClX LiI

section
variable {P : Program} {w : World} {K : PySem.W.Frag} {mg : Str → Option Value} {base : Heap}
theorem ok_names (T : Txt K mg) : Df P w K mg base CX0 3 "_law_names" ["_law_source_here", "_law_many"] spNames := by
  have D__law_draw := ok_drawE (P := P) (w := w) (base := base) T
  have D__law_word := ok_wordX (P := P) (w := w) (base := base) T
  have D__law_name := ok_nameX (P := P) (w := w) (base := base) T
  refine Df.mk' T.g_law_names T.f_law_names (fun _ _ _ _ _ _ us hl => match us, hl with | [_, _], _ => rfl) fun fd F => F.ok sc__law_names (fun vs H Q E h => ?_) (fun cdv A outer s H vs Q E hr h => ?_)
  · obtain ⟨S, L, many, rfl, _⟩ := h
    rfl
  · obtain ⟨S, L, many, rfl, h8, hS, q⟩ := h
    have nd := sc__law_names.nd
    have hr__law_draw := hr.mono (show 1 ≤ 2 by decide)
    have hr__law_word := hr.mono (show 1 ≤ 2 by decide)
    have hr__law_name := hr
    refine ⟨_, PSs.nox
   (pss_cons (ps_if (pt_cmpR op_eq (pe_cd D__law_draw hr__law_draw (by rfl) pass0 (pa_cons (pv 0) (pa_cons pe_int pa_nil))) pe_int (nomark _)) (pss_one (ps_ret (pe_lc (own := [("_law_k", 5)]) (g := gName 5) (tt := tYes) (by rfl) nd (pi_range1 (by rfl) T.brange (pa_cons (pv 1) pa_nil)) (blkOk_by (own := [("_law_k", 5)]) (N := n__law_names) (sc := defScope s__law_names) (by decide +kernel)) (fun _ _ _ _ _ => pg_name (i := 5) nd rfl (by first | exact Or.inl rfl | exact Or.inr rfl)) (fun _ _ _ _ _ => pts_nil) (fun _ _ _ _ _ => (pe_cd D__law_name hr__law_name (by rfl) pass0 (pa_cons (pv 0) (pa_cons (pv 5) pa_nil))))))) pss_nil)
   (pss_cons (ps_set (i := 2) nd rfl (by first | exact Or.inl rfl | exact Or.inr rfl) (pe_cd D__law_word hr__law_word (by rfl) pass0 (pa_cons (pe_cd D__law_draw hr__law_draw (by rfl) pass0 (pa_cons (pv 0) (pa_cons (pe_ix ix_list (pe_lst (pa_cons pe_int (pa_cons (pe_op op_pow pe_int pe_int) pa_nil))) (pe_cd D__law_draw hr__law_draw (by rfl) pass0 (pa_cons (pv 0) (pa_cons pe_int pa_nil))) (fun _ _ => rfl)) pa_nil))) pa_nil)))
   (pss_cons (ps_set (i := 3) nd rfl (by first | exact Or.inl rfl | exact Or.inr rfl) (pe_cd D__law_draw hr__law_draw (by rfl) pass0 (pa_cons (pv 0) (pa_cons (pe_op op_add (pe_callB call_len_str (by rfl) T.blen PySem.boot_len (pa_cons (pv 2) pa_nil)) pe_int) pa_nil))))
   (pss_cons (ps_set (i := 4) nd rfl (by first | exact Or.inl rfl | exact Or.inr rfl) (pe_cd D__law_draw hr__law_draw (by rfl) pass0 (pa_cons (pv 0) (pa_cons pe_int pa_nil))))
   (pss_one (ps_ret (pe_lc (own := [("_law_k", 5)]) (g := gName 5) (tt := tYes) (by rfl) nd (pi_range1 (by rfl) T.brange (pa_cons (pv 1) pa_nil)) (blkOk_by (own := [("_law_k", 5)]) (N := n__law_names) (sc := defScope s__law_names) (by decide +kernel)) (fun _ _ _ _ _ => pg_name (i := 5) nd rfl (by first | exact Or.inl rfl | exact Or.inr rfl)) (fun _ _ _ _ _ => pts_nil) (fun _ _ _ _ _ => (pe_op op_add_str (pe_op op_add_str (pe_slice sl_str (pv 2) po_none (po_some (pv 3))) (pe_cd D__law_word hr__law_word (by rfl) pass0 (pa_cons (pe_op op_mod (pe_callTy call_int1 (by rfl) T.bint (by decide +kernel) (pa_cons (pe_op op_add (pv 5) (pv 4)) pa_nil)) pe_int) pa_nil))) (pe_slice sl_str (pv 2) (po_some (pv 3)) po_none)))))))))), ?_⟩
    refine draw_ex (i := 0) rfl hS (by decide) (by decide) val_c (fun n H1 n0 n1 e1 S1 => ⟨rfl, _, rfl, ?_⟩)
    refine ifb (fun _ => ?_) (fun _ => ?_)
    · refine ⟨_, rfl, (many : Int), rfl, by omega, by omega, fun D hD => lc_range (lo := 0) (n := (many : Int).toNat) (fun i H' => ∃ f : Nat → Nat, (∀ j, f j < 10 ^ 15) ∧ Ext [S] H1 H' ∧ SrcAt H' S L ∧ H' D = some (.lst (((List.range i).map fun j => wordOf (8 * f j + j)).map V.str))) ⟨fun _ => 0, (fun _ => (by decide : (0 : Nat) < 10 ^ 15)), Ext.new hD, S1.new hD, upd_same⟩ ?_ ?_⟩
      · rintro i H' hi ⟨f, hf, e, s, hA⟩
        refine ⟨wipe1, ?_⟩
        refine tyes ?_
        have DS : D ≠ S := (src_ne_new S1 hD).1
        have DL : D ≠ L := (src_ne_new S1 hD).2
        refine ⟨_, rfl, _, rfl, S, L, i, (by rw [Int.zero_add]; rfl), s, fun a H2 ha e2 s2 => ⟨_, e2.keep _ _ hA (by simpa using DS), ?_, fun j => if j = i then a else f j, fun j => ?_, ?_, s2.keepM (ms := [D]) (Ext.refl.mut (by simp) fun xs z => ?_) (by simpa using DS.symm) ?_, ?_⟩⟩
        · rw [List.length_map, List.length_map, List.length_range]
          exact Evl.sz_lt (by omega)
        · show (if j = i then a else f j) < 10 ^ 15
          split
          · exact ha
          · exact hf j
        · exact (e.trans e2).fresh hD
        · rw [e2.keep _ _ hA (by simpa using DS)] at z
          cases z
        · simpa using DL.symm
        · rw [upd_same, List.range_succ, List.map_append, List.map_append]
          have h1 : (List.range i).map (fun j => wordOf (8 * (if j = i then a else f j) + j)) = (List.range i).map (fun j => wordOf (8 * f j + j)) := List.map_congr_left fun j hj => by rw [if_neg (by have := List.mem_range.mp hj; omega)]
          rw [h1]
          show _ = some (HO.lst (_ ++ [V.str (wordOf (8 * (if i = i then a else f i) + i))]))
          rw [if_pos rfl]
      · rintro H' ⟨f, hf, e, s, hA⟩
        have em : (many : Int).toNat = many := by simp
        rw [em] at hA
        have c12 := cap12
        have key : ∀ j, j < many → 8 * f j + j + 1 ≤ cap 12 := fun j hj => by have := hf j; omega
        exact q _ D H' (by rw [List.length_map, List.length_range]) (names_of (f := fun j => wordOf (8 * f j + j)) (fun i j hi hj e => by
          have := word_inj (key i hi) (key j hj) e
          omega) (fun i _ => nm_word _) (fun i _ => okS_word _)) (e1.none hD (by simpa using (src_ne_new S1 hD).1)) (e1.trans e) s hA
    · have p13 : CPow 10 13 := ⟨by decide, by decide, by decide⟩
      refine ⟨_, rfl, 10, 13, rfl, rfl, p13, (by show 2 ≤ sizeLine; decide), fun l hl => ?_⟩
      have lS := (src_ne_new S1 hl).1
      refine draw_ex (i := 0) rfl (S1.new hl) (by decide) (by decide) val_c (fun n2 H2 n20 n21 e2 S2 => ?_)
      have hL2 : H2 l = some (.lst [.int 3, .int ((10 : Int) ^ (13 : Int).toNat)]) := e2.keep _ _ upd_same (by simpa using lS)
      obtain ⟨m, hm, m0, m1⟩ : ∃ m : Int, atI [V.int 3, .int ((10 : Int) ^ (13 : Int).toNat)] n2 = some (.int m) ∧ 0 < m ∧ m ≤ 10 ^ 13 := by
        have : n2 = 0 ∨ n2 = 1 := by omega
        rcases this with rfl | rfl
        · exact ⟨3, rfl, by decide, by decide⟩
        · exact ⟨_, rfl, by decide, by decide⟩
      refine ⟨l, _, n2, _, rfl, rfl, SqL.of hL2, hm, S, L, m, rfl, S2, m0, Int.lt_of_le_of_lt m1 (by decide), fun n3 H3 n30 n31 e3 S3 => ?_⟩
      obtain ⟨u, rfl⟩ := Int.eq_ofNat_of_zero_le n30
      refine ⟨u, rfl, ?_⟩
      have c10 := cap10
      have hw10 : (wordOf u).length ≤ 10 := word_len (by omega)
      have hwl := ltrs_word u
      generalize wordOf u = wd at hw10 hwl
      have eA : Ext [S] H1 H3 := ((Ext.new (ms := []) hl).nil.trans e2).trans e3
      refine gset ?_
      dsimp only
      refine draw_ex (i := 0) rfl S3 (by omega) (Int.lt_of_le_of_lt (show ((wd.length : Int) + 1) ≤ 11 by omega) (by decide)) (val_int (val_lenS (val_var rfl) (by omega)) val_c) (fun p H4 p0 p1 e4 S4 => ?_)
      obtain ⟨p, rfl⟩ := Int.eq_ofNat_of_zero_le p0
      refine gset ?_
      dsimp only
      refine draw_ex (i := 0) rfl S4 (by decide) (by decide) val_c (fun t H5 t0 t1 e5 S5 => ?_)
      obtain ⟨t, rfl⟩ := Int.eq_ofNat_of_zero_le t0
      have e15 : Ext [S] H1 H5 := eA.trans (e4.trans e5)
      have hcut := cut_len (z := wd) (p := p) (by omega)
      have hone : ∀ k, (wordOf ((k + t) % 8)).length = 1 := fun k => one_len (Nat.mod_lt _ (by decide))
      refine ⟨_, rfl, (many : Int), rfl, by omega, by omega, fun D hD => lc_range (lo := 0) (n := (many : Int).toNat) (fun i H' => H' = upd H5 D (.lst (((List.range i).map fun j => (cutS wd none (some (p : Int)) ++ wordOf ((j + t) % 8)) ++ cutS wd (some (p : Int)) none).map V.str))) rfl ?_ ?_⟩
      · rintro i H' hi rfl
        refine ⟨wipe1, ?_⟩
        refine tyes ?_
        refine ⟨_, rfl, _, rfl, (p : Int), rfl, wd, rfl, Evl.sz_of (by omega), ?_⟩
        refine val_intC (val_toInt (val_int (val_var rfl) (val_var rfl))) val_c (by decide) _ ?_
        refine ⟨(i + t) % 8, ?_, _, _, rfl, rfl, Evl.sz_of (by rw [hone]; omega), _, rfl, _, rfl, (p : Int), rfl, wd, rfl, Evl.sz_of (by omega), _, _, rfl, rfl, Evl.sz_of (by rw [len_append, hone]; omega), _, upd_same, ?_, ?_⟩
        · show [V.int (((0 : Int) + (i : Int) + (t : Int)) % 8)] = [V.int (((i + t) % 8 : Nat) : Int)]
          have e : ((0 : Int) + (i : Int) + (t : Int)) % 8 = (((i + t) % 8 : Nat) : Int) := by omega
          rw [e]
        · rw [List.length_map, List.length_map, List.length_range]
          exact Evl.sz_lt (by omega)
        · rw [upd_upd, List.range_succ, List.map_append, List.map_append]
          rfl
      · rintro H' rfl
        have em : (many : Int).toNat = many := by simp
        rw [em]
        have hlt : ∀ j, ltrs ((cutS wd none (some (p : Int)) ++ wordOf ((j + t) % 8)) ++ cutS wd (some (p : Int)) none) := fun j => ltrs_app (ltrs_app (ltrs_cut hwl) (ltrs_word _)) (ltrs_cut hwl)
        refine q _ D _ (by rw [List.length_map, List.length_range]) (names_of (f := fun j => (cutS wd none (some (p : Int)) ++ wordOf ((j + t) % 8)) ++ cutS wd (some (p : Int)) none) (fun i j hi hj e => ?_) (fun i _ => ltrs_nm (hlt i) (by rw [len_append, len_append, hone]; omega) (by rw [len_append, len_append, hone]; omega)) (fun i _ => ltrs_ok (hlt i)))
          (e1.none (e15.none hD (by simpa using (src_ne_new S5 hD).1)) (by simpa using (src_ne_new S5 hD).1)) ((e1.trans e15).trans ((Ext.new hD).nil)) (S5.new hD) upd_same
        have c12 := cap12
        have := word_inj (n := (i + t) % 8) (m := (j + t) % 8) (by have := Nat.mod_lt (i + t) (show 0 < 8 by decide); omega) (by have := Nat.mod_lt (j + t) (show 0 < 8 by decide); omega) (mid_inj e)
        omega
end

end K15
namespace K15
open PySem PySem.Spec PyProof.Rows L2 He Tp ClX LiI

section
variable {P : Program} {w : World} {K : PySem.W.Frag} {mg : Str → Option Value} {base : Heap}
theorem ok_model (T : Txt K mg) : Df P w K mg base CX0 4 "_law_model" ["_law_source_here", "_law_most"] spModel := by
  have D__law_draw := ok_drawE (P := P) (w := w) (base := base) T
  have D__law_names := ok_names (P := P) (w := w) (base := base) T
  refine Df.mk' T.g_law_model T.f_law_model (fun _ _ _ _ _ _ us hl => match us, hl with | [_, _], _ => rfl) fun fd F => F.ok sc__law_model (fun vs H Q E h => ?_) (fun cdv A outer s H vs Q E hr h => ?_)
  · obtain ⟨S, L, most, rfl, _⟩ := h
    rfl
  · obtain ⟨S, L, most, rfl, hmost, hS, q⟩ := h
    have nd := sc__law_model.nd
    have hr__law_draw := hr.mono (show 1 ≤ 3 by decide)
    have hr__law_names := hr
    refine ⟨_, PSs.nox
   (pss_cons (ps_set (i := 2) nd rfl (by first | exact Or.inl rfl | exact Or.inr rfl) (pe_lst (pa_cons pe_str (pa_cons pe_str (pa_cons pe_str pa_nil)))))
   (pss_cons (ps_set (i := 3) nd rfl (by first | exact Or.inl rfl | exact Or.inr rfl) (pe_ix ix_list (pe_lst (pa_cons pe_int (pa_cons pe_int (pa_cons pe_int pa_nil)))) (pe_cd D__law_draw hr__law_draw (by rfl) pass0 (pa_cons (pv 0) (pa_cons pe_int pa_nil))) (fun _ _ => rfl)))
   (pss_cons (ps_set (i := 4) nd rfl (by first | exact Or.inl rfl | exact Or.inr rfl) (pe_lst (pa_cons (pe_lst pa_nil) (pa_cons (pe_lst pa_nil) (pa_cons (pe_lst pa_nil) (pa_cons (pe_lst pa_nil) (pa_cons (pe_lst pa_nil) (pa_cons (pe_lst pa_nil) pa_nil))))))))
   (pss_cons (ps_for PassesOwn.never rfl (pi_list (pe_cd D__law_names hr__law_names (by rfl) pass0 (pa_cons (pv 0) (pa_cons (pe_op op_add pe_int (pe_cd D__law_draw hr__law_draw (by rfl) pass0 (pa_cons (pv 0) (pa_cons (pv 3) pa_nil)))) pa_nil)))) (pg_name (i := 5) nd rfl (by first | exact Or.inl rfl | exact Or.inr rfl))
   (pss_one (ps_expr (pe_bm PySem.F.plainAttrs_list PySem.F.slot_list_append PySem.F.type_list_append mt_append (pe_ix ix_list (pv 4) pe_int (fun _ _ => rfl)) (pa_cons (pe_tup (pa_cons (pv 5) (pa_cons (pe_ix ix_list (pv 2) (pe_cd D__law_draw hr__law_draw (by rfl) pass0 (pa_cons (pv 0) (pa_cons pe_int pa_nil))) (fun _ _ => rfl)) pa_nil))) pa_nil)))))
   (pss_cons (ps_for PassesOwn.never rfl (pi_range1 (by rfl) T.brange (pa_cons (pe_cd D__law_draw hr__law_draw (by rfl) pass0 (pa_cons (pv 0) (pa_cons pe_int pa_nil))) pa_nil)) (pg_name (i := 6) nd rfl (by first | exact Or.inl rfl | exact Or.inr rfl))
   (pss_cons (ps_set (i := 7) nd rfl (by first | exact Or.inl rfl | exact Or.inr rfl) (pe_ix ix_tup (pe_ix ix_list (pe_ix ix_list (pv 4) pe_int (fun _ _ => rfl)) (pe_cd D__law_draw hr__law_draw (by rfl) pass0 (pa_cons (pv 0) (pa_cons (pe_callB call_len_seq (by rfl) T.blen PySem.boot_len (pa_cons (pe_ix ix_list (pv 4) pe_int (fun _ _ => rfl)) pa_nil)) pa_nil))) (fun _ _ => rfl)) pe_int (fun _ _ => rfl)))
   (pss_one (ps_expr (pe_bm PySem.F.plainAttrs_list PySem.F.slot_list_append PySem.F.type_list_append mt_append (pe_ix ix_list (pv 4) pe_int (fun _ _ => rfl)) (pa_cons (pe_tup (pa_cons (pv 7) (pa_cons (pe_ix ix_tup (pe_ix ix_list (pe_ix ix_list (pv 4) pe_int (fun _ _ => rfl)) (pe_cd D__law_draw hr__law_draw (by rfl) pass0 (pa_cons (pv 0) (pa_cons (pe_callB call_len_seq (by rfl) T.blen PySem.boot_len (pa_cons (pe_ix ix_list (pv 4) pe_int (fun _ _ => rfl)) pa_nil)) pa_nil))) (fun _ _ => rfl)) pe_int (fun _ _ => rfl)) pa_nil))) pa_nil))))))
   (pss_cons (ps_asg (pe_cd D__law_names hr__law_names (by rfl) pass0 (pa_cons (pv 0) (pa_cons (pe_op op_add pe_int (pe_op op_mod (pe_op op_add pe_int (pe_cd D__law_draw hr__law_draw (by rfl) pass0 (pa_cons (pv 0) (pa_cons (pv 3) pa_nil)))) (pv 3))) pa_nil))) (pg_sub (pv 4) pe_int set_list))
   (pss_cons (ps_for PassesOwn.never rfl (pi_list (pe_cd D__law_names hr__law_names (by rfl) pass0 (pa_cons (pv 0) (pa_cons (pe_op op_add pe_int (pe_cd D__law_draw hr__law_draw (by rfl) pass0 (pa_cons (pv 0) (pa_cons (pe_callB (call_min2 rfl) (by rfl) T.bmin (by decide +kernel) (pa_cons (pv 3) (pa_cons pe_int pa_nil))) pa_nil)))) pa_nil)))) (pg_name (i := 5) nd rfl (by first | exact Or.inl rfl | exact Or.inr rfl))
   (pss_one (ps_expr (pe_bm PySem.F.plainAttrs_list PySem.F.slot_list_append PySem.F.type_list_append mt_append (pe_ix ix_list (pv 4) pe_int (fun _ _ => rfl)) (pa_cons (pe_tup (pa_cons (pv 5) (pa_cons (pe_ix ix_tup (pe_ix ix_list (pe_ix ix_list (pv 4) pe_int (fun _ _ => rfl)) (pe_cd D__law_draw hr__law_draw (by rfl) pass0 (pa_cons (pv 0) (pa_cons (pe_callB call_len_seq (by rfl) T.blen PySem.boot_len (pa_cons (pe_ix ix_list (pv 4) pe_int (fun _ _ => rfl)) pa_nil)) pa_nil))) (fun _ _ => rfl)) pe_int (fun _ _ => rfl)) pa_nil))) pa_nil)))))
   (pss_cons (ps_for PassesOwn.never rfl (pi_range1 (by rfl) T.brange (pa_cons (pe_op op_mod (pe_op op_add pe_int (pe_cd D__law_draw hr__law_draw (by rfl) pass0 (pa_cons (pv 0) (pa_cons (pe_op op_add (pv 1) pe_int) pa_nil)))) (pe_op op_add (pv 1) pe_int)) pa_nil)) (pg_name (i := 6) nd rfl (by first | exact Or.inl rfl | exact Or.inr rfl))
   (pss_cons (ps_set (i := 8) nd rfl (by first | exact Or.inl rfl | exact Or.inr rfl) (pe_ix ix_tup (pe_ix ix_list (pe_ix ix_list (pv 4) pe_int (fun _ _ => rfl)) (pe_op op_mod (pe_op op_add (pe_cd D__law_draw hr__law_draw (by rfl) pass0 (pa_cons (pv 0) (pa_cons (pe_callB call_len_seq (by rfl) T.blen PySem.boot_len (pa_cons (pe_ix ix_list (pv 4) pe_int (fun _ _ => rfl)) pa_nil)) pa_nil))) (pv 6)) (pe_callB call_len_seq (by rfl) T.blen PySem.boot_len (pa_cons (pe_ix ix_list (pv 4) pe_int (fun _ _ => rfl)) pa_nil))) (fun _ _ => rfl)) pe_int (fun _ _ => rfl)))
   (pss_one (ps_expr (pe_bm PySem.F.plainAttrs_list PySem.F.slot_list_append PySem.F.type_list_append mt_append (pe_ix ix_list (pv 4) pe_int (fun _ _ => rfl)) (pa_cons (pe_tup (pa_cons (pv 8) (pa_cons (pe_ix ix_list (pe_ix ix_list (pv 4) pe_int (fun _ _ => rfl)) (pe_op op_mod (pe_op op_add (pe_cd D__law_draw hr__law_draw (by rfl) pass0 (pa_cons (pv 0) (pa_cons (pe_callB call_len_seq (by rfl) T.blen PySem.boot_len (pa_cons (pe_ix ix_list (pv 4) pe_int (fun _ _ => rfl)) pa_nil)) pa_nil))) (pe_op op_fdiv (pv 6) pe_int)) (pe_callB call_len_seq (by rfl) T.blen PySem.boot_len (pa_cons (pe_ix ix_list (pv 4) pe_int (fun _ _ => rfl)) pa_nil))) (fun _ _ => rfl)) pa_nil))) pa_nil))))))
   (pss_one (ps_ret (pv 4))))))))))), ?_⟩
    refine ⟨by show 3 ≤ sizeLine; decide, fun g hg => ⟨by show 3 ≤ sizeLine; decide, fun l hl => ?_⟩⟩
    have e1 := (Ext.new (ms := []) (o := .lst [.str "loose", .str "fast", .str "unsure"]) hg).trans (Ext.new (o := .lst [.int 2, .int 3, .int 8]) hl)
    have hg1 := (Ext.new (ms := []) (o := .lst [.int 2, .int 3, .int 8]) hl).keep _ _ upd_same (by simp)
    have gS := src_ne_new hS hg
    have lS := (src_ne_new (hS.new hg) hl).1
    refine draw_ex (i := 0) rfl (hS.ext e1) (by decide) (by decide) val_c (fun n H1 n0 n1 e2 s2 => ?_)
    have hl1 := e2.keep _ _ upd_same (show l ∉ [S] by simpa using lS)
    have hg1 := e2.keep _ _ hg1 (show g ∉ [S] by simpa using gS.1)
    obtain ⟨many, hmy, m0, m8⟩ : ∃ m : Nat, atI [V.int 2, .int 3, .int 8] n = some (.int (m : Int)) ∧ 2 ≤ m ∧ m ≤ 8 := by
      have : n = 0 ∨ n = 1 ∨ n = 2 := by omega
      rcases this with rfl | rfl | rfl
      · exact ⟨2, rfl, by decide, by decide⟩
      · exact ⟨3, rfl, by decide, by decide⟩
      · exact ⟨8, rfl, by decide, by decide⟩
    refine ⟨l, _, n, _, rfl, rfl, SqL.of hl1, hmy, ?_⟩
    have eH : Ext [S] H H1 := e1.nil.trans e2
    refine ⟨by show 0 ≤ sizeLine; decide, fun r0 h0 => ⟨by show 0 ≤ sizeLine; decide, fun r1 h1 => ⟨by show 0 ≤ sizeLine; decide, fun r2 h2 => ⟨by show 0 ≤ sizeLine; decide, fun r3 h3 => ⟨by show 0 ≤ sizeLine; decide, fun r4 h4 => ⟨by show 0 ≤ sizeLine; decide, fun r5 h5 => ⟨by show 6 ≤ sizeLine; decide, fun R hR => ?_⟩⟩⟩⟩⟩⟩⟩
    obtain ⟨Hb, a, hHb, hab, mi, hgb⟩ : ∃ (Hb : Hp) (a : Mad), Hb = upd (upd (upd (upd (upd (upd (upd H1 r0 (.lst [])) r1 (.lst [])) r2 (.lst [])) r3 (.lst [])) r4 (.lst [])) r5 (.lst [])) R (.lst [.ref r0, .ref r1, .ref r2, .ref r3, .ref r4, .ref r5]) ∧ a.M = R ∧ MI H1 S L Hb a [] [] [] [] [] ∧ Hb g = some (.lst [.str "loose", .str "fast", .str "unsure"]) := by
      obtain ⟨ef, m⟩ := mi_start (Ext.refl (H := H1)) s2 s2 h0 h1 h2 h3 h4 h5 hR
      exact ⟨_, _, rfl, rfl, m, ef.keep _ _ hg1 (by simp)⟩
    rw [← hHb, ← hab]
    clear hHb hab h0 h1 h2 h3 h4 h5 hR hl1 e2 e1 lS hl hmy n0 n1
    have gne : ∀ x ∈ a.all, g ≠ x := fun x hx => ne_of_none hg1 (mi.f x hx)
    -- kinds
    have stS : ∀ {X Y : Hp} {b : Addr} {o : HO}, b ≠ S → Ext [S] X Y → X b = some o → Y b = some o := fun hb e h => e.keep _ _ h (by simpa using hb)
    refine ⟨_, rfl, ?_⟩
    refine draw_ex (i := 0) rfl mi.s (by omega) (Int.lt_of_le_of_lt (show (many : Int) ≤ 8 by omega) (by decide)) (val_var rfl) (fun n1 H2 n10 n11 e2 s2 => ?_)
    obtain ⟨n1, rfl⟩ := Int.eq_ofNat_of_zero_le n10
    have m2 := mi.draw e2 s2
    have g2 := stS gS.1 e2 hgb
    refine ⟨1, _, rfl, rfl, S, L, 1 + n1, rfl, by omega, s2, fun zs l H3 hzl hzn hl e3 s3 h3 => ?_⟩
    have m3 := m2.draw e3 s3
    have g3 := stS gS.1 e3 g2
    have lS := (src_ne_new s2 hl).1
    have lne := m2.v.new hl
    refine ⟨l, rfl, ⟨_, SqL.of h3⟩, for_list (xs := zs.map V.str) (fun i σ' H' => ∃ ks x5, σ' = [some (.ref S), some (.int (most : Int)), some (.ref g), some (.int (many : Int)), some (.ref a.M), x5, none, none, none] ∧ MI H1 S L H' a ks [] [] [] [] ∧ H' l = some (.lst (zs.map V.str)) ∧
      H' g = some (.lst [.str "loose", .str "fast", .str "unsure"]) ∧ ks.map (·.1) = zs.take i ∧ ∀ q ∈ ks, q.2 = "loose" ∨ q.2 = "fast" ∨ q.2 = "unsure") ⟨[], none, rfl, m3, h3, g3, by simp, by simp⟩ ?_ ?_ ?_⟩
    · rintro i σ' H' _ ⟨ks, x5, rfl, m, h, _⟩
      exact SqL.of h
    · rintro i x σ' H' hx ⟨ks, x5, rfl, m, hl', hg', hks, hh⟩
      rw [List.getElem?_map] at hx
      obtain ⟨z, hz, rfl⟩ := Option.map_eq_some_iff.mp hx
      obtain ⟨xs, hxs, hxl⟩ := row_len m.v.r0
      refine ⟨_, rfl, a.M, _, 0, .ref a.m0, rfl, rfl, SqL.of m.v.M, rfl, .inl ⟨rfl, xs, SqL.of hxs⟩, _, rfl, _, rfl, ?_⟩
      refine draw_ex (i := 0) rfl m.s (by decide) (by decide) val_c (fun n H4 n0 n1 e4 s4 => ?_)
      have m4 := m.draw e4 s4
      have g4 := stS gS.1 e4 hg'
      have l4 := stS lS e4 hl'
      have hxs4 := stS (m.ne a.m0 (by simp)).1 e4 hxs
      obtain ⟨y, hy, hyh⟩ : ∃ y : Str, atI [V.str "loose", .str "fast", .str "unsure"] n = some (.str y) ∧ (y = "loose" ∨ y = "fast" ∨ y = "unsure") := by
        have : n = 0 ∨ n = 1 ∨ n = 2 := by omega
        rcases this with rfl | rfl | rfl
        · exact ⟨_, rfl, .inl rfl⟩
        · exact ⟨_, rfl, .inr (.inl rfl)⟩
        · exact ⟨_, rfl, .inr (.inr rfl)⟩
      have hi := (List.getElem?_eq_some_iff.mp hz).1
      refine ⟨g, _, n, _, rfl, rfl, SqL.of g4, hy, by show 2 ≤ sizeLine; decide, fun u hu => ⟨a.m0, xs, _, rfl, rfl, (by rw [upd_ne (ne_of_none hxs4 hu)]; exact hxs4), ?_, ks ++ [(z, y)], _, rfl, m4.push0 hxs4 hu, ?_, ?_, ?_, ?_⟩⟩
      · have h1 := congrArg List.length hks
        rw [List.length_map, List.length_take] at h1
        exact Evl.sz_lt (by omega)
      · rw [upd_ne (lne a.m0 (by simp)), upd_ne (ne_of_none l4 hu)]
        exact l4
      · rw [upd_ne (gne a.m0 (by simp)), upd_ne (ne_of_none g4 hu)]
        exact g4
      · rw [List.map_append, hks, List.take_add_one, hz]
        rfl
      · intro q hq
        rcases List.mem_append.mp hq with h | h
        · exact hh q h
        · simp at h
          subst h
          exact hyh
    · rintro σ' H4 ⟨k, x5, rfl, m4, _, _, hks, kh⟩
      have hk : k.map (·.1) = zs := by rw [hks, List.length_map, List.take_of_length_le (Nat.le_refl _)]
      have hkl : k.length = 1 + n1 := by rw [← hzl, ← hk, List.length_map]
      rw [← hk] at hzn
      have hkn := hzn
      clear h3 g3 lne lS hks hzl hl m3 m2 g2
      have hk8 : k.length ≤ 8 := by omega
      have hk1 : 1 ≤ k.length := by omega
      -- thirsts
      refine draw_ex (i := 0) rfl m4.s (by decide) (by decide) val_c (fun nt H5 t0 t1 e5 s5 => ?_)
      have m5 := m4.draw e5 s5
      refine ⟨nt, rfl, by omega, by omega, for_range (n := nt.toNat) (fun i σ' H' => ∃ t x5 x6 x7, σ' = [some (.ref S), some (.int (most : Int)), some (.ref g), some (.int (many : Int)), some (.ref a.M), x5, x6, x7, none] ∧ MI H1 S L H' a k t [] [] [] ∧ t.length = i ∧
        ∀ q ∈ t, q.1 ∈ k.map (·.1) ∧ q.2 ∈ k.map (·.1)) ⟨[], _, _, _, rfl, m5, rfl, by simp⟩ ?_ ?_⟩
      · rintro i σ' H' hi ⟨t, x5, x6, x7, rfl, m, ht, htk⟩
        obtain ⟨xs0, hx0, hx0l⟩ := row_len m.v.r0
        refine ⟨_, rfl, a.M, _, 0, .ref a.m0, rfl, rfl, SqL.of m.v.M, rfl, ?_⟩
        refine draw_ex (i := 0) (many := (xs0.length : Int)) rfl m.s (by omega) (Int.lt_of_le_of_lt (show (xs0.length : Int) ≤ 8 by omega) (by decide)) (val_len (val_ixL (val_var rfl) val_c (SqL.of m.v.M) rfl) (SqL.of hx0)) (fun n H6 n0 n1 e6 s6 => ?_)
        have m6 := m.draw e6 s6
        obtain ⟨xs1, t1, q1, p1, p2, p3, p4, p5⟩ := row_pick (K := K) m6.v.r0 n0 (by omega)
        refine ⟨_, _, n, _, rfl, rfl, SqL.of p1, p2, t1, _, 0, _, rfl, rfl, .inl (.inl p4), rfl, ?_⟩
        refine gset ?_
        dsimp only
        obtain ⟨xt, hxt, hxtl⟩ := row_len m6.v.r1
        refine ⟨_, rfl, a.M, _, 1, .ref a.m1, rfl, rfl, SqL.of m6.v.M, rfl, .inl ⟨rfl, _, SqL.of hxt⟩, _, rfl, _, rfl, a.M, _, 0, .ref a.m0, rfl, rfl, SqL.of m6.v.M, rfl, ?_⟩
        refine draw_ex (i := 0) (many := (xs1.length : Int)) rfl m6.s (by omega) (Int.lt_of_le_of_lt (show (xs1.length : Int) ≤ 8 by omega) (by decide)) (val_len (val_ixL (val_var rfl) val_c (SqL.of m6.v.M) rfl) (SqL.of p1)) (fun n' H7 n0' n1' e7 s7 => ?_)
        have m7 := m6.draw e7 s7
        obtain ⟨xs2, t2, q2, r1, r2, r3, r4, r5⟩ := row_pick (K := K) m7.v.r0 n0' (by omega)
        have hxt7 := stS (m6.ne a.m1 (by simp)).1 e7 hxt
        refine ⟨_, _, n', _, rfl, rfl, SqL.of r1, r2, t2, _, 0, _, rfl, rfl, .inl (.inl r4), rfl, by show 2 ≤ sizeLine; decide, fun u hu => ⟨a.m1, xt, _, rfl, rfl, (by rw [upd_ne (ne_of_none hxt7 hu)]; exact hxt7), Evl.sz_lt (by omega), t ++ [(q1.1, q2.1)], _, _, _, rfl, m7.push1 hxt7 hu, by rw [List.length_append, ht]; rfl, fun q hq => ?_⟩⟩
        rcases List.mem_append.mp hq with h | h
        · exact htk q h
        · simp at h
          subst h
          exact ⟨List.mem_map.mpr ⟨q1, p3, rfl⟩, List.mem_map.mpr ⟨q2, r3, rfl⟩⟩
      · rintro σ' H6 ⟨t, x5, x6, x7, rfl, m6, ht, htk⟩
        have ht3 : t.length ≤ 3 := by omega
        clear ht m5 e5 s5 t0 t1 m4
        -- pots
        refine ⟨_, rfl, ?_⟩
        refine draw_ex (i := 0) rfl m6.s (by omega) (Int.lt_of_le_of_lt (show (many : Int) ≤ 8 by omega) (by decide)) (val_var rfl) (fun n2 H7 n20 n21 e7 s7 => ?_)
        obtain ⟨n2, rfl⟩ := Int.eq_ofNat_of_zero_le n20
        have m7 := m6.draw e7 s7
        have hlt : (1 + n2) % many < many := Nat.mod_lt _ (by omega)
        refine ⟨1, _, rfl, rfl, _, rfl, _, _, rfl, rfl, (show (0 : Int) < (many : Int) by omega), 1, _, rfl, rfl, S, L, 1 + (1 + n2) % many, ?_, by omega, s7, fun p l H8 hpl hpn hl e8 s8 h8 => ?_⟩
        · have e : (1 : Int) + (1 + (n2 : Int)) % (many : Int) = ((1 + (1 + n2) % many : Nat) : Int) := by push_cast; rfl
          show [V.ref S, V.int ((1 : Int) + (1 + (n2 : Int)) % (many : Int))] = _
          rw [e]
        have m8 := m7.draw e8 s8
        have hl0 := m7.fresh hl
        have hln := m7.v.new hl
        refine ⟨_, rfl, a.M, _, 2, 2, rfl, rfl, m8.v.M, rfl, ?_⟩
        have m9 := m8.set2 hl0 h8 hln
        show tSeq _ _ _ _ (upd H8 a.M (.lst [.ref a.m0, .ref a.m1, .ref l, .ref a.m3, .ref a.m4, .ref a.m5]))
        generalize upd H8 a.M (.lst [.ref a.m0, .ref a.m1, .ref l, .ref a.m3, .ref a.m4, .ref a.m5]) = H9 at m9
        obtain ⟨b, hbM, hb⟩ : ∃ b : Mad, b.M = a.M ∧ b = { a with m2 := l } := ⟨{ a with m2 := l }, rfl, rfl⟩
        rw [← hb] at m9
        rw [← hbM]
        clear hb hbM m8 m7 m6 h8 hln hl0 gne mi
        have hp8 : p.length ≤ 8 := by omega
        have hp1 : 1 ≤ p.length := by omega
        -- cloths
        refine ⟨_, rfl, ?_⟩
        refine draw_ex (i := 0) (many := if (7 : Int) < (many : Int) then 7 else (many : Int)) rfl m9.s (by split <;> omega) (Int.lt_of_le_of_lt (show (if (7 : Int) < (many : Int) then (7 : Int) else (many : Int)) ≤ 8 by split <;> omega) (by decide)) (fun Q' q' => ⟨_, rfl, _, _, rfl, q'⟩) (fun n3 H10 n30 n31 e10 s10 => ?_)
        obtain ⟨n3, rfl⟩ := Int.eq_ofNat_of_zero_le n30
        have n3b : n3 < 7 ∧ n3 < many := by split at n31 <;> omega
        have m10 := m9.draw e10 s10
        refine ⟨2, _, rfl, rfl, S, L, 2 + n3, rfl, by omega, s10, fun zs lc H11 hzl hzn hlc e11 s11 h11 => ?_⟩
        have m11 := m10.draw e11 s11
        have lS := (src_ne_new s10 hlc).1
        have lne := m10.v.new hlc
        refine ⟨lc, rfl, ⟨_, SqL.of h11⟩, for_list (xs := zs.map V.str) (fun i σ' H' => ∃ c x5 x6 x7, σ' = [some (.ref S), some (.int (most : Int)), some (.ref g), some (.int (many : Int)), some (.ref b.M), x5, x6, x7, none] ∧ MI H1 S L H' b k t p c [] ∧ H' lc = some (.lst (zs.map V.str)) ∧
          c.map (·.1) = zs.take i ∧ ∀ q ∈ c, q.2 ∈ k.map (·.1)) ⟨[], _, _, _, rfl, m11, h11, by simp, by simp⟩ ?_ ?_ ?_⟩
        · rintro i σ' H' _ ⟨c, x5, x6, x7, rfl, m, h, _⟩
          exact SqL.of h
        · rintro i x σ' H' hx ⟨c, x5, x6, x7, rfl, m, hl', hcs, hh⟩
          rw [List.getElem?_map] at hx
          obtain ⟨z, hz, rfl⟩ := Option.map_eq_some_iff.mp hx
          obtain ⟨xs, hxs, hxl⟩ := row_len m.v.r3
          obtain ⟨xs0, hx0, hx0l⟩ := row_len m.v.r0
          refine ⟨_, rfl, b.M, _, 3, .ref b.m3, rfl, rfl, SqL.of m.v.M, rfl, .inl ⟨rfl, xs, SqL.of hxs⟩, _, rfl, _, rfl, b.M, _, 0, .ref b.m0, rfl, rfl, SqL.of m.v.M, rfl, ?_⟩
          refine draw_ex (i := 0) (many := (xs0.length : Int)) rfl m.s (by omega) (Int.lt_of_le_of_lt (show (xs0.length : Int) ≤ 8 by omega) (by decide)) (val_len (val_ixL (val_var rfl) val_c (SqL.of m.v.M) rfl) (SqL.of hx0)) (fun n H12 n0 n1 e12 s12 => ?_)
          have m12 := m.draw e12 s12
          obtain ⟨xs1, t1, q1, p1, p2, p3, p4, p5⟩ := row_pick (K := K) m12.v.r0 n0 (by omega)
          have l12 := stS lS e12 hl'
          have hxs12 := stS (m.ne b.m3 (by simp)).1 e12 hxs
          have hi := (List.getElem?_eq_some_iff.mp hz).1
          refine ⟨_, _, n, _, rfl, rfl, SqL.of p1, p2, t1, _, 0, _, rfl, rfl, .inl (.inl p4), rfl, by show 2 ≤ sizeLine; decide, fun u hu => ⟨b.m3, xs, _, rfl, rfl, (by rw [upd_ne (ne_of_none hxs12 hu)]; exact hxs12), ?_, c ++ [(z, q1.1)], _, _, _, rfl, m12.push3 hxs12 hu, ?_, ?_, ?_⟩⟩
          · have h1 := congrArg List.length hcs
            rw [List.length_map, List.length_take] at h1
            exact Evl.sz_lt (by omega)
          · rw [upd_ne (lne b.m3 (by simp)), upd_ne (ne_of_none l12 hu)]
            exact l12
          · rw [List.map_append, hcs, List.take_add_one, hz]
            rfl
          · intro q hq
            rcases List.mem_append.mp hq with h | h
            · exact hh q h
            · simp at h
              subst h
              exact List.mem_map.mpr ⟨q1, p3, rfl⟩
        · rintro σ' H12 ⟨c, x5, x6, x7, rfl, m12, _, hcs, ck⟩
          have hc : c.map (·.1) = zs := by rw [hcs, List.length_map, List.take_of_length_le (Nat.le_refl _)]
          have hcl : c.length = 2 + n3 := by rw [← hzl, ← hc, List.length_map]
          rw [← hc] at hzn
          have hc8 : c.length ≤ 8 := by omega
          have hc2 : 2 ≤ c.length := by omega
          clear hcs hcl hzl hlc lne lS m11 m10 m9 h11
          -- dips
          refine draw_ex (i := 0) (many := (most : Int) + 1) rfl m12.s (by omega) (Int.lt_of_le_of_lt (show (most : Int) + 1 ≤ 101 by omega) (by decide)) (val_int (val_var rfl) val_c) (fun nd' H13 nd0 nd1 e13 s13 => ?_)
          have m13 := m12.draw e13 s13
          have hb0 := Int.emod_nonneg (3 + nd') (show (most : Int) + 1 ≠ 0 by omega)
          have hb1 := Int.emod_lt_of_pos (3 + nd') (show (0 : Int) < (most : Int) + 1 by omega)
          refine ⟨3, _, rfl, rfl, _, rfl, _, 1, rfl, rfl, _, _, rfl, rfl, (show (0 : Int) < (most : Int) + 1 by omega), (3 + nd') % ((most : Int) + 1), rfl, by omega, by omega, for_range (n := ((3 + nd') % ((most : Int) + 1)).toNat)
            (fun i σ' H' => ∃ d x5 x6 x7 x8, σ' = [some (.ref S), some (.int (most : Int)), some (.ref g), some (.int (many : Int)), some (.ref b.M), x5, x6, x7, x8] ∧ MI H1 S L H' b k t p c d ∧ d.length = i ∧ ∀ q ∈ d, q.1 ∈ c.map (·.1) ∧ q.2 ∈ p) ⟨[], _, _, _, _, rfl, m13, rfl, by simp⟩ ?_ ?_⟩
          · rintro i σ' H' hi ⟨d, x5, x6, x7, x8, rfl, m, hd, hdk⟩
            obtain ⟨xs3, hx3, hx3l⟩ := row_len m.v.r3
            refine ⟨_, rfl, b.M, _, 3, .ref b.m3, rfl, rfl, SqL.of m.v.M, rfl, ?_⟩
            refine draw_ex (i := 0) (many := (xs3.length : Int)) rfl m.s (by omega) (Int.lt_of_le_of_lt (show (xs3.length : Int) ≤ 8 by omega) (by decide)) (val_len (val_ixL (val_var rfl) val_c (SqL.of m.v.M) rfl) (SqL.of hx3)) (fun n H14 n0 n1 e14 s14 => ?_)
            have m14 := m.draw e14 s14
            obtain ⟨xs4, hx4, hx4l⟩ := row_len m14.v.r3
            have i0 := Int.emod_nonneg (n + (0 + (i : Int))) (show (xs4.length : Int) ≠ 0 by omega)
            have i1 := Int.emod_lt_of_pos (n + (0 + (i : Int))) (show (0 : Int) < (xs4.length : Int) by omega)
            obtain ⟨ys, t1, q1, p1, p2, p3, p4, p5⟩ := row_pick (K := K) m14.v.r3 i0 (by omega)
            refine ⟨_, rfl, _, _, rfl, rfl, ?_⟩
            refine val_len (val_ixL (val_var rfl) val_c (SqL.of m14.v.M) rfl) (SqL.of hx4) _ ?_
            refine ⟨_, _, rfl, rfl, (show (0 : Int) < (xs4.length : Int) by omega), _, _, _, _, rfl, rfl, SqL.of p1, p2, t1, _, 0, _, rfl, rfl, .inl (.inl p4), rfl, ?_⟩
            refine gset ?_
            dsimp only
            obtain ⟨xt, hxt, hxtl⟩ := row_len m14.v.r4
            have hpl : (p.map V.str).length = p.length := List.length_map ..
            refine ⟨_, rfl, b.M, _, 4, .ref b.m4, rfl, rfl, SqL.of m14.v.M, rfl, .inl ⟨rfl, _, SqL.of hxt⟩, _, rfl, _, rfl, b.M, _, 2, .ref b.m2, rfl, rfl, SqL.of m14.v.M, rfl, ?_⟩
            refine draw_ex (i := 0) (many := ((p.map V.str).length : Int)) rfl m14.s (by omega) (Int.lt_of_le_of_lt (show ((p.map V.str).length : Int) ≤ 8 by omega) (by decide)) (val_len (val_ixL (val_var rfl) val_c (SqL.of m14.v.M) rfl) (SqL.of m14.v.r2)) (fun n' H15 n0' n1' e15 s15 => ?_)
            have m15 := m14.draw e15 s15
            have hxt15 := stS (m14.ne b.m4 (by simp)).1 e15 hxt
            have j0 := Int.emod_nonneg (n' + (0 + (i : Int)) / 2) (show ((p.map V.str).length : Int) ≠ 0 by omega)
            have j1 := Int.emod_lt_of_pos (n' + (0 + (i : Int)) / 2) (show (0 : Int) < ((p.map V.str).length : Int) by omega)
            obtain ⟨w1, hw1, hwm⟩ := atI_some (xs := p.map V.str) j0 j1
            obtain ⟨y, hy, rfl⟩ := List.mem_map.mp hwm
            refine ⟨_, rfl, _, 2, rfl, rfl, ⟨by decide, by decide⟩, _, _, rfl, rfl, ?_⟩
            refine val_len (val_ixL (val_var rfl) val_c (SqL.of m15.v.M) rfl) (SqL.of m15.v.r2) _ ?_
            refine ⟨_, _, rfl, rfl, (show (0 : Int) < ((p.map V.str).length : Int) by omega), _, _, _, _, rfl, rfl, SqL.of m15.v.r2, hw1, by show 2 ≤ sizeLine; decide, fun u hu => ⟨b.m4, xt, _, rfl, rfl, (by rw [upd_ne (ne_of_none hxt15 hu)]; exact hxt15), Evl.sz_lt (by omega), d ++ [(q1.1, y)], _, _, _, _, rfl, m15.push4 hxt15 hu, by rw [List.length_append, hd]; rfl, fun q hq => ?_⟩⟩
            rcases List.mem_append.mp hq with h | h
            · exact hdk q h
            · simp at h
              subst h
              exact ⟨List.mem_map.mpr ⟨q1, p3, rfl⟩, hy⟩
          · rintro σ' H' ⟨d, x5, x6, x7, x8, rfl, m, hd, hdk⟩
            exact ⟨_, rfl, q b k t p c d H' ⟨hkn, kh, hk1, hk8, htk, ht3, hpn, hp1, hp8, hzn, ck, hc2, hc8, hdk, by omega⟩ (fun x hx => eH.none (m.f x hx) (by simpa using (m.ne x hx).1)) (eH.trans m.e) m.s m.v⟩
end

end K15
namespace K15
open PySem PySem.Spec PyProof.Rows L2 He Tp ClX LiI

section
variable {P : Program} {w : World} {K : PySem.W.Frag} {mg : Str → Option Value} {base : Heap}
theorem ok_check_knownL (T : Txt K mg) : Df P w K mg base (L2.CX P w) 3 "_check_known" ["name", "known"] (spCheckKnown K (ga K "Unknown") (knL K)) := by
  have D_dye := dye (P := P) (w := w) (base := base) T
  refine Df.mk' T.g_check_known T.f_check_known (fun _ _ _ _ _ _ us hl => match us, hl with | [_, _], _ => rfl) fun fd F => F.ok sc__check_known (fun vs H Q E h => ?_) (fun cdv A outer s H vs Q E hr h => ?_)
  · obtain ⟨v, k, hit, rfl, _⟩ := h
    rfl
  · obtain ⟨v, k, hit, rfl, p, ⟨a, zs, rfl, hd, hh⟩, kU, kN⟩ := h
    have hu := hu_of hr
    refine ⟨_, (pss_one (ps_if (PW.pt (pw_or (pt_not (pt_val (pe_callB (call_isi) (by rfl) T.bisinstance (by decide +kernel) (pa_cons (pv 0) (pa_cons (pe_bltn (v := .ty "str") (u := .type "str") (by rfl) T.bstr (by decide +kernel) rfl) pa_nil))))) (pw_or1 (pt_cmpR op_notIn_seq (pv 0) (pv 1) (by rfl))))) (pss_one (ps_raiseX rfl T.xUnknown D_dye (hr.mono (by decide)) (takes_of rfl rfl rfl rfl) (by rfl) T.gUnknown (pv 0))) pss_nil)), ?_⟩
    refine val_isi (val_var rfl) p.ty (p.kit (.inr (.inr (.inl rfl)))) _ ⟨_, rfl, ?_⟩
    rw [str_eq p]
    cases p with
    | @str z hz =>
      refine iteF ?_
      refine ⟨_, rfl, _, rfl, a, zs.map V.str, rfl, .inl (SqL.of hd), rfl, by rw [List.all_map]; exact List.all_eq_true.mpr fun _ _ => rfl, _, rfl, ?_⟩
      refine ifb (fun h2 => ?_) (fun h2 => ?_)
      · exact ⟨_, rfl, leaves_now T.xUnknown (kU fun z' e => by cases e; rw [hh]; simpa using h2) Ext.refl⟩
      · exact kN z rfl (by rw [hh]; simpa using h2)
    | _ => exact iteT ⟨_, rfl, leaves_now T.xUnknown (kU fun z' e => nomatch e) Ext.refl⟩
end

end K15
namespace K15
open PySem PySem.Spec PyProof.Rows L2 He Tp ClX LiI

section
variable {P : Program} {w : World} {K : PySem.W.Frag} {mg : Str → Option Value} {base : Heap}
theorem ok_add_thirst (T : Txt K mg) {fd : FuncData} (F : FnM K "Book" "add_thirst" "Book.add_thirst" s_Book_add_thirst [] fd) : FnOk P w K mg base (L2.CX P w) 4 (ma K (cB K) "add_thirst") fd ["self", "more", "less"] (spAddThirst K (cB K)) := by
  have D__check_known := ok_check_knownD (P := P) (w := w) (base := base) T
  have D__check_room := ok_check_roomL (P := P) (w := w) (base := base) T
  refine F.ok sc_Book_add_thirst (fun vs H Q E h => ?_) (fun cdv A outer s H vs Q E hr h => ?_)
  · obtain ⟨p, v, g, i, A, ks, ts, ps, cs, ds, fs, rfl, _⟩ := h
    rfl
  · obtain ⟨p, v, g, i, A, ks, ts, ps, cs, ds, fs, rfl, pv0, pg, B, hl, kX, kN⟩ := h
    have hr__check_known := hr
    have hr__check_room := hr
    refine ⟨_, (pss_cons (ps_expr (pe_cd D__check_known hr__check_known (by rfl) (passes_call (takes_of rfl rfl rfl rfl) (fun _ _ _ _ z => z)) (pa_cons (pv 1) (pa_cons (pe_fld (pv 0) rfl) pa_nil))))
   (pss_cons (ps_expr (pe_cd D__check_known hr__check_known (by rfl) (passes_call (takes_of rfl rfl rfl rfl) (fun _ _ _ _ z => z)) (pa_cons (pv 2) (pa_cons (pe_fld (pv 0) rfl) pa_nil))))
   (pss_cons (ps_expr (pe_cd D__check_room hr__check_room (by rfl) (passes_call (takes_of rfl rfl rfl rfl) (fun _ _ _ _ z => z)) (pa_cons (pe_fld (pv 0) rfl) (pa_cons (pe_cval (pe_glob (v := .ref (ga K "Book")) (by rfl) T.gBook rfl)) pa_nil))))
   (pss_one (ps_expr (pe_bm PySem.F.plainAttrs_list PySem.F.slot_list_append PySem.F.type_list_append mt_append (pe_fld (pv 0) rfl) (pa_cons (pe_tup (pa_cons (pv 1) (pa_cons (pv 2) pa_nil))) pa_nil))))))), ?_⟩
    refine ⟨_, rfl, _, rfl, p, cB K, A.dx, _, _, rfl, B.ob, T.cl, T.n_kinds, fsB_kinds, ?_⟩
    refine ⟨v, _, fun z => decide (z ∈ ks.map (·.1)), rfl, pv0, ⟨A.dk, kvB ks, rfl, B.dk, fun z => valV_kvB.symm⟩, fun e => kX _ _ (refT_1 (knownK_no e)), fun y ey hit => ?_⟩
    subst ey
    refine ⟨_, rfl, _, rfl, p, cB K, A.dx, _, _, rfl, B.ob, T.cl, T.n_kinds, fsB_kinds, ?_⟩
    refine ⟨g, _, fun z => decide (z ∈ ks.map (·.1)), rfl, pg H Ext.refl, ⟨A.dk, kvB ks, rfl, B.dk, fun z => valV_kvB.symm⟩, fun e => kX _ _ (refT_2 hit (knownK_no e)), fun x ex hit2 => ?_⟩
    subst ex
    have hk := refT_3 (n := ts.length) (ks := ks) (v := .str y) (g := .str x) hit hit2
    obtain ⟨u1, c1⟩ := T.vTHIRSTS
    refine ⟨_, rfl, p, cB K, A.dx, _, _, rfl, B.ob, T.cl, T.n_thirsts, fsB_thirsts, cB K, _, .int 32, u1, rfl, T.crd, c1, ?_⟩
    refine ⟨_, ts.length, 32, rfl, ⟨A.lt, _, rfl, B.lt, rfl⟩, fun h2 => kX _ _ (by rw [hk, if_pos (by omega)]), fun h2 => ?_⟩
    rw [if_neg (by omega)] at hk
    refine ⟨_, rfl, p, cB K, A.dx, _, _, rfl, B.ob, T.cl, T.n_thirsts, fsB_thirsts, .inl ⟨rfl, _, SqL.of B.lt⟩, _, rfl, _, rfl, by show 2 ≤ sizeLine; decide, fun t ht => ⟨A.lt, ts, _, rfl, rfl, (by rw [upd_ne (ne_of_none B.lt ht)]; exact B.lt), small1000 hl, ?_⟩⟩
    have e1 := Ext.new (ms := []) (o := .tup [.str y, .str x]) ht
    refine kN hk _ t (e1.nil.mut (by simp) fun xs z => by rw [B.lt] at z; cases z) ht ?_ ((B.ext e1 (fun _ _ => by simp)).setT _)
    rw [upd_ne (ne_of_none B.lt ht).symm]
    exact upd_same
end

end K15
namespace K15
open PySem PySem.Spec PyProof.Rows L2 He Tp ClX LiI

section
variable {P : Program} {w : World} {K : PySem.W.Frag} {mg : Str → Option Value} {base : Heap}
theorem ok_dip (T : Txt K mg) {fd : FuncData} (F : FnM K "Book" "dip" "Book.dip" s_Book_dip [] fd) : FnOk P w K mg base (L2.CX P w) 4 (ma K (cB K) "dip") fd ["self", "cloth", "pot"] (spDip K (cB K)) := by
  have D__check_known := ok_check_knownD (P := P) (w := w) (base := base) T
  have D__check_knownL := ok_check_knownL (P := P) (w := w) (base := base) T
  have D__check_room := ok_check_roomL (P := P) (w := w) (base := base) T
  refine F.ok sc_Book_dip (fun vs H Q E h => ?_) (fun cdv A outer s H vs Q E hr h => ?_)
  · obtain ⟨p, v, g, i, A, ks, ts, ps, cs, ds, fs, rfl, _⟩ := h
    rfl
  · obtain ⟨p, v, g, i, A, ks, ts, ps, cs, ds, fs, rfl, pv0, pg, B, hl, hpl, kX, kN⟩ := h
    have hr__check_known := hr
    have hr__check_room := hr
    refine ⟨_, (pss_cons (ps_expr (pe_cd D__check_known hr__check_known (by rfl) (passes_call (takes_of rfl rfl rfl rfl) (fun _ _ _ _ z => z)) (pa_cons (pv 1) (pa_cons (pe_fld (pv 0) rfl) pa_nil))))
   (pss_cons (ps_expr (pe_cd D__check_knownL hr__check_known (by rfl) (passes_call (takes_of rfl rfl rfl rfl) (fun _ _ _ _ z => z)) (pa_cons (pv 2) (pa_cons (pe_fld (pv 0) rfl) pa_nil))))
   (pss_cons (ps_expr (pe_cd D__check_room hr__check_room (by rfl) (passes_call (takes_of rfl rfl rfl rfl) (fun _ _ _ _ z => z)) (pa_cons (pe_fld (pv 0) rfl) (pa_cons (pe_fld (pv 0) rfl) pa_nil))))
   (pss_cons (ps_fld (pv 0) (pe_lst (StX.pa_star (pe_fld (pv 0) rfl) (pa_cons (pe_tup (pa_cons (pv 1) (pa_cons (pv 2) pa_nil))) pa_nil))) rfl)
   (pss_one (ps_ret (pe_op op_sub (pe_callB call_len_seq (by rfl) T.blen PySem.boot_len (pa_cons (pe_fld (pv 0) rfl) pa_nil)) pe_int))))))), ?_⟩
    refine ⟨_, rfl, _, rfl, p, cB K, A.dx, _, _, rfl, B.ob, T.cl, T.n_cloths, fsB_cloths, ?_⟩
    refine ⟨v, _, fun z => decide (z ∈ cs.map (·.1)), rfl, pv0, ⟨A.dc, kvB cs, rfl, B.dc, fun z => valV_kvB.symm⟩, fun e => kX _ _ (refDip_1 (knownK_no e)), fun y ey hit => ?_⟩
    subst ey
    refine ⟨_, rfl, _, rfl, p, cB K, A.dx, _, _, rfl, B.ob, T.cl, T.n_pots, fsB_pots, ?_⟩
    refine ⟨g, _, fun z => decide (z ∈ ps), rfl, pg H Ext.refl, ⟨A.lp, ps, rfl, B.lp, fun z => inV_strs.symm⟩, fun e => kX _ _ (refDip_2 hit (knownP_no e)), fun x ex hit2 => ?_⟩
    subst ex
    have hk := refDip_3 (n := ds.length) (b := i) (cs := cs) (ps := ps) (v := .str y) (g := .str x) hit hit2
    refine ⟨_, rfl, p, cB K, A.dx, _, _, rfl, B.ob, T.cl, T.n_dips, fsB_dips, _, rfl, p, cB K, A.dx, _, _, rfl, B.ob, T.cl, T.n_bound, fsB_bound, ?_⟩
    refine ⟨_, ds.length, i, rfl, ⟨A.ld, _, rfl, B.ld, rfl⟩, fun h2 => kX _ _ (by rw [hk, if_pos h2]), fun h2 => ?_⟩
    rw [if_neg (by omega)] at hk
    refine ⟨_, rfl, p, cB K, A.dx, _, _, rfl, B.ob, T.cl, T.n_dips, fsB_dips, A.ld, ds, rfl, .inr (SqL.of B.ld), _, rfl, _, rfl, by show 2 ≤ sizeLine; decide, fun t ht => ⟨Nat.le_trans (show (ds ++ [V.ref t]).length ≤ 1001 by rw [List.length_append]; show ds.length + 1 ≤ 1001; omega) (by decide), fun l hl0 => ?_⟩⟩
    have e1 := Ext.new (ms := []) (o := .tup [.str y, .str x]) ht
    have e2 := Ext.new (ms := []) (o := .lst (ds ++ [.ref t])) hl0
    have B2 := (B.ext e1 (fun _ _ => by simp)).ext e2 (fun _ _ => by simp)
    have hl1 : H l = none := e1.none hl0 (by simp)
    have n1 := (ne_of_none B.lt hl1).symm
    have n2 := (ne_of_none B.lp hl1).symm
    have n3 := (ne_of_none B.lf hl1).symm
    refine ⟨_, rfl, p, cB K, A.dx, _, rfl, B2.ob, T.cl, T.n_dips, (by show 7 < 1000; decide), ?_⟩
    rw [fsB_dips']
    have B3 := B2.setD (l := l) (ds' := ds ++ [.ref t]) upd_same n1 n2 n3
    refine ⟨_, rfl, p, cB K, A.dx, _, _, rfl, B3.ob, T.cl, T.n_dips, fsB_dips, l, ds ++ [.ref t], rfl, .inl (SqL.of B3.ld), _, 1, rfl, rfl, ?_⟩
    have e : (((ds ++ [V.ref t]).length : Nat) : Int) - 1 = (ds.length : Int) := by rw [List.length_append]; show ((ds.length + 1 : Nat) : Int) - 1 = _; omega
    show Q (V.int ((((ds ++ [V.ref t]).length : Nat) : Int) - 1)) _
    rw [e]
    refine kN hk _ t l ((e1.trans e2).nil.mut (by simp) fun xs z => by rw [B.ob] at z; cases z) ht hl1 ?_ B3
    rw [upd_ne (ne_of_none B.ob ht).symm]
    exact e2.keep _ _ upd_same (by simp)
end

end K15
namespace K15
open PySem PySem.Spec PyProof.Rows L2 He Tp ClX LiI

section
variable {P : Program} {w : World} {K : PySem.W.Frag} {mg : Str → Option Value} {base : Heap}
theorem ok_sort (T : Txt K mg) : Df P w K mg base CX0 1 "_law_sort" ["_law_model_here", "_law_garment"] spSort := by
  refine Df.mk' T.g_law_sort T.f_law_sort (fun _ _ _ _ _ _ us hl => match us, hl with | [_, _], _ => rfl) fun fd F => F.ok sc__law_sort (fun vs H Q E h => ?_) (fun cdv A outer s H vs Q E hr h => ?_)
  · obtain ⟨a, k, t, p, c, d, fs, x, y, rfl, _⟩ := h
    rfl
  · obtain ⟨a, k, t, p, c, d, fs, x, y, rfl, M, cn, c8, hm, q⟩ := h
    have nd := sc__law_sort.nd
    refine ⟨_, PSs.nox
   (pss_one (ps_ret (pe_ix ix_list (pe_lc (own := [("_law_row", 2)]) (g := gName 2) (by rfl) nd (pi_list (pe_ix ix_list (pv 0) pe_int (fun _ _ => rfl))) (blkOk_by (own := [("_law_row", 2)]) (N := n__law_sort) (sc := defScope s__law_sort) (by decide +kernel)) (fun _ _ _ _ _ => pg_name (i := 2) nd rfl (by first | exact Or.inl rfl | exact Or.inr rfl)) (fun _ _ _ _ _ => (pts_one (pt_cmpR op_eq (pe_ix (show IxR _ (rIxT K) from ix_tup) (pv 2) pe_int (fun _ _ => rfl)) (pv 1) (nomark _)))) (fun _ _ _ _ _ => (pe_ix (show IxR _ (rIxT K) from ix_tup) (pv 2) pe_int (fun _ _ => rfl)))) pe_int (fun _ _ => rfl)))), ?_⟩
    refine ret_ex (op_ex ?_)
    refine rd_sel (l := c) (x := x) (by show 2 < 3; decide) (val_ixL (val_var rfl) val_c (SqL.of M.M) rfl) M.r3 (by omega) (fun _ _ => val_var rfl) fun D H' hD e hd => ?_
    rw [selL_one cn hm] at hd
    exact ⟨D, _, 0, _, rfl, rfl, SqL.of hd, rfl, q H' e⟩
end

end K15
namespace K15
open PySem PySem.Spec PyProof.Rows L2 He Tp ClX LiI

section
variable {P : Program} {w : World} {K : PySem.W.Frag} {mg : Str → Option Value} {base : Heap}
theorem ok_grip (T : Txt K mg) : Df P w K mg base CX0 2 "_law_grip" ["_law_model_here", "_law_garment"] spGrip := by
  have D__law_sort := ok_sort (P := P) (w := w) (base := base) T
  refine Df.mk' T.g_law_grip T.f_law_grip (fun _ _ _ _ _ _ us hl => match us, hl with | [_, _], _ => rfl) fun fd F => F.ok sc__law_grip (fun vs H Q E h => ?_) (fun cdv A outer s H vs Q E hr h => ?_)
  · obtain ⟨a, k, t, p, c, d, fs, x, y, z, rfl, _⟩ := h
    rfl
  · obtain ⟨a, k, t, p, c, d, fs, x, y, z, rfl, M, cn, c8, kn, k8, hm, hk, q⟩ := h
    have nd := sc__law_grip.nd
    have hr__law_sort := hr
    refine ⟨_, PSs.nox
   (pss_cons (ps_set (i := 2) nd rfl (by first | exact Or.inl rfl | exact Or.inr rfl) (pe_cd D__law_sort hr__law_sort (by rfl) pass0 (pa_cons (pv 0) (pa_cons (pv 1) pa_nil))))
   (pss_one (ps_ret (pe_ix ix_list (pe_lc (own := [("_law_row", 3)]) (g := gName 3) (by rfl) nd (pi_list (pe_ix ix_list (pv 0) pe_int (fun _ _ => rfl))) (blkOk_by (own := [("_law_row", 3)]) (N := n__law_grip) (sc := defScope s__law_grip) (by decide +kernel)) (fun _ _ _ _ _ => pg_name (i := 3) nd rfl (by first | exact Or.inl rfl | exact Or.inr rfl)) (fun _ _ _ _ _ => (pts_one (pt_cmpR op_eq (pe_ix (show IxR _ (rIxT K) from ix_tup) (pv 3) pe_int (fun _ _ => rfl)) (pv 2) (nomark _)))) (fun _ _ _ _ _ => (pe_ix (show IxR _ (rIxT K) from ix_tup) (pv 3) pe_int (fun _ _ => rfl)))) pe_int (fun _ _ => rfl))))), ?_⟩
    refine ⟨_, rfl, _, rfl, a, k, t, p, c, d, fs, x, y, rfl, M, cn, c8, hm, fun H1 e1 => ?_⟩
    have M1 := M.ext e1 fun _ _ => by simp
    refine gset ?_
    dsimp only
    refine ret_ex (op_ex ?_)
    refine rd_sel (l := k) (x := y) (by show 3 < 4; decide) (val_ixL (val_var rfl) val_c (SqL.of M1.M) rfl) M1.r0 (by omega) (fun _ _ => val_var rfl) fun D H' hD e hd => ?_
    rw [selL_one kn hk] at hd
    exact ⟨D, _, 0, _, rfl, rfl, SqL.of hd, rfl, q H' (e1.trans e)⟩
end

end K15
namespace K15
open PySem PySem.Spec PyProof.Rows L2 He Tp ClX LiI

section
variable {P : Program} {w : World} {K : PySem.W.Frag} {mg : Str → Option Value} {base : Heap}
theorem ok_before (T : Txt K mg) : Df P w K mg base CX0 1 "_law_before" ["_law_model_here", "_law_i"] spBefore := by
  refine Df.mk' T.g_law_before T.f_law_before (fun _ _ _ _ _ _ us hl => match us, hl with | [_, _], _ => rfl) fun fd F => F.ok sc__law_before (fun vs H Q E h => ?_) (fun cdv A outer s H vs Q E hr h => ?_)
  · obtain ⟨a, k, t, p, c, d, fs, i, qq, rfl, _⟩ := h
    rfl
  · obtain ⟨a, k, t, p, c, d, fs, i, qq, rfl, M, hd, hi, q⟩ := h
    have nd := sc__law_before.nd
    refine ⟨_, PSs.nox
   (pss_cons (ps_for PassesOwn.never rfl (pi_range1 (by rfl) T.brange (pa_cons (pv 1) pa_nil)) (pg_name (i := 2) nd rfl (by first | exact Or.inl rfl | exact Or.inr rfl))
   (pss_one (ps_if (pt_cmpR op_eq (pe_ix ix_tup (pe_ix ix_list (pe_ix ix_list (pv 0) pe_int (fun _ _ => rfl)) (pe_op op_sub (pe_op op_sub (pv 1) pe_int) (pv 2)) (fun _ _ => rfl)) pe_int (fun _ _ => rfl)) (pe_ix ix_tup (pe_ix ix_list (pe_ix ix_list (pv 0) pe_int (fun _ _ => rfl)) (pv 1) (fun _ _ => rfl)) pe_int (fun _ _ => rfl)) (nomark _)) (pss_one (ps_ret (pe_op op_sub (pe_op op_sub (pv 1) pe_int) (pv 2)))) pss_nil)))
   (pss_one (ps_ret pe_non))), ?_⟩
    have hil := (List.getElem?_eq_some_iff.mp hi).1
    obtain ⟨as, ha, hp⟩ := M.r4
    have hal := paired_len hp
    have at_ : ∀ {m : Nat} {z : Str × Str}, d[m]? = some z → ∃ u, atI (as.map V.ref) (m : Int) = some (.ref u) ∧ H u = some (.tup [.str z.1, .str z.2]) := fun {m z} hm => by
      have hml := (List.getElem?_eq_some_iff.mp hm).1
      obtain ⟨z', hz', hT⟩ := paired_at hp (List.getElem?_eq_getElem (by omega : m < as.length))
      rw [hm] at hz'
      cases hz'
      exact ⟨_, atI_nat (by rw [List.getElem?_map, List.getElem?_eq_getElem (by omega : m < as.length)]; rfl), hT⟩
    refine ⟨_, rfl, (i : Int), rfl, by omega, by omega, for_range (n := (i : Int).toNat) (fun j σ' H' => H' = H ∧ j ≤ i ∧ (∃ x2, σ' = [some (.ref a.M), some (.int (i : Int)), x2]) ∧ prevD d qq.1 i = prevD d qq.1 (i - j)) ⟨rfl, Nat.zero_le _, ⟨none, rfl⟩, rfl⟩ ?_ ?_⟩
    · rintro j σ' H' hj ⟨rfl, hji, ⟨x2, rfl⟩, he⟩
      have hj' : j < i := by omega
      obtain ⟨m, hm⟩ : ∃ m, i - j = m + 1 := ⟨i - j - 1, by omega⟩
      have hm2 : i - (j + 1) = m := by omega
      have hmi : ((i : Int) - 1) - (0 + (j : Int)) = (m : Int) := by omega
      obtain ⟨z, hz⟩ : ∃ z, d[m]? = some z := ⟨_, List.getElem?_eq_getElem (by omega)⟩
      obtain ⟨u, hu, hT⟩ := at_ hz
      obtain ⟨u2, hu2, hT2⟩ := at_ hi
      have hpd : prevD d qq.1 (m + 1) = if z.1 = qq.1 then some m else prevD d qq.1 m := by
        show (if (d[m]?.map (·.1)) = some qq.1 then _ else _) = _
        rw [hz]
        show (if some z.1 = some qq.1 then _ else _) = _
        by_cases h : z.1 = qq.1
        · rw [if_pos h, if_pos (by rw [h])]
        · rw [if_neg h, if_neg (fun e => h (Option.some.inj e))]
      rw [hm, hpd] at he
      refine ⟨_, rfl, a.M, _, 4, .ref a.m4, rfl, rfl, SqL.of M.M, rfl, _, rfl, _, 1, rfl, rfl, _, rfl, _, _, rfl, rfl, _, _, _, _, rfl, rfl, SqL.of ha, (by rw [hmi]; exact hu), u, _, 0, _, rfl, rfl, .inl (.inl hT), rfl, ?_⟩
      refine ⟨_, rfl, a.M, _, 4, .ref a.m4, rfl, rfl, SqL.of M.M, rfl, _, rfl, _, _, _, _, rfl, rfl, SqL.of ha, hu2, u2, _, 0, _, rfl, rfl, .inl (.inl hT2), rfl, rfl, _, rfl, ?_⟩
      refine ifd (fun h => ?_) (fun h => ?_)
      · have h' : z.1 = qq.1 := by injection h
        rw [if_pos h'] at he
        refine ⟨_, rfl, _, 1, rfl, rfl, _, rfl, _, _, rfl, rfl, ?_⟩
        rw [he] at q
        show Q (V.int (((i : Int) - 1) - (0 + (j : Int)))) H'
        rw [hmi]
        exact q
      · have h' : ¬ z.1 = qq.1 := fun e => h (by rw [e])
        rw [if_neg h'] at he
        exact ⟨rfl, by omega, ⟨_, rfl⟩, by rw [he, hm2]⟩
    · rintro σ' H' ⟨rfl, _, ⟨x2, rfl⟩, he⟩
      have e0 : i - (i : Int).toNat = 0 := by omega
      rw [e0] at he
      rw [he] at q
      exact q
end

end K15
namespace K15
open PySem PySem.Spec PyProof.Rows L2 He Tp ClX LiI

section
variable {P : Program} {w : World} {K : PySem.W.Frag} {mg : Str → Option Value} {base : Heap}
theorem ok_leaves (T : Txt K mg) : Df P w K mg base CX0 3 "_law_leaves" ["_law_model_here", "_law_i"] spLeaves := by
  have D__law_before := ok_before (P := P) (w := w) (base := base) T
  have D__law_grip := ok_grip (P := P) (w := w) (base := base) T
  refine Df.mk' T.g_law_leaves T.f_law_leaves (fun _ _ _ _ _ _ us hl => match us, hl with | [_, _], _ => rfl) fun fd F => F.ok sc__law_leaves (fun vs H Q E h => ?_) (fun cdv A outer s H vs Q E hr h => ?_)
  · obtain ⟨a, k, t, p, c, d, fs, i, rfl, _⟩ := h
    rfl
  · obtain ⟨a, k, t, p, c, d, fs, i, rfl, M, G, hi, q⟩ := h
    have nd := sc__law_leaves.nd
    have hr__law_before := hr.mono (show 1 ≤ 2 by decide)
    have hr__law_grip := hr
    refine ⟨_, PSs.nox
   (pss_cons (ps_set (i := 2) nd rfl (by first | exact Or.inl rfl | exact Or.inr rfl) (pe_cd D__law_before hr__law_before (by rfl) pass0 (pa_cons (pv 0) (pa_cons (pv 1) pa_nil))))
   (pss_cons (ps_if (PW.pt (pw_or (pt_cmpR op_isN (pv 2) pe_non (nomark _)) (pw_or1 (pt_cmpR op_eq (pe_ix ix_tup (pe_ix ix_list (pe_ix ix_list (pv 0) pe_int (fun _ _ => rfl)) (pv 2) (fun _ _ => rfl)) pe_int (fun _ _ => rfl)) (pe_ix ix_tup (pe_ix ix_list (pe_ix ix_list (pv 0) pe_int (fun _ _ => rfl)) (pv 1) (fun _ _ => rfl)) pe_int (fun _ _ => rfl)) (nomark _))))) (pss_one (ps_ret pe_bl)) pss_nil)
   (pss_one (ps_ret (pe_cmpR op_ne (pe_cd D__law_grip hr__law_grip (by rfl) pass0 (pa_cons (pv 0) (pa_cons (pe_ix ix_tup (pe_ix ix_list (pe_ix ix_list (pv 0) pe_int (fun _ _ => rfl)) (pv 1) (fun _ _ => rfl)) pe_int (fun _ _ => rfl)) pa_nil))) pe_str (nomark _)))))), ?_⟩
    obtain ⟨qq, hq⟩ : ∃ qq, d[i]? = some qq := ⟨_, List.getElem?_eq_getElem hi⟩
    obtain ⟨as, ha, hp⟩ := M.r4
    have hal := paired_len hp
    have at_ : ∀ {m : Nat} {z : Str × Str}, d[m]? = some z → ∃ u, atI (as.map V.ref) (m : Int) = some (.ref u) ∧ H u = some (.tup [.str z.1, .str z.2]) := fun {m z} hm => by
      have hml := (List.getElem?_eq_some_iff.mp hm).1
      obtain ⟨z', hz', hT⟩ := paired_at hp (List.getElem?_eq_getElem (by omega : m < as.length))
      rw [hm] at hz'
      cases hz'
      exact ⟨_, atI_nat (by rw [List.getElem?_map, List.getElem?_eq_getElem (by omega : m < as.length)]; rfl), hT⟩
    refine ⟨_, rfl, _, rfl, a, k, t, p, c, d, fs, i, qq, rfl, M, G.dl, hq, ?_⟩
    have hL : leaveD k c d i = (match prevD d qq.1 i with | some j => (match d[j]? with | some r => !decide (r.2 = qq.2) && !decide (holdOf k c qq.1 = "fast") | none => false) | none => false) := by
      unfold leaveD
      rw [hq] <;> rfl
    rw [hL] at q
    cases hpv : prevD d qq.1 i with
    | none =>
      rw [hpv] at q
      exact ⟨_, rfl, rfl, _, rfl, iteT (iteT (q H Ext.refl))⟩
    | some j =>
      obtain ⟨hj, r, hr2, _⟩ := prevD_lt hpv
      rw [hpv] at q
      dsimp only at q
      rw [hr2] at q
      dsimp only at q
      obtain ⟨u1, b1, T1⟩ := at_ hr2
      obtain ⟨u2, b2, T2⟩ := at_ hq
      refine ⟨_, rfl, rfl, _, rfl, ?_⟩
      refine ifd (fun h => by cases h) (fun _ => ?_)
      refine ⟨_, rfl, a.M, _, 4, .ref a.m4, rfl, rfl, SqL.of M.M, rfl, _, rfl, _, _, _, _, rfl, rfl, SqL.of ha, b1, u1, _, 1, _, rfl, rfl, .inl (.inl T1), rfl, ?_⟩
      refine ⟨_, rfl, a.M, _, 4, .ref a.m4, rfl, rfl, SqL.of M.M, rfl, _, rfl, _, _, _, _, rfl, rfl, SqL.of ha, b2, u2, _, 1, _, rfl, rfl, .inl (.inl T2), rfl, rfl, _, rfl, ?_⟩
      refine ifd (fun h => ?_) (fun h => ?_)
      · have h' : r.2 = qq.2 := by injection h
        rw [decide_eq_true h'] at q
        exact q H Ext.refl
      · have h' : ¬ r.2 = qq.2 := fun e => h (by rw [e])
        rw [decide_eq_false h'] at q
        obtain ⟨y, z, g1, g2, g3⟩ := G.hold (List.mem_of_getElem? hq)
        refine ⟨_, rfl, _, rfl, a.M, _, 4, .ref a.m4, rfl, rfl, SqL.of M.M, rfl, _, rfl, _, _, _, _, rfl, rfl, SqL.of ha, b2, u2, _, 0, _, rfl, rfl, .inl (.inl T2), rfl, ?_⟩
        refine ⟨a, k, t, p, c, d, fs, qq.1, y, z, rfl, M, G.cn, G.c8, G.kn, G.k8, g1, g2, fun H1 e1 => ⟨rfl, ?_⟩⟩
        have q1 := q H1 e1
        rw [g3] at q1
        have e : decide (V.str z = V.str "fast") = decide (z = "fast") := by
          by_cases hz : z = "fast"
          · rw [decide_eq_true hz, decide_eq_true (by rw [hz])]
          · rw [decide_eq_false hz, decide_eq_false (fun e => hz (by injection e))]
        show Q (V.bl (!decide (V.str z = V.str "fast"))) H1
        rw [e]
        exact q1
end

end K15
namespace K15
open PySem PySem.Spec PyProof.Rows L2 He Tp ClX LiI

section
variable {P : Program} {w : World} {K : PySem.W.Frag} {mg : Str → Option Value} {base : Heap}
theorem ok_amts (T : Txt K mg) : Df P w K mg base CX0 4 "_law_amounts" ["_law_model_here"] spAmts := by
  have D__law_leaves := ok_leaves (P := P) (w := w) (base := base) T
  refine Df.mk' T.g_law_amounts T.f_law_amounts (fun _ _ _ _ _ _ us hl => match us, hl with | [_], _ => rfl) fun fd F => F.ok sc__law_amounts (fun vs H Q E h => ?_) (fun cdv A outer s H vs Q E hr h => ?_)
  · obtain ⟨a, k, t, p, c, d, fs, rfl, _⟩ := h
    rfl
  · obtain ⟨a, k, t, p, c, d, fs, rfl, M, G, q⟩ := h
    have nd := sc__law_amounts.nd
    have hr__law_leaves := hr
    refine ⟨_, PSs.nox
   (pss_cons (ps_set (i := 1) nd rfl (by first | exact Or.inl rfl | exact Or.inr rfl) (pe_lst pa_nil))
   (pss_cons (ps_for PassesOwn.never rfl (pi_range1 (by rfl) T.brange (pa_cons (pe_callB call_len_seq (by rfl) T.blen PySem.boot_len (pa_cons (pe_ix ix_list (pv 0) pe_int (fun _ _ => rfl)) pa_nil)) pa_nil)) (pg_name (i := 2) nd rfl (by first | exact Or.inl rfl | exact Or.inr rfl))
   (pss_cons (ps_expr (pe_bm PySem.F.plainAttrs_list PySem.F.slot_list_append PySem.F.type_list_append mt_append (pv 1) (pa_cons (pe_tup (pa_cons pe_str (pa_cons (pv 2) pa_nil))) pa_nil)))
   (pss_one (ps_if (pt_val (pe_cd D__law_leaves hr__law_leaves (by rfl) pass0 (pa_cons (pv 0) (pa_cons (pv 2) pa_nil)))) (pss_one (ps_expr (pe_bm PySem.F.plainAttrs_list PySem.F.slot_list_append PySem.F.type_list_append mt_append (pv 1) (pa_cons (pe_tup (pa_cons pe_str (pa_cons (pv 2) pa_nil))) pa_nil)))) pss_nil))))
   (pss_one (ps_ret (pv 1))))), ?_⟩
    refine ⟨by show 0 ≤ sizeLine; decide, fun l hl => ?_⟩
    have e0 := Ext.new (ms := []) (o := .lst []) hl
    have M0 := M.ext e0 fun _ _ => by simp
    obtain ⟨xs4, hx4, hx4l⟩ := row_len M0.r4
    have hdl := G.dl
    refine ⟨_, rfl, a.M, _, 4, .ref a.m4, rfl, rfl, SqL.of M0.M, rfl, a.m4, xs4, rfl, .inl (SqL.of hx4), ?_⟩
    refine ⟨(xs4.length : Int), rfl, by omega, by omega, for_range (n := (xs4.length : Int).toNat) (fun i σ' H' => (∃ x2, σ' = [some (.ref a.M), some (.ref l), x2]) ∧ Ext [] H H' ∧ AmtAt H' l (amtD k c d i)) ⟨⟨none, rfl⟩, e0, [], upd_same, .nil⟩ ?_ ?_⟩
    · rintro i σ' H' hi ⟨⟨x2, rfl⟩, e, am⟩
      have hid : i < d.length := by omega
      obtain ⟨xs, hxs, hxl⟩ := am.lst
      have hb := amtD_len (k := k) (c := c) (d := d) i
      refine ⟨_, rfl, .inl ⟨rfl, _, SqL.of hxs⟩, _, rfl, by show 2 ≤ sizeLine; decide, fun u hu => ⟨l, xs, _, rfl, rfl, (by rw [upd_ne (ne_of_none hxs hu)]; exact hxs), Evl.sz_lt (by omega), ?_⟩⟩
      have ei : (0 : Int) + (i : Int) = (i : Int) := Int.zero_add _
      rw [ei]
      have am1 := am.push (q := (("take" : Str), i)) hxs hu
      have e1 : Ext [] H (upd (upd H' u (.tup [.str "take", .int (i : Int)])) l (.lst (xs ++ [.ref u]))) := (e.fresh (e.none hu (by simp))).fresh hl
      generalize upd (upd H' u (.tup [.str "take", .int (i : Int)])) l (.lst (xs ++ [.ref u])) = H1 at am1 e1
      refine ⟨_, rfl, _, rfl, a, k, t, p, c, d, fs, i, rfl, M.ext e1 fun _ _ => by simp, G, hid, fun H2 e2 => ⟨_, rfl, ?_⟩⟩
      have am2 := am1.ext e2 (by simp)
      have hamt : amtD k c d (i + 1) = (amtD k c d i ++ [(("take" : Str), i)]) ++ (if leaveD k c d i = true then [(("leave" : Str), i)] else []) := rfl
      refine ifb (fun h => ?_) (fun h => ?_)
      · rw [if_pos h] at hamt
        obtain ⟨ys, hys, hyl⟩ := am2.lst
        rw [List.length_append] at hyl
        have hyl2 : ys.length = (amtD k c d i).length + 1 := hyl
        refine ⟨_, rfl, .inl ⟨rfl, _, SqL.of hys⟩, _, rfl, by show 2 ≤ sizeLine; decide, fun v hv => ⟨l, ys, _, rfl, rfl, (by rw [upd_ne (ne_of_none hys hv)]; exact hys), Evl.sz_lt (by omega), ⟨_, rfl⟩, ((e1.trans e2).fresh ((e1.trans e2).none hv (by simp))).fresh hl, ?_⟩⟩
        rw [hamt]
        exact am2.push (q := (("leave" : Str), i)) hys hv
      · rw [if_neg (by rw [h]; decide), List.append_nil] at hamt
        refine ⟨⟨_, rfl⟩, e1.trans e2, ?_⟩
        rw [hamt]
        exact am2
    · rintro σ' H' ⟨⟨x2, rfl⟩, e, am⟩
      have en : (xs4.length : Int).toNat = d.length := by omega
      rw [en] at am
      exact ⟨_, rfl, q l H' hl e am⟩
end

end K15
namespace K15
open PySem PySem.Spec PyProof.Rows L2 He Tp ClX LiI

section
variable {P : Program} {w : World} {K : PySem.W.Frag} {mg : Str → Option Value} {base : Heap}
theorem ok_previous (T : Txt K mg) {fd : FuncData} (F : FnM K "Book" "previous" "Book.previous" s_Book_previous [] fd) : FnOk P w K mg base (L2.CX P w) 4 (ma K (cB K) "previous") fd ["self", "number"] (spPrevious K (cB K)) := by
  have D_check_between := ok_check_between (P := P) (w := w) (base := base) T
  refine F.ok sc_Book_previous (fun vs H Q E h => ?_) (fun cdv A outer s H vs Q E hr h => ?_)
  · obtain ⟨p, v, i, A, ks, ts, ps, cs, ds, fs, d, rfl, _⟩ := h
    rfl
  · obtain ⟨p, v, i, A, ks, ts, ps, cs, ds, fs, d, rfl, hv, B, D, hd, kX, kY⟩ := h
    have nd := sc_Book_previous.nd
    have hr_check_between := hr
    have hu1 := hu1_of hr
    refine ⟨_, (pss_cons (ps_expr (pe_cd D_check_between hr_check_between (by rfl) (passes_call (takes_of rfl rfl rfl rfl) (fun _ _ _ _ z => z)) (pa_cons (pv 1) (pa_cons pe_int (pa_cons (pe_op op_sub (pe_callB call_len_seq (by rfl) T.blen PySem.boot_len (pa_cons (pe_fld (pv 0) rfl) pa_nil)) pe_int) pa_nil)))))
   (pss_cons (ps_asg (pe_ix ix_list (pe_fld (pv 0) rfl) (pv 1) (fun _ _ => rfl)) (pg_tup (by rfl) (pgs_cons (pg_name (i := 2) nd rfl (by first | exact Or.inl rfl | exact Or.inr rfl)) (pgs_cons (pg_name (i := 3) nd rfl (by first | exact Or.inl rfl | exact Or.inr rfl)) pgs_nil))))
   (pss_one (ps_ret (pe_callBK (ck_maxDf rfl hu1) (by rfl) T.bmax (by decide +kernel) (pa_cons (pe_lc (own := [("dip", 4)]) (g := gName 4) (by rfl) nd (pi_range1 (by rfl) T.brange (pa_cons (pv 1) pa_nil)) (blkOk_by (own := [("dip", 4)]) (N := n_Book_previous) (sc := defScope s_Book_previous) (by decide +kernel)) (fun _ _ _ _ _ => pg_name (i := 4) nd rfl (by first | exact Or.inl rfl | exact Or.inr rfl)) (fun _ _ _ _ _ => (pts_one (pt_cmpR op_eq (pe_ix (show IxR _ (rIxT K) from ix_tup) (pe_ix (show IxR _ (rIxL K) from ix_list) (show PE _ _ (tFld K _ _) from pe_fld (pv 0) rfl) (pv 4) (fun _ _ => rfl)) pe_int (fun _ _ => rfl)) (pv 2) (nomark _)))) (fun _ _ _ _ _ => (pv 4))) pa_nil) (pk_cons pe_non pk_nil)))))), ?_⟩
    have hdl := D.len
    refine ⟨_, rfl, _, rfl, p, cB K, A.dx, _, _, rfl, B.ob, T.cl, T.n_dips, fsB_dips, A.ld, ds, rfl, .inl (SqL.of B.ld), _, 1, rfl, rfl, ?_⟩
    refine ⟨v, 0, (ds.length : Int) - 1, rfl, hv, fun hb => ?_, fun hb => kX (by rw [← hdl]; exact hb)⟩
    obtain ⟨j, rfl, h0, h1⟩ : ∃ j, v = .int j ∧ 0 ≤ j ∧ j ≤ (ds.length : Int) - 1 := by
      cases v with
      | int j => exact ⟨j, rfl, hb⟩
      | _ => exact hb.elim
    obtain ⟨n, rfl⟩ := Int.eq_ofNat_of_zero_le h0
    have hn : n < d.length := by omega
    obtain ⟨q, hq⟩ : ∃ q, d[n]? = some q := ⟨_, List.getElem?_eq_getElem hn⟩
    obtain ⟨u, hu, hT⟩ := D.get hq
    refine ⟨_, rfl, p, cB K, A.dx, _, _, rfl, B.ob, T.cl, T.n_dips, fsB_dips, _, rfl, _, _, _, _, rfl, rfl, SqL.of B.ld, hu, ?_⟩
    refine ⟨u, _, rfl, .inl (.inl hT), rfl, _, _, rfl, _, _, rfl, rfl, ?_⟩
    refine ⟨_, rfl, (n : Int), rfl, by omega, by omega, fun l hl => lc_range (lo := 0) (n := (n : Int).toNat) (fun i H' => H' = upd H l (.lst ((hitsD d q.1 i).map V.int))) rfl ?_ ?_⟩
    · rintro m H' hm rfl
      have hm' : m < n := by omega
      refine ⟨wipe1, ?_⟩
      obtain ⟨r, hr2⟩ : ∃ r, d[m]? = some r := ⟨_, List.getElem?_eq_getElem (by omega)⟩
      obtain ⟨u2, hu2, hT2⟩ := D.get hr2
      have e1 := Ext.new (ms := []) (o := .lst ((hitsD d q.1 m).map V.int)) hl
      have B1 := B.ext e1 (fun _ _ => by simp)
      have em : (0 : Int) + (m : Int) = (m : Int) := Int.zero_add _
      have e2 : hitsD d q.1 (m + 1) = if r.1 = q.1 then hitsD d q.1 m ++ [(m : Int)] else hitsD d q.1 m := by
        show (if (d[m]?.map (·.1)) = some q.1 then _ else _) = _
        rw [hr2]
        show (if some r.1 = some q.1 then _ else _) = _
        by_cases h : r.1 = q.1
        · rw [if_pos h, if_pos (by rw [h])]
        · rw [if_neg h, if_neg (fun e => h (Option.some.inj e))]
      refine ⟨_, rfl, p, cB K, A.dx, _, _, rfl, B1.ob, T.cl, T.n_dips, fsB_dips, _, rfl, _, _, _, _, rfl, rfl, SqL.of B1.ld, (by rw [em]; exact hu2), u2, _, 0, _, rfl, rfl, .inl (.inl (e1.tups _ _ hT2)), rfl, _, rfl, rfl, _, rfl, ?_⟩
      refine ifd (fun h => ?_) (fun h => ?_)
      · have h' : r.1 = q.1 := by injection h
        rw [if_pos h'] at e2
        refine ⟨_, rfl, _, upd_same, ?_, ?_⟩
        · rw [List.length_map]
          have := hitsD_len (d := d) (x := q.1) m
          exact Evl.sz_lt (by omega)
        · rw [upd_upd, e2, List.map_append, em]
          rfl
      · have h' : ¬ r.1 = q.1 := fun e => h (by rw [e])
        rw [if_neg h'] at e2
        show _ = _
        rw [e2]
    · rintro H' rfl
      have en : (n : Int).toNat = n := by simp
      rw [en]
      obtain ⟨h1, h2⟩ := hitsD_max (d := d) (x := q.1) n
      refine ⟨l, _, .non, rfl, rfl, SqL.of upd_same, fun h => ?_, fun m hm hx => ?_⟩
      · have := kY n q rfl hq (upd H l (.lst ((hitsD d q.1 n).map V.int))) (Ext.new hl)
        rw [h1 h] at this
        exact this
      · have := kY n q rfl hq (upd H l (.lst ((hitsD d q.1 n).map V.int))) (Ext.new hl)
        rw [h2 m hm hx] at this
        exact this
end

end K15
namespace K15
open PySem PySem.Spec PyProof.Rows L2 He Tp ClX LiI

section
variable {P : Program} {w : World} {K : PySem.W.Frag} {mg : Str → Option Value} {base : Heap}
theorem valV_tv {z y : Str} : ∀ {l : List (Str × Str)}, (l.map (·.1)).Nodup → (z, y) ∈ l → valV (kvB (l.map tv)) (Sum.inr z : Key) = some (.str y)
  | [], _, h => by cases h
  | q :: l, nd, h => by
    rw [List.map_cons, List.nodup_cons] at nd
    rcases List.mem_cons.mp h with rfl | h2
    · exact valV_pos (p := (Sum.inr z, V.str y)) rfl
    · have hne : ¬ q.1 = z := fun e => nd.1 (e ▸ List.mem_map.mpr ⟨(z, y), h2, rfl⟩)
      exact (valV_neg (p := (Sum.inr q.1, V.str q.2)) (fun x => hne (Sum.inr.inj x))).trans (valV_tv nd.2 h2)
theorem ok_has_leave (T : Txt K mg) {fd : FuncData} (F : FnM K "Book" "_has_leave" "Book._has_leave" s_Book__has_leave [] fd) : FnOk P w K mg base (L2.CX P w) 5 (ma K (cB K) "_has_leave") fd ["self", "number"] (spHasLeave (cB K)) := by
  obtain ⟨fv, fv_⟩ := T.fprevious
  have Fv := ok_previous (P := P) (w := w) (base := base) T fv_
  have bv : Binds K fv ["self", "number"] [] := fv_.bindsN (fun _ _ _ _ _ _ us hl => match us, hl with | [_, _], _ => rfl)
  refine F.ok sc_Book__has_leave (fun vs H Q E h => ?_) (fun cdv A outer s H vs Q E hr h => ?_)
  · obtain ⟨p, i, A, k, c, ts, ps, ds, fs, d, n, rfl, _⟩ := h
    rfl
  · obtain ⟨p, i, A, k, c, ts, ps, ds, fs, d, n, rfl, B, D, G, hn, q⟩ := h
    have nd := sc_Book__has_leave.nd
    have hrv := hr
    have hu := hu_of hr
    refine ⟨_, (pss_cons (ps_asg (pe_ix ix_list (pe_fld (pv 0) rfl) (pv 1) (fun _ _ => rfl)) (pg_tup (by rfl) (pgs_cons (pg_name (i := 2) nd rfl (by first | exact Or.inl rfl | exact Or.inr rfl)) (pgs_cons (pg_name (i := 3) nd rfl (by first | exact Or.inl rfl | exact Or.inr rfl)) pgs_nil))))
   (pss_cons (ps_set (i := 4) nd rfl (by first | exact Or.inl rfl | exact Or.inr rfl) (pe_meth (pv 0) T.cl T.mprevious Fv hrv bv .nil (passes_call (takes_of rfl rfl rfl rfl) (fun _ _ _ _ z => z)) (pa_cons (pv 1) pa_nil)))
   (pss_one (ps_ret (pe_and (pe_cmpR op_notN (pv 4) pe_non (nomark _)) (pe_and (pe_cmpR op_ne (pe_ix ix_tup (pe_ix ix_list (pe_fld (pv 0) rfl) (pv 4) (fun _ _ => rfl)) pe_int (fun _ _ => rfl)) (pv 3) (nomark _)) (pe_one (pe_cmpR op_ne (pe_dget hu (pe_fld (pv 0) rfl) (pe_dget hu (pe_fld (pv 0) rfl) (pv 2) (fun _ _ => rfl)) (fun _ _ => rfl)) pe_str (nomark _))))))))), ?_⟩
    obtain ⟨qq, hq⟩ : ∃ qq, d[n]? = some qq := ⟨_, List.getElem?_eq_getElem hn⟩
    obtain ⟨u, hu1, hT⟩ := D.get hq
    refine ⟨_, rfl, p, cB K, A.dx, _, _, rfl, B.ob, T.cl, T.n_dips, fsB_dips, _, rfl, _, _, _, _, rfl, rfl, SqL.of B.ld, hu1, ?_⟩
    refine ⟨u, _, rfl, .inl (.inl hT), rfl, _, _, rfl, _, _, rfl, rfl, ?_⟩
    refine ⟨_, rfl, p, A.dx, _, rfl, B.ob, fsB_no2 (.inl rfl), _, rfl, ?_⟩
    refine ⟨p, .int (n : Int), i, A, _, _, _, _, _, _, d, rfl, .int _, B, D, G.dl, fun hb => absurd (show (0 : Int) ≤ (n : Int) ∧ (n : Int) ≤ (d.length : Int) - 1 by omega) hb, fun n' q' en hq' H1 e1 => ?_⟩
    have en' : (n : Int) = (n' : Int) := by injection en
    have en2 : n' = n := by omega
    subst en2
    rw [hq] at hq'
    cases hq'
    have hL : leaveD k c d n' = (match prevD d qq.1 n' with | some j => (match d[j]? with | some r => !decide (r.2 = qq.2) && !decide (holdOf k c qq.1 = "fast") | none => false) | none => false) := by
      unfold leaveD
      rw [hq] <;> rfl
    rw [hL] at q
    refine gset ?_
    dsimp only
    have B1 := B.ext e1 (fun _ _ => by simp)
    have D1 := D.ext e1
    cases hpv : prevD d qq.1 n' with
    | none =>
      rw [hpv] at q
      exact ⟨_, rfl, rfl, _, rfl, iteF (q H1 e1)⟩
    | some j =>
      obtain ⟨hj, r, hr2, _⟩ := prevD_lt hpv
      rw [hpv] at q
      dsimp only at q
      rw [hr2] at q
      dsimp only at q
      obtain ⟨u1, b1, T1⟩ := D1.get hr2
      refine ⟨_, rfl, rfl, _, rfl, iteT ?_⟩
      refine ⟨_, rfl, p, cB K, A.dx, _, _, rfl, B1.ob, T.cl, T.n_dips, fsB_dips, _, rfl, _, _, _, _, rfl, rfl, SqL.of B1.ld, b1, u1, _, 1, _, rfl, rfl, .inl (.inl T1), rfl, _, rfl, rfl, _, rfl, ?_⟩
      refine ifb (fun h => ?_) (fun h => ?_)
      · have h' : ¬ r.2 = qq.2 := fun e => by rw [e] at h; simp at h
        rw [decide_eq_false h'] at q
        obtain ⟨y, z, g1, g2, g3⟩ := G.hold (List.mem_of_getElem? hq)
        rw [g3] at q
        refine ⟨_, rfl, p, cB K, A.dx, _, _, rfl, B1.ob, T.cl, T.n_kinds, fsB_kinds, _, rfl, p, cB K, A.dx, _, _, rfl, B1.ob, T.cl, T.n_cloths, fsB_cloths, _, rfl, A.dc, _, rfl, by rw [← valV_tv G.cn g1]; exact DGet.k (k := Sum.inr qq.1) B1.dc, A.dk, _, rfl, by rw [← valV_tv G.kn g2]; exact DGet.k (k := Sum.inr y) B1.dk, rfl, ?_⟩
        have e : decide (V.str z = V.str "fast") = decide (z = "fast") := by
          by_cases hz : z = "fast"
          · rw [decide_eq_true hz, decide_eq_true (by rw [hz])]
          · rw [decide_eq_false hz, decide_eq_false (fun e => hz (by injection e))]
        show Q (V.bl (!decide (V.str z = V.str "fast"))) H1
        rw [e]
        exact q H1 e1
      · have h' : r.2 = qq.2 := by
          have h2 : decide (V.str r.2 = V.str qq.2) = true := by simpa using h
          have h3 := of_decide_eq_true h2
          injection h3
        rw [decide_eq_true h'] at q
        exact q H1 e1
end

end K15
namespace K15
open PySem PySem.Spec PyProof.Rows L2 He Tp ClX LiI

section
variable {P : Program} {w : World} {K : PySem.W.Frag} {mg : Str → Option Value} {base : Heap}
theorem ok_amounts (T : Txt K mg) {fd : FuncData} (F : FnM K "Book" "amounts" "Book.amounts" s_Book_amounts [] fd) : FnOk P w K mg base CX0 6 (ma K (cB K) "amounts") fd ["self"] (spAmounts (cB K)) := by
  obtain ⟨fl, fl_⟩ := T.f_has_leave
  have Fl := ok_has_leave (P := P) (w := w) (base := base) T fl_
  have bl : Binds K fl ["self", "number"] [] := fl_.bindsN (fun _ _ _ _ _ _ us hl => match us, hl with | [_, _], _ => rfl)
  refine F.ok sc_Book_amounts (fun vs H Q E h => ?_) (fun cdv A outer s H vs Q E hr h => ?_)
  · obtain ⟨p, i, A, k, c, ts, ps, ds, fs, d, rfl, _⟩ := h
    rfl
  · obtain ⟨p, i, A, k, c, ts, ps, ds, fs, d, rfl, B, D, G, q⟩ := h
    have nd := sc_Book_amounts.nd
    have hrl := hr
    refine ⟨_, PSs.nox (pss_cons (ps_set (i := 1) nd rfl (by first | exact Or.inl rfl | exact Or.inr rfl) (pe_lst pa_nil))
   (pss_cons (ps_for PassesOwn.never rfl (pi_range1 (by rfl) T.brange (pa_cons (pe_callB call_len_seq (by rfl) T.blen PySem.boot_len (pa_cons (pe_fld (pv 0) rfl) pa_nil)) pa_nil)) (pg_name (i := 2) nd rfl (by first | exact Or.inl rfl | exact Or.inr rfl))
   (pss_cons (ps_expr (pe_bm PySem.F.plainAttrs_list PySem.F.slot_list_append PySem.F.type_list_append mt_append (pv 1) (pa_cons (pe_tup (pa_cons pe_str (pa_cons (pv 2) pa_nil))) pa_nil)))
   (pss_one (ps_if (pt_val (pe_meth (pv 0) T.cl T.m_has_leave Fl hrl bl .nil passL (pa_cons (pv 2) pa_nil))) (pss_one (ps_expr (pe_bm PySem.F.plainAttrs_list PySem.F.slot_list_append PySem.F.type_list_append mt_append (pv 1) (pa_cons (pe_tup (pa_cons pe_str (pa_cons (pv 2) pa_nil))) pa_nil)))) pss_nil))))
   (pss_one (ps_ret (pv 1))))), ?_⟩
    refine ⟨by show 0 ≤ sizeLine; decide, fun l hl => ?_⟩
    have e0 := Ext.new (ms := []) (o := .lst []) hl
    have B0 := B.ext e0 fun _ _ => by simp
    have hdl := D.len
    have hd1 := G.dl
    refine ⟨_, rfl, p, cB K, A.dx, _, _, rfl, B0.ob, T.cl, T.n_dips, fsB_dips, A.ld, ds, rfl, .inl (SqL.of B0.ld), ?_⟩
    refine ⟨(ds.length : Int), rfl, by omega, by omega, for_range (n := (ds.length : Int).toNat) (fun i σ' H' => (∃ x2, σ' = [some (.ref p), some (.ref l), x2]) ∧ Ext [] H H' ∧ AmtAt H' l (amtD k c d i)) ⟨⟨none, rfl⟩, e0, [], upd_same, .nil⟩ ?_ ?_⟩
    · rintro i σ' H' hi ⟨⟨x2, rfl⟩, e, am⟩
      have hid : i < d.length := by omega
      obtain ⟨xs, hxs, hxl⟩ := am.lst
      have hb := amtD_len (k := k) (c := c) (d := d) i
      refine ⟨_, rfl, .inl ⟨rfl, _, SqL.of hxs⟩, _, rfl, by show 2 ≤ sizeLine; decide, fun u hu => ⟨l, xs, _, rfl, rfl, (by rw [upd_ne (ne_of_none hxs hu)]; exact hxs), Evl.sz_lt (by omega), ?_⟩⟩
      have ei : (0 : Int) + (i : Int) = (i : Int) := Int.zero_add _
      rw [ei]
      have am1 := am.push (q := (("take" : Str), i)) hxs hu
      have e1 : Ext [] H (upd (upd H' u (.tup [.str "take", .int (i : Int)])) l (.lst (xs ++ [.ref u]))) := (e.fresh (e.none hu (by simp))).fresh hl
      generalize upd (upd H' u (.tup [.str "take", .int (i : Int)])) l (.lst (xs ++ [.ref u])) = H1 at am1 e1
      have B1 := B.ext e1 fun _ _ => by simp
      refine ⟨_, rfl, p, A.dx, _, rfl, B1.ob, fsB_no2 (.inr (.inl rfl)), _, rfl, p, _, A, k, c, _, _, _, _, d, i, rfl, B1, D.ext e1, G, hid, fun H2 e2 => ⟨_, rfl, ?_⟩⟩
      have am2 := am1.ext e2 (by simp)
      have hamt : amtD k c d (i + 1) = (amtD k c d i ++ [(("take" : Str), i)]) ++ (if leaveD k c d i = true then [(("leave" : Str), i)] else []) := rfl
      refine ifb (fun h => ?_) (fun h => ?_)
      · rw [if_pos h] at hamt
        obtain ⟨ys, hys, hyl⟩ := am2.lst
        rw [List.length_append] at hyl
        have hyl2 : ys.length = (amtD k c d i).length + 1 := hyl
        refine ⟨_, rfl, .inl ⟨rfl, _, SqL.of hys⟩, _, rfl, by show 2 ≤ sizeLine; decide, fun v hv => ⟨l, ys, _, rfl, rfl, (by rw [upd_ne (ne_of_none hys hv)]; exact hys), Evl.sz_lt (by omega), ⟨_, rfl⟩, ((e1.trans e2).fresh ((e1.trans e2).none hv (by simp))).fresh hl, ?_⟩⟩
        rw [hamt]
        exact am2.push (q := (("leave" : Str), i)) hys hv
      · rw [if_neg (by rw [h]; decide), List.append_nil] at hamt
        refine ⟨⟨_, rfl⟩, e1.trans e2, ?_⟩
        rw [hamt]
        exact am2
    · rintro σ' H' ⟨⟨x2, rfl⟩, e, am⟩
      have en : (ds.length : Int).toNat = d.length := by omega
      rw [en] at am
      exact ⟨_, rfl, q l H' hl e am⟩
end

end K15
namespace K15
open PySem PySem.Spec PyProof.Rows L2 He Tp ClX LiI

section
variable {P : Program} {w : World} {K : PySem.W.Frag} {mg : Str → Option Value} {base : Heap}
def spIsAmt (K : PySem.W.Frag) : Sp := fun vs H Q _ => ∃ v d, vs = [v] ∧ Av H v d ∧ Q (.bl (amtB d)) H
theorem ok_is_amount (T : Txt K mg) : Df P w K mg base CX0 2 "is_amount" ["value"] (spIsAmt K) := by
  have D_is_whole := ok_is_whole (P := P) (w := w) (base := base) T
  refine Df.mk' T.gis_amount T.fis_amount (fun _ _ _ _ _ _ us hl => match us, hl with | [_], _ => rfl) fun fd F => F.ok sc_is_amount (fun vs H Q E h => ?_) (fun cdv A outer s H vs Q E hr h => ?_)
  · obtain ⟨v, d, rfl, _⟩ := h
    rfl
  · obtain ⟨v, d, rfl, av, q⟩ := h
    have hu65 := hu65_of hr
    have hr_is_whole := hr
    have p := av.wv.ptv (K := K)
    refine ⟨_, PSs.nox (pss_one (ps_ret (pe_and (pe_callB (call_isi) (by rfl) T.bisinstance (by decide +kernel) (pa_cons (pv 0) (pa_cons (pe_bltn (v := .ty "tuple") (u := .type "tuple") (by rfl) T.btuple (by decide +kernel) rfl) pa_nil))) (pe_and (pe_cmpR op_eq (pe_callB call_len_seq (by rfl) T.blen PySem.boot_len (pa_cons (pv 0) pa_nil)) pe_int (nomark _)) (pe_and (pe_cmpR (op_inT hu65) (pe_ix ix_tup (pv 0) pe_int (fun _ _ => rfl)) (pe_glob (v := .ref (ga K "WORDS")) (by rfl) T.gWORDS rfl) (by rfl)) (pe_and (pe_cd D_is_whole hr_is_whole (by rfl) pass0 (pa_cons (pe_ix ix_tup (pv 0) pe_int (fun _ _ => rfl)) pa_nil)) (pe_one (pe_cmpR op_ge (pe_ix ix_tup (pv 0) pe_int (fun _ _ => rfl)) pe_int (nomark _))))))))), ?_⟩
    refine val_isi (val_var rfl) p.ty (p.kit (.inr (.inr (.inr rfl)))) _ ⟨_, rfl, ?_⟩
    obtain ⟨im, ok, sh, it⟩ := av
    cases im with
    | non => exact iteF q
    | bl b => exact iteF q
    | int i => exact iteF q
    | str z => exact iteF q
    | @tup u xs ds hx hi =>
      refine iteT ?_
      refine ⟨_, rfl, u, xs, rfl, .inr (SqT.of hx), ?_⟩
      have hin : ∀ (x : V) (d : PyData), Im H x d → okD d → atI xs 0 = some x → ∀ R : VK, R (.bl (wordV x)) H → tOp (rInT K) (tOp (rIxT K) (tVar 0) (tC (.int 0))) (tC (.ref (ga K "WORDS"))) (L2.start n_is_amount [V.ref u]) H R := fun x d hd hok hat R hR => by
        refine ⟨_, rfl, u, _, 0, x, rfl, rfl, .inl (.inl hx), hat, d, _, hd.dp, .tup (T.tWORDS H) (.cons (.str _) (.cons (.str _) .nil)), hok.shaped, by decide +kernel, ?_⟩
        rw [words_any hd]
        exact hR
      match xs, ds, hx, hi, ok, q, it, hin with
      | [], [], _, _, _, q, _, _ => exact ⟨rfl, _, rfl, iteF q⟩
      | [_], [_], _, _, _, q, _, _ =>
        rw [amtB_ne (by simp)] at q
        exact ⟨rfl, _, rfl, iteF q⟩
      | _ :: _ :: _ :: r, _ :: _ :: _ :: r', _, _, _, q, _, _ =>
        refine ⟨rfl, _, rfl, ?_⟩
        rw [if_neg (fun h => by
          have h1 := of_decide_eq_true h
          have h2 : (((r.length + 1 + 1 + 1 : Nat) : Int)) = 2 := by injection h1
          omega)]
        rw [amtB_ne (by simp)] at q
        exact q
      | [x, y], [d1, d2], hx, .cons i1 (.cons i2 .nil), ok, q, it, hin =>
        refine ⟨rfl, _, rfl, iteT ?_⟩
        refine hin x d1 i1 (item_ok ok (by simp)) rfl _ ⟨_, rfl, ?_⟩
        have sx := it u _ rfl hx x (by simp)
        have sy := it u _ rfl hx y (by simp)
        have av2 : Wv H y := ⟨d2, i2, item_ok ok (by simp), sy⟩
        cases i1 with
        | non => exact iteF q
        | bl b => exact iteF q
        | int i => exact iteF q
        | tup _ _ => exact iteF q
        | str w =>
          refine ifb (fun hw => ?_) (fun hw => ?_)
          · refine ⟨_, rfl, u, _, 1, y, rfl, rfl, .inl (.inl hx), rfl, y, rfl, av2.ptv, _, rfl, ?_⟩
            cases i2 with
            | non => exact iteF q
            | bl b => exact iteF q
            | str z => exact iteF q
            | tup _ _ => exact iteF q
            | int n =>
              refine iteT ?_
              refine ⟨_, rfl, u, _, 1, .int n, rfl, rfl, .inl (.inl hx), rfl, n, 0, rfl, rfl, ?_⟩
              have e : amtB (.tuple [.str w, .int n]) = decide (0 ≤ n) := by
                show ((decide (w = "take") || decide (w = "leave")) && decide (0 ≤ n)) = _
                rw [show (decide (w = "take") || decide (w = "leave")) = true from hw, Bool.true_and]
              rw [e] at q
              exact q
          · have e : amtB (.tuple [.str w, d2]) = false := by
              unfold amtB
              split
              · rename_i w' n heq
                have hww : w' = w := by
                  injection heq with h1
                  injection h1 with h2
                  injection h2 with h3
                  exact h3.symm
                rw [hww, show (decide (w = "take") || decide (w = "leave")) = false from hw, Bool.false_and]
              · rfl
            rw [e] at q
            exact q
end

end K15
namespace K15
open PySem PySem.Spec PyProof.Rows L2 He Tp ClX LiI

section
variable {P : Program} {w : World} {K : PySem.W.Frag} {mg : Str → Option Value} {base : Heap}
def spFacts (C : Addr) : Sp := fun vs H Q _ => ∃ p i A ks ts ps cs ds fs, vs = [.ref p] ∧ BookAt C H p i A ks ts ps cs ds fs ∧ ∀ l, H l = none → Q (.ref l) (upd H l (.lst fs))
theorem ok_facts (T : Txt K mg) {fd : FuncData} (F : FnM K "Book" "facts" "Book.facts" s_Book_facts [] fd) : FnOk P w K mg base CX0 1 (ma K (cB K) "facts") fd ["self"] (spFacts (cB K)) := by
  refine F.ok sc_Book_facts (fun vs H Q E h => ?_) (fun cdv A outer s H vs Q E hr h => ?_)
  · obtain ⟨p, i, A, ks, ts, ps, cs, ds, fs, rfl, _⟩ := h
    rfl
  · obtain ⟨p, i, A, ks, ts, ps, cs, ds, fs, rfl, B, q⟩ := h
    refine ⟨_, PSs.nox (pss_one (ps_ret (pe_callTy call_list_of (by rfl) T.blist (by decide +kernel) (pa_cons (pe_fld (pv 0) rfl) pa_nil)))), ?_⟩
    exact ⟨_, rfl, p, cB K, A.dx, _, _, rfl, B.ob, T.cl, T.n_facts, fsB_facts, A.lf, fs, rfl, .inl (SqL.of B.lf), fun l hl => q l hl⟩
end

end K15
namespace K15
open PySem PySem.Spec PyProof.Rows L2 He Tp ClX LiI

section
variable {P : Program} {w : World} {K : PySem.W.Frag} {mg : Str → Option Value} {base : Heap}
def spCheckOwn (K : PySem.W.Frag) (C : Addr) : Sp := fun vs H Q E => ∃ p v dv i A k c ts ps ds fs d, vs = [.ref p, v] ∧ Av H v dv ∧ BookAt C H p i A (k.map tv) ts ps (c.map tv) ds fs ∧ PT H ds d ∧ Kept k c d ∧
  (ownD (amtD k c d d.length) dv = false → Leaves K E (ga K "BadAmount") v H) ∧ (ownD (amtD k c d d.length) dv = true → ∀ H', Ext [] H H' → Q .non H')
theorem ok_check_own (T : Txt K mg) {fd : FuncData} (F : FnM K "Book" "_check_own" "Book._check_own" s_Book__check_own [] fd) : FnOk P w K mg base (L2.CX P w) 7 (ma K (cB K) "_check_own") fd ["self", "amount"] (spCheckOwn K (cB K)) := by
  have D_is_amount := ok_is_amount (P := P) (w := w) (base := base) T
  have D_dye := dye (P := P) (w := w) (base := base) T
  obtain ⟨fa, fa_⟩ := T.famounts
  have Fa := ok_amounts (P := P) (w := w) (base := base) T fa_
  have ba : Binds K fa ["self"] [] := fa_.bindsN (fun _ _ _ _ _ _ us hl => match us, hl with | [_], _ => rfl)
  refine F.ok sc_Book__check_own (fun vs H Q E h => ?_) (fun cdv A outer s H vs Q E hr h => ?_)
  · obtain ⟨p, v, dv, i, A, k, c, ts, ps, ds, fs, d, rfl, _⟩ := h
    rfl
  · obtain ⟨p, v, dv, i, A, k, c, ts, ps, ds, fs, d, rfl, av, B, D, G, kN, kY⟩ := h
    have hu65 := hu65_of hr
    have hr_is_amount := hr.mono (show 2 ≤ 6 by decide)
    have hra := hr
    refine ⟨_, (pss_one (ps_if (PW.pt (pw_or (pt_not (pt_val (pe_cd D_is_amount hr_is_amount (by rfl) pass0 (pa_cons (pv 1) pa_nil)))) (pw_or1 (pt_cmpR (op_notInD hu65) (pv 1) (pe_meth0 (pv 0) T.cl T.mamounts Fa hra ba .nil pass0) (by rfl))))) (pss_one (ps_raiseX rfl T.xBadAmount D_dye (hr.mono (by decide)) (takes_of rfl rfl rfl rfl) (by rfl) T.gBadAmount (pv 1))) pss_nil)), ?_⟩
    have hw := fun q hq => amtD_word (k := k) (c := c) (d := d) d.length q hq
    have ho := ownD_eq (d := dv) hw
    refine ⟨_, rfl, v, dv, rfl, av, _, rfl, ?_⟩
    refine ifb (fun h1 => ?_) (fun h1 => ?_)
    · have h1' : amtB dv = false := by simpa using h1
      rw [h1', Bool.false_and] at ho
      exact iteT ⟨v, rfl, leaves_now T.xBadAmount (kN ho) Ext.refl⟩
    · have h1' : amtB dv = true := by simpa using h1
      rw [h1', Bool.true_and] at ho
      refine ⟨_, rfl, _, rfl, p, A.dx, _, rfl, B.ob, fsB_no2 (.inr (.inr (.inl rfl))), p, i, A, k, c, ts, ps, ds, fs, d, rfl, B, D, G, fun l H1 hl e1 am => ?_⟩
      refine ⟨dv, _, (av.1.ext e1).dp, am.dp, av.2.1.shaped, sh_amts (fun q hq => okS_wd (hw q hq)), _, rfl, ?_⟩
      rw [← ho]
      refine ifb (fun h2 => ?_) (fun h2 => ?_)
      · exact ⟨v, rfl, leaves_now T.xBadAmount (kN (by simpa using h2)) e1⟩
      · exact kY (by simpa using h2) H1 e1
def spTell (K : PySem.W.Frag) (C : Addr) : Sp := fun vs H Q E => ∃ p v g dv dg i A k c ts ps ds fs d, vs = [.ref p, v, g] ∧ Av H v dv ∧ Av H g dg ∧ BookAt C H p i A (k.map tv) ts ps (c.map tv) ds fs ∧ PT H ds d ∧ Kept k c d ∧ fs.length ≤ 1000 ∧
  (ownD (amtD k c d d.length) dv = false → Leaves K E (ga K "BadAmount") v H) ∧ (ownD (amtD k c d d.length) dv = true → ownD (amtD k c d d.length) dg = false → Leaves K E (ga K "BadAmount") g H) ∧
  (ownD (amtD k c d d.length) dv = true → ownD (amtD k c d d.length) dg = true → 32 ≤ fs.length → Leaves K E (ga K "Full") (.int 32) H) ∧
  (ownD (amtD k c d d.length) dv = true → ownD (amtD k c d d.length) dg = true → fs.length < 32 → ∀ H' u, Ext [A.lf] H H' → H u = none → H' u = some (.tup [.str "tell", v, g]) → BookAt C H' p i A (k.map tv) ts ps (c.map tv) ds (fs ++ [.ref u]) → Q .non H')
theorem ok_tell (T : Txt K mg) {fd : FuncData} (F : FnM K "Book" "tell" "Book.tell" s_Book_tell [] fd) : FnOk P w K mg base (L2.CX P w) 8 (ma K (cB K) "tell") fd ["self", "more", "less"] (spTell K (cB K)) := by
  have D__check_room := ok_check_roomL (P := P) (w := w) (base := base) T
  obtain ⟨fo, fo_⟩ := T.f_check_own
  have Fo := ok_check_own (P := P) (w := w) (base := base) T fo_
  have bo : Binds K fo ["self", "amount"] [] := fo_.bindsN (fun _ _ _ _ _ _ us hl => match us, hl with | [_, _], _ => rfl)
  refine F.ok sc_Book_tell (fun vs H Q E h => ?_) (fun cdv A outer s H vs Q E hr h => ?_)
  · obtain ⟨p, v, g, dv, dg, i, A, k, c, ts, ps, ds, fs, d, rfl, _⟩ := h
    rfl
  · obtain ⟨p, v, g, dv, dg, i, A, k, c, ts, ps, ds, fs, d, rfl, av, ag, B, D, G, hfl, k1, k2, k3, k4⟩ := h
    have hro := hr
    have hr__check_room := hr.mono (show 3 ≤ 7 by decide)
    obtain ⟨u1, c1⟩ := T.vFACTS
    refine ⟨_, (pss_cons (ps_expr (pe_meth (pv 0) T.cl T.m_check_own Fo hro bo .nil (passes_call (takes_of rfl rfl rfl rfl) (fun _ _ _ _ z => z)) (pa_cons (pv 1) pa_nil)))
   (pss_cons (ps_expr (pe_meth (pv 0) T.cl T.m_check_own Fo hro bo .nil (passes_call (takes_of rfl rfl rfl rfl) (fun _ _ _ _ z => z)) (pa_cons (pv 2) pa_nil)))
   (pss_cons (ps_expr (pe_cd D__check_room hr__check_room (by rfl) (passes_call (takes_of rfl rfl rfl rfl) (fun _ _ _ _ z => z)) (pa_cons (pe_fld (pv 0) rfl) (pa_cons (pe_cval (pe_glob (v := .ref (ga K "Book")) (by rfl) T.gBook rfl)) pa_nil))))
   (pss_one (ps_expr (pe_bm PySem.F.plainAttrs_list PySem.F.slot_list_append PySem.F.type_list_append mt_append (pe_fld (pv 0) rfl) (pa_cons (pe_tup (pa_cons pe_str (pa_cons (pv 1) (pa_cons (pv 2) pa_nil)))) pa_nil))))))), ?_⟩
    refine ⟨_, rfl, p, A.dx, _, rfl, B.ob, fsB_no3 (.inr (.inr (.inr (.inl rfl)))), _, rfl, p, v, dv, i, A, k, c, ts, ps, ds, fs, d, rfl, av, B, D, G, k1, fun h1 H1 e1 => ?_⟩
    have B1 := B.ext e1 fun _ _ => by simp
    refine ⟨_, rfl, p, A.dx, _, rfl, B1.ob, fsB_no3 (.inr (.inr (.inr (.inl rfl)))), _, rfl, p, g, dg, i, A, k, c, ts, ps, ds, fs, d, rfl, ag.ext e1, B1, D.ext e1, G, fun h2 => (k2 h1 h2).grow e1, fun h2 H2 e2 => ?_⟩
    have B2 := B1.ext e2 fun _ _ => by simp
    have e12 := e1.trans e2
    refine ⟨_, rfl, p, cB K, A.dx, _, _, rfl, B2.ob, T.cl, T.n_facts, fsB_facts, cB K, _, .int 32, u1, rfl, T.crd, c1, ?_⟩
    refine ⟨_, fs.length, 32, rfl, ⟨A.lf, _, rfl, B2.lf, rfl⟩, fun h3 => (k3 h1 h2 (by omega)).grow e12, fun h3 => ?_⟩
    refine ⟨_, rfl, p, cB K, A.dx, _, _, rfl, B2.ob, T.cl, T.n_facts, fsB_facts, .inl ⟨rfl, _, SqL.of B2.lf⟩, _, rfl, _, rfl, by show 3 ≤ sizeLine; decide, fun t ht => ⟨A.lf, fs, _, rfl, rfl, (by rw [upd_ne (ne_of_none B2.lf ht)]; exact B2.lf), small1000 hfl, ?_⟩⟩
    have e3 := Ext.new (ms := []) (o := .tup [.str "tell", v, g]) ht
    refine k4 h1 h2 (by omega) _ t ((e12.trans e3).nil.mut (by simp) fun xs z => by rw [B.lf] at z; cases z) (e12.none ht (by simp)) ?_ ((B2.ext e3 (fun _ _ => by simp)).setF _)
    rw [upd_ne (ne_of_none B2.lf ht).symm]
    exact upd_same
def spTellSome (K : PySem.W.Frag) (C : Addr) : Sp := fun vs H Q E => ∃ p v dv i A k c ts ps ds fs d, vs = [.ref p, v] ∧ Av H v dv ∧ BookAt C H p i A (k.map tv) ts ps (c.map tv) ds fs ∧ PT H ds d ∧ Kept k c d ∧ fs.length ≤ 1000 ∧
  (ownD (amtD k c d d.length) dv = false → Leaves K E (ga K "BadAmount") v H) ∧ (ownD (amtD k c d d.length) dv = true → 32 ≤ fs.length → Leaves K E (ga K "Full") (.int 32) H) ∧
  (ownD (amtD k c d d.length) dv = true → fs.length < 32 → ∀ H' u, Ext [A.lf] H H' → H u = none → H' u = some (.tup [.str "some", v]) → BookAt C H' p i A (k.map tv) ts ps (c.map tv) ds (fs ++ [.ref u]) → Q .non H')
theorem ok_tell_some (T : Txt K mg) {fd : FuncData} (F : FnM K "Book" "tell_some" "Book.tell_some" s_Book_tell_some [] fd) : FnOk P w K mg base (L2.CX P w) 8 (ma K (cB K) "tell_some") fd ["self", "amount"] (spTellSome K (cB K)) := by
  have D__check_room := ok_check_roomL (P := P) (w := w) (base := base) T
  obtain ⟨fo, fo_⟩ := T.f_check_own
  have Fo := ok_check_own (P := P) (w := w) (base := base) T fo_
  have bo : Binds K fo ["self", "amount"] [] := fo_.bindsN (fun _ _ _ _ _ _ us hl => match us, hl with | [_, _], _ => rfl)
  refine F.ok sc_Book_tell_some (fun vs H Q E h => ?_) (fun cdv A outer s H vs Q E hr h => ?_)
  · obtain ⟨p, v, dv, i, A, k, c, ts, ps, ds, fs, d, rfl, _⟩ := h
    rfl
  · obtain ⟨p, v, dv, i, A, k, c, ts, ps, ds, fs, d, rfl, av, B, D, G, hfl, k1, k3, k4⟩ := h
    have hro := hr
    have hr__check_room := hr.mono (show 3 ≤ 7 by decide)
    obtain ⟨u1, c1⟩ := T.vFACTS
    refine ⟨_, (pss_cons (ps_expr (pe_meth (pv 0) T.cl T.m_check_own Fo hro bo .nil (passes_call (takes_of rfl rfl rfl rfl) (fun _ _ _ _ z => z)) (pa_cons (pv 1) pa_nil)))
   (pss_cons (ps_expr (pe_cd D__check_room hr__check_room (by rfl) (passes_call (takes_of rfl rfl rfl rfl) (fun _ _ _ _ z => z)) (pa_cons (pe_fld (pv 0) rfl) (pa_cons (pe_cval (pe_glob (v := .ref (ga K "Book")) (by rfl) T.gBook rfl)) pa_nil))))
   (pss_one (ps_expr (pe_bm PySem.F.plainAttrs_list PySem.F.slot_list_append PySem.F.type_list_append mt_append (pe_fld (pv 0) rfl) (pa_cons (pe_tup (pa_cons pe_str (pa_cons (pv 1) pa_nil))) pa_nil)))))), ?_⟩
    refine ⟨_, rfl, p, A.dx, _, rfl, B.ob, fsB_no3 (.inr (.inr (.inr (.inl rfl)))), _, rfl, p, v, dv, i, A, k, c, ts, ps, ds, fs, d, rfl, av, B, D, G, k1, fun h1 H1 e12 => ?_⟩
    have B2 := B.ext e12 fun _ _ => by simp
    refine ⟨_, rfl, p, cB K, A.dx, _, _, rfl, B2.ob, T.cl, T.n_facts, fsB_facts, cB K, _, .int 32, u1, rfl, T.crd, c1, ?_⟩
    refine ⟨_, fs.length, 32, rfl, ⟨A.lf, _, rfl, B2.lf, rfl⟩, fun h3 => (k3 h1 (by omega)).grow e12, fun h3 => ?_⟩
    refine ⟨_, rfl, p, cB K, A.dx, _, _, rfl, B2.ob, T.cl, T.n_facts, fsB_facts, .inl ⟨rfl, _, SqL.of B2.lf⟩, _, rfl, by show 2 ≤ sizeLine; decide, fun t ht => ⟨A.lf, fs, _, rfl, rfl, (by rw [upd_ne (ne_of_none B2.lf ht)]; exact B2.lf), small1000 hfl, ?_⟩⟩
    have e3 := Ext.new (ms := []) (o := .tup [.str "some", v]) ht
    refine k4 h1 (by omega) _ t ((e12.trans e3).nil.mut (by simp) fun xs z => by rw [B.lf] at z; cases z) (e12.none ht (by simp)) ?_ ((B2.ext e3 (fun _ _ => by simp)).setF _)
    rw [upd_ne (ne_of_none B2.lf ht).symm]
    exact upd_same
end

end K15
namespace K15
open PySem PySem.Spec PyProof.Rows L2 He Tp ClX LiI

section
variable {P : Program} {w : World} {K : PySem.W.Frag} {mg : Str → Option Value} {base : Heap}
theorem ok_blen (T : Txt K mg) {fd : FuncData} (F : FnM K "Book" "__len__" "Book.__len__" s_Book___len__ [] fd) : FnOk P w K mg base CX0 1 (ma K (cB K) "__len__") fd ["self"] (spBLen (cB K)) := by
  refine F.ok sc_Book___len__ (fun vs H Q E h => ?_) (fun cdv A outer s H vs Q E hr h => ?_)
  · obtain ⟨p, i, A, ks, ts, ps, cs, ds, fs, rfl, _⟩ := h
    rfl
  · obtain ⟨p, i, A, ks, ts, ps, cs, ds, fs, rfl, B, q⟩ := h
    refine ⟨_, PSs.nox (pss_one (ps_ret (pe_callB call_len_seq (by rfl) T.blen PySem.boot_len (pa_cons (pe_fld (pv 0) rfl) pa_nil)))), ?_⟩
    exact ⟨_, rfl, p, cB K, A.dx, _, _, rfl, B.ob, T.cl, T.n_dips, fsB_dips, A.ld, ds, rfl, .inl (SqL.of B.ld), q⟩
theorem ok_biter (T : Txt K mg) {fd : FuncData} (F : FnM K "Book" "__iter__" "Book.__iter__" s_Book___iter__ [] fd) : FnN P w K mg base CX0 1 (ma K (cB K) "__iter__") fd ["self"] (spBIter (cB K)) := by
  refine FunD.okN F sc_Book___iter__ (fun n vs H Q E h => ?_) (fun cdv A outer s H vs Q E hr h => ?_)
  · obtain ⟨p, i, A, ks, ts, ps, cs, ds, fs, rfl, _⟩ := h
    rfl
  · obtain ⟨p, i, A, ks, ts, ps, cs, ds, fs, rfl, B, q⟩ := h
    refine ⟨_, PSs.nox (pss_one (ps_ret (pe_callB ItX.call_iterN (by rfl) T.biter (by decide +kernel) (pa_cons (pe_fld (pv 0) rfl) pa_nil)))), ?_⟩
    exact ⟨_, rfl, p, cB K, A.dx, _, _, rfl, B.ob, T.cl, T.n_dips, fsB_dips, A.ld, ds, rfl, SqL.of B.ld, q⟩
end

end K15
namespace K15
open PySem PySem.Spec PyProof.Rows L2 He Tp ClX LiI

section
variable {P : Program} {w : World} {K : PySem.W.Frag} {mg : Str → Option Value} {base : Heap}
def spThirsts (C : Addr) : Sp := fun vs H Q _ => ∃ p i A ks ts ps cs ds fs t, vs = [.ref p] ∧ BookAt C H p i A ks ts ps cs ds fs ∧ PT H ts t ∧ t.length ≤ 1000 ∧ ∀ l H', H l = none → Ext [] H H' → RowAt H' l t → Q (.ref l) H'
theorem ok_thirsts (T : Txt K mg) {fd : FuncData} (F : FnM K "Book" "thirsts" "Book.thirsts" s_Book_thirsts [] fd) : FnOk P w K mg base CX0 1 (ma K (cB K) "thirsts") fd ["self"] (spThirsts (cB K)) := by
  refine F.ok sc_Book_thirsts (fun vs H Q E h => ?_) (fun cdv A outer s H vs Q E hr h => ?_)
  · obtain ⟨p, i, A, ks, ts, ps, cs, ds, fs, t, rfl, _⟩ := h
    rfl
  · obtain ⟨p, i, A, ks, ts, ps, cs, ds, fs, t, rfl, B, D, ht, q⟩ := h
    refine ⟨_, PSs.nox (pss_one (ps_ret (pe_callTy call_list_of (by rfl) T.blist (by decide +kernel) (pa_cons (pe_fld (pv 0) rfl) pa_nil)))), ?_⟩
    refine ⟨_, rfl, p, cB K, A.dx, _, _, rfl, B.ob, T.cl, T.n_thirsts, fsB_thirsts, A.lt, ts, rfl, .inl (SqL.of B.lt), fun l hl => ?_⟩
    obtain ⟨as, h1, h2⟩ := D
    have e := Ext.new (ms := []) (o := .lst ts) hl
    exact q l _ hl e ⟨as, by rw [upd_same, h1], paired_ext e h2⟩
end

end K15
namespace K15
open PySem PySem.Spec PyProof.Rows L2 He Tp ClX LiI

section
variable {P : Program} {w : World} {K : PySem.W.Frag} {mg : Str → Option Value} {base : Heap}
theorem ok_bset (T : Txt K mg) {g : Addr} {fd : FuncData} (F : FunD K "bound" "Book.bound" (defArgs s_Book_bound_set) (defBody s_Book_bound_set) (defScope s_Book_bound_set) [] [] g fd) : FnOk P w K mg base (L2.CX P w) 4 g fd ["self", "number"] (spSetBound K (cB K)) := by
  have D_check_between := ok_check_between (P := P) (w := w) (base := base) T
  refine F.ok sc_Book_bound_set (fun vs H Q E h => ?_) (fun cdv A outer s H vs Q E hr h => ?_)
  · obtain ⟨p, v, i, A, ks, ts, ps, cs, ds, fs, rfl, _⟩ := h
    rfl
  · obtain ⟨p, v, i, A, ks, ts, ps, cs, ds, fs, rfl, hv, B, kN, kY⟩ := h
    have hr_check_between := hr
    obtain ⟨mc, rd, ⟨u1, c1⟩, u2, c2⟩ := T.rd
    refine ⟨_, (pss_cons (ps_expr (pe_cd D_check_between hr_check_between (by rfl) (passes_call (takes_of rfl rfl rfl rfl) (fun _ _ _ _ z => z)) (pa_cons (pv 1) (pa_cons (pe_callB call_len_seq (by rfl) T.blen PySem.boot_len (pa_cons (pe_fld (pv 0) rfl) pa_nil)) (pa_cons (pe_cval (pe_glob (v := .ref (ga K "Book")) (by rfl) T.gBook rfl)) pa_nil)))))
   (pss_one (ps_fld (pv 0) (pv 1) rfl))), ?_⟩
    refine ⟨_, rfl, _, rfl, p, cB K, A.dx, _, _, rfl, B.ob, T.cl, T.n_dips, fsB_dips, A.ld, ds, rfl, .inl (SqL.of B.ld), cB K, mc, .int 24, u2, rfl, rd, c2, ?_⟩
    refine ⟨v, (ds.length : Int), 24, rfl, hv, fun hb => ?_, kN⟩
    obtain ⟨j, rfl, h0, h1⟩ : ∃ j, v = .int j ∧ (ds.length : Int) ≤ j ∧ j ≤ 24 := by
      cases v with
      | int j => exact ⟨j, rfl, hb⟩
      | _ => exact hb.elim
    refine ⟨_, rfl, _, rfl, p, cB K, A.dx, _, rfl, B.ob, T.cl, T.n_bound, (by show 7 < 1000; decide), ?_⟩
    rw [fsB_bound']
    exact kY j rfl h0 h1 _ (Ext.refl.mut (by simp) fun xs z => by rw [B.ob] at z; cases z) B.setB
theorem ok_change_bound (T : Txt K mg) {fd : FuncData} (F : FnM K "Book" "change_bound" "Book.change_bound" s_Book_change_bound [] fd) : FnOk P w K mg base (L2.CX P w) 7 (ma K (cB K) "change_bound") fd ["self", "number"] (spSetBound K (cB K)) := by
  obtain ⟨pp, gg, fs_, hps, fs__⟩ := T.pset_bound
  have Fs := ok_bset (P := P) (w := w) (base := base) T fs__
  have bs : Binds K fs_ ["self", "number"] [] := fs__.bindsN (fun _ _ _ _ _ _ us hl => match us, hl with | [_, _], _ => rfl)
  refine F.ok sc_Book_change_bound (fun vs H Q E h => ?_) (fun cdv A outer s H vs Q E hr h => ?_)
  · obtain ⟨p, v, i, A, ks, ts, ps, cs, ds, fs, rfl, _⟩ := h
    rfl
  · obtain ⟨p, v, i, A, ks, ts, ps, cs, ds, fs, rfl, hv, B, kN, kY⟩ := h
    have hrs := hr
    refine ⟨_, (pss_one (ps_fldP (pv 0) (pv 1) T.cl hps Fs hrs bs (passes_call (takes_of rfl rfl rfl rfl) (fun _ _ _ _ z => z)) rfl)), ?_⟩
    exact ⟨_, rfl, _, rfl, p, A.dx, _, rfl, B.ob, p, v, i, A, ks, ts, ps, cs, ds, fs, rfl, hv, B, kN, kY⟩
end

end K15
namespace K15
open PySem PySem.Spec PyProof.Rows L2 He Tp ClX LiI

section
variable {P : Program} {w : World} {K : PySem.W.Frag} {mg : Str → Option Value} {base : Heap}
theorem ok_get_bound (T : Txt K mg) {g : Addr} {fd : FuncData} (F : FunD K "bound" "Book.bound" (defArgs s_Book_bound) (defBody s_Book_bound) (defScope s_Book_bound) [] [] g fd) : FnOk P w K mg base CX0 1 g fd ["self"] (spGetBound (cB K)) := by
  refine F.ok sc_Book_bound (fun vs H Q E h => ?_) (fun cdv A outer s H vs Q E hr h => ?_)
  · obtain ⟨p, i, A, ks, ts, ps, cs, ds, fs, rfl, _⟩ := h
    rfl
  · obtain ⟨p, i, A, ks, ts, ps, cs, ds, fs, rfl, B, q⟩ := h
    refine ⟨_, PSs.nox (pss_one (ps_ret (pe_fld (pv 0) rfl))), ?_⟩
    exact ⟨_, rfl, p, cB K, A.dx, _, _, rfl, B.ob, T.cl, T.n_bound, fsB_bound, q⟩
end

end K15
namespace K15
open PySem PySem.Spec PyProof.Rows L2 He Tp ClX LiI

section
variable {P : Program} {w : World} {K : PySem.W.Frag} {mg : Str → Option Value} {base : Heap}
theorem b_add_kind0 {fd : FuncData} (F : FnM K "Book" "add_kind" "Book.add_kind" s_Book_add_kind [("hold", .str "unsure")] fd) : ∃ ds, Vals [V.str "unsure"] ds ∧ Binds K fd ["self", "name", "hold"] ds :=
  F.binds0 2 (by simp) rfl (fun D doc pm an cdv ct us ks h1 h2 => match us, ks, h1, h2 with | [_, _], [_], _, _ => ⟨_, _, _, _, _, _, rfl, rfl, rfl⟩)
theorem b_add_kindK {fd : FuncData} (F : FnM K "Book" "add_kind" "Book.add_kind" s_Book_add_kind [("hold", .str "unsure")] fd) : ∃ mv : List Value, KBn K fd ["self", "name", "hold"] 2 ["hold"] (fun us ws => us ++ ws) (fun vs zs => vs ++ zs) :=
  F.kbinds0 2 ["hold"] [] (fun us mv ws => us ++ ws) (by simp) (by simp) (fun r1 r2 r3 => r1.append r3) (fun D doc pm an cdv ct us mv ws h1 h2 h3 => match us, ws, h1, h3 with | [_, _], [_], _, _ => rfl)
theorem b_init {fd : FuncData} (F : FnM K "Book" "__init__" "Book.__init__" s_Book___init__ [("bound", .int 24)] fd) : ∃ ds, Vals [V.int 24] ds ∧ Binds K fd ["self", "bound"] ds :=
  F.binds0 1 (by simp) rfl (fun D doc pm an cdv ct us ks h1 h2 => match us, ks, h1, h2 with | [_], [_], _, _ => ⟨_, _, _, _, _, _, rfl, rfl, rfl⟩)
end


end K15
namespace K15
open PySem PySem.Spec PyProof.Rows L2 He Tp ClX LiI

section
variable {P : Program} {w : World} {K : PySem.W.Frag} {mg : Str → Option Value} {base : Heap}
theorem ok_law_is_whole (T : Txt K mg) : Df P w K mg base CX0 1 "_law_is_whole" ["_law_value"] (spWhole K) := by
  refine Df.mk' T.g_law_is_whole T.f_law_is_whole (fun _ _ _ _ _ _ us hl => match us, hl with | [_], _ => rfl) fun fd F => F.ok sc__law_is_whole (fun vs H Q E h => ?_) (fun cdv A outer s H vs Q E hr h => ?_)
  · obtain ⟨v, rfl, _⟩ := h
    rfl
  · obtain ⟨v, rfl, p, q⟩ := h
    refine ⟨_, PSs.nox
   (pss_one (ps_ret (pe_and (pe_callB (call_isi) (by rfl) T.bisinstance (by decide +kernel) (pa_cons (pv 0) (pa_cons (pe_bltn (v := .ty "int") (u := .type "int") (by rfl) T.bint (by decide +kernel) rfl) pa_nil))) (pe_one (pe_not (pe_callB (call_isi) (by rfl) T.bisinstance (by decide +kernel) (pa_cons (pv 0) (pa_cons (pe_bltn (v := .ty "bool") (u := .type "bool") (by rfl) T.bbool (by decide +kernel) rfl) pa_nil)))))))), ?_⟩
    refine st_ret (val_andV (val_isi (val_var rfl) p.ty (p.kit (.inl rfl))) (val_notV (val_isi (val_var rfl) p.ty (p.kit (.inr (.inl rfl)))))) ?_
    rw [whole_eq p]
    exact q
end

end K15
namespace K15
open PySem PySem.Spec PyProof.Rows L2 He Tp ClX LiI

section
variable {P : Program} {w : World} {K : PySem.W.Frag} {mg : Str → Option Value} {base : Heap}
theorem ok_lists (T : Txt K mg) : Df P w K mg base CX0 2 "_law_lists" ["_law_answer", "_law_due"] spLists := by
  have D__law_is_whole := ok_law_is_whole (P := P) (w := w) (base := base) T
  refine Df.mk' T.g_law_lists T.f_law_lists (fun _ _ _ _ _ _ us hl => match us, hl with | [_, _], _ => rfl) fun fd F => F.ok sc__law_lists (fun vs H Q E h => ?_) (fun cdv A outer s H vs Q E hr h => ?_)
  · obtain ⟨a, b, xs, rfl, _⟩ := h
    rfl
  · obtain ⟨a, b, xs, rfl, ha, hb, hl, hok, q⟩ := h
    have nd := sc__law_lists.nd
    have hr__law_is_whole := hr
    have hu64 := hr.units
    refine ⟨_, PSs.nox
   (pss_cons (ps_if (PW.pt (pw_or (pt_not (pt_val (pe_callB (call_isi) (by rfl) T.bisinstance (by decide +kernel) (pa_cons (pv 0) (pa_cons (pe_bltn (v := .ty "list") (u := .type "list") (by rfl) T.blist (by decide +kernel) rfl) pa_nil))))) (pw_or1 (pt_cmpR op_ne (pe_callB call_len_seq (by rfl) T.blen PySem.boot_len (pa_cons (pv 0) pa_nil)) (pe_callB call_len_seq (by rfl) T.blen PySem.boot_len (pa_cons (pv 1) pa_nil)) (nomark _))))) (pss_one (ps_ret pe_bl)) pss_nil)
   (pss_cons (ps_for PassesOwn.never rfl (pi_range1 (by rfl) T.brange (pa_cons (pe_callB call_len_seq (by rfl) T.blen PySem.boot_len (pa_cons (pv 1) pa_nil)) pa_nil)) (pg_name (i := 2) nd rfl (by first | exact Or.inl rfl | exact Or.inr rfl))
   (pss_cons (ps_set (i := 3) nd rfl (by first | exact Or.inl rfl | exact Or.inr rfl) (pe_ix ix_list (pv 0) (pv 2) (fun _ _ => rfl)))
   (pss_cons (ps_if (PW.pt (pw_or (pt_not (pt_val (pe_callB (call_isi) (by rfl) T.bisinstance (by decide +kernel) (pa_cons (pv 3) (pa_cons (pe_bltn (v := .ty "tuple") (u := .type "tuple") (by rfl) T.btuple (by decide +kernel) rfl) pa_nil))))) (pw_or (pt_cmpR op_ne (pe_callB call_len_seq (by rfl) T.blen PySem.boot_len (pa_cons (pv 3) pa_nil)) pe_int (nomark _)) (pw_or1 (pt_cmpR (op_neD hu64) (pv 3) (pe_ix ix_list (pv 1) (pv 2) (fun _ _ => rfl)) (nomark _)))))) (pss_one (ps_ret pe_bl)) pss_nil)
   (pss_one (ps_if (PW.pt (pw_or (pt_not (pt_val (pe_callB (call_isi) (by rfl) T.bisinstance (by decide +kernel) (pa_cons (pe_ix ix_tup (pv 3) pe_int (fun _ _ => rfl)) (pa_cons (pe_bltn (v := .ty "str") (u := .type "str") (by rfl) T.bstr (by decide +kernel) rfl) pa_nil))))) (pw_or1 (pt_not (pt_val (pe_cd D__law_is_whole hr__law_is_whole (by rfl) pass0 (pa_cons (pe_ix ix_tup (pv 3) pe_int (fun _ _ => rfl)) pa_nil))))))) (pss_one (ps_ret pe_bl)) pss_nil)))))
   (pss_one (ps_ret pe_bl)))), ?_⟩
    obtain ⟨us, hus, hul, hug⟩ := ha.get
    obtain ⟨ws, hws, hwl, hwg⟩ := hb.get
    refine sq_when (b := false) (or_no (ans_not (ans_val (val_isi (b := true) (val_var rfl) (.base (.lst hus)) (kit_ty (by decide +kernel))))) (ans_cmp (b := false) (val_len (val_var rfl) (SqL.of hus)) (val_len (val_var rfl) (SqL.of hws)) fun Q' q' => ⟨rfl, ?_⟩)) (fun h => nomatch h) (fun _ => ?_)
    · rw [hul, hwl]
      have : (!decide (V.int (xs.length : Int) = V.int (xs.length : Int))) = false := by simp
      rw [this]
      exact q'
    refine ⟨_, rfl, b, ws, rfl, .inl (SqL.of hws), ?_⟩
    refine ⟨(ws.length : Int), rfl, by omega, by omega, for_range (n := (ws.length : Int).toNat) (fun i σ' H' => (∃ x2 x3, σ' = [some (.ref a), some (.ref b), x2, x3]) ∧ H' = H) ⟨⟨none, none, rfl⟩, rfl⟩ ?_ ?_⟩
    · rintro i σ' H' hi ⟨⟨x2, x3, rfl⟩, rfl⟩
      have hix : i < xs.length := by omega
      obtain ⟨p, hp⟩ : ∃ p, xs[i]? = some p := ⟨_, List.getElem?_eq_getElem hix⟩
      obtain ⟨u, hu, hT⟩ := hug i p hp
      obtain ⟨v, hv, hV⟩ := hwg i p hp
      have ei : (0 : Int) + (i : Int) = (i : Int) := Int.zero_add _
      rw [ei]
      refine ⟨_, rfl, _, rfl, a, us, _, _, rfl, rfl, SqL.of hus, hu, ?_⟩
      refine gset ?_
      dsimp only
      have okp := okD_amt (hok p (List.mem_of_getElem? hp))
      refine sq_when (b := false) (or_no (ans_not (ans_val (val_isi (b := true) (val_var rfl) (.base (.tup hT)) (kit_ty (by decide +kernel))))) (or_no (ans_cmp (b := false) (x := .int 2) (y := .int 2) (fun Q' q' => ⟨_, rfl, u, _, rfl, .inr (.inl (.inl hT)), q'⟩) val_c fun Q' q' => ⟨rfl, by simpa using q'⟩) (ans_cmp (b := false) (val_var rfl) (val_ixL (val_var rfl) (val_var rfl) (SqL.of hws) hv) fun Q' q' => ⟨dAmt p, dAmt p, hT.im.dp, hV.im.dp, okp.shaped, okp.shaped, by rw [okp.eqv]; exact q'⟩))) (fun h => nomatch h) (fun _ => ?_)
      have at0 : Val (tOp (rIxT K) (tVar 3) (tC (.int 0))) [some (V.ref a), some (.ref b), some (.int (i : Int)), some (.ref u)] H' (.str p.1) := fun Q' q' => ⟨_, rfl, u, _, _, _, rfl, rfl, .inl (.inl hT), rfl, q'⟩
      refine st_if (b := false) (or_no (ans_not (ans_val (val_isi (b := true) at0 (.base (.str _)) (kit_ty (by decide +kernel))))) (ans_not (b := true) (ans_val fun Q' q' => ⟨_, rfl, u, _, _, _, rfl, rfl, .inl (.inl hT), rfl, .int (p.2 : Int), rfl, .int _, q'⟩))) (fun h => nomatch h) (fun _ => ?_)
      exact ⟨⟨_, _, rfl⟩, rfl⟩
    · rintro σ' H' ⟨⟨x2, x3, rfl⟩, rfl⟩
      exact q
end

end K15
namespace K15
open PySem PySem.Spec PyProof.Rows L2 He Tp ClX LiI

section
variable {P : Program} {w : World} {K : PySem.W.Frag} {mg : Str → Option Value} {base : Heap}
theorem ok_lfacts (T : Txt K mg) : Df P w K mg base CX0 5 "_law_facts" ["_law_source_here", "_law_model_here"] (spMore 3) := by
  have D__law_amounts := ok_amts (P := P) (w := w) (base := base) T
  have D__law_draw := ok_drawE (P := P) (w := w) (base := base) T
  refine Df.mk' T.g_law_facts T.f_law_facts (fun _ _ _ _ _ _ us hl => match us, hl with | [_, _], _ => rfl) fun fd F => F.ok sc__law_facts (fun vs H Q E h => ?_) (fun cdv A outer s H vs Q E hr h => ?_)
  · obtain ⟨S, L, a, k, t, p, c, d, ms, fs, rfl, _⟩ := h
    rfl
  · obtain ⟨S, L, a, k, t, p, c, d, ms, fs, rfl, hS, M, W, G, hd, hin, hg, hf, q⟩ := h
    have nd := sc__law_facts.nd
    have hu64 := hr.units
    have hr__law_amounts := hr
    have hr__law_draw := hr.mono (show 1 ≤ 4 by decide)
    refine ⟨_, PSs.nox (pss_cons (ps_set (i := 2) nd rfl (by first | exact Or.inl rfl | exact Or.inr rfl) (pe_cd D__law_amounts hr__law_amounts (by rfl) pass0 (pa_cons (pv 1) pa_nil)))
   (pss_one (ps_for PassesOwn.never rfl (pi_range1 (by rfl) T.brange (pa_cons (pe_op op_mod (pe_op op_add pe_int (pe_cd D__law_draw hr__law_draw (by rfl) pass0 (pa_cons (pv 0) (pa_cons pe_int pa_nil)))) pe_int) pa_nil)) (pg_name (i := 3) nd rfl (by first | exact Or.inl rfl | exact Or.inr rfl))
   (pss_cons (ps_if (pt_cmpR (op_eqD hu64) (pv 2) (pe_lst pa_nil) (nomark _)) (pss_one ps_break) pss_nil)
   (pss_cons (ps_set (i := 4) nd rfl (by first | exact Or.inl rfl | exact Or.inr rfl) (pe_ix ix_list (pv 2) (pe_cd D__law_draw hr__law_draw (by rfl) pass0 (pa_cons (pv 0) (pa_cons (pe_callB call_len_seq (by rfl) T.blen PySem.boot_len (pa_cons (pv 2) pa_nil)) pa_nil))) (fun _ _ => rfl)))
   (pss_cons (ps_set (i := 5) nd rfl (by first | exact Or.inl rfl | exact Or.inr rfl) (pe_ix ix_list (pv 2) (pe_op op_mod (pe_op op_add (pe_op op_add (pe_cd D__law_draw hr__law_draw (by rfl) pass0 (pa_cons (pv 0) (pa_cons (pe_callB call_len_seq (by rfl) T.blen PySem.boot_len (pa_cons (pv 2) pa_nil)) pa_nil))) (pv 3)) pe_int) (pe_callB call_len_seq (by rfl) T.blen PySem.boot_len (pa_cons (pv 2) pa_nil))) (fun _ _ => rfl)))
   (pss_one (ps_if (pt_cmpR op_eq (pe_cd D__law_draw hr__law_draw (by rfl) pass0 (pa_cons (pv 0) (pa_cons pe_int pa_nil))) pe_int (nomark _)) (pss_one (ps_expr (pe_bm PySem.F.plainAttrs_list PySem.F.slot_list_append PySem.F.type_list_append mt_append (pe_ix ix_list (pv 1) pe_int (fun _ _ => rfl)) (pa_cons (pe_tup (pa_cons pe_str (pa_cons (pv 4) pa_nil))) pa_nil)))) (pss_one (ps_expr (pe_bm PySem.F.plainAttrs_list PySem.F.slot_list_append PySem.F.type_list_append mt_append (pe_ix ix_list (pv 1) pe_int (fun _ _ => rfl)) (pa_cons (pe_tup (pa_cons pe_str (pa_cons (pv 4) (pa_cons (pv 5) pa_nil)))) pa_nil)))))))))))), ?_⟩
    refine ⟨_, rfl, a, k, t, p, c, d, ms, rfl, M, G, fun lo H1 hlo e1 am => ?_⟩
    refine gset ?_
    dsimp only
    have n1 : Nt H H1 S L a k t p c d ms fs := ⟨e1.nil, hS.ext e1, M.ext e1 fun _ _ => by simp, W.ext e1, hin, hg⟩
    have loS : lo ≠ S := (src_ne_new hS hlo).1
    have lo5 : lo ≠ a.m5 := fun h => by
      have := M.r5
      rw [← h, hlo] at this
      cases this
    obtain ⟨as, ha, hp⟩ := am
    have hal := amt_len hp
    have hb := amtD_len (k := k) (c := c) (d := d) d.length
    have hw6 := fun q hq => amtD_word (k := k) (c := c) (d := d) d.length q hq
    have n1' : Nt H1 H1 S L a k t p c d ms fs := ⟨Ext.refl, n1.s, n1.M, n1.W, n1.i, n1.g⟩
    clear n1
    refine draw_ex (i := 0) rfl n1'.s (by decide) (by decide) val_c (fun m H2 m0 m1 e2 s2 => ?_)
    have n2 := n1'.draw e2 s2
    have hm1 := Int.emod_nonneg (1 + m) (show (4 : Int) ≠ 0 by decide)
    have hm2 := Int.emod_lt_of_pos (1 + m) (show (0 : Int) < 4 by decide)
    refine ⟨1, _, rfl, rfl, _, 4, rfl, rfl, (by show (0 : Int) < 4; decide), (1 + m) % 4, rfl, by omega, by omega, for_range (n := ((1 + m) % 4).toNat) (fun i σ' H' => ∃ x3 x4 x5 ms' fs', σ' = [some (.ref S), some (.ref a.M), some (.ref lo), x3, x4, x5] ∧ Nt H1 H' S L a k t p c d ms' fs' ∧ fs'.length ≤ fs.length + i) ⟨none, none, none, ms, fs, rfl, n2, Nat.le_refl _⟩ ?_ ?_⟩
    · rintro i σ' H' hi ⟨x3, x4, x5, ms', fs', rfl, j, hl⟩
      have keep : ∀ {X : Hp}, Ext [S, a.m5] H1 X → X lo = some (.lst (as.map V.ref)) := fun e => e.keep _ _ ha (by simp [loS, lo5])
      refine gset ?_
      dsimp only
      refine ⟨_, rfl, by show 0 ≤ sizeLine; decide, fun z hz => ?_⟩
      have e3 : Ext [] H' (upd H' z (.lst [])) := Ext.new hz
      have j3 := j.grow e3
      have hz3 : (upd H' z (.lst [])) z = some (.lst []) := upd_same
      generalize upd H' z (.lst []) = H3 at e3 j3 hz3
      have am3 : AmtAt H3 lo (amtD k c d d.length) := ⟨as, keep j3.x, amt_ext j3.x hp⟩
      refine ⟨.list ((amtD k c d d.length).map dAmt), .list [], am3.dp, .lst (SqL.of hz3) ImAll.nil.dp, sh_amts (fun q hq => okS_wd (hw6 q hq)), by decide +kernel, _, rfl, ?_⟩
      rw [eqv_nil]
      refine ifd (fun h => ?_) (fun h => ?_)
      · have hfin : fs'.length ≤ fs.length + 3 := by omega
        exact q H3 ms' fs' (e1.nil.trans j3.x) j3.s j3.M j3.W j3.i hfin
      have hpos : 0 < as.length := by
        rw [hal]
        rcases Nat.eq_zero_or_pos (amtD k c d d.length).length with h0 | h0
        · exact absurd (by rw [List.length_eq_zero_iff.mp h0]; rfl) h
        · exact h0
      have hlen : (as.map V.ref).length = as.length := List.length_map ..
      refine ⟨_, rfl, ?_⟩
      refine draw_ex (i := 0) (many := ((as.map V.ref).length : Int)) rfl j3.s (by omega) (Int.lt_of_le_of_lt (show ((as.map V.ref).length : Int) ≤ 200 by omega) (by decide)) (val_len (val_var rfl) (SqL.of (keep j3.x))) (fun n H4 n0 n1 e4 s4 => ?_)
      have j4 := j3.draw e4 s4
      obtain ⟨u1, q1, b1, b2, b3⟩ := am_pick (amt_ext j4.x hp) n0 (by rw [← hlen]; exact n1)
      refine ⟨lo, _, n, _, rfl, rfl, SqL.of (keep j4.x), b1, ?_⟩
      refine gset ?_
      dsimp only
      refine ⟨_, rfl, ?_⟩
      refine draw_ex (i := 0) (many := ((as.map V.ref).length : Int)) rfl j4.s (by omega) (Int.lt_of_le_of_lt (show ((as.map V.ref).length : Int) ≤ 200 by omega) (by decide)) (val_len (val_var rfl) (SqL.of (keep j4.x))) (fun n' H5 n0' n1' e5 s5 => ?_)
      have j5 := j4.draw e5 s5
      have i0 := Int.emod_nonneg ((n' + (0 + (i : Int))) + 1) (show ((as.map V.ref).length : Int) ≠ 0 by omega)
      have i1 := Int.emod_lt_of_pos ((n' + (0 + (i : Int))) + 1) (show (0 : Int) < ((as.map V.ref).length : Int) by omega)
      obtain ⟨u2, q2, c1, c2, c3⟩ := am_pick (amt_ext j5.x hp) i0 (by rw [← hlen]; exact i1)
      refine ⟨_, rfl, _, _, rfl, rfl, _, 1, rfl, rfl, _, rfl, lo, _, rfl, .inl (SqL.of (keep j5.x)), _, _, rfl, rfl, (show (0 : Int) < ((as.map V.ref).length : Int) by omega), lo, _, _, _, rfl, rfl, SqL.of (keep j5.x), c1, ?_⟩
      refine gset ?_
      dsimp only
      have hml := j5.W.len
      have b5 := e5.tups _ _ b3
      refine draw_ex (i := 0) rfl j5.s (by decide) (by decide) val_c (fun m' H6 m0' m1' e6 s6 => ?_)
      have j6 := j5.draw e6 s6
      have b6 := e6.tups _ _ b5
      have c6 := e6.tups _ _ c3
      refine ⟨rfl, _, rfl, ?_⟩
      refine ifd (fun _ => ?_) (fun _ => ?_)
      · refine ⟨_, rfl, a.M, _, 5, .ref a.m5, rfl, rfl, SqL.of j6.M.M, rfl, .inl ⟨rfl, _, SqL.of j6.M.r5⟩, _, rfl, by show 2 ≤ sizeLine; decide, fun u hu => ?_⟩
        have e7 : Ext [] H6 (upd H6 u (.tup [.str "some", .ref u1])) := Ext.new hu
        have j7 := j6.grow e7
        have f7 : isFk (upd H6 u (.tup [.str "some", .ref u1])) u (.some q1) := ⟨u1, upd_same, e7.tups _ _ b6⟩
        refine ⟨a.m5, ms', _, rfl, rfl, j7.M.r5, Evl.sz_lt (by omega), ?_⟩
        exact ⟨_, _, _, _, _, rfl, j7.note f7 b2, by rw [List.length_append]; show fs'.length + 1 ≤ fs.length + (i + 1); omega⟩
      · refine ⟨_, rfl, a.M, _, 5, .ref a.m5, rfl, rfl, SqL.of j6.M.M, rfl, .inl ⟨rfl, _, SqL.of j6.M.r5⟩, _, rfl, _, rfl, by show 3 ≤ sizeLine; decide, fun u hu => ?_⟩
        have e7 : Ext [] H6 (upd H6 u (.tup [.str "tell", .ref u1, .ref u2])) := Ext.new hu
        have j7 := j6.grow e7
        have f7 : isFk (upd H6 u (.tup [.str "tell", .ref u1, .ref u2])) u (.tell q1 q2) := ⟨u1, u2, upd_same, e7.tups _ _ b6, e7.tups _ _ c6⟩
        refine ⟨a.m5, ms', _, rfl, rfl, j7.M.r5, Evl.sz_lt (by omega), ?_⟩
        exact ⟨_, _, _, _, _, rfl, j7.note f7 ⟨b2, c2⟩, by rw [List.length_append]; show fs'.length + 1 ≤ fs.length + (i + 1); omega⟩
    · rintro σ' H' ⟨x3, x4, x5, ms', fs', rfl, j, hl⟩
      exact q H' ms' fs' (e1.nil.trans j.x) j.s j.M j.W j.i (by omega)
end



end K15
namespace K15
open PySem PySem.Spec PyProof.Rows L2 He Tp ClX LiI

section
variable {P : Program} {w : World} {K : PySem.W.Frag} {mg : Str → Option Value} {base : Heap}
/-- _fact_words(fact) -/
def spFw : Sp := fun vs H Q _ => ∃ (u : Addr) (f : Fk), vs = [.ref u] ∧ isFk H u f ∧ lowF f ∧ ∀ l H', H l = none → Ext [] H H' → H' l = some (.lst ((fwD f).map V.str)) → Q (.ref l) H'
theorem ok_fact_words (T : Txt K mg) : Df P w K mg base CX0 1 "_fact_words" ["fact"] spFw := by
  refine Df.mk' T.g_fact_words T.f_fact_words (fun _ _ _ _ _ _ us hl => match us, hl with | [_], _ => rfl) fun fd F => F.ok sc__fact_words (fun vs H Q E h => ?_) (fun cdv A outer s H vs Q E hr h => ?_)
  · obtain ⟨u, f, rfl, _⟩ := h
    rfl
  · obtain ⟨u, f, rfl, hu, hl, q⟩ := h
    have nd := sc__fact_words.nd
    refine ⟨_, PSs.nox (pss_cons (ps_asg (pv 0) (pg_star (by rfl) (pgs_cons (pg_name (i := 1) nd rfl (by first | exact Or.inl rfl | exact Or.inr rfl)) (pgs_cons (pg_name (i := 2) nd rfl (by first | exact Or.inl rfl | exact Or.inr rfl)) pgs_nil))))
   (pss_cons (ps_set (i := 3) nd rfl (by first | exact Or.inl rfl | exact Or.inr rfl) (pe_lst (pa_cons (pv 1) pa_nil)))
   (pss_cons (ps_for PassesOwn.never rfl (pi_list (pv 2)) (pg_tup (by rfl) (pgs_cons (pg_name (i := 4) nd rfl (by first | exact Or.inl rfl | exact Or.inr rfl)) (pgs_cons (pg_name (i := 5) nd rfl (by first | exact Or.inl rfl | exact Or.inr rfl)) pgs_nil)))
   (pss_one (ps_expr (pe_bm PySem.F.plainAttrs_list PySem.F.slot_list_extend PySem.F.type_list_extend mt_extend (pv 3) (pa_cons (pe_lst (pa_cons (pv 4) (pa_cons (pe_callTy call_str_int (by rfl) T.bstr (by decide +kernel) (pa_cons (pv 5) pa_nil)) pa_nil))) pa_nil)))))
   (pss_one (ps_ret (pv 3)))))), ?_⟩
    obtain ⟨w0, as, qs, hT, hp, hw, hlow, hal2⟩ : ∃ w0 as qs, H u = some (.tup (.str w0 :: as.map V.ref)) ∧ Paired (isAmt H) as qs ∧ fwD f = w0 :: wdA qs ∧ (∀ q ∈ qs, q.2 < 100) ∧ as.length ≤ 2 := by
      cases f with
      | tell x y =>
        obtain ⟨a, b, h1, h2, h3⟩ := hu
        exact ⟨_, [a, b], [x, y], h1, .cons h2 (.cons h3 .nil), rfl, fun q hq => (by simp only [List.mem_cons, List.not_mem_nil, or_false] at hq; rcases hq with rfl | rfl; exact hl.1; exact hl.2), by simp⟩
      | some x =>
        obtain ⟨a, h1, h2⟩ := hu
        exact ⟨_, [a], [x], h1, .cons h2 .nil, rfl, fun q hq => (by rw [List.mem_singleton.mp hq]; exact hl), by simp⟩
    have hal := amt_len hp
    refine ⟨_, rfl, u, _, _, rfl, .inl (.inl hT), fun la hla => ⟨_, _, rfl, _, _, rfl, rfl, ?_⟩⟩
    dsimp only
    have e1 : Ext [] H (upd H la (.lst (as.map V.ref))) := Ext.new hla
    have hla1 : (upd H la (.lst (as.map V.ref))) la = some (.lst (as.map V.ref)) := upd_same
    generalize upd H la (.lst (as.map V.ref)) = H1 at e1 hla1 ⊢
    refine ⟨_, rfl, by show 1 ≤ sizeLine; decide, fun lw hlw => ?_⟩
    refine gset ?_
    dsimp only
    have e2 : Ext [] H1 (upd H1 lw (.lst [.str w0])) := Ext.new hlw
    have hlw0 : H lw = none := e1.none hlw (by simp)
    have hne : la ≠ lw := ne_of_none hla1 hlw
    refine ⟨_, rfl, la, rfl, ⟨_, SqL.of (e2.keep _ _ hla1 (by simp))⟩, for_list (xs := as.map V.ref) (fun i σ' H' => ∃ x4 x5, σ' = [some (.ref u), some (.str w0), some (.ref la), some (.ref lw), x4, x5] ∧ Ext [lw] H1 H' ∧ H' lw = some (.lst ((w0 :: wdA (qs.take i)).map V.str))) ⟨none, none, rfl, e2.nil, upd_same⟩ ?_ ?_ ?_⟩
    · rintro i σ' H' _ ⟨_, _, _, e, _⟩
      exact SqL.of (e.keep _ _ hla1 (by simpa using hne))
    · rintro i v σ' H' hv ⟨x4, x5, rfl, e, hw'⟩
      rw [List.getElem?_map] at hv
      obtain ⟨a, ha, rfl⟩ := Option.map_eq_some_iff.mp hv
      obtain ⟨q0, hq, hT0⟩ := amt_at hp ha
      have hT1 := e.tups _ _ (e1.tups _ _ hT0)
      refine ⟨a, _, rfl, .inl (.inl hT1), rfl, _, _, rfl, _, _, rfl, rfl, ?_⟩
      dsimp only
      have hq100 := hlow q0 (List.mem_of_getElem? hq)
      have htl : (qs.take i).length ≤ 2 := by rw [List.length_take]; omega
      have hwl := wdA_len (qs.take i)
      refine ⟨_, rfl, .inl ⟨rfl, _, SqL.of hw'⟩, _, rfl, _, rfl, _, rfl, ?_, by show 2 ≤ sizeLine; decide, fun ln hln => ⟨lw, ln, _, _, rfl, rfl, (Ext.new (ms := []) hln).keep _ _ hw' (by simp), upd_same, ?_, ?_⟩⟩
      · have h1 : ((q0.2 : Int)).natAbs.log2 ≤ q0.2 := by
          rw [Int.natAbs_natCast]
          exact Nat.log2_le_self _
        omega
      · rw [List.length_map, List.length_cons]
        show (wdA (qs.take i)).length + 1 + 2 ≤ sizeLine
        exact Nat.le_of_lt (Evl.sz_lt (by omega))
      · refine ⟨_, _, rfl, (e.trans (Ext.new hln)).trans (ext_lst ((Ext.new (ms := []) hln).keep _ _ hw' (by simp))), ?_⟩
        rw [upd_same, take_snoc hq, wdA_snoc]
        show some (HO.lst (List.map V.str (w0 :: wdA (qs.take i)) ++ [V.str q0.1, V.str (nS q0.2)])) = some (HO.lst (List.map V.str (w0 :: (wdA (qs.take i) ++ [q0.1, nS q0.2]))))
        rw [List.map_cons, List.map_cons, List.map_append]
        rfl
    · rintro σ' H' ⟨x4, x5, rfl, e, hw'⟩
      rw [List.length_map, hal, List.take_of_length_le (Nat.le_refl _), ← hw] at hw'
      exact ⟨_, rfl, q lw H' hlw0 (e1.over e hlw0) hw'⟩
end

end K15
namespace K15
open PySem PySem.Spec PyProof.Rows L2 He Tp ClX LiI

section
variable {P : Program} {w : World} {K : PySem.W.Frag} {mg : Str → Option Value} {base : Heap}
theorem ok_lines_of (T : Txt K mg) : Df P w K mg base CX0 4 "_lines_of" ["book"] (spLinesOf (cB K)) := by
  have D__fact_words := ok_fact_words (P := P) (w := w) (base := base) T
  obtain ⟨fk, fk_⟩ := T.fkinds
  obtain ⟨ft, ft_⟩ := T.fthirsts
  obtain ⟨fp, fp_⟩ := T.fpots
  obtain ⟨fc, fc_⟩ := T.fcloths
  obtain ⟨ff, ff_⟩ := T.ffacts
  obtain ⟨fi, fi_⟩ := T.f__iter__
  have Fk := ok_kinds (P := P) (w := w) (base := base) T fk_
  have Ft := ok_thirsts (P := P) (w := w) (base := base) T ft_
  have Fp := ok_pots (P := P) (w := w) (base := base) T fp_
  have Fc := ok_cloths (P := P) (w := w) (base := base) T fc_
  have Ff := ok_facts (P := P) (w := w) (base := base) T ff_
  have Fit0 := ok_biter (P := P) (w := w) (base := base) T fi_
  have bk : Binds K fk ["self"] [] := fk_.bindsN (fun _ _ _ _ _ _ us hl => match us, hl with | [_], _ => rfl)
  have bt : Binds K ft ["self"] [] := ft_.bindsN (fun _ _ _ _ _ _ us hl => match us, hl with | [_], _ => rfl)
  have bp : Binds K fp ["self"] [] := fp_.bindsN (fun _ _ _ _ _ _ us hl => match us, hl with | [_], _ => rfl)
  have bc : Binds K fc ["self"] [] := fc_.bindsN (fun _ _ _ _ _ _ us hl => match us, hl with | [_], _ => rfl)
  have bf : Binds K ff ["self"] [] := ff_.bindsN (fun _ _ _ _ _ _ us hl => match us, hl with | [_], _ => rfl)
  have bit : Binds K fi ["self"] [] := fi_.bindsN (fun _ _ _ _ _ _ us hl => match us, hl with | [_], _ => rfl)
  have oi : OwnIt K (cB K) (ma K (cB K) "__iter__") := ⟨T.m__iter__.at_, T.m__iter__.fn⟩
  refine Df.mk' T.g_lines_of T.f_lines_of (fun _ _ _ _ _ _ us hl => match us, hl with | [_], _ => rfl) fun fd F => F.ok sc__lines_of (fun vs H Q E h => ?_) (fun cdv A outer s H vs Q E hr h => ?_)
  · obtain ⟨p, i, A, k, t, ps, c, d, fs, ts, ds, us, rfl, _⟩ := h
    rfl
  · obtain ⟨p, i, A', k, t, ps, c, d, fs, ts, ds, us, rfl, b, hps, hf, q⟩ := h
    have nd := sc__lines_of.nd
    have hr1 := hr.mono (show 1 ≤ 3 by decide)
    have hrit := hr.mono (show 1 ≤ 3 by decide)
    have hr__fact_words := hr.mono (show 1 ≤ 3 by decide)
    refine ⟨_, PSs.nox (pss_one (ps_ret (pe_lst (StX.pa_star (pe_lc (own := [("name", 1), ("hold", 2)]) (g := (gTup K 2 (gCons (gName 1) (gCons (gName 2) gNil)))) (tt := tYes) (by rfl) nd (pi_list (pe_meth0 (pv 0) T.cl T.mkinds Fk hr1 bk .nil pass0)) (blkOk_by (own := [("name", 1), ("hold", 2)]) (N := n__lines_of) (sc := defScope s__lines_of) (by decide +kernel)) (fun _ _ _ _ _ => (pg_tup (by rfl) (pgs_cons (pg_name (i := 1) nd rfl (by first | exact Or.inl rfl | exact Or.inr rfl)) (pgs_cons (pg_name (i := 2) nd rfl (by first | exact Or.inl rfl | exact Or.inr rfl)) pgs_nil)))) (fun _ _ _ _ _ => pts_nil) (fun _ _ _ _ _ => (pe_lst (pa_cons pe_str (pa_cons (pv 1) (pa_cons (pv 2) pa_nil)))))) (StX.pa_star (pe_lc (own := [("more", 3), ("less", 4)]) (g := (gTup K 2 (gCons (gName 3) (gCons (gName 4) gNil)))) (tt := tYes) (by rfl) nd (pi_list (pe_meth0 (pv 0) T.cl T.mthirsts Ft hr1 bt .nil pass0)) (blkOk_by (own := [("more", 3), ("less", 4)]) (N := n__lines_of) (sc := defScope s__lines_of) (by decide +kernel)) (fun _ _ _ _ _ => (pg_tup (by rfl) (pgs_cons (pg_name (i := 3) nd rfl (by first | exact Or.inl rfl | exact Or.inr rfl)) (pgs_cons (pg_name (i := 4) nd rfl (by first | exact Or.inl rfl | exact Or.inr rfl)) pgs_nil)))) (fun _ _ _ _ _ => pts_nil) (fun _ _ _ _ _ => (pe_lst (pa_cons pe_str (pa_cons (pv 3) (pa_cons (pv 4) pa_nil)))))) (StX.pa_star (pe_lc (own := [("name", 1)]) (g := gName 1) (tt := tYes) (by rfl) nd (pi_list (pe_meth0 (pv 0) T.cl T.mpots Fp hr1 bp .nil pass0)) (blkOk_by (own := [("name", 1)]) (N := n__lines_of) (sc := defScope s__lines_of) (by decide +kernel)) (fun _ _ _ _ _ => pg_name (i := 1) nd rfl (by first | exact Or.inl rfl | exact Or.inr rfl)) (fun _ _ _ _ _ => pts_nil) (fun _ _ _ _ _ => (pe_lst (pa_cons pe_str (pa_cons (pv 1) pa_nil))))) (StX.pa_star (pe_lc (own := [("name", 1), ("kind", 5)]) (g := (gTup K 2 (gCons (gName 1) (gCons (gName 5) gNil)))) (tt := tYes) (by rfl) nd (pi_list (pe_meth0 (pv 0) T.cl T.mcloths Fc hr1 bc .nil pass0)) (blkOk_by (own := [("name", 1), ("kind", 5)]) (N := n__lines_of) (sc := defScope s__lines_of) (by decide +kernel)) (fun _ _ _ _ _ => (pg_tup (by rfl) (pgs_cons (pg_name (i := 1) nd rfl (by first | exact Or.inl rfl | exact Or.inr rfl)) (pgs_cons (pg_name (i := 5) nd rfl (by first | exact Or.inl rfl | exact Or.inr rfl)) pgs_nil)))) (fun _ _ _ _ _ => pts_nil) (fun _ _ _ _ _ => (pe_lst (pa_cons pe_str (pa_cons (pv 1) (pa_cons (pv 5) pa_nil)))))) (StX.pa_star (pe_lc (own := [("cloth", 6), ("pot", 7)]) (g := (gTup K 2 (gCons (gName 6) (gCons (gName 7) gNil)))) (tt := tYes) (by rfl) nd (pi_own (pv 0) oi Fit0 hrit bit pass0) (blkOk_by (own := [("cloth", 6), ("pot", 7)]) (N := n__lines_of) (sc := defScope s__lines_of) (by decide +kernel)) (fun _ _ _ _ _ => (pg_tup (by rfl) (pgs_cons (pg_name (i := 6) nd rfl (by first | exact Or.inl rfl | exact Or.inr rfl)) (pgs_cons (pg_name (i := 7) nd rfl (by first | exact Or.inl rfl | exact Or.inr rfl)) pgs_nil)))) (fun _ _ _ _ _ => pts_nil) (fun _ _ _ _ _ => (pe_lst (pa_cons pe_str (pa_cons (pv 6) (pa_cons (pv 7) pa_nil)))))) (StX.pa_star (pe_lc (own := [("fact", 8)]) (g := gName 8) (tt := tYes) (by rfl) nd (pi_list (pe_meth0 (pv 0) T.cl T.mfacts Ff hr1 bf .nil pass0)) (blkOk_by (own := [("fact", 8)]) (N := n__lines_of) (sc := defScope s__lines_of) (by decide +kernel)) (fun _ _ _ _ _ => pg_name (i := 8) nd rfl (by first | exact Or.inl rfl | exact Or.inr rfl)) (fun _ _ _ _ _ => pts_nil) (fun _ _ _ _ _ => (pe_cd D__fact_words hr__fact_words (by rfl) pass0 (pa_cons (pv 8) pa_nil)))) pa_nil))))))))), ?_⟩
    have hk8 := b.G.k8
    have hc8 := b.G.c8
    refine ⟨_, rfl, p, A'.dx, _, rfl, b.B.ob, rfl, p, i, A', _, _, _, _, _, _, rfl, b.B, fun a0 as0 H0 ha0 e0 hl0 hp0 => ?_⟩
    have hq0 := prs_tv hp0
    have hn0 := Paired.length hq0
    refine ⟨a0, rfl, ⟨_, SqL.of hl0⟩, fun R0 hR0 => lc_pairs (K := K) (w := "kind") hl0 hq0 hR0 (by omega) (fun _ _ => rfl) (fun _ _ => rfl) (fun _ _ => rfl) fun G0 r0 f0 hr0 ln0 _ => ?_⟩
    have g0 : Ext [] H G0 := e0.trans f0
    have rl0 := ln0.len
    rw [List.length_map] at rl0
    refine ⟨R0, _, rfl, .inr (SqL.of hr0), ?_⟩
    clear hl0 hp0 hq0 f0 e0 ha0 hR0
    -- thirsts
    have b1 := b.ext g0
    have htl := b.tl
    refine ⟨_, rfl, p, A'.dx, _, rfl, b1.B.ob, rfl, p, i, A', _, _, _, _, _, _, t, rfl, b1.B, b1.T, htl, fun a1 H1 ha1 e1 row1 => ?_⟩
    obtain ⟨as1, hl1, hq1⟩ := row1
    have hn1 := Paired.length hq1
    refine ⟨a1, rfl, ⟨_, SqL.of hl1⟩, fun R1 hR1 => lc_pairs (K := K) (w := "thirst") hl1 hq1 hR1 (by omega) (fun _ _ => rfl) (fun _ _ => rfl) (fun _ _ => rfl) fun G1 r1 f1 hr1 ln1 _ => ?_⟩
    have g1 : Ext [] G0 G1 := e1.trans f1
    have rl1 := ln1.len
    rw [List.length_map] at rl1
    have ln01 := ln0.ext g1
    have g01 := g0.trans g1
    refine ⟨R1, _, rfl, .inr (SqL.of hr1), ?_⟩
    clear hl1 hq1 f1 e1 ha1 hR1 g1 b1 hr0
    -- pots
    have b2 := b.ext g01
    refine ⟨_, rfl, p, A'.dx, _, rfl, b2.B.ob, rfl, p, i, A', _, _, _, _, _, _, rfl, b2.B, fun a2 ha2 => ?_⟩
    have e2 : Ext [] G1 (upd G1 a2 (.lst (ps.map V.str))) := Ext.new ha2
    have hl2 : (upd G1 a2 (.lst (ps.map V.str))) a2 = some (.lst (ps.map V.str)) := upd_same
    generalize upd G1 a2 (.lst (ps.map V.str)) = H2 at e2 hl2
    refine ⟨a2, rfl, ⟨_, SqL.of hl2⟩, fun R2 hR2 => lc_strs (K := K) (w := "pot") hl2 hR2 hps (fun _ => rfl) (fun _ => rfl) fun G2 r2 f2 hr2 ln2 _ => ?_⟩
    have g2 : Ext [] G1 G2 := e2.trans f2
    have rl2 := ln2.len
    rw [List.length_map] at rl2
    have ln02 := ln01.ext g2
    have ln12 := ln1.ext g2
    have g02 := g01.trans g2
    refine ⟨R2, _, rfl, .inr (SqL.of hr2), ?_⟩
    clear hl2 f2 e2 ha2 hR2 g2 b2 hr1 ln0 ln01 ln1
    -- cloths
    have b3 := b.ext g02
    refine ⟨_, rfl, p, A'.dx, _, rfl, b3.B.ob, rfl, p, i, A', _, _, _, _, _, _, rfl, b3.B, fun a3 as3 H3 ha3 e3 hl3 hp3 => ?_⟩
    have hq3 := prs_tv hp3
    have hn3 := Paired.length hq3
    refine ⟨a3, rfl, ⟨_, SqL.of hl3⟩, fun R3 hR3 => lc_pairs (K := K) (w := "cloth") hl3 hq3 hR3 (by omega) (fun _ _ => rfl) (fun _ _ => rfl) (fun _ _ => rfl) fun G3 r3 f3 hr3 ln3 _ => ?_⟩
    have g3 : Ext [] G2 G3 := e3.trans f3
    have rl3 := ln3.len
    rw [List.length_map] at rl3
    have ln03 := ln02.ext g3
    have ln13 := ln12.ext g3
    have ln23 := ln2.ext g3
    have g03 := g02.trans g3
    refine ⟨R3, _, rfl, .inr (SqL.of hr3), ?_⟩
    clear hl3 hq3 hp3 f3 e3 ha3 hR3 g3 b3 hr2 ln02 ln12 ln2
    -- dips
    have b4 := b.ext g03
    obtain ⟨as4, hds, hq4⟩ := id b4.D
    have hl4 := b4.B.ld
    rw [hds] at hl4
    have hn4 := Paired.length hq4
    have hdl := b.dl
    refine ⟨_, rfl, p, A'.dx, _, A'.ld, rfl, b4.B.ob, fun n => ⟨p, i, A', _, _, _, _, _, _, rfl, b4.B, fun it h1 h2 => ⟨it, rfl, h1, h2, rfl⟩⟩, fun R4 hR4 => lc_pairs (K := K) (w := "dip") hl4 hq4 hR4 (by omega) (fun _ _ => rfl) (fun _ _ => rfl) (fun _ _ => rfl) fun G4 r4 g4 hr4 ln4 _ => ?_⟩
    have rl4 := ln4.len
    rw [List.length_map] at rl4
    have ln04 := ln03.ext g4
    have ln14 := ln13.ext g4
    have ln24 := ln23.ext g4
    have ln34 := ln3.ext g4
    have g04 := g03.trans g4
    refine ⟨R4, _, rfl, .inr (SqL.of hr4), ?_⟩
    clear hl4 hq4 hR4 g4 b4 hr3 ln03 ln13 ln23 ln3
    -- facts
    have b5 := b.ext g04
    have hfl := b.fl
    refine ⟨_, rfl, p, A'.dx, _, rfl, b5.B.ob, rfl, p, i, A', _, _, _, _, _, _, rfl, b5.B, fun a5 ha5 => ?_⟩
    have e5 : Ext [] G4 (upd G4 a5 (.lst us)) := Ext.new ha5
    have hl5 : (upd G4 a5 (.lst us)) a5 = some (.lst us) := upd_same
    have F5 := b5.F.ext e5
    have hul := F5.len
    generalize upd G4 a5 (.lst us) = H5 at e5 hl5 F5
    refine ⟨a5, rfl, ⟨_, SqL.of hl5⟩, fun R5 hR5 => lc_list (xs := us) (fun n G => Ext [] H5 G ∧ ∃ rs, G R5 = some (.lst (rs.map V.ref)) ∧ LnP G rs ((fs.take n).map fwD) ∧ R5 ∉ rs) ⟨Ext.new hR5, [], upd_same, .nil, by simp⟩ ?_ ?_ ?_⟩
    · rintro n G _ ⟨e, _⟩
      exact SqL.of (e.keep _ _ hl5 (by simp))
    · rintro n v G hv ⟨e, rs, hrs, hln, hnr⟩
      obtain ⟨u, f, rfl, hfi, hfu⟩ := (F5.ext e).get hv
      refine ⟨wipe1, ?_⟩
      refine tyes ?_
      refine ⟨_, rfl, u, f, rfl, hfu, hf f (List.mem_of_getElem? hfi), fun l G2 hl6 e6 hw6 => ?_⟩
      have hrs2 := e6.keep _ _ hrs (by simp)
      have hRl : R5 ≠ l := ne_of_none hrs hl6
      have hrl := hln.len
      rw [List.length_map, List.length_take] at hrl
      have hln2 : LnP G2 (rs ++ [l]) ((fs.take n).map fwD ++ [fwD f]) := (hln.ext e6).snoc hw6
      refine ⟨_, hrs2, by rw [List.length_map]; exact Evl.sz_lt (by omega), (e.trans e6).fresh hR5, rs ++ [l], by rw [upd_same, List.map_append]; rfl, ?_, ?_⟩
      · rw [take_snoc hfi, List.map_append]
        exact ln_off hln2 (by simp [hnr, hRl])
      · simp [hnr, hRl]
    · rintro G5 ⟨f5, r5, hr5, ln5, _⟩
      rw [List.take_of_length_le (by omega)] at ln5
      have g5 := e5.trans f5
      have rl5 := ln5.len
      rw [List.length_map] at rl5
      refine ⟨R5, _, rfl, .inr (SqL.of hr5), ?_⟩
      have kl : k.length ≤ 8 := hk8
      have cl : c.length ≤ 8 := hc8
      refine ⟨?_, fun l hl => ?_⟩
      · simp only [List.length_append, List.length_map, List.length_nil]
        exact Nat.le_of_lt (Evl.sz_lt (by omega))
      · have ez : Ext [] G5 (upd G5 l (.lst (r0.map V.ref ++ (r1.map V.ref ++ (r2.map V.ref ++ (r3.map V.ref ++ (r4.map V.ref ++ (r5.map V.ref ++ [])))))))) := Ext.new hl
        have gz := g5.trans ez
        refine q l (r0 ++ (r1 ++ (r2 ++ (r3 ++ (r4 ++ r5))))) _ ((g04.trans g5).none hl (by simp)) ((g04.trans g5).trans ez) ?_ ?_
        · rw [upd_same]
          simp only [List.map_append, List.append_nil]
        · exact (ln04.ext gz).app ((ln14.ext gz).app ((ln24.ext gz).app ((ln34.ext gz).app ((ln4.ext gz).app (ln5.ext ez)))))
end

end K15
namespace K15
open PySem PySem.Spec PyProof.Rows L2 He Tp ClX LiI

section
variable {P : Program} {w : World} {K : PySem.W.Frag} {mg : Str → Option Value} {base : Heap}
theorem ok_write_book (T : Txt K mg) : Df P w K mg base CX0 5 "write_book" ["book"] (spWrite (cB K)) := by
  have D__lines_of := ok_lines_of (P := P) (w := w) (base := base) T
  refine Df.mk' T.gwrite_book T.fwrite_book (fun _ _ _ _ _ _ us hl => match us, hl with | [_], _ => rfl) fun fd F => F.ok sc_write_book (fun vs H Q E h => ?_) (fun cdv A outer s H vs Q E hr h => ?_)
  · obtain ⟨p, i, A, k, t, ps, c, d, fs, ts, ds, us, rfl, _⟩ := h
    rfl
  · obtain ⟨p, i, A', k, t, ps, c, d, fs, ts, ds, us, rfl, b, hps, hf, hok, q⟩ := h
    have nd := sc_write_book.nd
    have hr__lines_of := hr
    refine ⟨_, PSs.nox (pss_one (ps_ret (pe_join pe_str (pe_lc (own := [("words", 1)]) (g := gName 1) (tt := tYes) (by rfl) nd (pi_list (pe_cd D__lines_of hr__lines_of (by rfl) pass0 (pa_cons (pv 0) pa_nil))) (blkOk_by (own := [("words", 1)]) (N := n_write_book) (sc := defScope s_write_book) (by decide +kernel)) (fun _ _ _ _ _ => pg_name (i := 1) nd rfl (by first | exact Or.inl rfl | exact Or.inr rfl)) (fun _ _ _ _ _ => pts_nil) (fun _ _ _ _ _ => (pe_op op_add_str (show PE _ _ (tM1 (rJoin K) _ _) from pe_join pe_str (pv 1)) pe_str)))))), ?_⟩
    refine ⟨⟨_, rfl⟩, _, rfl, p, i, A', k, t, ps, c, d, fs, ts, ds, us, rfl, b, hps, hf, fun l as H1 hl e1 hl1 ln => ?_⟩
    have hn := ln.len
    have hrl := rows_len (k := k) (t := t) (p := ps) (c := c) (d := d) (fs := fs)
    have hk8 := b.G.k8
    have hc8 := b.G.c8
    have htl := b.tl
    have hdl := b.dl
    have hfl := b.fl
    generalize hrw : rowsD k t ps c d fs = rows at ln hn hrl hok q
    refine ⟨l, rfl, ⟨_, SqL.of hl1⟩, fun R hR => lc_list (xs := as.map V.ref) (fun n G => Ext [] H1 G ∧ G R = some (.lst (((rows.take n).map lineD).map V.str))) ⟨Ext.new hR, upd_same⟩ ?_ ?_ ?_⟩
    · rintro n G _ ⟨e, _⟩
      exact SqL.of (e.keep _ _ hl1 (by simp))
    · rintro n v G hv ⟨e, hg⟩
      rw [List.getElem?_map] at hv
      obtain ⟨u, hu, rfl⟩ := Option.map_eq_some_iff.mp hv
      obtain ⟨ws, hws, hT⟩ := paired_getX ln hu
      have how := hok ws (List.mem_of_getElem? hws)
      have h1 := row_sum how
      have h2 : (Txt.join (" " : Str) ws).length ≤ 505 := line_len how
      refine ⟨wipe1, ?_⟩
      refine tyes ?_
      refine ⟨⟨_, rfl⟩, _, rfl, _, u, ws, rfl, rfl, .inl (SqL.of (e.keep _ _ hT (by simp))), ?_, ?_⟩
      · have h3 := how.1
        rw [show (" " : Str).length = 1 from sp_len]
        omega
      · refine ⟨_, _, rfl, rfl, ?_, ?_⟩
        · rw [show ("\n" : Str).length = 1 from nl_len]
          exact Nat.le_of_lt (Evl.sz_lt (by omega))
        · refine ⟨_, hg, ?_, e.fresh hR, ?_⟩
          · rw [List.length_map, List.length_map, List.length_take]
            exact Evl.sz_lt (by omega)
          · rw [upd_same, take_snoc hws, List.map_append, List.map_append]
            rfl
    · rintro G ⟨e, hg⟩
      rw [List.length_map, hn, List.take_of_length_le (Nat.le_refl _)] at hg
      have h1 := lines_sum hok
      refine ⟨_, R, rows.map lineD, rfl, rfl, .inl (SqL.of hg), ?_, ?_⟩
      · show ((rows.map lineD).map (·.length)).sum + (rows.map lineD).length * 0 ≤ 16777216
        omega
      · rw [show Txt.join ("" : Str) (rows.map lineD) = catS (rows.map lineD) from join_nil _]
        exact q G (e1.trans e)
end

end K15
namespace K15
open PySem PySem.Spec PyProof.Rows L2 He Tp ClX LiI

section
variable {P : Program} {w : World} {K : PySem.W.Frag} {mg : Str → Option Value} {base : Heap}
theorem ok_llines (T : Txt K mg) : Df P w K mg base CX0 1 "_law_lines" ["_law_model_here"] spLLines := by
  refine Df.mk' T.g_law_lines T.f_law_lines (fun _ _ _ _ _ _ us hl => match us, hl with | [_], _ => rfl) fun fd F => F.ok sc__law_lines (fun vs H Q E h => ?_) (fun cdv A outer s H vs Q E hr h => ?_)
  · obtain ⟨a, k, t, p, c, d, ms, fs, rfl, _⟩ := h
    rfl
  · obtain ⟨a, k, t, p, c, d, ms, fs, rfl, M, W, ⟨lk, lt, lp, lc, ld, lf⟩, hlow, hk, ht, hp, hc, hd, hf, q⟩ := h
    have nd := sc__law_lines.nd
    refine ⟨_, PSs.nox (pss_cons (ps_set (i := 1) nd rfl (by first | exact Or.inl rfl | exact Or.inr rfl) (pe_lst (pa_cons (pe_lc (own := [("_law_row", 4)]) (g := gName 4) (tt := tYes) (by rfl) nd (pi_list (pe_ix ix_list (pv 0) pe_int (fun _ _ => rfl))) (blkOk_by (own := [("_law_row", 4)]) (N := n__law_lines) (sc := defScope s__law_lines) (by decide +kernel)) (fun _ _ _ _ _ => pg_name (i := 4) nd rfl (by first | exact Or.inl rfl | exact Or.inr rfl)) (fun _ _ _ _ _ => pts_nil) (fun _ _ _ _ _ => (pe_op op_add_str (pe_op op_add_str (pe_op op_add_str pe_str (pe_ix (show IxR _ (rIxT K) from ix_tup) (pv 4) pe_int (fun _ _ => rfl))) pe_str) (pe_ix (show IxR _ (rIxT K) from ix_tup) (pv 4) pe_int (fun _ _ => rfl))))) pa_nil)))
   (pss_cons (ps_expr (pe_bm PySem.F.plainAttrs_list PySem.F.slot_list_append PySem.F.type_list_append mt_append (pv 1) (pa_cons (pe_lc (own := [("_law_row", 4)]) (g := gName 4) (tt := tYes) (by rfl) nd (pi_list (pe_ix ix_list (pv 0) pe_int (fun _ _ => rfl))) (blkOk_by (own := [("_law_row", 4)]) (N := n__law_lines) (sc := defScope s__law_lines) (by decide +kernel)) (fun _ _ _ _ _ => pg_name (i := 4) nd rfl (by first | exact Or.inl rfl | exact Or.inr rfl)) (fun _ _ _ _ _ => pts_nil) (fun _ _ _ _ _ => (pe_op op_add_str (pe_op op_add_str (pe_op op_add_str pe_str (pe_ix (show IxR _ (rIxT K) from ix_tup) (pv 4) pe_int (fun _ _ => rfl))) pe_str) (pe_ix (show IxR _ (rIxT K) from ix_tup) (pv 4) pe_int (fun _ _ => rfl))))) pa_nil)))
   (pss_cons (ps_expr (pe_bm PySem.F.plainAttrs_list PySem.F.slot_list_append PySem.F.type_list_append mt_append (pv 1) (pa_cons (pe_lc (own := [("_law_name_here", 5)]) (g := gName 5) (tt := tYes) (by rfl) nd (pi_list (pe_ix ix_list (pv 0) pe_int (fun _ _ => rfl))) (blkOk_by (own := [("_law_name_here", 5)]) (N := n__law_lines) (sc := defScope s__law_lines) (by decide +kernel)) (fun _ _ _ _ _ => pg_name (i := 5) nd rfl (by first | exact Or.inl rfl | exact Or.inr rfl)) (fun _ _ _ _ _ => pts_nil) (fun _ _ _ _ _ => (pe_op op_add_str pe_str (pv 5)))) pa_nil)))
   (pss_cons (ps_expr (pe_bm PySem.F.plainAttrs_list PySem.F.slot_list_append PySem.F.type_list_append mt_append (pv 1) (pa_cons (pe_lc (own := [("_law_row", 4)]) (g := gName 4) (tt := tYes) (by rfl) nd (pi_list (pe_ix ix_list (pv 0) pe_int (fun _ _ => rfl))) (blkOk_by (own := [("_law_row", 4)]) (N := n__law_lines) (sc := defScope s__law_lines) (by decide +kernel)) (fun _ _ _ _ _ => pg_name (i := 4) nd rfl (by first | exact Or.inl rfl | exact Or.inr rfl)) (fun _ _ _ _ _ => pts_nil) (fun _ _ _ _ _ => (pe_op op_add_str (pe_op op_add_str (pe_op op_add_str pe_str (pe_ix (show IxR _ (rIxT K) from ix_tup) (pv 4) pe_int (fun _ _ => rfl))) pe_str) (pe_ix (show IxR _ (rIxT K) from ix_tup) (pv 4) pe_int (fun _ _ => rfl))))) pa_nil)))
   (pss_cons (ps_expr (pe_bm PySem.F.plainAttrs_list PySem.F.slot_list_append PySem.F.type_list_append mt_append (pv 1) (pa_cons (pe_lc (own := [("_law_row", 4)]) (g := gName 4) (tt := tYes) (by rfl) nd (pi_list (pe_ix ix_list (pv 0) pe_int (fun _ _ => rfl))) (blkOk_by (own := [("_law_row", 4)]) (N := n__law_lines) (sc := defScope s__law_lines) (by decide +kernel)) (fun _ _ _ _ _ => pg_name (i := 4) nd rfl (by first | exact Or.inl rfl | exact Or.inr rfl)) (fun _ _ _ _ _ => pts_nil) (fun _ _ _ _ _ => (pe_op op_add_str (pe_op op_add_str (pe_op op_add_str pe_str (pe_ix (show IxR _ (rIxT K) from ix_tup) (pv 4) pe_int (fun _ _ => rfl))) pe_str) (pe_ix (show IxR _ (rIxT K) from ix_tup) (pv 4) pe_int (fun _ _ => rfl))))) pa_nil)))
   (pss_cons (ps_set (i := 2) nd rfl (by first | exact Or.inl rfl | exact Or.inr rfl) (pe_lst pa_nil))
   (pss_cons (ps_for PassesOwn.never rfl (pi_list (pe_ix ix_list (pv 0) pe_int (fun _ _ => rfl))) (pg_name (i := 3) nd rfl (by first | exact Or.inl rfl | exact Or.inr rfl))
   (pss_one (ps_expr (pe_bm PySem.F.plainAttrs_list PySem.F.slot_list_append PySem.F.type_list_append mt_append (pv 2) (pa_cons (pe_join pe_str (pe_op op_cat (pe_lst (pa_cons (pe_ix ix_tup (pv 3) pe_int (fun _ _ => rfl)) pa_nil)) (pe_lc (own := [("_law_amount", 6)]) (g := gName 6) (tt := tYes) (by rfl) nd (pi_tup (pe_slice sl_tup (pv 3) (po_some pe_int) po_none)) (blkOk_by (own := [("_law_amount", 6)]) (N := n__law_lines) (sc := defScope s__law_lines) (by decide +kernel)) (fun _ _ _ _ _ => pg_name (i := 6) nd rfl (by first | exact Or.inl rfl | exact Or.inr rfl)) (fun _ _ _ _ _ => pts_nil) (fun _ _ _ _ _ => (pe_op op_add_str (pe_op op_add_str (pe_ix (show IxR _ (rIxT K) from ix_tup) (pv 6) pe_int (fun _ _ => rfl)) pe_str) (pe_callTy call_str_int (by rfl) T.bstr (by decide +kernel) (pa_cons (pe_ix (show IxR _ (rIxT K) from ix_tup) (pv 6) pe_int (fun _ _ => rfl)) pa_nil))))))) pa_nil)))))
   (pss_cons (ps_expr (pe_bm PySem.F.plainAttrs_list PySem.F.slot_list_append PySem.F.type_list_append mt_append (pv 1) (pa_cons (pv 2) pa_nil)))
   (pss_one (ps_ret (pv 1))))))))))), ?_⟩
    -- kinds
    obtain ⟨as0, h0, p0⟩ := M.r0
    have n0 := Paired.length p0
    refine ⟨_, rfl, a.M, _, 0, .ref a.m0, rfl, rfl, SqL.of M.M, rfl, a.m0, rfl, ⟨_, SqL.of h0⟩, fun R0 hR0 => lc_rows (K := K) h0 p0 hR0 (by omega) (by decide +kernel) hk (fun _ => rfl) (fun _ => rfl) fun G0 e0 hz0 => ?_⟩
    refine ⟨by show 1 ≤ sizeLine; decide, fun lg hlg => ?_⟩
    refine gset ?_
    dsimp only
    have S1 : GrS H lg (upd G0 lg (.lst [.ref R0])) [R0] [k.map fun q => ("kind " : Str) ++ q.1 ++ sp1 ++ q.2] := by
      have hne : R0 ≠ lg := ne_of_none hz0 hlg
      exact ⟨e0.trans (Ext.new hlg), upd_same, .cons (by rw [upd_ne hne]; exact hz0) .nil, by simpa using Ne.symm hne, e0.none hlg (by simp)⟩
    generalize upd G0 lg (.lst [.ref R0]) = H1 at S1 ⊢
    clear hz0 e0 hR0 hlg
    -- thirsts
    have M1 := M.ext S1.x fun _ _ => by simp
    obtain ⟨as1, h1, p1⟩ := M1.r1
    have n1 := Paired.length p1
    refine ⟨_, rfl, .inl ⟨rfl, _, SqL.of S1.g⟩, _, rfl, a.M, _, 1, .ref a.m1, rfl, rfl, SqL.of M1.M, rfl, a.m1, rfl, ⟨_, SqL.of h1⟩, fun R1 hR1 => lc_rows (K := K) h1 p1 hR1 (by omega) (by decide +kernel) ht (fun _ => rfl) (fun _ => rfl) fun G1 e1 hz1 => ?_⟩
    refine ⟨lg, _, _, rfl, rfl, S1.lst e1, by show 1 < sizeLine; exact Evl.sz_lt (by decide), ?_⟩
    have S2 := S1.step e1 hR1 hz1
    dsimp only
    generalize upd G1 lg (.lst ([R0].map V.ref ++ [.ref R1])) = H2 at S2 ⊢
    clear M1 h1 p1 hz1 e1 hR1 S1
    -- pots
    have M2 := M.ext S2.x fun _ _ => by simp
    have h2 := M2.r2
    refine ⟨_, rfl, .inl ⟨rfl, _, SqL.of S2.g⟩, _, rfl, a.M, _, 2, .ref a.m2, rfl, rfl, SqL.of M2.M, rfl, a.m2, rfl, ⟨_, SqL.of h2⟩, fun R2 hR2 => lc_list (xs := p.map V.str) (fun n G => Ext [] H2 G ∧ G R2 = some (.lst (((p.take n).map fun z => ("pot " : Str) ++ z).map V.str))) ⟨Ext.new hR2, upd_same⟩ ?_ ?_ ?_⟩
    · rintro n G _ ⟨e, _⟩
      exact SqL.of (e.keep _ _ h2 (by simp))
    · rintro n x G hx ⟨e, hg⟩
      rw [List.getElem?_map] at hx
      obtain ⟨z, hz, rfl⟩ := Option.map_eq_some_iff.mp hx
      have hz1 := hp z (List.mem_of_getElem? hz)
      refine ⟨wipe1, ?_⟩
      refine tyes ?_
      refine ⟨_, rfl, _, _, rfl, rfl, ?_, _, hg, ?_, e.fresh hR2, ?_⟩
      · have : ("pot " : Str).length = 4 := by decide +kernel
        exact Nat.le_of_lt (Evl.sz_lt (by omega))
      · rw [List.length_map, List.length_map, List.length_take]
        exact Evl.sz_lt (by omega)
      · rw [upd_same, take_snoc hz, List.map_append, List.map_append]
        rfl
    rintro G2 ⟨e2, hz2⟩
    rw [List.length_map, List.take_of_length_le (Nat.le_refl _)] at hz2
    refine ⟨lg, _, _, rfl, rfl, S2.lst e2, by show 2 < sizeLine; exact Evl.sz_lt (by decide), ?_⟩
    have S3 := S2.step e2 hR2 hz2
    dsimp only
    generalize upd G2 lg (.lst (([R0] ++ [R1]).map V.ref ++ [.ref R2])) = H3 at S3 ⊢
    clear M2 h2 hz2 e2 hR2 S2
    -- cloths
    have M3 := M.ext S3.x fun _ _ => by simp
    obtain ⟨as3, h3, p3⟩ := M3.r3
    have n3 := Paired.length p3
    refine ⟨_, rfl, .inl ⟨rfl, _, SqL.of S3.g⟩, _, rfl, a.M, _, 3, .ref a.m3, rfl, rfl, SqL.of M3.M, rfl, a.m3, rfl, ⟨_, SqL.of h3⟩, fun R3 hR3 => lc_rows (K := K) h3 p3 hR3 (by omega) (by decide +kernel) hc (fun _ => rfl) (fun _ => rfl) fun G3 e3 hz3 => ?_⟩
    refine ⟨lg, _, _, rfl, rfl, S3.lst e3, by show 3 < sizeLine; exact Evl.sz_lt (by decide), ?_⟩
    have S4 := S3.step e3 hR3 hz3
    dsimp only
    generalize upd G3 lg (.lst ((([R0] ++ [R1]) ++ [R2]).map V.ref ++ [.ref R3])) = H4 at S4 ⊢
    clear M3 h3 p3 hz3 e3 hR3 S3
    -- dips
    have M4 := M.ext S4.x fun _ _ => by simp
    obtain ⟨as4, h4, p4⟩ := M4.r4
    have n4 := Paired.length p4
    refine ⟨_, rfl, .inl ⟨rfl, _, SqL.of S4.g⟩, _, rfl, a.M, _, 4, .ref a.m4, rfl, rfl, SqL.of M4.M, rfl, a.m4, rfl, ⟨_, SqL.of h4⟩, fun R4 hR4 => lc_rows (K := K) h4 p4 hR4 (by omega) (by decide +kernel) hd (fun _ => rfl) (fun _ => rfl) fun G4 e4 hz4 => ?_⟩
    refine ⟨lg, _, _, rfl, rfl, S4.lst e4, by show 4 < sizeLine; exact Evl.sz_lt (by decide), ?_⟩
    have S5 := S4.step e4 hR4 hz4
    dsimp only
    generalize upd G4 lg (.lst (((([R0] ++ [R1]) ++ [R2]) ++ [R3]).map V.ref ++ [.ref R4])) = H5 at S5 ⊢
    clear M4 h4 p4 hz4 e4 hR4 S4
    -- facts
    refine ⟨by show 0 ≤ sizeLine; decide, fun lf' hlf => ?_⟩
    refine gset ?_
    dsimp only
    have M5 := M.ext (S5.x.trans (Ext.new (o := .lst []) hlf)) fun _ _ => by simp
    have W5 := W.ext (S5.x.trans (Ext.new (o := .lst []) hlf))
    have hml := W.len
    have m5f : a.m5 ≠ lf' := Ne.symm ((M.ext S5.x fun _ _ => by simp).new hlf a.m5 (by simp))
    refine ⟨_, rfl, a.M, _, 5, .ref a.m5, rfl, rfl, SqL.of M5.M, rfl, a.m5, rfl, ⟨_, SqL.of M5.r5⟩, for_list (xs := ms) (fun n σ' G => ∃ x3, σ' = [some (.ref a.M), some (.ref lg), some (.ref lf'), x3, none, none, none] ∧ Ext [] H5 G ∧ G lf' = some (.lst (((fs.take n).map fun f => Txt.join sp1 (fwD f)).map V.str))) ⟨none, rfl, Ext.new hlf, upd_same⟩ ?_ ?_ ?_⟩
    · rintro n σ' G _ ⟨_, _, e, _⟩
      exact SqL.of ((M.ext (S5.x.trans e) fun _ _ => by simp).r5)
    · rintro n v σ' G hv ⟨x3, rfl, e, hg⟩
      obtain ⟨u, f, rfl, hfi, hfu⟩ := (W.ext (S5.x.trans e)).get hv
      have hfm := List.mem_of_getElem? hfi
      have hlo := hlow f hfm
      have hfz := hf f hfm
      obtain ⟨w0, as, qs, hT, hP, hw, hlq, hal2, hal1⟩ := fk_parts hfu
      rw [hw] at hfz
      have hal := amt_len hP
      have hw0 := hfz w0 (List.mem_cons_self ..)
      have hsp := sp_len
      refine gset ?_
      dsimp only
      have hane : as.map V.ref ≠ [] := fun h => by
        rw [List.map_eq_nil_iff.mp h] at hal1
        exact absurd hal1 (by decide)
      refine ⟨_, rfl, .inl ⟨rfl, _, SqL.of hg⟩, ⟨_, rfl⟩, _, rfl, u, _, 0, .str w0, rfl, rfl, .inl (.inl hT), atI_nat (show (V.str w0 :: as.map V.ref)[0]? = some (V.str w0) from rfl), by show 1 ≤ sizeLine; decide, fun l1 hl1 => ?_⟩
      have g1 : Ext [] G (upd G l1 (.lst [.str w0])) := Ext.new hl1
      have hl1' : (upd G l1 (.lst [.str w0])) l1 = some (.lst [.str w0]) := upd_same
      generalize upd G l1 (.lst [.str w0]) = G1 at g1 hl1' ⊢
      refine ⟨_, rfl, 1, rfl, u, _, rfl, .inl (.inl (g1.tups _ _ hT)), cut_rest_n hane, fun p1 hp1 => ?_⟩
      have g2 : Ext [] G1 (upd G1 p1 (.tup (cutV (.str w0 :: as.map V.ref) (some 1) none))) := Ext.new hp1
      have hp1' : (upd G1 p1 (.tup (cutV (.str w0 :: as.map V.ref) (some 1) none))) p1 = some (.tup (as.map V.ref)) := by rw [upd_same, cut_rest]
      have hl2' := g2.keep _ _ hl1' (by simp)
      generalize upd G1 p1 (.tup (cutV (.str w0 :: as.map V.ref) (some 1) none)) = G2 at g2 hp1' hl2' ⊢
      have g02 := g1.trans g2
      refine ⟨p1, rfl, ⟨_, .inl (.inl hp1')⟩, fun R hR => lc_tup (K := K) (a := p1) (xs := as.map V.ref) (fun m G' => Ext [] G2 G' ∧ G' R = some (.lst (((qs.take m).map fun q => q.1 ++ sp1 ++ nS q.2).map V.str))) ⟨Ext.new hR, upd_same⟩ ?_ ?_ ?_⟩
      · rintro m G' _ ⟨e', _⟩
        exact .inl (.inl (e'.tups _ _ hp1'))
      · rintro m y G' hy ⟨e', hg'⟩
        rw [List.getElem?_map] at hy
        obtain ⟨ua, hua, rfl⟩ := Option.map_eq_some_iff.mp hy
        obtain ⟨q0, hq0, hqT⟩ := amt_at hP hua
        have hqT' := (g02.trans e').tups _ _ hqT
        have hqm := List.mem_of_getElem? hq0
        have hw1 := hfz q0.1 (List.mem_cons_of_mem _ (wd_mem hqm).1)
        have hw2 := nS_len q0.2 (hlq hlo q0 hqm)
        refine ⟨wipe1, ?_⟩
        refine tyes ?_
        refine ⟨_, rfl, ua, _, 0, _, rfl, rfl, .inl (.inl hqT'), rfl, _, _, rfl, rfl, ?_, _, rfl, ua, _, 1, _, rfl, rfl, .inl (.inl hqT'), rfl, _, rfl, ?_, _, _, rfl, rfl, ?_, _, hg', ?_, e'.fresh hR, ?_⟩
        · rw [show (" " : Str).length = 1 from sp_len]
          exact Nat.le_of_lt (Evl.sz_lt (by omega))
        · have h1 : ((q0.2 : Int)).natAbs.log2 ≤ q0.2 := by
            rw [Int.natAbs_natCast]
            exact Nat.log2_le_self _
          have := hlq hlo q0 hqm
          omega
        · show (q0.1 ++ (" " : Str)).length + (nS q0.2).length ≤ sizeLine
          rw [str_len, show (" " : Str).length = 1 from sp_len]
          exact Nat.le_of_lt (Evl.sz_lt (by omega))
        · rw [List.length_map, List.length_map, List.length_take]
          exact Evl.sz_lt (by omega)
        · rw [upd_same, take_snoc hq0, List.map_append, List.map_append]
          rfl
      · rintro G3 ⟨e3, hg3⟩
        rw [List.length_map, hal, List.take_of_length_le (Nat.le_refl _)] at hg3
        refine ⟨l1, R, _, _, rfl, rfl, e3.keep _ _ hl2' (by simp), hg3, ?_, fun l2 hl2 => ?_⟩
        · rw [List.length_map, List.length_map]
          show 1 + qs.length ≤ sizeLine
          exact Nat.le_of_lt (Evl.sz_lt (by omega))
        have g4 : Ext [] G3 (upd G3 l2 (.lst ([V.str w0] ++ (qs.map fun q => q.1 ++ sp1 ++ nS q.2).map V.str))) := Ext.new hl2
        have hl2'' : (upd G3 l2 (.lst ([V.str w0] ++ (qs.map fun q => q.1 ++ sp1 ++ nS q.2).map V.str))) l2 = some (.lst ((w0 :: qs.map fun q => q.1 ++ sp1 ++ nS q.2).map V.str)) := upd_same
        generalize upd G3 l2 (.lst ([V.str w0] ++ (qs.map fun q => q.1 ++ sp1 ++ nS q.2).map V.str)) = G4 at g4 hl2'' ⊢
        have gx := (g02.trans e3).trans g4
        have hgx := gx.keep _ _ hg (by simp)
        have hJ : Txt.join (" " : Str) (w0 :: qs.map fun q => q.1 ++ sp1 ++ nS q.2) = Txt.join sp1 (fwD f) := by
          rw [hw]
          exact join_wd qs w0
        generalize hys : (w0 :: qs.map fun q => q.1 ++ sp1 ++ nS q.2) = ys at hl2'' hJ
        dsimp only
        refine ⟨(" " : Str), l2, ys, rfl, rfl, .inl (SqL.of hl2''), ?_, ?_⟩
        rotate_left
        · rw [hJ]
          generalize hj : Txt.join sp1 (fwD f) = J
          refine ⟨lf', _, _, rfl, rfl, hgx, ?_, _, rfl, (e.trans gx).fresh hlf, ?_⟩
          · rw [List.length_map, List.length_map, List.length_take]
            exact Evl.sz_lt (by omega)
          · rw [upd_same, take_snoc hfi, List.map_append, List.map_append, ← hj]
            rfl
        · rw [← hys]
          have hb := sum_bd (B := 103) (l := (w0 :: qs.map fun q => q.1 ++ sp1 ++ nS q.2).map (·.length)) fun x hx => by
            obtain ⟨z, hz, rfl⟩ := List.mem_map.mp hx
            rcases List.mem_cons.mp hz with rfl | hz
            · exact Nat.le_trans hw0 (by decide)
            · obtain ⟨q0, hqm, rfl⟩ := List.mem_map.mp hz
              have hw1 := hfz q0.1 (List.mem_cons_of_mem _ (wd_mem hqm).1)
              have hw2 := nS_len q0.2 (hlq hlo q0 hqm)
              show (q0.1 ++ sp1 ++ nS q0.2).length ≤ 103
              rw [str_len, str_len]
              omega
          rw [List.length_map, List.length_cons, List.length_map] at hb
          rw [List.length_cons, List.length_map, show (" " : Str).length = 1 from sp_len]
          omega
    · rintro σ' G ⟨x3, rfl, e, hg⟩
      rw [hml, List.take_of_length_le (Nat.le_refl _)] at hg
      dsimp only
      have hg5 := S5.lst e
      refine ⟨_, rfl, .inl ⟨rfl, _, SqL.of hg5⟩, _, rfl, lg, _, _, rfl, rfl, hg5, by show 5 < sizeLine; exact Evl.sz_lt (by decide), ?_⟩
      have S6 := S5.step e hlf hg
      exact ⟨_, rfl, q lg _ _ S6.z S6.x S6.g S6.l⟩
end

end K15
namespace K15
open PySem PySem.Spec PyProof.Rows L2 He Tp ClX LiI

section
variable {P : Program} {w : World} {K : PySem.W.Frag} {mg : Str → Option Value} {base : Heap}
theorem ok_ltext (T : Txt K mg) : Df P w K mg base CX0 2 "_law_text" ["_law_model_here"] spLText := by
  have D__law_lines := ok_llines (P := P) (w := w) (base := base) T
  refine Df.mk' T.g_law_text T.f_law_text (fun _ _ _ _ _ _ us hl => match us, hl with | [_], _ => rfl) fun fd F => F.ok sc__law_text (fun vs H Q E h => ?_) (fun cdv A outer s H vs Q E hr h => ?_)
  · obtain ⟨a, k, t, p, c, d, ms, fs, rfl, _⟩ := h
    rfl
  · obtain ⟨a, k, t, p, c, d, ms, fs, rfl, M, W, l0, hlow, hk, ht, hp, hc, hd, hf, q⟩ := h
    have nd := sc__law_text.nd
    have hr__law_lines := hr
    have hbd := lines_bd l0 hk ht hp hc hd hf
    refine ⟨_, PSs.nox (pss_cons (ps_set (i := 1) nd rfl (by first | exact Or.inl rfl | exact Or.inr rfl) pe_str)
   (pss_cons (ps_for PassesOwn.never rfl (pi_list (pe_cd D__law_lines hr__law_lines (by rfl) pass0 (pa_cons (pv 0) pa_nil))) (pg_name (i := 2) nd rfl (by first | exact Or.inl rfl | exact Or.inr rfl))
   (pss_one (ps_set (i := 1) nd rfl (by first | exact Or.inl rfl | exact Or.inr rfl) (pe_op op_add_str (pv 1) (pe_join pe_str (pe_lc (own := [("_law_line", 3)]) (g := gName 3) (tt := tYes) (by rfl) nd (pi_list (pv 2)) (blkOk_by (own := [("_law_line", 3)]) (N := n__law_text) (sc := defScope s__law_text) (by decide +kernel)) (fun _ _ _ _ _ => pg_name (i := 3) nd rfl (by first | exact Or.inl rfl | exact Or.inr rfl)) (fun _ _ _ _ _ => pts_nil) (fun _ _ _ _ _ => (pe_op op_add_str (pv 3) pe_str))))))))
   (pss_one (ps_ret (pv 1))))), ?_⟩
    refine gset ?_
    dsimp only
    refine ⟨_, rfl, a, k, t, p, c, d, ms, fs, rfl, M, W, l0, hlow, hk, ht, hp, hc, hd, hf, fun l as H1 hl e1 hg ln => ?_⟩
    have hn := ln.len
    rw [← text_same] at q
    have hg6 : (linesD k t p c d fs).length = 6 := rfl
    generalize hG : linesD k t p c d fs = gs at ln hn q hbd hg6
    refine ⟨l, rfl, ⟨_, SqL.of hg⟩, for_list (xs := as.map V.ref) (fun n σ' H' => ∃ x2, σ' = [some (.ref a.M), some (.str (textL (gs.take n))), x2, none] ∧ Ext [] H1 H' ∧ (textL (gs.take n)).length ≤ n * 506000) ⟨none, rfl, Ext.refl, Nat.zero_le _⟩ ?_ ?_ ?_⟩
    · rintro n σ' H' _ ⟨_, _, e, _⟩
      exact SqL.of (e.keep _ _ hg (by simp))
    · rintro n v σ' H' hv ⟨x2, rfl, e, htl⟩
      rw [List.getElem?_map] at hv
      obtain ⟨u, hu, rfl⟩ := Option.map_eq_some_iff.mp hv
      obtain ⟨g, hgi, hT⟩ := paired_getX ln hu
      have hi := (List.getElem?_eq_some_iff.mp hgi).1
      have hT1 := e.keep _ _ hT (by simp)
      have hgb := hbd g (List.mem_of_getElem? hgi)
      have hgs := group_sum hgb
      have hcl := catS_len (g.map (· ++ nl))
      refine gset ?_
      dsimp only
      refine ⟨_, rfl, ⟨_, rfl⟩, _, rfl, u, rfl, ⟨_, SqL.of hT1⟩, fun R hR => lc_list (xs := g.map V.str) (fun m G => Ext [] H' G ∧ G R = some (.lst (((g.take m).map (· ++ nl)).map V.str))) ⟨Ext.new hR, upd_same⟩ ?_ ?_ ?_⟩
      · rintro m G _ ⟨e', _⟩
        exact SqL.of (e'.keep _ _ hT1 (by simp))
      · rintro m y G hy ⟨e', hg'⟩
        rw [List.getElem?_map] at hy
        obtain ⟨z, hz, rfl⟩ := Option.map_eq_some_iff.mp hy
        have hz1 := hgb.2 z (List.mem_of_getElem? hz)
        have hgl := hgb.1
        refine ⟨wipe1, ?_⟩
        refine tyes ?_
        refine ⟨_, rfl, _, _, rfl, rfl, ?_, _, hg', ?_, e'.fresh hR, ?_⟩
        · rw [show ("\n" : Str).length = 1 from nl_len]
          exact Nat.le_of_lt (Evl.sz_lt (by omega))
        · rw [List.length_map, List.length_map, List.length_take]
          exact Evl.sz_lt (by omega)
        · rw [upd_same, take_snoc hz, List.map_append, List.map_append]
          rfl
      · rintro G ⟨e', hg'⟩
        rw [List.length_map, List.take_of_length_le (Nat.le_refl _)] at hg'
        have hJ : Txt.join ("" : Str) (g.map (· ++ nl)) = catS (g.map (· ++ nl)) := join_nil _
        have hsn : textL (gs.take (n + 1)) = textL (gs.take n) ++ catS (g.map (· ++ nl)) := by rw [take_snoc hgi, textL_snoc]
        have hl2 : (textL (gs.take (n + 1))).length ≤ (n + 1) * 506000 := by
          rw [hsn, str_len]
          omega
        rw [hsn] at hl2
        rw [hsn]
        generalize textL (gs.take n) = A1 at htl hl2 ⊢
        generalize hys : g.map (· ++ nl) = ys at hg' hJ hgs hcl hl2 ⊢
        dsimp only
        refine ⟨("" : Str), R, ys, rfl, rfl, .inl (SqL.of hg'), ?_, ?_⟩
        · show (ys.map (·.length)).sum + ys.length * 0 ≤ 16777216
          omega
        · rw [hJ]
          refine ⟨A1, catS ys, rfl, rfl, ?_, ?_⟩
          · rw [sizeLine_eq]
            omega
          · exact ⟨_, rfl, e.trans e', hl2⟩
    · rintro σ' H' ⟨x2, rfl, e, htl⟩
      rw [List.length_map, hn, List.take_of_length_le (Nat.le_refl _)]
      exact ⟨_, rfl, q H' (e1.trans e)⟩
end

end K15
namespace K15
open PySem PySem.Spec PyProof.Rows L2 He Tp ClX LiI

/-- kinds, pots, cloths and dips that go together, maybe none -/
structure GW (k t : List (Str × Str)) (p : List Str) (c d : List (Str × Str)) : Prop where
  kn : Names (k.map (·.1))
  kh : ∀ q ∈ k, q.2 = "loose" ∨ q.2 = "fast" ∨ q.2 = "unsure"
  k8 : k.length ≤ 8
  tk : ∀ q ∈ t, q.1 ∈ k.map (·.1) ∧ q.2 ∈ k.map (·.1)
  pn : Names p
  p8 : p.length ≤ 8
  cn : Names (c.map (·.1))
  ck : ∀ q ∈ c, q.2 ∈ k.map (·.1)
  c8 : c.length ≤ 8
  dc : ∀ q ∈ d, q.1 ∈ c.map (·.1) ∧ q.2 ∈ p
theorem GX.gw {k t : List (Str × Str)} {p : List Str} {c d : List (Str × Str)} (G : GX k t p c d) : GW k t p c d := ⟨G.kn, G.kh, G.k8, G.tk, G.pn, G.p8, G.cn, G.ck, G.c8, G.dc⟩
section
variable {P : Program} {w : World} {K : PySem.W.Frag} {mg : Str → Option Value} {base : Heap}
def spBuildW (K : PySem.W.Frag) (C : Addr) : Sp := fun vs H Q _ => ∃ (a : Mad) (k t : List (Str × Str)) (p : List Str) (c d : List (Str × Str)) (us : List V) (fs : List Fk), vs = [.ref a.M] ∧ t.length ≤ 8 ∧ d.length ≤ 24 ∧ GW k t p c d ∧ MdAt H a k t p c d us ∧ FL H us fs ∧ (∀ f ∈ fs, inA (amtD k c d d.length) f) ∧ fs.length ≤ 32 ∧
  ∀ b A ts ds us' H', Ext [] H H' → (∀ x ∈ A.all b, H x = none) → BkI C H' b 24 A k t p c d fs ts ds us' → Q (.ref b) H'
theorem ok_buildW (T : Txt K mg) : Df P w K mg base CX0 9 "_law_build" ["_law_model_here"] (spBuildW K (cB K)) := by
  obtain ⟨ftl, ftl_⟩ := T.ftell
  obtain ⟨fts, fts_⟩ := T.ftell_some
  have Ftl := ok_tell (P := P) (w := w) (base := base) T ftl_
  have Fts := ok_tell_some (P := P) (w := w) (base := base) T fts_
  have btl : Binds K ftl ["self", "more", "less"] [] := ftl_.bindsN (fun _ _ _ _ _ _ us hl => match us, hl with | [_, _, _], _ => rfl)
  have bts : Binds K fts ["self", "amount"] [] := fts_.bindsN (fun _ _ _ _ _ _ us hl => match us, hl with | [_, _], _ => rfl)
  obtain ⟨fi, fi_⟩ := T.fInit
  obtain ⟨fk, fk_⟩ := T.fadd_kind
  obtain ⟨ft, ft_⟩ := T.fadd_thirst
  obtain ⟨fp, fp_⟩ := T.fadd_pot
  obtain ⟨fc, fc_⟩ := T.fadd_cloth
  obtain ⟨fd', fd_⟩ := T.fdip
  have Fi := ok_init (P := P) (w := w) (base := base) T fi_
  have Fk := ok_add_kind (P := P) (w := w) (base := base) T fk_
  have Ft := ok_add_thirst (P := P) (w := w) (base := base) T ft_
  have Fp := ok_add_pot (P := P) (w := w) (base := base) T fp_
  have Fc := ok_add_cloth (P := P) (w := w) (base := base) T fc_
  have Fd := ok_dip (P := P) (w := w) (base := base) T fd_
  obtain ⟨dsi, bi⟩ := b_init fi_
  obtain ⟨dsk, bk0⟩ := b_add_kind0 fk_
  obtain ⟨_, bkK⟩ := b_add_kindK fk_
  have bt : Binds K ft ["self", "more", "less"] [] := ft_.bindsN (fun _ _ _ _ _ _ us hl => match us, hl with | [_, _, _], _ => rfl)
  have bp : Binds K fp ["self", "name"] [] := fp_.bindsN (fun _ _ _ _ _ _ us hl => match us, hl with | [_, _], _ => rfl)
  have bc : Binds K fc ["self", "name", "kind"] [] := fc_.bindsN (fun _ _ _ _ _ _ us hl => match us, hl with | [_, _, _], _ => rfl)
  have bd : Binds K fd' ["self", "cloth", "pot"] [] := fd_.bindsN (fun _ _ _ _ _ _ us hl => match us, hl with | [_, _, _], _ => rfl)
  refine Df.mk' T.g_law_build T.f_law_build (fun _ _ _ _ _ _ us hl => match us, hl with | [_], _ => rfl) fun fd F => F.ok sc__law_build (fun vs H Q E h => ?_) (fun cdv A outer s H vs Q E hr h => ?_)
  · obtain ⟨a, k, t, p, c, d, us, fs, rfl, _⟩ := h
    rfl
  · obtain ⟨a, k, t, p, c, d, us, fs, rfl, ht8, hd24, G, M, hF, hin, hf32, q⟩ := h
    have nd := sc__law_build.nd
    have hrm := hr.mono (show 4 ≤ 8 by decide)
    have hri := hr.mono (show 5 ≤ 8 by decide)
    refine ⟨_, PSs.nox
   (pss_cons (ps_set (i := 1) nd rfl (by first | exact Or.inl rfl | exact Or.inr rfl) (pe_make0 T.mk_ Fi hri (by rfl) T.gBook bi.2 bi.1 passL))
   (pss_cons (ps_for PassesOwn.never rfl (pi_list (pe_ix ix_list (pv 0) pe_int (fun _ _ => rfl))) (pg_tup (by rfl) (pgs_cons (pg_name (i := 2) nd rfl (by first | exact Or.inl rfl | exact Or.inr rfl)) (pgs_cons (pg_name (i := 3) nd rfl (by first | exact Or.inl rfl | exact Or.inr rfl)) pgs_nil)))
   (pss_one (ps_if (pt_cmpR op_eq (pv 3) pe_str (nomark _)) (pss_one (ps_expr (pe_meth (pv 1) T.cl T.madd_kind Fk hrm bk0.2 bk0.1 passL (pa_cons (pv 2) pa_nil)))) (pss_one (ps_expr (pe_methKw (n := 1) (pv 1) T.cl T.madd_kind Fk hrm bkK passL (pa_cons (pv 2) pa_nil) (pk_cons (pv 3) pk_nil)))))))
   (pss_cons (ps_for PassesOwn.never rfl (pi_list (pe_ix ix_list (pv 0) pe_int (fun _ _ => rfl))) (pg_tup (by rfl) (pgs_cons (pg_name (i := 4) nd rfl (by first | exact Or.inl rfl | exact Or.inr rfl)) (pgs_cons (pg_name (i := 5) nd rfl (by first | exact Or.inl rfl | exact Or.inr rfl)) pgs_nil)))
   (pss_one (ps_expr (pe_meth (pv 1) T.cl T.madd_thirst Ft hrm bt .nil passL (pa_cons (pv 4) (pa_cons (pv 5) pa_nil))))))
   (pss_cons (ps_for PassesOwn.never rfl (pi_list (pe_ix ix_list (pv 0) pe_int (fun _ _ => rfl))) (pg_name (i := 2) nd rfl (by first | exact Or.inl rfl | exact Or.inr rfl))
   (pss_one (ps_expr (pe_meth (pv 1) T.cl T.madd_pot Fp hrm bp .nil passL (pa_cons (pv 2) pa_nil)))))
   (pss_cons (ps_for PassesOwn.never rfl (pi_list (pe_ix ix_list (pv 0) pe_int (fun _ _ => rfl))) (pg_tup (by rfl) (pgs_cons (pg_name (i := 2) nd rfl (by first | exact Or.inl rfl | exact Or.inr rfl)) (pgs_cons (pg_name (i := 6) nd rfl (by first | exact Or.inl rfl | exact Or.inr rfl)) pgs_nil)))
   (pss_one (ps_expr (pe_meth (pv 1) T.cl T.madd_cloth Fc hrm bc .nil passL (pa_cons (pv 2) (pa_cons (pv 6) pa_nil))))))
   (pss_cons (ps_for PassesOwn.never rfl (pi_list (pe_ix ix_list (pv 0) pe_int (fun _ _ => rfl))) (pg_tup (by rfl) (pgs_cons (pg_name (i := 7) nd rfl (by first | exact Or.inl rfl | exact Or.inr rfl)) (pgs_cons (pg_name (i := 8) nd rfl (by first | exact Or.inl rfl | exact Or.inr rfl)) pgs_nil)))
   (pss_one (ps_expr (pe_meth (pv 1) T.cl T.mdip Fd hrm bd .nil passL (pa_cons (pv 7) (pa_cons (pv 8) pa_nil))))))
   (pss_cons (ps_for PassesOwn.never rfl (pi_list (pe_ix ix_list (pv 0) pe_int (fun _ _ => rfl))) (pg_name (i := 9) nd rfl (by first | exact Or.inl rfl | exact Or.inr rfl))
   (pss_one (ps_if (pt_cmpR op_eq (pe_ix ix_tup (pv 9) pe_int (fun _ _ => rfl)) pe_str (nomark _)) (pss_one (ps_expr (pe_meth (pv 1) T.cl T.mtell Ftl hr btl .nil passL (pa_cons (pe_ix ix_tup (pv 9) pe_int (fun _ _ => rfl)) (pa_cons (pe_ix ix_tup (pv 9) pe_int (fun _ _ => rfl)) pa_nil))))) (pss_one (ps_expr (pe_meth (pv 1) T.cl T.mtell_some Fts hr bts .nil passL (pa_cons (pe_ix ix_tup (pv 9) pe_int (fun _ _ => rfl)) pa_nil)))))))
   (pss_one (ps_ret (pv 1)))))))))), ?_⟩
    intro b dx hb hdx hne
    refine ⟨b, dx, .int 24, rfl, .int 24, upd_same, fun hx => absurd (show (0 : Int) ≤ 24 ∧ (24 : Int) ≤ 24 by decide) hx, fun i A H2 hi h0 h24 B hA hAdx e2 => ⟨rfl, ?_⟩⟩
    cases hi
    have em : Ext [] H (upd (upd H dx (.own b)) b (.ins (cB K) dx [])) := (Ext.new hdx).trans (Ext.new (by rw [upd_ne hne.symm]; exact hb))
    have bi0 : BI (cB K) H H2 b A [] [] [] [] [] [] [] := ⟨em.over e2 hb, fun x hx => by
      rcases List.mem_cons.mp hx with rfl | hx
      · exact hb
      · exact em.none (hA x hx) (by simp), B, .nil, .nil⟩
    clear B e2 em hA hAdx h0 h24 hne hdx hb
    have MM : ∀ {X : Hp}, Ext [] H X → MdAt X a k t p c d us := fun e => M.ext e fun _ _ => by simp
    -- kinds
    obtain ⟨as0, ha0, hp0⟩ := M.r0
    have hl0 := paired_len hp0
    have M2 := MM bi0.e
    refine ⟨_, rfl, a.M, _, 0, .ref a.m0, rfl, rfl, SqL.of M2.M, rfl, a.m0, rfl, ⟨_, SqL.of (bi0.e.keep _ _ ha0 (by simp))⟩, for_list (xs := as0.map V.ref) (fun i σ' H' => ∃ x2 x3, σ' = [some (.ref a.M), some (.ref b), x2, x3, none, none, none, none, none, none] ∧ BI (cB K) H H' b A (k.take i) [] [] [] [] [] []) ⟨_, _, rfl, bi0⟩ ?_ ?_ ?_⟩
    · rintro i σ' H' _ ⟨x2, x3, rfl, bi⟩
      exact SqL.of (bi.e.keep _ _ ha0 (by simp))
    · rintro i x σ' H' hx ⟨x2, x3, rfl, bi⟩
      rw [List.getElem?_map] at hx
      obtain ⟨u, hu, rfl⟩ := Option.map_eq_some_iff.mp hx
      obtain ⟨qq, hq, hT⟩ := paired_at hp0 hu
      have hi := (List.getElem?_eq_some_iff.mp hq).1
      have hk8 := G.k8
      have hmem := List.mem_of_getElem? hq
      have hnm := G.kn.nm qq.1 (List.mem_map.mpr ⟨qq, hmem, rfl⟩)
      have hok := G.kn.ok qq.1 (List.mem_map.mpr ⟨qq, hmem, rfl⟩)
      have hho := G.kh qq hmem
      have hnb : qq.1 ∉ ((k.take i).map tv).map (·.1) := by
        rw [mem_tv, List.map_take]
        exact not_before G.kn.nd (by rw [List.getElem?_map, hq]; rfl)
      have hno : refK ((k.take i).map tv) (.str qq.1) (.str qq.2) (holdD (.str qq.2)) = none := by
        rw [hold_yes hho]
        exact refK_ok hnm hnb (by rw [List.length_map, List.length_take]; omega)
      have hlen : ((k.take i).map tv).length ≤ 1000 := by rw [List.length_map, List.length_take]; omega
      have okh : okD (.str qq.2) := okD.str (by rcases hho with h | h | h <;> rw [h] <;> decide +kernel)
      have hp : Ptv K H' (.str qq.1) := .str (by have := nm_len hnm; omega)
      have fin : ∀ H'', Ext [A.dk] H' H'' → BookAt (cB K) H'' b 24 A ((k.take i).map tv ++ [(qq.1, .str qq.2)]) [] [] [] [] [] → BI (cB K) H H'' b A (k.take (i + 1)) [] [] [] [] [] [] := fun H'' e B' => by
        refine ⟨bi.e.over e (bi.f A.dk (by simp)), bi.f, ?_, .nil, .nil⟩
        rw [take_snoc hq, List.map_append]
        exact B'
      refine ⟨u, _, rfl, .inl (.inl (bi.e.tups _ _ hT)), rfl, _, _, rfl, _, _, rfl, rfl, ?_⟩
      refine st_if (ans_eq (val_var rfl) val_c rfl rfl) (fun hb => ?_) (fun hb => ?_)
      · have hq2 : qq.2 = "unsure" := by simpa using hb
        refine ⟨_, rfl, b, A.dx, _, rfl, bi.B.ob, fsB_no (.inl rfl), _, rfl, ?_⟩
        rw [hq2] at hno okh fin
        exact ⟨b, .str qq.1, .str "unsure", .str "unsure", 24, A, _, _, _, _, _, _, rfl, hp, .str _, okh, bi.B, hlen, (fun c t hc => by rw [hno] at hc; cases hc), fun _ H'' e B' => ⟨_, _, rfl, fin H'' e B'⟩⟩
      · refine ⟨_, rfl, b, A.dx, _, rfl, bi.B.ob, fsB_no (.inl rfl), _, rfl, _, rfl, rfl, rfl, ?_⟩
        exact ⟨b, .str qq.1, .str qq.2, .str qq.2, 24, A, _, _, _, _, _, _, rfl, hp, .str _, okh, bi.B, hlen, (fun c t hc => by rw [hno] at hc; cases hc), fun _ H'' e B' => ⟨_, _, rfl, fin H'' e B'⟩⟩
    rintro σ' H3 ⟨x2, x3, rfl, bi1⟩
    rw [List.length_map, hl0, List.take_of_length_le (Nat.le_refl _)] at bi1
    -- thirsts
    obtain ⟨as1, ha1, hp1⟩ := M.r1
    have hl1 := paired_len hp1
    refine ⟨_, rfl, a.M, _, 1, .ref a.m1, rfl, rfl, SqL.of (MM bi1.e).M, rfl, a.m1, rfl, ⟨_, SqL.of (bi1.e.keep _ _ ha1 (by simp))⟩, for_list (xs := as1.map V.ref) (fun i σ' H' => ∃ ts x4 x5, σ' = [some (.ref a.M), some (.ref b), x2, x3, x4, x5, none, none, none, none] ∧ BI (cB K) H H' b A k (t.take i) [] [] [] ts []) ⟨[], _, _, rfl, bi1⟩ ?_ ?_ ?_⟩
    · rintro i σ' H' _ ⟨ts, x4, x5, rfl, bi⟩
      exact SqL.of (bi.e.keep _ _ ha1 (by simp))
    · rintro i x σ' H' hx ⟨ts, x4, x5, rfl, bi⟩
      rw [List.getElem?_map] at hx
      obtain ⟨u, hu, rfl⟩ := Option.map_eq_some_iff.mp hx
      obtain ⟨qq, hq, hT⟩ := paired_at hp1 hu
      have hi := (List.getElem?_eq_some_iff.mp hq).1
      have ht3 := ht8
      have hmem := G.tk qq (List.mem_of_getElem? hq)
      have hts : ts.length ≤ 8 := by rw [bi.T.len, List.length_take]; omega
      have hk1 : knownK (k.map tv) (.str qq.1) = true := decide_eq_true (mem_tv.mpr hmem.1)
      have hk2 : knownK (k.map tv) (.str qq.2) = true := decide_eq_true (mem_tv.mpr hmem.2)
      have hno : refT (k.map tv) ts.length (.str qq.1) (.str qq.2) = none := by rw [refT_3 hk1 hk2, if_neg (by omega)]
      have lens : ∀ z ∈ k.map (·.1), z.length ≤ 1000 := fun z hz => by have := nm_len (G.kn.nm z hz); omega
      refine ⟨u, _, rfl, .inl (.inl (bi.e.tups _ _ hT)), rfl, _, _, rfl, _, _, rfl, rfl, ?_⟩
      refine ⟨_, rfl, b, A.dx, _, rfl, bi.B.ob, fsB_no (.inr (.inr (.inr (.inr (.inr (.inr (.inr (.inr rfl)))))))), _, rfl, _, rfl, ?_⟩
      refine ⟨b, .str qq.1, .str qq.2, 24, A, _, _, _, _, _, _, rfl, .str (lens _ hmem.1), fun _ _ => .str (lens _ hmem.2), bi.B, by omega, (fun c t hc => by rw [hno] at hc; cases hc), fun _ H'' w e hw hT' B' => ⟨_, _, _, rfl, bi.e.over e (bi.f A.lt (by simp)), bi.f, B', ?_, .nil⟩⟩
      rw [take_snoc hq]
      exact (bi.T.ext e).snoc hT'
    rintro σ' H4 ⟨ts, x4, x5, rfl, bi2⟩
    rw [List.length_map, hl1, List.take_of_length_le (Nat.le_refl _)] at bi2
    -- pots
    have ha2 := M.r2
    refine ⟨_, rfl, a.M, _, 2, .ref a.m2, rfl, rfl, SqL.of (MM bi2.e).M, rfl, a.m2, rfl, ⟨_, SqL.of (bi2.e.keep _ _ ha2 (by simp))⟩, for_list (xs := p.map V.str) (fun i σ' H' => ∃ x2, σ' = [some (.ref a.M), some (.ref b), x2, x3, x4, x5, none, none, none, none] ∧ BI (cB K) H H' b A k t (p.take i) [] [] ts []) ⟨_, rfl, bi2⟩ ?_ ?_ ?_⟩
    · rintro i σ' H' _ ⟨x2, rfl, bi⟩
      exact SqL.of (bi.e.keep _ _ ha2 (by simp))
    · rintro i x σ' H' hx ⟨x2, rfl, bi⟩
      rw [List.getElem?_map] at hx
      obtain ⟨z, hz, rfl⟩ := Option.map_eq_some_iff.mp hx
      have hi := (List.getElem?_eq_some_iff.mp hz).1
      have hp8 := G.p8
      have hnm := G.pn.nm z (List.mem_of_getElem? hz)
      have hno : refP (p.take i) (.str z) = none := refP_ok hnm (not_before G.pn.nd hz) (by rw [List.length_take]; omega)
      refine ⟨_, rfl, b, A.dx, _, rfl, bi.B.ob, fsB_no (.inr (.inl rfl)), _, rfl, ?_⟩
      refine ⟨b, .str z, 24, A, _, _, _, _, _, _, rfl, .str (by have := nm_len hnm; omega), bi.B, (by rw [List.length_take]; omega), (fun c t hc => by rw [hno] at hc; cases hc), fun _ H'' e B' => ⟨_, rfl, bi.e.over e (bi.f A.lp (by simp)), bi.f, ?_, bi.T.ext e, .nil⟩⟩
      rw [take_snoc hz]
      exact B'
    rintro σ' H5 ⟨x2, rfl, bi3⟩
    rw [List.length_map, List.take_of_length_le (Nat.le_refl _)] at bi3
    -- cloths
    obtain ⟨as3, ha3, hp3⟩ := M.r3
    have hl3 := paired_len hp3
    refine ⟨_, rfl, a.M, _, 3, .ref a.m3, rfl, rfl, SqL.of (MM bi3.e).M, rfl, a.m3, rfl, ⟨_, SqL.of (bi3.e.keep _ _ ha3 (by simp))⟩, for_list (xs := as3.map V.ref) (fun i σ' H' => ∃ x2 x6, σ' = [some (.ref a.M), some (.ref b), x2, x3, x4, x5, x6, none, none, none] ∧ BI (cB K) H H' b A k t p (c.take i) [] ts []) ⟨_, _, rfl, bi3⟩ ?_ ?_ ?_⟩
    · rintro i σ' H' _ ⟨x2, x6, rfl, bi⟩
      exact SqL.of (bi.e.keep _ _ ha3 (by simp))
    · rintro i x σ' H' hx ⟨x2, x6, rfl, bi⟩
      rw [List.getElem?_map] at hx
      obtain ⟨u, hu, rfl⟩ := Option.map_eq_some_iff.mp hx
      obtain ⟨qq, hq, hT⟩ := paired_at hp3 hu
      have hi := (List.getElem?_eq_some_iff.mp hq).1
      have hc8 := G.c8
      have hmem := List.mem_of_getElem? hq
      have hnm := G.cn.nm qq.1 (List.mem_map.mpr ⟨qq, hmem, rfl⟩)
      have hkn := G.ck qq hmem
      have hkl := nm_len (G.kn.nm _ hkn)
      have hnb : qq.1 ∉ ((c.take i).map tv).map (·.1) := by
        rw [mem_tv, List.map_take]
        exact not_before G.cn.nd (by rw [List.getElem?_map, hq]; rfl)
      have hno : refC ((c.take i).map tv) (k.map tv) (.str qq.1) (.str qq.2) = none := refC_ok hnm hnb (by rw [List.length_map, List.length_take]; omega) (mem_tv.mpr hkn)
      refine ⟨u, _, rfl, .inl (.inl (bi.e.tups _ _ hT)), rfl, _, _, rfl, _, _, rfl, rfl, ?_⟩
      refine ⟨_, rfl, b, A.dx, _, rfl, bi.B.ob, fsB_no (.inr (.inr (.inl rfl))), _, rfl, _, rfl, ?_⟩
      refine ⟨b, .str qq.1, .str qq.2, 24, A, _, _, _, _, _, _, rfl, .str (by have := nm_len hnm; omega), .str (by omega), fun _ _ => .str (by omega), bi.B, (by rw [List.length_map, List.length_take]; omega), (fun c t hc => by rw [hno] at hc; cases hc), fun _ H'' e B' => ⟨_, _, rfl, bi.e.over e (bi.f A.dc (by simp)), bi.f, ?_, bi.T.ext e, .nil⟩⟩
      rw [take_snoc hq, List.map_append]
      exact B'
    rintro σ' H6 ⟨x2, x6, rfl, bi4⟩
    rw [List.length_map, hl3, List.take_of_length_le (Nat.le_refl _)] at bi4
    -- dips
    obtain ⟨as4, ha4, hp4⟩ := M.r4
    have hl4 := paired_len hp4
    refine ⟨_, rfl, a.M, _, 4, .ref a.m4, rfl, rfl, SqL.of (MM bi4.e).M, rfl, a.m4, rfl, ⟨_, SqL.of (bi4.e.keep _ _ ha4 (by simp))⟩, for_list (xs := as4.map V.ref) (fun i σ' H' => ∃ A ds x7 x8, σ' = [some (.ref a.M), some (.ref b), x2, x3, x4, x5, x6, x7, x8, none] ∧ BI (cB K) H H' b A k t p c (d.take i) ts ds) ⟨A, [], _, _, rfl, bi4⟩ ?_ ?_ ?_⟩
    · rintro i σ' H' _ ⟨A, ds, x7, x8, rfl, bi⟩
      exact SqL.of (bi.e.keep _ _ ha4 (by simp))
    · rintro i x σ' H' hx ⟨A, ds, x7, x8, rfl, bi⟩
      rw [List.getElem?_map] at hx
      obtain ⟨u, hu, rfl⟩ := Option.map_eq_some_iff.mp hx
      obtain ⟨qq, hq, hT⟩ := paired_at hp4 hu
      have hi := (List.getElem?_eq_some_iff.mp hq).1
      have hdm := hd24
      have hp8 := G.p8
      have hmem := G.dc qq (List.mem_of_getElem? hq)
      have hds : ds.length = i := by rw [bi.D.len, List.length_take]; omega
      have hk1 : knownK (c.map tv) (.str qq.1) = true := decide_eq_true (mem_tv.mpr hmem.1)
      have hk2 : knownP p (.str qq.2) = true := decide_eq_true hmem.2
      have hno : refDip (c.map tv) p ds.length 24 (.str qq.1) (.str qq.2) = none := by rw [refDip_3 hk1 hk2, if_neg (by omega)]
      have h1 := nm_len (G.cn.nm _ hmem.1)
      have h2 := nm_len (G.pn.nm _ hmem.2)
      refine ⟨u, _, rfl, .inl (.inl (bi.e.tups _ _ hT)), rfl, _, _, rfl, _, _, rfl, rfl, ?_⟩
      refine ⟨_, rfl, b, A.dx, _, rfl, bi.B.ob, fsB_no (.inr (.inr (.inr (.inr (.inr (.inr (.inl rfl))))))), _, rfl, _, rfl, ?_⟩
      refine ⟨b, .str qq.1, .str qq.2, 24, A, _, _, _, _, _, _, rfl, .str (by omega), fun _ _ => .str (by omega), bi.B, by omega, by omega, (fun c t hc => by rw [hno] at hc; cases hc), fun _ H'' w l e hw hl hT' B' => ⟨{ A with ld := l }, _, _, _, rfl, bi.e.over e (bi.f b (by simp)), fun x hx => ?_, B', bi.T.ext e, ?_⟩⟩
      · have f := bi.f
        simp only [Bk.all, List.mem_cons, List.not_mem_nil, or_false] at hx f
        rcases hx with rfl | rfl | rfl | rfl | rfl | rfl | rfl
        · exact f _ (by simp)
        · exact f _ (by simp)
        · exact f _ (by simp)
        · exact f _ (by simp)
        · exact f _ (by simp)
        · exact bi.e.none hl (by simp)
        · exact f _ (by simp)
      · rw [take_snoc hq]
        exact (bi.D.ext e).snoc hT'
    rintro σ' H7 ⟨A, ds, x7, x8, rfl, bi5⟩
    rw [List.length_map, hl4, List.take_of_length_le (Nat.le_refl _)] at bi5
    -- the facts
    have ha5 := M.r5
    have hnl : ∀ z, z ∈ k.map (·.1) ∨ z ∈ c.map (·.1) → z.length ≤ 1000 := fun z hz => by
      rcases hz with hz | hz
      · have := nm_len (G.kn.nm z hz); omega
      · have := nm_len (G.cn.nm z hz); omega
    have hdm := hd24
    have ht3 := ht8
    have kp : Kept k c d := ⟨G.kn.nd, G.k8, G.cn.nd, G.c8, G.ck, fun q hq => (G.dc q hq).1, by omega⟩
    have hw6 := fun q hq => amtD_word (k := k) (c := c) (d := d) d.length q hq
    have b5 : BkI (cB K) H7 b 24 A k t p c d [] ts ds [] := ⟨bi5.B, bi5.T, bi5.D, FL.nil, kp, hnl, by omega, Nat.zero_le _, by omega, by simp⟩
    have e5 := bi5.e
    have f5 := bi5.f
    refine ⟨_, rfl, a.M, _, 5, .ref a.m5, rfl, rfl, SqL.of (MM bi5.e).M, rfl, a.m5, rfl, ⟨_, SqL.of (bi5.e.keep _ _ ha5 (by simp))⟩, for_list (xs := us) (fun i σ' H' => ∃ us' x9, σ' = [some (.ref a.M), some (.ref b), x2, x3, x4, x5, x6, x7, x8, x9] ∧ Ext [] H H' ∧ BkI (cB K) H' b 24 A k t p c d (fs.take i) ts ds us') ⟨[], _, rfl, e5, by rw [List.take_zero]; exact b5⟩ ?_ ?_ ?_⟩
    · rintro i σ' H' _ ⟨us', x9, rfl, e, _⟩
      exact SqL.of (e.keep _ _ ha5 (by simp))
    · rintro i v σ' H' hv ⟨us', x9, rfl, e, bb⟩
      obtain ⟨u, f, rfl, hfi, hfu⟩ := (hF.ext e).get hv
      have hi := (List.getElem?_eq_some_iff.mp hfi).1
      have htk := take_snoc hfi
      have hmem := hin f (List.mem_of_getElem? hfi)
      have hul := bb.F.len
      rw [List.length_take] at hul
      have hus : us'.length < 32 := by omega
      have fin : ∀ H'' x, Ext [A.lf] H' H'' → isFk H'' x f → BookAt (cB K) H'' b 24 A (k.map tv) ts p (c.map tv) ds (us' ++ [.ref x]) → Ext [] H H'' ∧ BkI (cB K) H'' b 24 A k t p c d (fs.take (i + 1)) ts ds (us' ++ [.ref x]) := fun H'' x e2 hx B' => by
        refine ⟨e.over e2 (f5 A.lf (by simp)), B', bb.T.ext e2, bb.D.ext e2, ?_, kp, hnl, bb.dl, by rw [List.length_take]; omega, bb.tl, fun g hg => (hin g (List.mem_of_mem_take hg)).ok fun q hq => okS_wd (hw6 q hq)⟩
        rw [htk]
        exact (bb.F.ext e2).snoc hx
      refine gset ?_
      dsimp only
      cases f with
      | tell x y =>
        obtain ⟨ax, ay, f1, f2, f3⟩ := hfu
        have av1 := Av.amt f2 (hw6 _ hmem.1)
        have av2 := Av.amt f3 (hw6 _ hmem.2)
        have o1 : ownD (amtD k c d d.length) (dAmt x) = true := ownD_amt.trans (decide_eq_true hmem.1)
        have o2 : ownD (amtD k c d d.length) (dAmt y) = true := ownD_amt.trans (decide_eq_true hmem.2)
        refine ⟨_, rfl, u, _, 0, _, rfl, rfl, .inl (.inl f1), rfl, rfl, _, rfl, ?_⟩
        refine ifd (fun _ => ?_) (fun h => absurd rfl h)
        refine ⟨_, rfl, b, A.dx, _, rfl, bb.B.ob, fsB_no3 (.inr (.inl rfl)), _, rfl, u, _, 1, _, rfl, rfl, .inl (.inl f1), rfl, _, rfl, u, _, 2, _, rfl, rfl, .inl (.inl f1), rfl, ?_⟩
        refine ⟨b, .ref ax, .ref ay, _, _, 24, A, k, c, ts, p, ds, us', d, rfl, av1, av2, bb.B, bb.D, kp, by omega, (fun h => by rw [o1] at h; cases h), (fun _ h => by rw [o2] at h; cases h), (fun _ _ h => absurd h (by omega)), fun _ _ _ H'' z e2 hz hzT B' => ?_⟩
        obtain ⟨g1, g2⟩ := fin H'' z e2 ⟨ax, ay, hzT, e2.tups _ _ f2, e2.tups _ _ f3⟩ B'
        exact ⟨_, _, rfl, g1, g2⟩
      | some x =>
        obtain ⟨ax, f1, f2⟩ := hfu
        have av1 := Av.amt f2 (hw6 _ hmem)
        have o1 : ownD (amtD k c d d.length) (dAmt x) = true := ownD_amt.trans (decide_eq_true hmem)
        refine ⟨_, rfl, u, _, 0, _, rfl, rfl, .inl (.inl f1), rfl, rfl, _, rfl, ?_⟩
        refine ifd (fun h => absurd h (by decide +kernel)) (fun _ => ?_)
        refine ⟨_, rfl, b, A.dx, _, rfl, bb.B.ob, fsB_no3 (.inr (.inr (.inl rfl))), _, rfl, u, _, 1, _, rfl, rfl, .inl (.inl f1), rfl, ?_⟩
        refine ⟨b, .ref ax, _, 24, A, k, c, ts, p, ds, us', d, rfl, av1, bb.B, bb.D, kp, by omega, (fun h => by rw [o1] at h; cases h), (fun _ h => absurd h (by omega)), fun _ _ H'' z e2 hz hzT B' => ?_⟩
        obtain ⟨g1, g2⟩ := fin H'' z e2 ⟨ax, hzT, e2.tups _ _ f2⟩ B'
        exact ⟨_, _, rfl, g1, g2⟩
    · rintro σ' H8 ⟨us', x9, rfl, e8, b8⟩
      rw [hF.len, List.take_of_length_le (Nat.le_refl _)] at b8
      exact ⟨_, rfl, q b A ts ds us' H8 e8 f5 b8⟩
end

end K15
namespace K15
open PySem PySem.Spec PyProof.Rows L2 He Tp ClX LiI

theorem GW.kept {k t : List (Str × Str)} {p : List Str} {c d : List (Str × Str)} (G : GW k t p c d) (hd : d.length ≤ 1000) : Kept k c d := ⟨G.kn.nd, G.k8, G.cn.nd, G.c8, G.ck, fun q hq => (G.dc q hq).1, hd⟩
/-- a model of six parts and a book that shows it -/
structure Jw (C : Addr) (H : Hp) (b : Addr) (a : Mad) (A : Bk) (k t : List (Str × Str)) (p : List Str) (c d : List (Str × Str)) (fs : List Fk) (ts ds us ms : List V) : Prop where
  M : MdAt H a k t p c d ms
  W : FL H ms fs
  B : BkI C H b 24 A k t p c d fs ts ds us
  G : GW k t p c d
theorem Jw.grow {C : Addr} {H H' : Hp} {b : Addr} {a : Mad} {A : Bk} {k t : List (Str × Str)} {p : List Str} {c d : List (Str × Str)} {fs : List Fk} {ts ds us ms : List V} (j : Jw C H b a A k t p c d fs ts ds us ms) (x : Ext [] H H') : Jw C H' b a A k t p c d fs ts ds us ms := ⟨j.M.ext x fun _ _ => by simp, j.W.ext x, j.B.ext x, j.G⟩
/-- _law_same(book, model) -/
def spSameW (C : Addr) : Sp := fun vs H Q _ => ∃ b a A k t p c d fs ts ds us ms, vs = [.ref b, .ref a.M] ∧ Jw C H b a A k t p c d fs ts ds us ms ∧ fs.length ≤ 100 ∧ t.length ≤ 100 ∧ d.length ≤ 24 ∧ ∀ H', Ext [] H H' → Q (.bl true) H'
section
variable {P : Program} {w : World} {K : PySem.W.Frag} {mg : Str → Option Value} {base : Heap}
theorem ok_sameW (T : Txt K mg) : Df P w K mg base CX0 7 "_law_same" ["_law_book", "_law_model_here"] (spSameW (cB K)) := by
  obtain ⟨fk, fk_⟩ := T.fkinds
  obtain ⟨ft, ft_⟩ := T.fthirsts
  obtain ⟨fp, fp_⟩ := T.fpots
  obtain ⟨fc, fc_⟩ := T.fcloths
  obtain ⟨ff, ff_⟩ := T.ffacts
  obtain ⟨fam, fam_⟩ := T.famounts
  obtain ⟨fi, fi_⟩ := T.f__iter__
  obtain ⟨fl, fl_⟩ := T.f__len__
  obtain ⟨pg, gg, fg, hpg, fg_⟩ := T.pget_bound
  have Fk := ok_kinds (P := P) (w := w) (base := base) T fk_
  have Ft := ok_thirsts (P := P) (w := w) (base := base) T ft_
  have Fp := ok_pots (P := P) (w := w) (base := base) T fp_
  have Fc := ok_cloths (P := P) (w := w) (base := base) T fc_
  have Ff := ok_facts (P := P) (w := w) (base := base) T ff_
  have Fam := ok_amounts (P := P) (w := w) (base := base) T fam_
  have Fit0 := ok_biter (P := P) (w := w) (base := base) T fi_
  have Fl := ok_blen (P := P) (w := w) (base := base) T fl_
  have Fg := ok_get_bound (P := P) (w := w) (base := base) T fg_
  have bkinds : Binds K fk ["self"] [] := fk_.bindsN (fun _ _ _ _ _ _ us hl => match us, hl with | [_], _ => rfl)
  have bthirsts : Binds K ft ["self"] [] := ft_.bindsN (fun _ _ _ _ _ _ us hl => match us, hl with | [_], _ => rfl)
  have bpots : Binds K fp ["self"] [] := fp_.bindsN (fun _ _ _ _ _ _ us hl => match us, hl with | [_], _ => rfl)
  have bcloths : Binds K fc ["self"] [] := fc_.bindsN (fun _ _ _ _ _ _ us hl => match us, hl with | [_], _ => rfl)
  have bfacts : Binds K ff ["self"] [] := ff_.bindsN (fun _ _ _ _ _ _ us hl => match us, hl with | [_], _ => rfl)
  have bam : Binds K fam ["self"] [] := fam_.bindsN (fun _ _ _ _ _ _ us hl => match us, hl with | [_], _ => rfl)
  have bit : Binds K fi ["self"] [] := fi_.bindsN (fun _ _ _ _ _ _ us hl => match us, hl with | [_], _ => rfl)
  have bl : Binds K fl ["self"] [] := fl_.bindsN (fun _ _ _ _ _ _ us hl => match us, hl with | [_], _ => rfl)
  have bg : Binds K fg ["self"] [] := fg_.bindsN (fun _ _ _ _ _ _ us hl => match us, hl with | [_], _ => rfl)
  have oi : OwnIt K (cB K) (ma K (cB K) "__iter__") := ⟨T.m__iter__.at_, T.m__iter__.fn⟩
  have ol : OwnLn K (cB K) (ma K (cB K) "__len__") := ⟨T.m__len__.at_, T.m__len__.fn⟩
  have D__law_lists := ok_lists (P := P) (w := w) (base := base) T
  have D__law_amounts := ok_amts (P := P) (w := w) (base := base) T
  refine Df.mk' T.g_law_same T.f_law_same (fun _ _ _ _ _ _ us hl => match us, hl with | [_, _], _ => rfl) fun fd F => F.ok sc__law_same (fun vs H Q E h => ?_) (fun cdv A outer s H vs Q E hr h => ?_)
  · obtain ⟨b, a, A, k, t, p, c, d, fs, ts, ds, us, ms, rfl, _⟩ := h
    rfl
  · obtain ⟨b, a, A', k, t, p, c, d, fs, ts, ds, us, ms, rfl, j, hfl, htl, h24, q⟩ := h
    have nd := sc__law_same.nd
    have hu64 := hr.units
    have hr1 := hr.mono (show 1 ≤ 6 by decide)
    have hrit := hr.mono (show 1 ≤ 6 by decide)
    have hrl := hr.mono (show 1 + 1 ≤ 6 by decide)
    have hrg := hr.mono (show 1 + 1 ≤ 6 by decide)
    have hram := hr
    have hr_write_book := hr.mono (show 5 ≤ 6 by decide)
    have hr__law_text := hr.mono (show 2 ≤ 6 by decide)
    have hr__law_lists := hr.mono (show 2 ≤ 6 by decide)
    have hr__law_amounts := hr.mono (show 4 ≤ 6 by decide)
    refine ⟨_, PSs.nox (pss_cons (ps_if (PW.pt (pw_or (pt_cmpR (op_neD hu64) (pe_meth0 (pv 0) T.cl T.mkinds Fk hr1 bkinds .nil pass0) (pe_ix ix_list (pv 1) pe_int (fun _ _ => rfl)) (nomark _)) (pw_or (pt_cmpR (op_neD hu64) (pe_meth0 (pv 0) T.cl T.mthirsts Ft hr1 bthirsts .nil pass0) (pe_ix ix_list (pv 1) pe_int (fun _ _ => rfl)) (nomark _)) (pw_or1 (pt_cmpR (op_neD hu64) (pe_meth0 (pv 0) T.cl T.mpots Fp hr1 bpots .nil pass0) (pe_ix ix_list (pv 1) pe_int (fun _ _ => rfl)) (nomark _)))))) (pss_one (ps_ret pe_bl)) pss_nil)
   (pss_cons (ps_if (PW.pt (pw_or (pt_cmpR (op_neD hu64) (pe_meth0 (pv 0) T.cl T.mcloths Fc hr1 bcloths .nil pass0) (pe_ix ix_list (pv 1) pe_int (fun _ _ => rfl)) (nomark _)) (pw_or (pt_cmpR (op_neD hu64) (pe_lc (own := [("_law_row", 2)]) (g := gName 2) (tt := tYes) (by rfl) nd (pi_own (pv 0) oi Fit0 hrit bit pass0) (blkOk_by (own := [("_law_row", 2)]) (N := n__law_same) (sc := defScope s__law_same) (by decide +kernel)) (fun _ _ _ _ _ => pg_name (i := 2) nd rfl (by first | exact Or.inl rfl | exact Or.inr rfl)) (fun _ _ _ _ _ => pts_nil) (fun _ _ _ _ _ => (pv 2))) (pe_ix ix_list (pv 1) pe_int (fun _ _ => rfl)) (nomark _)) (pw_or1 (pt_cmpR (op_neD hu64) (pe_meth0 (pv 0) T.cl T.mfacts Ff hr1 bfacts .nil pass0) (pe_ix ix_list (pv 1) pe_int (fun _ _ => rfl)) (nomark _)))))) (pss_one (ps_ret pe_bl)) pss_nil)
   (pss_one (ps_ret (pe_and (pe_cmpR op_eq (pe_prop (pv 0) T.cl hpg Fg hrg bg .nil pass0 rfl) pe_int (nomark _)) (pe_one (pe_cd D__law_lists hr__law_lists (by rfl) pass0 (pa_cons (pe_meth0 (pv 0) T.cl T.mamounts Fam hram bam .nil pass0) (pa_cons (pe_cd D__law_amounts hr__law_amounts (by rfl) pass0 (pa_cons (pv 1) pa_nil)) pa_nil))))))))), ?_⟩
    have G := j.G
    have kp := j.G.kept (by omega)
    have okk : ∀ q ∈ k, okN q.1 ∧ okN q.2 := fun q hq => ⟨nm_okN (G.kn.nm _ (List.mem_map.mpr ⟨q, hq, rfl⟩)), hold_ok (G.kh q hq)⟩
    have okt : ∀ q ∈ t, okN q.1 ∧ okN q.2 := fun q hq => ⟨nm_okN (G.kn.nm _ (G.tk q hq).1), nm_okN (G.kn.nm _ (G.tk q hq).2)⟩
    have okc : ∀ q ∈ c, okN q.1 ∧ okN q.2 := fun q hq => ⟨nm_okN (G.cn.nm _ (List.mem_map.mpr ⟨q, hq, rfl⟩)), nm_okN (G.kn.nm _ (G.ck q hq))⟩
    have okd : ∀ q ∈ d, okN q.1 ∧ okN q.2 := fun q hq => ⟨nm_okN (G.cn.nm _ (G.dc q hq).1), nm_okN (G.pn.nm _ (G.dc q hq).2)⟩
    -- kinds
    refine ⟨_, rfl, b, A'.dx, _, rfl, j.B.B.ob, rfl, b, 24, A', _, _, _, _, _, _, rfl, j.B.B, fun l1 as1 H1 hl1 e1 hh1 hp1 => ?_⟩
    have j1 := j.grow e1
    refine ⟨_, rfl, a.M, _, 0, .ref a.m0, rfl, rfl, SqL.of j1.M.M, rfl, row_ne ⟨as1, hh1, prs_tv hp1⟩ j1.M.r0 okk ⟨_, rfl, iteF ?_⟩⟩
    clear hh1 hp1 hl1
    -- thirsts
    refine ⟨_, rfl, b, A'.dx, _, rfl, j1.B.B.ob, rfl, b, 24, A', _, _, _, _, _, _, t, rfl, j1.B.B, j1.B.T, by omega, fun l2 H2 hl2 e2 row2 => ?_⟩
    have j2 := j1.grow e2
    have e02 := e1.trans e2
    refine ⟨_, rfl, a.M, _, 1, .ref a.m1, rfl, rfl, SqL.of j2.M.M, rfl, row_ne row2 j2.M.r1 okt ⟨_, rfl, iteF ?_⟩⟩
    clear row2 hl2 e1 e2 j1
    -- pots
    refine ⟨_, rfl, b, A'.dx, _, rfl, j2.B.B.ob, rfl, b, 24, A', _, _, _, _, _, _, rfl, j2.B.B, fun l3 hl3 => ?_⟩
    have e3 : Ext [] H2 (upd H2 l3 (.lst (p.map V.str))) := Ext.new hl3
    have j3 := j2.grow e3
    have hl3' : (upd H2 l3 (.lst (p.map V.str))) l3 = some (.lst (p.map V.str)) := upd_same
    generalize upd H2 l3 (.lst (p.map V.str)) = H3 at e3 j3 hl3' ⊢
    have e03 := e02.trans e3
    refine ⟨_, rfl, a.M, _, 2, .ref a.m2, rfl, rfl, SqL.of j3.M.M, rfl, strs_ne hl3' j3.M.r2 (fun z hz => (nm_okN (G.pn.nm z hz)).1) ⟨_, rfl, iteF ?_⟩⟩
    unfold tNext
    dsimp only
    clear hl3' hl3 e3 j2 e02
    -- cloths
    refine ⟨_, rfl, b, A'.dx, _, rfl, j3.B.B.ob, rfl, b, 24, A', _, _, _, _, _, _, rfl, j3.B.B, fun l4 as4 H4 hl4 e4 hh4 hp4 => ?_⟩
    have j4 := j3.grow e4
    have e04 := e03.trans e4
    refine ⟨_, rfl, a.M, _, 3, .ref a.m3, rfl, rfl, SqL.of j4.M.M, rfl, row_ne ⟨as4, hh4, prs_tv hp4⟩ j4.M.r3 okc ⟨_, rfl, iteF ?_⟩⟩
    clear hh4 hp4 hl4 j3 e03 e4
    -- dips
    obtain ⟨ads, hds, hq4⟩ := id j4.B.D
    have hl4 := j4.B.B.ld
    refine op_ex ?_
    refine ⟨_, rfl, b, A'.dx, _, A'.ld, rfl, j4.B.B.ob, fun n => ⟨b, 24, A', _, _, _, _, _, _, rfl, j4.B.B, fun it h1 h2 => ⟨it, rfl, h1, h2, rfl⟩⟩, fun lz hlz => lc_list (xs := ds) (fun i H' => H' = upd H4 lz (.lst (ds.take i))) rfl ?_ ?_ ?_⟩
    · rintro i H' _ rfl
      exact SqL.of (by rw [upd_ne (ne_of_none hl4 hlz)]; exact hl4)
    · rintro i x H' hx rfl
      have hi := (List.getElem?_eq_some_iff.mp hx).1
      have hdsl := j4.B.D.len
      refine ⟨wipe1, ?_⟩
      refine tyes ?_
      refine ⟨_, rfl, _, upd_same, ?_, ?_⟩
      · rw [List.length_take]
        exact Evl.sz_lt (by omega)
      · rw [upd_upd, List.take_add_one, hx]
        rfl
    rintro H' rfl
    have e5 := Ext.new (ms := []) (o := .lst (ds.take ds.length)) hlz
    have j5 := j4.grow e5
    have e05 := e04.trans e5
    have rz : RowAt (upd H4 lz (.lst (ds.take ds.length))) lz d := ⟨ads, by rw [upd_same, List.take_of_length_le (Nat.le_refl _), hds], paired_ext e5 hq4⟩
    generalize upd H4 lz (.lst (ds.take ds.length)) = H5 at e5 j5 e05 rz ⊢
    refine ⟨_, rfl, a.M, _, 4, .ref a.m4, rfl, rfl, SqL.of j5.M.M, rfl, row_ne rz j5.M.r4 okd ⟨_, rfl, iteF ?_⟩⟩
    clear rz hlz hl4 j4 e04 e5
    -- facts
    refine ⟨_, rfl, b, A'.dx, _, rfl, j5.B.B.ob, rfl, b, 24, A', _, _, _, _, _, _, rfl, j5.B.B, fun l6 hl6 => ?_⟩
    have e6 : Ext [] H5 (upd H5 l6 (.lst us)) := Ext.new hl6
    have j6 := j5.grow e6
    have e06 := e05.trans e6
    have hl6' : (upd H5 l6 (.lst us)) l6 = some (.lst us) := upd_same
    generalize upd H5 l6 (.lst us) = H6 at e6 j6 e06 hl6' ⊢
    refine ⟨_, rfl, a.M, _, 5, .ref a.m5, rfl, rfl, SqL.of j6.M.M, rfl, facts_ne hl6' j6.M.r5 j6.B.F j6.W j6.B.fo ⟨_, rfl, iteF ?_⟩⟩
    dsimp only
    clear hl6' hl6 j5 e05 e6
    -- the rest
    have hb := amtD_len (k := k) (c := c) (d := d) d.length
    refine ⟨_, rfl, b, A'.dx, _, rfl, j6.B.B.ob, b, 24, A', _, _, _, _, _, _, rfl, j6.B.B, rfl, ?_⟩
    refine ⟨_, rfl, ?_⟩
    refine iteT ?_
    refine ⟨_, rfl, b, A'.dx, _, rfl, j6.B.B.ob, fsB_no2 (.inr (.inr (.inl rfl))), b, 24, A', k, c, ts, p, ds, us, d, rfl, j6.B.B, j6.B.D, kp, fun l9 H9 hl9 e9 am9 => ?_⟩
    have j9 := j6.grow e9
    refine ⟨_, rfl, a, k, t, p, c, d, ms, rfl, j9.M, kp, fun l10 H10 hl10 e10 am10 => ?_⟩
    exact ⟨l9, l10, _, rfl, am9.ext e10 (by simp), am10, by omega, fun z hz => amtD_ok _ z hz, q H10 ((e06.trans e9).trans e10)⟩
end

end K15
namespace K15
open PySem PySem.Spec PyProof.Rows L2 He Tp ClX LiI

section
variable {P : Program} {w : World} {K : PySem.W.Frag} {mg : Str → Option Value} {base : Heap}
theorem b_add_kindG {fd : FuncData} (F : FnM K "Book" "add_kind" "Book.add_kind" s_Book_add_kind [("hold", .str "unsure")] fd) : ∃ mv : List Value, KBn K fd ["self", "name", "hold"] 2 ["hold"] (fun us ws => us ++ ws) (fun vs zs => vs ++ zs) :=
  F.kbinds0 2 ["hold"] [] (fun us mv ws => us ++ ws) (by simp) (by simp) (fun r1 r2 r3 => r1.append r3) (fun D doc pm an cdv ct us mv ws h1 h2 h3 => match us, ws, h1, h3 with | [_, _], [_], _, _ => rfl)
/-- what a line asks of the book -/
def lineD (K : PySem.W.Frag) (C b : Addr) (ws : List Str) (H : Hp) (Q : VK) : Prop :=
  (∃ n h : Str, ws = [("kind" : Str), n, h] ∧ spAddKind K C [.ref b, .str n, .str h] H Q E0) ∨ (∃ m l : Str, ws = [("thirst" : Str), m, l] ∧ spAddThirst K C [.ref b, .str m, .str l] H Q E0) ∨ (∃ n : Str, ws = [("pot" : Str), n] ∧ spAddPot K C [.ref b, .str n] H Q E0) ∨
  (∃ n k : Str, ws = [("cloth" : Str), n, k] ∧ spAddCloth K C [.ref b, .str n, .str k] H Q E0) ∨ (∃ c p : Str, ws = [("dip" : Str), c, p] ∧ spDip K C [.ref b, .str c, .str p] H Q E0) ∨
  (∃ w x v y : Str, ∃ i j : Int, ws = [("tell" : Str), w, x, v, y] ∧ PySem.intText? x = some i ∧ x.length ≤ 640 ∧ PySem.intText? y = some j ∧ y.length ≤ 640 ∧ ∀ u1 u2, H u1 = none → (upd H u1 (.tup [.str w, .int i])) u2 = none → spTell K C [.ref b, .ref u1, .ref u2] (upd (upd H u1 (.tup [.str w, .int i])) u2 (.tup [.str v, .int j])) Q E0) ∨
  (∃ w x : Str, ∃ i : Int, ws = [("some" : Str), w, x] ∧ PySem.intText? x = some i ∧ x.length ≤ 640 ∧ ∀ u1, H u1 = none → spTellSome K C [.ref b, .ref u1] (upd H u1 (.tup [.str w, .int i])) Q E0)
/-- _carry_out(book, words) -/
def spCarry (K : PySem.W.Frag) (C : Addr) : Sp := fun vs H Q _ => ∃ (b l : Addr) (i : Int) (A : Bk) (ks : List (Str × V)) (ts : List V) (ps : List Str) (cs : List (Str × V)) (ds us : List V) (ws : List Str), vs = [.ref b, .ref l] ∧ H l = some (.lst (ws.map V.str)) ∧ BookAt C H b i A ks ts ps cs ds us ∧ lineD K C b ws H fun _ => Q .non
theorem ok_carry (T : Txt K mg) : Df P w K mg base CX0 9 "_carry_out" ["book", "words"] (spCarry K (cB K)) := by
  obtain ⟨fk, fk_⟩ := T.fadd_kind
  obtain ⟨fp, fp_⟩ := T.fadd_pot
  obtain ⟨fc, fc_⟩ := T.fadd_cloth
  obtain ⟨ft, ft_⟩ := T.fadd_thirst
  obtain ⟨fd', fd_⟩ := T.fdip
  obtain ⟨ftl, ftl_⟩ := T.ftell
  obtain ⟨fts, fts_⟩ := T.ftell_some
  have Fk := ok_add_kind (P := P) (w := w) (base := base) T fk_
  have Fp := ok_add_pot (P := P) (w := w) (base := base) T fp_
  have Fc := ok_add_cloth (P := P) (w := w) (base := base) T fc_
  have Ft := ok_add_thirst (P := P) (w := w) (base := base) T ft_
  have Fd := ok_dip (P := P) (w := w) (base := base) T fd_
  have Ftl := ok_tell (P := P) (w := w) (base := base) T ftl_
  have Fts := ok_tell_some (P := P) (w := w) (base := base) T fts_
  obtain ⟨_, bkK⟩ := b_add_kindG fk_
  have bp : Binds K fp ["self", "name"] [] := fp_.bindsN (fun _ _ _ _ _ _ us hl => match us, hl with | [_, _], _ => rfl)
  have bc : Binds K fc ["self", "name", "kind"] [] := fc_.bindsN (fun _ _ _ _ _ _ us hl => match us, hl with | [_, _, _], _ => rfl)
  have bt : Binds K ft ["self", "more", "less"] [] := ft_.bindsN (fun _ _ _ _ _ _ us hl => match us, hl with | [_, _, _], _ => rfl)
  have bd : Binds K fd' ["self", "cloth", "pot"] [] := fd_.bindsN (fun _ _ _ _ _ _ us hl => match us, hl with | [_, _, _], _ => rfl)
  have btl : Binds K ftl ["self", "more", "less"] [] := ftl_.bindsN (fun _ _ _ _ _ _ us hl => match us, hl with | [_, _, _], _ => rfl)
  have bts : Binds K fts ["self", "amount"] [] := fts_.bindsN (fun _ _ _ _ _ _ us hl => match us, hl with | [_, _], _ => rfl)
  refine Df.mk' T.g_carry_out T.f_carry_out (fun _ _ _ _ _ _ us hl => match us, hl with | [_, _], _ => rfl) fun fd F => F.ok sc__carry_out (fun vs H Q E h => ?_) (fun cdv A outer s H vs Q E hr h => ?_)
  · obtain ⟨b, l, i, A, ks, ts, ps, cs, ds, us, ws, rfl, _⟩ := h
    rfl
  · obtain ⟨b, l, i, A', ks, ts, ps, cs, ds, us, ws, rfl, hl, B, q⟩ := h
    have nd := sc__carry_out.nd
    have hrm := hr.mono (show 4 ≤ 8 by decide)
    have hrt := hr.mono (show 8 ≤ 8 by decide)
    refine ⟨_, PSs.nox (pss_one (ps_match (pv 1) (pm_cons rfl nd pe_str (.cons (i := 2) rfl (by first | exact Or.inl rfl | exact Or.inr rfl) (by first | exact Or.inl rfl | exact Or.inr rfl) (.cons (i := 3) rfl (by first | exact Or.inl rfl | exact Or.inr rfl) (by first | exact Or.inl rfl | exact Or.inr rfl) .nil)) (pss_one (ps_expr (pe_methKw (n := 1) (pv 0) T.cl T.madd_kind Fk hrm bkK passL (pa_cons (pv 2) pa_nil) (pk_cons (pv 3) pk_nil))))
   (pm_cons rfl nd pe_str (.cons (i := 4) rfl (by first | exact Or.inl rfl | exact Or.inr rfl) (by first | exact Or.inl rfl | exact Or.inr rfl) (.cons (i := 5) rfl (by first | exact Or.inl rfl | exact Or.inr rfl) (by first | exact Or.inl rfl | exact Or.inr rfl) .nil)) (pss_one (ps_expr (pe_meth (pv 0) T.cl T.madd_thirst Ft hrm bt .nil passL (pa_cons (pv 4) (pa_cons (pv 5) pa_nil)))))
   (pm_cons rfl nd pe_str (.cons (i := 2) rfl (by first | exact Or.inl rfl | exact Or.inr rfl) (by first | exact Or.inl rfl | exact Or.inr rfl) .nil) (pss_one (ps_expr (pe_meth (pv 0) T.cl T.madd_pot Fp hrm bp .nil passL (pa_cons (pv 2) pa_nil))))
   (pm_cons rfl nd pe_str (.cons (i := 2) rfl (by first | exact Or.inl rfl | exact Or.inr rfl) (by first | exact Or.inl rfl | exact Or.inr rfl) (.cons (i := 6) rfl (by first | exact Or.inl rfl | exact Or.inr rfl) (by first | exact Or.inl rfl | exact Or.inr rfl) .nil)) (pss_one (ps_expr (pe_meth (pv 0) T.cl T.madd_cloth Fc hrm bc .nil passL (pa_cons (pv 2) (pa_cons (pv 6) pa_nil)))))
   (pm_cons rfl nd pe_str (.cons (i := 7) rfl (by first | exact Or.inl rfl | exact Or.inr rfl) (by first | exact Or.inl rfl | exact Or.inr rfl) (.cons (i := 8) rfl (by first | exact Or.inl rfl | exact Or.inr rfl) (by first | exact Or.inl rfl | exact Or.inr rfl) .nil)) (pss_one (ps_expr (pe_meth (pv 0) T.cl T.mdip Fd hrm bd .nil passL (pa_cons (pv 7) (pa_cons (pv 8) pa_nil)))))
   (pm_cons rfl nd pe_str (.cons (i := 9) rfl (by first | exact Or.inl rfl | exact Or.inr rfl) (by first | exact Or.inl rfl | exact Or.inr rfl) (.cons (i := 10) rfl (by first | exact Or.inl rfl | exact Or.inr rfl) (by first | exact Or.inl rfl | exact Or.inr rfl) (.cons (i := 11) rfl (by first | exact Or.inl rfl | exact Or.inr rfl) (by first | exact Or.inl rfl | exact Or.inr rfl) (.cons (i := 12) rfl (by first | exact Or.inl rfl | exact Or.inr rfl) (by first | exact Or.inl rfl | exact Or.inr rfl) .nil)))) (pss_one (ps_expr (pe_meth (pv 0) T.cl T.mtell Ftl hrt btl .nil passL (pa_cons (pe_tup (pa_cons (pv 9) (pa_cons (pe_callTy call_int_str (by rfl) T.bint (by decide +kernel) (pa_cons (pv 10) pa_nil)) pa_nil))) (pa_cons (pe_tup (pa_cons (pv 11) (pa_cons (pe_callTy call_int_str (by rfl) T.bint (by decide +kernel) (pa_cons (pv 12) pa_nil)) pa_nil))) pa_nil)))))
   (pm_cons rfl nd pe_str (.cons (i := 9) rfl (by first | exact Or.inl rfl | exact Or.inr rfl) (by first | exact Or.inl rfl | exact Or.inr rfl) (.cons (i := 10) rfl (by first | exact Or.inl rfl | exact Or.inr rfl) (by first | exact Or.inl rfl | exact Or.inr rfl) .nil)) (pss_one (ps_expr (pe_meth (pv 0) T.cl T.mtell_some Fts hrt bts .nil passL (pa_cons (pe_tup (pa_cons (pv 9) (pa_cons (pe_callTy call_int_str (by rfl) T.bint (by decide +kernel) (pa_cons (pv 10) pa_nil)) pa_nil))) pa_nil))))
   pm_nil))))))))), ?_⟩
    refine ⟨_, rfl, l, ws, rfl, SqL.of hl, ?_⟩
    rcases q with ⟨n, h, rfl, q⟩ | ⟨m, l, rfl, q⟩ | ⟨n, rfl, q⟩ | ⟨n, k, rfl, q⟩ | ⟨c, p, rfl, q⟩ | ⟨w, x, v, y, i, j, rfl, hx, hxl, hy, hyl, q⟩ | ⟨w, x, i, rfl, hx, hxl, q⟩
    · refine tcs_yes rfl rfl ?_
      refine ⟨_, rfl, b, A'.dx, _, rfl, B.ob, fsB_no (.inl rfl), _, rfl, _, rfl, rfl, rfl, ?_⟩
      exact q
    · refine tcs_no (hd_ne (by decide +kernel)) (tcs_yes rfl rfl ?_)
      exact ⟨_, rfl, b, A'.dx, _, rfl, B.ob, fsB_no (.inr (.inr (.inr (.inr (.inr (.inr (.inr (.inr rfl)))))))), _, rfl, _, rfl, q⟩
    · refine tcs_no (hd_ne (by decide +kernel)) (tcs_no (hd_ne (by decide +kernel)) (tcs_yes rfl rfl ?_))
      exact ⟨_, rfl, b, A'.dx, _, rfl, B.ob, fsB_no (.inr (.inl rfl)), _, rfl, q⟩
    · refine tcs_no (hd_ne (by decide +kernel)) (tcs_no (hd_ne (by decide +kernel)) (tcs_no (hd_ne (by decide +kernel)) (tcs_yes rfl rfl ?_)))
      exact ⟨_, rfl, b, A'.dx, _, rfl, B.ob, fsB_no (.inr (.inr (.inl rfl))), _, rfl, _, rfl, q⟩
    · refine tcs_no (hd_ne (by decide +kernel)) (tcs_no (hd_ne (by decide +kernel)) (tcs_no (hd_ne (by decide +kernel)) (tcs_no (hd_ne (by decide +kernel)) (tcs_yes rfl rfl ?_))))
      exact ⟨_, rfl, b, A'.dx, _, rfl, B.ob, fsB_no (.inr (.inr (.inr (.inr (.inr (.inr (.inl rfl))))))), _, rfl, _, rfl, q⟩
    · refine tcs_no (hd_ne (by decide +kernel)) (tcs_no (hd_ne (by decide +kernel)) (tcs_no (hd_ne (by decide +kernel)) (tcs_no (hd_ne (by decide +kernel)) (tcs_no (hd_ne (by decide +kernel)) (tcs_yes rfl rfl ?_)))))
      refine ⟨_, rfl, b, A'.dx, _, rfl, B.ob, fsB_no3 (.inr (.inl rfl)), ?_⟩
      refine ⟨_, rfl, _, rfl, x, i, rfl, hx, hxl, by show 2 ≤ sizeLine; decide, fun u1 h1 => ⟨_, rfl, _, rfl, y, j, rfl, hy, hyl, by show 2 ≤ sizeLine; decide, fun u2 h2 => ?_⟩⟩
      exact q u1 u2 h1 h2
    · refine tcs_no (hd_ne (by decide +kernel)) (tcs_no (hd_ne (by decide +kernel)) (tcs_no (hd_ne (by decide +kernel)) (tcs_no (hd_ne (by decide +kernel)) (tcs_no (hd_ne (by decide +kernel)) (tcs_no (hd_ne (by decide +kernel)) (tcs_yes rfl rfl ?_))))))
      refine ⟨_, rfl, b, A'.dx, _, rfl, B.ob, fsB_no3 (.inr (.inr (.inl rfl))), ?_⟩
      refine ⟨_, rfl, _, rfl, x, i, rfl, hx, hxl, by show 2 ≤ sizeLine; decide, fun u1 h1 => ?_⟩
      exact q u1 h1
end

end K15
namespace K15
open PySem PySem.Spec PyProof.Rows L2 He Tp ClX LiI

section
variable {P : Program} {w : World} {K : PySem.W.Frag} {mg : Str → Option Value} {base : Heap}
/-- _is_amount_text(word, digits), both as they should be -/
def spIsAT : Sp := fun vs H Q _ => ∃ (x : Str) (n : Nat), vs = [.str x, .str (nS n)] ∧ (x = "take" ∨ x = "leave") ∧ n < 100 ∧ ∀ H', Ext [] H H' → Q (.bl true) H'
theorem ok_isAT (T : Txt K mg) : Df P w K mg base CX0 1 "_is_amount_text" ["word", "digits"] spIsAT := by
  obtain ⟨t_, c_NUMBERS⟩ := T.cNUMBERS
  refine Df.mk' T.g_is_amount_text T.f_is_amount_text (fun _ _ _ _ _ _ us hl => match us, hl with | [_, _], _ => rfl) fun fd F => F.ok sc__is_amount_text (fun vs H Q E h => ?_) (fun cdv A outer s H vs Q E hr h => ?_)
  · obtain ⟨x, n, rfl, _⟩ := h
    rfl
  · obtain ⟨x, n, rfl, hx, hn, q⟩ := h
    have nd := sc__is_amount_text.nd
    refine ⟨_, PSs.nox (pss_one (ps_ret (pe_and (pe_cmpR op_in_seq (pv 0) (pe_glob (v := .ref (ga K "WORDS")) (by rfl) T.gWORDS rfl) (by rfl)) (pe_one (pe_cmpR op_in_seq (pv 1) (pe_lc (own := [("number", 2)]) (g := gName 2) (tt := tYes) (by rfl) nd (pi_range1 (by rfl) T.brange (pa_cons (pe_glob (v := .int 100) (by rfl) c_NUMBERS ⟨_, rfl⟩) pa_nil)) (blkOk_by (own := [("number", 2)]) (N := n__is_amount_text) (sc := defScope s__is_amount_text) (by decide +kernel)) (fun _ _ _ _ _ => pg_name (i := 2) nd rfl (by first | exact Or.inl rfl | exact Or.inr rfl)) (fun _ _ _ _ _ => pts_nil) (fun _ _ _ _ _ => (pe_callTy call_str_int (by rfl) T.bstr (by decide +kernel) (pa_cons (pv 2) pa_nil)))) (by rfl)))))), ?_⟩
    refine ⟨_, rfl, ga K "WORDS", (["take", "leave"] : List Str).map V.str, rfl, .inr (T.tWORDS H), rfl, flat_strs, ?_⟩
    show ∃ _, _
    rw [show inV (.str x) ((["take", "leave"] : List Str).map V.str) = true from by rw [inV_strs]; exact decide_eq_true (by simpa using hx)]
    refine ⟨true, rfl, ?_⟩
    refine iteT ?_
    refine ⟨_, rfl, 100, rfl, by decide, by decide, fun R hR => ?_⟩
    refine lc_range (n := (100 : Int).toNat) (fun m G => Ext [] H G ∧ G R = some (.lst (((List.range m).map nS).map V.str))) ⟨Ext.new hR, upd_same⟩ ?_ ?_
    · rintro m G hm ⟨e, hG⟩
      have hm' : m < 100 := hm
      refine ⟨rfl, ?_⟩
      refine tyes ?_
      refine ⟨_, rfl, _, rfl, ?_, ?_⟩
      · have := Nat.log2_le_self (0 + (m : Int)).natAbs
        omega
      · refine ⟨_, hG, by rw [List.length_map, List.length_map, List.length_range]; exact Evl.sz_lt (by omega), e.fresh hR, ?_⟩
        rw [upd_same, List.range_succ, List.map_append, List.map_append, Int.zero_add]
        rfl
    · rintro G ⟨e, hG⟩
      refine ⟨R, _, rfl, .inl (SqL.of hG), rfl, flat_strs, ?_⟩
      show Q _ _
      rw [show inV (.str (nS n)) (((List.range (100 : Int).toNat).map nS).map V.str) = true from by
        rw [inV_strs]
        exact decide_eq_true (List.mem_map.mpr ⟨n, List.mem_range.mpr hn, rfl⟩)]
      exact q G e
end

end K15
namespace K15
open PySem PySem.Spec PyProof.Rows L2 He Tp ClX LiI

section
variable {P : Program} {w : World} {K : PySem.W.Frag} {mg : Str → Option Value} {base : Heap}
def okL (ws : List Str) : Prop := (∃ x y, ws = [("kind" : Str), x, y]) ∨ (∃ x y, ws = [("thirst" : Str), x, y]) ∨ (∃ x, ws = [("pot" : Str), x]) ∨ (∃ x y, ws = [("cloth" : Str), x, y]) ∨ (∃ x y, ws = [("dip" : Str), x, y]) ∨
  (∃ x y i j, ws = [("tell" : Str), x, nS i, y, nS j] ∧ (x = "take" ∨ x = "leave") ∧ (y = "take" ∨ y = "leave") ∧ i < 100 ∧ j < 100) ∨ (∃ x i, ws = [("some" : Str), x, nS i] ∧ (x = "take" ∨ x = "leave") ∧ i < 100)
def spHF : Sp := fun vs H Q _ => ∃ (l : Addr) (ws : List Str), vs = [.ref l] ∧ H l = some (.lst (ws.map V.str)) ∧ okL ws ∧ (∀ z ∈ ws, z ≠ "") ∧ ∀ H', Ext [] H H' → Q (.bl true) H'
/-- read_book(text): a fold over its lines -/
def spRead (K : PySem.W.Frag) (C : Addr) : Sp := fun vs H Q _ => ∃ (z : Str) (ls : List Str) (J : Nat → Addr → Bk → Hp → Prop), vs = [.str z] ∧ z.length + 2 ≤ sizeLine ∧ Txt.split z nl = ls ++ [("" : Str)] ∧ ls.length ≤ 1000 ∧ (∀ l ∈ ls, l.length + 2 ≤ sizeLine ∧ okL (Txt.split l sp1) ∧ ∀ x ∈ Txt.split l sp1, x ≠ "") ∧
  (∀ b A H', Ext [] H H' → (∀ x ∈ A.all b, H x = none) → BookAt C H' b 24 A [] [] [] [] [] [] → J 0 b A H') ∧ (∀ i b A H' H'', J i b A H' → Ext [] H' H'' → J i b A H'') ∧
  (∀ i b A l x H', J i b A H' → ls[i]? = some x → H' l = some (.lst ((Txt.split x sp1).map V.str)) → ∀ Q' : VK, (∀ H'' A', J (i + 1) b A' H'' → Ext (A.all b) H' H'' → (∀ y ∈ A'.all b, y ∈ A.all b ∨ H' y = none) → Q' .non H'') → spCarry K C [.ref b, .ref l] H' Q' E0) ∧ ∀ b A H', J ls.length b A H' → Q (.ref b) H'
theorem ok_read (T : Txt K mg) (D__has_form : Df P w K mg base CX0 4 "_has_form" ["words"] spHF) : Df P w K mg base CX0 10 "read_book" ["text"] (spRead K (cB K)) := by
  have D__carry_out := ok_carry (P := P) (w := w) (base := base) T
  obtain ⟨fi, fi_⟩ := T.fInit
  have Fi := ok_init (P := P) (w := w) (base := base) T fi_
  obtain ⟨dsi, bi⟩ := b_init fi_
  refine Df.mk' T.gread_book T.fread_book (fun _ _ _ _ _ _ us hl => match us, hl with | [_], _ => rfl) fun fd F => F.ok sc_read_book (fun vs H Q E h => ?_) (fun cdv A outer s H vs Q E hr h => ?_)
  · obtain ⟨z, ls, J, rfl, _⟩ := h
    rfl
  · obtain ⟨z, ls, J, rfl, hz, hsp, hll, hok, j0, jx, js, q⟩ := h
    have nd := sc_read_book.nd
    have hr__has_form := hr.mono (show 4 ≤ 9 by decide)
    have hr__carry_out := hr
    have hri := hr.mono (show 5 ≤ 9 by decide)
    refine ⟨_, PSs.nox (pss_cons (ps_set (i := 1) nd rfl (by first | exact Or.inl rfl | exact Or.inr rfl) (pe_make0 T.mk_ Fi hri (by rfl) T.gBook bi.2 bi.1 passL))
   (pss_cons (ps_asg (pe_split (pv 0) pe_str) (pg_starL (by rfl) (pgs_cons (pg_name (i := 2) nd rfl (by first | exact Or.inl rfl | exact Or.inr rfl)) (pgs_cons (pg_name (i := 3) nd rfl (by first | exact Or.inl rfl | exact Or.inr rfl)) pgs_nil))))
   (pss_cons (ps_for PassesOwn.never rfl (pi_enumF (by rfl) T.benumerate (pa_cons (pv 2) (pa_cons pe_int pa_nil))) (pg_tup (by rfl) (pgs_cons (pg_name (i := 4) nd rfl (by first | exact Or.inl rfl | exact Or.inr rfl)) (pgs_cons (pg_name (i := 5) nd rfl (by first | exact Or.inl rfl | exact Or.inr rfl)) pgs_nil)))
   (pss_cons (ps_set (i := 6) nd rfl (by first | exact Or.inl rfl | exact Or.inr rfl) (pe_split (pv 5) pe_str))
   (pss_cons (ps_if (pt_not (pt_val (pe_cd D__has_form hr__has_form (by rfl) pass0 (pa_cons (pv 6) pa_nil)))) (pss_one ps_never) pss_nil)
   (pss_one (ps_try_thru0 (pss_one (ps_expr (pe_cd D__carry_out hr__carry_out (by rfl) pass0 (pa_cons (pv 1) (pa_cons (pv 6) pa_nil))))))))))
   (pss_cons (ps_if (pt_cmpR op_ne (pv 3) pe_str (nomark _)) (pss_one ps_never) pss_nil)
   (pss_one (ps_ret (pv 1))))))), ?_⟩
    intro b dx hb hdx hne
    refine ⟨b, dx, .int 24, rfl, .int 24, upd_same, fun hx => absurd (show (0 : Int) ≤ 24 ∧ (24 : Int) ≤ 24 by decide) hx, fun i A H2 hi h0 h24 B hA hAdx e2 => ⟨rfl, ?_⟩⟩
    cases hi
    have em : Ext [] H (upd (upd H dx (.own b)) b (.ins (cB K) dx [])) := (Ext.new hdx).trans (Ext.new (by rw [upd_ne hne.symm]; exact hb))
    have X2 := em.over e2 hb
    have J2 := j0 b A H2 X2 (fun x hx => by
      rcases List.mem_cons.mp hx with rfl | hx
      · exact hb
      · exact em.none (hA x hx) (by simp)) B
    refine gset ?_
    dsimp only
    refine ⟨_, rfl, ⟨_, rfl⟩, z, nl, rfl, rfl, by decide +kernel, hz, fun l0 hl0 => ?_⟩
    have e3 : Ext [] H2 (upd H2 l0 (.lst ((Txt.split z nl).map V.str))) := Ext.new hl0
    have hl0' : (upd H2 l0 (.lst ((Txt.split z nl).map V.str))) l0 = some (.lst (ls.map V.str ++ [.str ""])) := by rw [upd_same, hsp, List.map_append]; rfl
    have J3 := jx _ _ _ _ _ J2 e3
    have f3 : ∀ y ∈ A.all b, y ≠ l0 := fun y hy => by
      obtain ⟨v, hv⟩ := B.some y hy
      exact ne_of_none hv hl0
    have f3' : ∀ y ∈ A.all b, ∃ v, (upd H2 l0 (.lst ((Txt.split z nl).map V.str))) y = some v := fun y hy => by
      obtain ⟨v, hv⟩ := B.some y hy
      exact ⟨v, e3.keep _ _ hv (by simp)⟩
    generalize upd H2 l0 (.lst ((Txt.split z nl).map V.str)) = H3 at e3 hl0' J3 f3' ⊢
    refine ⟨l0, ls.map V.str, .str "", rfl, SqL.of hl0', fun ll hll => ?_⟩
    have e4 : Ext [] H3 (upd H3 ll (.lst (ls.map V.str))) := Ext.new hll
    have hll4 : (upd H3 ll (.lst (ls.map V.str))) ll = some (.lst (ls.map V.str)) := upd_same
    have J4 := jx _ _ _ _ _ J3 e4
    have f4 : ll ∉ A.all b := fun h => by
      obtain ⟨v, hv⟩ := f3' ll h
      rw [hll] at hv
      cases hv
    generalize upd H3 ll (.lst (ls.map V.str)) = H4 at e4 hll4 J4 ⊢
    refine ⟨_, _, rfl, _, _, rfl, rfl, ?_⟩
    dsimp only
    clear hll hl0 hl0' e3 e4 f3 f3' J3 J2 X2 em B hA hAdx e2 hne hdx hb
    refine ⟨_, rfl, ll, 1, ls.map V.str, rfl, by decide, SqL.of hll4, for_it (walk_enumF (xs := ls.map V.str)) (fun n σ' H' => ∃ x4 x5 x6 A, σ' = [some (.str z), some (.ref b), some (.ref ll), some (.str ""), x4, x5, x6, none] ∧ J n b A H' ∧ H' ll = some (.lst (ls.map V.str)) ∧ ll ∉ A.all b) ⟨none, none, none, A, rfl, J4, hll4, f4⟩ ?_ ?_ ?_⟩
    · rintro n σ' H' _ ⟨x4, x5, x6, A, rfl, _, h, _⟩
      exact SqL.of h
    · clear J4 hll4 f4 A j0
      rintro n v σ' H0 H0' hn ⟨x4, x5, x6, A, rfl, J0, hl, f0⟩ ⟨T, x, y, rfl, hT, rfl, hx, hy⟩
      cases hx
      dsimp only at hy
      rw [List.getElem?_map] at hy
      obtain ⟨x, hxl, rfl⟩ := Option.map_eq_some_iff.mp hy
      have e1 : Ext [] H0 (upd H0 T (.tup [.int ((n + 1 : Nat) : Int), .str x])) := Ext.new hT
      have hT1 : (upd H0 T (.tup [.int ((n + 1 : Nat) : Int), .str x])) T = some (.tup [.int ((n + 1 : Nat) : Int), .str x]) := upd_same
      have J1 := jx _ _ _ _ _ J0 e1
      have hl1 := e1.keep _ _ hl (by simp)
      generalize upd H0 T (.tup [.int ((n + 1 : Nat) : Int), .str x]) = H1 at e1 hT1 J1 hl1 ⊢
      refine ⟨T, _, rfl, .inl (.inl hT1), rfl, _, _, rfl, _, _, rfl, rfl, ?_⟩
      obtain ⟨hxs, hxo, hxn⟩ := hok x (List.mem_of_getElem? hxl)
      refine ⟨_, rfl, ⟨_, rfl⟩, x, sp1, rfl, rfl, by decide +kernel, hxs, fun lw hlw => ?_⟩
      have e2 : Ext [] H1 (upd H1 lw (.lst ((Txt.split x sp1).map V.str))) := Ext.new hlw
      have hlw2 : (upd H1 lw (.lst ((Txt.split x sp1).map V.str))) lw = some (.lst ((Txt.split x sp1).map V.str)) := upd_same
      have J2 := jx _ _ _ _ _ J1 e2
      have hl2 := e2.keep _ _ hl1 (by simp)
      generalize upd H1 lw (.lst ((Txt.split x sp1).map V.str)) = H2 at e2 hlw2 J2 hl2 ⊢
      dsimp only
      refine ⟨_, rfl, lw, _, rfl, hlw2, hxo, hxn, fun H3 e3 => ⟨_, rfl, ?_⟩⟩
      refine iteF ?_
      unfold tNext
      dsimp only
      have J3 := jx _ _ _ _ _ J2 e3
      have hl3 := e3.keep _ _ hl2 (by simp)
      have hlw3 := e3.keep _ _ hlw2 (by simp)
      refine ⟨_, rfl, _, rfl, ?_⟩
      dsimp only [tNil, List.nil_append, List.cons_append, List.append_nil]
      refine js n b A lw x H3 J3 hxl hlw3 _ fun H4 A' J4 e4 own => ?_
      refine ⟨_, _, _, A', rfl, J4, e4.keep _ _ hl3 f0, fun h => ?_⟩
      rcases own _ h with h | h
      · exact f0 h
      · rw [hl3] at h
        cases h
    · rintro σ' H' ⟨x4, x5, x6, A, rfl, J', _, _⟩
      rw [List.length_map] at J'
      dsimp only
      refine ⟨_, rfl, rfl, _, rfl, ?_⟩
      refine iteF ?_
      unfold tNext
      exact ⟨_, rfl, q b A H' J'⟩
end

end K15
namespace K15
open PySem PySem.Spec PyProof.Rows L2 He Tp ClX LiI

section
variable {P : Program} {w : World} {K : PySem.W.Frag} {mg : Str → Option Value} {base : Heap}
/-- the first word and what stands behind it -/
theorem okL_hd {ws : List Str} (h : okL ws) : ∃ w0 r, ws = w0 :: r ∧ ((w0, (Dv.int (ws.length : Int))) ∈ ([("kind", .int 3), ("thirst", .int 3), ("pot", .int 2), ("cloth", .int 3), ("dip", .int 3), ("tell", .int 5), ("some", .int 3)] : List (Str × Dv))) ∧
    (w0 ∉ (["tell", "some"] : List Str) ∨ ∃ m, RgC 1 (ws.length : Int) 2 m ∧ m ≤ 2 ∧ ∀ i, i < m → ∃ x j, ws[2 * i + 1]? = some x ∧ ws[2 * i + 2]? = some (nS j) ∧ (x = "take" ∨ x = "leave") ∧ j < 100) := by
  rcases h with ⟨x, y, rfl⟩ | ⟨x, y, rfl⟩ | ⟨x, rfl⟩ | ⟨x, y, rfl⟩ | ⟨x, y, rfl⟩ | ⟨x, y, i, j, rfl, hx, hy, hi, hj⟩ | ⟨x, i, rfl, hx, hi⟩
  · exact ⟨_, _, rfl, .head _, .inl (by decide +kernel)⟩
  · exact ⟨_, _, rfl, .tail _ (.head _), .inl (by decide +kernel)⟩
  · exact ⟨_, _, rfl, .tail _ (.tail _ (.head _)), .inl (by decide +kernel)⟩
  · exact ⟨_, _, rfl, .tail _ (.tail _ (.tail _ (.head _))), .inl (by decide +kernel)⟩
  · exact ⟨_, _, rfl, .tail _ (.tail _ (.tail _ (.tail _ (.head _)))), .inl (by decide +kernel)⟩
  · refine ⟨_, _, rfl, .tail _ (.tail _ (.tail _ (.tail _ (.tail _ (.head _))))), .inr ⟨2, by show RgC 1 5 2 2; exact ⟨by decide, by decide, by decide +kernel, by decide +kernel⟩, by decide, fun n hn => ?_⟩⟩
    match n, hn with
    | 0, _ => exact ⟨x, i, rfl, rfl, hx, hi⟩
    | 1, _ => exact ⟨y, j, rfl, rfl, hy, hj⟩
  · refine ⟨_, _, rfl, .tail _ (.tail _ (.tail _ (.tail _ (.tail _ (.tail _ (.head _)))))), .inr ⟨1, by show RgC 1 3 2 1; exact ⟨by decide, by decide, by decide +kernel, by decide +kernel⟩, by decide, fun n hn => ?_⟩⟩
    match n, hn with
    | 0, _ => exact ⟨x, i, rfl, rfl, hx, hi⟩
theorem ok_has_form (T : Txt K mg) (SZ : ∃ es n, KDict K w (ga K "SIZES") es n) : Df P w K mg base CX0 4 "_has_form" ["words"] spHF := by
  have D__is_amount_text := ok_isAT (P := P) (w := w) (base := base) T
  obtain ⟨es, nz, KD⟩ := SZ
  refine Df.mk' T.g_has_form T.f_has_form (fun _ _ _ _ _ _ us hl => match us, hl with | [_], _ => rfl) fun fd F => F.ok sc__has_form (fun vs H Q E h => ?_) (fun cdv A outer s H vs Q E hr h => ?_)
  · obtain ⟨l, ws, rfl, _⟩ := h
    rfl
  · obtain ⟨l, ws, rfl, hl, ho, hn, q⟩ := h
    have nd := sc__has_form.nd
    have hr__is_amount_text := hr.mono (show 1 ≤ 3 by decide)
    refine ⟨_, PSs.nox (pss_cons (ps_if (PW.pt (pw_or (pt_cmpR op_in_seq pe_str (pv 0) (by rfl)) (pw_or1 (pt_cmpR op_ne (pe_kget2 (pe_glob (v := .ref (ga K "SIZES")) (by rfl) T.gSIZES rfl) (pe_ix ix_list (pv 0) pe_int (fun _ _ => rfl)) pe_int ⟨by rfl, by rfl, by rfl, by rfl⟩) (pe_callB call_len_seq (by rfl) T.blen PySem.boot_len (pa_cons (pv 0) pa_nil)) (nomark _))))) (pss_one (ps_ret pe_bl)) pss_nil)
   (pss_one (ps_ret (pe_or (pe_cmpR op_notIn_seq (pe_ix ix_list (pv 0) pe_int (fun _ _ => rfl)) (pe_glob (v := .ref (ga K "FACT_WORDS")) (by rfl) T.gFACT_WORDS rfl) (by rfl)) (pe_one (pe_callB (cr_all rfl) (by rfl) T.ball (by decide +kernel) (pa_cons (pe_lc (own := [("at", 1)]) (g := gName 1) (tt := tYes) (by rfl) nd (pi_range3 (by rfl) T.brange (pa_cons pe_int (pa_cons (pe_callB call_len_seq (by rfl) T.blen PySem.boot_len (pa_cons (pv 0) pa_nil)) (pa_cons pe_int pa_nil)))) (blkOk_by (own := [("at", 1)]) (N := n__has_form) (sc := defScope s__has_form) (by decide +kernel)) (fun _ _ _ _ _ => pg_name (i := 1) nd rfl (by first | exact Or.inl rfl | exact Or.inr rfl)) (fun _ _ _ _ _ => pts_nil) (fun _ _ _ _ _ => (pe_cd D__is_amount_text hr__is_amount_text (by rfl) pass0 (pa_cons (pe_ix (show IxR _ (rIxL K) from ix_list) (pv 0) (pv 1) (fun _ _ => rfl)) (pa_cons (pe_ix (show IxR _ (rIxL K) from ix_list) (pv 0) (pe_op op_add (pv 1) pe_int) (fun _ _ => rfl)) pa_nil))))) pa_nil))))))), ?_⟩
    obtain ⟨w0, r, hw, hm, hf⟩ := okL_hd ho
    obtain ⟨u, hu1, hu2⟩ := valsB_ok T.zSIZES hm
    refine ⟨_, rfl, l, ws.map V.str, rfl, .inl (SqL.of hl), rfl, flat_strs, ?_⟩
    show ∃ _, _
    rw [show inV (.str "") (ws.map V.str) = false from by rw [inV_strs]; exact decide_eq_false fun h => hn _ h rfl]
    refine ⟨false, rfl, ?_⟩
    refine iteF ?_
    have h0 : (ws.map V.str)[0]? = some (.str w0) := by rw [hw]; rfl
    have hlen : (ws.map V.str).length = ws.length := List.length_map ..
    refine ⟨_, es, nz, rfl, KD, _, rfl, l, _, 0, .str w0, rfl, rfl, SqL.of hl, atI_nat h0, w0, some u, rfl, hu1, fun u0 e0 => ?_, fun h => nomatch h⟩
    cases e0
    refine ⟨_, hu2, ?_⟩
    refine ⟨_, rfl, l, _, rfl, .inl (SqL.of hl), ?_⟩
    refine ⟨rfl, _, rfl, ?_⟩
    refine ifb (fun h => absurd h ?_) (fun _ => ?_)
    · show ¬ ((!decide (V.int (ws.length : Int) = V.int ((ws.map V.str).length : Int))) = true)
      rw [hlen]
      simp
    unfold tNext
    dsimp only
    refine ⟨_, rfl, l, _, 0, .str w0, rfl, rfl, SqL.of hl, atI_nat h0, ga K "FACT_WORDS", (["tell", "some"] : List Str).map V.str, rfl, .inr (T.tFACT_WORDS H), rfl, flat_strs, ?_⟩
    refine ⟨_, rfl, ?_⟩
    rw [show (if true = true then !inV (.str w0) ((["tell", "some"] : List Str).map V.str) else inV (.str w0) ((["tell", "some"] : List Str).map V.str)) = !decide (w0 ∈ (["tell", "some"] : List Str)) from by rw [inV_strs]; rfl]
    rcases hf with hf | ⟨m, hR, hm2, hf⟩
    · rw [decide_eq_false hf]
      exact iteT (q H Ext.refl)
    by_cases hmem : w0 ∈ (["tell", "some"] : List Str)
    case neg =>
      rw [decide_eq_false hmem]
      exact iteT (q H Ext.refl)
    rw [decide_eq_true hmem]
    refine iteF ?_
    refine ⟨_, rfl, l, ws.map V.str, rfl, .inl (SqL.of hl), 1, (ws.length : Int), 2, m, (by rw [hlen]), hR, fun R hR' => ?_⟩
    refine lc_it walk_rangeC (fun i G => Ext [] H G ∧ G R = some (.lst ((List.replicate i true).map V.bl))) ⟨Ext.new hR', upd_same⟩ (fun _ _ _ _ => trivial) ?_ ?_
    · rintro i x G G' hi ⟨e, hG⟩ ⟨rfl, rfl⟩
      obtain ⟨x, j, hx1, hx2, hx3, hj⟩ := hf i hi
      have hl' := e.keep _ _ hl (by simp)
      refine ⟨wipe1, ?_⟩
      refine tyes ?_
      have z1 : (1 : Int) + (i : Nat) * 2 = ((2 * i + 1 : Nat) : Int) := by omega
      have z2 : (1 : Int) + (i : Nat) * 2 + 1 = ((2 * i + 2 : Nat) : Int) := by omega
      have vadd : ∀ {σ : L2.St} {G : Hp}, σ[1]? = some (some (.int (1 + (i : Nat) * 2))) → Val (tOp (fun x y H Q => ∃ i j, x = .int i ∧ y = .int j ∧ Q (.int (i + j)) H) (tVar 1) (tC (.int 1))) σ G (.int ((1 : Int) + (i : Nat) * 2 + 1)) := fun h => val_op (val_var h) val_c fun _ q => ⟨_, _, rfl, rfl, q⟩
      refine val_ixL (val_var rfl) (val_var rfl) (SqL.of hl') (show atI _ _ = some (.str x) from by rw [z1]; exact atI_nat (by rw [List.getElem?_map, hx1]; rfl)) _ ?_
      refine val_ixL (val_var rfl) (vadd rfl) (SqL.of hl') (show atI _ _ = some (.str (nS j)) from by rw [z2]; exact atI_nat (by rw [List.getElem?_map, hx2]; rfl)) _ ?_
      refine ⟨x, j, rfl, hx3, hj, fun G2 e2 => ?_⟩
      have hG2 := e2.keep _ _ hG (by simp)
      refine ⟨_, hG2, by rw [List.length_map, List.length_replicate]; exact Evl.sz_lt (by omega), (e.trans e2).fresh hR', ?_⟩
      rw [upd_same, List.replicate_succ', List.map_append]
      rfl
    · rintro G ⟨e, hG⟩
      refine ⟨R, List.replicate m true, rfl, SqL.of hG, ?_⟩
      rw [show (List.replicate m true).all id = true from by simp]
      exact q G e
end

end K15
namespace K15
open PySem PySem.Spec PyProof.Rows L2 He Tp ClX LiI

section
variable {k t : List (Str × Str)} {p : List Str} {c d : List (Str × Str)} {fs : List Fk}
/-- the facts are about amounts of the model -/
structure Fa (k c d : List (Str × Str)) (fs : List Fk) : Prop where
  i : ∀ f ∈ fs, inA (amtD k c d d.length) f
  l : fs.length ≤ 32
theorem Fa.low (F : Fa k c d fs) (hd : d.length ≤ 24) : ∀ f ∈ fs, ∀ q ∈ amF f, (q.1 = "take" ∨ q.1 = "leave") ∧ q.2 < d.length ∧ q.2 < 100 := fun f hf q hq => by
  have h := amF_in (F.i f hf) q hq
  have h2 := amtD_lt _ _ h
  exact ⟨amtD_word _ _ h, h2, by omega⟩
theorem cl_tl {z : Str} (h : z = "take" ∨ z = "leave") : clW z := by
  rcases h with h | h <;> rw [h] <;> decide +kernel
theorem rows_clM (G : GW k t p c d) (F : Fa k c d fs) (hd : d.length ≤ 24) : ∀ ws ∈ rowsD k t p c d fs, ws ≠ [] ∧ ∀ z ∈ ws, clW z := by
  have nk : ∀ z ∈ k.map (·.1), clW z := fun z hz => nm_clW (G.kn.nm z hz)
  have nc : ∀ z ∈ c.map (·.1), clW z := fun z hz => nm_clW (G.cn.nm z hz)
  have np : ∀ z ∈ p, clW z := fun z hz => nm_clW (G.pn.nm z hz)
  refine rows_cl (fun q hq => ⟨nk _ (List.mem_map.mpr ⟨q, hq, rfl⟩), ?_⟩) (fun q hq => ⟨nk _ (G.tk q hq).1, nk _ (G.tk q hq).2⟩) np (fun q hq => ⟨nc _ (List.mem_map.mpr ⟨q, hq, rfl⟩), nk _ (G.ck q hq)⟩) (fun q hq => ⟨nc _ (G.dc q hq).1, np _ (G.dc q hq).2⟩) (fun f hf q hq => ⟨cl_tl (F.low hd f hf q hq).1, (F.low hd f hf q hq).2.2⟩)
  rcases G.kh q hq with h | h | h <;> rw [h] <;> decide +kernel
theorem rows_okM (G : GW k t p c d) (F : Fa k c d fs) (hd : d.length ≤ 24) : rowOk (rowsD k t p c d fs) := by
  have nk : ∀ z ∈ k.map (·.1), z.length ≤ 100 := fun z hz => by have := nm_len (G.kn.nm z hz); omega
  have nc : ∀ z ∈ c.map (·.1), z.length ≤ 100 := fun z hz => by have := nm_len (G.cn.nm z hz); omega
  have np : ∀ z ∈ p, z.length ≤ 100 := fun z hz => by have := nm_len (G.pn.nm z hz); omega
  have hwl : ∀ z : Str, z = "take" ∨ z = "leave" → z.length ≤ 100 := fun z h => by rcases h with h | h <;> rw [h] <;> decide +kernel
  refine rows_ok (fun q hq => ⟨nk _ (List.mem_map.mpr ⟨q, hq, rfl⟩), ?_⟩) (fun q hq => ⟨nk _ (G.tk q hq).1, nk _ (G.tk q hq).2⟩) np (fun q hq => ⟨nc _ (List.mem_map.mpr ⟨q, hq, rfl⟩), nk _ (G.ck q hq)⟩) (fun q hq => ⟨nc _ (G.dc q hq).1, np _ (G.dc q hq).2⟩) (fun f hf => ?_)
  · rcases G.kh q hq with h | h | h <;> rw [h] <;> decide +kernel
  · have hl := F.low hd f hf
    have hin := F.i f hf
    cases f with
    | tell x y =>
      have h1 := hl x (by simp [amF])
      have h2 := hl y (by simp [amF])
      have n1 := nS_len _ h1.2.2
      have n2 := nS_len _ h2.2.2
      refine ⟨⟨h1.2.2, h2.2.2⟩, hin.ok fun q hq => okS_wd (amtD_word _ _ hq), fun z hz => ?_⟩
      simp only [fwD, List.mem_cons, List.not_mem_nil, or_false] at hz
      rcases hz with rfl | rfl | rfl | rfl | rfl
      · decide +kernel
      · exact hwl _ h1.1
      · omega
      · exact hwl _ h2.1
      · omega
    | some x =>
      have h1 := hl x (by simp [amF])
      have n1 := nS_len _ h1.2.2
      refine ⟨h1.2.2, hin.ok fun q hq => okS_wd (amtD_word _ _ hq), fun z hz => ?_⟩
      simp only [fwD, List.mem_cons, List.not_mem_nil, or_false] at hz
      rcases hz with rfl | rfl | rfl
      · decide +kernel
      · exact hwl _ h1.1
      · omega
theorem row_okL (F : Fa k c d fs) (hd : d.length ≤ 24) : ∀ ws ∈ rowsD k t p c d fs, okL ws := by
  intro ws hws
  unfold rowsD at hws
  simp only [List.mem_append] at hws
  rcases hws with h | h | h | h | h | h
  · obtain ⟨q, _, rfl⟩ := List.mem_map.mp h
    exact .inl ⟨_, _, rfl⟩
  · obtain ⟨q, _, rfl⟩ := List.mem_map.mp h
    exact .inr (.inl ⟨_, _, rfl⟩)
  · obtain ⟨q, _, rfl⟩ := List.mem_map.mp h
    exact .inr (.inr (.inl ⟨_, rfl⟩))
  · obtain ⟨q, _, rfl⟩ := List.mem_map.mp h
    exact .inr (.inr (.inr (.inl ⟨_, _, rfl⟩)))
  · obtain ⟨q, _, rfl⟩ := List.mem_map.mp h
    exact .inr (.inr (.inr (.inr (.inl ⟨_, _, rfl⟩))))
  · obtain ⟨f, hf, rfl⟩ := List.mem_map.mp h
    have hl := F.low hd f hf
    cases f with
    | tell x y =>
      have h1 := hl x (by simp [amF])
      have h2 := hl y (by simp [amF])
      exact .inr (.inr (.inr (.inr (.inr (.inl ⟨_, _, _, _, rfl, h1.1, h2.1, h1.2.2, h2.2.2⟩)))))
    | some x =>
      have h1 := hl x (by simp [amF])
      exact .inr (.inr (.inr (.inr (.inr (.inr ⟨_, _, rfl, h1.1, h1.2.2⟩)))))
theorem names_take {zs : List Str} (h : Names zs) (n : Nat) : Names (zs.take n) := ⟨h.nd.sublist (List.take_sublist ..), fun z hz => h.nm z (List.mem_of_mem_take hz), fun z hz => h.ok z (List.mem_of_mem_take hz)⟩
/-- what is read so far goes together -/
theorem GW.part (G : GW k t p c d) {n : Nat → Nat} (F : Fit k t p c d n) : GW (k.take (n 0)) (t.take (n 1)) (p.take (n 2)) (c.take (n 3)) (d.take (n 4)) where
  kn := by rw [List.map_take]; exact names_take G.kn _
  kh := fun q hq => G.kh q (List.mem_of_mem_take hq)
  k8 := by have := G.k8; rw [List.length_take]; omega
  tk := F.tk
  pn := names_take G.pn _
  p8 := by have := G.p8; rw [List.length_take]; omega
  cn := by rw [List.map_take]; exact names_take G.cn _
  ck := F.ck
  c8 := by have := G.c8; rw [List.length_take]; omega
  dc := F.dc
theorem GW.nl (G : GW k t p c d) : ∀ z, z ∈ k.map (·.1) ∨ z ∈ c.map (·.1) → z.length ≤ 1000 := fun z hz => by
  rcases hz with hz | hz
  · have := nm_len (G.kn.nm z hz); omega
  · have := nm_len (G.cn.nm z hz); omega
theorem BkI.gw {C : Addr} {H : Hp} {b : Addr} {A : Bk} {ts ds us : List V} (G : GW k t p c d) (hd : d.length ≤ 24) (ht : t.length ≤ 8) (hfl : fs.length ≤ 32) (ho : ∀ f ∈ fs, okF f) (B : BookAt C H b 24 A (k.map tv) ts p (c.map tv) ds us) (T : PT H ts t) (D : PT H ds d) (F : FL H us fs) : BkI C H b 24 A k t p c d fs ts ds us :=
  ⟨B, T, D, F, G.kept (by omega), G.nl, by omega, by omega, by omega, ho⟩
end

end K15
namespace K15
open PySem PySem.Spec PyProof.Rows L2 He Tp ClX LiI

section
variable {K : PySem.W.Frag} {k t : List (Str × Str)} {p : List Str} {c d : List (Str × Str)} {fs : List Fk} {gs : List Nat} {rows : List (List Str)}
/-- the book as far as it is read -/
def JR (C : Addr) (H0 : Hp) (k t : List (Str × Str)) (p : List Str) (c d : List (Str × Str)) (fs : List Fk) (gs : List Nat) (i : Nat) (b : Addr) (A : Bk) (H : Hp) : Prop :=
  Ext [] H0 H ∧ (∀ x ∈ A.all b, H0 x = none) ∧ ∃ ts ds us, BkI C H b 24 A (k.take ((gs.take i).count 0)) (t.take ((gs.take i).count 1)) (p.take ((gs.take i).count 2)) (c.take ((gs.take i).count 3)) (d.take ((gs.take i).count 4)) (fs.take ((gs.take i).count 5)) ts ds us
theorem JR.next (S : Sh k t p c d fs gs rows) (G : GW k t p c d) (F : Fa k c d fs) (ht : t.length ≤ 8) (hd : d.length ≤ 24) {C : Addr} {H0 H H' : Hp} {i : Nat} {b : Addr} {A : Bk} {ts ds us : List V} {l : Addr} (e0 : Ext [] H0 H) (f0 : ∀ x ∈ A.all b, H0 x = none) (hl : l ∈ A.all b) (e : Ext [l] H H')
    (B : BookAt C H' b 24 A ((k.take ((gs.take (i + 1)).count 0)).map tv) ts (p.take ((gs.take (i + 1)).count 2)) ((c.take ((gs.take (i + 1)).count 3)).map tv) ds us) (T : PT H' ts (t.take ((gs.take (i + 1)).count 1))) (D : PT H' ds (d.take ((gs.take (i + 1)).count 4))) (Fl : FL H' us (fs.take ((gs.take (i + 1)).count 5))) :
    JR C H0 k t p c d fs gs (i + 1) b A H' := by
  refine ⟨e0.over e (f0 l hl), f0, ts, ds, us, BkI.gw (G.part (S.fit (i + 1))) (by rw [List.length_take]; omega) (by rw [List.length_take]; omega) (by rw [List.length_take]; have := F.l; omega) (fun f hf => (F.i f (List.mem_of_mem_take hf)).ok fun q hq => okS_wd (amtD_word _ _ hq)) B T D Fl⟩
theorem cnt_next {i g : Nat} (h : gs[i]? = some g) : ∀ x, (gs.take (i + 1)).count x = (gs.take i).count x + if x = g then 1 else 0 := fun x => by
  rw [take_snoc h]
  exact congrFun (cnt_snoc (gs := gs.take i) (g := g)) x
theorem JR.line (S : Sh k t p c d fs gs rows) (G : GW k t p c d) (F : Fa k c d fs) (ht : t.length ≤ 8) (hd : d.length ≤ 24) {C : Addr} {H0 H : Hp} {i : Nat} {b : Addr} {A : Bk} {ws : List Str} (hi : rows[i]? = some ws) (J : JR C H0 k t p c d fs gs i b A H) {l : Addr} (hl : H l = some (.lst (ws.map V.str))) {Q' : VK}
    (q : ∀ H'' A', JR C H0 k t p c d fs gs (i + 1) b A' H'' → Ext (A.all b) H H'' → (∀ y ∈ A'.all b, y ∈ A.all b ∨ H y = none) → Q' .non H'') : spCarry K C [.ref b, .ref l] H Q' E0 := by
  obtain ⟨g, hg6, hgi, hrd, hrow⟩ := S.get hi
  obtain ⟨e0, f0, ts, ds, us, B⟩ := J
  have hcn := cnt_next hgi
  have GP := G.part (S.fit i)
  have hk8 := GP.k8
  have hc8 := GP.c8
  have hp8 := GP.p8
  have htl := B.tl
  have hdl := B.dl
  have hTl := B.T.len
  have hDl := B.D.len
  have hFl := B.F.len
  have hf32 := F.l
  have nkl : ∀ z ∈ k.map (·.1), z.length ≤ 1000 := fun z hz => by have := nm_len (G.kn.nm z hz); omega
  have ncl : ∀ z ∈ c.map (·.1), z.length ≤ 1000 := fun z hz => by have := nm_len (G.cn.nm z hz); omega
  have npl : ∀ z ∈ p, z.length ≤ 1000 := fun z hz => by have := nm_len (G.pn.nm z hz); omega
  have hmono : ∀ {l : Addr} {H' : Hp}, l ∈ A.all b → Ext [l] H H' → Ext (A.all b) H H' := fun hl e => e.mono fun y hy => by rw [List.mem_singleton.mp hy]; exact hl
  have cg : (gs.take (i + 1)).count g = (gs.take i).count g + 1 := by rw [hcn g, if_pos rfl]
  have cc : ∀ x, x ≠ g → (gs.take (i + 1)).count x = (gs.take i).count x := fun x hx => by rw [hcn x, if_neg hx, Nat.add_zero]
  clear hcn
  refine ⟨b, l, 24, A, _, _, _, _, _, _, ws, rfl, hl, B.B, ?_⟩
  match g, hg6, hrd, hrow, cg, cc with
  | 0, _, hrd, hrow, cg, cc =>
    have hrow' : (k.map fun q => [("kind" : Str), q.1, q.2])[(gs.take i).count 0]? = some ws := hrow
    rw [List.getElem?_map] at hrow'
    obtain ⟨qq, hq, rfl⟩ := Option.map_eq_some_iff.mp hrow'
    have hmem := List.mem_of_getElem? hq
    have hnm := G.kn.nm qq.1 (List.mem_map.mpr ⟨qq, hmem, rfl⟩)
    have hho := G.kh qq hmem
    have hlt := (List.getElem?_eq_some_iff.mp hq).1
    have hk := G.k8
    have hnb : qq.1 ∉ ((k.take ((gs.take i).count 0)).map tv).map (·.1) := by
      rw [mem_tv, List.map_take]
      exact not_before G.kn.nd (by rw [List.getElem?_map, hq]; rfl)
    have hno : refK ((k.take ((gs.take i).count 0)).map tv) (.str qq.1) (.str qq.2) (holdD (.str qq.2)) = none := by
      rw [hold_yes hho]
      exact refK_ok hnm hnb (by rw [List.length_map, List.length_take]; omega)
    have okh : okD (.str qq.2) := okD.str (by rcases hho with h | h | h <;> rw [h] <;> decide +kernel)
    refine .inl ⟨qq.1, qq.2, rfl, ?_⟩
    refine ⟨b, .str qq.1, .str qq.2, .str qq.2, 24, A, _, _, _, _, _, _, rfl, .str (by have := nm_len hnm; omega), .str _, okh, B.B, (by rw [List.length_map]; omega), (fun c t hc => by rw [hno] at hc; cases hc), fun _ H'' e B' => q H'' A ?_ (hmono (by simp) e) fun y hy => .inl hy⟩
    refine JR.next S G F ht hd e0 f0 (l := A.dk) (ts := ts) (ds := ds) (us := us) (by simp) e ?_ ?_ ?_ ?_
    · rw [cg, cc 2 (by decide), cc 3 (by decide), take_snoc hq, List.map_append]
      exact B'
    · rw [cc 1 (by decide)]; exact B.T.ext e
    · rw [cc 4 (by decide)]; exact B.D.ext e
    · rw [cc 5 (by decide)]; exact B.F.ext e
  | 1, _, hrd, hrow, cg, cc =>
    have hrow' : (t.map fun q => [("thirst" : Str), q.1, q.2])[(gs.take i).count 1]? = some ws := hrow
    rw [List.getElem?_map] at hrow'
    obtain ⟨qq, hq, rfl⟩ := Option.map_eq_some_iff.mp hrow'
    have hlt := (List.getElem?_eq_some_iff.mp hq).1
    have h' : (match t[(gs.take i).count 1]? with
      | some q => decide (q.1 ∈ (k.take ((gs.take i).count 0)).map (·.1)) && decide (q.2 ∈ (k.take ((gs.take i).count 0)).map (·.1))
      | none => false) = true := hrd
    rw [hq] at h'
    simp only [Bool.and_eq_true, decide_eq_true_eq] at h'
    have hk1 : knownK ((k.take ((gs.take i).count 0)).map tv) (.str qq.1) = true := decide_eq_true (mem_tv.mpr h'.1)
    have hk2 : knownK ((k.take ((gs.take i).count 0)).map tv) (.str qq.2) = true := decide_eq_true (mem_tv.mpr h'.2)
    have hts : ts.length ≤ 8 := by rw [hTl, List.length_take]; omega
    have hno : refT ((k.take ((gs.take i).count 0)).map tv) ts.length (.str qq.1) (.str qq.2) = none := by rw [refT_3 hk1 hk2, if_neg (by omega)]
    have hmem := G.tk qq (List.mem_of_getElem? hq)
    refine .inr (.inl ⟨qq.1, qq.2, rfl, ?_⟩)
    refine ⟨b, .str qq.1, .str qq.2, 24, A, _, _, _, _, _, _, rfl, .str (nkl _ hmem.1), fun _ _ => .str (nkl _ hmem.2), B.B, by omega, (fun c t hc => by rw [hno] at hc; cases hc), fun _ H'' w e hw hT' B' => q H'' A ?_ (hmono (by simp) e) fun y hy => .inl hy⟩
    refine JR.next S G F ht hd e0 f0 (l := A.lt) (ts := ts ++ [.ref w]) (ds := ds) (us := us) (by simp) e ?_ ?_ ?_ ?_
    rotate_left
    · rw [cg, take_snoc hq]
      exact (B.T.ext e).snoc hT'
    · rw [cc 4 (by decide)]; exact B.D.ext e
    · rw [cc 5 (by decide)]; exact B.F.ext e
    · rw [cc 0 (by decide), cc 2 (by decide), cc 3 (by decide)]
      exact B'
  | 2, _, hrd, hrow, cg, cc =>
    have hrow' : (p.map fun z => [("pot" : Str), z])[(gs.take i).count 2]? = some ws := hrow
    rw [List.getElem?_map] at hrow'
    obtain ⟨z, hq, rfl⟩ := Option.map_eq_some_iff.mp hrow'
    have hnm := G.pn.nm z (List.mem_of_getElem? hq)
    have hlt := (List.getElem?_eq_some_iff.mp hq).1
    have hp := G.p8
    have hno : refP (p.take ((gs.take i).count 2)) (.str z) = none := refP_ok hnm (not_before G.pn.nd hq) (by rw [List.length_take]; omega)
    refine .inr (.inr (.inl ⟨z, rfl, ?_⟩))
    refine ⟨b, .str z, 24, A, _, _, _, _, _, _, rfl, .str (by have := nm_len hnm; omega), B.B, by omega, (fun c t hc => by rw [hno] at hc; cases hc), fun _ H'' e B' => q H'' A ?_ (hmono (by simp) e) fun y hy => .inl hy⟩
    refine JR.next S G F ht hd e0 f0 (l := A.lp) (ts := ts) (ds := ds) (us := us) (by simp) e ?_ ?_ ?_ ?_
    · rw [cg, cc 0 (by decide), cc 3 (by decide), take_snoc hq]
      exact B'
    · rw [cc 1 (by decide)]; exact B.T.ext e
    · rw [cc 4 (by decide)]; exact B.D.ext e
    · rw [cc 5 (by decide)]; exact B.F.ext e
  | 3, _, hrd, hrow, cg, cc =>
    have hrow' : (c.map fun q => [("cloth" : Str), q.1, q.2])[(gs.take i).count 3]? = some ws := hrow
    rw [List.getElem?_map] at hrow'
    obtain ⟨qq, hq, rfl⟩ := Option.map_eq_some_iff.mp hrow'
    have hmem := List.mem_of_getElem? hq
    have hlt := (List.getElem?_eq_some_iff.mp hq).1
    have hc := G.c8
    have hnm := G.cn.nm qq.1 (List.mem_map.mpr ⟨qq, hmem, rfl⟩)
    have h' : (match c[(gs.take i).count 3]? with
      | some q => decide (q.2 ∈ (k.take ((gs.take i).count 0)).map (·.1))
      | none => false) = true := hrd
    rw [hq] at h'
    simp only [decide_eq_true_eq] at h'
    have hkl := nkl _ (G.ck qq hmem)
    have hnb : qq.1 ∉ ((c.take ((gs.take i).count 3)).map tv).map (·.1) := by
      rw [mem_tv, List.map_take]
      exact not_before G.cn.nd (by rw [List.getElem?_map, hq]; rfl)
    have hno : refC ((c.take ((gs.take i).count 3)).map tv) ((k.take ((gs.take i).count 0)).map tv) (.str qq.1) (.str qq.2) = none := refC_ok hnm hnb (by rw [List.length_map, List.length_take]; omega) (mem_tv.mpr h')
    refine .inr (.inr (.inr (.inl ⟨qq.1, qq.2, rfl, ?_⟩)))
    refine ⟨b, .str qq.1, .str qq.2, 24, A, _, _, _, _, _, _, rfl, .str (by have := nm_len hnm; omega), .str hkl, fun _ _ => .str hkl, B.B, (by rw [List.length_map]; omega), (fun c t hc => by rw [hno] at hc; cases hc), fun _ H'' e B' => q H'' A ?_ (hmono (by simp) e) fun y hy => .inl hy⟩
    refine JR.next S G F ht hd e0 f0 (l := A.dc) (ts := ts) (ds := ds) (us := us) (by simp) e ?_ ?_ ?_ ?_
    · rw [cg, cc 0 (by decide), cc 2 (by decide), take_snoc hq, List.map_append]
      exact B'
    · rw [cc 1 (by decide)]; exact B.T.ext e
    · rw [cc 4 (by decide)]; exact B.D.ext e
    · rw [cc 5 (by decide)]; exact B.F.ext e
  | 4, _, hrd, hrow, cg, cc =>
    have hrow' : (d.map fun q => [("dip" : Str), q.1, q.2])[(gs.take i).count 4]? = some ws := hrow
    rw [List.getElem?_map] at hrow'
    obtain ⟨qq, hq, rfl⟩ := Option.map_eq_some_iff.mp hrow'
    have hlt := (List.getElem?_eq_some_iff.mp hq).1
    have h' : (match d[(gs.take i).count 4]? with
      | some q => decide (q.1 ∈ (c.take ((gs.take i).count 3)).map (·.1)) && decide (q.2 ∈ p.take ((gs.take i).count 2))
      | none => false) = true := hrd
    rw [hq] at h'
    simp only [Bool.and_eq_true, decide_eq_true_eq] at h'
    have hk1 : knownK ((c.take ((gs.take i).count 3)).map tv) (.str qq.1) = true := decide_eq_true (mem_tv.mpr h'.1)
    have hk2 : knownP (p.take ((gs.take i).count 2)) (.str qq.2) = true := decide_eq_true h'.2
    have hds : ds.length < 24 := by rw [hDl, List.length_take]; omega
    have hno : refDip ((c.take ((gs.take i).count 3)).map tv) (p.take ((gs.take i).count 2)) ds.length 24 (.str qq.1) (.str qq.2) = none := by rw [refDip_3 hk1 hk2, if_neg (by omega)]
    have hmem := G.dc qq (List.mem_of_getElem? hq)
    refine .inr (.inr (.inr (.inr (.inl ⟨qq.1, qq.2, rfl, ?_⟩))))
    refine ⟨b, .str qq.1, .str qq.2, 24, A, _, _, _, _, _, _, rfl, .str (ncl _ hmem.1), fun _ _ => .str (npl _ hmem.2), B.B, by omega, by omega, (fun c t hc => by rw [hno] at hc; cases hc), fun _ H'' w l' e hw hl' hT' B' => ?_⟩
    have own : ∀ y ∈ ({ A with ld := l' } : Bk).all b, y ∈ A.all b ∨ y = l' := fun y hy => by
      simp only [Bk.all, List.mem_cons, List.not_mem_nil, or_false] at hy ⊢
      rcases hy with rfl | rfl | rfl | rfl | rfl | rfl | rfl <;> simp
    refine q H'' { A with ld := l' } ?_ (hmono (by simp) e) fun y hy => (own y hy).imp id fun e => by rw [e]; exact hl'
    refine JR.next S G F ht hd e0 (fun x hx => ?_) (l := b) (ts := ts) (ds := ds ++ [.ref w]) (us := us) (by simp) e ?_ ?_ ?_ ?_
    · rcases own x hx with h | h
      · exact f0 x h
      · rw [h]; exact e0.none hl' (by simp)
    rotate_left
    · rw [cc 1 (by decide)]; exact B.T.ext e
    · rw [cg, take_snoc hq]
      exact (B.D.ext e).snoc hT'
    · rw [cc 5 (by decide)]; exact B.F.ext e
    · rw [cc 0 (by decide), cc 2 (by decide), cc 3 (by decide)]
      exact B'
  | 5, _, hrd, hrow, cg, cc =>
    have hrow' : (fs.map fwD)[(gs.take i).count 5]? = some ws := hrow
    rw [List.getElem?_map] at hrow'
    obtain ⟨f, hq, rfl⟩ := Option.map_eq_some_iff.mp hrow'
    have hlt := (List.getElem?_eq_some_iff.mp hq).1
    have h' : (match fs[(gs.take i).count 5]? with
      | some f => (amF f).all fun q => decide (q.2 < (gs.take i).count 4)
      | none => false) = true := hrd
    rw [hq] at h'
    simp only [List.all_eq_true, decide_eq_true_eq] at h'
    have hn4 : (gs.take i).count 4 ≤ d.length := Nat.le_trans (List.Sublist.count_le 4 (List.take_sublist i gs)) (Nat.le_trans (S.le 4) (by show (d.map _).length ≤ _; rw [List.length_map]; exact Nat.le_refl _))
    have hfi := F.i f (List.mem_of_getElem? hq)
    have hlow := F.low hd f (List.mem_of_getElem? hq)
    have own : ∀ x ∈ amF f, ownD (amtD (k.take ((gs.take i).count 0)) (c.take ((gs.take i).count 3)) (d.take ((gs.take i).count 4)) (d.take ((gs.take i).count 4)).length) (dAmt x) = true := fun x hx => ownD_amt.trans (decide_eq_true (amt_part (G.kept (by omega)) B.G (amF_in hfi x hx) (h' x hx) hn4))
    have hus : us.length < 32 := by rw [hFl, List.length_take]; omega
    cases f with
    | tell x y =>
      have hx := hlow x (by simp [amF])
      have hy := hlow y (by simp [amF])
      refine .inr (.inr (.inr (.inr (.inr (.inl ⟨x.1, nS x.2, y.1, nS y.2, (x.2 : Int), (y.2 : Int), rfl, nS_int _ hx.2.2, by have := nS_len _ hx.2.2; omega, nS_int _ hy.2.2, by have := nS_len _ hy.2.2; omega, fun u1 u2 h1 h2 => ?_⟩)))))
      have e1 : Ext [] H (upd (upd H u1 (.tup [.str x.1, .int (x.2 : Int)])) u2 (.tup [.str y.1, .int (y.2 : Int)])) := (Ext.new h1).trans (Ext.new h2)
      have hne : u1 ≠ u2 := fun h => by rw [h, upd_same] at h2; cases h2
      have a1 : isAmt (upd (upd H u1 (.tup [.str x.1, .int (x.2 : Int)])) u2 (.tup [.str y.1, .int (y.2 : Int)])) u1 x := by show _ = _; rw [upd_ne hne, upd_same]
      have a2 : isAmt (upd (upd H u1 (.tup [.str x.1, .int (x.2 : Int)])) u2 (.tup [.str y.1, .int (y.2 : Int)])) u2 y := upd_same
      generalize upd (upd H u1 (.tup [.str x.1, .int (x.2 : Int)])) u2 (.tup [.str y.1, .int (y.2 : Int)]) = H1 at e1 a1 a2
      have B1 := B.ext e1
      refine ⟨b, .ref u1, .ref u2, _, _, 24, A, _, _, ts, _, ds, us, _, rfl, Av.amt a1 hx.1, Av.amt a2 hy.1, B1.B, B1.D, B1.G, by omega, (fun h => by rw [own x (by simp [amF])] at h; cases h), (fun _ h => by rw [own y (by simp [amF])] at h; cases h), (fun _ _ h => absurd h (by omega)), fun _ _ _ H'' z e2 hz hzT B' => ?_⟩
      have e : Ext [A.lf] H H'' := e1.nil.trans e2
      refine q H'' A ?_ (hmono (by simp) e) fun y hy => .inl hy
      refine JR.next S G F ht hd e0 f0 (l := A.lf) (ts := ts) (ds := ds) (us := us ++ [.ref z]) (by simp) e ?_ ?_ ?_ ?_
      rotate_left
      · rw [cc 1 (by decide)]; exact B.T.ext e
      · rw [cc 4 (by decide)]; exact B.D.ext e
      · rw [cg, take_snoc hq]
        exact (B.F.ext e).snoc ⟨u1, u2, hzT, e2.tups _ _ a1, e2.tups _ _ a2⟩
      · rw [cc 0 (by decide), cc 2 (by decide), cc 3 (by decide)]
        exact B'
    | some x =>
      have hx := hlow x (by simp [amF])
      refine .inr (.inr (.inr (.inr (.inr (.inr ⟨x.1, nS x.2, (x.2 : Int), rfl, nS_int _ hx.2.2, by have := nS_len _ hx.2.2; omega, fun u1 h1 => ?_⟩)))))
      have e1 : Ext [] H (upd H u1 (.tup [.str x.1, .int (x.2 : Int)])) := Ext.new h1
      have a1 : isAmt (upd H u1 (.tup [.str x.1, .int (x.2 : Int)])) u1 x := upd_same
      generalize upd H u1 (.tup [.str x.1, .int (x.2 : Int)]) = H1 at e1 a1
      have B1 := B.ext e1
      refine ⟨b, .ref u1, _, 24, A, _, _, ts, _, ds, us, _, rfl, Av.amt a1 hx.1, B1.B, B1.D, B1.G, by omega, (fun h => by rw [own x (by simp [amF])] at h; cases h), (fun _ h => absurd h (by omega)), fun _ _ H'' z e2 hz hzT B' => ?_⟩
      have e : Ext [A.lf] H H'' := e1.nil.trans e2
      refine q H'' A ?_ (hmono (by simp) e) fun y hy => .inl hy
      refine JR.next S G F ht hd e0 f0 (l := A.lf) (ts := ts) (ds := ds) (us := us ++ [.ref z]) (by simp) e ?_ ?_ ?_ ?_
      rotate_left
      · rw [cc 1 (by decide)]; exact B.T.ext e
      · rw [cc 4 (by decide)]; exact B.D.ext e
      · rw [cg, take_snoc hq]
        exact (B.F.ext e).snoc ⟨u1, hzT, e2.tups _ _ a1⟩
      · rw [cc 0 (by decide), cc 2 (by decide), cc 3 (by decide)]
        exact B'
/-- read_book of a model's lines -/
def spReadM (C : Addr) : Sp := fun vs H Q _ => ∃ (k t : List (Str × Str)) (p : List Str) (c d : List (Str × Str)) (fs : List Fk) (gs : List Nat) (rows : List (List Str)), vs = [.str (textD rows)] ∧ Sh k t p c d fs gs rows ∧ gs.length = totG k t p c d fs ∧ GW k t p c d ∧ Fa k c d fs ∧ t.length ≤ 8 ∧ d.length ≤ 24 ∧
  ∀ b A ts ds us H', Ext [] H H' → (∀ x ∈ A.all b, H x = none) → BkI C H' b 24 A k t p c d fs ts ds us → Q (.ref b) H'
theorem read_of {vs : List V} {H : Hp} {Q : VK} {E : XK} (h : spReadM (cB K) vs H Q E) : spRead K (cB K) vs H Q E := by
  obtain ⟨k, t, p, c, d, fs, gs, rows, rfl, S, hl, G, F, ht, hd, q⟩ := h
  have hcl := rows_clM G F hd (t := t)
  have hro := rows_okM G F hd (t := t)
  have hok := row_okL F hd (k := k) (t := t) (p := p)
  have hk8 := G.k8
  have hp8 := G.p8
  have hc8 := G.c8
  have hf := F.l
  have hrl := S.len
  have hlen : rows.length ≤ 88 := by rw [hrl, hl]; unfold totG; omega
  have hroR : rowOk rows := fun ws hws => hro ws (S.mem hws)
  have hsum := lines_sum hroR
  have hcat := catS_len (rows.map Tp.lineD)
  have hsz : (textD rows).length ≤ 88 * 506 := by
    show (catS (rows.map Tp.lineD)).length ≤ _
    omega
  have hgl : rows.length = gs.length := hrl
  refine ⟨textD rows, rows.map (Txt.join sp1), JR (cB K) H k t p c d fs gs, rfl, by rw [sizeLine_eq]; omega, textD_split fun ws hws => (hcl ws (S.mem hws)).2, by rw [List.length_map]; omega, fun l hl => ?_, fun b A H' e f B => ?_, fun i b A H' H'' J e => ?_, fun i b A l x H' J hx hl Q' q' => ?_, fun b A H' J => ?_⟩
  · obtain ⟨ws, hws, rfl⟩ := List.mem_map.mp hl
    have h1 := hcl ws (S.mem hws)
    rw [split_words h1.1 fun z hz => (h1.2 z hz).2.2]
    have h2 := line_len (hroR ws hws)
    refine ⟨by rw [sizeLine_eq]; omega, hok ws (S.mem hws), fun x hx => (h1.2 x hx).1⟩
  · refine ⟨e, f, [], [], [], ?_⟩
    show BkI (cB K) H' b 24 A [] [] [] [] [] [] [] [] []
    exact ⟨B, PT.nil, PT.nil, FL.nil, ⟨by simp, by simp, by simp, by simp, by simp, by simp, by simp⟩, by simp, by simp, by simp, by simp, by simp⟩
  · obtain ⟨e0, f0, ts, ds, us, B⟩ := J
    exact ⟨e0.trans e, f0, ts, ds, us, B.ext e⟩
  · rw [List.getElem?_map] at hx
    obtain ⟨ws, hws, rfl⟩ := Option.map_eq_some_iff.mp hx
    have h1 := hcl ws (S.mem (List.mem_of_getElem? hws))
    rw [split_words h1.1 fun z hz => (h1.2 z hz).2.2] at hl
    exact JR.line S G F ht hd hws J hl q'
  · obtain ⟨e0, f0, ts, ds, us, B⟩ := J
    rw [List.length_map, hgl, List.take_length] at B
    obtain ⟨c0, c1, c2, c3, c4, c5⟩ := S.full hl
    rw [c0, c1, c2, c3, c4, c5, List.take_length, List.take_length, List.take_length, List.take_length, List.take_length, List.take_length] at B
    exact q b A ts ds us H' e0 f0 B
end

end K15
namespace K15
open PySem PySem.Spec PyProof.Rows L2 He Tp ClX LiI

def mAd (a : Mad) : Nat → Addr
  | 0 => a.m0
  | 1 => a.m1
  | 2 => a.m2
  | 3 => a.m3
  | 4 => a.m4
  | _ => a.m5
theorem mAd_at {a : Mad} {g : Nat} (h : g < 6) : a.items[g]? = some (.ref (mAd a g)) := by
  match g, h with
  | 0, _ => rfl
  | 1, _ => rfl
  | 2, _ => rfl
  | 3, _ => rfl
  | 4, _ => rfl
  | 5, _ => rfl
theorem dn_at {n : Nat → Nat} {g : Nat} (h : g < 6) : ((List.range 6).map fun x => V.int (n x : Int))[g]? = some (.int (n g : Int)) := by
  rw [List.getElem?_map, List.getElem?_range h]
  rfl
theorem mAd_len {H : Hp} {a : Mad} {k t : List (Str × Str)} {p : List Str} {c d : List (Str × Str)} {fs : List Fk} {ms : List V} (M : MdAt H a k t p c d ms) (W : FL H ms fs) {g : Nat} (h : g < 6) : ∃ xs, H (mAd a g) = some (.lst xs) ∧ xs.length = (rowG k t p c d fs g).length := by
  have hr : ∀ {l : Addr} {q : List (Str × Str)} {f : Str × Str → List Str}, RowAt H l q → ∃ xs, H l = some (.lst xs) ∧ xs.length = (q.map f).length := fun r => by
    obtain ⟨as, h1, h2⟩ := r
    exact ⟨_, h1, by rw [List.length_map, List.length_map, paired_len h2]⟩
  match g, h with
  | 0, _ => exact hr M.r0
  | 1, _ => exact hr M.r1
  | 2, _ => exact ⟨_, M.r2, by show _ = (p.map _).length; rw [List.length_map, List.length_map]⟩
  | 3, _ => exact hr M.r3
  | 4, _ => exact hr M.r4
  | 5, _ => exact ⟨_, M.r5, by show _ = (fs.map _).length; rw [W.len, List.length_map]⟩
theorem rdB_no {k t : List (Str × Str)} {p : List Str} {c d : List (Str × Str)} {fs : List Fk} {n : Nat → Nat} {g : Nat} (h : (rowG k t p c d fs g).length ≤ n g) : rdB k t p c d fs n g = false := by
  cases e : rdB k t p c d fs n g with
  | false => rfl
  | true =>
    obtain ⟨_, ws, hw⟩ := rdB_row e
    have := (List.getElem?_eq_some_iff.mp hw).1
    omega
theorem if_eq {i : Nat} {g j : Int} {t1 t2 : TS} {D : Ends} {σ : L2.St} {H : Hp} (hs : σ[i]? = some (some (.int g))) (h1 : g = j → t1 D σ H) (h2 : g ≠ j → t2 D σ H) : tIfS (tTest (tOp rEq (tVar i) (tC (.int j)))) t1 t2 D σ H := by
  refine ⟨_, hs, rfl, _, rfl, ?_⟩
  refine ifd (fun h => h1 ?_) (fun h => h2 fun e => h (by rw [e]))
  cases h
  rfl
theorem row_getV {H : Hp} {l : Addr} {q : List (Str × Str)} {xs : List V} {i : Nat} {v : V} (r : RowAt H l q) (hx : H l = some (.lst xs)) (hv : xs[i]? = some v) : ∃ u z, v = .ref u ∧ q[i]? = some z ∧ H u = some (.tup [.str z.1, .str z.2]) := by
  obtain ⟨as, h1, h2⟩ := r
  rw [h1] at hx
  cases hx
  rw [List.getElem?_map] at hv
  obtain ⟨u, hu, rfl⟩ := Option.map_eq_some_iff.mp hv
  obtain ⟨z, hz, hT⟩ := paired_at h2 hu
  exact ⟨u, z, rfl, hz, hT⟩
theorem fk_am {H : Hp} {u : Addr} {f : Fk} (hu : isFk H u f) : ∃ w0 as, H u = some (.tup (.str w0 :: as.map V.ref)) ∧ Paired (isAmt H) as (amF f) ∧ as.length ≤ 2 ∧ 1 ≤ as.length := by
  cases f with
  | tell x y =>
    obtain ⟨a, b, h1, h2, h3⟩ := hu
    exact ⟨_, [a, b], h1, .cons h2 (.cons h3 .nil), by simp, by simp⟩
  | some x =>
    obtain ⟨a, h1, h2⟩ := hu
    exact ⟨_, [a], h1, .cons h2 .nil, by simp, by simp⟩
theorem val_inT {K : PySem.W.Frag} {i m : Nat} {j : Int} {u R : Addr} {xs : List V} {z : Str} {ks : List Str} {σ : L2.St} {H : Hp} (hi : σ[i]? = some (some (.ref u))) (hm : σ[m]? = some (some (.ref R))) (hT : H u = some (.tup xs)) (ha : atI xs j = some (.str z)) (hR : H R = some (.lst (ks.map V.str))) :
    Val (tOp (rIn K false) (tOp (rIxT K) (tVar i) (tC (.int j))) (tVar m)) σ H (.bl (decide (z ∈ ks))) := fun Q q => by
  refine ⟨_, hi, u, xs, j, .str z, rfl, rfl, .inl (.inl hT), ha, _, hm, R, ks.map V.str, rfl, .inl (SqL.of hR), rfl, flat_strs, ?_⟩
  show Q (.bl (inV (.str z) (ks.map V.str))) H
  rw [inV_strs]
  exact q
section
variable {P : Program} {w : World} {K : PySem.W.Frag} {mg : Str → Option Value} {base : Heap}
/-- _law_ready(model, group, done) -/
def spReady : Sp := fun vs H Q _ => ∃ (a : Mad) (k t : List (Str × Str)) (p : List Str) (c d : List (Str × Str)) (ms : List V) (fs : List Fk) (D : Addr) (n : Nat → Nat) (g : Nat), vs = [.ref a.M, .int (g : Int), .ref D] ∧ g < 6 ∧ MdAt H a k t p c d ms ∧ FL H ms fs ∧ H D = some (.lst ((List.range 6).map fun x => V.int (n x : Int))) ∧ n 0 ≤ k.length ∧ n 2 ≤ p.length ∧ n 3 ≤ c.length ∧ k.length ≤ 100 ∧ c.length ≤ 100 ∧ p.length ≤ 100 ∧
  ∀ H', Ext [] H H' → Q (.bl (rdB k t p c d fs n g)) H'
theorem ok_ready (T : Txt K mg) : Df P w K mg base CX0 1 "_law_ready" ["_law_model_here", "_law_group", "_law_done"] spReady := by
  refine Df.mk' T.g_law_ready T.f_law_ready (fun _ _ _ _ _ _ us hl => match us, hl with | [_, _, _], _ => rfl) fun fd F => F.ok sc__law_ready (fun vs H Q E h => ?_) (fun cdv A outer s H vs Q E hr h => ?_)
  · obtain ⟨a, k, t, p, c, d, ms, fs, D, n, g, rfl, _⟩ := h
    rfl
  · obtain ⟨a, k, t, p, c, d, ms, fs, D, n, g, rfl, hg, M, W, hD, hn0, hn2, hn3, hk, hc, hp, q⟩ := h
    have nd := sc__law_ready.nd
    refine ⟨_, PSs.nox (pss_cons (ps_if (pt_cmpR op_ge (pe_ix ix_list (pv 2) (pv 1) (fun _ _ => rfl)) (pe_callB call_len_seq (by rfl) T.blen PySem.boot_len (pa_cons (pe_ix ix_list (pv 0) (pv 1) (fun _ _ => rfl)) pa_nil)) (nomark _)) (pss_one (ps_ret pe_bl)) pss_nil)
   (pss_cons (ps_set (i := 3) nd rfl (by first | exact Or.inl rfl | exact Or.inr rfl) (pe_ix ix_list (pe_ix ix_list (pv 0) (pv 1) (fun _ _ => rfl)) (pe_ix ix_list (pv 2) (pv 1) (fun _ _ => rfl)) (fun _ _ => rfl)))
   (pss_cons (ps_setLc (i := 4) (own := [("_law_sort_here", 5)]) (g := gName 5) (tt := tYes) (by rfl) nd rfl rfl (sw_true rfl rfl rfl (by decide +kernel)) (pi_list (pe_slice sl_list (pe_ix ix_list (pv 0) pe_int (fun _ _ => rfl)) po_none (po_some (pe_ix ix_list (pv 2) pe_int (fun _ _ => rfl))))) (blkOk_by (own := [("_law_sort_here", 5)]) (N := n__law_ready) (sc := defScope s__law_ready) (by decide +kernel)) (fun _ _ _ _ _ => pg_name (i := 5) nd rfl (by first | exact Or.inl rfl | exact Or.inr rfl)) (fun _ _ _ _ _ => pts_nil) (fun _ _ _ _ _ => (pe_ix (show IxR _ (rIxT K) from ix_tup) (pv 5) pe_int (fun _ _ => rfl))))
   (pss_cons (ps_if (pt_cmpR op_eq (pv 1) pe_int (nomark _)) (pss_one (ps_ret (pe_and (pe_cmpR op_in_seq (pe_ix ix_tup (pv 3) pe_int (fun _ _ => rfl)) (pv 4) (by rfl)) (pe_one (pe_cmpR op_in_seq (pe_ix ix_tup (pv 3) pe_int (fun _ _ => rfl)) (pv 4) (by rfl)))))) pss_nil)
   (pss_cons (ps_if (pt_cmpR op_eq (pv 1) pe_int (nomark _)) (pss_one (ps_ret (pe_cmpR op_in_seq (pe_ix ix_tup (pv 3) pe_int (fun _ _ => rfl)) (pv 4) (by rfl)))) pss_nil)
   (pss_cons (ps_if (pt_cmpR op_eq (pv 1) pe_int (nomark _)) (pss_one (ps_ret (pe_and (pe_cmpR op_in_seq (pe_ix ix_tup (pv 3) pe_int (fun _ _ => rfl)) (pe_lc (own := [("_law_garment", 7)]) (g := gName 7) (tt := tYes) (by rfl) nd (pi_list (pe_slice sl_list (pe_ix ix_list (pv 0) pe_int (fun _ _ => rfl)) po_none (po_some (pe_ix ix_list (pv 2) pe_int (fun _ _ => rfl))))) (blkOk_by (own := [("_law_garment", 7)]) (N := n__law_ready) (sc := defScope s__law_ready) (by decide +kernel)) (fun _ _ _ _ _ => pg_name (i := 7) nd rfl (by first | exact Or.inl rfl | exact Or.inr rfl)) (fun _ _ _ _ _ => pts_nil) (fun _ _ _ _ _ => (pe_ix (show IxR _ (rIxT K) from ix_tup) (pv 7) pe_int (fun _ _ => rfl)))) (by rfl)) (pe_one (pe_cmpR op_in_seq (pe_ix ix_tup (pv 3) pe_int (fun _ _ => rfl)) (pe_slice sl_list (pe_ix ix_list (pv 0) pe_int (fun _ _ => rfl)) po_none (po_some (pe_ix ix_list (pv 2) pe_int (fun _ _ => rfl)))) (by rfl)))))) pss_nil)
   (pss_cons (ps_if (pt_cmpR op_eq (pv 1) pe_int (nomark _)) (pss_one (ps_ret (pe_callB (cr_all rfl) (by rfl) T.ball (by decide +kernel) (pa_cons (pe_lc (own := [("_law_amount", 6)]) (g := gName 6) (tt := tYes) (by rfl) nd (pi_tup (pe_slice sl_tup (pv 3) (po_some pe_int) po_none)) (blkOk_by (own := [("_law_amount", 6)]) (N := n__law_ready) (sc := defScope s__law_ready) (by decide +kernel)) (fun _ _ _ _ _ => pg_name (i := 6) nd rfl (by first | exact Or.inl rfl | exact Or.inr rfl)) (fun _ _ _ _ _ => pts_nil) (fun _ _ _ _ _ => (pe_cmpR op_lt (pe_ix (show IxR _ (rIxT K) from ix_tup) (pv 6) pe_int (fun _ _ => rfl)) (pe_ix (show IxR _ (rIxL K) from ix_list) (pv 2) pe_int (fun _ _ => rfl)) (nomark _)))) pa_nil)))) pss_nil)
   (pss_one (ps_ret pe_bl))))))))), ?_⟩
    obtain ⟨xs, hxs, hxl⟩ := mAd_len M W hg
    refine ⟨_, rfl, _, rfl, D, _, (g : Int), _, rfl, rfl, SqL.of hD, atI_nat (dn_at hg), ?_⟩
    refine ⟨_, rfl, _, rfl, a.M, _, (g : Int), _, rfl, rfl, SqL.of M.M, atI_nat (mAd_at hg), mAd a g, xs, rfl, .inl (SqL.of hxs), ?_⟩
    refine ⟨_, _, rfl, rfl, _, rfl, ?_⟩
    refine ifb (fun h => ?_) (fun h => ?_)
    · have h1 : ((xs.length : Nat) : Int) ≤ (n g : Int) := of_decide_eq_true h
      have h2 := q H Ext.refl
      rw [rdB_no (by omega)] at h2
      exact h2
    have hlt : n g < xs.length := by
      have h1 : ¬ (((xs.length : Nat) : Int) ≤ (n g : Int)) := by simpa using h
      omega
    unfold tNext
    dsimp only
    have hv := List.getElem?_eq_getElem hlt
    generalize xs[n g] = v at hv
    refine ⟨_, rfl, _, rfl, a.M, _, (g : Int), _, rfl, rfl, SqL.of M.M, atI_nat (mAd_at hg), _, rfl, _, rfl, D, _, (g : Int), _, rfl, rfl, SqL.of hD, atI_nat (dn_at hg), mAd a g, xs, (n g : Int), v, rfl, rfl, SqL.of hxs, atI_nat hv, ?_⟩
    refine gset ?_
    dsimp only
    obtain ⟨as0, h0, p0⟩ := M.r0
    have hl0 := paired_len p0
    have ec : cutV (as0.map V.ref) none (some (n 0 : Int)) = (as0.take (n 0)).map V.ref := by rw [cut_take (by rw [List.length_map]; omega), List.map_take]
    refine ⟨_, rfl, a.M, _, 0, .ref a.m0, rfl, rfl, SqL.of M.M, rfl, _, rfl, D, _, 0, _, rfl, rfl, SqL.of hD, atI_nat (dn_at (g := 0) (by decide)), (n 0 : Int), rfl, a.m0, as0.map V.ref, rfl, SqL.of h0, fun p1 hp1 => ?_⟩
    have e1 : Ext [] H (upd H p1 (.lst (cutV (as0.map V.ref) none (some (n 0 : Int))))) := Ext.new hp1
    have h1 : (upd H p1 (.lst (cutV (as0.map V.ref) none (some (n 0 : Int))))) p1 = some (.lst ((as0.take (n 0)).map V.ref)) := by rw [upd_same, ec]
    generalize upd H p1 (.lst (cutV (as0.map V.ref) none (some (n 0 : Int)))) = H1 at e1 h1 ⊢
    have p0' := paired_takeX (n := n 0) p0
    refine ⟨p1, rfl, ⟨_, SqL.of h1⟩, fun R hR => lc_heads (K := K) h1 (pairedG_mono (fun _ _ h => e1.tups _ _ h) p0') hR (by rw [List.length_take]; omega) (fun _ => rfl) (fun _ => rfl) fun H2 e2 hR2 => ?_⟩
    refine gset ?_
    dsimp only
    have e12 := e1.trans e2
    clear e2 e1 h1 hR hp1
    have hss : ∀ z : Str, inV (.str z) (((k.take (n 0)).map (·.1)).map V.str) = decide (z ∈ (k.take (n 0)).map (·.1)) := fun z => inV_strs
    generalize hks : (k.take (n 0)).map (·.1) = ks at hR2 hss
    match g, hg, hxs, hv with
    | 0, _, hxs, hv =>
      refine if_eq rfl (fun h => absurd h (by decide)) fun _ => ?_
      refine if_eq rfl (fun h => absurd h (by decide)) fun _ => ?_
      refine if_eq rfl (fun h => absurd h (by decide)) fun _ => ?_
      refine if_eq rfl (fun h => absurd h (by decide)) fun _ => ?_
      have h2 := q H2 e12
      rw [show rdB k t p c d fs n 0 = true from decide_eq_true (by have := hxl; rw [show (rowG k t p c d fs 0).length = k.length from List.length_map ..] at this; omega)] at h2
      exact h2
    | 2, _, hxs, hv =>
      refine if_eq rfl (fun h => absurd h (by decide)) fun _ => ?_
      refine if_eq rfl (fun h => absurd h (by decide)) fun _ => ?_
      refine if_eq rfl (fun h => absurd h (by decide)) fun _ => ?_
      refine if_eq rfl (fun h => absurd h (by decide)) fun _ => ?_
      have h2 := q H2 e12
      rw [show rdB k t p c d fs n 2 = true from decide_eq_true (by have := hxl; rw [show (rowG k t p c d fs 2).length = p.length from List.length_map ..] at this; omega)] at h2
      exact h2
    | 1, _, hxs, hv =>
      obtain ⟨u, qq, rfl, hq, hT⟩ := row_getV M.r1 hxs hv
      refine if_eq rfl (fun _ => ?_) fun h => absurd rfl h
      have hT2 := e12.tups _ _ hT
      have h2 := q H2 e12
      have hr : rdB k t p c d fs n 1 = (decide (qq.1 ∈ ks) && decide (qq.2 ∈ ks)) := by
        show (match t[n 1]? with
          | some (q : Str × Str) => decide (q.1 ∈ (k.take (n 0)).map fun x : Str × Str => x.1) && decide (q.2 ∈ (k.take (n 0)).map fun x : Str × Str => x.1)
          | none => false) = _
        rw [hq, hks]
      rw [hr] at h2
      refine val_inT rfl rfl hT2 rfl hR2 _ ?_
      refine ⟨_, rfl, ?_⟩
      refine ifd (fun h1 => ?_) fun h1 => ?_
      · rw [decide_eq_true h1, Bool.true_and] at h2
        exact val_inT rfl rfl hT2 rfl hR2 _ h2
      · rw [decide_eq_false h1, Bool.false_and] at h2
        exact h2
    | 3, _, hxs, hv =>
      refine if_eq rfl (fun h => absurd h (by decide)) fun _ => ?_
      refine if_eq rfl (fun _ => ?_) fun h => absurd rfl h
      obtain ⟨u, qq, rfl, hq, hT⟩ := row_getV M.r3 hxs hv
      have hT2 := e12.tups _ _ hT
      have h2 := q H2 e12
      have hr : rdB k t p c d fs n 3 = decide (qq.2 ∈ ks) := by
        show (match c[n 3]? with
          | some (q : Str × Str) => decide (q.2 ∈ (k.take (n 0)).map fun x : Str × Str => x.1)
          | none => false) = _
        rw [hq, hks]
      rw [hr] at h2
      exact val_inT rfl rfl hT2 rfl hR2 _ h2
    | 4, _, hxs, hv =>
      refine if_eq rfl (fun h => absurd h (by decide)) fun _ => ?_
      refine if_eq rfl (fun h => absurd h (by decide)) fun _ => ?_
      refine if_eq rfl (fun _ => ?_) fun h => absurd rfl h
      obtain ⟨u, qq, rfl, hq, hT⟩ := row_getV M.r4 hxs hv
      have hT2 := e12.tups _ _ hT
      have hr : rdB k t p c d fs n 4 = (decide (qq.1 ∈ (c.take (n 3)).map (·.1)) && decide (qq.2 ∈ p.take (n 2))) := by
        show (match d[n 4]? with
          | some (q : Str × Str) => decide (q.1 ∈ (c.take (n 3)).map fun x : Str × Str => x.1) && decide (q.2 ∈ p.take (n 2))
          | none => false) = _
        rw [hq]
      have M2 := M.ext e12 fun _ _ => by simp
      have hD2 := e12.keep _ _ hD (by simp)
      obtain ⟨as3, h3, p3⟩ := M2.r3
      have hl3 := paired_len p3
      have ec3 : cutV (as3.map V.ref) none (some (n 3 : Int)) = (as3.take (n 3)).map V.ref := by rw [cut_take (by rw [List.length_map]; omega), List.map_take]
      refine ⟨_, rfl, u, _, 0, .str qq.1, rfl, rfl, .inl (.inl hT2), rfl, _, rfl, a.M, _, 3, .ref a.m3, rfl, rfl, SqL.of M2.M, rfl, _, rfl, D, _, 3, _, rfl, rfl, SqL.of hD2, atI_nat (dn_at (g := 3) (by decide)), (n 3 : Int), rfl, a.m3, as3.map V.ref, rfl, SqL.of h3, fun p2 hp2 => ?_⟩
      have e3 : Ext [] H2 (upd H2 p2 (.lst (cutV (as3.map V.ref) none (some (n 3 : Int))))) := Ext.new hp2
      have h3' : (upd H2 p2 (.lst (cutV (as3.map V.ref) none (some (n 3 : Int))))) p2 = some (.lst ((as3.take (n 3)).map V.ref)) := by rw [upd_same, ec3]
      generalize upd H2 p2 (.lst (cutV (as3.map V.ref) none (some (n 3 : Int)))) = H3 at e3 h3' ⊢
      have p3' := paired_takeX (n := n 3) p3
      refine ⟨p2, rfl, ⟨_, SqL.of h3'⟩, fun R3 hR3 => lc_heads (K := K) h3' (pairedG_mono (fun _ _ h => e3.tups _ _ h) p3') hR3 (by rw [List.length_take]; omega) (fun _ => rfl) (fun _ => rfl) fun H4 e4 hR4 => ?_⟩
      have e34 := e3.trans e4
      have e14 := e12.trans e34
      generalize hcs : (c.take (n 3)).map (·.1) = cs at hR4 hr
      refine ⟨R3, cs.map V.str, rfl, .inl (SqL.of hR4), rfl, flat_strs, ?_⟩
      show ∃ _, _
      rw [show inV (.str qq.1) (cs.map V.str) = decide (qq.1 ∈ cs) from inV_strs]
      refine ⟨_, rfl, ?_⟩
      refine ifd (fun h1 => ?_) fun h1 => ?_
      · rw [decide_eq_true h1, Bool.true_and] at hr
        have M4 := M.ext e14 fun _ _ => by simp
        have hD4 := e14.keep _ _ hD (by simp)
        have ecp : cutV (p.map V.str) none (some (n 2 : Int)) = (p.take (n 2)).map V.str := by rw [cut_take (by rw [List.length_map]; omega), List.map_take]
        refine ⟨_, rfl, u, _, 1, .str qq.2, rfl, rfl, .inl (.inl (e34.tups _ _ hT2)), rfl, _, rfl, a.M, _, 2, .ref a.m2, rfl, rfl, SqL.of M4.M, rfl, _, rfl, D, _, 2, _, rfl, rfl, SqL.of hD4, atI_nat (dn_at (g := 2) (by decide)), (n 2 : Int), rfl, a.m2, p.map V.str, rfl, SqL.of M4.r2, fun p4 hp4 => ?_⟩
        have e5 : Ext [] H4 (upd H4 p4 (.lst (cutV (p.map V.str) none (some (n 2 : Int))))) := Ext.new hp4
        have h5 : (upd H4 p4 (.lst (cutV (p.map V.str) none (some (n 2 : Int))))) p4 = some (.lst ((p.take (n 2)).map V.str)) := by rw [upd_same, ecp]
        generalize upd H4 p4 (.lst (cutV (p.map V.str) none (some (n 2 : Int)))) = H5 at e5 h5 ⊢
        refine ⟨p4, (p.take (n 2)).map V.str, rfl, .inl (SqL.of h5), rfl, flat_strs, ?_⟩
        have h2 := q H5 (e14.trans e5)
        rw [hr] at h2
        show Q (.bl (inV (.str qq.2) ((p.take (n 2)).map V.str))) H5
        rw [inV_strs]
        exact h2
      · rw [decide_eq_false h1, Bool.false_and] at hr
        have h2 := q H4 e14
        rw [hr] at h2
        exact h2
    | 5, _, hxs, hv =>
      refine if_eq rfl (fun h => absurd h (by decide)) fun _ => ?_
      refine if_eq rfl (fun h => absurd h (by decide)) fun _ => ?_
      refine if_eq rfl (fun h => absurd h (by decide)) fun _ => ?_
      refine if_eq rfl (fun _ => ?_) fun h => absurd rfl h
      have hx5 := M.r5
      have hxx : xs = ms := by
        have h1 : some (HO.lst xs) = some (HO.lst ms) := hxs.symm.trans hx5
        cases h1
        rfl
      subst hxx
      obtain ⟨u, f, rfl, hf, hfu⟩ := W.get hv
      obtain ⟨w0, as, hT, hP, hal2, hal1⟩ := fk_am hfu
      generalize hqs : amF f = qs at hP
      have hT2 := e12.tups _ _ hT
      have hane : as.map V.ref ≠ [] := fun h => by
        rw [List.map_eq_nil_iff.mp h] at hal1
        exact absurd hal1 (by decide)
      have hal := amt_len hP
      have hD2 := e12.keep _ _ hD (by simp)
      refine ⟨_, rfl, 1, rfl, u, _, rfl, .inl (.inl hT2), cut_rest_n hane, fun p2 hp2 => ?_⟩
      have e3 : Ext [] H2 (upd H2 p2 (.tup (cutV (.str w0 :: as.map V.ref) (some 1) none))) := Ext.new hp2
      have h3 : (upd H2 p2 (.tup (cutV (.str w0 :: as.map V.ref) (some 1) none))) p2 = some (.tup (as.map V.ref)) := by rw [upd_same, cut_rest]
      generalize upd H2 p2 (.tup (cutV (.str w0 :: as.map V.ref) (some 1) none)) = H3 at e3 h3 ⊢
      have e13 := e12.trans e3
      have hD3 := e3.keep _ _ hD2 (by simp)
      refine ⟨p2, rfl, ⟨_, .inl (.inl h3)⟩, fun R3 hR3 => lc_tup (K := K) (a := p2) (xs := as.map V.ref) (fun m G => Ext [] H3 G ∧ G R3 = some (.lst (((qs.take m).map fun q => decide (q.2 < n 4)).map V.bl))) ⟨Ext.new hR3, upd_same⟩ ?_ ?_ ?_⟩
      · rintro m G' _ ⟨e', _⟩
        exact .inl (.inl (e'.tups _ _ h3))
      · rintro m y G' hy ⟨e', hg'⟩
        rw [List.getElem?_map] at hy
        obtain ⟨ua, hua, rfl⟩ := Option.map_eq_some_iff.mp hy
        obtain ⟨q0, hq0, hqT⟩ := amt_at hP hua
        have hqT' := (e13.trans e').tups _ _ hqT
        refine ⟨wipe1, ?_⟩
        refine tyes ?_
        refine ⟨_, rfl, ua, _, 1, .int (q0.2 : Int), rfl, rfl, .inl (.inl hqT'), rfl, _, rfl, D, _, 4, _, rfl, rfl, SqL.of (e'.keep _ _ hD3 (by simp)), atI_nat (dn_at (g := 4) (by decide)), _, _, rfl, rfl, _, hg', ?_, e'.fresh hR3, ?_⟩
        · rw [List.length_map, List.length_map, List.length_take]
          exact Evl.sz_lt (by omega)
        · rw [upd_same, take_snoc hq0, List.map_append, List.map_append]
          show some (HO.lst (_ ++ [V.bl (decide ((q0.2 : Int) < (n 4 : Int)))])) = _
          rw [show decide ((q0.2 : Int) < (n 4 : Int)) = decide (q0.2 < n 4) from decide_eq_decide.mpr Int.ofNat_lt]
          rfl
      · rintro G' ⟨e', hg'⟩
        rw [List.length_map, hal, List.take_of_length_le (Nat.le_refl _)] at hg'
        refine ⟨R3, _, rfl, SqL.of hg', ?_⟩
        have h2 := q G' (e13.trans e')
        have hr : rdB k t p c d fs n 5 = ((qs.map fun q => decide (q.2 < n 4)).all id) := by
          show (match fs[n 5]? with
            | some f => (amF f).all fun q => decide (q.2 < n 4)
            | none => false) = _
          rw [hf]
          show (amF f).all (fun q => decide (q.2 < n 4)) = _
          rw [List.all_map, hqs]
          rfl
        rw [hr] at h2
        exact h2
end

end K15
namespace K15
open PySem PySem.Spec PyProof.Rows L2 He Tp ClX LiI

section
variable {P : Program} {w : World} {K : PySem.W.Frag} {mg : Str → Option Value} {base : Heap}
/-- _law_shuffled(source, model) -/
def spShuf : Sp := fun vs H Q _ => ∃ (S L : Addr) (a : Mad) (k t : List (Str × Str)) (p : List Str) (c d : List (Str × Str)) (ms : List V) (fs : List Fk), vs = [.ref S, .ref a.M] ∧ SrcAt H S L ∧ MdAt H a k t p c d ms ∧ FL H ms fs ∧ GW k t p c d ∧ Fa k c d fs ∧ t.length ≤ 8 ∧ d.length ≤ 24 ∧ (∀ x ∈ a.all, x ≠ S ∧ x ≠ L) ∧
  ∀ gs rows H', Sh k t p c d fs gs rows → gs.length = totG k t p c d fs → Ext [S] H H' → SrcAt H' S L → Q (.str (textD rows)) H'
theorem dn_set {n : Nat → Nat} {g : Nat} (h : g < 6) : ((List.range 6).map fun x => V.int (n x : Int)).set g (.int ((n g : Int) + 1)) = (List.range 6).map fun x => V.int (bump n g x : Int) := by
  match g, h with
  | 0, _ => rfl
  | 1, _ => rfl
  | 2, _ => rfl
  | 3, _ => rfl
  | 4, _ => rfl
  | 5, _ => rfl
theorem ok_shuf (T : Txt K mg) : Df P w K mg base CX0 2 "_law_shuffled" ["_law_source_here", "_law_model_here"] spShuf := by
  have D__law_lines := ok_llines (P := P) (w := w) (base := base) T
  have D__law_draw := ok_drawE (P := P) (w := w) (base := base) T
  have D__law_ready := ok_ready (P := P) (w := w) (base := base) T
  refine Df.mk' T.g_law_shuffled T.f_law_shuffled (fun _ _ _ _ _ _ us hl => match us, hl with | [_, _], _ => rfl) fun fd F => F.ok sc__law_shuffled (fun vs H Q E h => ?_) (fun cdv A outer s H vs Q E hr h => ?_)
  · obtain ⟨S, L, a, k, t, p, c, d, ms, fs, rfl, _⟩ := h
    rfl
  · obtain ⟨S, L, a, k, t, p, c, d, ms, fs, rfl, hS, M, W, G, Ff, ht8, hd24, hg, q⟩ := h
    have nd := sc__law_shuffled.nd
    have hr__law_lines := hr
    have hr__law_draw := hr
    have hr__law_ready := hr
    refine ⟨_, PSs.nox (pss_cons (ps_set (i := 2) nd rfl (by first | exact Or.inl rfl | exact Or.inr rfl) (pe_cd D__law_lines hr__law_lines (by rfl) pass0 (pa_cons (pv 1) pa_nil)))
   (pss_cons (ps_set (i := 3) nd rfl (by first | exact Or.inl rfl | exact Or.inr rfl) (pe_lst (pa_cons pe_int (pa_cons pe_int (pa_cons pe_int (pa_cons pe_int (pa_cons pe_int (pa_cons pe_int pa_nil))))))))
   (pss_cons (ps_set (i := 4) nd rfl (by first | exact Or.inl rfl | exact Or.inr rfl) pe_str)
   (pss_cons (ps_for PassesOwn.never rfl (pi_range1 (by rfl) T.brange (pa_cons (pe_callB (cr_sum rfl) (by rfl) T.bsum (by decide +kernel) (pa_cons (pe_lc (own := [("_law_group", 5)]) (g := gName 5) (tt := tYes) (by rfl) nd (pi_list (pv 2)) (blkOk_by (own := [("_law_group", 5)]) (N := n__law_shuffled) (sc := defScope s__law_shuffled) (by decide +kernel)) (fun _ _ _ _ _ => pg_name (i := 5) nd rfl (by first | exact Or.inl rfl | exact Or.inr rfl)) (fun _ _ _ _ _ => pts_nil) (fun _ _ _ _ _ => (pe_callB (show CallR _ _ (fun xs H Q => ∃ p ys, xs = [V.ref p] ∧ (SqL K H p ys ∨ SqT K H p ys) ∧ Q (V.int ((ys.length : Nat) : Int)) H) from call_len_seq) (by rfl) T.blen PySem.boot_len (pa_cons (pv 5) pa_nil)))) pa_nil)) pa_nil)) (pg_name (i := 6) nd rfl (by first | exact Or.inl rfl | exact Or.inr rfl))
   (pss_cons (ps_set (i := 7) nd rfl (by first | exact Or.inl rfl | exact Or.inr rfl) (pe_cd D__law_draw hr__law_draw (by rfl) pass0 (pa_cons (pv 0) (pa_cons pe_int pa_nil))))
   (pss_cons (ps_setLc (i := 8) (own := [("_law_t", 9)]) (g := gName 9) (by rfl) nd rfl rfl (sw_true rfl rfl rfl (by decide +kernel)) (pi_range1 (by rfl) T.brange (pa_cons pe_int pa_nil)) (blkOk_by (own := [("_law_t", 9)]) (N := n__law_shuffled) (sc := defScope s__law_shuffled) (by decide +kernel)) (fun _ _ _ _ _ => pg_name (i := 9) nd rfl (by first | exact Or.inl rfl | exact Or.inr rfl)) (fun _ _ _ _ _ => (pts_one (pt_val (pe_cd D__law_ready hr__law_ready (by rfl) pass0 (pa_cons (pv 1) (pa_cons (pe_op op_mod (pe_callTy call_int1 (by rfl) T.bint (by decide +kernel) (pa_cons (pe_op op_add (pv 7) (pv 9)) pa_nil)) pe_int) (pa_cons (pv 3) pa_nil))))))) (fun _ _ _ _ _ => (pe_op op_mod (pe_callTy call_int1 (by rfl) T.bint (by decide +kernel) (pa_cons (pe_op op_add (pv 7) (pv 9)) pa_nil)) pe_int)))
   (pss_cons (ps_set (i := 5) nd rfl (by first | exact Or.inl rfl | exact Or.inr rfl) (pe_ix ix_list (pv 8) pe_int (fun _ _ => rfl)))
   (pss_cons (ps_set (i := 4) nd rfl (by first | exact Or.inl rfl | exact Or.inr rfl) (pe_op op_add_str (pe_op op_add_str (pv 4) (pe_ix ix_list (pe_ix ix_list (pv 2) (pv 5) (fun _ _ => rfl)) (pe_ix ix_list (pv 3) (pv 5) (fun _ _ => rfl)) (fun _ _ => rfl))) pe_str))
   (pss_one (ps_asg (pe_op op_add (pe_ix ix_list (pv 3) (pv 5) (fun _ _ => rfl)) pe_int) (pg_sub (pv 3) (pv 5) set_list))))))))
   (pss_one (ps_ret (pv 4))))))), ?_⟩
    have hrow := rows_okM G Ff hd24 (t := t)
    have nk : ∀ z ∈ k.map (·.1), z.length ≤ 100 := fun z hz => by have := nm_len (G.kn.nm z hz); omega
    have nc : ∀ z ∈ c.map (·.1), z.length ≤ 100 := fun z hz => by have := nm_len (G.cn.nm z hz); omega
    have np : ∀ z ∈ p, z.length ≤ 100 := fun z hz => by have := nm_len (G.pn.nm z hz); omega
    have hk8 := G.k8
    have hp8 := G.p8
    have hc8 := G.c8
    have hf32 := Ff.l
    have hlowF : ∀ f ∈ fs, lowF f := fun f hf => by
      have h := Ff.low hd24 f hf
      cases f with
      | tell x y => exact ⟨(h x (by simp [amF])).2.2, (h y (by simp [amF])).2.2⟩
      | some x => exact (h x (by simp [amF])).2.2
    refine ⟨_, rfl, a, k, t, p, c, d, ms, fs, rfl, M, W, ⟨by omega, by omega, by omega, by omega, by omega, by omega⟩, hlowF, (fun q hq => ⟨nk _ (List.mem_map.mpr ⟨q, hq, rfl⟩), ?_⟩), (fun q hq => ⟨nk _ (G.tk q hq).1, nk _ (G.tk q hq).2⟩), np, (fun q hq => ⟨nc _ (List.mem_map.mpr ⟨q, hq, rfl⟩), nk _ (G.ck q hq)⟩), (fun q hq => ⟨nc _ (G.dc q hq).1, np _ (G.dc q hq).2⟩), (fun f hf z hz => (hrow (fwD f) (by rw [rows_rowG]; simp only [List.mem_append]; exact .inr (.inr (.inr (.inr (.inr (List.mem_map.mpr ⟨f, hf, rfl⟩))))))).2 z hz), fun lg as H1 hlg e1 hlg1 ln => ?_⟩
    · rcases G.kh q hq with h | h | h <;> rw [h] <;> decide +kernel
    refine gset ?_
    dsimp only
    have s1 := hS.ext e1
    have M1 := M.ext e1 fun _ _ => by simp
    have W1 := W.ext e1
    refine ⟨by show 6 ≤ sizeLine; decide, fun ld hld => ?_⟩
    refine gset ?_
    dsimp only
    have hnS : ∀ {u : Addr} {xs : List Str}, H1 u = some (.lst (xs.map V.str)) → u ∉ [S] := fun {u xs} hu hm => by
      rw [List.mem_singleton.mp hm] at hu
      obtain ⟨cells, i, k, g, hSS, _⟩ := s1
      rw [hSS] at hu
      cases xs with
      | nil => cases hu
      | cons x r => cases hu
    have hlgS : lg ∉ [S] := by simpa using (src_ne_new hS hlg).1
    have hldn : H1 ld = none := hld
    have e2 : Ext [] H1 (upd H1 ld (.lst [.int 0, .int 0, .int 0, .int 0, .int 0, .int 0])) := Ext.new hld
    have hld2 : (upd H1 ld (.lst [.int 0, .int 0, .int 0, .int 0, .int 0, .int 0])) ld = some (.lst ((List.range 6).map fun x => V.int ((([] : List Nat).count x : Nat) : Int))) := upd_same
    generalize upd H1 ld (.lst [.int 0, .int 0, .int 0, .int 0, .int 0, .int 0]) = H2 at e2 hld2 ⊢
    refine gset ?_
    dsimp only
    have lnl := ln.len
    have hl6 : as.length = 6 := lnl
    have hsum : ((linesD k t p c d fs).map fun g => (g.length : Int)).sum = ((totG k t p c d fs : Nat) : Int) := by
      unfold linesD totG
      simp only [List.map_cons, List.map_nil, List.sum_cons, List.sum_nil, List.length_map]
      omega
    have hlg2 := e2.keep _ _ hlg1 (by simp)
    refine ⟨_, rfl, lg, rfl, ⟨_, SqL.of hlg2⟩, fun R hR => lc_list (xs := as.map V.ref) (fun n G' => Ext [] H2 G' ∧ G' R = some (.lst ((((linesD k t p c d fs).take n).map fun g => (g.length : Int)).map V.int))) ⟨Ext.new hR, upd_same⟩ ?_ ?_ ?_⟩
    · rintro n G' _ ⟨e, _⟩
      exact SqL.of (e.keep _ _ hlg2 (by simp))
    · rintro n v G' hv ⟨e, hG'⟩
      rw [List.getElem?_map] at hv
      obtain ⟨u, hu, rfl⟩ := Option.map_eq_some_iff.mp hv
      obtain ⟨gg, hgi, hT⟩ := paired_getX ln hu
      have hT2 := (e2.trans e).keep _ _ hT (by simp)
      have hn6 : n < 6 := by have := (List.getElem?_eq_some_iff.mp hu).1; omega
      refine ⟨wipe1, ?_⟩
      refine tyes ?_
      refine ⟨_, rfl, u, _, rfl, .inl (SqL.of hT2), ?_⟩
      refine ⟨_, hG', by rw [List.length_map, List.length_map, List.length_take]; exact Evl.sz_lt (by omega), e.fresh hR, ?_⟩
      rw [upd_same, take_snoc hgi, List.map_append, List.map_append, List.length_map]
      rfl
    rintro H3 ⟨e3, hR3⟩
    rw [List.length_map, lnl, List.take_of_length_le (Nat.le_refl _)] at hR3
    refine ⟨R, (linesD k t p c d fs).map fun g => (g.length : Int), rfl, SqL.of hR3, ?_⟩
    rw [hsum]
    refine ⟨((totG k t p c d fs : Nat) : Int), rfl, by unfold totG; omega, by unfold totG; omega, for_range (n := ((totG k t p c d fs : Nat) : Int).toNat) (fun j σ' G' => ∃ x5 x6 x7 x8 gs rows, σ' = [some (.ref S), some (.ref a.M), some (.ref lg), some (.ref ld), some (.str (textD rows)), x5, x6, x7, x8, none] ∧ Ext [S] H1 G' ∧ SrcAt G' S L ∧ G' ld = some (.lst ((List.range 6).map fun x => V.int ((gs.count x : Nat) : Int))) ∧ Sh k t p c d fs gs rows ∧ gs.length = j) ⟨none, none, none, none, [], [], rfl, (e2.trans e3).nil, (s1.ext e2).ext e3, e3.keep _ _ hld2 (by simp), .nil, rfl⟩ ?_ ?_⟩
    · rintro j σ' G1 hj ⟨x5, x6, x7, x8, gs, rows, rfl, eG, sG, hdG, SS, hgl⟩
      refine gset ?_
      dsimp only
      refine draw_ex (i := 0) rfl sG (by decide) (by decide) val_c (fun m G2 m0 m1 e4 s4 => ?_)
      refine gset ?_
      dsimp only
      have eG2 := eG.trans e4
      have hldS : ld ∉ [S] := fun hm => by
        rw [List.mem_singleton.mp hm] at hldn
        obtain ⟨cells, i, k, g, hSS, _⟩ := s1
        rw [hSS] at hldn
        cases hldn
      have hd2 := e4.keep _ _ hdG hldS
      have M2 := M1.ext eG2 fun y hy => by simpa using (hg y hy).1
      have W2 := W1.ext eG2
      have le0 := SS.le 0
      have le2 := SS.le 2
      have le3 := SS.le 3
      rw [show (rowG k t p c d fs 0).length = k.length from List.length_map ..] at le0
      rw [show (rowG k t p c d fs 2).length = p.length from List.length_map ..] at le2
      rw [show (rowG k t p c d fs 3).length = c.length from List.length_map ..] at le3
      obtain ⟨gr, hgr6, hgr⟩ := SS.ready G.tk G.ck G.dc (fun f hf q hq => (Ff.low hd24 f hf q hq).2.1) (by omega)
      refine ⟨(6 : Int), rfl, by decide, by decide, fun R2 hR2 => lc_range (lo := 0) (n := (6 : Int).toNat) (fun i G' => Ext [] G2 G' ∧ ∃ l : List Nat, G' R2 = some (.lst (l.map fun g : Nat => V.int (g : Int))) ∧ (∀ g ∈ l, g < 6 ∧ rdB k t p c d fs (fun x => gs.count x) g = true) ∧ l.length ≤ i ∧ ∀ j, j < i → rdB k t p c d fs (fun x => gs.count x) ((m + (0 + (j : Int))) % 6).toNat = true → l ≠ []) ⟨Ext.new hR2, [], upd_same, by simp, by simp, fun j hj => absurd hj (by omega)⟩ ?_ ?_⟩
      · rintro i G' hi ⟨e5, l, hl, hl1, hl2, hl3⟩
        have g0 := Int.emod_nonneg (m + (0 + (i : Int))) (show (6 : Int) ≠ 0 by decide)
        have g6 := Int.emod_lt_of_pos (m + (0 + (i : Int))) (show (0 : Int) < 6 by decide)
        have hi6 : i < 6 := hi
        refine ⟨wipe1, ?_⟩
        refine ⟨_, rfl, ?_⟩
        refine val_intC (val_toInt (val_int (val_var rfl) (val_var rfl))) val_c (by decide) _ ?_
        refine ⟨_, rfl, ?_⟩
        refine ⟨a, k, t, p, c, d, ms, fs, ld, fun x => gs.count x, ((m + (0 + (i : Int))) % 6).toNat, (by show [_, V.int _, _] = [_, V.int _, _]; rw [Int.toNat_of_nonneg g0]), by omega, M2.ext e5 fun _ _ => by simp, W2.ext e5, e5.keep _ _ hd2 (by simp), le0, le2, le3, by omega, by omega, by omega, fun G3 e6 => ⟨_, rfl, ?_⟩⟩
        have hl' := e6.keep _ _ hl (by simp)
        refine ifb (fun hb => ?_) (fun hb => ?_)
        · refine val_intC (val_toInt (val_int (val_var rfl) (val_var rfl))) val_c (by decide) _ ?_
          refine ⟨_, hl', by rw [List.length_map]; exact Evl.sz_lt (by omega), (e5.trans e6).fresh hR2, l ++ [((m + (0 + (i : Int))) % 6).toNat], ?_, ?_, ?_, ?_⟩
          · rw [upd_same, List.map_append]
            show some (HO.lst (_ ++ [V.int _])) = some (HO.lst (_ ++ [V.int _]))
            rw [Int.toNat_of_nonneg g0]
          · intro g hg
            rcases List.mem_append.mp hg with hg | hg
            · exact hl1 g hg
            · rw [List.mem_singleton.mp hg]
              exact ⟨by omega, hb⟩
          · rw [List.length_append, List.length_singleton]
            omega
          · intro _ _ _
            simp
        · refine ⟨e5.trans e6, l, hl', hl1, by omega, fun j hj hrd => ?_⟩
          by_cases hji : j < i
          · exact hl3 j hji hrd
          · have : j = i := by omega
            subst this
            rw [hb] at hrd
            cases hrd
      · rintro G4 ⟨e5, l, hl, hl1, hl2, hl3⟩
        have hne : l ≠ [] := by
          refine hl3 (((gr : Int) - m) % 6).toNat (by show _ < 6; omega) ?_
          have : ((m + (0 + ((((gr : Int) - m) % 6).toNat : Int))) % 6).toNat = gr := by omega
          rw [this]
          exact hgr
        cases l with
        | nil => exact absurd rfl hne
        | cons g0 r =>
          obtain ⟨hg6, hrd⟩ := hl1 g0 (by simp)
          obtain ⟨_, ws, hws⟩ := rdB_row hrd
          refine gset ?_
          dsimp only
          refine ⟨_, rfl, R2, _, 0, .int (g0 : Int), rfl, rfl, SqL.of hl, atI_nat (show ((g0 :: r).map fun g : Nat => V.int (g : Int))[0]? = some (.int (g0 : Int)) from rfl), ?_⟩
          refine gset ?_
          dsimp only
          have eG4 := eG2.trans e5.nil
          have hlg4 := eG4.keep _ _ hlg1 hlgS
          have hd4 := e5.keep _ _ hd2 (by simp)
          have hgA : g0 < as.length := by omega
          obtain ⟨gg, hgi, hT⟩ := paired_getX ln (List.getElem?_eq_getElem hgA)
          rw [lines_rowG g0 hg6] at hgi
          cases hgi
          have hT4 := eG4.keep _ _ hT (hnS hT)
          have hro : rowOk rows := fun ws hws => hrow ws (SS.mem hws)
          have hrl := SS.len
          have hsm := lines_sum hro
          have hcat := catS_len (rows.map Tp.lineD)
          have htx : (textD rows).length ≤ rows.length * 506 := by
            show (catS (rows.map Tp.lineD)).length ≤ _
            omega
          have S2 := SS.snoc hrd hws
          have hwo := hrow ws (S2.mem (by simp))
          have hln := line_len hwo
          have htot : totG k t p c d fs ≤ 88 := by unfold totG; omega
          refine ⟨_, rfl, _, rfl, _, rfl, lg, _, (g0 : Int), _, rfl, rfl, SqL.of hlg4, atI_nat (show (as.map V.ref)[g0]? = some (.ref as[g0]) from by rw [List.getElem?_map, List.getElem?_eq_getElem hgA]; rfl), _, rfl, _, rfl, ld, _, (g0 : Int), _, rfl, rfl, SqL.of hd4, atI_nat (dn_at hg6), as[g0], _, ((gs.count g0 : Nat) : Int), .str (Txt.join sp1 ws), rfl, rfl, SqL.of hT4, atI_nat (by rw [List.getElem?_map, List.getElem?_map, hws]; rfl), _, _, rfl, rfl, ?_, _, _, rfl, rfl, ?_, ?_⟩
          · rw [sizeLine_eq]
            omega
          · rw [sizeLine_eq, str_len, nl_len]
            omega
          refine gset ?_
          dsimp only
          refine ⟨_, rfl, _, rfl, ld, _, (g0 : Int), _, rfl, rfl, SqL.of hd4, atI_nat (dn_at hg6), _, _, rfl, rfl, _, rfl, _, rfl, ld, _, (g0 : Int), g0, rfl, rfl, hd4, Evl.ixN_nat (by rw [List.length_map, List.length_range]; exact hg6), ?_⟩
          have hds := dn_set (n := fun x => gs.count x) hg6
          rw [hds]
          have e6 : Ext [ld] G4 (upd G4 ld (.lst ((List.range 6).map fun x => V.int (bump (fun x => gs.count x) g0 x : Int)))) := ext_lst hd4
          refine ⟨_, _, _, _, gs ++ [g0], rows ++ [ws], by rw [textD_snoc]; rfl, ?_, ?_, ?_, S2, by rw [List.length_append, List.length_singleton, hgl]⟩
          · exact ext_over eG4 e6 hldn
          · have hn := src_ne_new s1 hldn
            exact src_extM (s4.ext e5) e6 (by simpa using Ne.symm hn.1) (by simpa using Ne.symm hn.2)
          · rw [upd_same, ← cnt_snoc]
    · rintro σ' G1 ⟨x5, x6, x7, x8, gs, rows, rfl, eG, sG, hdG, SS, hgl⟩
      exact ⟨_, rfl, q gs rows G1 SS (by omega) (e1.nil.trans eG) sG⟩
end

end K15
namespace K15
open PySem PySem.Spec PyProof.Rows L2 He Tp ClX LiI

section
variable {P : Program} {w : World} {K : PySem.W.Frag} {mg : Str → Option Value} {base : Heap}
theorem nodup_set {y : Addr} : ∀ {l : List Addr} (i : Nat), l.Nodup → y ∉ l → (l.set i y).Nodup
  | [], _, h, _ => h
  | x :: r, 0, h, hy => by
    have h' := List.nodup_cons.mp h
    exact List.nodup_cons.mpr ⟨fun hm => hy (List.mem_cons_of_mem _ hm), h'.2⟩
  | x :: r, i + 1, h, hy => by
    have h' := List.nodup_cons.mp h
    refine List.nodup_cons.mpr ⟨fun hm => ?_, nodup_set i h'.2 fun hm => hy (List.mem_cons_of_mem _ hm)⟩
    rcases List.mem_or_eq_of_mem_set hm with h1 | h1
    · exact h'.1 h1
    · exact hy (by rw [← h1]; exact List.mem_cons_self ..)
/-- a list of the part -/
def RowI (k t : List (Str × Str)) (p : List Str) (c : List (Str × Str)) (H : Hp) (z : Addr) : Nat → Prop
  | 0 => ∃ q, List.Sublist q k ∧ RowAt H z q
  | 1 => ∃ q, List.Sublist q t ∧ RowAt H z q
  | 2 => ∃ q, List.Sublist q p ∧ H z = some (.lst (q.map V.str))
  | 3 => ∃ q, List.Sublist q c ∧ RowAt H z q
  | _ => False
theorem RowI.ext {k t : List (Str × Str)} {p : List Str} {c : List (Str × Str)} {H H' : Hp} {z : Addr} {ms : List Addr} : ∀ {i : Nat}, RowI k t p c H z i → Ext ms H H' → z ∉ ms → RowI k t p c H' z i
  | 0, ⟨q, s, h⟩, e, hz => ⟨q, s, h.ext e hz⟩
  | 1, ⟨q, s, h⟩, e, hz => ⟨q, s, h.ext e hz⟩
  | 2, ⟨q, s, h⟩, e, hz => ⟨q, s, e.keep _ _ h hz⟩
  | 3, ⟨q, s, h⟩, e, hz => ⟨q, s, h.ext e hz⟩
theorem RowI.lst {k t : List (Str × Str)} {p : List Str} {c : List (Str × Str)} {H : Hp} {z : Addr} (hk : k.length ≤ 8) (ht : t.length ≤ 8) (hp : p.length ≤ 8) (hc : c.length ≤ 8) : ∀ {i : Nat}, RowI k t p c H z i → ∃ xs, H z = some (.lst xs) ∧ xs.length ≤ 8
  | 0, ⟨q, s, h⟩ => by obtain ⟨xs, h1, h2⟩ := row_len h; exact ⟨xs, h1, by have := s.length_le; omega⟩
  | 1, ⟨q, s, h⟩ => by obtain ⟨xs, h1, h2⟩ := row_len h; exact ⟨xs, h1, by have := s.length_le; omega⟩
  | 2, ⟨q, s, h⟩ => ⟨_, h, by have := s.length_le; rw [List.length_map]; omega⟩
  | 3, ⟨q, s, h⟩ => by obtain ⟨xs, h1, h2⟩ := row_len h; exact ⟨xs, h1, by have := s.length_le; omega⟩
theorem RowI.cut {k t : List (Str × Str)} {p : List Str} {c : List (Str × Str)} {H H' : Hp} {z y : Addr} {xs : List V} {m : Nat} (hx : H z = some (.lst xs)) (hm : m ≤ xs.length) (e : Ext [] H H') (hp : H' y = some (.lst (cutV xs none (some (m : Int))))) : ∀ {i : Nat}, RowI k t p c H z i → RowI k t p c H' y i
  | 0, ⟨q, s, h⟩ => ⟨q.take m, (List.take_sublist ..).trans s, row_cut h hx hm e hp⟩
  | 1, ⟨q, s, h⟩ => ⟨q.take m, (List.take_sublist ..).trans s, row_cut h hx hm e hp⟩
  | 2, ⟨q, s, h⟩ => ⟨q.take m, (List.take_sublist ..).trans s, by
      have h' : some (HO.lst xs) = some (HO.lst (q.map V.str)) := hx.symm.trans h
      cases h'
      rw [cut_take hm, ← List.map_take] at hp
      exact hp⟩
  | 3, ⟨q, s, h⟩ => ⟨q.take m, (List.take_sublist ..).trans s, row_cut h hx hm e hp⟩
/-- the part on the way -/
structure Pa (H0 H : Hp) (S L P e4 e5 : Addr) (r : List Addr) (k t : List (Str × Str)) (p : List Str) (c : List (Str × Str)) : Prop where
  x : Ext [S] H0 H
  s : SrcAt H S L
  hP : H P = some (.lst ((r ++ [e4, e5]).map V.ref))
  f : ∀ y ∈ P :: (r ++ [e4, e5]), H0 y = none
  nd : (P :: (r ++ [e4, e5])).Nodup
  l : r.length = 4
  h : ∀ i, i < 4 → ∃ z, r[i]? = some z ∧ RowI k t p c H z i
  z4 : H e4 = some (.lst [])
  z5 : H e5 = some (.lst [])
theorem Pa.ne {H0 H : Hp} {S L P e4 e5 : Addr} {r : List Addr} {k t : List (Str × Str)} {p : List Str} {c : List (Str × Str)} (j : Pa H0 H S L P e4 e5 r k t p c) (hS : SrcAt H0 S L) : ∀ y ∈ P :: (r ++ [e4, e5]), y ≠ S ∧ y ≠ L := fun y hy => src_ne_new hS (j.f y hy)
theorem Pa.draw {H0 H H' : Hp} {S L P e4 e5 : Addr} {r : List Addr} {k t : List (Str × Str)} {p : List Str} {c : List (Str × Str)} (j : Pa H0 H S L P e4 e5 r k t p c) (hS : SrcAt H0 S L) (e : Ext [S] H H') (s : SrcAt H' S L) : Pa H0 H' S L P e4 e5 r k t p c := by
  have ne := j.ne hS
  refine ⟨j.x.trans e, s, e.keep _ _ j.hP (by simpa using (ne P (by simp)).1), j.f, j.nd, j.l, fun i hi => ?_, e.keep _ _ j.z4 (by simpa using (ne e4 (by simp)).1), e.keep _ _ j.z5 (by simpa using (ne e5 (by simp)).1)⟩
  obtain ⟨z, h1, h2⟩ := j.h i hi
  exact ⟨z, h1, h2.ext e (by simpa using (ne z (by simp [List.mem_of_getElem? h1])).1)⟩
theorem Pa.put {H0 H H' : Hp} {S L P e4 e5 y : Addr} {r : List Addr} {k t : List (Str × Str)} {p : List Str} {c : List (Str × Str)} {i : Nat} (j : Pa H0 H S L P e4 e5 r k t p c) (hS : SrcAt H0 S L) (hi : i < 4) (hy : H y = none) (e1 : Ext [] H H') (hR : RowI k t p c H' y i) :
    Pa H0 (upd H' P (.lst (((r ++ [e4, e5]).map V.ref).set i (.ref y)))) S L P e4 e5 (r.set i y) k t p c := by
  have ne := j.ne hS
  have P1 := e1.keep _ _ j.hP (by simp)
  have e2 : Ext [P] H' (upd H' P (.lst (((r ++ [e4, e5]).map V.ref).set i (.ref y)))) := ext_lst P1
  have hs : ∀ z ∈ r, ∃ v, H z = some v := fun z hz => by
    obtain ⟨m, hm⟩ := List.getElem?_of_mem hz
    have hml := (List.getElem?_eq_some_iff.mp hm).1
    obtain ⟨z', h1, h2⟩ := j.h m (by rw [← j.l]; exact hml)
    rw [hm] at h1
    cases h1
    match m, h2 with
    | 0, ⟨n, _, h⟩ => exact ⟨_, h.choose_spec.1⟩
    | 1, ⟨n, _, h⟩ => exact ⟨_, h.choose_spec.1⟩
    | 2, ⟨n, _, h⟩ => exact ⟨_, h⟩
    | 3, ⟨n, _, h⟩ => exact ⟨_, h.choose_spec.1⟩
  have hyP : y ≠ P := Ne.symm (ne_of_none j.hP hy)
  have hy4 : y ≠ e4 := Ne.symm (ne_of_none j.z4 hy)
  have hy5 : y ≠ e5 := Ne.symm (ne_of_none j.z5 hy)
  have hyr : y ∉ r := fun hm => by
    obtain ⟨v, hv⟩ := hs y hm
    rw [hy] at hv
    cases hv
  have nd := j.nd
  rw [List.nodup_cons, List.nodup_append, List.mem_append, not_or] at nd
  obtain ⟨⟨nP1, nP2⟩, nr, n45, nx⟩ := nd
  have hset : ∀ z ∈ r.set i y, z = y ∨ z ∈ r := fun z hz => by
    rcases List.mem_or_eq_of_mem_set hz with h | h
    · exact .inr h
    · exact .inl h
  have s2 : SrcAt (upd H' P (.lst (((r ++ [e4, e5]).map V.ref).set i (.ref y)))) S L := by
    have hn := ne P (by simp)
    exact src_extM (j.s.ext e1) e2 (by simpa using Ne.symm hn.1) (by simpa using Ne.symm hn.2)
  refine ⟨ext_over (j.x.trans e1.nil) e2 (j.f P (by simp)), s2, ?_, fun z hz => ?_, ?_, by rw [List.length_set]; exact j.l, fun m hm => ?_, e2.keep _ _ (e1.keep _ _ j.z4 (by simp)) ?_, e2.keep _ _ (e1.keep _ _ j.z5 (by simp)) ?_⟩
  · rw [upd_same, ← List.set_append_left _ _ (by rw [j.l]; exact hi), List.map_set]
  · rcases List.mem_cons.mp hz with rfl | hz
    · exact j.f z (by simp)
    · rcases List.mem_append.mp hz with hz | hz
      · rcases hset z hz with rfl | hz
        · exact j.x.none hy (by simpa using fun h => by rw [h] at hy; obtain ⟨_, _, _, _, hSS, _⟩ := j.s; rw [hSS] at hy; cases hy)
        · exact j.f z (by simp [hz])
      · exact j.f z (by simp only [List.mem_cons, List.mem_append]; exact .inr (.inr (by simpa using hz)))
  · rw [List.nodup_cons, List.nodup_append, List.mem_append, not_or]
    refine ⟨⟨fun h => ?_, nP2⟩, ?_, n45, fun a ha b hb => ?_⟩
    · rcases hset P h with h | h
      · exact hyP h.symm
      · exact nP1 h
    · exact nodup_set i nr hyr
    · rcases hset a ha with rfl | ha
      · simp only [List.mem_cons, List.not_mem_nil, or_false] at hb
        rcases hb with rfl | rfl
        · exact hy4
        · exact hy5
      · exact nx a ha b hb
  · by_cases hmi : m = i
    · subst hmi
      exact ⟨y, by rw [List.getElem?_set_self (by rw [j.l]; exact hi)], hR.ext e2 (by simpa using hyP)⟩
    · obtain ⟨z, h1, h2⟩ := j.h m hm
      refine ⟨z, by rw [List.getElem?_set_ne (Ne.symm hmi)]; exact h1, (h2.ext e1 (by simp)).ext e2 ?_⟩
      have := List.mem_of_getElem? h1
      intro h
      rw [List.mem_singleton.mp h] at this
      exact nP1 this
  · intro h
    exact nP2 (by rw [← List.mem_singleton.mp h]; simp)
  · intro h
    exact nP2 (by rw [← List.mem_singleton.mp h]; simp)
/-- _law_part(source, model) -/
def spPart : Sp := fun vs H Q _ => ∃ (S L : Addr) (a : Mad) (k t : List (Str × Str)) (p : List Str) (c d : List (Str × Str)) (ms : List V), vs = [.ref S, .ref a.M] ∧ SrcAt H S L ∧ MdAt H a k t p c d ms ∧ GW k t p c d ∧ t.length ≤ 8 ∧
  ∀ a' k' t' p' c' H', GW k' t' p' c' [] → t'.length ≤ 8 → (∀ x ∈ a'.all, H x = none) → Ext [S] H H' → SrcAt H' S L → MdAt H' a' k' t' p' c' [] [] → Q (.ref a'.M) H'
theorem ok_part (T : Txt K mg) : Df P w K mg base CX0 2 "_law_part" ["_law_source_here", "_law_model_here"] spPart := by
  have D__law_draw := ok_drawE (P := P) (w := w) (base := base) T
  refine Df.mk' T.g_law_part T.f_law_part (fun _ _ _ _ _ _ us hl => match us, hl with | [_, _], _ => rfl) fun fd F => F.ok sc__law_part (fun vs H Q E h => ?_) (fun cdv A outer s H vs Q E hr h => ?_)
  · obtain ⟨S, L, a, k, t, p, c, d, ms, rfl, _⟩ := h
    rfl
  · obtain ⟨S, L, a, k, t, p, c, d, ms, rfl, hS, M, G, ht8, q⟩ := h
    have nd := sc__law_part.nd
    have hr__law_draw := hr
    refine ⟨_, PSs.nox (pss_cons (ps_set (i := 2) nd rfl (by first | exact Or.inl rfl | exact Or.inr rfl) (pe_op op_cat (pe_lc (own := [("_law_rows", 7)]) (g := gName 7) (tt := tYes) (by rfl) nd (pi_list (pe_slice sl_list (pv 1) po_none (po_some pe_int))) (blkOk_by (own := [("_law_rows", 7)]) (N := n__law_part) (sc := defScope s__law_part) (by decide +kernel)) (fun _ _ _ _ _ => pg_name (i := 7) nd rfl (by first | exact Or.inl rfl | exact Or.inr rfl)) (fun _ _ _ _ _ => pts_nil) (fun _ _ _ _ _ => (pe_callTy (show CallR _ (.type "list") (rLo K) from call_list_of) (by rfl) T.blist (by decide +kernel) (pa_cons (pv 7) pa_nil)))) (pe_lst (pa_cons (pe_lst pa_nil) (pa_cons (pe_lst pa_nil) pa_nil)))))
   (pss_cons (ps_for PassesOwn.never rfl (pi_range1 (by rfl) T.brange (pa_cons pe_int pa_nil)) (pg_name (i := 3) nd rfl (by first | exact Or.inl rfl | exact Or.inr rfl))
   (pss_one (ps_asg (pe_slice sl_list (pe_ix ix_list (pv 2) (pv 3) (fun _ _ => rfl)) po_none (po_some (pe_cd D__law_draw hr__law_draw (by rfl) pass0 (pa_cons (pv 0) (pa_cons (pe_op op_add (pe_callB call_len_seq (by rfl) T.blen PySem.boot_len (pa_cons (pe_ix ix_list (pv 2) (pv 3) (fun _ _ => rfl)) pa_nil)) pe_int) pa_nil))))) (pg_sub (pv 2) (pv 3) set_list))))
   (pss_cons (ps_set (i := 4) nd rfl (by first | exact Or.inl rfl | exact Or.inr rfl) (pe_lc (own := [("_law_sort_here", 5)]) (g := gName 5) (tt := tYes) (by rfl) nd (pi_list (pe_ix ix_list (pv 2) pe_int (fun _ _ => rfl))) (blkOk_by (own := [("_law_sort_here", 5)]) (N := n__law_part) (sc := defScope s__law_part) (by decide +kernel)) (fun _ _ _ _ _ => pg_name (i := 5) nd rfl (by first | exact Or.inl rfl | exact Or.inr rfl)) (fun _ _ _ _ _ => pts_nil) (fun _ _ _ _ _ => (pe_ix (show IxR _ (rIxT K) from ix_tup) (pv 5) pe_int (fun _ _ => rfl)))))
   (pss_cons (ps_asg (pe_lc (own := [("_law_row", 6)]) (g := gName 6) (by rfl) nd (pi_list (pe_ix ix_list (pv 2) pe_int (fun _ _ => rfl))) (blkOk_by (own := [("_law_row", 6)]) (N := n__law_part) (sc := defScope s__law_part) (by decide +kernel)) (fun _ _ _ _ _ => pg_name (i := 6) nd rfl (by first | exact Or.inl rfl | exact Or.inr rfl)) (fun _ _ _ _ _ => (pts_one (PW.pt (pw_and (pt_cmpR (show OpR _ _ (rIn K false) from op_in_seq) (pe_ix (show IxR _ (rIxT K) from ix_tup) (pv 6) pe_int (fun _ _ => rfl)) (pv 4) (by rfl)) (pw_and1 (pt_cmpR (show OpR _ _ (rIn K false) from op_in_seq) (pe_ix (show IxR _ (rIxT K) from ix_tup) (pv 6) pe_int (fun _ _ => rfl)) (pv 4) (by rfl))))))) (fun _ _ _ _ _ => (pv 6))) (pg_sub (pv 2) pe_int set_list))
   (pss_cons (ps_asg (pe_lc (own := [("_law_row", 6)]) (g := gName 6) (by rfl) nd (pi_list (pe_ix ix_list (pv 2) pe_int (fun _ _ => rfl))) (blkOk_by (own := [("_law_row", 6)]) (N := n__law_part) (sc := defScope s__law_part) (by decide +kernel)) (fun _ _ _ _ _ => pg_name (i := 6) nd rfl (by first | exact Or.inl rfl | exact Or.inr rfl)) (fun _ _ _ _ _ => (pts_one (pt_cmpR (show OpR _ _ (rIn K false) from op_in_seq) (pe_ix (show IxR _ (rIxT K) from ix_tup) (pv 6) pe_int (fun _ _ => rfl)) (pv 4) (by rfl)))) (fun _ _ _ _ _ => (pv 6))) (pg_sub (pv 2) pe_int set_list))
   (pss_one (ps_ret (pv 2)))))))), ?_⟩
    have hk8 := G.k8
    have hp8 := G.p8
    have hc8 := G.c8
    have ec : cutV a.items none (some 4) = [a.m0, a.m1, a.m2, a.m3].map V.ref := rfl
    refine ⟨_, rfl, _, rfl, a.M, _, rfl, SqL.of M.M, fun l hl => ?_⟩
    have e1 : Ext [] H (upd H l (.lst (cutV a.items none (some 4)))) := Ext.new hl
    have hl1 : (upd H l (.lst (cutV a.items none (some 4)))) l = some (.lst ([a.m0, a.m1, a.m2, a.m3].map V.ref)) := by rw [upd_same, ec]
    generalize upd H l (.lst (cutV a.items none (some 4))) = H1 at e1 hl1 ⊢
    have M1 := M.ext e1 fun _ _ => by simp
    refine ⟨l, rfl, ⟨_, SqL.of hl1⟩, fun R hR => lc_copies hl1 (fun m hm => ?_) hR (by show 4 ≤ 1000; decide) (fun _ => rfl) (fun _ => rfl) fun H2 rs e2 hR2 hrl hrf hrn hcp => ?_⟩
    · simp only [List.mem_cons, List.not_mem_nil, or_false] at hm
      rcases hm with rfl | rfl | rfl | rfl
      · exact ⟨_, M1.r0.choose_spec.1⟩
      · exact ⟨_, M1.r1.choose_spec.1⟩
      · exact ⟨_, M1.r2⟩
      · exact ⟨_, M1.r3.choose_spec.1⟩
    have M2 := M1.ext e2 fun _ _ => by simp
    refine ⟨by show 0 ≤ sizeLine; decide, fun e4 h4 => ⟨by show 0 ≤ sizeLine; decide, fun e5 h5 => ⟨by show 2 ≤ sizeLine; decide, fun l2 hl2 => ?_⟩⟩⟩
    have x4 : Ext [] H2 (upd H2 e4 (.lst [])) := Ext.new h4
    have x5 : Ext [] (upd H2 e4 (.lst [])) (upd (upd H2 e4 (.lst [])) e5 (.lst [])) := Ext.new h5
    have z4 : (upd (upd H2 e4 (.lst [])) e5 (.lst [])) e4 = some (.lst []) := x5.keep _ _ upd_same (by simp)
    have z5 : (upd (upd H2 e4 (.lst [])) e5 (.lst [])) e5 = some (.lst []) := upd_same
    have h45 : e4 ≠ e5 := ne_of_none (upd_same (H := H2)) h5
    have h5' : H2 e5 = none := x4.none h5 (by simp)
    have x25 := x4.trans x5
    generalize upd (upd H2 e4 (.lst [])) e5 (.lst []) = H3 at x25 z4 z5 hl2 ⊢
    have x6 : Ext [] H3 (upd H3 l2 (.lst [.ref e4, .ref e5])) := Ext.new hl2
    have hl2' : (upd H3 l2 (.lst [.ref e4, .ref e5])) l2 = some (.lst [.ref e4, .ref e5]) := upd_same
    generalize upd H3 l2 (.lst [.ref e4, .ref e5]) = H4 at x6 hl2' ⊢
    have x24 := x25.trans x6
    refine ⟨R, l2, _, _, rfl, rfl, x24.keep _ _ hR2 (by simp), hl2', by rw [List.length_map, hrl]; show 4 + 2 ≤ sizeLine; decide, fun P' hP' => ?_⟩
    have x7 : Ext [] H4 (upd H4 P' (.lst (rs.map V.ref ++ [.ref e4, .ref e5]))) := Ext.new hP'
    have hP7 : (upd H4 P' (.lst (rs.map V.ref ++ [.ref e4, .ref e5]))) P' = some (.lst ((rs ++ [e4, e5]).map V.ref)) := by rw [upd_same, List.map_append]; rfl
    generalize upd H4 P' (.lst (rs.map V.ref ++ [.ref e4, .ref e5])) = H5 at x7 hP7 ⊢
    have x27 := x24.trans x7
    have e12 := e1.trans e2
    have hsome : ∀ r ∈ rs, ∃ v, H2 r = some v := fun r hr => by
      obtain ⟨m, hm⟩ := List.getElem?_of_mem hr
      have hml := (List.getElem?_eq_some_iff.mp hm).1
      rw [hrl] at hml
      obtain ⟨xs, h1, h2⟩ := hcp m r _ hm (List.getElem?_eq_getElem hml)
      exact ⟨_, h2⟩
    have hPn : H2 P' = none := x24.none hP' (by simp)
    have hin : ∀ {y : Addr}, H2 y = none → y ∉ rs := fun hy hm => by
      obtain ⟨v, hv⟩ := hsome _ hm
      rw [hy] at hv
      cases hv
    have hP4 : P' ≠ e4 := fun h => by
      have := x6.keep _ _ z4 (by simp)
      rw [← h, hP'] at this
      cases this
    have hP5 : P' ≠ e5 := fun h => by
      have := x6.keep _ _ z5 (by simp)
      rw [← h, hP'] at this
      cases this
    have M7 := M2.ext x27 fun _ _ => by simp
    have j0 : Pa H H5 S L P' e4 e5 rs k t p c := by
      refine ⟨(e12.trans x27).nil, hS.ext (e12.trans x27), hP7, fun y hy => ?_, ?_, hrl, fun i hi => ?_, (x6.trans x7).keep _ _ z4 (by simp), (x6.trans x7).keep _ _ z5 (by simp)⟩
      · rcases List.mem_cons.mp hy with rfl | hy
        · exact e12.none hPn (by simp)
        · rcases List.mem_append.mp hy with hy | hy
          · exact e1.none (hrf y hy).1 (by simp)
          · simp only [List.mem_cons, List.not_mem_nil, or_false] at hy
            rcases hy with rfl | rfl
            · exact e12.none h4 (by simp)
            · exact e12.none h5' (by simp)
      · rw [List.nodup_cons, List.nodup_append, List.mem_append, not_or]
        refine ⟨⟨hin hPn, by simp [hP4, hP5]⟩, hrn, by simp [h45], fun a ha b hb => ?_⟩
        simp only [List.mem_cons, List.not_mem_nil, or_false] at hb
        rcases hb with rfl | rfl
        · exact fun h => hin h4 (by rw [← h]; exact ha)
        · exact fun h => hin h5' (by rw [← h]; exact ha)
      · have hrl4 : rs.length = 4 := hrl
        obtain ⟨z, hz⟩ : ∃ z, rs[i]? = some z := ⟨_, List.getElem?_eq_getElem (by omega)⟩
        refine ⟨z, hz, ?_⟩
        have cp : ∀ m, [a.m0, a.m1, a.m2, a.m3][i]? = some m → isCp H5 z m := fun m hm => (hcp i _ m hz hm).ext x27 (by simp) (by simp)
        match i, hi, cp with
        | 0, _, cp => exact ⟨k, List.Sublist.refl _, (cp _ rfl).row M7.r0⟩
        | 1, _, cp => exact ⟨t, List.Sublist.refl _, (cp _ rfl).row M7.r1⟩
        | 2, _, cp => exact ⟨p, List.Sublist.refl _, (cp _ rfl).lst M7.r2⟩
        | 3, _, cp => exact ⟨c, List.Sublist.refl _, (cp _ rfl).row M7.r3⟩
    clear x7 x6 x5 x4 x24 x25 x27 hP7 hl2' z4 z5 hPn hP4 hP5 M7 h45 h5' hin hsome hR2 hrf hrn hcp e12 e2 M2 hl1 e1 M1
    refine gset ?_
    dsimp only
    refine ⟨(4 : Int), rfl, by decide, by decide, for_range (n := (4 : Int).toNat) (fun i σ' G => ∃ x3 r, σ' = [some (.ref S), some (.ref a.M), some (.ref P'), x3, none, none, none, none] ∧ Pa H G S L P' e4 e5 r k t p c) ⟨none, rs, rfl, j0⟩ ?_ ?_⟩
    · rintro i σ' G1 hi ⟨x3, r, rfl, j⟩
      have hi4 : i < 4 := hi
      refine gset ?_
      dsimp only
      rw [show (0 : Int) + (i : Int) = (i : Int) from Int.zero_add _]
      obtain ⟨z, hz, hRz⟩ := j.h i hi4
      obtain ⟨xs, hxs, hxl⟩ := hRz.lst hk8 ht8 hp8 hc8
      have hza : atI ((r ++ [e4, e5]).map V.ref) (i : Int) = some (.ref z) := atI_nat (by rw [List.getElem?_map, List.getElem?_append_left (by rw [j.l]; exact hi4), hz]; rfl)
      refine ⟨_, rfl, _, rfl, P', _, (i : Int), .ref z, rfl, rfl, SqL.of j.hP, hza, ?_⟩
      refine draw_ex (i := 0) (many := (xs.length : Int) + 1) rfl j.s (by omega) (Int.lt_of_le_of_lt (show (xs.length : Int) + 1 ≤ 9 by omega) (by decide)) (val_int (val_len (val_ixL (val_var rfl) (val_var rfl) (SqL.of j.hP) hza) (SqL.of hxs)) val_c) (fun m G2 m0 m1 eg s2 => ?_)
      have j2 := j.draw hS eg s2
      obtain ⟨n, rfl⟩ := Int.eq_ofNat_of_zero_le m0
      have zS : z ∉ [S] := by simpa using (j.ne hS z (by simp [List.mem_of_getElem? hz])).1
      have hxs2 := eg.keep _ _ hxs zS
      refine ⟨(n : Int), rfl, z, xs, rfl, SqL.of hxs2, fun y hy => ?_⟩
      have hR2 : RowI k t p c (upd G2 y (.lst (cutV xs none (some (n : Int))))) y i := (hRz.ext eg zS).cut hxs2 (by omega) (Ext.new hy) upd_same
      have hyP : P' ≠ y := ne_of_none j2.hP hy
      refine ⟨_, rfl, _, rfl, P', _, (i : Int), i, rfl, rfl, by rw [upd_ne hyP]; exact j2.hP, Evl.ixN_nat (by rw [List.length_map, List.length_append, j.l]; show i < 4 + 2; omega), ?_⟩
      exact ⟨_, _, rfl, j2.put hS hi4 hy (Ext.new hy) hR2⟩
    rintro σ' G1 ⟨x3, r, rfl, j⟩
    obtain ⟨r0, r1, r2, r3, rfl⟩ : ∃ r0 r1 r2 r3, r = [r0, r1, r2, r3] := by
      have := j.l
      match r, this with
      | [r0, r1, r2, r3], _ => exact ⟨_, _, _, _, rfl⟩
    obtain ⟨z, hz, kk, sk, R0⟩ := j.h 0 (by decide)
    cases hz
    obtain ⟨z, hz, tt, st, R1⟩ := j.h 1 (by decide)
    cases hz
    obtain ⟨z, hz, pp, sp, R2⟩ := j.h 2 (by decide)
    cases hz
    obtain ⟨z, hz, cc, sc, R3⟩ := j.h 3 (by decide)
    cases hz
    have hkl := sk.length_le
    have htl := st.length_le
    have hcl := sc.length_le
    dsimp only
    obtain ⟨as0, h0, p0⟩ := id R0
    have hl0 := paired_len p0
    refine ⟨_, rfl, P', _, 0, .ref r0, rfl, rfl, SqL.of j.hP, rfl, r0, rfl, ⟨_, SqL.of h0⟩, fun Q0 hQ0 => lc_heads (K := K) h0 p0 hQ0 (by omega) (fun _ => rfl) (fun _ => rfl) fun G2 g1 hs2 => ?_⟩
    refine gset ?_
    dsimp only
    have j2 := j.draw hS g1.nil (j.s.ext g1)
    have R0' := R0.ext g1 (by simp)
    have R1' := R1.ext g1 (by simp)
    have R2' := g1.keep _ _ R2 (by simp)
    have R3' := R3.ext g1 (by simp)
    obtain ⟨as1, h1, p1⟩ := id R1'
    have hl1 := paired_len p1
    have nQ0 : Q0 ∉ [P'] := by simpa using Ne.symm (ne_of_none j.hP hQ0)
    clear R0 R1 R2 R3 j
    refine ⟨_, rfl, P', _, 1, .ref r1, rfl, rfl, SqL.of j2.hP, rfl, r1, rfl, ⟨_, SqL.of h1⟩, fun Q1 hQ1 => lc_pass (K := K) (pr := fun q => decide (q.1 ∈ kk.map (·.1)) && decide (q.2 ∈ kk.map (·.1))) h1 p1 hQ1 (by omega) (fun _ => rfl) (fun _ => rfl) (fun u q G k e hT hk => ?_) fun G3 bs g2 hbs hbp => ?_⟩
    · have hs := e.keep _ _ hs2 (by simp)
      refine val_inT rfl rfl hT rfl hs _ ?_
      refine ⟨_, rfl, ?_⟩
      refine ifd (fun h => ?_) (fun h => ?_)
      · refine val_inT rfl rfl hT rfl hs _ ?_
        refine ⟨_, rfl, ?_⟩
        rw [decide_eq_true h, Bool.true_and] at hk
        exact hk
      · rw [decide_eq_false h, Bool.false_and] at hk
        exact hk
    have P3 := g2.keep _ _ j2.hP (by simp)
    refine ⟨_, rfl, P', _, 1, 1, rfl, rfl, P3, rfl, ?_⟩
    have hT' : RowAt G3 Q1 (tt.filter fun q => decide (q.1 ∈ kk.map (·.1)) && decide (q.2 ∈ kk.map (·.1))) := ⟨bs, hbs, hbp⟩
    have j3 := j2.put (y := Q1) (i := 1) hS (by decide) hQ1 g2 ⟨_, (List.filter_sublist ..).trans st, hT'⟩
    have g3 : Ext [P'] G3 (upd G3 P' (.lst (([r0, r1, r2, r3] ++ [e4, e5]).map V.ref |>.set 1 (.ref Q1)))) := ext_lst P3
    have nP := (List.nodup_cons.mp j3.nd).1
    have g23 : Ext [P'] G2 (upd G3 P' (.lst (([r0, r1, r2, r3] ++ [e4, e5]).map V.ref |>.set 1 (.ref Q1)))) := g2.nil.trans g3
    have nPo := (List.nodup_cons.mp j2.nd).1
    have ne0 : r0 ∉ [P'] := fun h => nPo (by rw [← List.mem_singleton.mp h]; simp)
    have ne2 : r2 ∉ [P'] := fun h => nPo (by rw [← List.mem_singleton.mp h]; simp)
    have ne3 : r3 ∉ [P'] := fun h => nPo (by rw [← List.mem_singleton.mp h]; simp)
    have neQ : Q1 ∉ [P'] := fun h => nP (by rw [← List.mem_singleton.mp h]; simp)
    have hP4 : (upd G3 P' (.lst (([r0, r1, r2, r3] ++ [e4, e5]).map V.ref |>.set 1 (.ref Q1)))) P' = some (.lst (([r0, Q1, r2, r3] ++ [e4, e5]).map V.ref)) := upd_same
    have hT4 := hT'.ext g3 neQ
    have R04 := R0'.ext g23 ne0
    have R24 := g23.keep _ _ R2' ne2
    have R34 := R3'.ext g23 ne3
    have hs4 := g23.keep _ _ hs2 nQ0
    have j4 : Pa H (upd G3 P' (.lst (([r0, r1, r2, r3] ++ [e4, e5]).map V.ref |>.set 1 (.ref Q1)))) S L P' e4 e5 [r0, Q1, r2, r3] k t p c := j3
    clear j3 hT' R0' R1' R2' R3' hs2 g23 g3 P3 hbs hbp g2 j2 h1 p1 h0 p0
    show tSeq _ _ _ _ _
    generalize upd G3 P' (.lst (([r0, r1, r2, r3] ++ [e4, e5]).map V.ref |>.set 1 (.ref Q1))) = G4 at hP4 hT4 R04 R24 R34 hs4 j4 ⊢
    obtain ⟨as3, h3, p3⟩ := id R34
    have hl3 := paired_len p3
    refine ⟨_, rfl, P', _, 3, .ref r3, rfl, rfl, SqL.of hP4, rfl, r3, rfl, ⟨_, SqL.of h3⟩, fun Q3 hQ3 => lc_pass (K := K) (pr := fun q => decide (q.2 ∈ kk.map (·.1))) h3 p3 hQ3 (by omega) (fun _ => rfl) (fun _ => rfl) (fun u q G k e hT hk => ?_) fun G5 cs g5 hcs hcp' => ?_⟩
    · have hs := e.keep _ _ hs4 (by simp)
      refine val_inT rfl rfl hT rfl hs _ ?_
      exact ⟨_, rfl, hk⟩
    have P5 := g5.keep _ _ hP4 (by simp)
    refine ⟨_, rfl, P', _, 3, 3, rfl, rfl, P5, rfl, ?_⟩
    have hC5 : RowAt G5 Q3 (cc.filter fun q => decide (q.2 ∈ kk.map (·.1))) := ⟨cs, hcs, hcp'⟩
    have j5 : Pa H (upd G5 P' (.lst (([r0, Q1, r2, r3] ++ [e4, e5]).map V.ref |>.set 3 (.ref Q3)))) S L P' e4 e5 [r0, Q1, r2, Q3] k t p c := j4.put (y := Q3) (i := 3) hS (by decide) hQ3 g5 ⟨_, (List.filter_sublist ..).trans sc, hC5⟩
    have g6 : Ext [P'] G5 (upd G5 P' (.lst (([r0, Q1, r2, r3] ++ [e4, e5]).map V.ref |>.set 3 (.ref Q3)))) := ext_lst P5
    have g46 := (g5.nil (ms := [P'])).trans g6
    have nP5 := (List.nodup_cons.mp j5.nd).1
    have neQ3 : Q3 ∉ [P'] := fun h => nP5 (by rw [← List.mem_singleton.mp h]; simp)
    refine ⟨_, rfl, q ⟨P', r0, Q1, r2, Q3, e4, e5⟩ kk (tt.filter fun q => decide (q.1 ∈ kk.map (·.1)) && decide (q.2 ∈ kk.map (·.1))) pp (cc.filter fun q => decide (q.2 ∈ kk.map (·.1))) _ ?_ ?_ j5.f j5.x j5.s ⟨j5.nd, j5.hP, R04.ext g46 ne0, hT4.ext g46 neQ, g46.keep _ _ R24 ne2, hC5.ext g6 neQ3, ⟨[], j5.z4, .nil⟩, j5.z5⟩⟩
    · have hsubc : List.Sublist (cc.filter fun q => decide (q.2 ∈ kk.map (·.1))) c := (List.filter_sublist ..).trans sc
      refine ⟨names_sub G.kn (sk.map _), fun q hq => G.kh q (sk.subset hq), by omega, fun q hq => ?_, names_sub G.pn sp, by have := sp.length_le; omega, names_sub G.cn (hsubc.map _), fun q hq => ?_, by have := hsubc.length_le; omega, by simp⟩
      · have h := (List.mem_filter.mp hq).2
        simp only [Bool.and_eq_true, decide_eq_true_eq] at h
        exact h
      · have h := (List.mem_filter.mp hq).2
        simpa using h
    · have := (List.filter_sublist (p := fun q => decide (q.1 ∈ kk.map (·.1)) && decide (q.2 ∈ kk.map (·.1))) (l := tt)).length_le
      omega
end

end K15
namespace K15
open PySem PySem.Spec PyProof.Rows L2 He Tp ClX LiI

section
variable {P : Program} {w : World} {K : PySem.W.Frag} {mg : Str → Option Value} {base : Heap}
/-- the model between two steps -/
structure Wd (H : Hp) (S L : Addr) (a : Mad) (k t : List (Str × Str)) (p : List Str) (c d : List (Str × Str)) (ms : List V) (fs : List Fk) : Prop where
  s : SrcAt H S L
  M : MdAt H a k t p c d ms
  W : FL H ms fs
  g : ∀ x ∈ a.all, x ≠ S ∧ x ≠ L
  G : GW k t p c d
  k1 : 1 ≤ k.length
  p1 : 1 ≤ p.length
  c1 : 1 ≤ c.length
  dl : d.length ≤ 23
  i : ∀ f ∈ fs, inA (amtD k c d d.length) f
theorem Wd.draw {H H' : Hp} {S L : Addr} {a : Mad} {k t : List (Str × Str)} {p : List Str} {c d : List (Str × Str)} {ms : List V} {fs : List Fk} (j : Wd H S L a k t p c d ms fs) (e : Ext [S] H H') (s : SrcAt H' S L) : Wd H' S L a k t p c d ms fs :=
  ⟨s, j.M.ext e fun y hy => by simpa using (j.g y hy).1, j.W.ext e, j.g, j.G, j.k1, j.p1, j.c1, j.dl, j.i⟩
theorem Wd.grow {H H' : Hp} {S L : Addr} {a : Mad} {k t : List (Str × Str)} {p : List Str} {c d : List (Str × Str)} {ms : List V} {fs : List Fk} (j : Wd H S L a k t p c d ms fs) (e : Ext [] H H') : Wd H' S L a k t p c d ms fs := j.draw e.nil (j.s.ext e)
theorem Wd.keep {H H' : Hp} {ms' : List Addr} {S L : Addr} {a : Mad} {k t : List (Str × Str)} {p : List Str} {c d : List (Str × Str)} {ms : List V} {fs : List Fk} (j : Wd H S L a k t p c d ms fs) (e : Ext ms' H H') (hS : S ∉ ms') (hL : L ∉ ms') (h : ∀ y ∈ a.all, y ∉ ms') : Wd H' S L a k t p c d ms fs :=
  ⟨src_extM j.s e hS hL, j.M.ext e h, j.W.ext e, j.g, j.G, j.k1, j.p1, j.c1, j.dl, j.i⟩
theorem write_of {C : Addr} {H : Hp} {b : Addr} {i : Int} {A : Bk} {k t : List (Str × Str)} {p : List Str} {c d : List (Str × Str)} {fs : List Fk} {ts ds us : List V} {Q : VK} {E : XK} (B : BkI C H b i A k t p c d fs ts ds us) (G : GW k t p c d) (F : Fa k c d fs) (ht : t.length ≤ 8) (hd : d.length ≤ 24)
    (q : ∀ H', Ext [] H H' → Q (.str (textD (rowsD k t p c d fs))) H') : spWrite C [.ref b] H Q E :=
  ⟨b, i, A, k, t, p, c, d, fs, ts, ds, us, rfl, B, by have := G.p8; omega, fun f hf => by
    have h := F.low hd f hf
    cases f with
    | tell x y => exact ⟨(h x (by simp [amF])).2.2, (h y (by simp [amF])).2.2⟩
    | some x => exact (h x (by simp [amF])).2.2, rows_okM G F hd, q⟩
theorem ltext_of {H : Hp} {a : Mad} {k t : List (Str × Str)} {p : List Str} {c d : List (Str × Str)} {ms : List V} {fs : List Fk} {Q : VK} {E : XK} (M : MdAt H a k t p c d ms) (W : FL H ms fs) (G : GW k t p c d) (F : Fa k c d fs) (ht : t.length ≤ 8) (hd : d.length ≤ 24)
    (q : ∀ H', Ext [] H H' → Q (.str (textD (rowsD k t p c d fs))) H') : spLText [.ref a.M] H Q E := by
  have hrow := rows_okM G F hd (t := t)
  have nk : ∀ z ∈ k.map (·.1), z.length ≤ 100 := fun z hz => by have := nm_len (G.kn.nm z hz); omega
  have nc : ∀ z ∈ c.map (·.1), z.length ≤ 100 := fun z hz => by have := nm_len (G.cn.nm z hz); omega
  have np : ∀ z ∈ p, z.length ≤ 100 := fun z hz => by have := nm_len (G.pn.nm z hz); omega
  have hk8 := G.k8
  have hp8 := G.p8
  have hc8 := G.c8
  have hf32 := F.l
  refine ⟨a, k, t, p, c, d, ms, fs, rfl, M, W, ⟨by omega, by omega, by omega, by omega, by omega, by omega⟩, (fun f hf => ?_), (fun q hq => ⟨nk _ (List.mem_map.mpr ⟨q, hq, rfl⟩), ?_⟩), (fun q hq => ⟨nk _ (G.tk q hq).1, nk _ (G.tk q hq).2⟩), np, (fun q hq => ⟨nc _ (List.mem_map.mpr ⟨q, hq, rfl⟩), nk _ (G.ck q hq)⟩), (fun q hq => ⟨nc _ (G.dc q hq).1, np _ (G.dc q hq).2⟩), (fun f hf z hz => (hrow (fwD f) (by rw [rows_rowG]; simp only [List.mem_append]; exact .inr (.inr (.inr (.inr (.inr (List.mem_map.mpr ⟨f, hf, rfl⟩))))))).2 z hz), q⟩
  · have h := F.low hd f hf
    cases f with
    | tell x y => exact ⟨(h x (by simp [amF])).2.2, (h y (by simp [amF])).2.2⟩
    | some x => exact (h x (by simp [amF])).2.2
  · rcases G.kh q hq with h | h | h <;> rw [h] <;> decide +kernel
def spLaw (K : PySem.W.Frag) : Sp := fun vs H Q _ => ∃ (a : Addr) (ns : List Int), vs = [.ref a] ∧ SqL K H a (ns.map V.int) ∧ ns.length ≤ 63 ∧ ∀ H', Q (.bl true) H'
theorem ok_law (T : Txt K mg) (SZ : ∃ es n, KDict K w (ga K "SIZES") es n) {fd : FuncData} (F : FnP K "law" s_law fd) : FnOk P w K mg base CX0 11 (ga K "law") fd ["_law_script"] (spLaw K) := by
  have D__law_source := ok_source (P := P) (w := w) (base := base) T
  have D__law_draw := ok_drawE (P := P) (w := w) (base := base) T
  have D__law_model := ok_model (P := P) (w := w) (base := base) T
  have D__law_build := ok_buildW (P := P) (w := w) (base := base) T
  have D__law_facts := ok_lfacts (P := P) (w := w) (base := base) T
  have D__law_same := ok_sameW (P := P) (w := w) (base := base) T
  have D__law_part := ok_part (P := P) (w := w) (base := base) T
  have D__law_shuffled := ok_shuf (P := P) (w := w) (base := base) T
  have D__law_text := ok_ltext (P := P) (w := w) (base := base) T
  have D_write_book := ok_write_book (P := P) (w := w) (base := base) T
  have D_read_book := ok_read (P := P) (w := w) (base := base) T (ok_has_form T SZ)
  obtain ⟨fd', fd_⟩ := T.fdip
  obtain ⟨fb, fb_⟩ := T.fchange_bound
  obtain ⟨fl, fl_⟩ := T.f__len__
  have Fd := ok_dip (P := P) (w := w) (base := base) T fd_
  have Fb := ok_change_bound (P := P) (w := w) (base := base) T fb_
  have Fl := ok_blen (P := P) (w := w) (base := base) T fl_
  have bd : Binds K fd' ["self", "cloth", "pot"] [] := fd_.bindsN (fun _ _ _ _ _ _ us hl => match us, hl with | [_, _, _], _ => rfl)
  have bb : Binds K fb ["self", "number"] [] := fb_.bindsN (fun _ _ _ _ _ _ us hl => match us, hl with | [_, _], _ => rfl)
  have bl : Binds K fl ["self"] [] := fl_.bindsN (fun _ _ _ _ _ _ us hl => match us, hl with | [_], _ => rfl)
  have ol : OwnLn K (cB K) (ma K (cB K) "__len__") := ⟨T.m__len__.at_, T.m__len__.fn⟩
  refine F.ok sc_law (fun vs H Q E h => ?_) (fun cdv A outer s H vs Q E hr h => ?_)
  · obtain ⟨a, ns, rfl, _⟩ := h
    rfl
  · obtain ⟨sc, ns, rfl, hS, hl, qOk⟩ := h
    have nd := sc_law.nd
    have hu64 := hr.units
    have hr__law_source := hr.mono (show 1 ≤ 10 by decide)
    have hr__law_draw := hr.mono (show 1 ≤ 10 by decide)
    have hr__law_model := hr.mono (show 4 ≤ 10 by decide)
    have hr__law_build := hr.mono (show 9 ≤ 10 by decide)
    have hr__law_facts := hr.mono (show 5 ≤ 10 by decide)
    have hr__law_same := hr.mono (show 7 ≤ 10 by decide)
    have hr__law_part := hr.mono (show 2 ≤ 10 by decide)
    have hr__law_shuffled := hr.mono (show 2 ≤ 10 by decide)
    have hr__law_text := hr.mono (show 2 ≤ 10 by decide)
    have hr_write_book := hr.mono (show 5 ≤ 10 by decide)
    have hr_read_book := hr
    have hrm := hr.mono (show 4 ≤ 10 by decide)
    have hrb := hr.mono (show 7 ≤ 10 by decide)
    have hrl := hr.mono (show 2 ≤ 10 by decide)
    refine ⟨_, PSs.nox (pss_cons (ps_set (i := 1) nd rfl (by first | exact Or.inl rfl | exact Or.inr rfl) (pe_cd D__law_source hr__law_source (by rfl) pass0 (pa_cons (pv 0) pa_nil)))
   (pss_cons (ps_set (i := 2) nd rfl (by first | exact Or.inl rfl | exact Or.inr rfl) (pe_cd D__law_model hr__law_model (by rfl) pass0 (pa_cons (pv 1) (pa_cons pe_int pa_nil))))
   (pss_cons (ps_for PassesOwn.never rfl (pi_range1 (by rfl) T.brange (pa_cons (pe_cd D__law_draw hr__law_draw (by rfl) pass0 (pa_cons (pv 1) (pa_cons pe_int pa_nil))) pa_nil)) (pg_name (i := 3) nd rfl (by first | exact Or.inl rfl | exact Or.inr rfl))
   (pss_cons (ps_set (i := 4) nd rfl (by first | exact Or.inl rfl | exact Or.inr rfl) (pe_ix ix_tup (pe_ix ix_list (pe_ix ix_list (pv 2) pe_int (fun _ _ => rfl)) (pe_cd D__law_draw hr__law_draw (by rfl) pass0 (pa_cons (pv 1) (pa_cons (pe_callB call_len_seq (by rfl) T.blen PySem.boot_len (pa_cons (pe_ix ix_list (pv 2) pe_int (fun _ _ => rfl)) pa_nil)) pa_nil))) (fun _ _ => rfl)) pe_int (fun _ _ => rfl)))
   (pss_one (ps_expr (pe_bm PySem.F.plainAttrs_list PySem.F.slot_list_append PySem.F.type_list_append mt_append (pe_ix ix_list (pv 2) pe_int (fun _ _ => rfl)) (pa_cons (pe_tup (pa_cons (pv 4) (pa_cons (pe_ix ix_tup (pe_ix ix_list (pe_ix ix_list (pv 2) pe_int (fun _ _ => rfl)) (pe_cd D__law_draw hr__law_draw (by rfl) pass0 (pa_cons (pv 1) (pa_cons (pe_callB call_len_seq (by rfl) T.blen PySem.boot_len (pa_cons (pe_ix ix_list (pv 2) pe_int (fun _ _ => rfl)) pa_nil)) pa_nil))) (fun _ _ => rfl)) pe_int (fun _ _ => rfl)) pa_nil))) pa_nil))))))
   (pss_cons (ps_set (i := 5) nd rfl (by first | exact Or.inl rfl | exact Or.inr rfl) (pe_cd D__law_part hr__law_part (by rfl) pass0 (pa_cons (pv 1) (pa_cons (pv 2) pa_nil))))
   (pss_cons (ps_if (PW.pt (pw_or (pt_cmpR op_ne (pe_cd D_write_book hr_write_book (by rfl) pass0 (pa_cons (pe_cd D__law_build hr__law_build (by rfl) pass0 (pa_cons (pv 5) pa_nil)) pa_nil)) (pe_cd D__law_text hr__law_text (by rfl) pass0 (pa_cons (pv 5) pa_nil)) (nomark _)) (pw_or1 (pt_not (pt_val (pe_cd D__law_same hr__law_same (by rfl) pass0 (pa_cons (pe_cd D_read_book hr_read_book (by rfl) pass0 (pa_cons (pe_cd D__law_text hr__law_text (by rfl) pass0 (pa_cons (pv 5) pa_nil)) pa_nil)) (pa_cons (pv 5) pa_nil)))))))) (pss_one (ps_ret pe_bl)) pss_nil)
   (pss_cons (ps_for PassesOwn.never rfl (pi_range1 (by rfl) T.brange (pa_cons (pe_op op_add pe_int (pe_cd D__law_draw hr__law_draw (by rfl) pass0 (pa_cons (pv 1) (pa_cons pe_int pa_nil)))) pa_nil)) (pg_name (i := 3) nd rfl (by first | exact Or.inl rfl | exact Or.inr rfl))
   (pss_one (ps_expr (pe_cd D__law_facts hr__law_facts (by rfl) pass0 (pa_cons (pv 1) (pa_cons (pv 2) pa_nil))))))
   (pss_cons (ps_set (i := 6) nd rfl (by first | exact Or.inl rfl | exact Or.inr rfl) (pe_cd D__law_build hr__law_build (by rfl) pass0 (pa_cons (pv 2) pa_nil)))
   (pss_cons (ps_expr (pe_meth (pv 6) T.cl T.mchange_bound Fb hrb bb .nil passL (pa_cons (pe_op op_add (pe_callB call_len_seq (by rfl) T.blen PySem.boot_len (pa_cons (pe_ix ix_list (pv 2) pe_int (fun _ _ => rfl)) pa_nil)) (pe_cd D__law_draw hr__law_draw (by rfl) pass0 (pa_cons (pv 1) (pa_cons (pe_op op_sub pe_int (pe_callB call_len_seq (by rfl) T.blen PySem.boot_len (pa_cons (pe_ix ix_list (pv 2) pe_int (fun _ _ => rfl)) pa_nil))) pa_nil)))) pa_nil)))
   (pss_cons (ps_set (i := 7) nd rfl (by first | exact Or.inl rfl | exact Or.inr rfl) (pe_cd D_write_book hr_write_book (by rfl) pass0 (pa_cons (pv 6) pa_nil)))
   (pss_cons (ps_if (pt_cmpR op_ne (pv 7) (pe_cd D__law_text hr__law_text (by rfl) pass0 (pa_cons (pv 2) pa_nil)) (nomark _)) (pss_one (ps_ret pe_bl)) pss_nil)
   (pss_cons (ps_set (i := 8) nd rfl (by first | exact Or.inl rfl | exact Or.inr rfl) (pe_cd D__law_shuffled hr__law_shuffled (by rfl) pass0 (pa_cons (pv 1) (pa_cons (pv 2) pa_nil))))
   (pss_cons (ps_setLc (i := 9) (own := [("_law_rows", 12)]) (g := gName 12) (tt := tYes) (by rfl) nd rfl rfl (sw_true rfl rfl rfl (by decide +kernel)) (pi_list (pv 2)) (blkOk_by (own := [("_law_rows", 12)]) (N := n_law) (sc := defScope s_law) (by decide +kernel)) (fun _ _ _ _ _ => pg_name (i := 12) nd rfl (by first | exact Or.inl rfl | exact Or.inr rfl)) (fun _ _ _ _ _ => pts_nil) (fun _ _ _ _ _ => (pe_callTy (show CallR _ (.type "list") (rLo K) from call_list_of) (by rfl) T.blist (by decide +kernel) (pa_cons (pv 12) pa_nil))))
   (pss_cons (ps_expr (pe_bm PySem.F.plainAttrs_list PySem.F.slot_list_append PySem.F.type_list_append mt_append (pe_ix ix_list (pv 9) pe_int (fun _ _ => rfl)) (pa_cons (pe_tup (pa_cons (pe_ix ix_tup (pe_ix ix_list (pe_ix ix_list (pv 2) pe_int (fun _ _ => rfl)) pe_int (fun _ _ => rfl)) pe_int (fun _ _ => rfl)) (pa_cons (pe_ix ix_list (pe_ix ix_list (pv 2) pe_int (fun _ _ => rfl)) pe_int (fun _ _ => rfl)) pa_nil))) pa_nil)))
   (pss_cons (ps_for PassesOwn.never rfl (pi_list (pe_lst (pa_cons (pv 7) (pa_cons (pv 8) pa_nil)))) (pg_name (i := 10) nd rfl (by first | exact Or.inl rfl | exact Or.inr rfl))
   (pss_cons (ps_set (i := 11) nd rfl (by first | exact Or.inl rfl | exact Or.inr rfl) (pe_cd D_read_book hr_read_book (by rfl) pass0 (pa_cons (pv 10) pa_nil)))
   (pss_cons (ps_if (PW.pt (pw_or (pt_not (pt_val (pe_callB (C8.call_isC (insB_ok T.cl T.iBook)) (by rfl) T.bisinstance (by decide +kernel) (pa_cons (pv 11) (pa_cons (pe_glob (v := .ref (ga K "Book")) (by rfl) T.gBook rfl) pa_nil))))) (pw_or (pt_not (pt_val (pe_cd D__law_same hr__law_same (by rfl) pass0 (pa_cons (pv 11) (pa_cons (pv 2) pa_nil))))) (pw_or1 (pt_cmpR op_ne (pe_cd D_write_book hr_write_book (by rfl) pass0 (pa_cons (pv 11) pa_nil)) (pv 7) (nomark _)))))) (pss_one (ps_ret pe_bl)) pss_nil)
   (pss_cons (ps_expr (pe_meth (pv 11) T.cl T.mdip Fd hrm bd .nil passL (pa_cons (pe_ix ix_tup (pe_ix ix_list (pe_ix ix_list (pv 2) pe_int (fun _ _ => rfl)) pe_int (fun _ _ => rfl)) pe_int (fun _ _ => rfl)) (pa_cons (pe_ix ix_list (pe_ix ix_list (pv 2) pe_int (fun _ _ => rfl)) pe_int (fun _ _ => rfl)) pa_nil))))
   (pss_one (ps_if (PW.pt (pw_or (pt_cmpR op_ne (pe_callB (call_lenO ol Fl hrl bl pass0) (by rfl) T.blen PySem.boot_len (pa_cons (pv 11) pa_nil)) (pe_op op_add (pe_callB call_len_seq (by rfl) T.blen PySem.boot_len (pa_cons (pe_ix ix_list (pv 2) pe_int (fun _ _ => rfl)) pa_nil)) pe_int) (nomark _)) (pw_or (pt_cmpR op_ne (pe_cd D_write_book hr_write_book (by rfl) pass0 (pa_cons (pv 6) pa_nil)) (pv 7) (nomark _)) (pw_or1 (pt_cmpR op_ne (pe_cd D_write_book hr_write_book (by rfl) pass0 (pa_cons (pv 11) pa_nil)) (pe_cd D__law_text hr__law_text (by rfl) pass0 (pa_cons (pv 9) pa_nil)) (nomark _)))))) (pss_one (ps_ret pe_bl)) pss_nil))))))
   (pss_one (ps_ret (pe_and (pe_cmpR op_eq (pe_cd D_write_book hr_write_book (by rfl) pass0 (pa_cons (pe_cd D_read_book hr_read_book (by rfl) pass0 (pa_cons pe_str pa_nil)) pa_nil)) pe_str (nomark _)) (pe_one (pe_cd D__law_same hr__law_same (by rfl) pass0 (pa_cons (pe_cd D_read_book hr_read_book (by rfl) pass0 (pa_cons (pv 8) pa_nil)) (pa_cons (pv 2) pa_nil))))))))))))))))))))), ?_⟩
    refine ⟨_, rfl, sc, ns, rfl, hS, hl, fun S L H1 hSn hLn e1 S1 => ?_⟩
    refine gset ?_
    refine ⟨_, rfl, S, L, 23, rfl, by decide, S1, fun a k t p c d H2 G hnew e2 S2 M => ?_⟩
    refine gset ?_
    try dsimp only
    have gM : ∀ x ∈ a.all, x ≠ S ∧ x ≠ L := fun x hx => src_ne_new S1 (hnew x hx)
    have hdm := G.dm
    have ht3 := G.t3
    have hc2 := G.c2
    have W2 : Wd H2 S L a k t p c d [] [] := ⟨S2, M, FL.nil, gM, GX.gw G.gx, G.k1, G.p1, by omega, by omega, by simp⟩
    clear M S2 e2 hnew S1 e1 hSn hLn G
    -- more thirsts
    refine draw_ex (i := 1) rfl W2.s (by decide) (by decide) val_c (fun nt H3 t0 t1 e3 s3 => ?_)
    have W3 := W2.draw e3 s3
    refine ⟨nt, rfl, by omega, by omega, for_range (n := nt.toNat) (fun i σ' H' => ∃ t x3 x4, σ' = [some (.ref sc), some (.ref S), some (.ref a.M), x3, x4, none, none, none, none, none, none, none, none] ∧ Wd H' S L a k t p c d [] [] ∧ t.length ≤ 3 + i) ⟨t, _, _, rfl, W3, by omega⟩ ?_ ?_⟩
    · rintro i σ' H' hi ⟨t, x3, x4, rfl, m, ht⟩
      have hk8 := m.G.k8
      refine gset ?_
      try dsimp only
      obtain ⟨xs0, hx0, hx0l⟩ := row_len m.M.r0
      have hk1 := m.k1
      refine ⟨_, rfl, a.M, _, 0, .ref a.m0, rfl, rfl, SqL.of m.M.M, rfl, ?_⟩
      refine draw_ex (i := 1) (many := (xs0.length : Int)) rfl m.s (by omega) (Int.lt_of_le_of_lt (show (xs0.length : Int) ≤ 8 by omega) (by decide)) (val_len (val_ixL (val_var rfl) val_c (SqL.of m.M.M) rfl) (SqL.of hx0)) (fun n H6 n0 n1 e6 s6 => ?_)
      have m6 := m.draw e6 s6
      obtain ⟨xs1, t1, q1, p1, p2, p3, p4, p5⟩ := row_pick (K := K) m6.M.r0 n0 (by omega)
      refine ⟨_, _, n, _, rfl, rfl, SqL.of p1, p2, t1, _, 0, _, rfl, rfl, .inl (.inl p4), rfl, ?_⟩
      refine gset ?_
      try dsimp only
      obtain ⟨xt, hxt, hxtl⟩ := row_len m6.M.r1
      refine ⟨_, rfl, a.M, _, 1, .ref a.m1, rfl, rfl, SqL.of m6.M.M, rfl, .inl ⟨rfl, _, SqL.of hxt⟩, _, rfl, _, rfl, a.M, _, 0, .ref a.m0, rfl, rfl, SqL.of m6.M.M, rfl, ?_⟩
      refine draw_ex (i := 1) (many := (xs1.length : Int)) rfl m6.s (by omega) (Int.lt_of_le_of_lt (show (xs1.length : Int) ≤ 8 by omega) (by decide)) (val_len (val_ixL (val_var rfl) val_c (SqL.of m6.M.M) rfl) (SqL.of p1)) (fun n' H7 n0' n1' e7 s7 => ?_)
      have m7 := m6.draw e7 s7
      obtain ⟨xs2, t2, q2, r1, r2, r3, r4, r5⟩ := row_pick (K := K) m7.M.r0 n0' (by omega)
      have hxt7 := e7.keep _ _ hxt (by simpa using (m6.g a.m1 (by simp)).1)
      refine ⟨_, _, n', _, rfl, rfl, SqL.of r1, r2, t2, _, 0, _, rfl, rfl, .inl (.inl r4), rfl, by show 2 ≤ sizeLine; decide, fun u hu => ⟨a.m1, xt, _, rfl, rfl, (by rw [upd_ne (ne_of_none hxt7 hu)]; exact hxt7), Evl.sz_lt (by omega), t ++ [(q1.1, q2.1)], _, _, rfl, ?_, by rw [List.length_append]; show t.length + 1 ≤ 3 + (i + 1); omega⟩⟩
      have hu7 : H7 u = none := hu
      have n1 : Ext [] H7 (upd H7 u (.tup [.str q1.1, .str q2.1])) := Ext.new hu
      have n2 : Ext [a.m1] (upd H7 u (.tup [.str q1.1, .str q2.1])) (upd (upd H7 u (.tup [.str q1.1, .str q2.1])) a.m1 (.lst (xt ++ [.ref u]))) := ext_lst (n1.keep _ _ hxt7 (by simp))
      have hg1 := m7.g a.m1 (by simp)
      refine ⟨src_extM (m7.s.ext n1) n2 (by simpa using Ne.symm hg1.1) (by simpa using Ne.symm hg1.2), m7.M.push1 hxt7 hu, (m7.W.ext n1).ext n2, m7.g, ⟨m7.G.kn, m7.G.kh, m7.G.k8, fun q hq => ?_, m7.G.pn, m7.G.p8, m7.G.cn, m7.G.ck, m7.G.c8, m7.G.dc⟩, m7.k1, m7.p1, m7.c1, m7.dl, m7.i⟩
      rcases List.mem_append.mp hq with h | h
      · exact m7.G.tk q h
      · simp at h
        subst h
        exact ⟨List.mem_map.mpr ⟨q1, p3, rfl⟩, List.mem_map.mpr ⟨q2, r3, rfl⟩⟩
    rintro σ' H4 ⟨t, x3, x4, rfl, W4, ht⟩
    have ht8 : t.length ≤ 8 := by omega
    clear W3 s3 e3 W2
    try dsimp only
    refine ⟨_, rfl, _, rfl, S, L, a, k, t, p, c, d, [], rfl, W4.s, W4.M, W4.G, ht8, fun a' k' t' p' c' H5 G' ht' f' e5 s5 M' => ?_⟩
    refine gset ?_
    try dsimp only
    have W5 := W4.draw e5 s5
    clear W4 e5 s5 f'
    have F0 : Fa k' c' [] [] := ⟨by simp, by simp⟩
    obtain ⟨gs0, Sg0⟩ := Sh.told (fs := []) G'.tk G'.ck G'.dc (by simp)
    have hg0 : gs0.length = totG k' t' p' c' [] [] := by rw [← Sg0.len, rows_len]
    have MM : ∀ {X : Hp}, Ext [] H5 X → MdAt X a' k' t' p' c' [] [] := fun e => M'.ext e fun _ _ => by simp
    refine ⟨_, rfl, a', k', t', p', c', [], [], [], rfl, ht', by simp, G', M', FL.nil, by simp, by simp, fun b A ts ds us H6 e6 f6 B6 => ?_⟩
    try dsimp only [tNil, List.nil_append, List.cons_append, List.append_nil]
    refine write_of B6 G' F0 ht' (by simp) fun H7 e7 => ?_
    refine ⟨_, rfl, ?_⟩
    try dsimp only [tNil, List.nil_append, List.cons_append, List.append_nil]
    refine ltext_of (MM (e6.trans e7)) FL.nil G' F0 ht' (by simp) fun H8 e8 => ?_
    refine ⟨rfl, _, rfl, ?_⟩
    refine ifb (fun h => absurd h (by simp)) (fun _ => ?_)
    have e58 := (e6.trans e7).trans e8
    refine ⟨_, rfl, ?_⟩
    try dsimp only [tNil, List.nil_append, List.cons_append, List.append_nil]
    refine ltext_of (MM e58) FL.nil G' F0 ht' (by simp) fun H9 e9 => ?_
    refine read_of ⟨k', t', p', c', [], [], gs0, _, rfl, Sg0, hg0, G', F0, ht', by simp, fun b2 A2 ts2 ds2 us2 H10 e10 f10 B10 => ?_⟩
    have e5X := (e58.trans e9).trans e10
    refine ⟨_, rfl, b2, a', A2, k', t', p', c', [], [], ts2, ds2, us2, [], rfl, ⟨MM e5X, FL.nil, B10, G'⟩, by simp, by omega, by simp, fun H11 e11 => ⟨_, rfl, ?_⟩⟩
    refine iteF ?_
    try unfold tNext
    try dsimp only
    have W11 := W5.grow (e5X.trans e11)
    clear e11 e5X B10 f10 e10 e9 e58 e8 e7 e6 B6 f6 MM M' W5
    -- facts
    refine draw_ex (i := 1) rfl W11.s (by decide) (by decide) val_c (fun nf H12 f0 f1 e12 s12 => ?_)
    have W12 := W11.draw e12 s12
    clear W11 e12 s12
    refine ⟨1, nf, rfl, rfl, 1 + nf, rfl, by omega, by omega, for_range (n := (1 + nf).toNat) (fun i σ' H' => ∃ x3 ms fs, σ' = [some (.ref sc), some (.ref S), some (.ref a.M), x3, x4, some (.ref a'.M), none, none, none, none, none, none, none] ∧ Wd H' S L a k t p c d ms fs ∧ fs.length ≤ 3 * i) ⟨_, [], [], rfl, W12, by simp⟩ ?_ ?_⟩
    · rintro i σ' H' hi ⟨x3, ms, fs, rfl, m, hfl⟩
      have hd23 := m.dl
      refine gset ?_
      try dsimp only
      refine ⟨_, rfl, _, rfl, S, L, a, k, t, p, c, d, ms, fs, rfl, m.s, m.M, m.W, m.G.kept (by omega), by omega, m.i, m.g, by omega, fun H3 ms3 fs3 e3 S3 M3 W3 i3 l3 => ?_⟩
      exact ⟨_, ms3, fs3, rfl, ⟨S3, M3, W3, m.g, m.G, m.k1, m.p1, m.c1, m.dl, i3⟩, by omega⟩
    rintro σ' H13 ⟨x3, ms, fs, rfl, W13, hfl⟩
    clear W12
    try dsimp only
    have hd23 := W13.dl
    have hf9 : fs.length ≤ 9 := by omega
    have Ff : Fa k c d fs := ⟨W13.i, by omega⟩
    have G := W13.G
    have hk8 := G.k8
    have hp8 := G.p8
    have hc8 := G.c8
    refine ⟨_, rfl, a, k, t, p, c, d, ms, fs, rfl, ht8, by omega, G, W13.M, W13.W, W13.i, by omega, fun b A ts ds us H14 e14 f14 B14 => ?_⟩
    refine gset ?_
    try dsimp only
    have W14 := W13.grow e14
    have bS : ∀ y ∈ A.all b, y ≠ S ∧ y ≠ L ∧ y ∉ a.all := fun y hy => by
      have h := f14 y hy
      have h2 := src_ne_new W13.s h
      exact ⟨h2.1, h2.2, fun hm => W13.M.new h y hm rfl⟩
    clear e14 f14 W13
    obtain ⟨xs4, hx4, hx4l⟩ := row_len W14.M.r4
    have hdl := B14.D.len
    refine ⟨_, rfl, b, A.dx, _, rfl, B14.B.ob, fsB_no2 (.inr (.inr (.inr (.inr (.inr (.inl rfl)))))), _, rfl, a.M, _, 4, .ref a.m4, rfl, rfl, SqL.of W14.M.M, rfl, a.m4, xs4, rfl, .inl (SqL.of hx4), ?_⟩
    refine draw_ex (i := 1) (many := 25 - (xs4.length : Int)) rfl W14.s (by omega) (Int.lt_of_le_of_lt (show 25 - (xs4.length : Int) ≤ 25 by omega) (by decide)) (val_int val_c (val_len (val_ixL (val_var rfl) val_c (SqL.of W14.M.M) (show atI a.items 4 = some (.ref a.m4) from rfl)) (SqL.of hx4))) (fun m H15 m0 m1 e15 s15 => ?_)
    have W15 := W14.draw e15 s15
    have B15 := B14.extM e15 fun y hy => by simpa using (bS y hy).1
    refine ⟨_, _, rfl, rfl, ?_⟩
    refine ⟨b, .int ((xs4.length : Int) + m), 24, A, _, _, _, _, _, _, rfl, .int _, B15.B, (fun hx => absurd (show (ds.length : Int) ≤ (xs4.length : Int) + m ∧ (xs4.length : Int) + m ≤ 24 from ⟨by omega, by omega⟩) hx), fun j hj h1 h2 H16 e16 B16 => ?_⟩
    cases hj
    have hbb : b ∈ A.all b := by simp
    have W16 := W15.keep e16 (by simpa using Ne.symm (bS b hbb).1) (by simpa using Ne.symm (bS b hbb).2.1) fun y hy h => (bS b hbb).2.2 (by rw [← List.mem_singleton.mp h]; exact hy)
    have B17 : BkI (cB K) H16 b ((xs4.length : Int) + m) A k t p c d fs ts ds us := ⟨B16, B15.T.ext e16, B15.D.ext e16, B15.F.ext e16, B15.G, B15.nl, B15.dl, B15.fl, B15.tl, B15.fo⟩
    clear B16 e16 B15 W15 e15 s15 B14 W14
    generalize (xs4.length : Int) + m = bd at B17
    refine ⟨_, rfl, ?_⟩
    try dsimp only [tNil, List.nil_append, List.cons_append, List.append_nil]
    refine write_of B17 G Ff ht8 (by omega) fun H17 e17 => ?_
    refine gset ?_
    try dsimp only
    have W17 := W16.grow e17
    have B18 := B17.ext e17
    clear W16 B17 e17
    refine ⟨_, rfl, _, rfl, ?_⟩
    try dsimp only [tNil, List.nil_append, List.cons_append, List.append_nil]
    refine ltext_of W17.M W17.W G Ff ht8 (by omega) fun H18 e18 => ?_
    refine ⟨rfl, _, rfl, ?_⟩
    refine ifb (fun h => absurd h (by simp)) (fun _ => ?_)
    try unfold tNext
    try dsimp only
    have W18 := W17.grow e18
    have B19 := B18.ext e18
    clear W17 B18 e18
    -- the lines shuffled
    refine ⟨_, rfl, _, rfl, S, L, a, k, t, p, c, d, ms, fs, rfl, W18.s, W18.M, W18.W, G, Ff, ht8, by omega, W18.g, fun gs2 rows2 H19 Sg2 hg2 e19 s19 => ?_⟩
    refine gset ?_
    try dsimp only
    have W19 := W18.draw e19 s19
    have B20 := B19.extM e19 fun y hy => by simpa using (bS y hy).1
    clear W18 B19 e19 s19
    -- one dip more
    refine sq_asg ?_
    refine cp_six (i := 12) (val_var rfl) W19.M (fun _ => rfl) (fun _ => rfl) fun a2 H20 e20 f20 M20 => ?_
    refine gset ?_
    try dsimp only
    have W20 := W19.grow e20
    have B21 := B20.ext e20
    have bA2 : ∀ y ∈ A.all b, y ∉ a2.all := fun y hy hm => by
      obtain ⟨v, hv⟩ := B20.B.some y hy
      rw [f20 y hm] at hv
      cases hv
    have aA2 : ∀ y ∈ a.all, y ∉ a2.all := fun y hy hm => W19.M.new (f20 y hm) y hy rfl
    have sA2 : ∀ y ∈ a2.all, y ≠ S ∧ y ≠ L := fun y hy => src_ne_new W19.s (f20 y hy)
    clear W19 B20 e20 f20
    obtain ⟨xs3, u0, q0, h3, h30, hq0, hT0, hx3l⟩ := row_pick (K := K) W20.M.r3 (n := 0) (by decide) (by have := W20.c1; omega)
    obtain ⟨p0, hp0⟩ : ∃ p0, p[0]? = some p0 := ⟨_, List.getElem?_eq_getElem (by have := W20.p1; omega)⟩
    have hp0' : atI (p.map V.str) 0 = some (.str p0) := atI_nat (show (p.map V.str)[0]? = some (.str p0) from by rw [List.getElem?_map, hp0]; rfl)
    obtain ⟨ys4, hy4, hy4l⟩ := row_len M20.r4
    refine ⟨_, rfl, a2.M, _, 4, .ref a2.m4, rfl, rfl, SqL.of M20.M, rfl, .inl ⟨rfl, _, SqL.of hy4⟩, _, rfl, a.M, _, 3, .ref a.m3, rfl, rfl, SqL.of W20.M.M, rfl, a.m3, xs3, 0, .ref u0, rfl, rfl, SqL.of h3, h30, u0, _, 0, .str q0.1, rfl, rfl, .inl (.inl hT0), rfl, _, rfl, a.M, _, 2, .ref a.m2, rfl, rfl, SqL.of W20.M.M, rfl, a.m2, p.map V.str, 0, .str p0, rfl, rfl, SqL.of W20.M.r2, hp0', by show 2 ≤ sizeLine; decide, fun u hu => ⟨a2.m4, ys4, _, rfl, rfl, (by rw [upd_ne (ne_of_none hy4 hu)]; exact hy4), Evl.sz_lt (by omega), ?_⟩⟩
    have hq0c := hq0
    have hp0m := List.mem_of_getElem? hp0
    have n1 : Ext [] H20 (upd H20 u (.tup [.str q0.1, .str p0])) := Ext.new hu
    have n2 : Ext [a2.m4] (upd H20 u (.tup [.str q0.1, .str p0])) (upd (upd H20 u (.tup [.str q0.1, .str p0])) a2.m4 (.lst (ys4 ++ [.ref u]))) := ext_lst (n1.keep _ _ hy4 (by simp))
    have M21 : MdAt (upd (upd H20 u (.tup [.str q0.1, .str p0])) a2.m4 (.lst (ys4 ++ [.ref u]))) a2 k t p c (d ++ [(q0.1, p0)]) ms := M20.push4 hy4 hu
    have m4m : a2.m4 ∈ a2.all := by simp
    have W21 := (W20.grow n1).keep n2 (by simpa using Ne.symm (sA2 _ m4m).1) (by simpa using Ne.symm (sA2 _ m4m).2) fun y hy h => aA2 y hy (by rw [List.mem_singleton.mp h]; exact m4m)
    have B22 := (B21.ext n1).extM n2 fun y hy h => bA2 y hy (by rw [List.mem_singleton.mp h]; exact m4m)
    have h3' := n2.keep _ _ (n1.keep _ _ h3 (by simp)) fun h => aA2 a.m3 (by simp) (by rw [List.mem_singleton.mp h]; exact m4m)
    have hT' := n2.tups _ _ (n1.tups _ _ hT0)
    clear n2 n1 hT0 h3 B21 W20 M20 hy4 hu m4m bS
    generalize upd (upd H20 u (.tup [.str q0.1, .str p0])) a2.m4 (.lst (ys4 ++ [.ref u])) = H21 at M21 W21 B22 h3' hT' ⊢
    try dsimp only
    have hqc : q0.1 ∈ c.map (·.1) := List.mem_map.mpr ⟨q0, hq0c, rfl⟩
    have G2 : GW k t p c (d ++ [(q0.1, p0)]) := ⟨G.kn, G.kh, G.k8, G.tk, G.pn, G.p8, G.cn, G.ck, G.c8, fun q hq => by
      rcases List.mem_append.mp hq with h | h
      · exact G.dc q h
      · rw [List.mem_singleton.mp h]
        exact ⟨hqc, hp0m⟩⟩
    have F2 : Fa k c (d ++ [(q0.1, p0)]) fs := ⟨fun f hf => (Ff.i f hf).more amtD_more, Ff.l⟩
    have hd24 : (d ++ [(q0.1, p0)]).length ≤ 24 := by rw [List.length_append, List.length_singleton]; omega
    obtain ⟨gs1, Sg1⟩ := Sh.told (fs := fs) G.tk G.ck G.dc fun f hf q hq => (Ff.low (by omega) f hf q hq).2.1
    have hg1 : gs1.length = totG k t p c d fs := by rw [← Sg1.len, rows_len]
    refine ⟨_, rfl, _, rfl, by show 2 ≤ sizeLine; decide, fun l hl => ?_⟩
    have e22 : Ext [] H21 (upd H21 l (.lst [.str (textD (rowsD k t p c d fs)), .str (textD rows2)])) := Ext.new hl
    have hl22 : (upd H21 l (.lst [.str (textD (rowsD k t p c d fs)), .str (textD rows2)])) l = some (.lst [.str (textD (rowsD k t p c d fs)), .str (textD rows2)]) := upd_same
    have W22 := W21.grow e22
    have B23 := B22.ext e22
    have M22 := M21.ext e22 fun _ _ => by simp
    have h3b := e22.keep _ _ h3' (by simp)
    have hTb := e22.tups _ _ hT'
    clear W21 B22 M21 h3' hT'
    generalize upd H21 l (.lst [.str (textD (rowsD k t p c d fs)), .str (textD rows2)]) = H22 at e22 hl22 W22 B23 M22 h3b hTb ⊢
    refine ⟨l, rfl, ⟨_, SqL.of hl22⟩, for_list (xs := [.str (textD (rowsD k t p c d fs)), .str (textD rows2)]) (fun i σ' X => ∃ x10 x11, σ' = [some (.ref sc), some (.ref S), some (.ref a.M), x3, x4, some (.ref a'.M), some (.ref b), some (.str (textD (rowsD k t p c d fs))), some (.str (textD rows2)), some (.ref a2.M), x10, x11, none] ∧ Ext [] H22 X) ⟨none, none, rfl, Ext.refl⟩ ?_ ?_ ?_⟩
    · rintro i σ' X _ ⟨_, _, _, e⟩
      exact SqL.of (e.keep _ _ hl22 (by simp))
    · rintro i v σ' X hv ⟨x10, x11, rfl, e⟩
      obtain ⟨gs, rows, rfl, Sg, hg⟩ : ∃ gs rows, v = .str (textD rows) ∧ Sh k t p c d fs gs rows ∧ gs.length = totG k t p c d fs := by
        have hi := (List.getElem?_eq_some_iff.mp hv).1
        match i, hi, hv with
        | 0, _, hv =>
          cases hv
          exact ⟨gs1, _, rfl, Sg1, hg1⟩
        | 1, _, hv =>
          cases hv
          exact ⟨gs2, rows2, rfl, Sg2, hg2⟩
      refine gset ?_
      try dsimp only
      refine ⟨_, rfl, ?_⟩
      try dsimp only [tNil, List.nil_append, List.cons_append, List.append_nil]
      refine read_of ⟨k, t, p, c, d, fs, gs, rows, rfl, Sg, hg, G, Ff, ht8, by omega, fun b2 A2 ts2 ds2 us2 X3 e3 f3 B3 => ?_⟩
      refine gset ?_
      try dsimp only
      refine ⟨_, rfl, b2, A2.dx, _, rfl, B3.B.ob, _, rfl, ?_⟩
      refine iteF ?_
      have e03 := e.trans e3
      refine ⟨_, rfl, _, rfl, b2, a, A2, k, t, p, c, d, fs, ts2, ds2, us2, ms, rfl, ⟨W22.M.ext e03 fun _ _ => by simp, W22.W.ext e03, B3, G⟩, by omega, by omega, by omega, fun X4 e4 => ⟨_, rfl, iteF ?_⟩⟩
      have B4 := B3.ext e4
      have e04 := e03.trans e4
      refine ⟨_, rfl, ?_⟩
      try dsimp only [tNil, List.nil_append, List.cons_append, List.append_nil]
      refine write_of B4 G Ff ht8 (by omega) fun X5 e5 => ?_
      refine ⟨_, rfl, rfl, _, rfl, ?_⟩
      refine ifb (fun h => absurd h (by simp)) (fun _ => ?_)
      try unfold tNext
      try dsimp only
      have B5 := B4.ext e5
      have e05 := e04.trans e5
      have W5 := W22.grow e05
      have h35 := e05.keep _ _ h3b (by simp)
      have hT5 := e05.tups _ _ hTb
      have hd2 := B5.D.len
      have hno : refDip (c.map tv) p ds2.length 24 (.str q0.1) (.str p0) = none := by
        have hk1 : knownK (c.map tv) (.str q0.1) = true := decide_eq_true (mem_tv.mpr hqc)
        have hk2 : knownP p (.str p0) = true := decide_eq_true hp0m
        rw [refDip_3 hk1 hk2, if_neg (by omega)]
      have hb2 : H22 b2 = none := e.none (f3 b2 (by simp)) (by simp)
      refine ⟨_, rfl, b2, A2.dx, _, rfl, B5.B.ob, fsB_no (.inr (.inr (.inr (.inr (.inr (.inr (.inl rfl))))))), _, rfl, a.M, _, 3, .ref a.m3, rfl, rfl, SqL.of W5.M.M, rfl, a.m3, xs3, 0, .ref u0, rfl, rfl, SqL.of h35, h30, u0, _, 0, .str q0.1, rfl, rfl, .inl (.inl hT5), rfl, _, rfl, a.M, _, 2, .ref a.m2, rfl, rfl, SqL.of W5.M.M, rfl, a.m2, p.map V.str, 0, .str p0, rfl, rfl, SqL.of W5.M.r2, hp0', ?_⟩
      refine ⟨b2, .str q0.1, .str p0, 24, A2, _, _, _, _, _, _, rfl, .str (by have := nm_len (G.cn.nm _ hqc); omega), fun _ _ => .str (by have := nm_len (G.pn.nm _ hp0m); omega), B5.B, by omega, by omega, (fun c t hc => by rw [hno] at hc; cases hc), fun _ X6 w' l' e6 hw hl' hT6 B6 => ?_⟩
      have B7 : BkI (cB K) X6 b2 24 { A2 with ld := l' } k t p c (d ++ [(q0.1, p0)]) fs ts2 (ds2 ++ [.ref w']) us2 := BkI.gw G2 hd24 ht8 (by omega) (fun f hf => (Ff.i f hf).ok fun q hq => okS_wd (amtD_word _ _ hq)) B6 (B5.T.ext e6) ((B5.D.ext e6).snoc hT6) (B5.F.ext e6)
      have e06 := e05.over e6 hb2
      have W6 := W22.grow e06
      have Bb := B23.ext e06
      have M6 := M22.ext e06 fun _ _ => by simp
      obtain ⟨xd, hxd, hxdl⟩ := row_len W6.M.r4
      clear B6 e6 hT6 hw B5 W5 h35 hT5 B4 e5 e4 e3 e04 e05 e03
      try dsimp only
      refine ⟨_, rfl, b2, A2.dx, _, rfl, B7.B.ob, b2, 24, _, _, _, _, _, _, _, rfl, B7.B, ((ds2 ++ [V.ref w']).length : Int), rfl, by omega, (by rw [List.length_append, List.length_singleton]; omega), _, rfl, a.M, _, 4, .ref a.m4, rfl, rfl, SqL.of W6.M.M, rfl, a.m4, xd, rfl, .inl (SqL.of hxd), _, _, rfl, rfl, rfl, _, rfl, ?_⟩
      refine ifb (fun h => absurd h ?_) (fun _ => ?_)
      · show ¬ ((!decide (V.int ((ds2 ++ [V.ref w']).length : Int) = V.int ((xd.length : Int) + 1))) = true)
        rw [show ((ds2 ++ [V.ref w']).length : Int) = (xd.length : Int) + 1 from by rw [List.length_append, List.length_singleton]; omega]
        simp
      refine ⟨_, rfl, ?_⟩
      try dsimp only [tNil, List.nil_append, List.cons_append, List.append_nil]
      refine write_of Bb G Ff ht8 (by omega) fun X7 e7 => ?_
      refine ⟨_, rfl, rfl, _, rfl, ?_⟩
      refine ifb (fun h => absurd h (by simp)) (fun _ => ?_)
      refine ⟨_, rfl, ?_⟩
      try dsimp only [tNil, List.nil_append, List.cons_append, List.append_nil]
      refine write_of (B7.ext e7) G2 F2 ht8 hd24 fun X8 e8 => ?_
      have e78 := e7.trans e8
      refine ⟨_, rfl, ?_⟩
      try dsimp only [tNil, List.nil_append, List.cons_append, List.append_nil]
      refine ltext_of (M6.ext e78 fun _ _ => by simp) (W6.W.ext e78) G2 F2 ht8 hd24 fun X9 e9 => ?_
      refine ⟨rfl, _, rfl, ?_⟩
      refine ifb (fun h => absurd h (by simp)) (fun _ => ?_)
      try unfold tNext
      exact ⟨_, _, rfl, (e06.trans e78).trans e9⟩
    rintro σ' X ⟨x10, x11, rfl, e⟩
    try dsimp only
    have G0 : GW [] [] [] [] [] := ⟨⟨by simp, by simp, by simp⟩, by simp, by simp, by simp, ⟨by simp, by simp, by simp⟩, by simp, ⟨by simp, by simp, by simp⟩, by simp, by simp, by simp⟩
    dsimp only [tRet, tAndV, tOp, tCall, tCons, tC, tNil, List.nil_append, List.cons_append, List.append_nil]
    refine read_of ⟨[], [], [], [], [], [], [], [], rfl, .nil, rfl, G0, ⟨by simp, by simp⟩, by simp, by simp, fun b3 A3 ts3 ds3 us3 X3 e3 f3 B3 => ?_⟩
    try dsimp only [tNil, List.nil_append, List.cons_append, List.append_nil]
    refine write_of B3 G0 ⟨by simp, by simp⟩ (by simp) (by simp) fun X4 e4 => ?_
    refine ⟨rfl, _, rfl, ?_⟩
    rw [show decide (V.str (textD (rowsD [] [] [] [] [] [])) = V.str "") = true from decide_eq_true rfl]
    refine iteT ?_
    refine ⟨_, rfl, ?_⟩
    try dsimp only [tNil, List.nil_append, List.cons_append, List.append_nil]
    have e04 := (e.trans e3).trans e4
    refine read_of ⟨k, t, p, c, d, fs, gs2, rows2, rfl, Sg2, hg2, G, Ff, ht8, by omega, fun b2 A2 ts2 ds2 us2 X5 e5 f5 B5 => ?_⟩
    have e05 := e04.trans e5
    exact ⟨_, rfl, b2, a, A2, k, t, p, c, d, fs, ts2, ds2, us2, ms, rfl, ⟨W22.M.ext e05 fun _ _ => by simp, W22.W.ext e05, B5, G⟩, by omega, by omega, by omega, fun X6 e6 => qOk X6⟩
end

end K15
namespace K15
open PySem PySem.Spec PyProof.Rows L2 He Tp ClX LiI
open Hd
theorem txt {K : PySem.W.Frag} {h : Heap} {mg : Str → Option Value} (X : K.In h) (G : h.Ns mainGlobals mg) (c : He.SaysD fa fn K) (x : xB K = true) (y : fxO fx K = fxV fx) : Txt K mg := by
  obtain ⟨X1, x⟩ := ba x
  obtain ⟨X2, x⟩ := ba x
  obtain ⟨X3, x⟩ := ba x
  obtain ⟨X4, x⟩ := ba x
  obtain ⟨X5, x⟩ := ba x
  obtain ⟨X6, x⟩ := ba x
  obtain ⟨X7, x⟩ := ba x
  obtain ⟨X8, x⟩ := ba x
  obtain ⟨X9, x⟩ := ba x
  obtain ⟨X10, x⟩ := ba x
  obtain ⟨X11, x⟩ := ba x
  obtain ⟨X12, x⟩ := ba x
  obtain ⟨X13, x⟩ := ba x
  obtain ⟨X14, x⟩ := ba x
  obtain ⟨X15, x⟩ := ba x
  obtain ⟨X16, x⟩ := ba x
  obtain ⟨X17, x⟩ := ba x
  obtain ⟨X18, x⟩ := ba x
  obtain ⟨X19, x⟩ := ba x
  obtain ⟨X20, x⟩ := ba x
  obtain ⟨X21, x⟩ := ba x
  obtain ⟨X22, x⟩ := ba x
  obtain ⟨X23, x⟩ := ba x
  obtain ⟨X24, x⟩ := ba x
  obtain ⟨X25, X26⟩ := ba x
  exact {
    blen := He.free_ok X G (c.facts (f := .free "len") (by simp [fa]))
    babs := He.free_ok X G (c.facts (f := .free "abs") (by simp [fa]))
    bint := He.free_ok X G (c.facts (f := .free "int") (by simp [fa]))
    bisinstance := He.free_ok X G (c.facts (f := .free "isinstance") (by simp [fa]))
    ball := He.free_ok X G (c.facts (f := .free "all") (by simp [fa]))
    brange := He.free_ok X G (c.facts (f := .free "range") (by simp [fa]))
    blist := He.free_ok X G (c.facts (f := .free "list") (by simp [fa]))
    bstr := He.free_ok X G (c.facts (f := .free "str") (by simp [fa]))
    bbool := He.free_ok X G (c.facts (f := .free "bool") (by simp [fa]))
    bValueError := He.free_ok X G (c.facts (f := .free "ValueError") (by simp [fa]))
    btuple := He.free_ok X G (c.facts (f := .free "tuple") (by simp [fa]))
    bmin := He.free_ok X G (c.facts (f := .free "min") (by simp [fa]))
    bmax := He.free_ok X G (c.facts (f := .free "max") (by simp [fa]))
    bsum := He.free_ok X G (c.facts (f := .free "sum") (by simp [fa]))
    bsorted := He.free_ok X G (c.facts (f := .free "sorted") (by simp [fa]))
    benumerate := He.free_ok X G (c.facts (f := .free "enumerate") (by simp [fa]))
    bany := He.free_ok X G (c.facts (f := .free "any") (by simp [fa]))
    bzip := He.free_ok X G (c.facts (f := .free "zip") (by simp [fa]))
    bset := He.free_ok X G (c.facts (f := .free "set") (by simp [fa]))
    bdict := He.free_ok X G (c.facts (f := .free "dict") (by simp [fa]))
    biter := He.free_ok X G (c.facts (f := .free "iter") (by simp [fa]))
    gDyeError := He.glo_ok X G (c.facts (f := .glo "DyeError") (by simp [fa]))
    xDyeError := exBB_ok X1
    fDye := c.def_ 0 (d := d_DyeError___init__) rfl
    gBadName := He.glo_ok X G (c.facts (f := .glo "BadName") (by simp [fa]))
    xBadName := exBB_ok X2
    gBadHold := He.glo_ok X G (c.facts (f := .glo "BadHold") (by simp [fa]))
    xBadHold := exBB_ok X3
    gBadNumber := He.glo_ok X G (c.facts (f := .glo "BadNumber") (by simp [fa]))
    xBadNumber := exBB_ok X4
    gBadAmount := He.glo_ok X G (c.facts (f := .glo "BadAmount") (by simp [fa]))
    xBadAmount := exBB_ok X5
    gKnown := He.glo_ok X G (c.facts (f := .glo "Known") (by simp [fa]))
    xKnown := exBB_ok X6
    gUnknown := He.glo_ok X G (c.facts (f := .glo "Unknown") (by simp [fa]))
    xUnknown := exBB_ok X7
    gFull := He.glo_ok X G (c.facts (f := .glo "Full") (by simp [fa]))
    xFull := exBB_ok X8
    gBadLine := He.glo_ok X G (c.facts (f := .glo "BadLine") (by simp [fa]))
    xBadLine := exBB_ok X9
    gis_whole := He.glo_ok X G (c.facts (f := .glo "is_whole") (by simp [fa]))
    fis_whole := c.def_ 1 (d := d_is_whole) rfl
    gis_amount := He.glo_ok X G (c.facts (f := .glo "is_amount") (by simp [fa]))
    fis_amount := c.def_ 2 (d := d_is_amount) rfl
    gcheck_between := He.glo_ok X G (c.facts (f := .glo "check_between") (by simp [fa]))
    fcheck_between := c.def_ 3 (d := d_check_between) rfl
    g_is_name := He.glo_ok X G (c.facts (f := .glo "_is_name") (by simp [fa]))
    f_is_name := c.def_ 4 (d := d__is_name) rfl
    g_check_new := He.glo_ok X G (c.facts (f := .glo "_check_new") (by simp [fa]))
    f_check_new := c.def_ 5 (d := d__check_new) rfl
    g_check_known := He.glo_ok X G (c.facts (f := .glo "_check_known") (by simp [fa]))
    f_check_known := c.def_ 6 (d := d__check_known) rfl
    g_check_room := He.glo_ok X G (c.facts (f := .glo "_check_room") (by simp [fa]))
    f_check_room := c.def_ 7 (d := d__check_room) rfl
    gBook := He.glo_ok X G (c.facts (f := .glo "Book") (by simp [fa]))
    cl := He.cls_ok (c.facts (f := .cls "Book") (by simp [fa]))
    mk_ := He.mkr_ok (c.facts (f := .mkr "Book") (by simp [fa]))
    n_bound := He.noat_ok (c.facts (f := .noat "Book" "_bound") (by simp [fa]))
    n_cloths := He.noat_ok (c.facts (f := .noat "Book" "_cloths") (by simp [fa]))
    n_dips := He.noat_ok (c.facts (f := .noat "Book" "_dips") (by simp [fa]))
    n_facts := He.noat_ok (c.facts (f := .noat "Book" "_facts") (by simp [fa]))
    n_kinds := He.noat_ok (c.facts (f := .noat "Book" "_kinds") (by simp [fa]))
    n_pots := He.noat_ok (c.facts (f := .noat "Book" "_pots") (by simp [fa]))
    n_thirsts := He.noat_ok (c.facts (f := .noat "Book" "_thirsts") (by simp [fa]))
    pget_bound := by obtain ⟨fd, F⟩ := okA_funD (d := dx_Of_bound) (fx_at y (i := 0) rfl) X11; exact ⟨_, _, fd, pgetB_ok X10, F⟩
    pset_bound := by obtain ⟨fd, F⟩ := okA_funD (d := dx_Set_bound) (fx_at y (i := 1) rfl) X13; exact ⟨_, _, fd, psetB_ok X12, F⟩
    fInit := c.def_ 8 (d := d_Book___init__) rfl
    mchange_bound := He.meth_ok (c.facts (f := .meth "Book" "change_bound") (by simp [fa]))
    fchange_bound := c.def_ 9 (d := d_Book_change_bound) rfl
    madd_kind := He.meth_ok (c.facts (f := .meth "Book" "add_kind") (by simp [fa]))
    fadd_kind := c.def_ 10 (d := d_Book_add_kind) rfl
    madd_thirst := He.meth_ok (c.facts (f := .meth "Book" "add_thirst") (by simp [fa]))
    fadd_thirst := c.def_ 11 (d := d_Book_add_thirst) rfl
    madd_pot := He.meth_ok (c.facts (f := .meth "Book" "add_pot") (by simp [fa]))
    fadd_pot := c.def_ 12 (d := d_Book_add_pot) rfl
    madd_cloth := He.meth_ok (c.facts (f := .meth "Book" "add_cloth") (by simp [fa]))
    fadd_cloth := c.def_ 13 (d := d_Book_add_cloth) rfl
    mdip := He.meth_ok (c.facts (f := .meth "Book" "dip") (by simp [fa]))
    fdip := c.def_ 14 (d := d_Book_dip) rfl
    mtell := He.meth_ok (c.facts (f := .meth "Book" "tell") (by simp [fa]))
    ftell := c.def_ 15 (d := d_Book_tell) rfl
    mtell_some := He.meth_ok (c.facts (f := .meth "Book" "tell_some") (by simp [fa]))
    ftell_some := c.def_ 16 (d := d_Book_tell_some) rfl
    mkinds := He.meth_ok (c.facts (f := .meth "Book" "kinds") (by simp [fa]))
    fkinds := c.def_ 17 (d := d_Book_kinds) rfl
    mthirsts := He.meth_ok (c.facts (f := .meth "Book" "thirsts") (by simp [fa]))
    fthirsts := c.def_ 18 (d := d_Book_thirsts) rfl
    mpots := He.meth_ok (c.facts (f := .meth "Book" "pots") (by simp [fa]))
    fpots := c.def_ 19 (d := d_Book_pots) rfl
    mcloths := He.meth_ok (c.facts (f := .meth "Book" "cloths") (by simp [fa]))
    fcloths := c.def_ 20 (d := d_Book_cloths) rfl
    mfacts := He.meth_ok (c.facts (f := .meth "Book" "facts") (by simp [fa]))
    ffacts := c.def_ 21 (d := d_Book_facts) rfl
    m__len__ := He.meth_ok (c.facts (f := .meth "Book" "__len__") (by simp [fa]))
    f__len__ := c.def_ 22 (d := d_Book___len__) rfl
    m__iter__ := He.meth_ok (c.facts (f := .meth "Book" "__iter__") (by simp [fa]))
    f__iter__ := c.def_ 23 (d := d_Book___iter__) rfl
    mprevious := He.meth_ok (c.facts (f := .meth "Book" "previous") (by simp [fa]))
    fprevious := c.def_ 24 (d := d_Book_previous) rfl
    mamounts := He.meth_ok (c.facts (f := .meth "Book" "amounts") (by simp [fa]))
    famounts := c.def_ 25 (d := d_Book_amounts) rfl
    m_check_own := He.meth_ok (c.facts (f := .meth "Book" "_check_own") (by simp [fa]))
    f_check_own := c.def_ 26 (d := d_Book__check_own) rfl
    m_has_leave := He.meth_ok (c.facts (f := .meth "Book" "_has_leave") (by simp [fa]))
    f_has_leave := c.def_ 27 (d := d_Book__has_leave) rfl
    gwrite_book := He.glo_ok X G (c.facts (f := .glo "write_book") (by simp [fa]))
    fwrite_book := c.def_ 28 (d := d_write_book) rfl
    gread_book := He.glo_ok X G (c.facts (f := .glo "read_book") (by simp [fa]))
    fread_book := c.def_ 29 (d := d_read_book) rfl
    g_lines_of := He.glo_ok X G (c.facts (f := .glo "_lines_of") (by simp [fa]))
    f_lines_of := c.def_ 30 (d := d__lines_of) rfl
    g_fact_words := He.glo_ok X G (c.facts (f := .glo "_fact_words") (by simp [fa]))
    f_fact_words := c.def_ 31 (d := d__fact_words) rfl
    g_has_form := He.glo_ok X G (c.facts (f := .glo "_has_form") (by simp [fa]))
    f_has_form := c.def_ 32 (d := d__has_form) rfl
    g_is_amount_text := He.glo_ok X G (c.facts (f := .glo "_is_amount_text") (by simp [fa]))
    f_is_amount_text := c.def_ 33 (d := d__is_amount_text) rfl
    g_carry_out := He.glo_ok X G (c.facts (f := .glo "_carry_out") (by simp [fa]))
    f_carry_out := c.def_ 34 (d := d__carry_out) rfl
    g_law_is_whole := He.glo_ok X G (c.facts (f := .glo "_law_is_whole") (by simp [fa]))
    f_law_is_whole := c.def_ 35 (d := d__law_is_whole) rfl
    g_law_source := He.glo_ok X G (c.facts (f := .glo "_law_source") (by simp [fa]))
    f_law_source := c.def_ 36 (d := d__law_source) rfl
    g_law_draw := He.glo_ok X G (c.facts (f := .glo "_law_draw") (by simp [fa]))
    f_law_draw := c.def_ 37 (d := d__law_draw) rfl
    g_law_word := He.glo_ok X G (c.facts (f := .glo "_law_word") (by simp [fa]))
    f_law_word := c.def_ 38 (d := d__law_word) rfl
    g_law_name := He.glo_ok X G (c.facts (f := .glo "_law_name") (by simp [fa]))
    f_law_name := c.def_ 39 (d := d__law_name) rfl
    g_law_names := He.glo_ok X G (c.facts (f := .glo "_law_names") (by simp [fa]))
    f_law_names := c.def_ 40 (d := d__law_names) rfl
    g_law_model := He.glo_ok X G (c.facts (f := .glo "_law_model") (by simp [fa]))
    f_law_model := c.def_ 41 (d := d__law_model) rfl
    g_law_facts := He.glo_ok X G (c.facts (f := .glo "_law_facts") (by simp [fa]))
    f_law_facts := c.def_ 42 (d := d__law_facts) rfl
    g_law_sort := He.glo_ok X G (c.facts (f := .glo "_law_sort") (by simp [fa]))
    f_law_sort := c.def_ 43 (d := d__law_sort) rfl
    g_law_grip := He.glo_ok X G (c.facts (f := .glo "_law_grip") (by simp [fa]))
    f_law_grip := c.def_ 44 (d := d__law_grip) rfl
    g_law_before := He.glo_ok X G (c.facts (f := .glo "_law_before") (by simp [fa]))
    f_law_before := c.def_ 45 (d := d__law_before) rfl
    g_law_leaves := He.glo_ok X G (c.facts (f := .glo "_law_leaves") (by simp [fa]))
    f_law_leaves := c.def_ 46 (d := d__law_leaves) rfl
    g_law_amounts := He.glo_ok X G (c.facts (f := .glo "_law_amounts") (by simp [fa]))
    f_law_amounts := c.def_ 47 (d := d__law_amounts) rfl
    g_law_build := He.glo_ok X G (c.facts (f := .glo "_law_build") (by simp [fa]))
    f_law_build := c.def_ 48 (d := d__law_build) rfl
    g_law_lists := He.glo_ok X G (c.facts (f := .glo "_law_lists") (by simp [fa]))
    f_law_lists := c.def_ 49 (d := d__law_lists) rfl
    g_law_lines := He.glo_ok X G (c.facts (f := .glo "_law_lines") (by simp [fa]))
    f_law_lines := c.def_ 50 (d := d__law_lines) rfl
    g_law_text := He.glo_ok X G (c.facts (f := .glo "_law_text") (by simp [fa]))
    f_law_text := c.def_ 51 (d := d__law_text) rfl
    g_law_ready := He.glo_ok X G (c.facts (f := .glo "_law_ready") (by simp [fa]))
    f_law_ready := c.def_ 52 (d := d__law_ready) rfl
    g_law_shuffled := He.glo_ok X G (c.facts (f := .glo "_law_shuffled") (by simp [fa]))
    f_law_shuffled := c.def_ 53 (d := d__law_shuffled) rfl
    g_law_same := He.glo_ok X G (c.facts (f := .glo "_law_same") (by simp [fa]))
    f_law_same := c.def_ 54 (d := d__law_same) rfl
    g_law_part := He.glo_ok X G (c.facts (f := .glo "_law_part") (by simp [fa]))
    f_law_part := c.def_ 55 (d := d__law_part) rfl
    gWORDS := He.glo_ok X G (c.facts (f := .glo "WORDS") (by simp [fa]))
    tWORDS := fun H => He.tupB_ok (vs := [.str "take", .str "leave"]) X14 H
    gHOLDS := He.glo_ok X G (c.facts (f := .glo "HOLDS") (by simp [fa]))
    tHOLDS := fun H => He.tupB_ok (vs := [.str "fast", .str "loose", .str "unsure"]) X15 H
    cLETTERS := He.str_ok X G (c.facts (f := .str "LETTERS" "abcdefghijklmnopqrstuvwxyz") (by simp [fa]))
    cLONGEST_NAME := He.int_ok X G (c.facts (f := .int "LONGEST_NAME" 12) (by simp [fa]))
    gSIZES := He.glo_ok X G (c.facts (f := .glo "SIZES") (by simp [fa]))
    zSIZES := X16
    gFACT_WORDS := He.glo_ok X G (c.facts (f := .glo "FACT_WORDS") (by simp [fa]))
    tFACT_WORDS := fun H => He.tupB_ok (vs := [.str "tell", .str "some"]) X17 H
    cNUMBERS := He.int_ok X G (c.facts (f := .int "NUMBERS" 100) (by simp [fa]))
    iBook := X18
    crd := creadB_ok X19
    vNAMES := cvalB_ok X20
    vTHIRSTS := cvalB_ok X21
    vFACTS := cvalB_ok X22
    vDIPS := cvalB_ok X23
    kit := fun x hx y hy => of_decide_eq_true (List.all_eq_true.mp (List.all_eq_true.mp X24 x hx) y hy)
    kitV := fun x hx => of_decide_eq_true (List.all_eq_true.mp X25 x hx)
    exm := fun x hx y hy => of_decide_eq_true (List.all_eq_true.mp (List.all_eq_true.mp X26 x hx) y hy) }
theorem facts {P : Program} {w : World} {K : PySem.W.Frag} {h : Heap} {mg : Str → Option Value} {f : Addr} (X : K.In h) (G : h.Ns mainGlobals mg) (hfa : mg ("law" : Str) = some (.ref f)) (c : He.SaysD fa fn K) (x : xB K = true) (y : fxO fx K = fxV fx) (z : tabsO tb K = tabsV tb w) :
    ∃ fd : FuncData, (∀ (s : Shared) (v : Value), BindsTo s fd ⟨[v], []⟩ [("_law_script", v)]) ∧ ∀ base : Heap, K.In base → base.Ns mainGlobals mg → FnOk P w K mg base CX0 11 f fd ["_law_script"] (spLaw K) := by
  obtain ⟨fd, F⟩ := c.def_ 56 (d := d_law) rfl
  have e := hfa.symm.trans (He.glo_ok X G (c.facts (f := .glo "law") (by simp [fa])))
  cases e
  have b := FunD.bindsA (ps := ["_law_script"]) F fun _ _ _ _ _ _ us hl => match us, hl with | [_], _ => rfl
  exact ⟨fd, fun s v => b s [v] rfl, fun base _ _ => ok_law (txt X G c x y) (tab_at z 0) F⟩
end K15
open PySem PySem.W PySem.Calls PyProof.Rows
theorem PySem.Challenge.cw_tiredpots_k15_whole_text_and_back_holds : PySem.Challenge.rw_tiredpots_k15_whole_text_and_back.Holds := by
  w_on; o_law
  refine HandSHeadRun.head_any (r := OpenLaw.row PySem.Challenge.rw_tiredpots_k15_whole_text_and_back) (q := view (OpenLaw.row PySem.Challenge.rw_tiredpots_k15_whole_text_and_back).prog [58]) (H := K15.Hd.hk) (ob := K15.Hd.ob) (M := 6000) (loose := K15.Hd.loose) (d := HandSHeadRun.topDef (OpenLaw.row PySem.Challenge.rw_tiredpots_k15_whole_text_and_back).prog 58) (kwd := []) K15.Hd.ob_eq
    (by kernel_rfl) (fun s => by kernel_rfl) K15.Hd.run (by kernel_rfl) (by kernel_rfl) (by kernel_rfl) (by rfl) (by first | assumption | decide +kernel) (by decide +kernel) ⟨rfl, rfl, rfl, rfl, rfl, by decide +kernel⟩ ?hw ?hc
  case hw => w_witness2
  case hc =>
    refine L2.walk_ofE (l := PySem.Challenge.rw_tiredpots_k15_whole_text_and_back) (n := 63) (k := 11) (x := "_law_script") (CX := L2.CX0) rfl (by decide) (by kernel_rfl) ⟨rfl, by decide, by decide⟩ ?F (fun _ _ _ _ z => z)
    intro w mg fa h Y G hmg0
    obtain ⟨K, KX, c, x, y, z⟩ := Y
    have hmg : mg ("law" : PySem.Str) = some (.ref fa) := by
      have e : (HandSHeadRun.topDef (OpenLaw.row PySem.Challenge.rw_tiredpots_k15_whole_text_and_back).prog 58).name = ("law" : PySem.Str) := by kernel_rfl
      rw [← e]
      exact hmg0
    obtain ⟨fd, hb, hF⟩ := K15.facts (P := (PySem.Challenge.rw_tiredpots_k15_whole_text_and_back).prog) (w := w) KX G hmg c x y z
    exact ⟨K, fd, K15.spLaw K, KX, hb, fun H a ns hl _ hS => ⟨a, ns, rfl, hS, hl, fun _ => rfl⟩, hF⟩
