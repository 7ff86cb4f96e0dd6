import PyProof.Rows.All
import Wide.All
import OpenK.AllK
import Wide.FinOn
import HandS.ForExc
import HandS.Comp
import HandS.Iter
import HandS.Wide
import HandS.IsInst
import HandS.TupLe
import HandS.Flow
import HandS.Defaults
import HandS.MakeKw
import HandS.ExcInit
import HandS.ExcField
import HandS.TryMany
import HandS.Zip
import HandS.OwnEq
import HandS.Property
import HandS.TupMul
import HandS.Conv
import HandS.Style
import HandS.Star
import HandS.Rev
import HandS.Small
import HandS.Walk
import KE.GoesEnum
import KE.GoesMore
import KE.KTupSum
import HandS.TupAny
import HandS.RevTup
import HandS.Gcd
import KE.KMathGC
import PyProof.LongRange
import KE.GoesZip
import HandS.Dict
import KE.DatumOrd
import HandS.SortInts
import HandS.RevRange
import HandS.DictComp
import HandS.Flt
import HandS.SortKw
import HandS.WideBits
import HandS.Text
import HandS.FStr
import HandS.StrMore
import HandS.Replace
import HandS.Codes
import HandS.HeadHook2
import HandS.Ends
import PySem.Challenge.RW_jointsapart_k01_whole_ratios_reckoned_an
set_option Elab.async false
set_option linter.all false
set_option maxRecDepth 100000
/-! ### Z: a ledger of what stands in the heap, and rules for readings over it -/
namespace Z
open PySem L2
/-- an entry of the ledger: an object with all that it holds; the draws' list l with its cells c -/
inductive En where
  | ob (a : Addr) (o : HO)
  | hand (l c : Addr)
  | hand5 (l c : Addr)
def En.fp : En → List Addr
  | .ob a _ => [a]
  | .hand l c => [l, c]
  | .hand5 l c => [l, c]
def HandAt (H : Hp) (l c : Addr) : Prop := ∃ (ns : List Int) (i j t : Int), 0 ≤ i ∧ H l = some (.lst [.ref c, .int i, .int j, .int t]) ∧ H c = some (.lst (ns.map V.int))
def HandAt5 (H : Hp) (l c : Addr) : Prop := ∃ (ns : List Int) (i j t u : Int), 0 ≤ i ∧ H l = some (.lst [.ref c, .int i, .int j, .int t, .int u]) ∧ H c = some (.lst (ns.map V.int))
def En.sat (H : Hp) : En → Prop
  | .ob a o => H a = some o
  | .hand l c => HandAt H l c
  | .hand5 l c => HandAt5 H l c
def Fx (H : Hp) (L : List En) : Prop := (∀ e ∈ L, e.sat H) ∧ (L.flatMap En.fp).Nodup
theorem En.there {H : Hp} {e : En} (h : e.sat H) {a : Addr} (ha : a ∈ e.fp) : ∃ o, H a = some o := by
  cases e with
  | ob b o =>
    have e : a = b := List.mem_singleton.mp ha
    subst e
    exact ⟨o, h⟩
  | hand l c =>
    obtain ⟨ns, i, j, t, h0, h1, h2⟩ := (show HandAt H l c from h)
    rcases List.mem_cons.mp (show a ∈ [l, c] from ha) with e | e
    · subst e
      exact ⟨_, h1⟩
    · have e := List.mem_singleton.mp e
      subst e
      exact ⟨_, h2⟩
  | hand5 l c =>
    obtain ⟨ns, i, j, t, u, h0, h1, h2⟩ := (show HandAt5 H l c from h)
    rcases List.mem_cons.mp (show a ∈ [l, c] from ha) with e | e
    · subst e
      exact ⟨_, h1⟩
    · have e := List.mem_singleton.mp e
      subst e
      exact ⟨_, h2⟩
theorem En.keep {H H' : Hp} {e : En} (h : e.sat H) (k : ∀ a ∈ e.fp, ∀ o, H a = some o → H' a = some o) : e.sat H' := by
  cases e with
  | ob b o => exact k b List.mem_cons_self o h
  | hand l c =>
    obtain ⟨ns, i, j, t, h0, h1, h2⟩ := (show HandAt H l c from h)
    exact ⟨ns, i, j, t, h0, k l List.mem_cons_self _ h1, k c (List.mem_cons_of_mem _ List.mem_cons_self) _ h2⟩
  | hand5 l c =>
    obtain ⟨ns, i, j, t, u, h0, h1, h2⟩ := (show HandAt5 H l c from h)
    exact ⟨ns, i, j, t, u, h0, k l List.mem_cons_self _ h1, k c (List.mem_cons_of_mem _ List.mem_cons_self) _ h2⟩
section
variable {H H' : Hp} {L L' : List En} {a p : Addr} {o o' : HO}
theorem Fx.get (F : Fx H L) (h : En.ob a o ∈ L) : H a = some o := F.1 _ h
theorem Fx.gh {l c : Addr} (F : Fx H L) (h : En.hand l c ∈ L) : HandAt H l c := F.1 _ h
theorem Fx.nil : Fx H [] := ⟨fun e h => (nomatch h), List.nodup_nil⟩
theorem Fx.notin (F : Fx H L) (h : H p = none) : p ∉ L.flatMap En.fp := fun hp => by
  obtain ⟨e, he, ha⟩ := List.mem_flatMap.mp hp
  obtain ⟨o, q⟩ := En.there (F.1 e he) ha
  rw [h] at q
  cases q
theorem Fx.new (F : Fx H L) (h : H p = none) : Fx (upd H p o) (.ob p o :: L) := by
  have ni := F.notin h
  refine ⟨fun e he => ?_, ?_⟩
  · rcases List.mem_cons.mp he with e1 | he
    · subst e1
      exact upd_same
    · refine En.keep (F.1 e he) fun a ha o q => ?_
      rw [upd_ne (ne_of_none q h)]
      exact q
  · show (p :: L.flatMap En.fp).Nodup
    exact List.nodup_cons.mpr ⟨ni, F.2⟩
theorem Fx.same (F : Fx H L) (k : Same H H') : Fx H' L := ⟨fun e he => En.keep (F.1 e he) fun a _ o q => k a o q, F.2⟩
theorem Fx.add (F : Fx H L) (h : H p = some o) (n : p ∉ L.flatMap En.fp) : Fx H (.ob p o :: L) := by
  refine ⟨fun e he => ?_, ?_⟩
  · rcases List.mem_cons.mp he with e1 | he
    · subst e1
      exact h
    · exact F.1 e he
  · show (p :: L.flatMap En.fp).Nodup
    exact List.nodup_cons.mpr ⟨n, F.2⟩
theorem Fx.sub (F : Fx H L) (h : L'.Sublist L) : Fx H L' := by
  refine ⟨fun e he => F.1 e (h.subset he), ?_⟩
  have : (L'.flatMap En.fp).Sublist (L.flatMap En.fp) := by
    induction h with
    | slnil => exact List.Sublist.refl _
    | cons a _ ih =>
      rw [List.flatMap_cons]
      exact List.Sublist.trans (ih ⟨fun e he => F.1 e (List.mem_cons_of_mem _ he), (List.nodup_append.mp (by have := F.2; rwa [List.flatMap_cons] at this)).2.1⟩) (List.sublist_append_right _ _)
    | cons_cons a _ ih =>
      rw [List.flatMap_cons, List.flatMap_cons]
      exact (List.Sublist.refl _).append (ih ⟨fun e he => F.1 e (List.mem_cons_of_mem _ he), (List.nodup_append.mp (by have := F.2; rwa [List.flatMap_cons] at this)).2.1⟩)
  exact List.Sublist.nodup this F.2
/-- p's object is exchanged -/
inductive Put (p : Addr) (o' : HO) : List En → List En → Prop where
  | head {o : HO} {L : List En} : Put p o' (.ob p o :: L) (.ob p o' :: L)
  | tail {e : En} {L L' : List En} (h : Put p o' L L') : Put p o' (e :: L) (e :: L')
theorem Put.fps (h : Put p o' L L') : L'.flatMap En.fp = L.flatMap En.fp := by
  induction h with
  | head => rfl
  | tail _ ih => rw [List.flatMap_cons, List.flatMap_cons, ih]
theorem Put.mem (h : Put p o' L L') : p ∈ L.flatMap En.fp := by
  induction h with
  | head => exact List.mem_cons_self
  | tail _ ih =>
    rw [List.flatMap_cons]
    exact List.mem_append_right _ ih
theorem Put.sat (h : Put p o' L L') (nd : (L.flatMap En.fp).Nodup) (s : ∀ e ∈ L, e.sat H) : ∀ e ∈ L', e.sat (upd H p o') := by
  induction h with
  | @head o L =>
    intro e he
    rcases List.mem_cons.mp he with e1 | he
    · subst e1
      exact upd_same
    · refine En.keep (s e (List.mem_cons_of_mem _ he)) fun a ha u q => ?_
      have n := (List.nodup_cons.mp (show (p :: L.flatMap En.fp).Nodup from nd)).1
      rw [upd_ne (fun z => n (by rw [← z]; exact List.mem_flatMap.mpr ⟨e, he, ha⟩))]
      exact q
  | @tail x L L' h ih =>
    rw [List.flatMap_cons] at nd
    obtain ⟨n1, n2, n3⟩ := List.nodup_append.mp nd
    intro e he
    rcases List.mem_cons.mp he with e1 | he
    · subst e1
      refine En.keep (s e List.mem_cons_self) fun a ha u q => ?_
      rw [upd_ne (n3 a ha p h.mem)]
      exact q
    · exact ih n2 (fun e he => s e (List.mem_cons_of_mem _ he)) e he
theorem Fx.put (F : Fx H L) (h : Put p o' L L') : Fx (upd H p o') L' := ⟨h.sat F.2 F.1, by rw [h.fps]; exact F.2⟩
/-- all but the list l stands; the draws go on at l -/
theorem Fx.drawn {l c : Addr} (F : Fx H L) (h : En.hand l c ∈ L) (k : ∀ b o, H b = some o → b ≠ l → H' b = some o) (d : HandAt H' l c) : Fx H' L := by
  refine ⟨fun e he => ?_, F.2⟩
  by_cases hl : l ∈ e.fp
  · have key : e = En.hand l c := by
      have nd := F.2
      have h' := h
      have he' := he
      clear d k F
      induction L with
      | nil => cases he
      | cons x L ih =>
        rw [List.flatMap_cons] at nd
        obtain ⟨n1, n2, n3⟩ := List.nodup_append.mp nd
        rcases List.mem_cons.mp h with e1 | h1
        · rcases List.mem_cons.mp he with e2 | h2
          · rw [e1, e2]
          · exact absurd rfl (n3 l (e1 ▸ List.mem_cons_self) l (List.mem_flatMap.mpr ⟨e, h2, hl⟩))
        · rcases List.mem_cons.mp he with e2 | h2
          · exact absurd rfl (n3 l (e2 ▸ hl) l (List.mem_flatMap.mpr ⟨_, h1, List.mem_cons_self⟩))
          · exact ih h1 h2 n2 h1 h2
    rw [key]
    exact d
  · exact En.keep (F.1 e he) fun a ha o q => k a o q fun z => hl (z ▸ ha)
end
end Z

set_option Elab.async false
set_option linter.all false
set_option maxRecDepth 100000
namespace Z
open PySem L2
/-! ### rules -/
theorem hu0 {X : Cx} {k : Nat} (hr : Room k X.A) : X.A.units + 64 < cLine := hr.units
section
variable {CX : CXT} {P : Program} {w : World} {K : PySem.W.Frag} {mg : Str → Option Value} {base : Heap}
/-- the def x keeps its promise; dvs: the defaults that fill up the call -/
def Ok (CX : CXT) (P : Program) (w : World) (K : PySem.W.Frag) (mg : Str → Option Value) (base : Heap) (x : Str) (k : Nat) (ps : List Str) (dvs : List V) (sp : Sp) : Prop :=
  ∃ (f : Addr) (fd : FuncData) (ds : List Value), mg x = some (.ref f) ∧ PySem.W.keepIn K (.ref f) = true ∧ Binds K fd ps ds ∧ Vals dvs ds ∧ FnOk P w K mg base CX k f fd ps sp
theorem mkOk {x : Str} {k : Nat} {ps : List Str} {sp : Sp} {st : Stmt} {f : Addr} {fd : FuncData} (F : Fun K x x st f fd) (g : mg x = some (.ref f)) (b : Binds K fd ps []) (G : FnOk P w K mg base CX k f fd ps sp) : Ok CX P w K mg base x k ps [] sp :=
  ⟨f, fd, [], g, F.kp, b, .nil, G⟩
end
section
variable {X : Cx} {CX : CXT} {k : Nat} {ps : List Str} {sp : Sp} {E : XK} {x : Str} {p pos apos : Pos} {e : Expr} {es : List Expr} {t : TA} {dvs : List V}
theorem pe_callO (O : Ok CX X.prog X.w X.K X.mg X.base x k ps dvs sp) (hg : Gl X x) (hr : Room k X.A) (hx : Passes CX X E) (ha : PA X (e :: es) t)
    (hdb : (x == ("__debug__" : Str)) = false := by decide) (he : starEach (e :: es) X.env = (false, eval e
          X.env) :: starEach es X.env := by rfl) (hpl : (backTo pos (starEach es X.env)).any (·.1) = false := by rfl) :
    PE X (.Call (.Name x p) (e :: es)
          [] pos) (tCall sp dvs E t) := by
  obtain ⟨f, fd, ds, g, kp, b, v, F⟩ := O
  exact pe_call F hr hg g kp b v hx ha hdb he hpl
theorem pt_tru {a : Expr} {ta : TE} (ha : PE X a ta) (he : ∀ whole, isTrue a X.env whole = (do let v ← whole; standAt a.pos; holding [v] (truthy v)) := by intro _; rfl) :
    PT X a (fun σ H Q => ta σ H fun x H' => ∃ k, TruV X.K x H' k ∧ Q k H') := pt_truth ha he
end
/-! named readings -/
def rTru (K : PySem.W.Frag) (ta : TE) : TT := fun σ H Q => ta σ H fun x H' => ∃ k, TruV K x H' k ∧ Q k H'
theorem pt_truN {X : Cx} {a : Expr} {ta : TE} (ha : PE X a ta) (he : ∀ whole, isTrue a X.env whole = (do let v ← whole; standAt a.pos; holding [v] (truthy v)) := by intro _; rfl) : PT X a (rTru X.K ta) := pt_truth ha he
def rAddS : R2 := fun x y H Q => ∃ i j, x = .str i ∧ y = .str j ∧ i.length + j.length ≤ sizeLine ∧ Q (.str (i ++ j)) H
def rOr (r r' : R2) : R2 := fun x y H Q => r x y H Q ∨ r' x y H Q
theorem opOr {X : Cx} {f : Value → Value → Sem Value} {r r' : R2} (h : OpR X f r) (h' : OpR X f r') : OpR X f (rOr r r') := h.or h'
abbrev rAddI : R2 := rI0 fun i j => .int (i + j)
abbrev rSubI : R2 := rI0 fun i j => .int (i - j)
theorem zAdd {X : Cx} : OpR X (binaryOp .Add) (rOr rAddI (rOr rAddS (rOr rCat (rCatT X.K)))) := opOr op_add (opOr op_add_str (opOr op_cat op_catT))
abbrev rMulI : R2 := rI CMulW fun i j => .int (i * j)
abbrev rMulC : R2 := rI CMul fun i j => .int (i * j)
theorem zMul {X : Cx} : OpR X (binaryOp .Mult) (rOr rMulC (rOr rMulI (rOr rRep (rRepT X.K)))) := opOr op_mul (opOr op_mulW (opOr op_rep op_repT))
abbrev rDivI : R2 := rI CDivW fun i j => .int (i / j)
theorem zDiv {X : Cx} : OpR X (binaryOp .FloorDiv) rDivI := op_fdivW
abbrev rModI : R2 := rI (fun _ j => 0 < j) fun i j => .int (i % j)
theorem zMod {X : Cx} : OpR X (binaryOp .Mod) rModI := op_mod
abbrev rPowI : R2 := rI CPow fun i j => .int (i ^ j.toNat)
theorem zPow {X : Cx} : OpR X (binaryOp .Pow) rPowI := op_pow
abbrev rLtI : R2 := rI0 fun i j => .bl (decide (i < j))
abbrev rLeI : R2 := rI0 fun i j => .bl (decide (i ≤ j))
abbrev rGtI : R2 := rI0 fun i j => .bl (decide (j < i))
abbrev rGeI : R2 := rI0 fun i j => .bl (decide (j ≤ i))
theorem zLt {X : Cx} : OpR X (compareOp .Lt) rLtI := op_lt
theorem zLe {X : Cx} : OpR X (compareOp .LtE) rLeI := op_le
theorem zGt {X : Cx} : OpR X (compareOp .Gt) rGtI := op_gt
theorem zGe {X : Cx} : OpR X (compareOp .GtE) rGeI := op_ge
theorem zEq {X : Cx} (hu : X.A.units + 64 < cLine) : OpR X (compareOp .Eq) (rOr rEq (rEqD X.K)) := opOr op_eq (op_eqD hu)
theorem zNe {X : Cx} (hu : X.A.units + 64 < cLine) : OpR X (compareOp .NotEq) (rOr rNe (rNeD X.K)) := opOr op_ne (op_neD hu)
def rIsN : R2 := fun x y H Q => y =
      .non ∧ Q (.bl (decide (x = .non))) H
def rNotN : R2 := fun x y H Q => y =
      .non ∧ Q (.bl (!decide (x = .non))) H
theorem zIs {X : Cx} : OpR X (compareOp .Is) (rOr rIsN rIsB) := opOr op_isN op_isBl
theorem zIsNot {X : Cx} : OpR X (compareOp .IsNot) (rOr rNotN rNotB) := opOr op_notN op_notBl
theorem zIn {X : Cx} : OpR X (compareOp .In) (rIn X.K false) := op_in_seq
theorem zNotIn {X : Cx} : OpR X (compareOp .NotIn) (rIn X.K true) := op_notIn_seq
def rLen (K : PySem.W.Frag) : List V → Hp → VK → Prop :=
      fun xs H Q => ∃ x n, xs = [x] ∧ LenV K x H n ∧ Q (.int n) H
theorem zLen {X : Cx} : CallR X (.builtin "len") (rLen X.K) := call_len
def rOrC (r r' : List V → Hp → VK → Prop) : List V → Hp → VK → Prop := fun xs H Q => r xs H Q ∨ r' xs H Q
theorem zIsi {X : Cx} : CallR X (.builtin "isinstance") (rOrC (rIsi X.K) (rIsiT X.K)) := CallR.or call_isi call_isiT
def rInt : List V → Hp → VK → Prop := fun xs H Q => (∃ i, xs = [.int i] ∧ Q (.int i) H) ∨ ∃ k, xs = [.bl k] ∧ Q (.int (if k then 1 else 0)) H
theorem zInt {X : Cx} : CallR X (.type "int") rInt := call_int1
def rList (K : PySem.W.Frag) : List V → Hp → VK → Prop := fun xs H Q => ∃ p ys, xs = [.ref p] ∧ (SqL K H p ys ∨ SqT K H p ys) ∧ ∀ l, H l = none → Q (.ref l) (upd H l (.lst ys))
theorem zList {X : Cx} : CallR X (.type "list") (rList X.K) := call_list_of
def rTuple (K : PySem.W.Frag) : List V → Hp → VK → Prop := fun xs H Q => ∃ p ys, xs = [.ref p] ∧ ((SqL K H p ys ∧ ∀ l, H l = none → Q (.ref l) (upd H l (.tup ys))) ∨ (SqT K H p ys ∧ Q (.ref p) H))
theorem zTuple {X : Cx} : CallR X (.type "tuple") (rTuple X.K) := call_tuple_of
def rAbs : List V → Hp → VK → Prop := fun xs H Q => ∃ i, xs = [.int i] ∧ Q (.int (if i < 0 then -i else i)) H
theorem zAbs {X : Cx} : CallR X (.builtin "abs") rAbs := call_abs
def rOrS (r r' : V → Option Int → Option Int → Hp → VK → Prop) : V → Option Int → Option Int → Hp → VK → Prop := fun x lo hi H Q => r x lo hi H Q ∨ r' x lo hi H Q
theorem zSl {X : Cx} : SlR X (rOrS (rSlL X.K) (rSlT X.K)) := SlR.or sl_list sl_tup

def NewT (xs : List V) (H : Hp) (Q : VK) : Prop := xs.length ≤ sizeLine ∧ ∀ p, H p = none → Q (.ref p) (upd H p (.tup xs))
def NewL (xs : List V) (H : Hp) (Q : VK) : Prop := xs.length ≤ sizeLine ∧ ∀ p, H p = none → Q (.ref p) (upd H p (.lst xs))
/-! ### how a reading is answered -/
section
variable {K : PySem.W.Frag} {H : Hp} {Q : VK} {L : List En} {σ : St} {v w : V} {i j : Int} {t u : TS} {nx bk ct : St → Hp → Prop} {rt : VK} {te ta tb tc : TE} {tt tt' : TT} {ts : TA} {g : TG} {r r' : R2} {QB : Bool → Hp → Prop} {QA : List V → Hp → Prop}
theorem at_start {σ' : St} {N : List Str} {vs : List V} {D : Ends} (e : start N vs = σ') (h : t D σ' H) : t D (start N vs) H := by rw [e]; exact h
theorem wSeq (h : t ⟨u ⟨nx, rt, bk, ct⟩, rt, bk, ct⟩ σ H) : tSeq t u ⟨nx, rt, bk, ct⟩ σ H := h
theorem wNext (h : nx σ H) : tNext ⟨nx, rt, bk, ct⟩ σ H := h
theorem wBreak (h : bk σ H) : tBreak ⟨nx, rt, bk, ct⟩ σ H := h
theorem wCont (h : ct σ H) : tCont ⟨nx, rt, bk, ct⟩ σ H := h
theorem wDrop (h : te σ H fun _ H1 => nx σ H1) : tDrop te ⟨nx, rt, bk, ct⟩ σ H := h
theorem wRet (h : te σ H rt) : tRet te ⟨nx, rt, bk, ct⟩ σ H := h
theorem wRetN (h : rt .non H) : tRetN ⟨nx, rt, bk, ct⟩ σ H := h
theorem wIfS (h : tt σ H fun b H1 => if b = true then t ⟨nx, rt, bk, ct⟩ σ H1 else u ⟨nx, rt, bk, ct⟩ σ H1) : tIfS tt t u ⟨nx, rt, bk, ct⟩ σ H := h
theorem wAsg (h : te σ H fun x H1 => g x σ H1 nx) : tAsg te g ⟨nx, rt, bk, ct⟩ σ H := h
theorem wFor {wi : TI} {tb : TS} (h : wi σ H fun J H1 => ∃ W : Nat → Nat → St → Hp → Prop, (∃ m, W 0 m σ H1) ∧ ∀ i m σ H, W i m σ H →
  (J.stop i H ∧ nx σ H) ∨ (J.go i H ∧ ∃ N : St → Hp → Prop, (∀ σ' H', N σ' H' → ∃ m', m' < m ∧ W (i + 1) m' σ' H') ∧ ∀ x H', J.yld i H x H' → g x σ H' fun σ2 H2 => tb ⟨N, rt, nx, N⟩ σ2 H2)) : tFor wi g tb ⟨nx, rt, bk, ct⟩ σ H := h
variable {a0 a1 a2 a3 a4 a5 a6 a7 a8 a9 b0 b1 b2 b3 b4 b5 b6 b7 : Option V} {ρ : St} {N : St → Hp → Prop}
theorem wG0 (h : N (some v :: ρ) H) : gName 0 v (a0 :: ρ) H N := h
theorem wG1 (h : N (a0 :: some v :: ρ) H) : gName 1 v (a0 :: a1 :: ρ) H N := h
theorem wG2 (h : N (a0 :: a1 :: some v :: ρ) H) : gName 2 v (a0 :: a1 :: a2 :: ρ) H N := h
theorem wG3 (h : N (a0 :: a1 :: a2 :: some v :: ρ) H) : gName 3 v (a0 :: a1 :: a2 :: a3 :: ρ) H N := h
theorem wG4 (h : N (a0 :: a1 :: a2 :: a3 :: some v :: ρ) H) : gName 4 v (a0 :: a1 :: a2 :: a3 :: a4 :: ρ) H N := h
theorem wG5 (h : N (a0 :: a1 :: a2 :: a3 :: a4 :: some v :: ρ) H) : gName 5 v (a0 :: a1 :: a2 :: a3 :: a4 :: a5 :: ρ) H N := h
theorem wG6 (h : N (a0 :: a1 :: a2 :: a3 :: a4 :: a5 :: some v :: ρ) H) : gName 6 v (a0 :: a1 :: a2 :: a3 :: a4 :: a5 :: a6 :: ρ) H N := h
theorem wG7 (h : N (a0 :: a1 :: a2 :: a3 :: a4 :: a5 :: a6 :: some v :: ρ) H) : gName 7 v (a0 :: a1 :: a2 :: a3 :: a4 :: a5 :: a6 :: a7 :: ρ) H N := h
theorem wG8 (h : N (a0 :: a1 :: a2 :: a3 :: a4 :: a5 :: a6 :: a7 :: some v :: ρ) H) : gName 8 v (a0 :: a1 :: a2 :: a3 :: a4 :: a5 :: a6 :: a7 :: a8 :: ρ) H N := h
theorem wG9 (h : N (a0 :: a1 :: a2 :: a3 :: a4 :: a5 :: a6 :: a7 :: a8 :: some v :: ρ) H) : gName 9 v (a0 :: a1 :: a2 :: a3 :: a4 :: a5 :: a6 :: a7 :: a8 :: a9 :: ρ) H N := h
theorem wG10 (h : N (a0 :: a1 :: a2 :: a3 :: a4 :: a5 :: a6 :: a7 :: a8 :: a9 :: some v :: ρ) H) : gName 10 v (a0 :: a1 :: a2 :: a3 :: a4 :: a5 :: a6 :: a7 :: a8 :: a9 :: b0 :: ρ) H N := h
theorem wG11 (h : N (a0 :: a1 :: a2 :: a3 :: a4 :: a5 :: a6 :: a7 :: a8 :: a9 :: b0 :: some v :: ρ) H) : gName 11 v (a0 :: a1 :: a2 :: a3 :: a4 :: a5 :: a6 :: a7 :: a8 :: a9 :: b0 :: b1 :: ρ) H N := h
theorem wG12 (h : N (a0 :: a1 :: a2 :: a3 :: a4 :: a5 :: a6 :: a7 :: a8 :: a9 :: b0 :: b1 :: some v :: ρ) H) : gName 12 v (a0 :: a1 :: a2 :: a3 :: a4 :: a5 :: a6 :: a7 :: a8 :: a9 :: b0 :: b1 :: b2 :: ρ) H N := h
theorem wG13 (h : N (a0 :: a1 :: a2 :: a3 :: a4 :: a5 :: a6 :: a7 :: a8 :: a9 :: b0 :: b1 :: b2 :: some v :: ρ) H) : gName 13 v (a0 :: a1 :: a2 :: a3 :: a4 :: a5 :: a6 :: a7 :: a8 :: a9 :: b0 :: b1 :: b2 :: b3 :: ρ) H N := h
theorem wG14 (h : N (a0 :: a1 :: a2 :: a3 :: a4 :: a5 :: a6 :: a7 :: a8 :: a9 :: b0 :: b1 :: b2 :: b3 :: some v :: ρ) H) : gName 14 v (a0 :: a1 :: a2 :: a3 :: a4 :: a5 :: a6 :: a7 :: a8 :: a9 :: b0 :: b1 :: b2 :: b3 :: b4 :: ρ) H N := h
theorem wV {n : Nat} (e : σ[n]? = some (some v)) (h : Q v H) : tVar n σ H Q := ⟨v, e, h⟩
theorem wV0 (h : Q v H) : tVar 0 (some v :: ρ) H Q := ⟨v, rfl, h⟩
theorem wV1 (h : Q v H) : tVar 1 (a0 :: some v :: ρ) H Q := ⟨v, rfl, h⟩
theorem wV2 (h : Q v H) : tVar 2 (a0 :: a1 :: some v :: ρ) H Q := ⟨v, rfl, h⟩
theorem wV3 (h : Q v H) : tVar 3 (a0 :: a1 :: a2 :: some v :: ρ) H Q := ⟨v, rfl, h⟩
theorem wV4 (h : Q v H) : tVar 4 (a0 :: a1 :: a2 :: a3 :: some v :: ρ) H Q := ⟨v, rfl, h⟩
theorem wV5 (h : Q v H) : tVar 5 (a0 :: a1 :: a2 :: a3 :: a4 :: some v :: ρ) H Q := ⟨v, rfl, h⟩
theorem wV6 (h : Q v H) : tVar 6 (a0 :: a1 :: a2 :: a3 :: a4 :: a5 :: some v :: ρ) H Q := ⟨v, rfl, h⟩
theorem wV7 (h : Q v H) : tVar 7 (a0 :: a1 :: a2 :: a3 :: a4 :: a5 :: a6 :: some v :: ρ) H Q := ⟨v, rfl, h⟩
theorem wV8 (h : Q v H) : tVar 8 (a0 :: a1 :: a2 :: a3 :: a4 :: a5 :: a6 :: a7 :: some v :: ρ) H Q := ⟨v, rfl, h⟩
theorem wV9 (h : Q v H) : tVar 9 (a0 :: a1 :: a2 :: a3 :: a4 :: a5 :: a6 :: a7 :: a8 :: some v :: ρ) H Q := ⟨v, rfl, h⟩
theorem wV10 (h : Q v H) : tVar 10 (a0 :: a1 :: a2 :: a3 :: a4 :: a5 :: a6 :: a7 :: a8 :: a9 :: some v :: ρ) H Q := ⟨v, rfl, h⟩
theorem wV11 (h : Q v H) : tVar 11 (a0 :: a1 :: a2 :: a3 :: a4 :: a5 :: a6 :: a7 :: a8 :: a9 :: b0 :: some v :: ρ) H Q := ⟨v, rfl, h⟩
theorem wV12 (h : Q v H) : tVar 12 (a0 :: a1 :: a2 :: a3 :: a4 :: a5 :: a6 :: a7 :: a8 :: a9 :: b0 :: b1 :: some v :: ρ) H Q := ⟨v, rfl, h⟩
theorem wV13 (h : Q v H) : tVar 13 (a0 :: a1 :: a2 :: a3 :: a4 :: a5 :: a6 :: a7 :: a8 :: a9 :: b0 :: b1 :: b2 :: some v :: ρ) H Q := ⟨v, rfl, h⟩
theorem wV14 (h : Q v H) : tVar 14 (a0 :: a1 :: a2 :: a3 :: a4 :: a5 :: a6 :: a7 :: a8 :: a9 :: b0 :: b1 :: b2 :: b3 :: some v :: ρ) H Q := ⟨v, rfl, h⟩
theorem wC (h : Q v H) : tC v σ H Q := h
theorem wOp (h : ta σ H fun x H1 => tb σ H1 fun y H2 => r x y H2 Q) : tOp r ta tb σ H Q := h
theorem wUn {rr : V → Hp → VK → Prop} (h : ta σ H fun x H1 => rr x H1 Q) : tUn rr ta σ H Q := h
theorem wNeg (h : Q (.int (-i)) H) : rU (fun i => .int (-i)) (.int i) H Q := ⟨i, rfl, h⟩
theorem wI0 {f : Int → Int → V} (h : Q (f i j) H) : rI0 f (.int i) (.int j) H Q := ⟨i, j, rfl, rfl, h⟩
theorem wI {C : Int → Int → Prop} {f : Int → Int → V} (c : C i j) (h : Q (f i j) H) : rI C f (.int i) (.int j) H Q := ⟨i, j, rfl, rfl, c, h⟩
theorem wOr1 (h : r v w H Q) : rOr r r' v w H Q := .inl h
theorem wOr2 (h : r' v w H Q) : rOr r r' v w H Q := .inr h
theorem wNil (h : QA [] H) : tNil σ H QA := h
theorem wCons (h : ta σ H fun x H1 => ts σ H1 fun xs H2 => QA (x :: xs) H2) : tCons ta ts σ H QA := h
theorem wCB {rr : List V → Hp → VK → Prop} (h : ts σ H fun vs H1 => rr vs H1 Q) : tCB rr ts σ H Q := h
theorem wTest (h : te σ H fun x H' => ∃ k, x = .bl k ∧ QB k H') : tTest te σ H QB := h
theorem wBl {b : Bool} {QP : Bool → Prop} (h : QP b) : ∃ k, V.bl b = .bl k ∧ QP k := ⟨b, rfl, h⟩
theorem wTruN (h : te σ H fun x H' => ∃ k, TruV K x H' k ∧ QB k H') : rTru K te σ H QB := h
theorem wTbl {b : Bool} {QP : Bool → Prop} (h : QP b) : ∃ k, TruV K (.bl b) H k ∧ QP k := ⟨b, rfl, h⟩
theorem wTint {QP : Bool → Prop} (h : QP (i != 0)) : ∃ k, TruV K (.int i) H k ∧ QP k := ⟨_, rfl, h⟩
theorem wTnon {QP : Bool → Prop} (h : QP false) : ∃ k, TruV K .non H k ∧ QP k := ⟨_, rfl, h⟩
theorem wTlst {a : Addr} {xs : List V} (s : SqL K H a xs) {QP : Bool → Prop} (h : QP (!xs.isEmpty)) : ∃ k, TruV K (.ref a) H k ∧ QP k := ⟨_, .inl ⟨xs, s, rfl⟩, h⟩
theorem wTtup {a : Addr} {xs : List V} (s : SqT K H a xs) {QP : Bool → Prop} (h : QP (!xs.isEmpty)) : ∃ k, TruV K (.ref a) H k ∧ QP k := ⟨_, .inr (.inl ⟨xs, s, rfl⟩), h⟩
theorem wNot (h : tt σ H fun c H1 => QB (!c) H1) : tNot tt σ H QB := h
theorem wAnd (h : tt σ H fun c H1 => if c = true then tt' σ H1 QB else QB false H1) : tAnd tt tt' σ H QB := h
theorem wOrb (h : tt σ H fun c H1 => if c = true then QB true H1 else tt' σ H1 QB) : tOr tt tt' σ H QB := h
theorem wAndT (h : ta σ H fun x H1 => ∃ k, TruV K x H1 k ∧ if k = true then tb σ H1 Q else Q x H1) : tAndT K ta tb σ H Q := h
theorem wOrT (h : ta σ H fun x H1 => ∃ k, TruV K x H1 k ∧ if k = true then Q x H1 else tb σ H1 Q) : tOrT K ta tb σ H Q := h
theorem wNotT (h : ta σ H fun x H1 => ∃ k, TruV K x H1 k ∧ Q (.bl (!k)) H1) : tNotT K ta σ H Q := h
theorem wTIf (h : tt σ H fun c H1 => if c = true then ta σ H1 Q else tb σ H1 Q) : tIf tt ta tb σ H Q := h
theorem wChain (h : ta σ H fun x H1 => tb σ H1 fun y H2 => r x y H2 fun z H3 => ∃ k, z = .bl k ∧ (if k = true then tc σ H3 fun w' H4 => r' y w' H4 Q else Q (.bl false) H3)) : tChain r r' ta tb tc σ H Q := h
theorem wIfT {b : Bool} {A B : Prop} (e : b = true) (h : A) : if b = true then A else B := by rw [if_pos e]; exact h
theorem wIfF {b : Bool} {A B : Prop} (e : b = false) (h : B) : if b = true then A else B := by rw [if_neg (by rw [e]; exact Bool.false_ne_true)]; exact h
theorem wIf {b : Bool} {A B : Prop} (h : b = true → A) (h' : b = false → B) : if b = true then A else B := by
  cases b with
  | true => exact wIfT rfl (h rfl)
  | false => exact wIfF rfl (h' rfl)
theorem wIfD {p : Prop} [Decidable p] {A B : Prop} (h : p → A) (h' : ¬ p → B) : if decide p = true then A else B := wIf (fun e => h (of_decide_eq_true e)) fun e => h' (of_decide_eq_false e)
theorem wIfND {p : Prop} [Decidable p] {A B : Prop} (h : ¬ p → A) (h' : p → B) : if (!decide p) = true then A else B := wIf (fun e => h (by simpa using e)) fun e => h' (by simpa using e)
theorem wEqII (h : Q (.bl (decide (i = j))) H) : rEq (.int i) (.int j) H Q := ⟨rfl, by
  have e : decide (V.int i = V.int j) = decide (i = j) := by
    by_cases q : i = j
    · rw [q, decide_eq_true rfl, decide_eq_true rfl]
    · rw [decide_eq_false q, decide_eq_false (fun z => q (by injection z))]
  rw [e]; exact h⟩
theorem wNeII (h : Q (.bl (!decide (i = j))) H) : rNe (.int i) (.int j) H Q := ⟨rfl, by
  have e : decide (V.int i = V.int j) = decide (i = j) := by
    by_cases q : i = j
    · rw [q, decide_eq_true rfl, decide_eq_true rfl]
    · rw [decide_eq_false q, decide_eq_false (fun z => q (by injection z))]
  rw [e]; exact h⟩
theorem wEqS {x y : V} (s : scal x y = true) (h : Q (.bl (decide (x = y))) H) : rEq x y H Q := ⟨s, h⟩
theorem wNeS {x y : V} (s : scal x y = true) (h : Q (.bl (!decide (x = y))) H) : rNe x y H Q := ⟨s, h⟩
theorem wIsN {x : V} (h : Q (.bl (decide (x = .non))) H) : rIsN x .non H Q := ⟨rfl, h⟩
theorem wNotN {x : V} (h : Q (.bl (!decide (x = .non))) H) : rNotN x .non H Q := ⟨rfl, h⟩
theorem wIsB {b c : Bool} (h : Q (.bl (decide (b = c))) H) : rIsB (.bl b) (.bl c) H Q := ⟨b, c, rfl, rfl, h⟩
theorem wNotB {b c : Bool} (h : Q (.bl (!decide (b = c))) H) : rNotB (.bl b) (.bl c) H Q := ⟨b, c, rfl, rfl, h⟩
theorem wIntI (h : Q (.int i) H) : rInt [.int i] H Q := .inl ⟨i, rfl, h⟩
theorem wAbs (h : Q (.int (if i < 0 then -i else i)) H) : rAbs [.int i] H Q := ⟨i, rfl, h⟩
variable {a b : Addr} {xs ys : List V} {o : HO}
theorem wLenL (s : SqL K H a xs) (h : Q (.int xs.length) H) : rLen K [.ref a] H Q := ⟨_, _, rfl, .inl ⟨_, s, rfl⟩, h⟩
theorem wLenT (s : SqT K H a xs) (h : Q (.int xs.length) H) : rLen K [.ref a] H Q := ⟨_, _, rfl, .inr ⟨_, s, rfl⟩, h⟩
theorem wLenS {z : Str} (s : z.length ≤ sizeLine) (h : Q (.int z.length) H) : rLen K [.str z] H Q := ⟨_, _, rfl, ⟨s, rfl⟩, h⟩
theorem wIxL (s : SqL K H a xs) (e : atI xs i = some v) (h : Q v H) : rIx K (.ref a) (.int i) H Q := .inl ⟨a, xs, i, v, rfl, rfl, s, e, h⟩
theorem wIxT (s : SqT K H a xs) (e : atI xs i = some v) (h : Q v H) : rIx K (.ref a) (.int i) H Q := .inr (.inl ⟨a, xs, i, v, rfl, rfl, s, e, h⟩)
theorem wIxS {z : Str} {c : Nat} (n : z.length ≤ sizeLine) (e : atI z.cps.toList i = some c) (h : Q (.str ⟨#[c]⟩) H) : rIx K (.str z) (.int i) H Q := .inr (.inr ⟨z, i, c, rfl, rfl, n, e, h⟩)
theorem SqT.of {K : PySem.W.Frag} {H : Hp} {a : Addr} {xs : List V} (h : H a = some (.tup xs)) : SqT K H a xs := .inl (.inl h)
/-- from the ledger -/
theorem Fx.lst (F : Fx H L) (m : En.ob a (.lst xs) ∈ L) : SqL K H a xs := SqL.of (F.get m)
theorem Fx.tup (F : Fx H L) (m : En.ob a (.tup xs) ∈ L) : SqT K H a xs := SqT.of (F.get m)
theorem Fx.frz {ob : Obj} (F : Fx H L) (m : En.ob a (.frz ob (.lst xs)) ∈ L) : SqL K H a xs := .inl (.inr ⟨ob, F.get m⟩)
/-- new objects -/
theorem wNewF (F : Fx H L) (k : ∀ p H', Fx H' (.ob p o :: L) → Q (.ref p) H') : ∀ p, H p = none → Q (.ref p) (upd H p o) := fun p n => k p _ (F.new n)
theorem wTup (n : xs.length ≤ 1000) (F : Fx H L) (k : ∀ p H', Fx H' (.ob p (.tup xs) :: L) → Q (.ref p) H') : NewT xs H Q := ⟨Nat.le_of_lt (small1000 n), wNewF F k⟩
theorem wLst (n : xs.length ≤ 1000) (F : Fx H L) (k : ∀ p H', Fx H' (.ob p (.lst xs) :: L) → Q (.ref p) H') : NewL xs H Q := ⟨Nat.le_of_lt (small1000 n), wNewF F k⟩
theorem wTTup (h : ts σ H fun xs H1 => NewT xs H1 Q) : tTup ts σ H Q := h
theorem wTLst (h : ts σ H fun xs H1 => NewL xs H1 Q) : tLst ts σ H Q := h
theorem wListL (s : SqL K H a xs) (F : Fx H L) (k : ∀ p H', Fx H' (.ob p (.lst xs) :: L) → Q (.ref p) H') : rList K [.ref a] H Q := ⟨a, xs, rfl, .inl s, wNewF F k⟩
theorem wListT (s : SqT K H a xs) (F : Fx H L) (k : ∀ p H', Fx H' (.ob p (.lst xs) :: L) → Q (.ref p) H') : rList K [.ref a] H Q := ⟨a, xs, rfl, .inr s, wNewF F k⟩
theorem wTupleL (s : SqL K H a xs) (F : Fx H L) (k : ∀ p H', Fx H' (.ob p (.tup xs) :: L) → Q (.ref p) H') : rTuple K [.ref a] H Q := ⟨a, xs, rfl, .inl ⟨s, wNewF F k⟩⟩
theorem wTupleT (s : SqT K H a xs) (h : Q (.ref a) H) : rTuple K [.ref a] H Q := ⟨a, xs, rfl, .inr ⟨s, h⟩⟩
/-- xs.append(v) -/
theorem wBM {T : String} {rr : V → List V → Hp → VK → Prop} (h : ta σ H fun x H1 => tyV K T x H1 ∧ ts σ H1 fun xs H2 => rr x xs H2 Q) : tBM K T rr ta ts σ H Q := h
theorem wBM0 {T : String} {rr : V → List V → Hp → VK → Prop} (h : ta σ H fun x H1 => tyV K T x H1 ∧ rr x [] H1 Q) : tBM0 K T rr ta σ H Q := h
theorem wTyL (s : SqL K H a xs) {B : Prop} (h : B) : tyV K "list" (.ref a) H ∧ B := ⟨.inl ⟨rfl, _, s⟩, h⟩
theorem wApp {L' : List En} (F : Fx H L) (m : En.ob a (.lst xs) ∈ L) (pt : Put a (.lst (xs ++ [v])) L L') (n : xs.length < sizeLine) (k : ∀ H', Fx H' L' → Q .non H') : rAppend (.ref a) [v] H Q :=
  ⟨a, xs, v, rfl, rfl, F.get m, n, k _ (F.put pt)⟩
theorem wPopAt {L' : List En} {n : Nat} (F : Fx H L) (m : En.ob a (.lst xs) ∈ L) (pt : Put a (.lst (xs.eraseIdx n)) L L') (h1 : -(2 ^ 63) ≤ i) (h2 : i < 2 ^ 63) (hi : seqIndex? i xs.length = some n) (hv : xs[n]? = some v) (k : ∀ H', Fx H' L' → Q v H') : rPopAt (.ref a) [.int i] H Q :=
  ⟨a, xs, i, n, v, rfl, rfl, F.get m, h1, h2, hi, hv, k _ (F.put pt)⟩
/-- a[i] = v -/
theorem wGSub {to ti : TE} {ts : TSet} (h : to σ H fun o H1 => ti σ H1 fun i H2 => ts o i v H2 fun H3 => N σ H3) : gSub to ti ts v σ H N := h
theorem wSetL {L' : List En} {QH : Hp → Prop} {n : Nat} (F : Fx H L) (m : En.ob a (.lst xs) ∈ L) (e : ixN xs.length i = some n) (pt : Put a (.lst (xs.set n v)) L L') (k : ∀ H', Fx H' L' → QH H') : rSetL (.ref a) (.int i) v H QH :=
  ⟨a, xs, i, n, rfl, rfl, F.get m, e, k _ (F.put pt)⟩
/-- calls -/
theorem wCall0 {sp : Sp} {E : XK} (h : ts σ H fun vs H1 => sp vs H1 Q E) : tCall sp [] E ts σ H Q := by unfold tCall; simpa only [List.append_nil] using h
theorem wCallD {sp : Sp} {E : XK} {d : V} {ds : List V} (h : ts σ H fun vs H1 => sp (vs ++ (d :: ds)) H1 Q E) : tCall sp (d :: ds) E ts σ H Q := h
/-- promises by the number of their arguments -/
def Sp1 (f : V → Hp → VK → XK → Prop) : Sp := fun vs H Q E => ∃ a, vs = [a] ∧ f a H Q E
def Sp2 (f : V → V → Hp → VK → XK → Prop) : Sp := fun vs H Q E => ∃ a b, vs = [a, b] ∧ f a b H Q E
def Sp3 (f : V → V → V → Hp → VK → XK → Prop) : Sp := fun vs H Q E => ∃ a b c, vs = [a, b, c] ∧ f a b c H Q E
def Sp4 (f : V → V → V → V → Hp → VK → XK → Prop) : Sp := fun vs H Q E => ∃ a b c d, vs = [a, b, c, d] ∧ f a b c d H Q E
theorem wSp1 {f : V → Hp → VK → XK → Prop} {E : XK} {x : V} (h : f x H Q E) : Sp1 f [x] H Q E := ⟨x, rfl, h⟩
theorem wSp2 {f : V → V → Hp → VK → XK → Prop} {E : XK} {x y : V} (h : f x y H Q E) : Sp2 f [x, y] H Q E := ⟨x, y, rfl, h⟩
theorem wSp3 {f : V → V → V → Hp → VK → XK → Prop} {E : XK} {x y z : V} (h : f x y z H Q E) : Sp3 f [x, y, z] H Q E := ⟨x, y, z, rfl, h⟩
theorem wSp4 {f : V → V → V → V → Hp → VK → XK → Prop} {E : XK} {x y z z' : V} (h : f x y z z' H Q E) : Sp4 f [x, y, z, z'] H Q E := ⟨x, y, z, z', rfl, h⟩
/-- loops -/
theorem wListI {R : It → Hp → Prop} {tl : TE} (h : tl σ H fun x H1 => ∃ a, x = .ref a ∧ (∃ xs, SqL K H1 a xs) ∧ R (Itl K a) H1) : iList K tl σ H R := h
theorem wForL {tb : TS} (s : SqL K H a xs) (Pv : Nat → St → Hp → Prop) (h0 : Pv 0 σ H) (hl : ∀ i σ H, i ≤ xs.length → Pv i σ H → SqL K H a xs)
    (hs : ∀ i x σ H, xs[i]? = some x → Pv i σ H → g x σ H fun σ2 H2 => tb ⟨Pv (i + 1), rt, nx, Pv (i + 1)⟩ σ2 H2) (hd : ∀ σ H, Pv xs.length σ H → nx σ H) :
    ∃ a', V.ref a = .ref a' ∧ (∃ xs, SqL K H a' xs) ∧ ∃ W : Nat → Nat → St → Hp → Prop, (∃ m, W 0 m σ H) ∧ ∀ i m σ H, W i m σ H →
  ((Itl K a').stop i H ∧ nx σ H) ∨ ((Itl K a').go i H ∧ ∃ N : St → Hp → Prop, (∀ σ' H', N σ' H' → ∃ m', m' < m ∧ W (i + 1) m' σ' H') ∧ ∀ x H', (Itl K a').yld i H x H' → g x σ H' fun σ2 H2 => tb ⟨N, rt, nx, N⟩ σ2 H2) :=
  ⟨a, rfl, ⟨xs, s⟩, for_list (D := ⟨nx, rt, fun _ _ => False, fun _ _ => False⟩) Pv h0 hl hs hd⟩
end
end Z

set_option Elab.async false
set_option linter.all false
set_option maxRecDepth 100000
namespace Z
open PySem L2
/-! ### kinds of things -/
inductive Kd where
  | non | bl | int | str | lst | tup | dct
def Kd.ty : Kd → Value
  | .non => .type "NoneType"
  | .bl => .type "bool"
  | .int => .type "int"
  | .str => .type "str"
  | .lst => .type "list"
  | .tup => .type "tuple"
  | .dct => .type "dict"
/-- isinstance's answers -/
def Kd.isInt : Kd → Bool | .int => true | .bl => true | _ => false
def Kd.isBool : Kd → Bool | .bl => true | _ => false
def Kd.isStr : Kd → Bool | .str => true | _ => false
def Kd.isList : Kd → Bool | .lst => true | _ => false
def Kd.isTuple : Kd → Bool | .tup => true | _ => false
inductive HasK (K : PySem.W.Frag) (H : Hp) : V → Kd → Prop where
  | non : HasK K H .non .non
  | bl (b : Bool) : HasK K H (.bl b) .bl
  | int (i : Int) : HasK K H (.int i) .int
  | str (z : Str) : HasK K H (.str z) .str
  | lst {a : Addr} {xs : List V} (s : SqL K H a xs) : HasK K H (.ref a) .lst
  | tup {a : Addr} {xs : List V} (s : SqT K H a xs) : HasK K H (.ref a) .tup
  | dct {a : Addr} {kvs : List (Key × V)} (e : H a = some (.dK kvs)) : HasK K H (.ref a) .dct
section
variable {K : PySem.W.Frag} {H H' : Hp} {x : V} {k : Kd} {Q : VK} {L : List En} {a p : Addr}
theorem HasK.tyx (h : HasK K H x k) : TyX K H x k.ty := by
  cases h with
  | non => exact .base .non
  | bl b => exact .base (.bl b)
  | int i => exact .base (.int i)
  | str z => exact .base (.str z)
  | lst s =>
    rcases s with (h | ⟨o, h⟩) | ⟨o, its, n, h1, h2, _⟩
    · exact .base (.lst h)
    · exact .base (.frz h)
    · exact .kList h1 h2
  | tup s =>
    rcases s with (h | ⟨o, h⟩) | h
    · exact .base (.tup h)
    · exact .fTuple h
    · obtain ⟨o, its, n, h1, h2, _⟩ := h
      exact .kTuple h1 h2
  | dct e => exact .base (.dK e)
theorem HasK.mono (h : HasK K H x k) (e : Same H H') : HasK K H' x k := by
  cases h with
  | non => exact .non
  | bl b => exact .bl b
  | int i => exact .int i
  | str z => exact .str z
  | lst s => exact .lst (e.seq s)
  | @tup b ys s =>
    have s' : SqT K H' b ys := by
      rcases s with (h | ⟨o, h⟩) | h
      · exact .inl (.inl (e _ _ h))
      · exact .inl (.inr
            ⟨o, e _ _ h⟩)
      · exact .inr h
    exact .tup s'
  | dct h => exact .dct (e _ _ h)
theorem kit_int : PySem.W.kitOne K k.ty (.type "int") = some k.isInt := by cases k <;> exact kit_ty (by decide +kernel)
theorem kit_bool : PySem.W.kitOne K k.ty (.type "bool") = some k.isBool := by cases k <;> exact kit_ty (by decide +kernel)
theorem kit_str : PySem.W.kitOne K k.ty (.type "str") = some k.isStr := by cases k <;> exact kit_ty (by decide +kernel)
theorem kit_list : PySem.W.kitOne K k.ty (.type "list") = some k.isList := by cases k <;> exact kit_ty (by decide +kernel)
theorem kit_tuple : PySem.W.kitOne K k.ty (.type "tuple") = some k.isTuple := by cases k <;> exact kit_ty (by decide +kernel)
theorem wIsiInt (h : HasK K H x k) (q : Q (.bl k.isInt) H) : rOrC (rIsi K) (rIsiT K) [x, .ty "int"] H Q := .inl ⟨x, _, _, _, _, rfl, .ty _, h.tyx, kit_int, q⟩
theorem wIsiBool (h : HasK K H x k) (q : Q (.bl k.isBool) H) : rOrC (rIsi K) (rIsiT K) [x, .ty "bool"] H Q := .inl ⟨x, _, _, _, _, rfl, .ty _, h.tyx, kit_bool, q⟩
theorem wIsiStr (h : HasK K H x k) (q : Q (.bl k.isStr) H) : rOrC (rIsi K) (rIsiT K) [x, .ty "str"] H Q := .inl ⟨x, _, _, _, _, rfl, .ty _, h.tyx, kit_str, q⟩
theorem wIsiList (h : HasK K H x k) (q : Q (.bl k.isList) H) : rOrC (rIsi K) (rIsiT K) [x, .ty "list"] H Q := .inl ⟨x, _, _, _, _, rfl, .ty _, h.tyx, kit_list, q⟩
theorem wIsiTuple (h : HasK K H x k) (q : Q (.bl k.isTuple) H) : rOrC (rIsi K) (rIsiT K) [x, .ty "tuple"] H Q := .inl ⟨x, _, _, _, _, rfl, .ty _, h.tyx, kit_tuple, q⟩
theorem wIsiLT (h : HasK K H x k) (F : Fx H L) (m : En.ob p (.tup [.ty "list", .ty "tuple"]) ∈ L) (q : Q (.bl (k.isList || k.isTuple)) H) : rOrC (rIsi K) (rIsiT K) [x, .ref p] H Q :=
  .inr ⟨x, p, _, _, _, _, rfl, F.get m, .cons (.ty _) (.cons (.ty _) .nil), h.tyx, kitAny_cons kit_list (fun e => by rw [e]; exact kitAny_cons kit_tuple (fun e => by rw [e]; exact kitAny_nil) (fun e => by rw [e]; rfl)) (fun e => by rw [e]; rfl), q⟩
/-- a whole number within bounds, by is_whole's own words -/
def inB (x : V) (lo hi : V) : Bool := match x with
  | .int i => (match lo with | .int l => decide (l ≤ i) | _ => true) && (match hi with | .int h => decide (i ≤ h) | _ => true)
  | _ => false
end
/-! ### a fact of the heap as an entry: a sequence of the script's kind -/
theorem seq_keep {K : PySem.W.Frag} {H : Hp} {a : Addr} {xs : List V} (s : SqL K H a xs) (L : List En) (F : Fx H L) (n : a ∉ L.flatMap En.fp) : ∃ L0 : List En, Fx H (L0 ++ L) ∧ ∀ H' L', Fx H' (L' ++ (L0 ++ L)) → SqL K H' a xs := by
  rcases s with (h | ⟨o, h⟩) | h
  · exact ⟨[.ob a (.lst xs)], F.add h n, fun H' L' F' => .inl (.inl (F'.get (List.mem_append_right _ (List.mem_append_left _ List.mem_cons_self))))⟩
  · exact ⟨[.ob a (.frz o (.lst xs))], F.add h n, fun H' L' F' => .inl (.inr ⟨o, F'.get (List.mem_append_right _ (List.mem_append_left _ List.mem_cons_self))⟩)⟩
  · exact ⟨[], F, fun H' L' F' => .inr h⟩
end Z
namespace Z
open PySem L2
theorem Fx.perm {H : Hp} {L L' : List En} (F : Fx H L) (p : L.Perm L') : Fx H L' := by
  refine ⟨fun e he => F.1 e (p.mem_iff.mpr he), ?_⟩
  have q : (L.flatMap En.fp).Perm (L'.flatMap En.fp) := by
    induction p with
    | nil => exact List.Perm.refl _
    | cons x _ ih =>
      rw [List.flatMap_cons, List.flatMap_cons]
      exact (ih ⟨fun e he => F.1 e (List.mem_cons_of_mem _ he), (List.nodup_append.mp (by have := F.2; rwa [List.flatMap_cons] at this)).2.1⟩).append_left _
    | swap x y l =>
      rw [List.flatMap_cons, List.flatMap_cons, List.flatMap_cons, List.flatMap_cons, ← List.append_assoc, ← List.append_assoc]
      exact List.perm_append_comm.append_right _
    | trans p1 p2 ih1 ih2 =>
      have q1 := ih1 F
      exact q1.trans (ih2 ⟨fun e he => F.1 e (p1.mem_iff.mpr he), q1.nodup_iff.mp F.2⟩)
  exact q.nodup_iff.mp F.2
/-- the draws' list, opened and shut again -/
theorem Fx.open {H : Hp} {L : List En} {l c : Addr} (F : Fx H L) (hm : En.hand l c ∈ L) : ∃ (ns : List Int) (i j t : Int) (L1 : List En), 0 ≤ i ∧ Fx H (.ob l (.lst [.ref c, .int i, .int j, .int t]) :: .ob c (.lst (ns.map V.int)) :: L1) ∧
    ∀ H' (ns' : List Int) (i' j' t' : Int), 0 ≤ i' → Fx H' (.ob l (.lst [.ref c, .int i', .int j', .int t']) :: .ob c (.lst (ns'.map V.int)) :: L1) → Fx H' L := by
  obtain ⟨ns, i, j, t, h0, h1, h2⟩ := F.gh hm
  obtain ⟨A, B, rfl⟩ := List.append_of_mem hm
  have G := F.perm List.perm_middle
  refine ⟨ns, i, j, t, A ++ B, h0, ⟨fun e he => ?_, G.2⟩, fun H' ns' i' j' t' h0' G' => ?_⟩
  · rcases List.mem_cons.mp he with e1 | he
    · subst e1; exact h1
    · rcases List.mem_cons.mp he with e1 | he
      · subst e1; exact h2
      · exact G.1 e (List.mem_cons_of_mem _ he)
  · have G2 : Fx H' (.hand l c :: (A ++ B)) := by
      refine ⟨fun e he => ?_, G'.2⟩
      rcases List.mem_cons.mp he with e1 | he
      · subst e1
        exact ⟨ns', i', j', t', h0', G'.get List.mem_cons_self, G'.get (List.mem_cons_of_mem _ List.mem_cons_self)⟩
      · exact G'.1 e (List.mem_cons_of_mem _ (List.mem_cons_of_mem _ he))
    exact G2.perm List.perm_middle.symm
/-- the draws' list, opened and shut again -/
theorem Fx.open5 {H : Hp} {L : List En} {l c : Addr} (F : Fx H L) (hm : En.hand5 l c ∈ L) : ∃ (ns : List Int) (i j t u : Int) (L1 : List En), 0 ≤ i ∧ Fx H (.ob l (.lst [.ref c, .int i, .int j, .int t, .int u]) :: .ob c (.lst (ns.map V.int)) :: L1) ∧
    ∀ H' (ns' : List Int) (i' j' t' u' : Int), 0 ≤ i' → Fx H' (.ob l (.lst [.ref c, .int i', .int j', .int t', .int u']) :: .ob c (.lst (ns'.map V.int)) :: L1) → Fx H' L := by
  obtain ⟨ns, i, j, t, u, h0, h1, h2⟩ : HandAt5 H l c := F.1 _ hm
  obtain ⟨A, B, rfl⟩ := List.append_of_mem hm
  have G := F.perm List.perm_middle
  refine ⟨ns, i, j, t, u, A ++ B, h0, ⟨fun e he => ?_, G.2⟩, fun H' ns' i' j' t' u' h0' G' => ?_⟩
  · rcases List.mem_cons.mp he with e1 | he
    · subst e1; exact h1
    · rcases List.mem_cons.mp he with e1 | he
      · subst e1; exact h2
      · exact G.1 e (List.mem_cons_of_mem _ he)
  · have G2 : Fx H' (.hand5 l c :: (A ++ B)) := by
      refine ⟨fun e he => ?_, G'.2⟩
      rcases List.mem_cons.mp he with e1 | he
      · subst e1
        exact ⟨ns', i', j', t', u', h0', G'.get List.mem_cons_self, G'.get (List.mem_cons_of_mem _ List.mem_cons_self)⟩
      · exact G'.1 e (List.mem_cons_of_mem _ (List.mem_cons_of_mem _ he))
    exact G2.perm List.perm_middle.symm
theorem at_ints {ns : List Int} {i : Nat} (h : i < ns.length) : atI (ns.map V.int) (i : Int) = some (V.int (ns.getD i 0)) := by
  have e : (ns.map V.int)[i]? = some (V.int (ns.getD i 0)) := by
    rw [List.getElem?_map, List.getElem?_eq_getElem h,
          List.getD_eq_getElem?_getD, List.getElem?_eq_getElem h]
    rfl
  exact at_of rfl e

theorem ixN_of {n : Nat} {k : Int} (h0 : 0 ≤ k) (h1 : k < n) : ixN n k = some k.toNat := by
  unfold ixN
  rw [if_pos h0, if_pos h1]
theorem at_intsI {ns : List Int} {k : Int} (h0 : 0 ≤ k) (h1 : k < ns.length) : atI (ns.map V.int) k = some (V.int (ns.getD k.toNat 0)) := by
  have e : k = ((k.toNat : Nat) : Int) := (Int.toNat_of_nonneg h0).symm
  have h2 : k.toNat < ns.length := by omega
  have q := at_ints (ns := ns) h2
  rw [← e] at q
  exact q
section
variable {K : PySem.W.Frag} {H : Hp} {Q : VK} {L : List En} {a : Addr} {ns : List Int} {k : Int} {xs : List V}
theorem wIxLi (s : SqL K H a (ns.map V.int)) (h0 : 0 ≤ k) (h1 : k < ns.length) (h : Q (.int (ns.getD k.toNat 0)) H) : rIx K (.ref a) (.int k) H Q := wIxL s (at_intsI h0 h1) h
theorem wIxTi (s : SqT K H a (ns.map V.int)) (h0 : 0 ≤ k) (h1 : k < ns.length) (h : Q (.int (ns.getD k.toNat 0)) H) : rIx K (.ref a) (.int k) H Q := wIxT s (at_intsI h0 h1) h
theorem wLenLi (s : SqL K H a (ns.map V.int)) (h : Q (.int ns.length) H) : rLen K [.ref a] H Q := by
  have := wLenL (Q := Q) s
  rw [List.length_map] at this
  exact this h
theorem wLenTi (s : SqT K H a (ns.map V.int)) (h : Q (.int ns.length) H) : rLen K [.ref a] H Q := by
  have := wLenT (Q := Q) s
  rw [List.length_map] at this
  exact this h
end

theorem log_small {m : Int} (h0 : 0 ≤ m) (h1 : m < 1000000000000) : m.natAbs.log2 < 9000 := by
  have h2 : m.natAbs < 2 ^ 40 := by omega
  exact Nat.lt_of_lt_of_le (PySem.Flt.log2_lt_of (by decide) h2) (by decide)

theorem int_of_map {ns : List Int} {i : Nat} {x : V} (h : (ns.map V.int)[i]? = some x) : ∃ z, x = V.int z := by
  rw [List.getElem?_map] at h
  cases e : ns[i]? with
  | none => rw [e]
        at h; cases h
  | some z => rw [e] at h; exact ⟨z, (Option.some.inj h).symm⟩
theorem int_of_map' {ns : List Int} {i : Nat} {x : V} (h : (ns.map V.int)[i]? = some x) : ∃ z, x = V.int z ∧ ns[i]? = some z := by
  rw [List.getElem?_map] at h
  cases e : ns[i]? with
  | none => rw [e]
        at h; cases h
  | some z => rw [e] at h; exact ⟨z, (Option.some.inj h).symm, rfl⟩
theorem line_big : 1000000 ≤ sizeLine := by rw [sizeLine_eq]; decide
end Z

set_option Elab.async false
set_option linter.all false
set_option maxRecDepth 100000
set_option maxHeartbeats 2000500
namespace Z
open PySem L2 PySem.W
/-! ### == and != of an instance by its class's own __eq__ -/
section
variable {prog : Program} {w : World} {A : Around} {E : Value → Shared → Prop} {s : Shared} {K : Frag} {x C L f : Addr} {h₀ : Heap} {m : Str → Option Value} {ox : Obj} {od : Option Obj} {b tb : Value}
theorem ifBound_ne {args : List Value} {Q : Option Value → Shared → Prop} (X : K.In s.heap) (I : InstAt s.heap x ox C od) (hs : findIn K (.ref C) "__ne__" = some (some (.builtin "object.__ne__")))
    (h : wpAny (model prog w) A (call (.builtin "object.__ne__") (.ref x :: args)) (fun v => Q (some v)) E s) : wpAny (model prog w) A (callSpecialIfBound? (.ref x) "__ne__" args) Q E s := by
  simp only [callSpecialIfBound?,
        bindSpecialIfBound?]
  refine wpAny_holding (wpAny_bind (wpAny_bind (wpAny_bind
        (I.type.here ((looks_findIn X hs).here ?_)))))
  refine wpAny_bind
        (wpAny_askSetting (wpAny_ite ?_))
  have fin : wpAny (model prog w) A (call (.builtin "object.__ne__") ([.ref x] ++ args) >>= fun v => pure (some v)) Q E s := wpAny_bind (wpAny_mono h (fun v s' h' => wpAny_pure h') fun _ _ h' => h')
  have S := F.cmp_object.ne
  split
  · simp only [S.bind]
    exact wpAny_bind (wpAny_pure (wpAny_pure (by exact fin)))
  · simp only [S.bind]
    exact wpAny_tryCatch (wpAny_bind (wpAny_pure (wpAny_pure (by exact fin))))

theorem cmp_one {op : CmpOp} {Q : Value → Shared → Prop} (hu : A.units < cLine) (X : K.In s.heap) (I : InstAt s.heap x ox C od) (hb : Looks (model prog w) s.heap (typeOf b) tb) (hn : notFirst K C tb = true)
    (one : wpAny (model prog w) A (tryCompare (.ref x) (cmpInfo op).2.1 b) (fun r s' => ∃ v, r = some v ∧ Q v s') E s) : wpAny (model prog w) A (richCompare op (.ref x) b) Q E s := by
  unfold richCompare
  simp only [oneThing_ref]
  refine wpAny_holding (wpAny_bind
        (wpAny_cRoomFor hu ?_))
  refine wpAny_bind (I.type.here
        (wpAny_bind (hb.here ?_)))
  split
  · rename_i q
    have e : subIn K tb (.ref
          C) = some false := by
      rcases Bool.or_eq_true_iff.mp
            hn with e | e
      · rw [beq_iff_eq.mp
            e] at q; simp at q
      · exact beq_iff_eq.mp e
    refine wpAny_bind
          ((looks_subIn X e).here ?_)
    simp only [Bool.false_eq_true,
          if_false]
    refine wpAny_bind (wpAny_mono one
          (fun r s' z => ?_) fun _ _ e => e)
    obtain ⟨v, rfl, hq⟩ := z
    exact wpAny_pure hq
  · refine wpAny_bind
        (wpAny_pure ?_)
    simp only [Bool.false_eq_true,
          if_false]
    refine wpAny_bind (wpAny_mono one
          (fun r s' z => ?_) fun _ _ e => e)
    obtain ⟨v, rfl, hq⟩ := z
    exact wpAny_pure hq
theorem ne_entry {Q : Fin → Shared → Prop} (hu : A.units < cLine) (X : K.In s.heap) (I : InstAt s.heap x ox C od) (hs : findIn K (.ref C) "__eq__" = some (some (.ref f))) (hf : isFn K (.ref f) = true)
    (h : wpAny (model prog w) A (call (.ref f) [.ref x, b]) (fun v s' => ∃ r : Bool, v = .bool r ∧ Q (.done (.ret (.bool (!r)))) s') E s) : wpAny (model prog w) A (Builtin.«object.__ne__» ⟨[.ref x, b], []⟩) Q E s := by
  have key : wpAny (model prog w) A (callSpecialIfBound? (.ref x) "__eq__" [b]) (fun o s' => ∃ r : Bool, o = some (.bool r) ∧ Q (.done (.ret (.bool (!r)))) s') E s := by
    refine ifBound_K X I hs hf (wpAny_mono h (fun v s' hv => ?_) fun _ _ e => e)
    obtain ⟨r, rfl, q⟩ := hv
    exact ⟨r, rfl, q⟩
  unfold
        Builtin.«object.__ne__»
  show wpAny (model prog w) A (cRoomFor "comparison" [.ref x, b] >>= _) Q E s
  refine wpAny_bind
        (wpAny_cRoomFor hu ?_)
  refine wpAny_bind (wpAny_mono key (fun o s' z => ?_) fun _ _ e => e)
  obtain ⟨r, rfl, q⟩ := z
  show wpAny (model prog w) A (truthy (.bool r) >>= _) Q E s'
  exact wpAny_bind (wpAny_truthy_bool (wpAny_pure q))
theorem cmp_Kne {Q : Value → Shared → Prop} (hu : A.units + 1 < cLine) (X : K.In s.heap) (I : InstAt s.heap x ox C od) (hb : Looks (model prog w) s.heap (typeOf b) tb) (hn : notFirst K C tb = true)
    (hne : findIn K (.ref C) "__ne__" = some (some (.builtin "object.__ne__"))) (hs : findIn K (.ref C) "__eq__" = some (some (.ref f))) (hf : isFn K (.ref f) = true) (hm : mroIn K C (.type "object") = some true)
    (h : wpAny (model prog w) A.in1 (call (.ref f) [.ref x, b]) (fun v s' => ∃ r : Bool, v = .bool r ∧ Q (.bool (!r)) s') E s) : wpAny (model prog w) A (richCompare .NotEq (.ref x) b) Q E s := by
  refine cmp_one (Nat.lt_of_succ_lt hu) X I hb hn ?_
  show wpAny (model prog w) A (tryCompare (.ref x) "__ne__" b) _ E s
  unfold tryCompare
  have sub : Looks (model prog w) s.heap (isInstance (.ref x) (.type "object")) true := I.type.andThen (looks_mroIn X hm)
  refine wpAny_bind (ifBound_ne X I hne (wpAny_call (codeAny_call_builtin F.cmp_object.ne.plain F.cmpEntry_ne (@check_slot (model prog w) _ _ s "object.__ne__" "object" "__ne__" (.ref x) [b] [] _ F.cmpKind_ne F.cmpSplit_ne sub (F.cmpArgs_ne _ _) ?_))))
  refine ne_entry (A := A.in1) hu X I hs hf (wpAny_mono h (fun v s' z => ?_) fun _ _ e => e)
  obtain ⟨r, rfl, q⟩ := z
  exact ⟨r, rfl, wpAny_pure ⟨_, rfl, q⟩⟩
end

structure OwnEqF (K : PySem.W.Frag) (C f : Addr) : Prop where
  eq : PySem.W.findIn K (.ref C) "__eq__" = some (some (.ref f))
  ne : PySem.W.findIn K (.ref C) "__ne__" = some (some (.builtin "object.__ne__"))
  fn : PySem.W.isFn
        K (.ref f) = true
  ob : PySem.W.mroIn K C (.type "object") = some true
def rOwn (K : PySem.W.Frag) (C : Addr) (sp : Sp) (g : Bool → Bool) : R2 := fun x y H Q => ∃ a dx fs tb, x = .ref a ∧ H a = some (.ins C dx fs) ∧ TyX K H y tb ∧ PySem.W.notFirst K C tb = true ∧ sp [x, y] H (fun v H' => ∃ b, v = .bl b ∧ Q (.bl (g b)) H') E0
section
variable {X : Cx} {k : Nat} {C f : Addr} {fd : FuncData} {ps : List Str} {sp : Sp}
theorem own_call {A : Around} {pins : List (Addr × Obj)} {σ : St} {H : Hp} {s : Shared} {Q : VK} {x y : V} {u v : Value} (F : FnOk X.prog X.w X.K X.mg X.base CX0 k f fd ps sp) (hb : Binds X.K fd ps []) (hr : Room k A) (hf : A.frames = X.A.frames)
    (I : L2.Inv X pins σ H s) (rx : RelV x u) (ry : RelV y v) (h : sp [x, y] H Q E0) : wpAny (model X.prog X.w) A (call (.ref f) [u, v]) (EP X pins σ Q) X.xe s := by
  have e0 : Env0 X.prog X.w X.K
        X.mg X.base A X.stack s H := by
    have e := I.env0
    exact ⟨by rw [hf]; exact e.frames, e.mod, e.bs, e.bsz, e.funs, e.frf, e.hok, e.bare⟩
  have hl := F.len _ _ _ _ h
  have r2 : Vals [x, y] [u, v] := .cons rx (.cons ry .nil)
  refine wpAny_call (codeAny_mono (F.run A X.stack s H ⟨[u, v], []⟩ [u, v] [x, y] _ E0 hr e0 (by
    have := hb s [u, v] I.kIn (by simpa using hl)
    simpa using this) r2 h) fun r s' hq => ?_)
  cases r with
  | error e => exact
        False.elim hq
  | ok fl =>
    cases fl with
    | ret w => exact I.after hq
    | next => exact False.elim hq
    | brk => exact False.elim hq
    | cont => exact False.elim hq
theorem op_eqOwn (F : FnOk X.prog X.w X.K X.mg X.base CX0 k f fd ps sp) (q : OwnEqF X.K C f) (hb : Binds X.K fd ps []) (hr : Room k X.A) : OpR X (compareOp .Eq) (rOwn X.K C sp id) := by
  intro pins s σ H x
        y v u Q I rx ry h
  obtain ⟨a, dx, fs, tb, rfl, ha, ty, nf, hsp⟩ := h
  cases rx
  obtain ⟨mA, J, _⟩
        := ins_get I.hok ha
  obtain ⟨od, J, _⟩ := J.look
  obtain ⟨P, Z, p, _⟩ := kit_of I ry ty
  show wpAny (model X.prog X.w) X.A (richCompare .Eq (.ref a) u) (EP X pins σ Q) X.xe s
  refine cmp_one hr.units0 I.kIn J (Z.ty _ _ I.kIn p) nf ?_
  show wpAny (model X.prog X.w) X.A (tryCompare (.ref a) "__eq__" u) _ X.xe s
  unfold tryCompare
  refine wpAny_bind (PySem.W.ifBound_K I.kIn J q.eq q.fn (wpAny_mono (own_call F hb hr rfl I (show RelV (V.ref a) (Value.ref a) from rfl) ry hsp) (fun v s' z => ?_) fun _ _ e => e))
  obtain ⟨v', H', I', rv, b, eb, hq⟩ := z
  subst eb
  cases rv
  exact wpAny_pure ⟨_, rfl, .bl b, H', I', rfl, hq⟩
theorem op_neOwn (F : FnOk X.prog X.w X.K X.mg X.base CX0 k f fd ps sp) (q : OwnEqF X.K C f) (hb : Binds X.K fd ps []) (hr : Room (k + 1) X.A) : OpR X (compareOp .NotEq) (rOwn X.K C sp not) := by
  intro pins s σ H x
        y v u Q I rx ry h
  obtain ⟨a, dx, fs, tb, rfl, ha, ty, nf, hsp⟩ := h
  cases rx
  obtain ⟨mA, J, _⟩
        := ins_get I.hok ha
  obtain ⟨od, J, _⟩ := J.look
  obtain ⟨P, Z, p, _⟩ := kit_of I ry ty
  show wpAny (model X.prog X.w) X.A (richCompare .NotEq (.ref a) u) (EP X pins σ Q) X.xe s
  refine cmp_Kne (by have := hr.units; omega) I.kIn J (Z.ty _ _ I.kIn p) nf q.ne q.eq q.fn q.ob (wpAny_mono (own_call F hb hr.in1 rfl I (show RelV (V.ref a) (Value.ref a) from rfl) ry hsp) (fun v s' z => ?_) fun _ _ e => e)
  obtain ⟨v', H', I', rv, b, eb, hq⟩ := z
  subst eb
  cases rv
  exact ⟨b, rfl, .bl (!b), H', I', rfl, hq⟩
end
end Z

set_option Elab.async false
set_option linter.all false
set_option maxRecDepth 100000
set_option maxHeartbeats 2000500
namespace Z
open PySem L2
/-! ### errors -/
/-- what the written part says of an error class: it is raised, caught by its own name -/
structure ErrF (K : PySem.W.Frag) (C : Addr) : Prop where
  oex : OexC K C
  xf : XfC K C
  me : PySem.W.exmOne K (.ref C) (.ref C) = some true
/-- its __init__ at fI -/
structure ErrI (K : PySem.W.Frag) (C fI : Addr) : Prop where
  iC : PySem.W.findIn K (.ref C) "__init__" = some (some (.ref fI))
  tI : PySem.W.typeIn K (.ref fI) = some (.type "function")
section
variable {X : Cx} {CX : CXT} {C fI : Addr} {k : Nat} {fd : FuncData} {ps : List Str} {sp : Sp} {ta : TA} {x : Str} {e : Expr} {es : List Expr} {p pos : Pos}
theorem pmk_err (T : ErrF X.K C) (iC : ErrI X.K C fI) (F1 : FnOk X.prog X.w X.K X.mg X.base CX0 k fI fd ps sp) (hb : Binds X.K fd ps []) (hr : Room (k + 1) X.A) (hm : X.mg x = some (.ref C)) (hg : Gl X x) (ha : PA X (e :: es) ta)
    (hdb : (x == ("__debug__" : Str)) = false := by decide) (he : starEach (e :: es) X.env = (false, eval e
          X.env) :: starEach es X.env := by rfl) (hpl : (backTo pos (starEach es X.env)).any (·.1) = false := by rfl) :
    PMk X (.Call (.Name x p) (e :: es) [] pos) (tMkO C sp [] ta) :=
  pmk_oex (dvs := []) (ds := []) T.oex iC.iC iC.tI F1 hr hb .nil (fun _ _ _ _ _ _ _ h => h.elim) hg hm ha hdb he hpl
end
/-- an __init__ that keeps one thing under one name -/
def spErr1 (K : PySem.W.Frag) (f : Str) : Sp := Sp2 fun a b H Q E => ∃ (q C : Addr), a = .ref q ∧ OexC K C ∧ PySem.W.findIn K (.ref C) f = some none ∧ H q = some (exo q C none) ∧
  ∀ d, H d = none → d ≠ q → Q .non (upd (upd H d (exd d [(f, b)])) q (exo q C (some d)))
def spErr2 (K : PySem.W.Frag) (f g : Str) : Sp := Sp3 fun a b c H Q E => ∃ (q C : Addr), a = .ref q ∧ OexC K C ∧ PySem.W.findIn K (.ref C) f = some none ∧ PySem.W.findIn K (.ref C) g = some none ∧ H q = some (exo q C none) ∧
  ∀ d, H d = none → d ≠ q → Q .non (upd (upd (upd H d (exd d [(f, b)])) q (exo q C (some d))) d (exd d [(g, c), (f, b)]))
theorem exd_ne {q C d : Addr} {o : Option Addr} {fs : List (Str × V)} : exo q C o ≠ exo q C o → False := fun h => h rfl
section
variable {K : PySem.W.Frag} {H H' : Hp} {L : List En} {C : Addr} {E : XK} {EK : XK} {ts : TA} {f g : Str} {v w : V}
/-- the heap behind an error's making -/
theorem Fx.made {a d : Addr} {o : HO} {H2 : Hp} (F : Fx H L) (ha : H a = none) (hd : H d = none) (k : ∀ b, b ≠ a → b ≠ d → H2 b = H b) : Fx (upd (del H2 a) d o) (.ob d o :: L) := by
  have F1 : Fx (upd (del H2 a) d o) L := F.same fun b u q => by
    have nb := ne_of_none q hd
    have na := ne_of_none q ha
    rw [upd_ne nb, del_ne na, k b na nb]
    exact q
  refine F1.add upd_same fun h => ?_
  obtain ⟨e, he, hm⟩ := List.mem_flatMap.mp h
  obtain ⟨o, q⟩ := En.there (F.1 e he) hm
  rw [hd] at q
  cases q
theorem wMk1 (T : OexC K C) (n : PySem.W.findIn K (.ref C) f = some none) (F : Fx H L) (k : ∀ d H', Fx H' (.ob d (.xd [(f, v)]) :: L) → EK (.ref C) (some d) H') :
    [v].length ≤ 1000 ∧ ∀ a, H a = none → spErr1 K f (.ref a :: ([v] ++ [])) (upd H a (exo a C none))
  (fun v H2 => v = .non ∧ ∃ (d : Addr) (fs : List (Str × V)), H2 a = some (exo a C (some d)) ∧ H2 d = some (exd d fs) ∧ H d = none ∧ EK (.ref C) (some d) (upd (del H2 a) d (.xd fs))) (fun _ _ _ => False) := by
  refine ⟨Nat.le_of_ble_eq_true rfl, fun a ha => ⟨_, _, rfl, a, C, rfl, T, n, upd_same, fun d hd hn => ⟨rfl, d, _, upd_same, ?_, ?_, k d _ (F.made ha ?_ fun b h1 h2 => ?_)⟩⟩⟩
  · rw [upd_ne hn, upd_same]
  · rw [upd_ne hn] at hd; exact hd
  · rw [upd_ne hn] at hd; exact hd
  · rw [upd_ne h1, upd_ne h2, upd_ne h1]
theorem wMk2 (T : OexC K C) (n : PySem.W.findIn K (.ref C) f = some none) (n' : PySem.W.findIn K (.ref C) g = some none) (F : Fx H L) (k : ∀ d H', Fx H' (.ob d (.xd [(g, w), (f, v)]) :: L) → EK (.ref C) (some d) H') :
    [v, w].length ≤ 1000 ∧ ∀ a, H a = none → spErr2 K f g (.ref a :: ([v, w] ++ [])) (upd H a (exo a C none))
  (fun v H2 => v = .non ∧ ∃ (d : Addr) (fs : List (Str × V)), H2 a = some (exo a C (some d)) ∧ H2 d = some (exd d fs) ∧ H d = none ∧ EK (.ref C) (some d) (upd (del H2 a) d (.xd fs))) (fun _ _ _ => False) := by
  refine ⟨Nat.le_of_ble_eq_true rfl, fun a ha => ⟨_, _, _, rfl, a, C, rfl, T, n, n', upd_same, fun d hd hn => ⟨rfl, d, _, ?_, upd_same, ?_, k d _ (F.made ha ?_ fun b h1 h2 => ?_)⟩⟩⟩
  · rw [upd_ne (Ne.symm hn), upd_same]
  · rw [upd_ne hn] at hd; exact hd
  · rw [upd_ne hn] at hd; exact hd
  · rw [upd_ne h2, upd_ne h1, upd_ne h2, upd_ne h1]
end
theorem owns {X : Cx} {K : Value → Shared → Prop} {E₁ : Value → Shared → Prop} (hx : X.xe = fun e s' => wpAny (model X.prog X.w) X.A (leaving X.env e) (fun _ s'' => K e s'') E₁ s') : PassesOwn (model X.prog X.w) X.A X.env X.xe := passes_of hx
/-! ### an instance is made in a try -/
section
variable {X : Cx} {CX : CXT} {k : Nat} {f C : Addr} {fd : FuncData} {ps : List Str} {ds : List Value} {dvs : List V} {sp : Sp} {E : St → XK} {x : Str} {p pos : Pos} {e : Expr} {es : List Expr} {t : TA}
def tMakeS (C : Addr) (sp : Sp) (dvs : List V) (E : St → XK) (t : TA) : TE := fun σ H Q => t σ H fun vs H1 => ∀ x dx, H1 x = none → H1 dx = none → dx ≠ x →
  sp (.ref x :: (vs ++ dvs)) (upd (upd H1 dx (.own x)) x (.ins C dx [])) (fun v H2 => v = .non ∧ Q (.ref x) H2) (E σ)
theorem run_makeS {pins : List (Addr × Obj)} {σ : St} {H : Hp} {s : Shared} {Q : VK} {us : List Value} {vs : List V} (M : Mk X.K C f) (F : FnOk X.prog X.w X.K X.mg X.base CX k f fd ps sp) (hr : Room (k + 1) X.A) (hb : Binds X.K fd ps ds) (hd : Vals dvs ds)
    (hx : PassesAt CX X σ (E σ)) (I : L2.Inv X pins σ H s) (r : Vals vs us)
    (h : ∀ x dx, H x = none → H dx = none → dx ≠ x → sp (.ref x :: (vs ++ dvs)) (upd (upd H dx (.own x)) x (.ins C dx [])) (fun v H2 => v = .non ∧ Q (.ref x) H2) (E σ)) :
    wpAny (model X.prog X.w) X.A (call (.ref
          C) us) (EP X pins σ Q) X.xe s := by
  have hq := h (s.heap.objs.size + 1) s.heap.objs.size (I.hok.fresh (Nat.le_succ
        _)) (I.hok.fresh (Nat.le_refl _)) (Nat.ne_of_lt (Nat.lt_succ_self _))
  have I2 := Inv.made
        (C := C) I
  have r2 : Vals (V.ref (s.heap.objs.size + 1) :: (vs ++ dvs)) (Value.ref
        (s.heap.objs.size + 1) :: (us ++ ds)) := .cons rfl (r.append hd)
  have hl : (Value.ref (s.heap.objs.size +
        1) :: us ++ ds).length = ps.length := by
    have e := r2.length
    rw [F.len _ _ _ _ hq] at e
    exact e.symm
  refine wpAny_call (make_map (f := f) I.kIn M.makes M.init (beq_iff_eq.mp M.fn) (codeAny_mono (F.run _ X.stack _ _ ⟨Value.ref (s.heap.objs.size + 1) :: us, []⟩ (Value.ref (s.heap.objs.size + 1) :: (us ++ ds)) _ _ (E σ) (hr.make C us [])
    (I2.env0.make C us []) (hb _ (Value.ref (s.heap.objs.size
          + 1) :: us) I2.kIn hl) r2 hq) fun r s' hq' => ?_))
  cases r with
  | error e => exact hx pins _ _ e s' I2 hq'
  | ok fl =>
    cases fl with
    | ret u =>
      obtain ⟨v, H', I3, rv,
            ev, q3⟩ := I2.after hq'
      subst ev
      exact ⟨rv, ⟨V.ref (s.heap.objs.size
            + 1), H', I3, rfl, q3⟩⟩
    | next => exact
          False.elim hq'
    | brk => exact False.elim hq'
    | cont => exact
          False.elim hq'
theorem pe_makeS (M : Mk X.K C f) (F : FnOk X.prog X.w X.K X.mg X.base CX k f fd ps sp) (hr : Room (k + 1) X.A) (hg : Gl X x) (hm : X.mg x = some (.ref C)) (hb : Binds X.K fd ps ds) (hd : Vals dvs ds) (hx : ∀ σ, PassesAt CX X σ (E σ))
    (ha : PA X (e :: es) t) (hdb : (x == ("__debug__" : Str)) = false := by decide) (he : starEach (e :: es) X.env = (false,
          eval e X.env) :: starEach es X.env := by rfl) (hpl : (backTo pos (starEach es X.env)).any (·.1) = false := by rfl) :
    PE X (.Call (.Name x p) (e :: es) [] pos) (tMakeS C sp dvs E t) := by
  refine ⟨fun pins
        s σ H Q I h => ?_⟩
  refine wpAny_Call_Name_kw
        (ld_glob I hg hm ?_ hdb)
  refine PySem.W.callWith_K (h₀ := X.base) I.ok.mod.kin M.kp (thn (ha.run
        pos pins s σ H _ I h) fun us s1 ⟨vs, H1, I1, r, q⟩ => ⟨I1.kIn, ?_⟩) he hpl
  exact run_makeS M F hr hb hd (hx σ) I1 r q
end
/-- the new instance and its dict, as entries -/
theorem Fx.inst {H : Hp} {L : List En} {C x dx : Addr} (F : Fx H L) (hx : H x = none) (hd : H dx = none) (ne : dx ≠ x) : Fx (upd (upd H dx (.own x)) x (.ins C dx [])) (.ob x (.ins C dx []) :: .ob dx (.own x) :: L) := by
  have F1 := F.new (o := .own x) hd
  exact F1.new (by rw [upd_ne (Ne.symm ne)]; exact hx)
theorem wMake {sp : Sp} {C : Addr} {dvs : List V} {E : XK} {t : TA} {σ : St} {H : Hp} {Q : VK} (h : t σ H fun vs H1 => ∀ x dx, H1 x = none → H1 dx = none → dx ≠ x →
  sp (.ref x :: (vs ++ dvs)) (upd (upd H1 dx (.own x)) x (.ins C dx [])) (fun v H2 => v = .non ∧ Q (.ref x) H2) E) : tMake C sp dvs E t σ H Q := h
theorem wMakeS {sp : Sp} {C : Addr} {dvs : List V} {E : St → XK} {t : TA} {σ : St} {H : Hp} {Q : VK} (h : t σ H fun vs H1 => ∀ x dx, H1 x = none → H1 dx = none → dx ≠ x →
  sp (.ref x :: (vs ++ dvs)) (upd (upd H1 dx (.own x)) x (.ins C dx [])) (fun v H2 => v = .non ∧ Q (.ref x) H2) (E σ)) : tMakeS C sp dvs E t σ H Q := h
/-- o.f and self.f = v of an instance -/
theorem wFld {K : PySem.W.Frag} {ta : TE} {f : Str} {σ : St} {H : Hp} {Q : VK} (h : ta σ H fun x H1 => ∃ a C dx fs v, x = .ref a ∧ H1 a = some (.ins C dx fs) ∧ Cls K C ∧ NoAttr K C f ∧ fs.lookup f = some v ∧ Q v H1) : tFld K ta f σ H Q := h
theorem wFldAt {K : PySem.W.Frag} {f : Str} {H : Hp} {L : List En} {a C dx : Addr} {fs : List (Str × V)} {v : V} {QP : V → Prop} (F : Fx H L) (m : En.ob a (.ins C dx fs) ∈ L) (c : Cls K C) (n : NoAttr K C f) (e : fs.lookup f = some v) (h : QP v) :
    ∃ a' C dx fs v, V.ref a = .ref a' ∧ H a' = some (.ins C dx fs) ∧ Cls K C ∧ NoAttr K C f ∧ fs.lookup f = some v ∧ QP v := ⟨a, C, dx, fs, v, rfl, F.get m, c, n, e, h⟩

def StoreF (K : PySem.W.Frag) (f : Str) (x y : V) (H : Hp) (N : Hp → Prop) : Prop := ∃ a C dx fs, x = .ref a ∧ H a = some (.ins C dx fs) ∧ Cls K C ∧ NoAttr K C f ∧ fs.length < 1000 ∧ N (upd H a (.ins C dx (putF f y fs)))
theorem wSFld {K : PySem.W.Frag} {ta tv : TE} {f : Str} {σ : St} {H : Hp} {nx bk ct : St → Hp → Prop} {rt : VK} (h : tv σ H fun y H1 => ta σ H1 fun x H2 => StoreF K f x y H2 (fun H3 => nx σ H3)) : sFld K ta tv f ⟨nx, rt, bk, ct⟩ σ H := h
theorem wStoreF {K : PySem.W.Frag} {f : Str} {y : V} {H : Hp} {N : Hp → Prop} {L L' : List En} {a C dx : Addr} {fs : List (Str × V)} (F : Fx H L) (m : En.ob a (.ins C dx fs) ∈ L) (c : Cls K C) (n : NoAttr K C f) (l : fs.length < 1000) (pt : Put a (.ins C dx (putF f y fs)) L L') (k : ∀ H', Fx H' L' → N H') : StoreF K f (.ref a) y H N :=
  ⟨a, C, dx, fs, rfl, F.get m, c, n, l, k _ (F.put pt)⟩
/-- self.f = v in an error's __init__ -/
theorem init1_run {K : PySem.W.Frag} {f : Str} {a b : V} {H : Hp} {Q : VK} {rt : VK} {bk ct : St → Hp → Prop} (h : ∃ (q C : Addr), a = .ref q ∧ OexC K C ∧ PySem.W.findIn K (.ref C) f = some none ∧ H q = some (exo q C none) ∧
  ∀ d, H d = none → d ≠ q → Q .non (upd (upd H d (exd d [(f, b)])) q (exo q C (some d)))) : tOst K f (tVar 0) (tVar 1) ⟨fun _ H' => Q .non H', rt, bk, ct⟩ [some a, some b] H := by
  obtain ⟨q, C, rfl, T, n, hq, k⟩ := h
  exact ⟨_, rfl, _, rfl, q, C, rfl, T, n, .inl ⟨hq, fun dx hd ne => k dx hd ne⟩⟩
theorem init2_run {K : PySem.W.Frag} {f g : Str} {a b c : V} {H : Hp} {Q : VK} {rt : VK} {bk ct : St → Hp → Prop} (h : ∃ (q C : Addr), a = .ref q ∧ OexC K C ∧ PySem.W.findIn K (.ref C) f = some none ∧ PySem.W.findIn K (.ref C) g = some none ∧ H q = some (exo q C none) ∧
  ∀ d, H d = none → d ≠ q → Q .non (upd (upd (upd H d (exd d [(f, b)])) q (exo q C (some d))) d (exd d [(g, c), (f, b)]))) : tSeq (tOst K f (tVar 0) (tVar 1)) (tOst K g (tVar 0) (tVar 2)) ⟨fun _ H' => Q .non H', rt, bk, ct⟩ [some a, some b, some c] H := by
  obtain ⟨q, C, rfl, T, n, n', hq, k⟩ := h
  exact ⟨_, rfl, _, rfl, q, C, rfl, T, n, .inl ⟨hq, fun dx hd ne => ⟨_, rfl, _, rfl, q, C, rfl, T, n', .inr ⟨dx, _, upd_same, by rw [upd_ne ne, upd_same], Nat.le_of_ble_eq_true rfl, k dx hd ne⟩⟩⟩⟩
end Z

set_option Elab.async false
set_option linter.all false
set_option maxRecDepth 100000
set_option maxHeartbeats 2000500
namespace Z
open PySem L2
section
variable (CX : CXT) (P : Program) (w : World) (K : PySem.W.Frag) (mg : Str → Option Value) (base : Heap)
def ErrO (C : Addr) (k : Nat) (ps : List Str) (sp : Sp) : Prop := ∃ (f : Addr) (fd : FuncData), ErrI K C f ∧ Binds K fd ps [] ∧ FnOk P w K mg base CX0 k f fd ps sp
def MkO (C : Addr) (k : Nat) (ps : List Str) (dvs : List V) (sp : Sp) : Prop := ∃ (f : Addr) (fd : FuncData) (ds : List Value), Mk K C f ∧ Binds K fd ps ds ∧ Vals dvs ds ∧ FnOk P w K mg base CX k f fd ps sp
def MkKO (C : Addr) (k : Nat) (ps ks : List Str) (n : Nat) (gV : List V → List V → List V) (sp : Sp) : Prop := ∃ (f : Addr) (fd : FuncData) (g : List Value → List Value → List Value), Mk K C f ∧ KBn K fd ps (n + 1) ks g gV ∧ FnOk P w K mg base CX k f fd ps sp
def EqO (C : Addr) (k : Nat) (ps : List Str) (sp : Sp) : Prop := ∃ (f : Addr) (fd : FuncData), OwnEqF K C f ∧ Binds K fd ps [] ∧ FnOk P w K mg base CX0 k f fd ps sp
def PropO (C : Addr) (x : Str) (k : Nat) (ps : List Str) (sp : Sp) : Prop := ∃ (p f : Addr) (fd : FuncData), PropOf K C x p f ∧ Binds K fd ps [] ∧ FnOk P w K mg base CX k f fd ps sp
def MethO (C : Addr) (x : Str) (k : Nat) (ps : List Str) (dvs : List V) (sp : Sp) : Prop := ∃ (f : Addr) (fd : FuncData) (ds : List Value), Meth K C x f ∧ Binds K fd ps ds ∧ Vals dvs ds ∧ FnOk P w K mg base CX k f fd ps sp
end
section
variable {X : Cx} {CX : CXT} {C : Addr} {k : Nat} {ps ks : List Str} {sp : Sp} {ta t tk : TA} {x : Str} {e o : Expr} {es : List Expr} {p pos apos : Pos} {E : XK} {ES : St → XK} {dvs : List V} {te : TE} {n : Nat} {gV : List V → List V → List V} {kws : List Keyword}
theorem pmk_errO (T : ErrF X.K C) (O : ErrO X.prog X.w X.K X.mg X.base C k ps sp) (hr : Room (k + 1) X.A) (hm : X.mg x = some (.ref C)) (hg : Gl X x) (ha : PA X (e :: es) ta)
    (hdb : (x == ("__debug__" : Str)) = false := by decide) (he : starEach (e :: es) X.env = (false, eval e
          X.env) :: starEach es X.env := by rfl) (hpl : (backTo pos (starEach es X.env)).any (·.1) = false := by rfl) :
    PMk X (.Call (.Name x p) (e :: es) [] pos) (tMkO C sp [] ta) := by
  obtain ⟨f, fd, i, b, F⟩ := O
  exact pmk_err T i F b hr hm hg ha hdb he hpl
theorem pe_makeO (O : MkO CX X.prog X.w X.K X.mg X.base C k ps dvs sp) (hr : Room (k + 1) X.A) (hm : X.mg x = some (.ref C)) (hg : Gl X x) (hx : Passes CX X E) (ha : PA X (e :: es) t)
    (hdb : (x == ("__debug__" : Str)) = false := by decide) (he : starEach (e :: es) X.env = (false, eval e
          X.env) :: starEach es X.env := by rfl) (hpl : (backTo pos (starEach es X.env)).any (·.1) = false := by rfl) :
    PE X (.Call (.Name x p) (e :: es)
          [] pos) (tMake C sp dvs E t) := by
  obtain ⟨f, fd, ds, M, b, v, F⟩ := O
  exact pe_make M F hr hg hm b v hx ha hdb he hpl
theorem pe_makeSO (O : MkO CX X.prog X.w X.K X.mg X.base C k ps dvs sp) (hr : Room (k + 1) X.A) (hm : X.mg x = some (.ref C)) (hg : Gl X x) (hx : ∀ σ, PassesAt CX X σ (ES σ)) (ha : PA X (e :: es) t)
    (hdb : (x == ("__debug__" : Str)) = false := by decide) (he : starEach (e :: es) X.env = (false, eval e
          X.env) :: starEach es X.env := by rfl) (hpl : (backTo pos (starEach es X.env)).any (·.1) = false := by rfl) :
    PE X (.Call (.Name x p) (e :: es) [] pos) (tMakeS C sp dvs ES t) := by
  obtain ⟨f, fd, ds, M, b, v, F⟩ := O
  exact pe_makeS M F hr hg hm b v hx ha hdb he hpl
theorem pe_makeKO (O : MkKO CX X.prog X.w X.K X.mg X.base C k ps ks n gV sp) (hr : Room (k + 1) X.A) (hm : X.mg x = some (.ref C)) (hg : Gl X x) (hx : Passes CX X E) (ha : PA X (e :: es) t) (hkw : PK X kws tk)
    (hall : (backToKw pos (keywordEach kws X.env)).all (·.1.isSome) = true := by rfl) (hks : (backToKw pos (keywordEach kws X.env)).filterMap (·.1) = ks := by rfl)
    (hdb : (x == ("__debug__" : Str)) = false := by decide) (he : starEach
          (e :: es) X.env = (false, eval e X.env) :: starEach es X.env := by rfl)
    (hpl : ((backTo pos (starEach (e :: es) X.env)).any (·.1) || (backToKw
          pos (keywordEach kws X.env)).any (·.1.isNone)) = false := by rfl) :
    PE X (.Call (.Name x p) (e :: es) kws pos)
          (tMakeN C n ks.length sp gV E t tk) := by
  obtain ⟨f, fd, g, M, b, F⟩ := O
  exact pe_makeN M F hr hg hm b hx ha hkw hall hks hdb he hpl
theorem pe_propO (O : PropO CX X.prog X.w X.K X.mg X.base C x k ps sp) (c : Cls X.K C) (hr : Room (k + 1) X.A) (hx : Passes CX X.nox E) (he : PE X e te) (hab : attributeBase e x X.env (eval e X.env) = eval e X.env := by rfl) :
    PE X (.Attribute e x pos) (tProp C sp [] E te) := by
  obtain ⟨p, f, fd, q, b, F⟩ := O
  exact pe_prop he c q F hr b .nil hx hab
theorem op_eqOwnO (O : EqO X.prog X.w X.K X.mg X.base C k ps sp) (hr : Room k X.A) : OpR X (compareOp .Eq) (rOwn X.K C sp id) := by
  obtain ⟨f, fd, q, b, F⟩ := O
  exact op_eqOwn F q b hr
theorem op_neOwnO (O : EqO X.prog X.w X.K X.mg X.base C k ps sp) (hr : Room (k + 1) X.A) : OpR X (compareOp .NotEq) (rOwn X.K C sp not) := by
  obtain ⟨f, fd, q, b, F⟩ := O
  exact op_neOwn F q b hr
end
/-- what the written part says of an own class whose instances are asked for their kind -/
structure InsF (K : PySem.W.Frag) (C : Addr) : Prop where
  cl : Cls K C
  ha : PySem.W.findIn K (.ref C) "__class__"
        = some (some (.builtin "object.__class__"))
  hn : PySem.W.specialIn K (.builtin "object.__class__")
        "__get__" = some (some (.builtin "getset_descriptor.__get__"))
  htk : PySem.W.takesIn K (.builtin
        "object.__class__") = some true
  hm : PySem.W.mroIn K C
        (.type "object") = some true
  me : PySem.W.kitOne K (.ref
        C) (.ref C) = some true
  tup : PySem.W.kitOne K (.type "tuple") (.ref C) = some false
  lst : PySem.W.kitOne K (.type "list") (.ref C) = some false
  str : PySem.W.kitOne K (.type "str") (.ref C) = some false
  nft : PySem.W.notFirst K C (.type "tuple") = true
section
variable {K : PySem.W.Frag} {C a dx : Addr} {H : Hp} {L : List En} {fs : List (Str × V)} {Q : VK} {xs : List V}
theorem InsF.ty (c : InsF K C) (h : H a = some (.ins C dx fs)) : TyX K H (.ref a) (.ref C) := .base (.ins h c.cl c.ha c.hn c.htk c.hm)
theorem InsF.nf (c : InsF K C) : PySem.W.notFirst K C (.ref C) = true := by
  show ((Value.ref C == .ref C) || _) = true
  rw [beq_self_eq_true]
  rfl
theorem wIsiOwn (c : InsF K C) (h : H a = some (.ins C dx fs)) (q : Q (.bl true) H) : rOrC (rIsi K) (rIsiT K) [.ref a, .ref C] H Q := .inl ⟨_, _, _, _, _, rfl, .own _, c.ty h, c.me, q⟩
theorem wIsiTupOwn (c : InsF K C) (s : SqT K H a xs) (q : Q (.bl false) H) : rOrC (rIsi K) (rIsiT K) [.ref a, .ref C] H Q := .inl ⟨_, _, _, _, _, rfl, .own _, (HasK.tup s).tyx, c.tup, q⟩
end
end Z
namespace Z
open PySem L2
section
variable {X : Cx} {CX : CXT} {k : Nat} {ps : List Str} {sp : Sp} {E : St → XK} {x : Str} {p pos : Pos} {e : Expr} {es : List Expr} {t : TA}
theorem pe_callSO (O : Ok CX X.prog X.w X.K X.mg X.base x k ps [] sp) (hg : Gl X x) (hr : Room k X.A) (hx : ∀ σ, PassesAt CX X σ (E σ)) (ha : PA X (e :: es) t)
    (hdb : (x == ("__debug__" : Str)) = false := by decide) (he : starEach (e :: es) X.env = (false, eval e
          X.env) :: starEach es X.env := by rfl) (hpl : (backTo pos (starEach es X.env)).any (·.1) = false := by rfl) :
    PE X (.Call (.Name x p) (e ::
          es) [] pos) (tCallS sp E t) := by
  obtain ⟨f, fd, ds, g, kp, b, v, F⟩ := O
  cases v
  exact pe_callS F hr hg g kp b hx ha hdb he hpl
end
theorem wCallS {sp : Sp} {E : St → XK} {t : TA} {σ : St} {H : Hp} {Q : VK} (h : t σ H fun vs H1 => sp vs H1 Q (E σ)) : tCallS sp E t σ H Q := h
end Z

set_option Elab.async false
set_option linter.all false
set_option maxRecDepth 100000
set_option maxHeartbeats 2000500
namespace Z
open PySem L2 RZ
/-! ### things by the ledger alone -/
inductive Thing (L : List En) : V → Kd → Prop where
  | non : Thing L .non .non
  | bl (b : Bool) : Thing L (.bl b) .bl
  | int (i : Int) : Thing L (.int i) .int
  | str (z : Str) : Thing L (.str z) .str
  | lst {a : Addr} {xs : List V} (m : En.ob a (.lst xs) ∈ L) : Thing L (.ref a) .lst
  | tup {a : Addr} {xs : List V} (m : En.ob a (.tup xs) ∈ L) : Thing L (.ref a) .tup
  | dct {a : Addr} {kvs : List (Key × V)} (m : En.ob a (.dK kvs) ∈ L) : Thing L (.ref a) .dct
theorem Thing.has {K : PySem.W.Frag} {H : Hp} {L : List En} {x : V} {k : Kd} (F : Fx H L) (t : Thing L x k) : HasK K H x k := by
  cases t with
  | non => exact .non
  | bl b => exact .bl b
  | int i => exact .int i
  | str z => exact .str z
  | lst m => exact .lst (F.lst m)
  | tup m => exact .tup (F.tup m)
  | dct m => exact .dct (F.get m)
theorem Thing.mono {L L' : List En} {x : V} {k : Kd} (t : Thing L x k) (h : ∀ e ∈ L, e ∈ L') : Thing L' x k := by
  cases t with
  | non => exact .non
  | bl b => exact .bl b
  | int i => exact .int i
  | str z => exact .str z
  | lst m => exact .lst (h _ m)
  | tup m => exact .tup (h _ m)
  | dct m => exact .dct (h _ m)
theorem Thing.cons {L : List En} {x : V} {k : Kd} {e : En} (t : Thing L x k) : Thing (e :: L) x k := t.mono fun _ h => List.mem_cons_of_mem _ h
/-- its items, where it is a sequence -/
inductive SeqIs (L : List En) : V → Option (List V) → Prop where
  | non : SeqIs L .non none
  | bl (b : Bool) : SeqIs L (.bl b) none
  | int (i : Int) : SeqIs L (.int i) none
  | str (z : Str) : SeqIs L (.str z) none
  | lst {a : Addr} {xs : List V} (m : En.ob a (.lst xs) ∈ L) : SeqIs L (.ref a) (some xs)
  | tup {a : Addr} {xs : List V} (m : En.ob a (.tup xs) ∈ L) : SeqIs L (.ref a) (some xs)
  | dct {a : Addr} {kvs : List (Key × V)} (m : En.ob a (.dK kvs) ∈ L) : SeqIs L (.ref a) none
def inLen (lo hi : Int) : Option (List V) → Bool
  | some xs => decide (lo ≤ (xs.length : Int)) && decide ((xs.length : Int) ≤ hi)
  | none => false
/-! ### comprehensions -/
section
variable {D : Addr} {R : Nat → List V → List En → Prop}
def LcP (D : Addr) (R : Nat → List V → List En → Prop) (i : Nat) (H : Hp) : Prop := ∃ acc L, Fx H (.ob D (.lst acc) :: L) ∧ R i acc L
def LcPut (D : Addr) (R : Nat → List V → List En → Prop) (i : Nat) (y : V) (H : Hp) : Prop := ∃ acc, H D = some (.lst acc) ∧ acc.length < sizeLine ∧ LcP D R (i + 1) (upd H D (.lst (acc ++ [y])))
theorem lcPut {i : Nat} {y : V} {H : Hp} {acc : List V} {L : List En} (F : Fx H (.ob D (.lst acc) :: L)) (n : acc.length < sizeLine) (r : R (i + 1) (acc ++ [y]) L) : LcPut D R i y H :=
  ⟨acc, F.get List.mem_cons_self, n, acc ++ [y], L, F.put .head, r⟩
variable {J : It} {n : Nat} {G : Hp → Prop} {Y : Nat → Hp → V → Hp → Prop} {g : TG} {tt : TT} {te : TE} {vs : List Nat} {σ : St} {H : Hp} {Q : VK} {L : List En}
theorem wLcW {QD : Addr → Hp → Prop} (w : Walk J n G Y) (F : Fx H L) (R : Nat → List V → List En → Prop) (h0 : R 0 [] L) (hG : ∀ i acc L' D H', R i acc L' → Fx H' (.ob D (.lst acc) :: L') → G H')
    (hs : ∀ i x D H' H'' acc L', i < n → R i acc L' → Fx H' (.ob D (.lst acc) :: L') → Y i H' x H'' → g x (wipe σ vs) H'' fun σ2 H2 => wipe σ2 vs = wipe σ vs ∧ tt σ2 H2 fun b H3 =>
      if b = true then te σ2 H3 fun y H4 => LcPut D R i y H4 else LcP D R (i + 1) H3)
    (hd : ∀ D acc L' H', Fx H' (.ob D (.lst acc) :: L') → R n acc L' → QD D H') :
    ∀ D, H D = none → ∃ W : Nat → Nat → Hp → Prop, (∃ m, W 0 m (upd H D (.lst []))) ∧ ∀ i m H, W i m H →
  (J.stop i H ∧ QD D H) ∨ (J.go i H ∧ ∃ Nx : Hp → Prop, (∀ H', Nx H' → ∃ m', m' < m ∧ W (i + 1) m' H') ∧ ∀ x H', J.yld i H x H' → g x (wipe σ vs) H' fun σ2 H2 => wipe σ2 vs = wipe σ vs ∧ tt σ2 H2 fun b H3 =>
    if b = true then te σ2 H3 fun y H4 => ∃ acc, H4 D = some (.lst acc) ∧ acc.length < sizeLine ∧ Nx (upd H4 D (.lst (acc ++ [y]))) else Nx H3) := fun D hD =>
  lc_it w (Qd := fun H' => QD D H') (LcP D R) ⟨[], L, F.new hD, h0⟩ (fun i H' _ ⟨acc, L', F', r⟩ => hG i acc L' D H' r F')
    (fun i x H' H'' hi ⟨acc, L', F', r⟩ y => hs i x D H' H'' acc L' hi r F' y) (fun H' ⟨acc, L', F', r⟩ => hd D acc L' H' F' r)
end
theorem wLc {wi : TI} {g : TG} {tt : TT} {te : TE} {vs : List Nat} {σ : St} {H : Hp} {Q : VK} (h : wi σ H fun J H1 => ∀ D, H1 D = none → ∃ W : Nat → Nat → Hp → Prop, (∃ m, W 0 m (upd H1 D (.lst []))) ∧ ∀ i m H, W i m H →
  (J.stop i H ∧ Q (.ref D) H) ∨ (J.go i H ∧ ∃ Nx : Hp → Prop, (∀ H', Nx H' → ∃ m', m' < m ∧ W (i + 1) m' H')
        ∧ ∀ x H', J.yld i H x H' → g x (wipe σ vs) H' fun σ2 H2 => wipe σ2 vs = wipe σ vs ∧ tt σ2 H2 fun b H3 =>
    if b = true then te σ2 H3 fun y H4 => ∃ acc, H4 D = some (.lst acc) ∧ acc.length < sizeLine ∧ Nx (upd H4 D (.lst (acc ++ [y]))) else Nx H3)) : tLc wi g tt te vs σ H Q := h
/-! what a loop or a comprehension walks -/
section
variable {K : PySem.W.Frag} {H : Hp} {L : List En} {a b : Addr} {xs ys : List V} {RI : It → Hp → Prop} {σ : St} {te : TE} {ta : TA}
def GoL (K : PySem.W.Frag) (x : V) (H : Hp) (R : It → Hp → Prop) : Prop := ∃ a, x = .ref a ∧ (∃ xs, SqL K H a xs) ∧ R (Itl K a) H
def GoT (K : PySem.W.Frag) (x : V) (H : Hp) (R : It → Hp → Prop) : Prop := ∃ a, x = .ref a ∧ (∃ xs, SqT K H a xs) ∧ R (Itt K a) H
theorem wIL (h : te σ H fun x H1 => GoL K x H1 RI) : iList K te σ H RI := h
theorem wIT (h : te σ H fun x H1 => GoT K x H1 RI) : iTup K te σ H RI := h
theorem wGoL (s : SqL K H a xs) (h : RI (Itl K a) H) : GoL K (.ref a) H RI := ⟨a, rfl, ⟨xs, s⟩, h⟩
theorem wGoT (s : SqT K H a xs) (h : RI (Itt K a) H) : GoT K (.ref a) H RI := ⟨a, rfl, ⟨xs, s⟩, h⟩
def GoR1 (vs : List V) (H : Hp) (R : It → Hp → Prop) : Prop := ∃ j : Int, vs = [.int j] ∧ -(2 ^ 62) ≤ j ∧ j < 2 ^ 62 ∧ R (Itr 0 j.toNat) H
def GoR2 (vs : List V) (H : Hp) (R : It → Hp → Prop) : Prop := ∃ i j : Int, vs = [.int i, .int j] ∧ (-(2 ^ 62) ≤ i ∧ i < 2 ^ 62 ∧ -(2 ^ 62) ≤ j ∧ j < 2 ^ 62) ∧ R (Itr i (j - i).toNat) H
theorem wIR1 (h : ta σ H fun vs H1 => GoR1 vs H1 RI) : iRng1 ta σ H RI := h
theorem wIR2 (h : ta σ H fun vs H1 => GoR2 vs H1 RI) : iRng2 ta σ H RI := h
theorem wGoR1 {j : Int} (h1 : -(2 ^ 62) ≤ j) (h2 : j < 2 ^ 62) (h : RI (Itr 0 j.toNat) H) : GoR1 [.int j] H RI := ⟨j, rfl, h1, h2, h⟩
theorem wGoR2 {i j : Int} (h1 : -(2 ^ 62) ≤ i) (h2 : i < 2 ^ 62) (h3 : -(2 ^ 62) ≤ j) (h4 : j < 2 ^ 62) (h : RI (Itr i (j - i).toNat) H) : GoR2 [.int i, .int j] H RI := ⟨i, j, rfl, ⟨h1, h2, h3, h4⟩, h⟩
def GoZ (K : PySem.W.Frag) (vs : List V) (H : Hp) (R : It → Hp → Prop) : Prop := ∃ a b xs ys, vs = [.ref a, .ref b] ∧ ((SqL K H a xs ∧ SqL K H b ys ∧ R (Itz K a b) H) ∨ (SqT K H a xs ∧ SqT K H b ys ∧ R (ItzT K a b) H))
theorem wIZ (h : ta σ H fun vs H1 => GoZ K vs H1 RI) : iZipA K ta σ H RI := h
theorem wGoZL (s : SqL K H a xs) (s' : SqL K H b ys) (h : RI (Itz K a b) H) : GoZ K [.ref a, .ref b] H RI := ⟨a, b, xs, ys, rfl, .inl ⟨s, s', h⟩⟩
theorem wGoZT (s : SqT K H a xs) (s' : SqT K H b ys) (h : RI (ItzT K a b) H) : GoZ K [.ref a, .ref b] H RI := ⟨a, b, xs, ys, rfl, .inr ⟨s, s', h⟩⟩
theorem walk_zipT {n : Nat} (hn : n = min xs.length ys.length) : Walk (ItzT K a b) n (fun H => SqT K H a xs ∧ SqT K H b ys) (YPair (fun i => xs[i]?) (fun i => ys[i]?)) := by
  subst hn
  refine ⟨fun i _ hi q => ?_, fun _ q => ⟨xs, ys,
        q.1, q.2, by omega⟩, fun i H v H' _ q y => ?_⟩
  · have h1 : i <
        xs.length := by omega
    have h2 : i <
          ys.length := by omega
    exact ⟨xs, ys, xs[i], ys[i], q.1,
          q.2, by simp [h1], by simp [h2]⟩
  · obtain ⟨T, x, z, h1,
        h2, h3, h4, h5⟩ := y
    exact ⟨T, x, z, h1, h2,
          h3, h4 xs q.1, h5 ys q.2⟩
theorem wYes {QB : Bool → Hp → Prop} (h : QB true H) : tYes σ H QB := h
end
/-- a for over a walk -/
theorem wForW {J : It} {n : Nat} {G : Hp → Prop} {Y : Nat → Hp → V → Hp → Prop} (w : Walk J n G Y) {g : TG} {tb : TS} {nx : St → Hp → Prop} {rt : VK} {σ : St} {H : Hp} (Pv : Nat → St → Hp → Prop) (h0 : Pv 0 σ H) (hG : ∀ i σ H, i ≤ n → Pv i σ H → G H)
    (hs : ∀ i x σ H H', i < n → Pv i σ H → Y i H x H' → g x σ H' fun σ2 H2 => tb ⟨Pv (i + 1), rt, nx, Pv (i + 1)⟩ σ2 H2) (hd : ∀ σ H, Pv n σ H → nx σ H) :
    ∃ W : Nat → Nat → St → Hp → Prop, (∃
          m, W 0 m σ H) ∧ ∀ i m σ H, W i m σ H →
      (J.stop i H ∧ nx σ H) ∨ (J.go i H ∧ ∃ N : St → Hp → Prop, (∀ σ' H', N σ' H' → ∃ m', m' < m ∧ W (i + 1) m' σ' H') ∧ ∀ x H', J.yld i H x H' → g x σ H' fun σ2 H2 => tb ⟨N, rt, nx, N⟩ σ2 H2) :=
  for_it (D := ⟨nx, rt, fun _ _ => False, fun _ _ => False⟩) w Pv h0 hG hs hd
/-- a tuple's items to names -/
theorem wGTup {K : PySem.W.Frag} {n : Nat} {t : TGs} {a : Addr} {xs : List V} {σ : St} {H : Hp} {N : St → Hp → Prop} (s : SqT K H a xs) (e : xs.length = n) (h : t xs σ H N) : gTup K n t (.ref a) σ H N := ⟨a, xs, rfl, s, e, h⟩
theorem wGCons {t : TG} {u : TGs} {v : V} {r : List V} {σ : St} {H : Hp} {N : St → Hp → Prop} (h : t v σ H fun σ' H' => u r σ' H' N) : gCons t u (v :: r) σ H N := ⟨v, r, rfl, h⟩
theorem wGNil {σ : St} {H : Hp} {N : St → Hp → Prop} (h : N σ H) : gNil [] σ H N := ⟨rfl, h⟩
/-! slices -/
section
variable {K : PySem.W.Frag} {H : Hp} {L : List En} {a : Addr} {xs : List V} {Q : VK} {σ : St} {r : V → Option Int → Option Int → Hp → VK → Prop} {te : TE} {tl th : TO} {lo hi : Option Int} {i : Int}
theorem wSl (h : te σ H fun x H1 => tl σ H1 fun l H2 => th σ H2 fun u H3 => r x l u H3 Q) : tSl r te tl th σ H Q := h
theorem wNoPart {QO : Option Int → Hp → Prop} (h : QO none H) : tNoPart σ H QO := h
def PartV (x : V) (H : Hp) (QO : Option Int → Hp → Prop) : Prop := ∃ i, x = .int i ∧ QO (some i) H
theorem wPart {QO : Option Int → Hp → Prop} {t : TE} (h : t σ H fun x H1 => PartV x H1 QO) : tPart t σ H QO := h
theorem wPartV {QO : Option Int → Hp → Prop} (h : QO (some i) H) : PartV (.int i) H QO := ⟨i, rfl, h⟩
theorem wSlL (s : SqL K H a xs) (F : Fx H L) (k : ∀ p H', Fx H' (.ob p (.lst (cutV xs lo hi)) :: L) → Q (.ref p) H') : rOrS (rSlL K) (rSlT K) (.ref a) lo hi H Q := .inl ⟨a, xs, rfl, s, wNewF F k⟩
theorem wSlT (s : SqT K H a xs) (n : ¬ (HT.sIx xs.length 0 lo = 0 ∧ HT.sIx xs.length xs.length hi = xs.length)) (F : Fx H L) (k : ∀ p H', Fx H' (.ob p (.tup (cutV xs lo hi)) :: L) → Q (.ref p) H') : rOrS (rSlL K) (rSlT K) (.ref a) lo hi H Q := .inr ⟨a, xs, rfl, s, n, wNewF F k⟩
theorem cut_tail : cutV xs (some 1) none = xs.tail := by
  unfold cutV HT.sIx
  cases xs with
  | nil => rfl
  | cons x r =>
    simp only [List.length_cons]
    have e : (min (1 : Int).toNat (r.length + 1)) = 1 := by
      have : (1 : Int).toNat = 1 := rfl
      omega
    simp
end

/-! a list or a tuple, walked -/
section
variable {X : Cx} {tg : Expr}
def GoS (K : PySem.W.Frag) (x : V) (H : Hp) (R : It → Hp → Prop) : Prop := GoL K x H R ∨ GoT K x H R
def iSeq (K : PySem.W.Frag) (tl : TE) : TI := fun σ H R => tl σ H fun x H1 => GoS K x H1 R
theorem pi_seq {l : Expr} {tl : TE} (hl : PE X l tl) : PI X tg l (iSeq X.K tl) := by
  refine ⟨fun pins
        s σ H R I h => ?_⟩
  refine thn (hl.run pins s σ H _ I h)
        fun v s1 ⟨x, H1, I1, r1, q1⟩ => ?_
  rcases q1 with q1 | q1
  · obtain ⟨a, e, ⟨xs, hq⟩, q⟩ := q1
    subst e
    cases r1
    obtain ⟨its, rv, p,
          hz⟩ := I1.list hq
    refine wpAny_pyIter_list
          p.isList ?_
    refine ⟨s1.heap.objs.size, [s1.heap.objs.size], _, _, H1, rfl, I1.kept (t' := s1.toks) fun b o e =>
          Heap.get?_push_of_some _ e, turn_list a _, ⟨_, Heap.get?_push_size _ rfl, rfl, rfl⟩, fun b hb => ?_, q⟩
    have e : b = s1.heap.objs.size
          := by simpa using hb
    subst e
    exact I1.fpOk (Nat.le_refl _)
          (I1.hok.fresh (Nat.le_refl _))
  · obtain ⟨a, e, ⟨xs, hq⟩, q⟩ := q1
    subst e
    cases r1
    obtain ⟨its, rv, p,
          hz⟩ := I1.tuple hq
    refine wpAny_pyIter_tuple (show
          s1.heap.IsTuple a its.toArray from p) ?_
    refine ⟨s1.heap.objs.size, [s1.heap.objs.size], _, _, H1, rfl, I1.kept (t' := s1.toks) fun b o e =>
          Heap.get?_push_of_some _ e, turn_tuple a _, ⟨_, Heap.get?_push_size _ rfl, rfl, rfl⟩, fun b hb => ?_, q⟩
    have e : b = s1.heap.objs.size
          := by simpa using hb
    subst e
    exact I1.fpOk (Nat.le_refl _)
          (I1.hok.fresh (Nat.le_refl _))
end
section
variable {K : PySem.W.Frag} {H : Hp} {L : List En} {a : Addr} {xs : List V} {RI : It → Hp → Prop} {σ : St} {te : TE}
theorem wIS (h : te σ H fun x H1 => GoS K x H1 RI) : iSeq K te σ H RI := h
theorem wGoSL (s : SqL K H a xs) (h : RI (Itl K a) H) : GoS K (.ref a) H RI := .inl (wGoL s h)
theorem wGoST (s : SqT K H a xs) (h : RI (Itt K a) H) : GoS K (.ref a) H RI := .inr (wGoT s h)
end
end Z
namespace Z
open PySem L2 RZ
theorem SeqIs.mono {L L' : List En} {a : V} {o : Option (List V)} (s : SeqIs L a o) (h : ∀ e ∈ L, e ∈ L') : SeqIs L' a o := by
  cases s with
  | non => exact .non
  | bl b => exact .bl b
  | int i => exact .int i
  | str z => exact .str z
  | lst m => exact .lst (h _ m)
  | tup m => exact .tup (h _ m)
  | dct m => exact .dct (h _ m)
end Z

set_option Elab.async false
set_option linter.all false
set_option maxRecDepth 100000
set_option maxHeartbeats 2000500
namespace Z
open PySem L2 RZ
theorem wAll {K : PySem.W.Frag} {H : Hp} {a : Addr} {bs : List Bool} {Q : VK} (s : SqL K H a (bs.map V.bl)) (h : Q (.bl (bs.all id)) H) : rAll K [.ref a] H Q := ⟨a, bs, rfl, s, h⟩
theorem wSum {K : PySem.W.Frag} {H : Hp} {a : Addr} {ns : List Int} {Q : VK} (s : SqL K H a (ns.map V.int)) (h : Q (.int ns.sum) H) : rSum K [.ref a] H Q := ⟨a, ns, rfl, s, h⟩
theorem wSorted {K : PySem.W.Frag} {H : Hp} {L : List En} {a : Addr} {ns : List Int} {Q : VK} (s : SqL K H a (ns.map V.int)) (n : ns.length < 64) (F : Fx H L) (k : ∀ (ms : List Int) p H', ms.Perm ns → ms.Pairwise (· ≤ ·) → Fx H' (.ob p (.lst (ms.map V.int)) :: L) → Q (.ref p) H') : rSorted K [.ref a] H Q :=
  ⟨a, ns, rfl, s, n, fun ms p q r hp => k ms p _ q r (F.new hp)⟩
/-- neighbours ascend -/
def asc : List Int → Bool
  | a :: b :: r => decide (a < b) && asc (b :: r)
  | _ => true
theorem asc_pw : ∀ {l : List Int}, asc l = true ↔ l.Pairwise (· < ·)
  | [] => by simp [asc]
  | [a] => by simp [asc]
  | a :: b :: r => by
    have ih := asc_pw (l := b :: r)
    have e : asc (a :: b :: r) = (decide (a < b) && asc (b :: r)) := by rw [asc]
    rw [e, Bool.and_eq_true, ih, decide_eq_true_iff]
    constructor
    · intro hp
      obtain ⟨h, p⟩ := hp
      refine List.pairwise_cons.mpr ⟨fun x hx => ?_, p⟩
      rcases List.mem_cons.mp hx with e1 | hx
      · rw [e1]; exact h
      · exact Int.lt_trans h ((List.pairwise_cons.mp p).1 x hx)
    · intro hp
      obtain ⟨h, p⟩ := List.pairwise_cons.mp hp
      exact ⟨h b List.mem_cons_self, p⟩
theorem asc_zip : ∀ {l : List Int}, ((l.zip l.tail).all fun p => decide (p.1 < p.2)) = asc l
  | [] => rfl
  | [a] => rfl
  | a :: b :: r => by
    have ih := asc_zip (l := b :: r)
    have e : asc (a :: b :: r) = (decide (a < b) && asc (b :: r)) := by rw [asc]
    rw [e, ← ih]
    rfl
theorem ints_of {xs : List V} {lo hi : V} (h : xs.all (fun x => inB x lo hi) = true) : ∃ ns : List Int, xs = ns.map V.int := by
  induction xs with
  | nil => exact ⟨[], rfl⟩
  | cons x r ih =>
    rw [List.all_cons,
          Bool.and_eq_true] at h
    obtain ⟨ns, e⟩ := ih h.2
    cases x with
    | int i => exact ⟨i :: ns, by rw [e]; rfl⟩
    | _ => exact absurd h.1 (by simp [inB])
theorem take_succ_map {α β : Type} {f : α → β} {l : List α} {i : Nat} {x : α} (h : l[i]? = some x) : (l.take (i + 1)).map f = (l.take i).map f ++ [f x] := by
  rw [List.take_add_one, h, List.map_append]
  rfl

section
variable {K : PySem.W.Frag} {H : Hp} {L : List En} {a b : V} {xs ys : List V} {Q : VK} {g : TG} {tt : TT} {te : TE} {vs : List Nat} {σ : St}
theorem wLcS {QD : Addr → Hp → Prop} (hq : SeqIs L a (some xs)) (F : Fx H L) (R : Nat → List V → List En → Prop) (h0 : R 0 [] L) (keep : ∀ i acc L', R i acc L' → ∀ e ∈ L, e ∈ L')
    (hs : ∀ i x D H' acc L', xs[i]? = some x → R i acc L' → Fx H' (.ob D (.lst acc) :: L') → g x (wipe σ vs) H' fun σ2 H2 => wipe σ2 vs = wipe σ vs ∧ tt σ2 H2 fun b H3 =>
      if b = true then te σ2 H3 fun y H4 => LcPut D R i y H4 else LcP D R (i + 1) H3)
    (hd : ∀ D acc L' H', Fx H' (.ob D (.lst acc) :: L') → R xs.length acc L' → QD D H') :
    GoS K a H fun J H1 => ∀ D, H1 D = none → ∃ W : Nat → Nat → Hp → Prop, (∃ m, W 0 m (upd H1 D (.lst []))) ∧ ∀ i m H, W i m H →
  (J.stop i H ∧ QD D H) ∨ (J.go i H ∧ ∃ Nx : Hp → Prop, (∀ H', Nx H' → ∃ m', m' < m ∧ W (i + 1) m' H') ∧ ∀ x H', J.yld i H x H' → g x (wipe σ vs) H' fun σ2 H2 => wipe σ2 vs = wipe σ vs ∧ tt σ2 H2 fun b H3 =>
    if b = true then te σ2 H3 fun y H4 => ∃ acc, H4 D = some (.lst acc) ∧
          acc.length < sizeLine ∧ Nx (upd H4 D (.lst (acc ++ [y]))) else Nx H3) := by
  cases hq with
  | lst m =>
    refine wGoSL (F.lst m) (wLcW (walk_list (K := K) (xs := xs)) F R h0 (fun i acc L' D H' r F' => F'.lst (List.mem_cons_of_mem _ (keep _ _ _ r _ m))) ?_ hd)
    rintro i x D H' H'' acc L' _ r F' ⟨rfl, e⟩
    exact hs i x D H'' acc L' e r F'
  | tup m =>
    refine wGoST (F.tup m) (wLcW (walk_tup (K := K) (xs := xs)) F R h0 (fun i acc L' D H' r F' => F'.tup (List.mem_cons_of_mem _ (keep _ _ _ r _ m))) ?_ hd)
    rintro i x D H' H'' acc L' _ r F' ⟨rfl, e⟩
    exact hs i x D H'' acc L' e r F'
/-- zip of two lists, or of two tuples -/
inductive Seq2 (L : List En) : V → V → List V → List V → Prop where
  | lst {a b : Addr} {xs ys : List V} (m : En.ob a (.lst xs) ∈ L) (m' : En.ob b (.lst ys) ∈ L) : Seq2 L (.ref a) (.ref b) xs ys
  | tup {a b : Addr} {xs ys : List V} (m : En.ob a (.tup xs) ∈ L) (m' : En.ob b (.tup ys) ∈ L) : Seq2 L (.ref a) (.ref b) xs ys
theorem wLcZ {QD : Addr → Hp → Prop} (hq : Seq2 L a b xs ys) (F : Fx H L) (R : Nat → List V → List En → Prop) (h0 : R 0 [] L) (keep : ∀ i acc L', R i acc L' → ∀ e ∈ L, e ∈ L')
    (hs : ∀ i x y T D H' acc L', xs[i]? = some x → ys[i]? = some y → R i acc L' → Fx H' (.ob T (.tup [x, y]) :: .ob D (.lst acc) :: L') → g (.ref T) (wipe σ vs) H' fun σ2 H2 => wipe σ2 vs = wipe σ vs ∧ tt σ2 H2 fun b H3 =>
      if b = true then te σ2 H3 fun y H4 => LcPut D R i y H4 else LcP D R (i + 1) H3)
    (hd : ∀ D acc L' H', Fx H' (.ob D (.lst acc) :: L') → R (min xs.length ys.length) acc L' → QD D H') :
    GoZ K [a, b] H fun J H1 => ∀ D, H1 D = none → ∃ W : Nat → Nat → Hp → Prop, (∃ m, W 0 m (upd H1 D (.lst []))) ∧ ∀ i m H, W i m H →
  (J.stop i H ∧ QD D H) ∨ (J.go i H ∧ ∃ Nx : Hp → Prop, (∀ H', Nx H' → ∃ m', m' < m ∧ W (i + 1) m' H') ∧ ∀ x H', J.yld i H x H' → g x (wipe σ vs) H' fun σ2 H2 => wipe σ2 vs = wipe σ vs ∧ tt σ2 H2 fun b H3 =>
    if b = true then te σ2 H3 fun y H4 => ∃ acc, H4 D = some (.lst acc) ∧
          acc.length < sizeLine ∧ Nx (upd H4 D (.lst (acc ++ [y]))) else Nx H3) := by
  cases hq with
  | lst m m' =>
    refine wGoZL (F.lst m) (F.lst m') (wLcW (walk_zip (K := K) (xs := xs) (ys := ys) rfl) F R h0 (fun i acc L' D H' r F' => ⟨F'.lst (List.mem_cons_of_mem _ (keep _ _ _ r _ m)), F'.lst (List.mem_cons_of_mem _ (keep _ _ _ r _ m'))⟩) ?_ hd)
    rintro i v D H' H'' acc L' _ r F' ⟨T, x, y, rfl, hT, rfl, e1, e2⟩
    exact hs i x y T D _ acc L' e1 e2 r (F'.new hT)
  | tup m m' =>
    refine wGoZT (F.tup m) (F.tup m') (wLcW (walk_zipT (K := K) (xs := xs) (ys := ys) rfl) F R h0 (fun i acc L' D H' r F' => ⟨F'.tup (List.mem_cons_of_mem _ (keep _ _ _ r _ m)), F'.tup (List.mem_cons_of_mem _ (keep _ _ _ r _ m'))⟩) ?_ hd)
    rintro i v D H' H'' acc L' _ r F' ⟨T, x, y, rfl, hT, rfl, e1, e2⟩
    exact hs i x y T D _ acc L' e1 e2 r (F'.new hT)
/-- a for over a list or a tuple -/
theorem wForS {tb : TS} {nx : St → Hp → Prop} {rt : VK} (hq : SeqIs L a (some xs)) (F : Fx H L) (Pv : Nat → St → Hp → Prop) (h0 : Pv 0 σ H) (keep : ∀ i σ H', Pv i σ H' → ∃ L', Fx H' L' ∧ ∀ p o, En.ob p o ∈ L → En.ob p o ∈ L')
    (hs : ∀ i x σ H', xs[i]? = some x → Pv i σ H' → g x σ H' fun σ2 H2 => tb ⟨Pv (i + 1), rt, nx, Pv (i + 1)⟩ σ2 H2) (hd : ∀ σ H', Pv xs.length σ H' → nx σ H') :
    GoS K a H fun J H1 => ∃ W : Nat → Nat → St → Hp → Prop, (∃ m, W 0 m σ H1) ∧ ∀ i m σ H, W i m σ H →
      (J.stop i H ∧ nx σ H) ∨ (J.go i H ∧ ∃ N : St → Hp → Prop, (∀ σ' H', N σ' H' → ∃ m', m' < m ∧ W (i + 1) m' σ' H') ∧ ∀ x H', J.yld i H x H' → g x σ H' fun σ2 H2 => tb ⟨N, rt, nx, N⟩ σ2 H2) := by
  cases hq with
  | lst m =>
    refine wGoSL (F.lst m) (wForW (walk_list (K := K) (xs := xs)) Pv h0 (fun i σ H' _ p => ?_) ?_ hd)
    · obtain ⟨L', F', k⟩ := keep i σ H' p
      exact F'.lst (k _ _ m)
    · rintro i x σ H' H'' _ p ⟨rfl, e⟩
      exact hs i x σ H'' e p
  | tup m =>
    refine wGoST (F.tup m) (wForW (walk_tup (K := K) (xs := xs)) Pv h0 (fun i σ H' _ p => ?_) ?_ hd)
    · obtain ⟨L', F', k⟩ := keep i σ H' p
      exact F'.tup (k _ _ m)
    · rintro i x σ H' H'' _ p ⟨rfl, e⟩
      exact hs i x σ H'' e p
/-- the tail of a list or of a tuple that is not empty -/
theorem wSlS (hq : SeqIs L a (some xs)) (n : xs ≠ []) (F : Fx H L) (k : ∀ p H' e, Fx H' (e :: L) → Seq2 (e :: L) a (.ref p) xs xs.tail → Q (.ref p) H') : rOrS (rSlL K) (rSlT K) a (some 1) none H Q := by
  cases hq with
  | lst m => exact wSlL (F.lst m) F fun p H' F' => k p H' _ F' (.lst (List.mem_cons_of_mem _ m) (by rw [cut_tail]; exact List.mem_cons_self))
  | tup m =>
    refine wSlT (F.tup m) (fun h => ?_) F fun p H' F' => k p H' _ F' (.tup (List.mem_cons_of_mem _ m) (by rw [cut_tail]; exact List.mem_cons_self))
    have e := h.1
    cases xs with
    | nil => exact n rfl
    | cons x r => simp [HT.sIx] at e
end

/-! list(range(a, b)) -/
def rgI (a b : Int) : List Int := (List.range (b - a).toNat).map fun i => a + (i : Nat)
theorem rgV_ints (a b : Int) : rgV a b = (rgI a b).map V.int := by
  unfold rgV rgI
  rw [List.map_map]
  rfl
theorem rgI_len (a b : Int) : (rgI a b).length = (b - a).toNat := by unfold rgI; rw [List.length_map, List.length_range]
theorem rgI_mem {a b n : Int} (h : n ∈ rgI a b) : a ≤ n ∧ n < b := by
  unfold rgI at h
  obtain ⟨i, hi, rfl⟩
        := List.mem_map.mp h
  have := List.mem_range.mp hi
  omega
theorem rgI_nodup (a b : Int) : (rgI a b).Nodup := by
  unfold rgI
  refine List.Pairwise.map _ (fun x y h => ?_) List.nodup_range
  intro e
  exact h (by omega)
section
variable {H : Hp} {L : List En} {Q : VK} {σ : St} {ta tb : TE} {i j : Int}
def RgV (x y : V) (H : Hp) (Q : VK) : Prop := ∃ i j, x = .int i ∧ y = .int j ∧ RgOk i j ∧ ∀ q, H q = none → Q (.ref q) (upd H q (.lst (rgV i j)))
theorem wListRg2 (h : ta σ H fun x H1 => tb σ H1 fun y H2 => RgV x y H2 Q) : tLstRg (tRg2 ta tb) σ H Q := h
theorem wListRg1 (h : ta σ H fun x H1 => RgV (.int 0) x H1 Q) (mono : ∀ (P P' : V → Hp → Prop) , (∀ x H, P x H → P' x H) → ta σ H P → ta σ H P') : tLstRg (tRg1 ta) σ H Q := by
  refine mono _ _ (fun x H1 z => ?_) h
  obtain ⟨i, j, e1, e2, r, q⟩ := z
  cases e1
  exact ⟨j, e2, r, q⟩
theorem wRgV (ok : RgOk i j) (F : Fx H L) (k : ∀ p H', Fx H' (.ob p (.lst ((rgI i j).map V.int)) :: L) → Q (.ref p) H') : RgV (.int i) (.int j) H Q := ⟨i, j, rfl, rfl, ok, by rw [rgV_ints]; exact wNewF F k⟩
end
theorem pw_lt {l : List Int} (h : l.Pairwise (· ≤ ·)) (n : l.Nodup) : l.Pairwise (· < ·) := by
  have q : l.Pairwise (fun a b => a ≤ b ∧ a ≠ b) := h.and n
  exact q.imp fun ⟨a, b⟩ => by omega
theorem erase_perm {α : Type} : ∀ {l : List α} {k : Nat} {x : α}, l[k]? = some x → (x :: l.eraseIdx k).Perm l
  | [], k, x, h => by simp at h
  | a :: r, 0, x, h => by
    have e : a = x :=
          Option.some.inj h
    subst e
    exact List.Perm.refl _
  | a :: r, k + 1, x, h => by
    have ih := erase_perm (l := r) (k := k) (x := x) h
    exact (List.Perm.swap a x _).trans (ih.cons a)
theorem seqIx {v : Int} {n : Nat} (h0 : 0 ≤ v) (h1 : v < n) : seqIndex? v n = some v.toNat := by
  unfold seqIndex?
  simp [h0, h1]
  try omega
theorem map_get {ns : List Int} {k : Nat} (h : k < ns.length) : (ns.map V.int)[k]? = some (V.int (ns.getD k 0)) := by
  rw [List.getElem?_map, List.getElem?_eq_getElem h,
        List.getD_eq_getElem?_getD, List.getElem?_eq_getElem h]
  rfl
theorem get_getD {ns : List Int} {k : Nat} (h : k < ns.length) : ns[k]? = some (ns.getD k 0) := by
  rw [List.getElem?_eq_getElem h,
        List.getD_eq_getElem?_getD, List.getElem?_eq_getElem h]
  rfl
theorem map_erase : ∀ {ns : List Int} {k : Nat}, (ns.map V.int).eraseIdx k = (ns.eraseIdx k).map V.int
  | [], _ => rfl
  | _ :: _, 0 => rfl
  | a :: r, k + 1 => by
    have ih := map_erase (ns := r) (k := k)
    show V.int a :: (r.map V.int).eraseIdx k = V.int a :: (r.eraseIdx k).map V.int
    rw [ih]
end Z

set_option Elab.async false
set_option linter.all false
set_option maxRecDepth 100000
set_option maxHeartbeats 2000500
namespace Z
open PySem L2 RZ
/-! ### data of whole numbers, compared -/
def iD (ns : List Int) : List PyData := ns.map PyData.int
theorem dpAll_ints {K : PySem.W.Frag} {H : Hp} : ∀ ns : List Int, DpAll K H (ns.map V.int) (iD ns)
  | [] => .nil
  | n :: r => .cons (.int n) (dpAll_ints r)
theorem eqvAll_ints : ∀ ns ms : List Int, PyData.eqvAll (iD ns) (iD ms) = decide (ns = ms)
  | [], [] => rfl
  | [], _ :: _ => rfl
  | _ :: _, [] => rfl
  | n :: r, m :: q => by
    show (PyData.eqv (.int n) (.int m) && PyData.eqvAll (iD r) (iD q)) = decide (n :: r = m :: q)
    rw [eqvAll_ints r q]
    show ((n == m) && decide (r = q)) = decide (n :: r = m :: q)
    by_cases h : n = m
    · subst h
      by_cases h' : r = q
      · subst h'; simp
      · simp [h']
    · simp [h]
theorem canLay_ints : ∀ ns : List Int, PyData.canLayAll0 (iD ns) = true
  | [] => rfl
  | n :: r => by
    show (PyData.canLay0 (.int n) && PyData.canLayAll0 (iD r)) = true
    rw [canLay_ints r]
    rfl
theorem depth_ints : ∀ ns : List Int, PyData.depthAll (iD ns) = 0
  | [] => rfl
  | n :: r => by
    show max (PyData.depth (.int n)) (PyData.depthAll (iD r)) = 0
    rw [depth_ints r]
    rfl
theorem shaped_tup (ns : List Int) : SeqAt.shaped (.tuple (iD ns)) = true := by
  unfold SeqAt.shaped
  rw [Bool.and_eq_true]
  refine ⟨canLay_ints ns, decide_eq_true ?_⟩
  show PyData.depthAll (iD ns) + 1 ≤ 64
  rw [depth_ints]
  decide
theorem shaped_lst (ns : List Int) : SeqAt.shaped (.list (iD ns)) = true := shaped_tup ns
section
variable {K : PySem.W.Frag} {H : Hp} {Q : VK} {a b : Addr} {ns ms : List Int} {x y : V} {r : R2}
theorem wEqTT (s : SqT K H a (ns.map V.int)) (t : SqT K H b (ms.map V.int)) (h : Q (.bl (decide (ns = ms))) H) : rOr rEq (rEqD K) (.ref a) (.ref b) H Q :=
  .inr ⟨_, _, .tup s (dpAll_ints ns), .tup t (dpAll_ints ms), shaped_tup ns, shaped_tup ms, by
    have e : PyData.eqv (.tuple (iD ns)) (.tuple (iD ms)) = decide (ns = ms) := eqvAll_ints ns ms
    rw [e]; exact h⟩
theorem wEqLL (s : SqL K H a (ns.map V.int)) (t : SqL K H b (ms.map V.int)) (h : Q (.bl (decide (ns = ms))) H) : rOr rEq (rEqD K) (.ref a) (.ref b) H Q :=
  .inr ⟨_, _, .lst s (dpAll_ints ns), .lst t (dpAll_ints ms), shaped_lst ns, shaped_lst ms, by
    have e : PyData.eqv (.list (iD ns)) (.list (iD ms)) = decide (ns = ms) := eqvAll_ints ns ms
    rw [e]; exact h⟩
theorem wNeTT (s : SqT K H a (ns.map V.int)) (t : SqT K H b (ms.map V.int)) (h : Q (.bl (!decide (ns = ms))) H) : rOr rNe (rNeD K) (.ref a) (.ref b) H Q :=
  .inr ⟨_, _, .tup s (dpAll_ints ns), .tup t (dpAll_ints ms), shaped_tup ns, shaped_tup ms, by
    have e : PyData.eqv (.tuple (iD ns)) (.tuple (iD ms)) = decide (ns = ms) := eqvAll_ints ns ms
    rw [e]; exact h⟩
theorem wNeLL (s : SqL K H a (ns.map V.int)) (t : SqL K H b (ms.map V.int)) (h : Q (.bl (!decide (ns = ms))) H) : rOr rNe (rNeD K) (.ref a) (.ref b) H Q :=
  .inr ⟨_, _, .lst s (dpAll_ints ns), .lst t (dpAll_ints ms), shaped_lst ns, shaped_lst ms, by
    have e : PyData.eqv (.list (iD ns)) (.list (iD ms)) = decide (ns = ms) := eqvAll_ints ns ms
    rw [e]; exact h⟩
/-- two texts, one of them known -/
theorem wNeStr {z z' : Str} (h : Q (.bl (!decide (z = z'))) H) : rOr rNe (rNeD K) (.str z) (.str z') H Q := .inl ⟨rfl, by
  have e : decide (V.str z = V.str z') = decide (z = z') := by
    by_cases q : z = z'
    · rw [q, decide_eq_true rfl, decide_eq_true rfl]
    · rw [decide_eq_false q, decide_eq_false (fun z => q (by injection z))]
  rw [e]; exact h⟩
theorem wEqStr {z z' : Str} (h : Q (.bl (decide (z = z'))) H) : rOr rEq (rEqD K) (.str z) (.str z') H Q := .inl ⟨rfl, by
  have e : decide (V.str z = V.str z') = decide (z = z') := by
    by_cases q : z = z'
    · rw [q, decide_eq_true rfl, decide_eq_true rfl]
    · rw [decide_eq_false q, decide_eq_false (fun z => q (by injection z))]
  rw [e]; exact h⟩
theorem wProp {C : Addr} {sp : Sp} {E : XK} {te : TE} {σ : St} (h : te σ H fun x H1 => ∃ a dx fs, x = .ref a ∧ H1 a = some (.ins C dx fs) ∧ sp [.ref a] H1 Q E) : tProp C sp [] E te σ H Q := h
theorem wSqTof {L : List En} (F : Fx H L) {xs : List V} (m : En.ob a (.tup xs) ∈ L) : SqT K H a xs := F.tup m
end
end Z
namespace Z
open PySem L2 RZ
theorem at_last {ns : List Int} (h : 0 < ns.length) : atI (ns.map V.int) (-1) = some (V.int (ns.getD (ns.length - 1) 0)) := by
  unfold atI ixN
  rw [if_neg (by decide), if_pos (by rw [List.length_map]; omega)]
  have e : ((-1 : Int) + (ns.map V.int).length).toNat = ns.length - 1 := by rw [List.length_map]; omega
  rw [e]
  exact map_get (by omega)
end Z
namespace Z
open PySem L2 RZ
theorem wXf {a : Addr} {cls : Value} {d : Option Addr} {C : Addr} {f : Str} {te : TE} {σ : St} {H : Hp} {Q : VK} (h : te σ H fun x H1 => x = .ref a ∧ cls = .ref C ∧ ∃ (dd : Addr) (fs : List (Str × V)) (v : V), d = some dd ∧ H1 dd = some (.xd fs) ∧ fs.lookup f = some v ∧ Q v H1) : tXf a cls d C f te σ H Q := h
theorem wAs_yes {K : PySem.W.Frag} {c : Value} {i : Nat} {ts : Addr → Value → Option Addr → TS} {Wout : WX} {nx bk ct : St → Hp → Prop} {rt : VK} {d : Option Addr} {σ : St} {H : Hp} (e : PySem.W.exmOne K c c = some true)
    (h : ∀ a, H a = none → ts a c d ⟨fun σ' H' => nx (σ'.set i none) H', rt, fun σ' H' => bk (σ'.set i none) H', fun σ' H' => ct (σ'.set i none) H'⟩ (σ.set i (some (.ref a))) H) : WE (wAs K c i ts Wout ⟨nx, rt, bk, ct⟩) σ c d H :=
  ⟨true, e, fun _ a ha => h a ha, fun q => Bool.noConfusion q⟩
end Z

set_option Elab.async false
set_option linter.all false
set_option maxRecDepth 100000
set_option maxHeartbeats 2000500
namespace Z
open PySem L2 RZ PySem.Spec PyProof.Rows
/-! ### a try whose clauses have a name or none, mixed -/
/-- a clause: the class, the slot of its name if it has one, the suite -/
structure Cl where
  c : Value
  i : Option Nat
  ts : Addr → Value → Option Addr → TS
/-- behind a suite the name is gone -/
def gone (D : Ends) : Option Nat → Ends
  | none => D
  | some i => ⟨fun σ H => D.nx (σ.set i none) H, D.rt, fun σ H => D.bk (σ.set i none) H, fun σ H => D.ct (σ.set i none) H⟩
def held (a : Addr) (σ : L2.St) : Option Nat → L2.St
  | none => σ
  | some i => σ.set i (some (.ref a))
def wMix (K : PySem.W.Frag) (Wout : WX) (D : Ends) : List Cl → WX
  | [] => Wout
  | k :: r => fun cls d σ H => ∃ b, PySem.W.exmOne K cls k.c = some b ∧
    (b = true → ∀ a, H a = none → k.ts a cls d (gone D k.i) (held a σ k.i) H) ∧
    (b = false → wMix K Wout D r cls d σ H)
inductive ClsOk (X : Cx) : List ExceptHandler → List Cl → Prop
  | nil : ClsOk X [] []
  | bare {x : Str} {c : Value} {ts : Addr → Value → Option Addr → TS} {b₀ : Stmt} {su : List Stmt} {np ps : Pos} {hs : List ExceptHandler} {l : List Cl}
      (hc : Names X x c) (hsu : ∀ (a : Addr) (oe : Obj) (cls : Value) (d : Option Addr) (pn : List (Addr × Obj)), Zc cls d oe →
        (∃ vs, oe.data = .fields vs) → PSs (X.suite a ((a, oe) :: pn)) (b₀ :: su) (ts a cls d)) (r : ClsOk X hs l) :
      ClsOk X (.ExceptHandler (some (.Name x np)) none (b₀ :: su) ps :: hs) (⟨c, none, ts⟩ :: l)
  | named {x n : Str} {i : Nat} {c : Value} {ts : Addr → Value → Option Addr → TS} {b₀ : Stmt} {su : List Stmt} {np ps : Pos} {hs : List ExceptHandler} {l : List Cl}
      (hN : X.N.Nodup) (hi : X.N[i]? = some n) (hln : X.env.kindOf n = some .local)
      (hc : Names X x c) (hsu : ∀ (a : Addr) (oe : Obj) (cls : Value) (d : Option Addr) (pn : List (Addr × Obj)), Zc cls d oe →
        (∃ vs, oe.data = .fields vs) → PSs (X.suite a ((a, oe) :: pn)) (b₀ :: su) (ts a cls d)) (r : ClsOk X hs l) :
      ClsOk X (.ExceptHandler (some (.Name x np)) (some n) (b₀ :: su) ps :: hs) (⟨c, some i, ts⟩ :: l)
section
variable {X : Cx} {body : List Stmt} {h₀ : ExceptHandler} {hds : List ExceptHandler} {l : List Cl} {pos : Pos} {tb : WX → TS} {Wout : WX}
theorem ps_try_mix (hs : X.stack = X.env :: X.outer) (hf : X.env.frame = some X.env.locals) (tk : Takes X Wout)
    (hb : ∀ (W : WX) (pn : List (Addr × Obj)) (xe : Value → Shared → Prop), Takes (X.tr pn xe) W →
      PassesOwn (model X.prog X.w) X.A X.env xe → PSs (X.tr pn xe) body (tb W))
    (hh : ClsOk X (h₀ :: hds) l) : PS X (.Try body (h₀ :: hds) [] [] pos) (fun D σ H => tb (wMix X.K Wout D l) D σ H) := by
  refine ⟨fun pins
        s σ H D I h => ?_⟩
  have ok := I.ok
  have frs0 : X.A.frames = some (X.env :: X.outer) := by rw [ok.frames, hs]
  have run := (hb (wMix X.K Wout D l) (X.pn ++ pins)
    (fun e s₁ => wpAny (model X.prog X.w) X.A (noteFrame e X.env) (fun _ s₂ => wpAny (model X.prog X.w) X.A (setFlight e none)
      (fun _ s₃ => wpAny (model X.prog X.w) X.A (handleBy e X.env (h₀ :: hds)) (SP X pins D) X.xe s₃) X.xe s₂) X.xe s₁)
    (fun u s' xx => ?caught) PassesOwn.looking).run [] s σ H D (I.toTry _) h
  · refine wpAny_Try_except (wpAny_mono run (fun f s1 done => ?_) fun e s1 z => z)
    cases f with
    | next =>
      obtain ⟨σ1, H1, J1, q1⟩ := done
      exact wpAny_execs_nil ⟨σ1, H1, J1.ofTry ok, q1⟩
    | brk => exact done.imp fun σ1 ⟨H1, J1, q1⟩ => ⟨H1, J1.ofTry ok, q1⟩
    | cont => exact done.imp fun σ1 ⟨H1, J1, q1⟩ => ⟨H1, J1.ofTry ok, q1⟩
    | ret u =>
      obtain ⟨v, σ1, H1, J1, r1, q1⟩ := done
      exact ⟨v, σ1, H1, J1.ofTry ok, r1, q1⟩
  obtain ⟨a, B, sI, pins', σ', H', cls, d, rfl, J', nb, up, sky, na, os, ag, wish⟩ := xx
  have J : Inv X pins σ'
        H' sI := J'.ofTry ok
  have sky1 : Sky B (X.env :: X.outer) a (Zc cls d) X.env.locals s'.heap := by rw [← hs]; exact sky
  show wpAny (model X.prog X.w) X.A
        (noteFrame (.ref a) X.env) _ _ _
  refine Sky.land Zc.steady frs0 hf sky1 fun h3 fl3 up3 => ?_
  have up13 := up.trans up3
  have J3 : Inv X pins σ' H' { s' with heap := h3 } := J.landed nb fl3.1 up13 os ag
  obtain ⟨oe3, vs3, he3,
        hz3, hd3⟩ := fl3.there
  have away : a ∉ frs (X.env :: X.outer) := fun hm => by
    obtain ⟨_, o', e', q⟩ := fl3.2.2.1.mem hm
    rw [he3] at e'
    cases e'
    exact q _ hd3
  have nL : a ≠ X.env.locals := fun z => away (List.mem_filterMap.mpr ⟨X.env, List.mem_cons_self, by rw [hf, z]⟩)
  have nF : a ∉ X.fs
        := fun hm => by
    obtain ⟨e, he, q⟩ :=
          List.mem_filterMap.mp hm
    exact away (List.mem_filterMap.mpr ⟨e, List.mem_cons_of_mem _ he, q⟩)
  have S3 := J3.suite
        he3 hd3 na nL nF
  have asks : ∀ {x : Str} {c : Value} {np : Pos} {Q E : Value → Shared → Prop}, Names X x c → Q c { s' with heap := h3 } →
      wpAny (model X.prog X.w) (X.A.mark (some (.ref a))) (eval (.Name x np) X.env) Q E { s' with heap := h3 } := fun {x c np Q E} hc q => by
    obtain ⟨hg, hdbg, hm
          | ⟨hm, hv, hnn⟩⟩ := hc
    · exact ld_glob (X := X.suite a ((a,
          oe3) :: (X.pn ++ pins))) S3 hg hm q hdbg
    · exact ld_blt (X := X.suite a ((a, oe3)
          :: (X.pn ++ pins))) S3 hg hm hv q hnn hdbg
  have LT : PySem.W.Looks (model X.prog X.w) h3 (typeOf (.ref a)) cls :=
    fun A Q E s k q => wpAny_typeOf_ref (k _ _ he3) (by rw [hz3.1]; exact q)
  have each : ∀ {hs' : List ExceptHandler} {l' : List Cl}, ClsOk X hs' l' → wMix X.K Wout D l' cls d σ' H' →
      wpAny (model X.prog X.w) X.A (handleBy (.ref a) X.env hs') (SP X pins D) X.xe { s' with heap := h3 } := by
    intro hs' l' hk
    induction hk with
    | nil =>
      intro w
      refine wpAny_handleBy_nil ?_
      obtain ⟨k1, k2, k3, oe, vs, T, oT,
            ts', he, hz, hd, h1, hr⟩ := id fl3
      unfold PySem.passOn
      refine wpAny_bind
            (wpAny_field he hd h1 ?_)
      rw [if_neg (show ¬ ((Value.ref T ==
            Value.none) = true) from by simp)]
      have out : wpAny (model X.prog X.w) X.A (setFlight (.ref a) X.env.frame)
          (fun _ s4 => wpAny (model X.prog X.w) X.A (throw (.ref a) : Sem Flow) (SP X pins D) X.xe s4) X.xe { s' with heap := h3 } := by
        rw [hf]
        refine HandSPX.setFlight_upZ fl3 fun
              h4 hh4 up4 => wpAny_throw (tk _ _ ?_)
        exact ⟨a, B, sI, pins, σ', H', cls, d, rfl, J, nb, up13.trans up4, .inr (.inr (by rw [hs]; exact hh4)), na, os, ag, w⟩
      first
        | exact wpAny_bind (wpAny_pure (wpAny_bind out))
        | exact wpAny_bind out
    | @bare x c ts b₀ su np ps hs2 l2 hc hsu r ih =>
      intro w
      obtain ⟨b, hb1, yes, no⟩ := w
      refine wpAny_handleBy_cons
            (codeAny_handlers_test ?_) (by intro q; cases q)
      have LM := PySem.W.exm_one (M := model X.prog X.w) J3.kIn LT hb1
      refine asks hc (LM.here ?_)
      cases b with
      | false =>
        show wpAny _ X.A (handleBy (.ref a) X.env hs2) _ _ _
        exact ih (no rfl)
      | true =>
        refine codeAny_handlers_suite (HandSPX.lands_againZ fl3 fun h4 fl4 up4 => ?_)
        have J4 : Inv X pins σ' H' { s' with heap := h4 } := J.landed nb fl4.1 (up13.trans up4) os ag
        obtain ⟨oe4, vs4, he4,
              hz4, hd4⟩ := fl4.there
        have S4 := J4.suite
              he4 hd4 na nL nF
        refine wpAny_mono ((hsu a oe4 cls d (X.pn ++ pins) hz4 ⟨_, hd4⟩).run [] _ _ H' _ S4 (yes rfl a na)) (fun f s6 done => ?_) (fun _ _ z => False.elim z)
        cases f with
        | ret u =>
          obtain ⟨v6, σ6, H6, S6, r6, q6⟩ := done
          exact ⟨_, _, _,
                S6.unsuite ok, r6, q6⟩
        | next => exact done.imp fun σ6 ⟨H6, S6, q6⟩ => ⟨H6, S6.unsuite ok, q6⟩
        | brk => exact done.imp fun σ6 ⟨H6, S6, q6⟩ => ⟨H6, S6.unsuite ok, q6⟩
        | cont => exact done.imp fun σ6 ⟨H6, S6, q6⟩ => ⟨H6, S6.unsuite ok, q6⟩
    | @named x n i c ts b₀ su np ps hs2 l2 hN hi hln hc hsu r ih =>
      intro w
      obtain ⟨b, hb1, yes, no⟩ := w
      refine wpAny_handleBy_cons
            (codeAny_handlers_test ?_) (by intro q; cases q)
      have LM := PySem.W.exm_one (M := model X.prog X.w) J3.kIn LT hb1
      refine asks hc (LM.here ?_)
      cases b with
      | false =>
        show wpAny _ X.A (handleBy (.ref a) X.env hs2) _ _ _
        exact ih (no rfl)
      | true =>
        refine codeAny_handlers_suite_as (HandSPX.lands_againZ fl3 fun h4 fl4 up4 => ?_)
        have J4 : Inv X pins σ' H' { s' with heap := h4 } := J.landed nb fl4.1 (up13.trans up4) os ag
        obtain ⟨oe4, vs4, he4,
              hz4, hd4⟩ := fl4.there
        have S4 := J4.suite
              he4 hd4 na nL nF
        refine store_ok (X := X.suite a ((a, oe4) :: (X.pn ++ pins))) (v := .ref a) S4 hN hi (.inl hln) rfl (fun s5 S5 => ?_) (.inr hln)
        refine wpAny_mono ((hsu a oe4 cls d (X.pn ++ pins) hz4 ⟨_, hd4⟩).run [] s5 _ H' _ S5 (yes rfl a na)) (fun f s6 done => ?_) (fun _ _ z => False.elim z)
        have free : ∀ {σ6 : L2.St} {H6 : Hp} {Q : Shared → Prop}, Inv (X.suite a ((a, oe4) :: (X.pn ++ pins))) [] σ6 H6 s6 →
            (∀ s7, Inv X pins (σ6.set i none) H6 s7 → Q s7) →
            wpAny (model X.prog X.w) X.A (do bindName X.env n .none; unbindBehindTheSuite X.env n ps) (fun _ s7 => Q s7) X.xe s6 :=
          fun {σ6 H6 Q} S6 hq => gone_ok (S6.unsuite ok) hN hi hln hq
        cases f with
        | ret u =>
          obtain ⟨v6, σ6, H6, S6, r6, q6⟩ := done
          exact free S6 fun s7 J7 => ⟨_, _, _, J7, r6, q6⟩
        | next =>
          obtain ⟨σ6, H6, S6, q6⟩ := done
          exact free S6 fun s7 J7 => ⟨_, _, J7, q6⟩
        | brk =>
          obtain ⟨σ6, H6, S6, q6⟩ := done
          exact free S6 fun s7 J7 => ⟨_, _, J7, q6⟩
        | cont =>
          obtain ⟨σ6, H6, S6, q6⟩ := done
          exact free S6 fun s7 J7 => ⟨_, _, J7, q6⟩
  exact each hh wish
end
end Z
namespace Z
open PySem L2 RZ PySem.Spec PyProof.Rows
section
variable {X : Cx} {C : Addr} {bmB :
      List Value} {B newId initId : String}
/-- X() of an own error without an __init__ -/
theorem pmk_own0 {x : Str} {p pos : Pos} (F : ExcBaseFacts B newId initId bmB) (q : PySem.W.excIn X.K C bmB newId = true)
    (gC : X.mg x = some (.ref C)) (kC : PySem.W.keepIn X.K (.ref C) = true) (r : Raises X (.ref C)) (hg : Gl X x)
    (hdb : (x == ("__debug__" : Str)) = false := by decide) : PMk X (.Call (.Name x p) [] [] pos) (fun _ H Q => Q (.ref C) none H) := by
  intro pins s σ H Q I h
  refine wpAny_Call_Name_kw
        (ld_glob I hg gC ?_ hdb)
  refine PySem.W.callWith_K0 I.kIn kC ?_
  show wpAny _ _ (call (.ref C) []) _ _ _
  obtain ⟨bm, N, nm, qn, bs, hdct, sn, sub, ab, col, dd, k0, k1, k2, k3, k5, mN, hC, hN, hni, T⟩ := exc_obj I.kIn q
  refine wpAny_call_exc_subT F T hC hN hni (fun h' e hm => ?_) (Nat.zero_le _)
  exact mk_of I hm r h (I.hok.gone hm.new)
end
end Z
/-! ### a method is called in a try; an own error without arguments is raised -/
namespace Z
open PySem L2 RZ
section
variable {X : Cx} {CX : CXT} {k : Nat} {C : Addr} {ps : List Str} {sp : Sp} {E : L2.St → XK} {m x : Str} {p pos apos : Pos} {e o : Expr} {es : List Expr} {ta : TE} {t : TA}
def tMethS (C : Addr) (m : Str) (sp : Sp) (E : L2.St → XK) (ta : TE) (t : TA) : TE := fun σ H Q => ta σ H fun x H1 =>
  ∃ a dx fs, x = .ref a ∧ H1 a = some (.ins C dx fs) ∧ fs.lookup m = none ∧ t σ H1 fun vs H2 => sp (x :: vs) H2 Q (E σ)
theorem pe_methSO {pl : Sem Bool} (O : MethO CX X.prog X.w X.K X.mg X.base C m k ps [] sp) (c : Cls X.K C) (hr : Room k X.A)
    (hx : ∀ σ, PassesAt CX X σ (E σ)) (he : PE X o ta) (ha : PA X (e :: es) t)
    (hst : starEach (e :: es) X.env = (false, eval e X.env) :: starEach es X.env := by rfl)
    (hpl : (backTo pos (starEach es X.env)).any (·.1) = false := by rfl)
    (ht : eval (.Call (.Attribute o m
          apos) (e :: es) [] pos) X.env = (do
      let ov ← eval o X.env
      standAt apos.atName
      let (f, first) ← holding
            [ov] (getMethod ov m pl)
      callWith pos f first (backTo pos (starEach (e :: es)
            X.env)) (backToKw pos (keywordEach [] X.env))) := by rfl) :
    PE X (.Call (.Attribute o m apos) (e ::
          es) [] pos) (tMethS C m sp E ta t) := by
  obtain ⟨f, fd, ds, hm, hb, v, F⟩ := O
  cases v
  refine ⟨fun pins
        s σ H Q I h => ?_⟩
  refine PySem.W.methodCall_KW (pl := pl) (thn (he.run pins s σ H _
        I h) fun u s1 ⟨x, H1, I1, rx, a, dx, fs, ex, ea, l, q⟩ => ?_) ht
  subst ex
  cases rx
  refine getmeth_ok
        I1 ea c hm l ?_
  refine PySem.W.callWith_K (first := [.ref a]) (h₀ := X.base) I.ok.mod.kin hm.kp (thn
        (ha.run pos pins s1 σ H1 _ I1 q) fun us s2 ⟨vs, H2, I2, r, q2⟩ => ⟨I2.kIn, ?_⟩) hst hpl
  exact run_fnS (us := .ref a :: us) (vs := .ref
        a :: vs) F hr hb (hx σ) I2 (.cons rfl r) q2
theorem wMethS {σ : L2.St} {H : Hp} {Q : VK} (h : ta σ H fun x H1 => ∃ a dx fs, x = .ref a ∧ H1 a = some (.ins C dx fs) ∧ fs.lookup m = none ∧ t σ H1 fun vs H2 => sp (x :: vs) H2 Q (E σ)) : tMethS C m sp E ta t σ H Q := h
theorem wMeth {dvs : List V} {E : XK} {σ : L2.St} {H : Hp} {Q : VK} (h : ta σ H fun x H1 => ∃ a dx fs, x = .ref a ∧ H1 a = some (.ins C dx fs) ∧ fs.lookup m = none ∧ t σ H1 fun vs H2 => sp (x :: (vs ++ dvs)) H2 Q E) : tMeth C m sp dvs E ta t σ H Q := h
/-- an own error class that is made without arguments -/
structure ErrF0 (K : PySem.W.Frag) (C : Addr) : Prop where
  ex0 : PySem.W.excIn K C [.type "ValueError", .type "Exception", .type "BaseException", .type "object"] "ValueError.__new__" = true
  kp : PySem.W.keepIn
        K (.ref C) = true
  exC : PySem.W.subIn K (.ref C)
        (.type "BaseException") = some true
  tyC : PySem.W.typeIn K (.ref
        C) = some (.type "type")
theorem pmk_err00 (T : ErrF0 X.K C) (hm : X.mg x = some (.ref C)) (hg : Gl X x) (hdb : (x == ("__debug__" : Str)) = false := by decide) :
    PMk X (.Call (.Name x p) [] [] pos) (fun _ H Q => Q (.ref C) none H) :=
  pmk_own0 PySem.F.excBase_ValueError T.ex0 hm T.kp (raises_own T.exC T.tyC) hg hdb
end
end Z
namespace Z
open PySem L2
theorem exm_of {K : PySem.W.Frag} {cls : Value} {C : Addr} {b : Bool} (hb : PySem.W.subIn K (.ref C) (.type "BaseException") = some true)
    (ic : PySem.W.isClsIn K C = true) (ty : PySem.W.typeIn K (.ref C) = some (.type "type")) (q : PySem.W.subIn K cls (.ref C) = some b) :
    PySem.W.exmOne K cls (.ref C) = some b := by
  have i' : (PySem.W.clsIn K C).isSome = true := ic
  have e2 : ((PySem.W.clsIn K C).isSome && PySem.W.typeIn K (.ref C) == some (.type "type")) = true := by
    rw [i', ty]
    rfl
  have e3 : PySem.W.kitCls K cls (.ref C) = some b := by
    unfold PySem.W.kitCls
    exact (if_pos e2).trans q
  unfold PySem.W.exmOne
  rw [hb]
  exact e3
end Z
namespace Z
open PySem L2
/-- what a callee lets out is let out -/
theorem passE {X : Cx} {E : XK} (tk : Takes X (fun cls d _ H => E cls d H)) : Passes (L2.CX X.prog X.w) X E := fun pins σ H s e s' I c => passAt (W := fun cls d _ H => E cls d H) tk σ pins H s e s' I c
end Z
namespace Z
open PySem L2
theorem wStarL {K : PySem.W.Frag} {te : TE} {t : TA} {σ : L2.St} {H : Hp} {Q : List V → Hp → Prop} (h : te σ H fun x H1 => ∃ p xs, x = V.ref p ∧ (SqT K H1 p xs ∨ SqL K H1 p xs) ∧ t σ H1 fun ys H2 => Q (xs ++ ys) H2) : StX.tStar K te t σ H Q := h
theorem starL {K : PySem.W.Frag} {a : Addr} {xs : List V} {H : Hp} {R : List V → Prop} (s : SqL K H a xs) (h : R xs) : ∃ p xs, V.ref a = V.ref p ∧ (SqT K H p xs ∨ SqL K H p xs) ∧ R xs := ⟨a, xs, rfl, .inr s, h⟩
end Z
namespace Z
open PySem L2
section
variable {K : PySem.W.Frag} {Wout : WX} {D : Ends} {k : Cl} {r : List Cl} {cls : Value} {d : Option Addr} {σ : L2.St} {H : Hp}
theorem wMix_yes (e : PySem.W.exmOne K cls k.c = some true) (h : ∀ a, H a = none → k.ts a cls d (gone D k.i) (held a σ k.i) H) : WE (wMix K Wout D (k :: r)) σ cls d H :=
  ⟨true, e, fun _ => h, fun q => Bool.noConfusion q⟩
theorem wMix_no (e : PySem.W.exmOne K cls k.c = some false) (h : WE (wMix K Wout D r) σ cls d H) : WE (wMix K Wout D (k :: r)) σ cls d H :=
  ⟨false, e, fun q => Bool.noConfusion q, fun _ => h⟩
end
end Z

set_option Elab.async false
set_option linter.all false
set_option maxRecDepth 100000
set_option maxHeartbeats 2000500
namespace Z
open PySem PySem.Spec
      PyProof.Rows
/-- a new list, then all of vs in it -/
abbrev poured (h : Heap) (vs : List Value) : Heap := (h.push (seqObj "list" #[] 0)).update h.objs.size (Obj.mapSeq (· ++ vs.toArray))
section
variable {prog : Program} {w : World} {A :
      Around} {E : Value → Shared → Prop} {s : Shared}
theorem collect_tuple {l : Addr} {vs : List Value} {Q : List Value → Shared → Prop} (hl : s.heap.IsTuple l vs.toArray)
    (h : Q vs { s with heap := poured s.heap vs })
    (hsz : vs.length ≤ sizeLine := by size_fits) : wpAny (model prog w) A (collect (.ref l)) Q E s := by
  obtain ⟨o, ho, hc,
        n, hd⟩ := id hl
  unfold collect
  refine wpAny_bind (wpAny_runValue
        (codeAny_builtin entry_proto_collect' ?_))
  show wpAny _ _ (do again (.builtin "list.__iadd__"
        ⟨[← newList [], .ref l], []⟩)) _ _ s
  refine wpAny_bind (wpAny_newList (wpAny_pure ⟨Code.quiet_builtin
        _ (by decide +kernel), codeAny_builtin entry_list_iadd' ?_⟩))
  show wpAny _ _ (Builtin.List.listExtendWith (.ref s.heap.objs.size) (.ref l) (.ref s.heap.objs.size)) _ _
    { s with heap := s.heap.push (seqObj "list" #[] 0) }
  unfold
        Builtin.List.listExtendWith
  have there : (s.heap.push (seqObj "list" #[] 0)).get? l = some o := Heap.get?_push_of_some _ ho
  refine wpAny_bind (wpAny_typeOf (T := "tuple") ⟨o, there, hc⟩ ?_)
  have tt : (Value.type "tuple" == Value.type "tuple") = true := by rfl
  rw [if_pos (by rw [tt, Bool.or_true])]
  refine wpAny_bind (listItems_at there hd (wpAny_bind (listItems_at (xs := #[]) (n := 0) (Heap.get?_push_size _ rfl) rfl ?_)))
  rw [if_neg (by simp)]
  refine wpAny_bind (listUpdate_at (xs := #[]) (n := 0) (Heap.get?_push_size _ rfl) rfl ?_ (Nat.zero_le _)
    (by show (#[] ++ vs.toArray).size ≤ sizeLine + 1; simp only [Array.size_append, List.size_toArray, List.length_nil]; omega))
  refine wpAny_pure ?_
  show wpAny (model
        prog w) A (do
      let o ← load s.heap.objs.size
      match o.data with
      | .seq xs _ => pure xs.toList
      | _ => unsupported "internal:collect") Q E { s with heap := poured s.heap vs }
  refine wpAny_bind (wpAny_load (get?_update_seq
        (Heap.get?_push_size _ rfl) _) ?_)
  show wpAny _ _ (pure ((#[] : Array
        Value) ++ vs.toArray).toList) Q E _
  have e : ((#[] : Array Value) ++ vs.toArray).toList = vs := by simp
  rw [e]
  exact wpAny_pure h
theorem sorted_intsT {l : Addr} {vs : List Value} {ns : List Int} {Q : Value → Shared → Prop} (ht : s.heap.IsTuple l vs.toArray) (hI : IntsAre vs ns) (h64 : vs.length < 64)
    (h : ∀ (out : Array Value) (ns' : List Int), IntsAre out.toList ns' → ns'.Perm ns → ns'.Pairwise (· ≤ ·) →
      Q (.ref (s.heap.objs.size + 1)) { s with heap := sortedAll s.heap vs out }) :
    wpAny (model prog w) A (call (.builtin
          "sorted") [.ref l]) Q E s := by
  refine Calls.call_function_entry kind_sorted
        plain_sorted entry_sorted (args_sorted1 _) ?_
  unfold Builtin.«sorted»
  refine wpAny_bind (m := checkCount "sorted" 1 1 _) (wpAny_pure (wpAny_bind (collect_tuple ht (wpAny_bind (wpAny_newList ?_)))))
  have sz : (poured s.heap vs).objs.size = s.heap.objs.size + 1 := by
    rw [Heap.size_update,
          size_push']
  have at1 : ((poured s.heap vs).push (seqObj "list" vs.toArray 0)).get? (s.heap.objs.size + 1) =
      some (seqObj "list" vs.toArray 0) := by
    rw [← sz]
    exact Heap.get?_push_size
          _ rfl
  show wpAny _ _ _ _ _ { s with heap := (poured s.heap vs).push (seqObj "list" vs.toArray 0) }
  rw [sz]
  exact wpAny_bind (wpAny_holding (wpAny_call_entry slot_list_sort ⟨_, at1, rfl⟩ entry_list_sort
    (list_sort_tree at1 hI h64 fun out ns' a1 a2 a3 => ⟨_, rfl, wpAny_pure ⟨_, rfl, h out ns' a1 a2 a3⟩⟩) (args_list_sort _)))
end
open L2
/-- sorted of a tuple of ints -/
def rSortedTu (K : PySem.W.Frag) : List V → Hp → VK → Prop := fun vs H Q => ∃ (a : Addr) (ns : List Int), vs = [V.ref a] ∧ SqT K H a (ns.map V.int) ∧ ns.length < 64 ∧
  ∀ (ns' : List Int) (p : Addr), ns'.Perm ns → ns'.Pairwise (· ≤
        ·) → H p = none → Q (.ref p) (upd H p (.lst (ns'.map V.int)))
theorem cr_sortedTu {X : Cx} : CallR X (.builtin "sorted") (rSortedTu X.K) := by
  intro pins s σ
        H vs us Q I r h
  obtain ⟨a, ns, rfl,
        hs, h64, q⟩ := h
  obtain ⟨its, rv, hl, _⟩ := I.tuple hs
  rw [Vals.ref1 r]
  have hi := rv.ints
  refine sorted_intsT (show s.heap.IsTuple a its.toArray from hl) hi (by rw [hi.length]; exact h64) fun out ns' h1 h2 h3 => ?_
  obtain ⟨ep, he'⟩ :=
        PyProof.Rows.sortedAll_at s.heap its out
  have len : (ns'.map V.int).length ≤ sizeLine := by rw [List.length_map, h2.length_eq]; exact small64 h64
  exact ⟨.ref _, upd H (s.heap.objs.size + 1) (.lst (ns'.map V.int)),
    I.laid (t' := s.toks) (fun _ _ => PyProof.Rows.sortedAll_old) (Nat.le_succ _) ⟨len, out.toList, ep, vals_of_ints h1, he'⟩, rfl, q ns' _ h2 h3 (I.hok.fresh (Nat.le_succ _))⟩
theorem wSortedTu {K : PySem.W.Frag} {H : Hp} {L : List En} {a : Addr} {ns : List Int} {Q : VK} (s : SqT K H a (ns.map V.int)) (n : ns.length < 64) (F : Fx H L)
    (k : ∀ (ms : List Int) p H', ms.Perm ns → ms.Pairwise (· ≤ ·) → Fx H' (.ob p (.lst (ms.map V.int)) :: L) → Q (.ref p) H') : rSortedTu K [.ref a] H Q :=
  ⟨a, ns, rfl, s, n, fun ms p q r hp => k ms p _ q r (F.new hp)⟩
end Z
namespace Z
open PySem L2
section
variable {K : PySem.W.Frag} {H : Hp} {L : List En} {a b : Addr} {ns ms : List Int} {z : Int} {Q : VK}
theorem inV_ints (z : Int) : ∀ ns : List Int, inV (.int z) (ns.map V.int) = decide (z ∈ ns)
  | [] => rfl
  | a :: r => by
    have ih := inV_ints z r
    show (eqV (.int a) (.int z) || inV (.int z) (r.map V.int)) = decide (z ∈ a :: r)
    have e : eqV (.int a) (.int z) = decide (a = z) := by
      show (a == z) = decide (a = z)
      by_cases q : a = z <;> simp [q]
    rw [ih, e]
    by_cases h : a = z
    · subst h; simp
    · have h' : ¬ z = a := fun q => h q.symm
      simp [h, h']
theorem flat_ints (ns : List Int) : (ns.map V.int).all flatV = true := by
  rw [List.all_eq_true]
  intro x hx
  obtain ⟨z, _, rfl⟩ := List.mem_map.mp hx
  rfl
theorem wInTu (s : SqT K H a (ns.map V.int)) (h : Q (.bl (decide (z ∈ ns))) H) : rIn K false (.int z) (.ref a) H Q :=
  ⟨a, _, rfl, .inr s, rfl, flat_ints ns, by rw [← inV_ints] at h; exact h⟩
theorem wCatTu (s : SqT K H a (ns.map V.int)) (t : SqT K H b (ms.map V.int)) (n : ns ≠ []) (n' : ms ≠ []) (l : ns.length + ms.length ≤ 1000000) (F : Fx H L)
    (k : ∀ p H', Fx H' (.ob p (.tup ((ns ++ ms).map V.int)) :: L) → Q (.ref p) H') : rOr rAddI (rOr rAddS (rOr rCat (rCatT K))) (.ref a) (.ref b) H Q :=
  .inr (.inr (.inr ⟨a, b, _, _, rfl, rfl, s, t, by simpa using n, by rw [List.length_map, List.length_map]; exact Nat.le_trans l line_big, fun e => absurd e (by simpa using n'), fun _ p hp => by
    rw [← List.map_append]
    exact k p _ (F.new hp)⟩))
end
end Z
namespace Z
open PySem L2
section
variable {K : PySem.W.Frag} {H : Hp} {L : List En} {q q' p p' : Addr} {ns : List Int} {l r : Int} {Q : VK}
/-- a list of a row of ints and two ints -/
def nestD (ns : List Int) (l r : Int) : List PyData := [.tuple (iD ns), .int l, .int r]
theorem nest_dp (F : Fx H L) (n : En.ob p (.tup (ns.map V.int)) ∈ L) : DpAll K H [.ref p, .int l, .int r] (nestD ns l r) :=
  .cons (.tup (F.tup n) (dpAll_ints ns)) (.cons (.int l) (.cons (.int r) .nil))
theorem nest_shaped (ns : List Int) (l r : Int) : SeqAt.shaped (.list (nestD ns l r)) = true := by
  unfold SeqAt.shaped
  rw [Bool.and_eq_true]
  refine ⟨?_, decide_eq_true ?_⟩
  · show (PyData.canLayAll0 (iD ns) && (PyData.canLayAll0 [PyData.int l, PyData.int r])) = true
    rw [canLay_ints]
    rfl
  · show max (PyData.depthAll (iD ns) + 1) (PyData.depthAll [PyData.int l, PyData.int r]) + 1 ≤ 64
    rw [depth_ints]
    show max (0 + 1) (max 0 (max 0 0)) + 1 ≤ 64
    decide
theorem nest_eqv (ns : List Int) (l r : Int) : PyData.eqv (.list (nestD ns l r)) (.list (nestD ns l r)) = true := by
  show (PyData.eqvAll (iD ns) (iD ns) && ((l == l) && ((r == r) && true))) = true
  rw [eqvAll_ints, decide_eq_true rfl, beq_self_eq_true, beq_self_eq_true]
  rfl
theorem wNeNest (F : Fx H L) (m : En.ob q (.lst [.ref p, .int l, .int r]) ∈ L) (n : En.ob p (.tup (ns.map V.int)) ∈ L)
    (m' : En.ob q' (.lst [.ref p', .int l, .int r]) ∈ L) (n' : En.ob p' (.tup (ns.map V.int)) ∈ L) (h : Q (.bl false) H) :
    rOr rNe (rNeD K) (.ref q) (.ref q') H Q :=
  .inr ⟨_, _, .lst (F.lst m) (nest_dp F n), .lst (F.lst m') (nest_dp F n'), nest_shaped ns l r, nest_shaped ns l r, by
    rw [nest_eqv ns l r]
    exact h⟩
end
end Z
namespace Z
open PySem L2
section
variable {X : Cx} {CX : CXT} {k : Nat} {C : Addr} {ps : List Str} {sp : Sp} {E : XK} {m : Str} {pos apos : Pos} {e o : Expr} {es : List Expr} {ta : TE} {t : TA}
theorem pe_methO {pl : Sem Bool} (O : MethO CX X.prog X.w X.K X.mg X.base C m k ps [] sp) (c : Cls X.K C) (hr : Room k X.A)
    (hx : Passes CX X E) (he : PE X o ta) (ha : PA X (e :: es) t)
    (hst : starEach (e :: es) X.env = (false, eval e X.env) :: starEach es X.env := by rfl)
    (hpl : (backTo pos (starEach es X.env)).any (·.1) = false := by rfl)
    (ht : eval (.Call (.Attribute o m
          apos) (e :: es) [] pos) X.env = (do
      let ov ← eval o X.env
      standAt apos.atName
      let (f, first) ← holding
            [ov] (getMethod ov m pl)
      callWith pos f first (backTo pos (starEach (e :: es)
            X.env)) (backToKw pos (keywordEach [] X.env))) := by rfl) :
    PE X (.Call (.Attribute o m apos) (e :: es) [] pos) (tMeth C m sp [] E ta t) := by
  obtain ⟨f, fd, ds, hm, hb, v, F⟩ := O
  cases v
  exact pe_meth he c hm F hr hb .nil hx ha hst hpl ht
end
end Z

set_option Elab.async false
set_option linter.all false
set_option maxRecDepth 100000
set_option maxHeartbeats 2000500
namespace Z
open PySem L2 RZ
/-! ### a middle: what holds where two ways meet -/
section
variable {σ : L2.St} {H : Hp} {Q : VK} {ts tu : TS} {te tf : TE} {nx bk ct : L2.St → Hp → Prop} {rt : VK} {b : Bool}
theorem wMidS (C : L2.St → Hp → Prop) (h : ∀ N : L2.St → Hp → Prop, (∀ σ' H', C σ' H' → N σ' H') → ts ⟨N, rt, bk, ct⟩ σ H) (k : ∀ σ' H', C σ' H' → nx σ' H') : ts ⟨nx, rt, bk, ct⟩ σ H := h nx k
theorem wMidI (C : L2.St → Hp → Prop) (h : ∀ N : L2.St → Hp → Prop, (∀ σ' H', C σ' H' → N σ' H') → if b = true then ts ⟨N, rt, bk, ct⟩ σ H else tu ⟨N, rt, bk, ct⟩ σ H) (k : ∀ σ' H', C σ' H' → nx σ' H') :
    if b = true then ts ⟨nx, rt, bk, ct⟩ σ H else tu ⟨nx, rt, bk, ct⟩ σ H := h nx k
theorem wMidE (C : V → Hp → Prop) (h : ∀ R : VK, (∀ v H', C v H' → R v H') → te σ H R) (k : ∀ v H', C v H' → Q v H') : te σ H Q := h Q k
theorem wMidV (C : V → Hp → Prop) (h : ∀ R : VK, (∀ v H', C v H' → R v H') → if b = true then te σ H R else tf σ H R) (k : ∀ v H', C v H' → Q v H') :
    if b = true then te σ H Q else tf σ H Q := h Q k
end
end Z
/-! ### data by the ledger -/
namespace Z
open PySem L2 RZ
mutual
inductive Dt (L : List En) : V → PyData → Prop
  | non : Dt L .non .none
  | bl (b : Bool) : Dt L (.bl b) (.bool b)
  | int (i : Int) : Dt L (.int i) (.int i)
  | str (x : Str) : Dt L (.str x) (.str x)
  | lst {a : Addr} {xs : List V} {ds : List PyData} (m : En.ob a (.lst xs) ∈ L) (h : DtA L xs ds) : Dt L (.ref a) (.list ds)
  | tup {a : Addr} {xs : List V} {ds : List PyData} (m : En.ob a (.tup xs) ∈ L) (h : DtA L xs ds) : Dt L (.ref a) (.tuple ds)
inductive DtA (L : List En) : List V → List PyData → Prop
  | nil : DtA L [] []
  | cons {v : V} {vs : List V} {d : PyData} {ds : List PyData} (h : Dt L v d) (r : DtA L vs ds) : DtA L (v :: vs) (d :: ds)
end
section
variable {L L' : List En} {K : PySem.W.Frag} {H : Hp}
mutual
theorem Dt.mono' (s : ∀ e ∈ L, e ∈ L') : ∀ (d : PyData) (v : V), Dt L v d → Dt L' v d
  | .none, _, h => by cases h; exact .non
  | .bool b, _, h => by cases h; exact .bl b
  | .int i, _, h => by cases h; exact .int i
  | .str x, _, h => by cases h; exact .str x
  | .list ds, _, h => by
    cases h with
    | lst m a => exact .lst (s _ m) (DtA.mono' s ds _ a)
  | .tuple ds, _, h => by
    cases h with
    | tup m a => exact .tup (s _ m) (DtA.mono' s ds _ a)
  | .dict _, _, h => by cases h
theorem DtA.mono' (s : ∀ e ∈ L, e ∈ L') : ∀ (ds : List PyData) (vs : List V), DtA L vs ds → DtA L' vs ds
  | [], _, h => by cases h; exact .nil
  | d :: ds, _, h => by
    cases h with
    | cons a r => exact .cons (Dt.mono' s d _ a) (DtA.mono' s ds _ r)
end
mutual
theorem Dt.dp' (F : Fx H L) : ∀ (d : PyData) (v : V), Dt L v d → Dp K H v d
  | .none, _, h => by cases h; exact .non
  | .bool b, _, h => by cases h; exact .bl b
  | .int i, _, h => by cases h; exact .int i
  | .str x, _, h => by cases h; exact .str x
  | .list ds, _, h => by
    cases h with
    | lst m a => exact .lst (F.lst m) (DtA.dp' F ds _ a)
  | .tuple ds, _, h => by
    cases h with
    | tup m a => exact .tup (F.tup m) (DtA.dp' F ds _ a)
  | .dict _, _, h => by cases h
theorem DtA.dp' (F : Fx H L) : ∀ (ds : List PyData) (vs : List V), DtA L vs ds → DpAll K H vs ds
  | [], _, h => by cases h; exact .nil
  | d :: ds, _, h => by
    cases h with
    | cons a r => exact .cons (Dt.dp' F d _ a) (DtA.dp' F ds _ r)
end
variable {v : V} {d : PyData} {vs : List V} {ds : List PyData}
theorem Dt.mono (h : Dt L v d) (s : ∀ e ∈ L, e ∈ L') : Dt L' v d := Dt.mono' s d v h
theorem DtA.mono (h : DtA L vs ds) (s : ∀ e ∈ L, e ∈ L') : DtA L' vs ds := DtA.mono' s ds vs h
theorem Dt.sub (h : Dt L v d) (s : L.Sublist L') : Dt L' v d := h.mono fun _ m => s.subset m
theorem DtA.sub (h : DtA L vs ds) (s : L.Sublist L') : DtA L' vs ds := h.mono fun _ m => s.subset m
theorem Dt.dp (h : Dt L v d) (F : Fx H L) : Dp K H v d := Dt.dp' F d v h
theorem DtA.len : ∀ {vs : List V} {ds : List PyData}, DtA L vs ds → vs.length = ds.length
  | _, [], h => by cases h; rfl
  | _, _ :: _, h => by
    cases h with
    | cons a r => rw [List.length_cons, List.length_cons, r.len]
theorem DtA.get : ∀ {vs : List V} {ds : List PyData} {i : Nat} {d : PyData}, DtA L vs ds → ds[i]? = some d → ∃ v, vs[i]? = some v ∧ Dt L v d
  | _, [], i, d, h, e => by simp at e
  | _, x :: ds, 0, d, h, e => by
    cases h with
    | cons a r =>
      cases e
      exact ⟨_, rfl, a⟩
  | _, x :: ds, i + 1, d, h, e => by
    cases h with
    | cons a r => exact r.get e
theorem DtA.getV : ∀ {ds : List PyData} {vs : List V} {i : Nat} {v : V}, DtA L vs ds → vs[i]? = some v → ∃ d, ds[i]? = some d ∧ Dt L v d
  | [], _, i, d, h, e => by cases h; simp at e
  | x :: ds, _, 0, d, h, e => by
    cases h with
    | cons a r =>
      cases e
      exact ⟨_, rfl, a⟩
  | x :: ds, _, i + 1, d, h, e => by
    cases h with
    | cons a r => exact r.getV e
theorem DtA.app : ∀ {ds ds' : List PyData} {vs vs' : List V}, DtA L vs ds → DtA L vs' ds' → DtA L (vs ++ vs') (ds ++ ds')
  | [], _, _, _, h, h' => by cases h; exact h'
  | _ :: _, _, _, _, h, h' => by
    cases h with
    | cons a r => exact .cons a (r.app h')
theorem DtA.ints : ∀ ns : List Int, DtA L (ns.map V.int) (iD ns)
  | [] => .nil
  | n :: r => .cons (.int n) (DtA.ints r)
theorem DtA.ints_eq : ∀ {ns : List Int} {vs : List V}, DtA L vs (iD ns) → vs = ns.map V.int
  | [], _, h => by cases h; rfl
  | n :: r, _, h => by
    cases h with
    | cons a r =>
      cases a
      rw [r.ints_eq]
      rfl
theorem Dt.tupI {a : Addr} {ns : List Int} (m : En.ob a (.tup (ns.map V.int)) ∈ L) : Dt L (.ref a) (.tuple (iD ns)) := .tup m (DtA.ints ns)
theorem Dt.lstI {a : Addr} {ns : List Int} (m : En.ob a (.lst (ns.map V.int)) ∈ L) : Dt L (.ref a) (.list (iD ns)) := .lst m (DtA.ints ns)
theorem Dt.tupI_mem {v : V} {ns : List Int} (h : Dt L v (.tuple (iD ns))) : ∃ a, v = .ref a ∧ En.ob a (.tup (ns.map V.int)) ∈ L := by
  cases h with
  | tup m r =>
    have e := r.ints_eq
    subst e
    exact ⟨_, rfl, m⟩
theorem Dt.lstI_mem {v : V} {ns : List Int} (h : Dt L v (.list (iD ns))) : ∃ a, v = .ref a ∧ En.ob a (.lst (ns.map V.int)) ∈ L := by
  cases h with
  | lst m r =>
    have e := r.ints_eq
    subst e
    exact ⟨_, rfl, m⟩
/-! shapes -/
def ShA (ds : List PyData) (n : Nat) : Prop := PyData.canLayAll0 ds = true ∧ PyData.depthAll ds ≤ n
def Sh (d : PyData) (n : Nat) : Prop := PyData.canLay0 d = true ∧ PyData.depth d ≤ n
theorem Sh.ok {n : Nat} (h : Sh d n) (hn : n ≤ 64 := by decide) : SeqAt.shaped d = true := by
  unfold SeqAt.shaped
  rw [Bool.and_eq_true]
  exact ⟨h.1, decide_eq_true (Nat.le_trans h.2 hn)⟩
theorem Sh.int (i : Int) : Sh (.int i) 0 := ⟨rfl, Nat.le_refl _⟩
theorem Sh.tup {n : Nat} (h : ShA ds n) : Sh (.tuple ds) (n + 1) := ⟨h.1, Nat.succ_le_succ h.2⟩
theorem Sh.lst {n : Nat} (h : ShA ds n) : Sh (.list ds) (n + 1) := ⟨h.1, Nat.succ_le_succ h.2⟩
theorem ShA.ints (ns : List Int) : ShA (iD ns) 0 := ⟨canLay_ints ns, Nat.le_of_eq (depth_ints ns)⟩
theorem ShA.nil : ShA [] 0 := ⟨rfl, Nat.le_refl _⟩
theorem ShA.cons {n m : Nat} (h : Sh d n) (r : ShA ds m) : ShA (d :: ds) (max n m) := by
  refine ⟨?_, ?_⟩
  · show (PyData.canLay0 d && PyData.canLayAll0 ds) = true
    rw [h.1, r.1]
    rfl
  · show max (PyData.depth d) (PyData.depthAll ds) ≤ _
    have := h.2
    have := r.2
    omega
theorem ShA.map {α : Type} {f : α → PyData} {n : Nat} : ∀ {xs : List α}, (∀ x ∈ xs, Sh (f x) n) → ShA (xs.map f) n
  | [], _ => ⟨rfl, Nat.zero_le _⟩
  | x :: r, h => by
    have a := h x List.mem_cons_self
    have b := ShA.map (f := f) (n := n) (xs := r) fun y hy => h y (List.mem_cons_of_mem _ hy)
    have c := ShA.cons a b
    rw [Nat.max_self] at c
    exact c
end
/-! what == and != say -/
section
variable {L : List En} {K : PySem.W.Frag} {H : Hp} {x y : V} {d e : PyData} {Q : VK}
theorem wEqD (F : Fx H L) (a : Dt L x d) (b : Dt L y e) (sd : SeqAt.shaped d = true) (se : SeqAt.shaped e = true) (h : Q (.bl (PyData.eqv d e)) H) : rOr rEq (rEqD K) x y H Q :=
  .inr ⟨d, e, a.dp F, b.dp F, sd, se, h⟩
theorem wNeD (F : Fx H L) (a : Dt L x d) (b : Dt L y e) (sd : SeqAt.shaped d = true) (se : SeqAt.shaped e = true) (h : Q (.bl (!PyData.eqv d e)) H) : rOr rNe (rNeD K) x y H Q :=
  .inr ⟨d, e, a.dp F, b.dp F, sd, se, h⟩
theorem wNeSame (F : Fx H L) (a : Dt L x d) (b : Dt L y d) (sd : SeqAt.shaped d = true) (h : Q (.bl false) H) : rOr rNe (rNeD K) x y H Q :=
  wNeD F a b sd sd (by rw [SeqAt.eqv_refl _ (SeqAt.canLay_of_shaped sd)]; exact h)
theorem wEqSame (F : Fx H L) (a : Dt L x d) (b : Dt L y d) (sd : SeqAt.shaped d = true) (h : Q (.bl true) H) : rOr rEq (rEqD K) x y H Q :=
  wEqD F a b sd sd (by rw [SeqAt.eqv_refl _ (SeqAt.canLay_of_shaped sd)]; exact h)
end
end Z

set_option Elab.async false
set_option linter.all false
set_option maxRecDepth 100000
set_option maxHeartbeats 2000500
namespace Z
open PySem PySem.Spec PyProof.Rows Builtin Builtin.Str
open Sem (wp)
/-! ### enumerate over a tuple -/
theorem meets_enum1 {v : Value} {o : Obj} {H : Heap → Prop} (B : Begins v o H) :
    Meets (Builtin.«enumerate.__new__» ⟨[.type "enumerate", v], []⟩) (fun _ R s => H s.heap ∧
      R (.ok (.ret (.ref (s.heap.push o).objs.size))) { s with heap := (s.heap.push o).push { cls := .type "enumerate", data := .fields #[.none, .bool false, .ref s.heap.objs.size, rawInt 0, .none, .none] } }) :=
  .of_wp fun prog
        w A R s h => by
    obtain ⟨hp, g, d, tk, os⟩
          := s; obtain ⟨h1, h⟩ := h
    have hsub := sub_enumerate
    have q1 : ∀ {A' : Around} {E : Value → Shared → Prop} {Q : Value → Shared → Prop}, Q (.ref
          hp.objs.size) ⟨hp.push o, g, d, tk, os⟩ → wpAny (model prog w) A' (pyIter v) Q E ⟨hp, g, d, tk, os⟩ :=
      fun q => B.iter prog w _ _
            ⟨hp, g, d, tk, os⟩ _ h1 q
    wp_walk using q1
    refine wpAny_stack_any
          fun st => wpAny_pure ?_
    split
    · rename_i c _ _ _ _ _
      cases (c == Value.type
            "enumerate")
      · wp_walk using q1
        exact ⟨_, rfl, h⟩
      · wp_walk using q1
        exact ⟨_, rfl, h⟩
    · wp_walk using q1
      exact ⟨_, rfl, h⟩
section
variable {prog : Program} {w : World} {A :
      Around} {E : Value → Shared → Prop} {s : Shared}
theorem enum_begins1 {v : Value} {o : Obj} {H : Heap → Prop} {Q : Value → Shared → Prop} (B : Begins v o H) (h1 : H s.heap)
    (h : ∀ h', IsEnum h' (s.heap.objs.size + 1) s.heap.objs.size 0 .none → h'.get? s.heap.objs.size = some o →
      (∀ b o, s.heap.get? b = some o → h'.get? b = some o) →
            Q (.ref (s.heap.objs.size +
                  1)) { s with heap := h' }) :
    wpAny (model prog w) A (call (.type "enumerate") [v]) Q E s := by
  refine callType_new F.called_enumerate (by decide) (F.typeCall_enumerate_1 _)
        (F.newCall_enumerate_1 _) (fun obj => F.args_object_init_2 obj _) F.entry_enumerate_new
    (meets_enum1 B) ⟨h1, ?_⟩
  have hz : (s.heap.push o).objs.size =
        s.heap.objs.size + 1 := Heap.size_push ..
  show _ ∧ _
  rw [hz]
  have he : IsEnum ((s.heap.push o).push { cls := .type "enumerate", data := .fields #[.none, .bool false, .ref s.heap.objs.size, rawInt 0, .none, .none] }) (s.heap.objs.size + 1) s.heap.objs.size 0 .none := by
    have := Heap.get?_push_size (s.heap.push o) (o := { cls := .type "enumerate", data := .fields #[.none, .bool false, .ref s.heap.objs.size, rawInt 0, .none, .none] }) rfl
    rw [hz] at this; exact this
  exact ⟨⟨_, he, rfl⟩, h _ he (Heap.get?_push_of_some _ (Heap.get?_push_size _ B.free)) fun b o x => Heap.get?_push_of_some _ (Heap.get?_push_of_some _ x)⟩
end
end Z
namespace Z
open PySem PySem.Spec
      PyProof.Rows L2
def IteT (K : PySem.W.Frag) (a : Addr) : It :=
  ⟨fun i H => ∃ (xs : List V) (x : V), SqT K H a xs ∧ xs[i]? = some x, fun i H v H' => ∃ T x, v = .ref T ∧ H T = none ∧ H' = upd H T (.tup [.int (i : Nat), x]) ∧ ∀ xs, SqT K H a xs → xs[i]? = some x,
    fun i H => ∃ xs : List V, SqT K H a xs ∧ xs.length ≤ i⟩
theorem turn_enumT {P : Program} {w : World} {K : PySem.W.Frag} {elts : List Expr} {kk : Nat} {tpos : Pos} (a e it : Addr) :
    Turn P w K (.Tuple elts kk tpos) (IteT K a) [e, it] e (fun i h => (∃ old, IsEnum h e it ((i : Nat) : Int) old) ∧ h.IsTupleIter it a i ∧ e ≠ it) where
  mem := by simp
  obj := fun i h st b hb => by
    obtain ⟨⟨old, he⟩, ⟨o,
          ho, hc, hd⟩, _⟩ := st
    have e' : b = e ∨ b = it
          := by simpa using hb
    rcases e' with z | z
    · rw [z]; exact ⟨_, he,
          fun v q => nomatch q⟩
    · rw [z]; exact ⟨o, ho, fun v
          q => by rw [hd] at q; cases q⟩
  keep := fun i h h' st k => let ⟨⟨old, he⟩, hi, hne⟩ := st; ⟨⟨old,
        k e (by simp) _ he⟩, hi.at fun o q => k it (by simp) o q, hne⟩
  item := by
    intro X hP hw hK hc i
          pins s σ H E I hf st hg
    subst hP hw hK
    obtain ⟨⟨old, he⟩,
          hit, hne⟩ := st
    obtain ⟨xs, x, hq,
          hx⟩ := hg
    obtain ⟨its, rv, p,
          hz⟩ := I.tuple hq
    obtain ⟨u, hu, ru⟩
          := rv.get hx
    have hel : e < s.heap.objs.size
          := Heap.lt_size he
    have hil : it < s.heap.objs.size := by
          obtain ⟨_, q, _⟩ := hit; exact Heap.lt_size q
    have ht : s.heap.IsTuple a its.toArray := p
    have hai : a ≠ it
          := fun z => by
      obtain ⟨o1, e1, c1, _⟩ := hit
      obtain ⟨o2, e2, c2, _⟩ := id ht
      rw [z, e1] at e2
      cases e2
      rw [c1] at c2
      exact absurd c2 (by simp)
    have hae : e ∉ [it, a] := fun z => by
      rcases List.mem_cons.mp
            z with z | z
      · exact hne z
      · have z :=
            List.mem_singleton.mp z
        obtain ⟨o2, e2, c2, _⟩ := id ht
        have he' : s.heap.get? e = some _ := he
        rw [z, e2] at he'
        cases he'
        exact absurd c2 (by simp)
    have il : i < its.toArray.size := by
      have := (List.getElem?_eq_some_iff.mp hu).1
      simpa using this
    refine wpAny_pyNext_enum_itemD (Draws.tuple (by exact (I.ok.hd hc)) it a hai its.toArray) he ⟨hit, ht⟩ il hne hae fun x' h' tk hP ho hs' hT hsz hk => ?_
    have hxu : x' = u := by
      have e1 : its.toArray[i]? = some x' := hP
      have e2 : its.toArray[i]? = some u := by simpa using hu
      rw [e2] at e1
      exact (Option.some.inj e1).symm
    subst hxu
    refine ⟨_, rfl, wpAny_letOwnedTupleGo_enum (s := { s with heap := h', toks := tk + 1 }) ho fun h'' he' sb => ?_⟩
    have hT2 : h''.get? s.heap.objs.size = some { cls := .type "tuple", data := .seq #[.int i tk, x'] } := (sb.2 _ (Nat.ne_of_gt hel)).trans hT
    have new : ObjOk X.prog X.w (upd H s.heap.objs.size (.tup [.int (i
          : Nat), x])) h'' s.heap.objs.size (.tup [.int (i : Nat), x]) :=
      ⟨by show 2 ≤ sizeLine; decide, [.int i tk, x'], .cons ⟨_, rfl⟩ (.cons ru .nil), ⟨_, hT2, rfl, _, rfl⟩⟩
    have I1 : Inv X pins σ (upd H s.heap.objs.size (.tup [.int (i : Nat), x])) { s with heap := h'', toks := tk + 1 } :=
      I.turnedNew (ch := [e, it]) (fun b ob hb q => (sb.2 b (fun z => hb (by simp [z]))).trans
            (hk b ob (fun z => hb (by simp [z])) (fun z => hb (by simp [z])) q)) hf (Nat.le_refl _) new
    refine ⟨.ref s.heap.objs.size, _, I1, rfl, ⟨_, x, rfl, I.hok.fresh (Nat.le_refl _), rfl, fun ys hy => ?_⟩, ⟨⟨x', ?_⟩, hs'.1.at fun o q => (sb.2 it (Ne.symm hne)).trans q, hne⟩, fun b hb => ?_⟩
    · rw [I.tuple_inj hy hq]; exact hx
    · have e1 : ((i + 1 : Nat) :
          Int) = (i : Int) + 1 := by omega
      rw [e1]; exact he'
    · have hb' : b <
          s.heap.objs.size := by
        have e' : b = e ∨ b = it
              := by simpa using hb
        rcases e' with z | z
        · rw [z]; exact hel
        · rw [z]; exact hil
      rw [upd_ne
            (Nat.ne_of_lt hb')]
      exact (hf b hb).1
  done := by
    intro X hP hw hK hc i pins
          s σ H E I hf st hg
    subst hP hw hK
    obtain ⟨⟨old, he⟩,
          hit, hne⟩ := st
    obtain ⟨xs, hq, hx⟩
          := hg
    obtain ⟨its, rv, p,
          hz⟩ := I.tuple hq
    obtain ⟨f0, f1, f2, f3,
          f4, f5⟩ := hf it (by simp)
    have hl := rv.length
    have ht : s.heap.IsTuple a its.toArray := p
    have hT : s.TypeIs (.ref e)
          "enumerate" := ⟨_, he, rfl⟩
    unfold pyNext
    refine wpAny_bind (wpAny_attempt (wpAny_callSpecial?_slot
          (name := Str.ofString "__next__") hT F.slot_enumerate_next
      (wpAny_call_entry F.slot_enumerate_next hT
            F.entry_enumerate_next ?_ (F.args_enumerate_next_1 _))))
    show wpAny _ _ (field
          (.ref e) 2 >>= _) _ _ _
    refine wpAny_bind (wpAny_field
          he rfl (x := .ref it) rfl ?_)
    refine wpAny_bind (wpAny_nextOf_tuple_end (by exact (I.ok.hd hc)) hit ht (by simp; omega) fun h' x eb hx' => ?_)
    obtain ⟨o, ho, hc'⟩ := hx'
    refine wpAny_bind (wpAny_isInstance (T := "StopIteration") (b := true) ⟨o, ho, hc'⟩ isSubtype_stop ?_)
    exact wpAny_pure ⟨rfl, I.turned (t' := s.toks) (fun b o hb q => eb b o hb q) f0 f1 f3 f4 f5⟩
  self := fun A i s Q E st h => let ⟨⟨_,
        he⟩, _⟩ := st; wpAny_pyIter_enum he h
section
variable {X : Cx}
/-- a list or a tuple, counted along -/
def iEnumS (K : PySem.W.Frag) (ta : TA) : TI := fun σ H R => ta σ H fun vs H1 => ∃ a, vs = [.ref a] ∧ ((∃ xs, SqL K H1 a xs ∧ R (Ite K a) H1) ∨ ∃ xs, SqT K H1 a xs ∧ R (IteT K a) H1)
theorem pi_enumS {e : Expr} {ta : TA} {p pos tpos : Pos} {elts : List Expr} {kk : Nat} (hg : Gl X "enumerate") (hm : X.mg "enumerate" = none) (ha : PA X [e] ta) (hs : starEach [e] X.env = [(false, eval e X.env)] := by rfl) :
    PI X (.Tuple elts kk tpos) (.Call (.Name "enumerate" p) [e] [] pos) (iEnumS X.K ta) := by
  refine ⟨fun pins
        s σ H R I h => ?_⟩
  refine Call_ (ld_blt I hg hm boot_enumerate (PyProof.Rows.callWith_type1 (thn (ha.run
        pos pins s σ H _ I h) fun us s1 ⟨vs, H1, I1, r1, q1⟩ => ?_) hs rfl))
  obtain ⟨a, ex, q⟩ := q1
  subst ex
  cases r1 with
  | cons r rr =>
    cases rr
    cases r
    rcases q with ⟨xs, hq, q⟩ | ⟨xs, hq, q⟩
    · obtain ⟨its, rv,
          p', hz⟩ := I1.list hq
      refine call_enumerate_list p'.isList
            fun h' he hit hsz hk => wpAny_pyIter_enum he ?_
      have I2 : Inv X pins σ H1 { s1 with
            heap := h' } := I1.kept (t' := s1.toks) hk
      refine ⟨s1.heap.objs.size + 1, [s1.heap.objs.size + 1, s1.heap.objs.size], _, _, H1, rfl, I2, turn_enum a
            (s1.heap.objs.size + 1) s1.heap.objs.size, ⟨⟨.none, he⟩, hit, Nat.succ_ne_self _⟩, fun b hb => ?_, q⟩
      have e' : b = s1.heap.objs.size + 1 ∨
            b = s1.heap.objs.size := by simpa using hb
      have hle :
            s1.heap.objs.size ≤ b := by
        rcases e' with z | z
        · rw [z]; exact
              Nat.le_add_right _ _
        · rw [z]; exact Nat.le_refl _
      exact I1.fpOk hle
            (I1.hok.fresh hle)
    · obtain ⟨its, rv,
          p', hz⟩ := I1.tuple hq
      refine enum_begins1 (begins_tuple a its.toArray) p' fun h' he hit hk => wpAny_pyIter_enum he ?_
      have I2 : Inv X pins σ H1 { s1 with
            heap := h' } := I1.kept (t' := s1.toks) hk
      refine ⟨s1.heap.objs.size + 1, [s1.heap.objs.size + 1, s1.heap.objs.size], _, _, H1, rfl, I2, turn_enumT a
            (s1.heap.objs.size + 1) s1.heap.objs.size, ⟨⟨.none, he⟩, ⟨_, hit, rfl, rfl⟩, Nat.succ_ne_self _⟩, fun b hb => ?_, q⟩
      have e' : b = s1.heap.objs.size + 1 ∨
            b = s1.heap.objs.size := by simpa using hb
      have hle :
            s1.heap.objs.size ≤ b := by
        rcases e' with z | z
        · rw [z]; exact
              Nat.le_add_right _ _
        · rw [z]; exact Nat.le_refl _
      exact I1.fpOk hle
            (I1.hok.fresh hle)
end
theorem walk_enumT {K : PySem.W.Frag} {a : Addr} {xs : List V} : Walk (IteT K a) xs.length (fun H => SqT K H a xs) (YPair (fun i => some (.int (i : Nat))) (fun i => xs[i]?)) := by
  refine ⟨fun i _ hi q => ⟨xs, xs[i], q, by simp [hi]⟩, fun _ q
        => ⟨xs, q, Nat.le_refl _⟩, fun i H v H' _ q y => ?_⟩
  obtain ⟨T, x, h1,
        h2, h3, h4⟩ := y
  exact ⟨T, .int (i : Nat), x, h1,
        h2, h3, rfl, h4 xs q⟩
section
variable {K : PySem.W.Frag} {H : Hp} {L : List En} {a : V} {xs : List V} {RI : It → Hp → Prop} {σ : L2.St} {ta : TA} {g : TG} {tb : TS} {nx : L2.St → Hp → Prop} {rt : VK}
def GoE (K : PySem.W.Frag) (vs : List V) (H : Hp) (R : It → Hp → Prop) : Prop := ∃ a, vs = [.ref a] ∧ ((∃ xs, SqL K H a xs ∧ R (Ite K a) H) ∨ ∃ xs, SqT K H a xs ∧ R (IteT K a) H)
theorem wIE (h : ta σ H fun vs H1 => GoE K vs H1 RI) : iEnumS K ta σ H RI := h
/-- a for over enumerate(list or tuple) -/
theorem wForE (hq : SeqIs L a (some xs)) (F : Fx H L) (Pv : Nat → L2.St → Hp → Prop) (h0 : Pv 0 σ H) (keep : ∀ i σ H', Pv i σ H' → ∃ L', Fx H' L' ∧ ∀ p o, En.ob p o ∈ L → En.ob p o ∈ L')
    (hs : ∀ i x T σ H', xs[i]? = some x → Pv i σ H' → H' T = none → g (.ref T) σ (upd H' T (.tup [.int (i : Nat), x])) fun σ2 H2 => tb ⟨Pv (i + 1), rt, nx, Pv (i + 1)⟩ σ2 H2) (hd : ∀ σ H', Pv xs.length σ H' → nx σ H') :
    GoE K [a] H fun J H1 => ∃ W : Nat → Nat → L2.St → Hp → Prop, (∃ m, W 0 m σ H1) ∧ ∀ i m σ H, W i m σ H →
      (J.stop i H ∧ nx σ H) ∨ (J.go i H ∧ ∃ N : L2.St → Hp → Prop, (∀ σ' H', N σ' H' → ∃ m', m' < m ∧ W (i + 1) m' σ' H') ∧ ∀ x H', J.yld i H x H' → g x σ H' fun σ2 H2 => tb ⟨N, rt, nx, N⟩ σ2 H2) := by
  cases hq with
  | @lst p xs m =>
    refine ⟨p, rfl, .inl ⟨xs, F.lst m, wForW (walk_enum (K := K) (xs := xs)) Pv h0 (fun i σ H' _ q => ?_) ?_ hd⟩⟩
    · obtain ⟨L', F', k⟩ := keep i σ H' q
      exact F'.lst (k _ _ m)
    · rintro i x σ H' H'' _ q ⟨T, u, v, rfl, hT, rfl, e1, e2⟩
      cases e1
      exact hs i v T σ H' e2 q hT
  | @tup p xs m =>
    refine ⟨p, rfl, .inr ⟨xs, F.tup m, wForW (walk_enumT (K := K) (xs := xs)) Pv h0 (fun i σ H' _ q => ?_) ?_ hd⟩⟩
    · obtain ⟨L', F', k⟩ := keep i σ H' q
      exact F'.tup (k _ _ m)
    · rintro i x σ H' H'' _ q ⟨T, u, v, rfl, hT, rfl, e1, e2⟩
      cases e1
      exact hs i v T σ H' e2 q hT
end
/-! ### sum of a tuple -/
def rSumT (K : PySem.W.Frag) : List V → Hp → VK → Prop := fun vs H Q => ∃ (a : Addr) (ns : List Int), vs = [V.ref a] ∧ SqT K H a (ns.map V.int) ∧ Q (.int ns.sum) H
theorem cr_sumT {X : Cx} (hc : X.calm = true) : CallR X (.builtin "sum") (rSumT X.K) := by
  intro pins s σ
        H vs us Q I r h
  obtain ⟨a, ns,
        rfl, hs, q⟩ := h
  obtain ⟨its, rv, hl, _⟩ := I.tuple hs
  rw [Vals.ref1 r]
  have hi := rv.ints
  obtain ⟨xs, hx⟩ :=
        hi.allInts.items
  have hn : numsOf its.toArray.toList = ns := by rw [show its.toArray.toList = its from rfl, hi.numsOf]
  have ht : s.heap.IsTuple a its.toArray := hl
  rw [hx] at ht hn
  rw [nums_intItems] at hn
  refine PySem.W.ktm_sumG (I.ok.hd hc) ht fun h' tk t' hk => ?_
  refine ⟨.int ns.sum, H, I.kept hk, ?_, q⟩
  rw [preSum_eq, List.take_of_length_le
        (by simp), hn]
  exact ⟨_, rfl⟩
theorem cr_sumS {X : Cx} (hc : X.calm = true) : CallR X (.builtin "sum") (rOrC (rSum X.K) (rSumT X.K)) := CallR.or (cr_sum hc) (cr_sumT hc)
section
variable {K : PySem.W.Frag} {H : Hp} {L : List En} {a : Addr} {b : V} {ns : List Int} {Q : VK}
theorem wSumL (s : SqL K H a (ns.map V.int)) (h : Q (.int ns.sum) H) : rOrC (rSum K) (rSumT K) [.ref a] H Q := .inl ⟨a, ns, rfl, s, h⟩
theorem wSumT (s : SqT K H a (ns.map V.int)) (h : Q (.int ns.sum) H) : rOrC (rSum K) (rSumT K) [.ref a] H Q := .inr ⟨a, ns, rfl, s, h⟩
theorem wSumS (s : SeqIs L b (some (ns.map V.int))) (F : Fx H L) (h : Q (.int ns.sum) H) : rOrC (rSum K) (rSumT K) [b] H Q := by
  generalize e : ns.map V.int = xs at s
  cases s with
  | lst m => exact wSumL (F.lst (e ▸ m)) h
  | tup m => exact wSumT (F.tup (e ▸ m)) h
end
/-! ### while -/
section
variable {σ : L2.St} {H : Hp} {tc : TT} {tb : TS} {nx bk ct : L2.St → Hp → Prop} {rt : VK}
def WBody (tb : TS) (Pv : Nat → L2.St → Hp → Prop) (m : Nat) (nx : L2.St → Hp → Prop) (rt : VK) (σ : L2.St) (H : Hp) : Prop :=
  ∃ N : L2.St → Hp → Prop, (∀ σ' H', N σ' H' → ∃ m', m' < m ∧ Pv m' σ' H') ∧ tb ⟨N, rt, nx, N⟩ σ H
theorem wWhile (Pv : Nat → L2.St → Hp → Prop) (m : Nat) (h0 : Pv m σ H) (hs : ∀ m σ H, Pv m σ H → tc σ H fun b H1 => if b = true then WBody tb Pv m nx rt σ H1 else nx σ H1) :
    tWhile tc tb ⟨nx, rt, bk, ct⟩ σ H := ⟨Pv, ⟨m, h0⟩, hs⟩
theorem wBody {Pv : Nat → L2.St → Hp → Prop} {m : Nat} (h : tb ⟨fun σ' H' => ∃ m', m' < m ∧ Pv m' σ' H', rt, nx, fun σ' H' => ∃ m', m' < m ∧ Pv m' σ' H'⟩ σ H) : WBody tb Pv m nx rt σ H := ⟨_, fun _ _ h => h, h⟩
end
/-! ### range with a step, lists made of lists, order of tuples, min and max -/
section
variable {K : PySem.W.Frag} {H : Hp} {L : List En} {a b : Addr} {xs ys : List V} {RI : It → Hp → Prop} {σ : L2.St} {ta : TA} {Q : VK} {i j : Int} {ns ms : List Int}
def GoR3 (vs : List V) (H : Hp) (R : It → Hp → Prop) : Prop := ∃ (i j c : Int) (n : Nat), vs = [.int i, .int j, .int c] ∧ RgC i j c n ∧ R (Itc i c n) H
theorem wIR3 (h : ta σ H fun vs H1 => GoR3 vs H1 RI) : iRng3 ta σ H RI := h
theorem wGoDown (ha : -(2 ^ 62) ≤ i) (ha' : i < 2 ^ 62) (hb : -(2 ^ 62) ≤ j) (hb' : j < 2 ^ 62) (h : RI (Itc i (-1) (i - j).toNat) H) : GoR3 [.int i, .int j, .int (-1)] H RI := ⟨i, j, -1, _, rfl, RgC.neg ha ha' hb hb', h⟩
theorem wRepL {n : Int} (F : Fx H L) (m : En.ob a (.lst xs) ∈ L) (n1 : -(2 ^ 63) ≤ n) (n2 : n < 2 ^ 63) (n3 : xs.length * n.toNat ≤ 1000000)
    (k : ∀ p H', Fx H' (.ob p (.lst (List.replicate n.toNat xs).flatten) :: L) → Q (.ref p) H') : rOr rMulC (rOr rMulI (rOr rRep (rRepT K))) (.ref a) (.int n) H Q :=
  .inr (.inr (.inl ⟨a, n, xs, rfl, rfl, F.get m, n1, n2, Nat.le_trans n3 line_big, wNewF F k⟩))
theorem wCatL (F : Fx H L) (m : En.ob a (.lst xs) ∈ L) (m' : En.ob b (.lst ys) ∈ L) (l : xs.length + ys.length ≤ 1000000)
    (k : ∀ p H', Fx H' (.ob p (.lst (xs ++ ys)) :: L) → Q (.ref p) H') : rOr rAddI (rOr rAddS (rOr rCat (rCatT K))) (.ref a) (.ref b) H Q :=
  .inr (.inr (.inl ⟨a, b, xs, ys, rfl, rfl, F.get m, F.get m', Nat.le_trans l line_big, wNewF F k⟩))
theorem wLtT (s : SqT K H a (ns.map V.int)) (t : SqT K H b (ms.map V.int)) (h : Q (.bl (HT.lexLt ns ms)) H) : rOr rLtI (rLtT K) (.ref a) (.ref b) H Q := .inr ⟨a, b, ns, ms, rfl, rfl, s, t, h⟩
theorem flat_one (n : Nat) (x : V) : (List.replicate n [x]).flatten = List.replicate n x := by
  induction n with
  | zero => rfl
  | succ n ih => rw [List.replicate_succ, List.flatten_cons, ih]; rfl
end
theorem zLtS {X : Cx} (hu : X.A.units < cLine) : OpR X (compareOp .Lt) (rOr rLtI (rLtT X.K)) := opOr op_lt (op_ltT hu)
def rMin2 : List V → Hp → VK → Prop := fun xs H Q => ∃ i j, xs = [V.int i, V.int j] ∧ Q (.int (if j < i then j else i)) H
def rMax2 : List V → Hp → VK → Prop := fun xs H Q => ∃ i j, xs = [V.int i, V.int j] ∧ Q (.int (if j > i then j else i)) H
theorem zMin2 {X : Cx} (hc : X.calm = true) : CallR X (.builtin "min") rMin2 := call_min2 hc
theorem zMax2 {X : Cx} (hc : X.calm = true) : CallR X (.builtin "max") rMax2 := call_max2 hc
theorem wMin2 {H : Hp} {Q : VK} {i j : Int} (h : Q (.int (if j < i then j else i)) H) : rMin2 [.int i, .int j] H Q := ⟨i, j, rfl, h⟩
theorem wMax2 {H : Hp} {Q : VK} {i j : Int} (h : Q (.int (if j > i then j else i)) H) : rMax2 [.int i, .int j] H Q := ⟨i, j, rfl, h⟩
/-! ### comprehensions and loops over a tuple or a list of the ledger -/
section
variable {K : PySem.W.Frag} {H : Hp} {L : List En} {a : Addr} {xs : List V} {g : TG} {tt : TT} {te : TE} {vs : List Nat} {σ : L2.St} {QD : Addr → Hp → Prop}
theorem wLcT (m : En.ob a (.tup xs) ∈ L) (F : Fx H L) (R : Nat → List V → List En → Prop) (h0 : R 0 [] L) (keep : ∀ i acc L', R i acc L' → En.ob a (.tup xs) ∈ L')
    (hs : ∀ i x D H' acc L', xs[i]? = some x → R i acc L' → Fx H' (.ob D (.lst acc) :: L') → g x (wipe σ vs) H' fun σ2 H2 => wipe σ2 vs = wipe σ vs ∧ tt σ2 H2 fun b H3 =>
      if b = true then te σ2 H3 fun y H4 => LcPut D R i y H4 else LcP D R (i + 1) H3)
    (hd : ∀ D acc L' H', Fx H' (.ob D (.lst acc) :: L') → R xs.length acc L' → QD D H') :
    ∀ D, H D = none → ∃ W : Nat → Nat → Hp → Prop, (∃ m, W 0 m (upd H D (.lst []))) ∧ ∀ i m H, W i m H →
  ((Itt K a).stop i H ∧ QD D H) ∨ ((Itt K a).go i H ∧ ∃ Nx : Hp → Prop, (∀ H', Nx H' → ∃ m', m' < m ∧ W (i + 1) m' H') ∧ ∀ x H', (Itt K a).yld i H x H' → g x (wipe σ vs) H' fun σ2 H2 => wipe σ2 vs = wipe σ vs ∧ tt σ2 H2 fun b H3 =>
    if b = true then te σ2 H3 fun y H4 => ∃ acc, H4 D = some (.lst acc) ∧
          acc.length < sizeLine ∧ Nx (upd H4 D (.lst (acc ++ [y]))) else Nx H3) :=
  wLcW (walk_tup (K := K) (xs := xs)) F R h0 (fun i acc L' D H' r F' => F'.tup (List.mem_cons_of_mem _ (keep _ _ _ r))) (fun i x D H' H'' acc L' _ r F' y => by
    obtain ⟨rfl, e⟩ := y
    exact hs i x D H'' acc L' e r F') hd
theorem wLcL (m : En.ob a (.lst xs) ∈ L) (F : Fx H L) (R : Nat → List V → List En → Prop) (h0 : R 0 [] L) (keep : ∀ i acc L', R i acc L' → En.ob a (.lst xs) ∈ L')
    (hs : ∀ i x D H' acc L', xs[i]? = some x → R i acc L' → Fx H' (.ob D (.lst acc) :: L') → g x (wipe σ vs) H' fun σ2 H2 => wipe σ2 vs = wipe σ vs ∧ tt σ2 H2 fun b H3 =>
      if b = true then te σ2 H3 fun y H4 => LcPut D R i y H4 else LcP D R (i + 1) H3)
    (hd : ∀ D acc L' H', Fx H' (.ob D (.lst acc) :: L') → R xs.length acc L' → QD D H') :
    ∀ D, H D = none → ∃ W : Nat → Nat → Hp → Prop, (∃ m, W 0 m (upd H D (.lst []))) ∧ ∀ i m H, W i m H →
  ((Itl K a).stop i H ∧ QD D H) ∨ ((Itl K a).go i H ∧ ∃ Nx : Hp → Prop, (∀ H', Nx H' → ∃ m', m' < m ∧ W (i + 1) m' H') ∧ ∀ x H', (Itl K a).yld i H x H' → g x (wipe σ vs) H' fun σ2 H2 => wipe σ2 vs = wipe σ vs ∧ tt σ2 H2 fun b H3 =>
    if b = true then te σ2 H3 fun y H4 => ∃ acc, H4 D = some (.lst acc) ∧
          acc.length < sizeLine ∧ Nx (upd H4 D (.lst (acc ++ [y]))) else Nx H3) :=
  wLcW (walk_list (K := K) (xs := xs)) F R h0 (fun i acc L' D H' r F' => F'.lst (List.mem_cons_of_mem _ (keep _ _ _ r))) (fun i x D H' H'' acc L' _ r F' y => by
    obtain ⟨rfl, e⟩ := y
    exact hs i x D H'' acc L' e r F') hd
variable {tb : TS} {nx : L2.St → Hp → Prop} {rt : VK}
theorem wForT (F : Fx H L) (m : En.ob a (.tup xs) ∈ L) (Pv : Nat → L2.St → Hp → Prop) (h0 : Pv 0 σ H) (keep : ∀ i σ H', Pv i σ H' → ∃ L', Fx H' L' ∧ En.ob a (.tup xs) ∈ L')
    (hs : ∀ i x σ H', xs[i]? = some x → Pv i σ H' → g x σ H' fun σ2 H2 => tb ⟨Pv (i + 1), rt, nx, Pv (i + 1)⟩ σ2 H2) (hd : ∀ σ H', Pv xs.length σ H' → nx σ H') :
    ∃ W : Nat → Nat → L2.St → Hp → Prop, (∃
          m, W 0 m σ H) ∧ ∀ i m σ H, W i m σ H →
      ((Itt K a).stop i H ∧ nx σ H) ∨ ((Itt K a).go i H ∧ ∃ N : L2.St → Hp → Prop, (∀ σ' H', N σ' H' → ∃ m', m' < m ∧ W (i + 1) m' σ' H') ∧ ∀ x H', (Itt K a).yld i H x H' → g x σ H' fun σ2 H2 => tb ⟨N, rt, nx, N⟩ σ2 H2) :=
  wForW (walk_tup (K := K) (xs := xs)) Pv h0 (fun i σ H' _ q => let ⟨_, F', k⟩ := keep i σ H' q; F'.tup k) (fun i x σ H' H'' _ q y => by
    obtain ⟨rfl, e⟩ := y
    exact hs i x σ H'' e q) hd
theorem wForLi (F : Fx H L) (m : En.ob a (.lst xs) ∈ L) (Pv : Nat → L2.St → Hp → Prop) (h0 : Pv 0 σ H) (keep : ∀ i σ H', Pv i σ H' → ∃ L', Fx H' L' ∧ En.ob a (.lst xs) ∈ L')
    (hs : ∀ i x σ H', xs[i]? = some x → Pv i σ H' → g x σ H' fun σ2 H2 => tb ⟨Pv (i + 1), rt, nx, Pv (i + 1)⟩ σ2 H2) (hd : ∀ σ H', Pv xs.length σ H' → nx σ H') :
    ∃ W : Nat → Nat → L2.St → Hp → Prop, (∃
          m, W 0 m σ H) ∧ ∀ i m σ H, W i m σ H →
      ((Itl K a).stop i H ∧ nx σ H) ∨ ((Itl K a).go i H ∧ ∃ N : L2.St → Hp → Prop, (∀ σ' H', N σ' H' → ∃ m', m' < m ∧ W (i + 1) m' σ' H') ∧ ∀ x H', (Itl K a).yld i H x H' → g x σ H' fun σ2 H2 => tb ⟨N, rt, nx, N⟩ σ2 H2) :=
  wForW (walk_list (K := K) (xs := xs)) Pv h0 (fun i σ H' _ q => let ⟨_, F', k⟩ := keep i σ H' q; F'.lst k) (fun i x σ H' H'' _ q y => by
    obtain ⟨rfl, e⟩ := y
    exact hs i x σ H'' e q) hd
end
section
variable {σ : L2.St} {H : Hp} {te : TE} {ti : TIp} {nx bk ct : L2.St → Hp → Prop} {rt : VK} {i : Nat} {x : V} {f : Int → Int → Int} {a b : Int} {Q : VK}
theorem wAug (e : σ[i]? = some (some x)) (h : te σ H fun y H1 => ti x y H1 fun z H2 => nx (σ.set i (some z)) H2) : tAug i te ti ⟨nx, rt, bk, ct⟩ σ H := ⟨x, e, h⟩
theorem wIpI (h : Q (.int (f a b)) H) : ipI f (.int a) (.int b) H Q := ⟨a, b, rfl, rfl, h⟩
end
section
variable {K : PySem.W.Frag} {H : Hp} {a : Addr} {ns : List Int} {z : Int} {Q : VK}
theorem wNotInTu (s : SqT K H a (ns.map V.int)) (h : Q (.bl (!decide (z ∈ ns))) H) : rIn K true (.int z) (.ref a) H Q :=
  ⟨a, _, rfl, .inr s, rfl, flat_ints ns, by rw [← inV_ints] at h; exact h⟩
end
section
variable {sp : Sp} {v : V} {vs ds : List V} {H : Hp} {Q : VK} {E : XK}
theorem wSpC (h : sp (v :: (vs ++ ds)) H Q E) : sp ((v :: vs) ++ ds) H Q E := h
theorem wSpN (h : sp ds H Q E) : sp ([] ++ ds) H Q E := h
theorem wSpC1 {u : V} (h : sp (u :: v :: (vs ++ ds)) H Q E) : sp (u :: ((v :: vs) ++ ds)) H Q E := h
theorem wSpN1 {u : V} (h : sp (u :: ds) H Q E) : sp (u :: ([] ++ ds)) H Q E := h
theorem wSpC2 {u u' : V} (h : sp (u :: u' :: v :: (vs ++ ds)) H Q E) : sp (u :: u' :: ((v :: vs) ++ ds)) H Q E := h
theorem wSpN2 {u u' : V} (h : sp (u :: u' :: ds) H Q E) : sp (u :: u' :: ([] ++ ds)) H Q E := h
end
theorem wMkO {C : Addr} {sp : Sp} {dvs : List V} {ta : TA} {σ : L2.St} {H : Hp} {EK : XK} (h : ta σ H fun vs H1 => vs.length ≤ 1000 ∧ ∀ a, H1 a = none → sp (.ref a :: (vs ++ dvs)) (upd H1 a (exo a C none))
  (fun v H2 => v = .non ∧ ∃ (d : Addr) (fs : List (Str × V)), H2 a = some (exo a C (some d)) ∧ H2 d = some (exd d fs) ∧ H1 d = none ∧ EK (.ref C) (some d) (upd (del H2 a) d (.xd fs))) (fun _ _ _ => False)) : tMkO C sp dvs ta σ H EK := h
section
variable {x0 x1 x2 x3 x4 x5 x6 x7 x8 x9 x10 x11 x12 x13 x14 x15 x16 x17 x18 x19 x20 x21 x22 x23 x24 x25 x26 : Option V} {v : V} {ρ : L2.St} {H : Hp} {Q : VK} {N : L2.St → Hp → Prop}
theorem wV15 (h : Q v H) : tVar 15 (x0 :: x1 :: x2 :: x3 :: x4 :: x5 :: x6 :: x7 :: x8 :: x9 :: x10 :: x11 :: x12 :: x13 :: x14 :: some v :: ρ) H Q := ⟨v, rfl, h⟩
theorem wG15 (h : N (x0 :: x1 :: x2 :: x3 :: x4 :: x5 :: x6 :: x7 :: x8 :: x9 :: x10 :: x11 :: x12 :: x13 :: x14 :: some v :: ρ) H) : gName 15 v (x0 :: x1 :: x2 :: x3 :: x4 :: x5 :: x6 :: x7 :: x8 :: x9 :: x10 :: x11 :: x12 :: x13 :: x14 :: x15 :: ρ) H N := h
theorem wV16 (h : Q v H) : tVar 16 (x0 :: x1 :: x2 :: x3 :: x4 :: x5 :: x6 :: x7 :: x8 :: x9 :: x10 :: x11 :: x12 :: x13 :: x14 :: x15 :: some v :: ρ) H Q := ⟨v, rfl, h⟩
theorem wG16 (h : N (x0 :: x1 :: x2 :: x3 :: x4 :: x5 :: x6 :: x7 :: x8 :: x9 :: x10 :: x11 :: x12 :: x13 :: x14 :: x15 :: some v :: ρ) H) : gName 16 v (x0 :: x1 :: x2 :: x3 :: x4 :: x5 :: x6 :: x7 :: x8 :: x9 :: x10 :: x11 :: x12 :: x13 :: x14 :: x15 :: x16 :: ρ) H N := h
theorem wV17 (h : Q v H) : tVar 17 (x0 :: x1 :: x2 :: x3 :: x4 :: x5 :: x6 :: x7 :: x8 :: x9 :: x10 :: x11 :: x12 :: x13 :: x14 :: x15 :: x16 :: some v :: ρ) H Q := ⟨v, rfl, h⟩
theorem wG17 (h : N (x0 :: x1 :: x2 :: x3 :: x4 :: x5 :: x6 :: x7 :: x8 :: x9 :: x10 :: x11 :: x12 :: x13 :: x14 :: x15 :: x16 :: some v :: ρ) H) : gName 17 v (x0 :: x1 :: x2 :: x3 :: x4 :: x5 :: x6 :: x7 :: x8 :: x9 :: x10 :: x11 :: x12 :: x13 :: x14 :: x15 :: x16 :: x17 :: ρ) H N := h
theorem wV18 (h : Q v H) : tVar 18 (x0 :: x1 :: x2 :: x3 :: x4 :: x5 :: x6 :: x7 :: x8 :: x9 :: x10 :: x11 :: x12 :: x13 :: x14 :: x15 :: x16 :: x17 :: some v :: ρ) H Q := ⟨v, rfl, h⟩
theorem wG18 (h : N (x0 :: x1 :: x2 :: x3 :: x4 :: x5 :: x6 :: x7 :: x8 :: x9 :: x10 :: x11 :: x12 :: x13 :: x14 :: x15 :: x16 :: x17 :: some v :: ρ) H) : gName 18 v (x0 :: x1 :: x2 :: x3 :: x4 :: x5 :: x6 :: x7 :: x8 :: x9 :: x10 :: x11 :: x12 :: x13 :: x14 :: x15 :: x16 :: x17 :: x18 :: ρ) H N := h
theorem wV19 (h : Q v H) : tVar 19 (x0 :: x1 :: x2 :: x3 :: x4 :: x5 :: x6 :: x7 :: x8 :: x9 :: x10 :: x11 :: x12 :: x13 :: x14 :: x15 :: x16 :: x17 :: x18 :: some v :: ρ) H Q := ⟨v, rfl, h⟩
theorem wG19 (h : N (x0 :: x1 :: x2 :: x3 :: x4 :: x5 :: x6 :: x7 :: x8 :: x9 :: x10 :: x11 :: x12 :: x13 :: x14 :: x15 :: x16 :: x17 :: x18 :: some v :: ρ) H) : gName 19 v (x0 :: x1 :: x2 :: x3 :: x4 :: x5 :: x6 :: x7 :: x8 :: x9 :: x10 :: x11 :: x12 :: x13 :: x14 :: x15 :: x16 :: x17 :: x18 :: x19 :: ρ) H N := h
theorem wV20 (h : Q v H) : tVar 20 (x0 :: x1 :: x2 :: x3 :: x4 :: x5 :: x6 :: x7 :: x8 :: x9 :: x10 :: x11 :: x12 :: x13 :: x14 :: x15 :: x16 :: x17 :: x18 :: x19 :: some v :: ρ) H Q := ⟨v, rfl, h⟩
theorem wG20 (h : N (x0 :: x1 :: x2 :: x3 :: x4 :: x5 :: x6 :: x7 :: x8 :: x9 :: x10 :: x11 :: x12 :: x13 :: x14 :: x15 :: x16 :: x17 :: x18 :: x19 :: some v :: ρ) H) : gName 20 v (x0 :: x1 :: x2 :: x3 :: x4 :: x5 :: x6 :: x7 :: x8 :: x9 :: x10 :: x11 :: x12 :: x13 :: x14 :: x15 :: x16 :: x17 :: x18 :: x19 :: x20 :: ρ) H N := h
theorem wV21 (h : Q v H) : tVar 21 (x0 :: x1 :: x2 :: x3 :: x4 :: x5 :: x6 :: x7 :: x8 :: x9 :: x10 :: x11 :: x12 :: x13 :: x14 :: x15 :: x16 :: x17 :: x18 :: x19 :: x20 :: some v :: ρ) H Q := ⟨v, rfl, h⟩
theorem wG21 (h : N (x0 :: x1 :: x2 :: x3 :: x4 :: x5 :: x6 :: x7 :: x8 :: x9 :: x10 :: x11 :: x12 :: x13 :: x14 :: x15 :: x16 :: x17 :: x18 :: x19 :: x20 :: some v :: ρ) H) : gName 21 v (x0 :: x1 :: x2 :: x3 :: x4 :: x5 :: x6 :: x7 :: x8 :: x9 :: x10 :: x11 :: x12 :: x13 :: x14 :: x15 :: x16 :: x17 :: x18 :: x19 :: x20 :: x21 :: ρ) H N := h
theorem wV22 (h : Q v H) : tVar 22 (x0 :: x1 :: x2 :: x3 :: x4 :: x5 :: x6 :: x7 :: x8 :: x9 :: x10 :: x11 :: x12 :: x13 :: x14 :: x15 :: x16 :: x17 :: x18 :: x19 :: x20 :: x21 :: some v :: ρ) H Q := ⟨v, rfl, h⟩
theorem wG22 (h : N (x0 :: x1 :: x2 :: x3 :: x4 :: x5 :: x6 :: x7 :: x8 :: x9 :: x10 :: x11 :: x12 :: x13 :: x14 :: x15 :: x16 :: x17 :: x18 :: x19 :: x20 :: x21 :: some v :: ρ) H) : gName 22 v (x0 :: x1 :: x2 :: x3 :: x4 :: x5 :: x6 :: x7 :: x8 :: x9 :: x10 :: x11 :: x12 :: x13 :: x14 :: x15 :: x16 :: x17 :: x18 :: x19 :: x20 :: x21 :: x22 :: ρ) H N := h
theorem wV23 (h : Q v H) : tVar 23 (x0 :: x1 :: x2 :: x3 :: x4 :: x5 :: x6 :: x7 :: x8 :: x9 :: x10 :: x11 :: x12 :: x13 :: x14 :: x15 :: x16 :: x17 :: x18 :: x19 :: x20 :: x21 :: x22 :: some v :: ρ) H Q := ⟨v, rfl, h⟩
theorem wG23 (h : N (x0 :: x1 :: x2 :: x3 :: x4 :: x5 :: x6 :: x7 :: x8 :: x9 :: x10 :: x11 :: x12 :: x13 :: x14 :: x15 :: x16 :: x17 :: x18 :: x19 :: x20 :: x21 :: x22 :: some v :: ρ) H) : gName 23 v (x0 :: x1 :: x2 :: x3 :: x4 :: x5 :: x6 :: x7 :: x8 :: x9 :: x10 :: x11 :: x12 :: x13 :: x14 :: x15 :: x16 :: x17 :: x18 :: x19 :: x20 :: x21 :: x22 :: x23 :: ρ) H N := h
theorem wV24 (h : Q v H) : tVar 24 (x0 :: x1 :: x2 :: x3 :: x4 :: x5 :: x6 :: x7 :: x8 :: x9 :: x10 :: x11 :: x12 :: x13 :: x14 :: x15 :: x16 :: x17 :: x18 :: x19 :: x20 :: x21 :: x22 :: x23 :: some v :: ρ) H Q := ⟨v, rfl, h⟩
theorem wG24 (h : N (x0 :: x1 :: x2 :: x3 :: x4 :: x5 :: x6 :: x7 :: x8 :: x9 :: x10 :: x11 :: x12 :: x13 :: x14 :: x15 :: x16 :: x17 :: x18 :: x19 :: x20 :: x21 :: x22 :: x23 :: some v :: ρ) H) : gName 24 v (x0 :: x1 :: x2 :: x3 :: x4 :: x5 :: x6 :: x7 :: x8 :: x9 :: x10 :: x11 :: x12 :: x13 :: x14 :: x15 :: x16 :: x17 :: x18 :: x19 :: x20 :: x21 :: x22 :: x23 :: x24 :: ρ) H N := h
theorem wV25 (h : Q v H) : tVar 25 (x0 :: x1 :: x2 :: x3 :: x4 :: x5 :: x6 :: x7 :: x8 :: x9 :: x10 :: x11 :: x12 :: x13 :: x14 :: x15 :: x16 :: x17 :: x18 :: x19 :: x20 :: x21 :: x22 :: x23 :: x24 :: some v :: ρ) H Q := ⟨v, rfl, h⟩
theorem wG25 (h : N (x0 :: x1 :: x2 :: x3 :: x4 :: x5 :: x6 :: x7 :: x8 :: x9 :: x10 :: x11 :: x12 :: x13 :: x14 :: x15 :: x16 :: x17 :: x18 :: x19 :: x20 :: x21 :: x22 :: x23 :: x24 :: some v :: ρ) H) : gName 25 v (x0 :: x1 :: x2 :: x3 :: x4 :: x5 :: x6 :: x7 :: x8 :: x9 :: x10 :: x11 :: x12 :: x13 :: x14 :: x15 :: x16 :: x17 :: x18 :: x19 :: x20 :: x21 :: x22 :: x23 :: x24 :: x25 :: ρ) H N := h
theorem wV26 (h : Q v H) : tVar 26 (x0 :: x1 :: x2 :: x3 :: x4 :: x5 :: x6 :: x7 :: x8 :: x9 :: x10 :: x11 :: x12 :: x13 :: x14 :: x15 :: x16 :: x17 :: x18 :: x19 :: x20 :: x21 :: x22 :: x23 :: x24 :: x25 :: some v :: ρ) H Q := ⟨v, rfl, h⟩
theorem wG26 (h : N (x0 :: x1 :: x2 :: x3 :: x4 :: x5 :: x6 :: x7 :: x8 :: x9 :: x10 :: x11 :: x12 :: x13 :: x14 :: x15 :: x16 :: x17 :: x18 :: x19 :: x20 :: x21 :: x22 :: x23 :: x24 :: x25 :: some v :: ρ) H) : gName 26 v (x0 :: x1 :: x2 :: x3 :: x4 :: x5 :: x6 :: x7 :: x8 :: x9 :: x10 :: x11 :: x12 :: x13 :: x14 :: x15 :: x16 :: x17 :: x18 :: x19 :: x20 :: x21 :: x22 :: x23 :: x24 :: x25 :: x26 :: ρ) H N := h
end
theorem perm4 {A : Type} {a b c d r : A} {L : List A} : (a :: b :: c :: d :: r :: L).Perm (r :: a :: b :: c :: d :: L) := List.perm_middle (l₁ := [a, b, c, d])
end Z

set_option Elab.async false
set_option linter.all false
set_option maxRecDepth 100000
set_option maxHeartbeats 2000500
/-! ### t[::-1] of a tuple -/
namespace Z
open PySem PySem.Spec PyProof.Rows L2 HT
section
variable {prog : Program} {w : World} {A :
      Around} {E : Value → Shared → Prop} {s : Shared}
theorem adjust_rev (n : Nat) : Builtin.Slice.sliceAdjust none none (-1) (n : Int) = ((n : Int) - 1, -1) := by
  unfold
        Builtin.Slice.sliceAdjust
  simp
theorem places_rev (n : Nat) : Builtin.Slice.slicePlaces ((n : Int) - 1) (-1) (-1) = n := by
  unfold
        Builtin.Slice.slicePlaces
  have h1 : ¬ ((-1 : Int) > 0) := by omega
  simp only [h1, if_false, Int.neg_neg, Int.ediv_one]
  split <;> omega
theorem sliceApplied_rev {sl : Addr} {vs : Value} {n : Nat} {Q : Int × Int × Nat → Shared → Prop} (hs : s.heap.IsSliceOf sl .none .none vs) (ps : IsPart vs (some (-1)))
    (h : Q ((n : Int) - 1, -1, n) s) : wpAny (model prog w) A (Builtin.Slice.sliceApplied (.ref sl) (pure (n : Int))) Q E s := by
  obtain ⟨os, hos,
        hcs, hds⟩ := id hs
  unfold Builtin.Slice.sliceApplied
        Builtin.Slice.sliceFields
  refine wpAny_bind (wpAny_bind (wpAny_field hos hds (x := .none) rfl (wpAny_bind (wpAny_field hos hds (x := .none) rfl (wpAny_bind (wpAny_field hos hds (x := vs) rfl (wpAny_pure ?_)))))))
  refine wpAny_bind (slicePart_ ps ?_)
  show wpAny _ _ (if ((-1 : Int) == 0) = true then _ else _) _ _ s
  rw [if_neg (by decide)]
  refine wpAny_bind (slicePart_none (wpAny_bind (slicePart_none (wpAny_bind (wpAny_pure ?_)))))
  show wpAny _ _ (match Builtin.Slice.sliceAdjust none none (-1) (n : Int) with | (lo, hi) => pure (lo, (-1 : Int), Builtin.Slice.slicePlaces lo hi (-1))) _ _ s
  rw [adjust_rev]
  show wpAny _ _ (pure ((n : Int) - 1, (-1 : Int), Builtin.Slice.slicePlaces ((n : Int) - 1) (-1) (-1))) _ _ s
  rw [places_rev]
  exact wpAny_pure h
theorem fmap_map {α β : Type} {f : α → Option β} {g : α → β} : ∀ {l : List α}, (∀ x ∈ l, f x = some (g x)) → l.filterMap f = l.map g
  | [], _ => rfl
  | x :: r, h => by
    rw [List.filterMap_cons, h x List.mem_cons_self, List.map_cons]
    show _ :: _ = _ :: _
    rw [fmap_map fun y hy => h y (List.mem_cons_of_mem _ hy)]
theorem pick_rev (xs : Array Value) : ((List.range xs.size).filterMap fun (m : Nat) => xs[((xs.size : Int) - 1 + (m : Int) * -1).toNat]?).toArray = xs.toList.reverse.toArray := by
  congr 1
  apply List.ext_getElem?
  intro j
  have e : (List.range xs.size).filterMap (fun (m : Nat) => xs[((xs.size : Int) - 1 + (m : Int) * -1).toNat]?) = (List.range xs.size).map (fun m => xs.toList.reverse.getD m .none) := by
    refine fmap_map fun m hm => ?_
    have hm := List.mem_range.mp hm
    have e1 : ((xs.size : Int) - 1 + (m : Int) * -1).toNat = xs.size - 1 - m := by omega
    rw [e1]
    show xs[xs.size - 1 - m]? = some (xs.toList.reverse.getD m .none)
    rw [← Array.getElem?_toList, List.getD_eq_getElem?_getD, List.getElem?_reverse (by simpa using hm)]
    have hl : xs.toList.length - 1 - m < xs.toList.length := by rw [Array.length_toList]; omega
    rw [Array.length_toList, List.getElem?_eq_getElem (by rw [Array.length_toList]; omega)]
    rfl
  rw [e, List.getElem?_map]
  by_cases hj : j < xs.size
  · rw [List.getElem?_range hj]
    have hl : j < xs.toList.reverse.length := by rw [List.length_reverse, Array.length_toList]; exact hj
    rw [List.getElem?_eq_getElem hl]
    show some (xs.toList.reverse.getD j .none) = _
    rw [List.getD_eq_getElem?_getD, List.getElem?_eq_getElem hl]
    rfl
  · rw [List.getElem?_eq_none (by rw [List.length_range]; omega), List.getElem?_eq_none (by rw [List.length_reverse, Array.length_toList]; omega)]
    rfl
theorem getItem_tuple_rev {t sl : Addr} {items : Array Value} {vs : Value} {Q : Value → Shared → Prop} (ht : IsTup s.heap t items) (hs : s.heap.IsSliceOf sl .none .none vs) (ps : IsPart vs (some (-1)))
    (h : Q (.ref s.heap.objs.size) { s with heap := s.heap.push { cls := .type "tuple", data := .seq items.toList.reverse.toArray } })
    (hsz : items.size ≤ sizeLine) : wpAny (model prog
          w) A (getItem (.ref t) (.ref sl)) Q E s := by
  have htake : sizeOk (.seq items.toList.reverse.toArray) := by
    show items.toList.reverse.toArray.size ≤ sizeLine
    rw [List.size_toArray, List.length_reverse, Array.length_toList]
    exact hsz
  obtain ⟨os, hos,
        hcs, hds⟩ := id hs
  have hTs : s.TypeIs (.ref sl)
        "slice" := ⟨os, hos, hcs⟩
  unfold getItem
  try (with_reducible refine wpAny_holding ?_)
  first | (refine wpAny_bind (wpAny_pure ?_)) | skip
  refine wpAny_bind (wpAny_sequenceKey
        ht.typeIs (by decide) ?_)
  refine wpAny_bind (wpAny_callSpecial?_slot (name := Str.ofString
        "__getitem__") ht.typeIs PyProof.Rows.slot_tuple_getitem
    (wpAny_call_entry PyProof.Rows.slot_tuple_getitem
          ht.typeIs entry_tuple_getitem ?_ (args_tuple_getitem _ _)))
  show wpAny _ _ (Builtin.Tuple.tupleItemsOf
        (.ref t) >>= _) _ _ s
  refine wpAny_bind
        (tupleItemsOf_ ht ?_)
  refine wpAny_bind
        (wpAny_typeOf hTs ?_)
  rw [if_pos (by decide)]
  refine wpAny_bind (sliceApplied_rev hs ps ?_)
  show wpAny _ _ (if (((items.size : Int) - 1) == 0 && (-1 : Int) == 1 && items.size == items.size) = true then _ else _) _ _ s
  rw [if_neg (by simp), pick_rev]
  first
    | exact wpAny_bind (m := Builtin.Tuple.tupleExact _)
          (wpAny_newObj_type (wpAny_pure ⟨_, rfl, wpAny_pure h⟩) htake)
    | exact wpAny_bind (m := Builtin.Tuple.tupleExact _) (wpAny_newObj_type
          (wpAny_bind (wpAny_pure (wpAny_pure ⟨_, rfl, wpAny_pure h⟩))) htake)
    | exact wpAny_bind (wpAny_bind (m := Builtin.Tuple.tupleExact _)
          (wpAny_newObj_type (wpAny_pure (wpAny_pure ⟨_, rfl, wpAny_pure h⟩)) htake))
    | exact wpAny_bind (wpAny_bind (m := Builtin.Tuple.tupleExact _)
          (wpAny_newObj_type (wpAny_pure ⟨_, rfl, wpAny_pure h⟩) htake))
end
section
variable {X : Cx}
/-- x[::-1] of a list or of a tuple -/
def tRevS (K : PySem.W.Frag) (te : TE) : TE := fun σ H Q => te σ H fun x H1 => ∃ a xs, x = .ref a ∧ ((SqL K H1 a xs ∧ ∀ p, H1 p = none → Q (.ref p) (upd H1 p (.lst xs.reverse))) ∨ (SqT K H1 a xs ∧ ∀ p, H1 p = none → Q (.ref p) (upd H1 p (.tup xs.reverse))))
theorem pe_revS {e : Expr} {te : TE} {k : Nat} {p1 p2 p3 pos : Pos} (he : PE X e te) : PE X (.Subscript e (.Slice none none (some (.UnaryOp .USub (.Constant (.int 1) k p1) p2)) p3) pos) (tRevS X.K te) := by
  refine ⟨fun pins
        s σ H Q I h => ?_⟩
  refine Subscript_ (thn (he.run pins s σ H
        _ I h) fun v s1 ⟨x, H1, I1, r1, q1⟩ => ?_)
  obtain ⟨a, xs, ex, q⟩ := q1
  subst ex
  cases r1
  have hst : PO X (some (.UnaryOp .USub (.Constant (.int 1) k p1) p2)) (tPart
        (tUn (rU fun i => .int (-i)) (tC (.int 1)))) := po_some (pe_un un_neg pe_int)
  refine wpAny_Slice (thn (po_none.run pins s1 σ H1 (fun o H2 => o = none
        ∧ H2 = H1) I1 ⟨rfl, rfl⟩) fun vl s2 ⟨l, H2, I2, pl, el, e2⟩ => ?_)
  subst el e2
  refine thn (po_none.run pins s2 σ H2 (fun o H3 => o = none ∧ H3
        = H2) I2 ⟨rfl, rfl⟩) fun vu s3 ⟨u, H3, I3, pu, eu, e3⟩ => ?_
  subst eu e3
  refine thn (hst.run pins s3 σ H3 (fun o H4 => o = some (-1) ∧ H4 = H3)
        I3 ⟨1, rfl, -1, rfl, rfl, rfl⟩) fun vs s4 ⟨o, H4, I4, ps, eo, e4⟩ => ?_
  subst eo e4
  have I5 : Inv X pins σ H4 {
        s4 with heap := s4.heap.push { cls := .type "slice", data := .fields #[vl, vu, vs] } } := I4.kept (t' := s4.toks) fun b ob q => Heap.get?_push_of_some _ q
  rcases q with ⟨hx, q⟩ | ⟨hx, q⟩
  · obtain ⟨its, r, ht, hz⟩ := I5.list hx
    have hlen := r.length
    show wpAny (model X.prog X.w) X.A (subscriptTail e (.Slice none none (some (.UnaryOp .USub (.Constant (.int 1) k p1) p2)) p3) (.ref a)
          (.ref s4.heap.objs.size)) (EP X pins σ Q) X.xe { s4 with heap := s4.heap.push { cls := .type "slice", data := .fields #[vl, vu, vs] } }
    refine tail_any (ops := [.ref a, .ref s4.heap.objs.size]) ht.isList.typeIs
          (PySem.slot_list_getitem.lookup) ?_ (by with_unfolding_all rfl)
    refine wpAny_getItem_list_slice ht.isList (Heap.IsSliceOf.new _ vl
          vu vs) pl pu ps (by decide) ?_ (by rw [List.size_toArray]; omega)
    rw [PySem.W.krv_pick]
    refine ⟨.ref _, _, I5.laid (t' := s4.toks) (o := .lst xs.reverse) (fun b ob q =>
          Heap.get?_push_of_some _ q) (Nat.le_refl _) ?_, rfl, q _ (I5.hok.fresh (Nat.le_refl _))⟩
    exact ⟨by rw [List.length_reverse]; exact hz,
          _, 0, r.reverse, Heap.get?_push_size _ rfl⟩
  · obtain ⟨its, r, ht, hz⟩ := I5.tuple hx
    have hlen := r.length
    cases pl
    cases pu
    show wpAny (model X.prog X.w) X.A (subscriptTail e (.Slice none none (some (.UnaryOp .USub (.Constant (.int 1) k p1) p2)) p3) (.ref a) (.ref s4.heap.objs.size)) (EP X pins σ Q) X.xe { s4 with heap := s4.heap.push { cls := .type "slice", data := .fields #[.none, .none, vs] } }
    refine tail_any (ops := [.ref a, .ref s4.heap.objs.size]) ht.typeIs (PyProof.Rows.slot_tuple_getitem.lookup) ?_ (by with_unfolding_all rfl)
    refine getItem_tuple_rev ht (Heap.IsSliceOf.new _ .none .none vs) ps ?_ (by rw [List.size_toArray]; omega)
    refine ⟨.ref _, _, I5.laid (t' := s4.toks) (o := .tup xs.reverse) (fun b ob q => Heap.get?_push_of_some _ q) (Nat.le_refl _) ?_, rfl, q _ (I5.hok.fresh (Nat.le_refl _))⟩
    exact ⟨by rw [List.length_reverse]; exact hz, _, r.reverse, IsTup.new _ _⟩
end
end Z
/-! ### tuple(reversed(t)) of a tuple -/
namespace Z
open PySem PySem.Spec PyProof.Rows RT
theorem nolen_rt : typeLookup (.type "reversed") "__len__" = pure none := by rw [typeLookup_type, builtinLookup_eq_fast]; kernel_rfl
theorem hint_rt : typeLookup (.type "reversed") "__length_hint__" = pure (some (.builtin "reversed.__length_hint__")) := by rw [typeLookup_type, builtinLookup_eq_fast]; kernel_rfl
theorem slot_rt_hint : Slot "reversed" (Str.ofString "__length_hint__") "reversed.__length_hint__" := by
  refine Slot.of (owner := "reversed") (n := "__length_hint__") hint_rt ?_ ?_ ?_ (Or.inr ?_) ?_ ?_
  all_goals first | (rw [isSubtype_type]; kernel_rfl) | kernel_rfl | decide +kernel
theorem entry_rt_hint : entryFor table "reversed.__length_hint__" = some Builtin.«reversed.__length_hint__» := entryFor_of_tree (by kernel_rfl)
theorem args_rt_hint (a : Value) : argsOk "reversed.__length_hint__" { pos := [a] } := by
  show (match Manifest.signature? "reversed.__length_hint__" with | some sig => Bind.checkArgs "reversed.__length_hint__" sig { pos := [a] } | none => pure ()) = pure ()
  rw [signature?_of (n := "__length_hint__".toList.reverse) (o := "reversed".toList.reverse) (by kernel_rfl) RT.owner_rt]
  kernel_rfl
section
variable {prog : Program} {w : World} {A :
      Around} {E : Value → Shared → Prop} {s : Shared}
theorem call_hint_rt {it l : Addr} {items : Array Value} {Q : Value → Shared → Prop} (hit : IsRt s.heap it l ((items.size : Int) - 1)) (hl : IsTup s.heap l items) (hn : items.size ≤ sizeLine)
    (hQ : ∀ tk tk', Q (.int (items.size : Int) tk) { s with toks := tk' }) :
    wpAny (model prog w) A (call (.builtin "reversed.__length_hint__") [.ref it]) Q E s := by
  refine wpAny_call_entry slot_rt_hint hit.typeIs entry_rt_hint ?_ (args_rt_hint _)
  obtain ⟨o, ho,
        hc, hd⟩ := id hit
  unfold Builtin.«reversed.__length_hint__»
  have hz : ((items.size : Nat) : Int) < 2 ^ 63 := by
    have : sizeLine < 2 ^ 63 := by decide +kernel
    omega
  wp_walk using wpAny_field ho hd (i := 0) (x := .ref l) rfl, wpAny_field ho hd (i := 1) (x := rawInt ((items.size : Int) - 1)) rfl, len_tuple hl hz
  rw [hd]
  wp_walk
  rw [show ((items.size : Int) - 1) + 1 = items.size from by omega]
  exact ⟨_, rfl, hQ _ _⟩
end
theorem Walks.tupRev {prog : Program} {w : World} {A : Around} (hh : A.handled = none) (I l : Addr) (hne : l ≠ I) (items : Array Value) (hz : items.size ≤ sizeLine) :
    Walks prog w A I [I, l] [I] items.size (fun i v => items[items.size - 1 - i]? = some v) (fun i h => i ≤ items.size ∧ IsRt h I l ((items.size : Int) - 1 - (i : Int)) ∧ IsTup h l items) where
  sub := fun b hb => by
    simp at hb; simp [hb]
  frame := fun _ _ _ x hk => ⟨x.1, x.2.1.at fun o e => hk I (by simp) o e, by
    obtain ⟨o, ho, r⟩ := x.2.2
    exact ⟨o, hk l (by simp) o ho, r⟩⟩
  item := fun i s
        Q E hi x hQ => by
    have e : (items.size : Int) - 1 - (i : Int) =
          ((items.size - 1 - i : Nat) : Int) := by omega
    have hit := x.2.1
    rw [e] at hit
    have hx : items[items.size - 1 - i]? = some (items[items.size - 1 - i]'(by
          omega)) := Array.getElem?_eq_getElem (by omega)
    refine next_rt_item hit x.2.2 hx hz fun h' hit' hs' => ?_
    have e2 : ((items.size - 1 - i : Nat) : Int) - 1 = (items.size : Int) - 1 -
          ((i + 1 : Nat) : Int) := by omega
    rw [e2] at hit'
    refine hQ _ h' (s.toks + 1) hx ⟨hi, hit', ?_⟩ fun b o hb eo => hs'.extBut b o (fun h => hb (by simp [h])) eo
    obtain ⟨o, ho, r⟩ := x.2.2
    exact ⟨o, (hs'.2 l hne).trans ho, r⟩
  done := fun s Q E x hQ => by
    have e : (items.size : Int) - 1 -
          (items.size : Int) = -1 := by omega
    have hit := x.2.1
    rw [e] at hit
    exact next_rt_end hh hit fun h' he' => hQ h' s.toks fun b o hb eo => he' b o (fun h => hb (by simp [h])) eo
  self := fun _ _ _ _ x hQ => iter_rt x.2.1 hQ
section
variable {prog : Program} {w : World} {A :
      Around} {E : Value → Shared → Prop} {s : Shared}
theorem fits_size {n : Nat} (hn : n ≤ sizeLine) : Builtin.List.listFitsIndex (n : Int) = true := by
  have : sizeLine < 2 ^ 63 := by decide +kernel
  unfold
        Builtin.List.listFitsIndex
  rw [Bool.and_eq_true,
        decide_eq_true_eq, decide_eq_true_eq]
  omega
theorem notlong_size {n : Nat} (hn : n ≤ sizeLine) : Builtin.List.listTooLong (n : Int).toNat = false := by
  unfold
        Builtin.List.listTooLong
  rw [decide_eq_false_iff_not]
  omega
theorem hint_wp {it l : Addr} {items : Array Value} {Q : Bool → Shared → Prop} (hit : IsRt s.heap it l ((items.size : Int) - 1)) (hl : IsTup s.heap l items) (hn : items.size ≤ sizeLine)
    (hQ : ∀ b tk', Q b { s with toks := tk' }) :
    wpAny (model prog w) A (Builtin.List.listLengthHint (.ref it)) Q E s := by
  have hT : s.TypeIs (.ref it) "reversed" := hit.typeIs
  unfold
        Builtin.List.listLengthHint
  refine wpAny_bind (wpAny_specialOf hT nolen_rt ?_)
  show wpAny _ A (specialOf (Value.ref it) (Str.ofString "__length_hint__") >>= _) _ _ _
  refine wpAny_bind (wpAny_specialOf hT hint_rt ?_)
  generalize hid : ("reversed.__length_hint__" : String) = id0
  wp_delta
  rw [show splitId id0 = some ("reversed", "__length_hint__") from by subst hid; decide +kernel]
  subst hid
  refine wpAny_bind (wpAny_isInstance (b := true)
        hT (by rw [isSubtype_type]; kernel_rfl) ?_)
  rw [if_neg (by decide)]
  rw [if_neg (by
        decide +kernel)]
  refine wpAny_bind
        (wpAny_rule ?_)
  rw [slot_rt_hint.bind]
  refine wpAny_bind
        (wpAny_pure ?_)
  refine wpAny_bind (wpAny_attempt (call_hint_rt hit hl hn fun tk tk' => ?_))
  have hfit := fits_size hn
  have hlong := notlong_size hn
  have hneg : ¬ (items.size : Int) < 0 := by omega
  generalize (items.size : Int) = nn at hfit hlong hneg ⊢
  dsimp only
  rw [asInt?.eq_1]
  refine wpAny_bind
        (wpAny_pure ?_)
  dsimp only
  rw [hfit, hlong]
  rw [if_neg (by decide), if_neg hneg, if_neg (by decide)]
  exact wpAny_pure (hQ _ _)
theorem collect_revT {it l : Addr} {items : Array Value} {Q : List Value → Shared → Prop} (hh : A.handled = none) (hit : IsRt s.heap it l ((items.size : Int) - 1)) (hl : IsTup s.heap l items) (hne : l ≠ it) (hn : items.size ≤ sizeLine)
    (hQ : ∀ (h' : Heap) (tk : Nat) (acc : Array Value), (∀ b o, b ≠ it → s.heap.get? b = some o → h'.get? b = some o) →
          ItemsOf (fun i v => items[items.size - 1 - i]? = some v) acc items.size → Q acc.toList { s with heap := h', toks := tk }) :
    wpAny (model prog w) A (collect
          (.ref it)) Q E s := by
  have W := (Walks.tupRev (prog := prog) (w := w) (A := A.in1) hh it l hne items hn).toS
  obtain ⟨oi, hoi, _⟩ := id hit
  obtain ⟨ol, hol, hrl⟩ := id hl
  have hSi : s.heap.objs.size ≠ it :=
        Nat.ne_of_gt (Heap.lt_size hoi)
  have hSl : s.heap.objs.size ≠ l :=
        Nat.ne_of_gt (Heap.lt_size hol)
  have hSf : s.heap.objs.size ∉ [it, l] := by
    simp only [List.mem_cons, List.not_mem_nil, or_false, not_or]; exact ⟨hSi, hSl⟩
  unfold collect
  refine wpAny_bind (wpAny_runValue (codeAny_builtin
        F.entry_proto_collect ?_))
  rw [Around.under_plainId
        F.plain_proto_collect _]
  show wpAny _ A.in1 (newList [] >>= fun l' =>
    again (.builtin "list.__iadd__" ⟨[l', .ref it], []⟩)) _ _ s
  refine wpAny_bind
        (wpAny_newObj_type ?_)
  refine wpAny_pure ⟨plainId_quiet F.plain_list_iadd _,
        codeAny_builtin F.entry_list_iadd ?_⟩
  rw [Around.under_plainId
        F.plain_list_iadd _]
  have hS₁ : (s.heap.push { cls := .type "list", data := .seq ([] : List Value).toArray }).get? s.heap.objs.size =
      some { cls := .type "list", data := .seq ([] : List Value).toArray } := Heap.get?_push_size _ rfl
  have hit1 : IsRt (s.heap.push { cls := .type "list", data := .seq ([] : List Value).toArray }) it l ((items.size : Int) - 1) := hit.at fun o e => Heap.get?_push_of_some _ e
  have hl1 : IsTup (s.heap.push { cls := .type "list", data := .seq ([] : List Value).toArray }) l items := ⟨ol, Heap.get?_push_of_some _ hol, hrl⟩
  have hT : ({ s with heap := s.heap.push { cls := .type "list", data := .seq ([] : List Value).toArray } } : Shared).TypeIs (.ref it) "reversed" := IsRt.typeIs (s := { s with heap := s.heap.push { cls := .type "list", data := .seq ([] : List Value).toArray } }) hit1
  have h1 : Builtin.List.listSameRef (.ref s.heap.objs.size) (.ref it) = false := by
    simp [Builtin.List.listSameRef, hSi]
  show wpAny _ A.in1 (Builtin.List.listExtendWith (.ref s.heap.objs.size)
        (.ref it) (.ref s.heap.objs.size)) _ _ _
  unfold
        Builtin.List.listExtendWith
  refine wpAny_bind
        (wpAny_typeOf hT ?_)
  rw [if_neg (show ¬ _ = true by rw [h1]; decide)]
  refine wpAny_bind (iter_rt (s := { s with heap := s.heap.push { cls := .type "list", data := .seq ([] : List Value).toArray } }) hit1 ?_)
  refine wpAny_bind
        (wpAny_holding ?_)
  have e0 : ((items.size : Nat) : Int) - 1 - ((0 : Nat) : Int) =
        (items.size : Int) - 1 := by omega
  have key : ∀ (R : Result → Shared → Prop) (h2 : Heap) (c tk2 : Nat), h2.get? s.heap.objs.size = some { cls := .type "list", data := .seq #[] c } →
      (∀ b o, b ≠ s.heap.objs.size → s.heap.get? b = some o → h2.get? b = some o) →
      (∀ (h' : Heap) (tk3 c' : Nat) (acc : Array Value), h'.get? s.heap.objs.size = some { cls := .type "list", data := .seq acc c' } →
        (∀ b o, b ≠ it → s.heap.get? b = some o → h'.get? b = some o) → ItemsOf (fun i v => items[items.size - 1 - i]? = some v) acc items.size → R (Except.ok (Flow.ret (.ref s.heap.objs.size))) { s with heap := h', toks := tk3 }) →
      codeAny (model prog w) A (.builtin "list.extend.loop" { pos := [.ref s.heap.objs.size, .ref it, .ref s.heap.objs.size] }) R { s with heap := h2, toks := tk2 } := by
    intro R h2 c tk2 g2 f2 hR
    have g3 : ({ s with heap := h2, toks := tk2 } : Shared).heap.get? s.heap.objs.size = some { cls := .type "list", data := .seq #[] c } := g2
    refine codeAny_extend_loopS W hn _ hSf _ items.size 0 _ _ _ rfl (Nat.zero_le _) ⟨Nat.zero_le _, ?_, ?_⟩ g3 (ItemsOf.nil _) fun s' acc' c' hm hS' hacc => ?_
    · rw [e0]
      obtain ⟨o9, h9, r9⟩ := hit
      exact ⟨o9, f2 _ _ (Ne.symm hSi) h9, r9⟩
    · exact ⟨ol, f2 _ _ (Ne.symm hSl) hol, hrl⟩
    have em := Moved.eq_with hm
    have frame : ∀ b o, b ≠ it → s.heap.get? b = some o → s'.heap.get? b = some o := fun b o hb e => hm.heap b o (fun hmem => by
      rcases List.mem_cons.mp
            hmem with e' | hmem
      · exact absurd (Heap.lt_size e)
            (by rw [e']; exact Nat.lt_irrefl _)
      · exact hb (List.mem_singleton.mp hmem)) (f2 b o (fun e' => absurd (Heap.lt_size e) (by rw [e']; exact Nat.lt_irrefl _)) e)
    rw [em]
    exact hR s'.heap s'.toks c' acc' hS' frame hacc
  refine hint_wp hit1 hl1 hn fun b tk' => ?_
  have fin : ∀ (h2 : Heap) (c : Nat), h2.get? s.heap.objs.size = some { cls := .type "list", data := .seq #[] c } →
      (∀ b o, b ≠ s.heap.objs.size → s.heap.get? b = some o → h2.get? b = some o) →
      codeAny (model prog w) A (.builtin "list.extend.loop" { pos := [.ref s.heap.objs.size, .ref it, .ref s.heap.objs.size] })
        (fun r s' => match r with
          | Except.ok (Flow.ret v) => wpAny (model prog w) A (match v with
            | .ref a => load a >>= fun o => match o.data with
              | .seq xs _ => pure xs.toList
              | _ => unsupported
                    "internal:collect"
            | _ => unsupported "internal:collect") Q E s'
          | Except.ok _ => False
          | Except.error e => E e s') { s with heap := h2, toks := tk' } := by
    intro h2 c g2 f2
    refine key _ h2 c tk' g2 f2 fun h' tk3 c' acc g3 f3 hacc => ?_
    show wpAny (model prog w) A (load s.heap.objs.size >>= _) _ _ _
    refine wpAny_bind (wpAny_load g3 ?_)
    exact wpAny_pure (hQ h' tk3 acc f3 hacc)
  have f1 : ∀ b o, b ≠ s.heap.objs.size → s.heap.get? b = some o → (s.heap.push { cls := .type "list", data := .seq ([] : List Value).toArray }).get? b = some o := fun b o _ e => Heap.get?_push_of_some _ e
  rw [show (Bool.or b _) = b from ?hb]
  case hb => exact Bool.or_false b
  cases b
  · rw [if_neg (by decide)]
    exact wpAny_pure ⟨plainId_quiet F.plain_extend_loop _, fin _ _ hS₁ f1⟩
  · rw [if_pos rfl]
    refine wpAny_bind
          (wpAny_rule ?_)
    unfold Builtin.List.listTouch
    refine wpAny_bind (wpAny_bind (wpAny_updateSeq hS₁ rfl ?_))
    have g2 := Heap.get?_update_self (f := Obj.mapSeq fun x => x.push Value.none) hS₁ rfl
    refine wpAny_updateSeq g2 rfl ?_
    have g3 := Heap.get?_update_self (f := Obj.mapSeq fun x => x.pop) g2 rfl
    exact wpAny_pure ⟨plainId_quiet F.plain_extend_loop _, fin _ _ g3 fun b o hb e => Heap.get?_update_of_ne _ (Ne.symm hb) (Heap.get?_update_of_ne _ (Ne.symm hb) (f1 b o hb e))⟩
theorem code_tuple_new_revT {it l : Addr} {items : Array Value} {Q₁ : Value → Shared → Prop} (hh : A.handled = none) (hit : IsRt s.heap it l ((items.size : Int) - 1)) (hl : IsTup s.heap l items) (hne : l ≠ it) (hn : items.size ≤ sizeLine)
    (h : ∀ (h' : Heap) (tk : Nat) (acc : Array Value), (∀ b o, b ≠ it → s.heap.get? b = some o →
          h'.get? b = some o) → ItemsOf (fun i v => items[items.size - 1 - i]? = some v) acc items.size →
      Q₁ (.ref h'.objs.size) {
            s with heap := h'.push { cls := .type "tuple", data := .seq acc }, toks := tk }) :
    codeAny (model prog w) A (.call (.builtin "tuple.__new__")
          ⟨[.type "tuple", .ref it], []⟩) (wants Q₁ E) s := by
  refine codeAny_of_tree ?_
  show wpAny _ A.in1 (checkBuiltinCall "tuple.__new__" ⟨[.type "tuple", .ref it], []⟩ >>= fun _ =>
    again (.builtin "tuple.__new__" ⟨[.type "tuple", .ref it], []⟩)) _ _ s
  refine wpAny_bind (wpAny_of_eq (F.newCall_tuple_1 _) (wpAny_pure ⟨plainId_quiet
        F.plain_tuple_new _, codeAny_builtin F.entry_tuple_new ?_⟩))
  rw [Around.under_plainId
        F.plain_tuple_new _]
  have hsub := sub_tuple_self
  have hinit :=
        init_tuple_lookup
  have hmh := madeHere_tuple
  have hTI : s.TypeIs (.ref it) "reversed" := hit.typeIs
  have hh1 : A.in1.handled
        = none := hh
  wp_walk using wpAny_typeOf hTI, collect_revT (A := A.in1) hh1 hit hl hne hn
  intro h' tk acc hk hacc
  show wpAny _ _ (Builtin.Tuple.tupleExact acc.toList.toArray
        >>= fun v => ret v) _ _ _
  unfold
        Builtin.Tuple.tupleExact
  have hza : acc.toList.toArray.size ≤ sizeLine := by
    simp only [Array.toArray_toList]; rw [hacc.1]; exact hn
  refine wpAny_bind (wpAny_newObj_type ?_ hza)
  refine wpAny_pure ?_
  have e : acc.toList.toArray
        = acc := by simp
  rw [e]
  exact h h' tk acc
        hk hacc
theorem call_tuple_revT {it l : Addr} {items : Array Value} {Q : Value → Shared → Prop} (hh : A.handled = none) (hit : IsRt s.heap it l ((items.size : Int) - 1)) (hl : IsTup s.heap l items) (hne : l ≠ it) (hn : items.size ≤ sizeLine)
    (hQ : ∀ (h' : Heap) (tk : Nat) (acc : Array Value), (∀ b o, b ≠ it → s.heap.get? b = some o →
          h'.get? b = some o) → ItemsOf (fun i v => items[items.size - 1 - i]? = some v) acc items.size →
      Q (.ref h'.objs.size) {
            s with heap := h'.push { cls := .type "tuple", data := .seq acc }, toks := tk }) :
    wpAny (model prog w) A (call (.type
          "tuple") [.ref it]) Q E s := by
  refine callType_codes (Q₁ := fun obj s₁ => s₁.TypeIs obj "tuple" ∧ Q obj s₁)
        F.called_tuple (F.typeCall_tuple_1 _) F.entry_object_init
    (code_tuple_new_revT (A := A.in1) hh hit hl hne hn fun h' tk acc hk hacc => ⟨⟨_, Heap.get?_push_size _ rfl, rfl⟩, hQ h' tk acc hk hacc⟩) fun obj s₁ h₁ => ?_
  exact ⟨h₁.1, F.args_object_init_2 obj _, object_init_meets F.called_tuple.init.lookup F.called_tuple.made
        (by decide) prog w A.in1 _ s₁ ⟨h₁.1, rfl, h₁.2⟩⟩
end
end Z

set_option Elab.async false
set_option linter.all false
set_option maxRecDepth 100000
set_option maxHeartbeats 2000500
/-! ### t * 1 of a tuple: the same tuple -/
namespace Z
open PySem PySem.Spec PyProof.Rows L2 HT
theorem tuple_mul1 (l : Addr) (items : Array Value) (n : Nat) (dd : Option Addr) (sl : Array (Option Value)) (x : Int) (u : Tok)
    (c0 : (decide (x < -2 ^ 63) || decide (x ≥ 2 ^ 63)) = false) (c1 : (items.isEmpty || x == 1) = true) :
    Meets (Builtin.«tuple.__mul__» { pos := [Value.ref l, Value.int x u] }) fun _ R s =>
      s.heap.get? l = some { cls := Value.type "tuple", dict := dd, data := Data.seq items n, slots := sl } ∧ R (Except.ok (Flow.ret (Value.ref l))) s :=
  Meets.of_wp fun prog w A R s h => by
    obtain ⟨hp, g,
          d, tk, os⟩ := s
    obtain ⟨hl, h⟩ := h
    have f1 := AutoSeq1.idx_int
    have hT : (⟨hp, g, d, tk, os⟩ : Shared).TypeIs (.ref l) "tuple" := ⟨_, hl, rfl⟩
    wp_walk
    rw [if_neg (by rw [c0]; decide)]
    refine wpAny_bind (tupleItemsOf_ (items := items) ⟨_, hl, rfl, _, rfl⟩ ?_)
    rw [if_pos c1]
    unfold Builtin.Tuple.tupleIsExact
    wp_walk using wpAny_typeOf hT
    exact ⟨_, rfl, h⟩
/-- t * k of a tuple that is not empty, k at least 1 -/
def rRep1 (K : PySem.W.Frag) : R2 := fun x y H Q => ∃ l k xs, x = .ref l ∧ y = .int k ∧ SqT K H l xs ∧ xs ≠ [] ∧ 1 ≤ k ∧ k ≤ 1000 ∧ xs.length ≤ 1000 ∧
  (k = 1 → Q (.ref l) H) ∧ (k ≠ 1 → ∀ p, H p = none → Q (.ref p) (upd H p (.tup (List.replicate k.toNat xs).flatten)))
theorem op_rep1 {X : Cx} : OpR X (binaryOp Operator.Mult) (rRep1 X.K) := by
  intro pins s σ H x
        y v u Q I rx ry h
  obtain ⟨l, k, xs, ex, ey, hT, hne, h1, h2, hz, q1, q2⟩ := h
  by_cases hk : k = 1
  · subst ex ey
    cases rx
    obtain ⟨t, e⟩ := ry
    subst e hk
    obtain ⟨its, r, ht, hs⟩ := I.tuple hT
    obtain ⟨⟨cls, dd, data, sl⟩,
          ho, hc, n, hd⟩ := id ht
    dsimp only at hc hd
    subst hc hd
    refine wpAny_binaryOp_repeat_ref (by decide) ⟨_, ho, rfl⟩ (fun s' => typeIs_int s' 1 t) noFill_tuple_mul F.fills_int_mul F.slot_int_rmul repeat_tuple F.slot_int_index.lookup ?_
    refine call_meets F.slot_int_rmul (typeIs_int s 1 t) F.entry_int_rmul (F.args_int_rmul_2 (Value.int 1 t) (Value.ref l)) (int_rmul_tuple 1 t l its.toArray n dd sl) ⟨ho, rfl, ⟨_, ho, rfl⟩, ?_⟩
    refine call_meets F.slot_tuple_mul ⟨_, ho, rfl⟩ F.entry_tuple_mul (F.args_tuple_mul_2 (Value.ref l) (Value.int 1 t)) (tuple_mul1 l its.toArray n dd sl 1 t (by decide) (by simp)) ⟨ho, ?_⟩
    exact ⟨.ref l, H, I, rfl, q1 rfl⟩
  · exact op_repT pins s σ H x y v u Q I rx ry ⟨l, k, xs, ex, ey, hT, hne, by omega, h2, hz, q2 hk⟩
end Z
/-! ### tuple(reversed(t)) of a tuple as an expression -/
namespace Z
open PySem PySem.Spec PyProof.Rows L2 RT
def tTupRevT (K : PySem.W.Frag) (te : TE) : TE := fun σ H Q => te σ H fun v H1 => ∃ a xs, v = .ref a ∧ SqT K H1 a xs ∧ ∀ q, H1 q = none → Q (.ref q) (upd H1 q (.tup xs.reverse))
theorem pe_tupRevT {X : Cx} {e : Expr} {te : TE} {p p2 pos pos2 : Pos} (hc : X.calm = true) (hg : Gl X "tuple") (hm : X.mg "tuple" = none) (hg2 : Gl X "reversed") (hm2 : X.mg "reversed" = none) (he : PE X e te)
    (hs : starEach [e] X.env = (false, eval
          e X.env) :: starEach [] X.env := by rfl)
    (hs2 : starEach [.Call (.Name "reversed" p2) [e] [] pos2] X.env = (false, eval
          (.Call (.Name "reversed" p2) [e] [] pos2) X.env) :: starEach [] X.env := by rfl) :
    PE X (.Call (.Name "tuple" p) [.Call (.Name "reversed" p2) [e] [] pos2] [] pos) (tTupRevT X.K te) := by
  refine ⟨fun pins
        s σ H Q I h => ?_⟩
  refine Call_ (ld_blt I hg hm boot_tuple (PyProof.Rows.callWith_type1 (he := hs2) ?_))
  refine args_cons (he := hs2) (Call_ (ld_blt I hg2 hm2 boot_reversed (PyProof.Rows.callWith_type1 (he := hs) (args_cons (he := hs) ?_))))
  refine (thn (he.run pins s σ H _ I h) fun u s1 x => ?_)
  obtain ⟨v, H1, I1, r1, a, xs, ev, hq, q⟩ := x
  subst ev
  cases r1
  obtain ⟨its, r, ht, hz⟩ := I1.tuple hq
  have hlen := r.length
  have hne : a ≠ s1.heap.objs.size := by
    obtain ⟨o, ho, _⟩ := ht
    exact Nat.ne_of_lt
          (Heap.lt_size ho)
  have hsz : its.toArray.size ≤ sizeLine := by rw [List.size_toArray]; omega
  have hlt : ((its.toArray.size : Nat) : Int) < 2 ^ 63 := by
    have : sizeLine < 2 ^ 63 := by decide +kernel
    omega
  refine args_nil (call_reversed_tup ht (fun _ _ _ h9 => len_tuple ht hlt h9) (args_nil ?_))
  have I2 : L2.Inv X pins σ H1 { s1 with heap := s1.heap.push (rtObj a ((its.toArray.size : Int) - 1)), toks := s1.toks + 1 + 1 } := I1.kept fun b ob q9 => Heap.get?_push_of_some _ q9
  have hit : IsRt (s1.heap.push (rtObj a ((its.toArray.size : Int) - 1))) s1.heap.objs.size a ((its.toArray.size : Int) - 1) := ⟨_, Heap.get?_push_size _ rfl, rfl, rfl⟩
  obtain ⟨f0, f1, f2, f3, f4, f5⟩ := I1.fpOk (Nat.le_refl s1.heap.objs.size) (I1.hok.fresh (Nat.le_refl s1.heap.objs.size))
  have ht2 : IsTup (s1.heap.push (rtObj a ((its.toArray.size : Int) - 1))) a its.toArray := by
    obtain ⟨o, ho, r9⟩ := ht
    exact ⟨o, Heap.get?_push_of_some _ ho, r9⟩
  refine call_tuple_revT (s := { s1 with heap := s1.heap.push (rtObj a ((its.toArray.size : Int) - 1)), toks := s1.toks + 1 + 1 }) (items := its.toArray) (I1.ok.hd hc) hit ht2 hne hsz fun h' tk acc hk hacc => ?_
  have I3 := Inv.turned (t' := tk) I2 (fun b o hb e => hk b o hb e) f0 f1 f3 f4 f5
  refine ⟨.ref h'.objs.size, upd H1 h'.objs.size (.tup xs.reverse), I3.laid (t' := tk) (fun c o e => Heap.get?_push_of_some _ e) (Nat.le_refl _) ?_, rfl, q _ (I3.hok.fresh (Nat.le_refl _))⟩
  refine ⟨by rw [List.length_reverse]; exact hz, acc.toList, vals_rev r hacc, ?_⟩
  rw [Array.toArray_toList]
  exact IsTup.new h' acc
end Z
/-! ### readings of these over a ledger -/
namespace Z
open PySem PySem.Spec PyProof.Rows L2 HT
theorem zSlA {X : Cx} : SlR X (rOrS (rSlL X.K) (rSlA X.K)) := SlR.or sl_list sl_tupA
theorem cut_whole {xs : List V} {lo hi : Option Int} (h : HT.sIx xs.length 0 lo = 0 ∧ HT.sIx xs.length xs.length hi = xs.length) : cutV xs lo hi = xs := by
  unfold cutV
  rw [h.1, h.2]
  simp
def RevR (K : PySem.W.Frag) (x : V) (H1 : Hp) (Q : VK) : Prop := ∃ a xs, x = .ref a ∧ ((SqL K H1 a xs ∧ ∀ p, H1 p = none → Q (.ref p) (upd H1 p (.lst xs.reverse))) ∨ (SqT K H1 a xs ∧ ∀ p, H1 p = none → Q (.ref p) (upd H1 p (.tup xs.reverse))))
def TupRevR (K : PySem.W.Frag) (x : V) (H1 : Hp) (Q : VK) : Prop := ∃ a xs, x = .ref a ∧ SqT K H1 a xs ∧ ∀ q, H1 q = none → Q (.ref q) (upd H1 q (.tup xs.reverse))
def RevI (K : PySem.W.Frag) (vs : List V) (H1 : Hp) (R : It → Hp → Prop) : Prop := ∃ a xs, vs = [V.ref a] ∧ SqL K H1 a xs ∧ R (Itv K a xs.length) H1
section
variable {K : PySem.W.Frag} {σ : L2.St} {H : Hp} {te : TE} {ta : TA} {Q : VK} {L : List En} {a : Addr} {xs : List V} {RI : It → Hp → Prop} {k : Int} {b : V} {lo hi : Option Int}
theorem wRevS (h : te σ H fun x H1 => RevR K x H1 Q) : tRevS K te σ H Q := h
theorem wRevL (s : SqL K H a xs) (F : Fx H L) (k : ∀ p H', Fx H' (.ob p (.lst xs.reverse) :: L) → Q (.ref p) H') : RevR K (.ref a) H Q := ⟨a, xs, rfl, .inl ⟨s, wNewF F k⟩⟩
theorem wRevT (s : SqT K H a xs) (F : Fx H L) (k : ∀ p H', Fx H' (.ob p (.tup xs.reverse) :: L) → Q (.ref p) H') : RevR K (.ref a) H Q := ⟨a, xs, rfl, .inr ⟨s, wNewF F k⟩⟩
theorem wTupRev (h : te σ H fun x H1 => TupRevR K x H1 Q) : tTupRevT K te σ H Q := h
theorem wTupRevT (s : SqT K H a xs) (F : Fx H L) (k : ∀ p H', Fx H' (.ob p (.tup xs.reverse) :: L) → Q (.ref p) H') : TupRevR K (.ref a) H Q := ⟨a, xs, rfl, s, wNewF F k⟩
theorem wIRev (h : ta σ H fun vs H1 => RevI K vs H1 RI) : iRev K ta σ H RI := h
theorem wRevI (s : SqL K H a xs) (h : RI (Itv K a xs.length) H) : RevI K [.ref a] H RI := ⟨a, xs, rfl, s, h⟩
theorem wRep1 (F : Fx H L) (m : En.ob a (.tup xs) ∈ L) (n1 : 1 ≤ k) (n2 : k ≤ 1000) (n3 : xs.length ≤ 1000) (n4 : xs ≠ [])
    (q : ∀ p H' L1, En.ob p (.tup (List.replicate k.toNat xs).flatten) ∈ L1 → L.Sublist L1 → Fx H' L1 → Q (.ref p) H') : rRep1 K (.ref a) (.int k) H Q := by
  refine ⟨a, k, xs, rfl, rfl, F.tup m, n4, n1, n2, n3, fun e => ?_, fun _ => ?_⟩
  · subst e
    refine q a H L ?_ (.refl _) F
    rw [show (List.replicate (Int.toNat 1) xs).flatten = xs from by
      show (List.replicate 1 xs).flatten = xs
      simp]
    exact m
  · exact wNewF F fun p H' F' => q p H' _ List.mem_cons_self (List.sublist_cons_self _ _) F'
theorem wSlAS {L' : List En} (hq : SeqIs L b (some xs)) (sb : L.Sublist L') (F : Fx H L')
    (q : ∀ p H' N, Seq2 (N ++ L) b (.ref p) xs (cutV xs lo hi) → Fx H' (N ++ L') → Q (.ref p) H') : rOrS (rSlL K) (rSlA K) b lo hi H Q := by
  cases hq with
  | lst m => exact .inl ⟨_, xs, rfl, F.lst (sb.subset m), wNewF F fun p H' F' => q p H' [_] (.lst (.tail _ m) List.mem_cons_self) F'⟩
  | tup m =>
    refine .inr ⟨_, xs, rfl, F.tup (sb.subset m), fun e => ?_, fun _ => ?_⟩
    · refine q _ H [] (.tup m ?_) F
      rw [cut_whole e]
      exact m
    · exact wNewF F fun p H' F' => q p H' [_] (.tup (.tail _ m) List.mem_cons_self) F'
theorem wLenSq (hq : SeqIs L b (some xs)) (F : Fx H L) (h : Q (.int xs.length) H) : rLen K [b] H Q := by
  cases hq with
  | lst m => exact wLenL (F.lst m) h
  | tup m => exact wLenT (F.tup m) h
theorem wIxSq {i : Int} {v : V} (hq : SeqIs L b (some xs)) (F : Fx H L) (e : atI xs i = some v) (h : Q v H) : rIx K b (.int i) H Q := by
  cases hq with
  | lst m => exact wIxL (F.lst m) e h
  | tup m => exact wIxT (F.tup m) e h
theorem wMany_yes {c cls : Value} {ts : Addr → Value → Option Addr → TS} {r : List (Value × (Addr → Value → Option Addr → TS))} {Wout : WX} {D : Ends} {d : Option Addr} (e : PySem.W.exmOne K cls c = some true) (h : ∀ a, H a = none → ts a cls d D σ H) : WE (wMany K Wout D ((c, ts) :: r)) σ cls d H :=
  ⟨true, e, fun _ a ha => h a ha, fun q => Bool.noConfusion q⟩
theorem wMany_no {c cls : Value} {ts : Addr → Value → Option Addr → TS} {r : List (Value × (Addr → Value → Option Addr → TS))} {Wout : WX} {D : Ends} {d : Option Addr} (e : PySem.W.exmOne K cls c = some false) (h : WE (wMany K Wout D r) σ cls d H) : WE (wMany K Wout D ((c, ts) :: r)) σ cls d H :=
  ⟨false, e, fun q => Bool.noConfusion q, fun _ => h⟩
theorem starSq {R : List V → Prop} (hq : SeqIs L b (some xs)) (F : Fx H L) (h : R xs) : ∃ p xs, b = V.ref p ∧ (SqT K H p xs ∨ SqL K H p xs) ∧ R xs := by
  cases hq with
  | lst m => exact ⟨_, xs, rfl, .inr (F.lst m), h⟩
  | tup m => exact ⟨_, xs, rfl, .inl (F.tup m), h⟩
theorem wOnly_yes {c : Value} {ts : Addr → Value → Option Addr → TS} {Wout : WX} {D : Ends} {d : Option Addr} (e : PySem.W.exmOne K c c = some true) (h : ∀ a, H a = none → ts a c d D σ H) : WE (wOnly K c ts Wout D) σ c d H :=
  ⟨true, e, fun _ a ha => h a ha, fun q => Bool.noConfusion q⟩
theorem Seq2.isR {L : List En} {a c : V} {xs ys : List V} (h : Seq2 L a c xs ys) : SeqIs L c (some ys) := by
  cases h with
  | lst _ m => exact .lst m
  | tup _ m => exact .tup m
theorem wLcZL {a b : Addr} {xs ys : List V} {g : TG} {tt : TT} {te : TE} {vs : List Nat} {σ : L2.St} {QD : Addr → Hp → Prop} (m : En.ob a (.lst xs) ∈ L) (m' : En.ob b (.lst ys) ∈ L) (F : Fx H L) (R : Nat → List V → List En → Prop) (h0 : R 0 [] L) (keep : ∀ i acc L', R i acc L' → ∀ e ∈ L, e ∈ L')
    (hs : ∀ i x y T D H' acc L', xs[i]? = some x → ys[i]? = some y → R i acc L' → Fx H' (.ob T (.tup [x, y]) :: .ob D (.lst acc) :: L') → g (.ref T) (wipe σ vs) H' fun σ2 H2 => wipe σ2 vs = wipe σ vs ∧ tt σ2 H2 fun b H3 =>
      if b = true then te σ2 H3 fun y H4 => LcPut D R i y H4 else LcP D R (i + 1) H3)
    (hd : ∀ D acc L' H', Fx H' (.ob D (.lst acc) :: L') → R (min xs.length ys.length) acc L' → QD D H') :
    ∀ D, H D = none → ∃ W : Nat → Nat → Hp → Prop, (∃ m, W 0 m (upd H D (.lst []))) ∧ ∀ i m H, W i m H →
  ((Itz K a b).stop i H ∧ QD D H) ∨ ((Itz K a b).go i H ∧ ∃ Nx : Hp → Prop, (∀ H', Nx H' → ∃ m', m' < m ∧ W (i + 1) m' H') ∧ ∀ x H', (Itz K a b).yld i H x H' → g x (wipe σ vs) H' fun σ2 H2 => wipe σ2 vs = wipe σ vs ∧ tt σ2 H2 fun b H3 =>
    if b = true then te σ2 H3 fun y H4 => ∃ acc, H4 D = some (.lst acc) ∧
          acc.length < sizeLine ∧ Nx (upd H4 D (.lst (acc ++ [y]))) else Nx H3) := by
  refine wLcW (walk_zip (K := K) (xs := xs) (ys := ys) rfl) F R h0 (fun i acc L' D H' r F' => ⟨F'.lst (List.mem_cons_of_mem _ (keep _ _ _ r _ m)), F'.lst (List.mem_cons_of_mem _ (keep _ _ _ r _ m'))⟩) ?_ hd
  rintro i v D H' H'' acc L' _ r F' ⟨T, x, y, rfl, hT, rfl, e1, e2⟩
  exact hs i x y T D _ acc L' e1 e2 r (F'.new hT)
theorem wLcRev {a : Addr} {xs : List V} {g : TG} {tt : TT} {te : TE} {vs : List Nat} {σ : L2.St} {QD : Addr → Hp → Prop} (m : En.ob a (.lst xs) ∈ L) (F : Fx H L) (R : Nat → List V → List En → Prop) (h0 : R 0 [] L) (keep : ∀ i acc L', R i acc L' → ∀ e ∈ L, e ∈ L')
    (hs : ∀ i x D H' acc L', xs.reverse[i]? = some x → R i acc L' → Fx H' (.ob D (.lst acc) :: L') → g x (wipe σ vs) H' fun σ2 H2 => wipe σ2 vs = wipe σ vs ∧ tt σ2 H2 fun b H3 =>
      if b = true then te σ2 H3 fun y H4 => LcPut D R i y H4 else LcP D R (i + 1) H3)
    (hd : ∀ D acc L' H', Fx H' (.ob D (.lst acc) :: L') → R xs.length acc L' → QD D H') :
    ∀ D, H D = none → ∃ W : Nat → Nat → Hp → Prop, (∃ m, W 0 m (upd H D (.lst []))) ∧ ∀ i m H, W i m H →
  ((Itv K a xs.length).stop i H ∧ QD D H) ∨ ((Itv K a xs.length).go i H ∧ ∃ Nx : Hp → Prop, (∀ H', Nx H' → ∃ m', m' < m ∧ W (i + 1) m' H') ∧ ∀ x H', (Itv K a xs.length).yld i H x H' → g x (wipe σ vs) H' fun σ2 H2 => wipe σ2 vs = wipe σ vs ∧ tt σ2 H2 fun b H3 =>
    if b = true then te σ2 H3 fun y H4 => ∃ acc, H4 D = some (.lst acc) ∧
          acc.length < sizeLine ∧ Nx (upd H4 D (.lst (acc ++ [y]))) else Nx H3) := by
  refine wLcW (walk_rev (K := K) (a := a) (xs := xs)) F R h0 (fun i acc L' D H' r F' => F'.lst (List.mem_cons_of_mem _ (keep _ _ _ r _ m))) ?_ hd
  rintro i v D H' H'' acc L' hi r F' ⟨rfl, e⟩
  exact hs i v D _ acc L' (by rw [List.getElem?_reverse hi]; exact e) r F'
end
end Z

set_option Elab.async false
set_option linter.all false
set_option maxRecDepth 100000
/-! ### range of any bounds; math.lcm; min and max of a list -/
namespace Z
open PySem PySem.Spec
      PyProof.Rows L2
theorem turn_long {P : Program} {w : World} {K : PySem.W.Frag} {tg : Expr} (it : Addr) (lo : Int) (n : Nat) : Turn P w K tg (Itr lo n) [it] it (fun i h => IsLongIter h it (lo + (i : Nat) * 1) ((n : Int) - (i : Nat)) 1) where
  mem := by simp
  obj := fun i h st b hb => by
    have e : b = it :=
          by simpa using hb
    subst e
    exact ⟨_, st, fun v z => by
      have z' : Data.fields
            _ = Data.cell v := z
      cases z'⟩
  keep := fun i h h' st k
        => k it (by simp) _ st
  item := by
    intro X hP hw hK hc i
          pins s σ H E I hf st hg
    subst hP hw hK
    obtain ⟨f0, f1, f2, f3,
          f4, f5⟩ := hf it (by simp)
    have W := Walks.longrange (prog := X.prog) (w := X.w) (I.ok.hd hc) it lo 1 n
    refine W.item i s _ _ hg st
          fun v h' tk hv st' kk => ?_
    obtain ⟨t, rfl⟩ := hv
    have I1 : Inv X pins σ H {
          s with heap := h', toks := tk } := I.turned (fun b o hb e => kk b o (by simpa using hb) e) f0 f1 f3 f4 f5
    refine ⟨_, rfl, go_of (s := { s with heap := h', toks := tk }) (n := "longrange_iterator") st' rfl rfl (by decide) ⟨.int (lo + i), H, I1, ⟨t, ?_⟩, ⟨rfl, rfl⟩, st', fun b hb => (hf b hb).1⟩⟩
    rw [Int.mul_one]
  done := by
    intro X hP hw hK hc i
          pins s σ H E I hf st hg
    subst hP hw hK
    obtain ⟨f0, f1, f2, f3,
          f4, f5⟩ := hf it (by simp)
    exact wpAny_pyNext_long_end (I.ok.hd hc) st (by have : n ≤ i := hg; omega) fun h' eb => ⟨rfl, I.turned (t' := s.toks) (fun b o hb e => eb b o hb e) f0 f1 f3 f4 f5⟩
  self := fun _ _ _ _ _ st h => wpAny_pyIter_longiter st h
section
variable {X : Cx} {tg : Expr}
theorem range_itG {pins : List (Addr × Obj)} {σ : L2.St} {H : Hp} {s : Shared} {R : It → Hp → Prop} {E : Value → Shared → Prop} {lo hi : Int} {t u v : Tok} {tk : Nat} (I : Inv X pins σ H s)
    (q : R (Itr lo (hi - lo).toNat) H) : wpAny (model X.prog X.w) X.A (pyIter (.ref s.heap.objs.size)) (PIE X pins σ tg R) E {
          s with heap := s.heap.push { cls := .type "range", data := .fields #[.int lo t, .int hi u, .int 1 v] }, toks := tk } := by
  cases hs : Builtin.Range.small lo hi 1 with
  | true =>
    refine wpAny_pyIter_range (IsRange.new ..) hs ?_
    have I1 : Inv X pins σ H {
          s with heap := s.heap.push { cls := .type "range", data := .fields #[.int lo t, .int hi u, .int 1 v] }, toks := tk } := I.kept fun b o e => Heap.get?_push_of_some _ e
    refine pi_one (tk := tk) I1 _ (turn_range _ lo (hi - lo).toNat) ?_ q
    have e1 : lo + ((0 : Nat) : Int) * 1 = lo := by simp
    have e2 : (((hi - lo).toNat : Nat) : Int) - ((0 : Nat) : Int) =
          Builtin.Range.rangeSize lo hi 1 := by rw [rangeSize_one]; split <;> omega
    show IsRangeIter _ _ (lo + ((0 : Nat) : Int) * 1)
          ((((hi - lo).toNat : Nat) : Int) - ((0 : Nat) : Int)) 1
    rw [e1, e2]
    exact Heap.get?_push_size
          _ rfl
  | false =>
    refine wpAny_pyIter_longrange (IsRange.new ..) hs ?_
    have I1 : Inv X pins σ H {
          s with heap := s.heap.push { cls := .type "range", data := .fields #[.int lo t, .int hi u, .int 1 v] }, toks := tk } := I.kept fun b o e => Heap.get?_push_of_some _ e
    refine pi_one (tk := tk) I1 _ (turn_long _ lo (hi - lo).toNat) ?_ q
    have e1 : lo + ((0 : Nat) : Int) * 1 = lo := by simp
    have e2 : (((hi - lo).toNat : Nat) : Int) - ((0 : Nat) : Int) =
          Builtin.Range.rangeSize lo hi 1 := by rw [rangeSize_one]; split <;> omega
    show IsLongIter _ _ (lo + ((0 : Nat) : Int) * 1) ((((hi - lo).toNat : Nat) : Int) - ((0 : Nat) : Int)) 1
    rw [e1, e2]
    exact Heap.get?_push_size
          _ rfl
def iRngG (ta : TA) : TI := fun σ H R => ta σ H fun vs H1 => ∃ i j : Int, vs = [.int i, .int j] ∧ R (Itr i (j - i).toNat) H1
/-- for .. in range(a, b), numbers of any size -/
theorem pi_rangeG {a b : Expr} {ta : TA} {p pos : Pos} (hg : Gl X "range") (hm : X.mg "range" = none) (ha : PA X [a, b] ta) (hs : starEach [a, b] X.env = [(false, eval a X.env), (false, eval b X.env)] := by rfl) (hs2 : starEach [b] X.env = [(false, eval b X.env)] := by rfl) :
    PI X tg (.Call (.Name "range" p) [a, b] [] pos) (iRngG ta) := by
  refine ⟨fun pins
        s σ H R I h => ?_⟩
  refine Call_ (ld_blt I hg hm boot_range (PyProof.Rows.callWith_type1 (thn (ha.run pos pins
        s σ H _ I h) fun us s1 ⟨vs, H1, I1, r1, q1⟩ => ?_) (by rw [hs, hs2]) (by rw [hs2]; rfl)))
  obtain ⟨i, j, e, q⟩ := q1
  subst e
  cases r1 with
  | cons r rr =>
    cases rr with
    | cons r' rr =>
      cases rr
      obtain ⟨t, rfl⟩ := r
      obtain ⟨t', rfl⟩ := r'
      exact call_range_2 (range_itG I1 q)
def rLcm : List V → Hp → VK → Prop := fun vs H Q => ∃ a b : Int, vs = [.int a, .int b] ∧ a.natAbs < 2 ^ 64 ∧ b.natAbs < 2 ^ 64 ∧ Q (.int ((Nat.lcm a.natAbs b.natAbs : Nat) : Int)) H
theorem cr_lcm : CallR X (.builtin "math.lcm") rLcm := by
  intro pins s σ
        H vs us Q I r h
  obtain ⟨a, b, rfl, ha, hb, q⟩ := h
  obtain ⟨t, u, rfl⟩
        := Vals.int2 r
  exact PySem.W.mc_lcm ha hb fun _ => ⟨.int _, H, I.tok _, ⟨_, rfl⟩, q⟩
end
section
variable {K : PySem.W.Frag} {H : Hp} {Q : VK} {σ : L2.St} {ta : TA} {RI : It → Hp → Prop}
def GoRG (vs : List V) (H : Hp) (R : It → Hp → Prop) : Prop := ∃ i j : Int, vs = [.int i, .int j] ∧ R (Itr i (j - i).toNat) H
theorem wIRG (h : ta σ H fun vs H1 => GoRG vs H1 RI) : iRngG ta σ H RI := h
theorem wGoRG {i j : Int} (h : RI (Itr i (j - i).toNat) H) : GoRG [.int i, .int j] H RI := ⟨i, j, rfl, h⟩
theorem wLcm {a b : Int} (ha : a.natAbs < 2 ^ 64) (hb : b.natAbs < 2 ^ 64) (h : Q (.int ((Nat.lcm a.natAbs b.natAbs : Nat) : Int)) H) : rLcm [.int a, .int b] H Q := ⟨a, b, rfl, ha, hb, h⟩
theorem wMinL {a : Addr} {ns : List Int} (s : SqL K H a (ns.map V.int)) (n : 0 < ns.length) (h : ∀ m, m ∈ ns → (∀ y, y ∈ ns → m ≤ y) → Q (.int m) H) : rMin K [.ref a] H Q := ⟨a, ns, rfl, s, n, h⟩
theorem wMaxL {a : Addr} {ns : List Int} (s : SqL K H a (ns.map V.int)) (n : 0 < ns.length) (h : ∀ m, m ∈ ns → (∀ y, y ∈ ns → y ≤ m) → Q (.int m) H) : rMax K [.ref a] H Q := ⟨a, ns, rfl, s, n, h⟩
end
end Z

set_option Elab.async false
set_option linter.all false
set_option maxRecDepth 100000
set_option maxHeartbeats 2000500
/-! ### zip of a list or a tuple with a list or a tuple; len of an own instance -/
namespace Z
open PySem PySem.Spec
      PyProof.Rows L2
inductive Sd where | l | t
def Sd.seq : Sd → PySem.W.Frag → Hp → Addr → List V → Prop
  | .l => SqL
  | .t => SqT
def Sd.isIt : Sd → Heap → Addr → Addr → Nat → Prop
  | .l => fun h it a i => h.IsListIter it a i
  | .t => fun h it a i => h.IsTupleIter it a i
def Sd.holds : Sd → Heap → Addr → Array Value → Prop
  | .l => fun h a its => h.IsList a its
  | .t => fun h a its => h.IsTuple a its
def Sd.obj : Sd → Addr → Obj
  | .l => fun a => { cls := .type "list_iterator", data := .fields #[.ref a, .int 0 0] }
  | .t => fun a => { cls := .type "tuple_iterator", data := .fields #[.ref a, .int 0 0] }
theorem Sd.draws (k : Sd) {prog : Program} {w : World} {A : Around} (hh : A.handled = none) (it a : Addr) (n : a ≠ it) (its : Array Value) :
    Draws prog w A it [it, a] its.size (fun i v => its[i]? = some v) (fun i h => k.isIt h it a i ∧ k.holds h a its) := by
  cases k with
  | l => exact Draws.list hh it a n its
  | t => exact Draws.tuple hh it a n its
theorem Sd.begins (k : Sd) (a : Addr) (its : Array Value) : Begins (.ref a) (k.obj a) fun h => k.holds h a its := by
  cases k with
  | l => exact begins_list a its
  | t => exact begins_tuple a its
theorem Sd.isIt_at (k : Sd) {h h' : Heap} {it a : Addr} {i : Nat} (x : k.isIt h it a i) (e : ∀ o, h.get? it = some o → h'.get? it = some o) : k.isIt h' it a i := by
  cases k with
  | l => exact Heap.IsListIter.at x e
  | t => exact Heap.IsTupleIter.at x e
theorem Sd.isIt_new (k : Sd) {h : Heap} {it a : Addr} (e : h.get? it = some (k.obj a)) : k.isIt h it a 0 := by
  cases k with
  | l => exact ⟨_, e, rfl, rfl⟩
  | t => exact ⟨_, e, rfl, rfl⟩
theorem Sd.isIt_obj (k : Sd) {h : Heap} {it a : Addr} {i : Nat} (x : k.isIt h it a i) : ∃ o, h.get? it = some o ∧ ∀ v, o.data ≠ Data.cell v := by
  cases k with
  | l => obtain ⟨o, e, _, d⟩ := x; exact ⟨o, e, fun v q => by rw [d] at q; cases q⟩
  | t => obtain ⟨o, e, _, d⟩ := x; exact ⟨o, e, fun v q => by rw [d] at q; cases q⟩
section
variable {X : Cx} {pins : List (Addr ×
      Obj)} {σ : L2.St} {H : Hp} {s : Shared}
theorem Sd.have (k : Sd) {a : Addr} {xs : List V} (I : Inv X pins σ H s) (q : k.seq X.K H a xs) : ∃ its : List Value, Vals xs its ∧ k.holds s.heap a its.toArray ∧ a < s.heap.objs.size := by
  cases k with
  | l =>
    obtain ⟨its, rv, p, _⟩ := I.list q
    exact ⟨its, rv, p.isList, p.lt⟩
  | t =>
    obtain ⟨its, rv, p, _⟩ := I.tuple q
    obtain ⟨o1, ho1, _⟩ := id p
    exact ⟨its, rv, p, Heap.lt_size ho1⟩
theorem Sd.inj (k : Sd) {a : Addr} {xs ys : List V} (I : Inv X pins σ H s) (q : k.seq X.K H a xs) (q' : k.seq X.K H a ys) : xs = ys := by
  cases k with
  | l => exact I.list_inj q q'
  | t => exact I.tuple_inj q q'
end
/-- the two as they stand at each turn, the items in new pairs -/
def ItzG (K : PySem.W.Frag) (ka kb : Sd) (a b : Addr) : It :=
  ⟨fun i H => ∃ (xs ys : List V) (x y : V), ka.seq K H a xs ∧ kb.seq K H b ys ∧ xs[i]? = some x ∧ ys[i]? = some y,
    fun i H v H' => ∃ T x y, v = .ref T ∧ H T = none ∧ H' = upd H T (.tup [x, y]) ∧ (∀ xs, ka.seq K H a xs → xs[i]? = some x) ∧ ∀ ys, kb.seq K H b ys → ys[i]? = some y,
    fun i H => ∃ xs ys : List V, ka.seq K H a xs ∧ kb.seq K H b ys ∧ i ≤ xs.length ∧ i ≤ ys.length ∧ (i = xs.length ∨ i = ys.length)⟩
theorem turn_zipG {P : Program} {w : World} {K : PySem.W.Frag} {elts : List Expr} {kk : Nat} {tpos : Pos} {ka kb : Sd} {a b z TI TO i1 i2 : Addr} (S : ZipSep2 z TI TO i1 i2 [i1, a] [i2, b]) (n1 : a ≠ i1) (n2 : b ≠ i2) :
    Turn P w K (.Tuple elts kk tpos) (ItzG K ka kb a b) [z, TI, TO, i1, i2] z (fun i h => IsZip h z TI TO .none ∧ IsTupOf2 h TI (.ref i1) (.ref i2) ∧ (∃ x y, IsTupOf2 h TO x y) ∧ ka.isIt h i1 a i ∧ kb.isIt h i2 b i) where
  mem := by simp
  obj := fun i h st c hc => by
    obtain ⟨hz, hTI, ⟨x,
          y, hTO⟩, h1, h2⟩ := st
    simp only [List.mem_cons, List.not_mem_nil, or_false] at hc
    rcases hc with rfl | rfl | rfl | rfl | rfl
    · exact ⟨_, hz, fun v q => nomatch q⟩
    · exact ⟨_, hTI, fun v q => nomatch q⟩
    · exact ⟨_, hTO, fun v q => nomatch q⟩
    · exact ka.isIt_obj h1
    · exact kb.isIt_obj h2
  keep := fun i h h' st k => by
    obtain ⟨hz, hTI, ⟨x,
          y, hTO⟩, h1, h2⟩ := st
    exact ⟨k z (by simp) _ hz, k TI (by simp) _ hTI, ⟨x, y, k TO (by simp) _ hTO⟩, ka.isIt_at h1 fun o q => k i1 (by simp) o q, kb.isIt_at h2 fun o q => k i2 (by simp) o q⟩
  item := by
    intro X hP hw hK hc i
          pins s σ H E I hf st hg
    subst hP hw hK
    obtain ⟨hz, hTI, ⟨x0,
          y0, hTO⟩, h1, h2⟩ := st
    obtain ⟨xs, ys, x, y,
          hqx, hqy, hx, hy⟩ := hg
    obtain ⟨its, rv, p, la⟩ := ka.have I hqx
    obtain ⟨its2, rv2, p2, lb⟩ := kb.have I hqy
    obtain ⟨u, hu,
          ru⟩ := rv.get hx
    obtain ⟨u2, hu2,
          ru2⟩ := rv2.get hy
    have hzl : z < s.heap.objs.size
          := Heap.lt_size hz
    have il := (List.getElem?_eq_some_iff.mp hu).1
    have il2 := (List.getElem?_eq_some_iff.mp hu2).1
    refine wpAny_pyNext_zipD2_item S (ka.draws (by exact (I.ok.hd hc)) i1 a n1 its.toArray) (kb.draws (by exact (I.ok.hd hc)) i2 b n2 its2.toArray) hz hTI hTO ⟨h1, p⟩ ⟨h2, p2⟩ (by simpa using il) (by simpa using il2) fun v1 v2 h' tk e1 e2 z' TO' h1' h2' hT hsz hk => ?_
    obtain rfl : v1 = u := by
      have a1 : its.toArray[i]? = some u := by simpa using hu
      exact Option.some.inj (e1.symm.trans a1)
    obtain rfl : v2 = u2 := by
      have a1 : its2.toArray[i]? = some u2 := by simpa using hu2
      exact Option.some.inj (e2.symm.trans a1)
    refine ⟨_, rfl, wpAny_letOwnedTupleGo_zip (s := { s with heap := h', toks := tk }) z' fun h'' z'' sb => ?_⟩
    have hT2 : h''.get? s.heap.objs.size = some { cls := .type "tuple", data := .seq #[v1, v2] } := (sb.2 _ (Nat.ne_of_gt hzl)).trans hT
    have new : ObjOk X.prog X.w (upd H s.heap.objs.size
          (.tup [x, y])) h'' s.heap.objs.size (.tup [x, y]) :=
      ⟨by show 2 ≤ sizeLine; decide, [v1, v2], .cons ru (.cons ru2 .nil), ⟨_, hT2, rfl, _, rfl⟩⟩
    have I1 : Inv X pins σ (upd H s.heap.objs.size (.tup [x, y])) { s with heap := h'', toks := tk } :=
      I.turnedNew (t' := tk) (ch := [z, TI, TO, i1, i2]) (fun c o hb q => (sb.2 c (fun e => hb (by simp [e]))).trans (hk c o (fun e => hb (by simp [e])) (fun e => hb (by simp [e])) (fun e => hb (by simp [e])) (fun e => hb (by simp [e])) q)) hf (Nat.le_refl _) new
    refine ⟨.ref s.heap.objs.size, _, I1, rfl, ⟨_, x, y, rfl, I.hok.fresh (Nat.le_refl _), rfl, fun l hl => by rw [ka.inj I hl hqx]; exact hx, fun l hl => by rw [kb.inj I hl hqy]; exact hy⟩, ⟨z'', ?_, ⟨v1, v2, ?_⟩, ?_, ?_⟩, fun c hcm => ?_⟩
    · exact (sb.2 _ S.TIz).trans (hk _ _ S.TIz S.TITO S.TIi1 S.TIi2 hTI)
    · exact (sb.2 _ S.TOz).trans TO'
    · exact ka.isIt_at h1'.1 fun o q => (sb.2 _ (Ne.symm S.zi1)).trans q
    · exact kb.isIt_at h2'.1 fun o q => (sb.2 _ (Ne.symm S.zi2)).trans q
    · have hlt : c <
          s.heap.objs.size := by
        simp only [List.mem_cons, List.not_mem_nil, or_false] at hcm
        rcases hcm with rfl | rfl | rfl | rfl | rfl
        · exact hzl
        · exact Heap.lt_size hTI
        · exact Heap.lt_size hTO
        · obtain ⟨_, e1, _⟩ := ka.isIt_obj h1; exact Heap.lt_size e1
        · obtain ⟨_, e2, _⟩ := kb.isIt_obj h2; exact Heap.lt_size e2
      rw [upd_ne
            (Nat.ne_of_lt hlt)]
      exact (hf c hcm).1
  done := by
    intro X hP hw hK hc i
          pins s σ H E I hf st hg
    subst hP hw hK
    obtain ⟨hz, hTI, ⟨x0,
          y0, hTO⟩, h1, h2⟩ := st
    obtain ⟨xs, ys, hqx, hqy, g1, g2, g3⟩ := hg
    obtain ⟨its, rv, p, _⟩ := ka.have I hqx
    obtain ⟨its2, rv2, p2, _⟩ := kb.have I hqy
    have l1 := rv.length
    have l2 := rv2.length
    exact wpAny_pyNext_zipD2_end S (ka.draws (by exact (I.ok.hd hc)) i1 a n1 its.toArray) (kb.draws (by exact (I.ok.hd hc)) i2 b n2 its2.toArray) hz hTI hTO ⟨h1, p⟩ ⟨h2, p2⟩ (by simp; omega) (by simp; omega) (by simp; omega)
      fun h' tk hk => ⟨rfl, I.turnedL (t' := tk) (ch := [z, TI, TO, i1, i2]) (fun c o hb q => hk c o (fun e => hb (by simp [e])) (fun e => hb (by simp [e])) (fun e => hb (by simp [e])) (fun e => hb (by simp [e])) q) hf⟩
  self := fun A i s Q E st h
        => wpAny_pyIter_zip st.1 h
def iZipG (K : PySem.W.Frag) (ta : TA) : TI := fun σ H R => ta σ H fun vs H1 => ∃ a b ka kb xs ys, vs = [.ref a, .ref b] ∧ Sd.seq ka K H1 a xs ∧ Sd.seq kb K H1 b ys ∧ R (ItzG K ka kb a b) H1
theorem pi_zipG {X : Cx} {e e2 : Expr} {ta : TA} {p pos tpos : Pos} {elts : List Expr} {kk : Nat} (hg : Gl X "zip") (hm : X.mg "zip" = none) (ha : PA X [e, e2] ta)
    (hs : starEach [e, e2] X.env = (false, eval e X.env) :: starEach [e2] X.env :=
          by rfl) (hpl : (backTo pos (starEach [e2] X.env)).any (·.1) = false := by rfl) :
    PI X (.Tuple elts kk tpos) (.Call (.Name "zip" p) [e, e2] [] pos) (iZipG X.K ta) := by
  refine ⟨fun pins
        s σ H R I h => ?_⟩
  refine Call_ (ld_blt I hg hm PyProof.Rows.boot_zip (PyProof.Rows.callWith_type1
        (thn (ha.run pos pins s σ H _ I h) fun us s1 ⟨vs, H1, I1, r1, q1⟩ => ?_) hs hpl))
  obtain ⟨a, b, ka, kb, xs, ys, ex, hqx, hqy, q⟩ := q1
  subst ex
  cases r1 with
  | cons r rr =>
    cases rr with
    | cons r' rr =>
      cases rr
      cases r
      cases r'
      obtain ⟨its, rv, p1, la⟩ := ka.have I1 hqx
      obtain ⟨its2, rv2, p2, lb⟩ := kb.have I1 hqy
      refine zip_begins2 (ka.begins a its.toArray) (kb.begins b its2.toArray) p1 p2 fun h' hz hTI hTO h1 h2 hsz hk => wpAny_pyIter_zip hz ?_
      have I2 : Inv X pins σ H1 {
            s1 with heap := h' } := I1.kept (t' := s1.toks) hk
      refine ⟨s1.heap.objs.size + 4, [s1.heap.objs.size + 4, s1.heap.objs.size + 2, s1.heap.objs.size + 3, s1.heap.objs.size, s1.heap.objs.size + 1], _, _, H1, rfl, I2,
        turn_zipG (zip_sep2 (fp1 := [a]) (fp2 := [b]) (by simpa using la) (by simpa using lb)) (Nat.ne_of_lt la) (Nat.ne_of_lt (Nat.lt_succ_of_lt lb)), ⟨hz, hTI, ⟨_, _, hTO⟩, ka.isIt_new h1, kb.isIt_new h2⟩, fun c hcm => ?_, q⟩
      have hle :
            s1.heap.objs.size ≤ c := by
        simp only [List.mem_cons, List.not_mem_nil, or_false] at hcm
        rcases hcm with e | e | e | e | e
        · rw [e]; exact Nat.le_add_right _ _
        · rw [e]; exact Nat.le_add_right _ _
        · rw [e]; exact Nat.le_add_right _ _
        · rw [e]; exact Nat.le_refl _
        · rw [e]; exact Nat.le_add_right _ _
      exact I1.fpOk hle
            (I1.hok.fresh hle)
theorem walk_zipG {K : PySem.W.Frag} {ka kb : Sd} {a b : Addr} {xs ys : List V} {n : Nat} (hn : n = min xs.length ys.length) :
    Walk (ItzG K ka kb a b) n (fun H => ka.seq K H a xs ∧ kb.seq K H b ys) (YPair (fun i => xs[i]?) (fun i => ys[i]?)) := by
  refine ⟨fun i _ hi q => ⟨xs, ys, xs[i]'(by omega), ys[i]'(by omega), q.1, q.2, by simp, by simp⟩, fun _ q => ⟨xs, ys, q.1, q.2, by omega, by omega, by omega⟩, fun i H v H' _ q y => ?_⟩
  obtain ⟨T, x, y, h1, h2, h3, h4, h5⟩ := y
  exact ⟨T, x, y, h1, h2, h3, h4 xs q.1, h5 ys q.2⟩
theorem SeqIs.side {L : List En} {v : V} {xs : List V} (s : SeqIs L v (some xs)) : ∃ (k : Sd) (a : Addr), v = .ref a ∧ ∀ K H L', Fx H L' → (∀ p o, En.ob p o ∈ L → En.ob p o ∈ L') → Sd.seq k K H a xs := by
  cases s with
  | @lst a xs m => exact ⟨.l, a, rfl, fun K H L' F s => F.lst (s _ _ m)⟩
  | @tup a xs m => exact ⟨.t, a, rfl, fun K H L' F s => F.tup (s _ _ m)⟩
section
variable {K : PySem.W.Frag} {H : Hp} {L : List En} {a b : V} {xs ys : List V} {RI : It → Hp → Prop} {σ : L2.St} {ta : TA} {g : TG} {tb : TS} {nx : L2.St → Hp → Prop} {rt : VK}
def GoZG (K : PySem.W.Frag) (vs : List V) (H : Hp) (R : It → Hp → Prop) : Prop := ∃ a b ka kb xs ys, vs = [.ref a, .ref b] ∧ Sd.seq ka K H a xs ∧ Sd.seq kb K H b ys ∧ R (ItzG K ka kb a b) H
theorem wIZG (h : ta σ H fun vs H1 => GoZG K vs H1 RI) : iZipG K ta σ H RI := h
/-- a for over zip of two sequences of the ledger -/
theorem wForZ (ha : SeqIs L a (some xs)) (hb : SeqIs L b (some ys)) (F : Fx H L) (Pv : Nat → L2.St → Hp → Prop) (h0 : Pv 0 σ H) (keep : ∀ i σ H', Pv i σ H' → ∃ L', Fx H' L' ∧ ∀ p o, En.ob p o ∈ L → En.ob p o ∈ L')
    (hs : ∀ i x y T σ H', xs[i]? = some x → ys[i]? = some y → Pv i σ H' → H' T = none → g (.ref T) σ (upd H' T (.tup [x, y])) fun σ2 H2 => tb ⟨Pv (i + 1), rt, nx, Pv (i + 1)⟩ σ2 H2) (hd : ∀ σ H', Pv (min xs.length ys.length) σ H' → nx σ H') :
    GoZG K [a, b] H fun J H1 => ∃ W : Nat → Nat → L2.St → Hp → Prop, (∃ m, W 0 m σ H1) ∧ ∀ i m σ H, W i m σ H →
      (J.stop i H ∧ nx σ H) ∨ (J.go i H ∧ ∃ N : L2.St → Hp → Prop, (∀ σ' H', N σ' H' → ∃ m', m' < m ∧ W (i + 1) m' σ' H') ∧ ∀ x H', J.yld i H x H' → g x σ H' fun σ2 H2 => tb ⟨N, rt, nx, N⟩ σ2 H2) := by
  obtain ⟨ka, p, rfl, qa⟩ := ha.side
  obtain ⟨kb, q, rfl, qb⟩ := hb.side
  refine ⟨p, q, ka, kb, xs, ys, rfl, qa K H L F (fun _ _ h => h), qb K H L F (fun _ _ h => h), wForW (walk_zipG (K := K) (xs := xs) (ys := ys) rfl) Pv h0 (fun i σ H' _ pv => ?_) ?_ hd⟩
  · obtain ⟨L', F', k⟩ := keep i σ H' pv
    exact ⟨qa K H' L' F' k, qb K H' L' F' k⟩
  · rintro i x σ H' H'' _ pv ⟨T, u, v, rfl, hT, rfl, e1, e2⟩
    exact hs i u v T σ H' e1 e2 pv hT
/-- a comprehension over zip of two sequences of the ledger -/
theorem wLcZG {te : TE} {tt : TT} {vs : List Nat} {QD : Addr → Hp → Prop} (ha : SeqIs L a (some xs)) (hb : SeqIs L b (some ys)) (F : Fx H L) (R : Nat → List V → List En → Prop) (h0 : R 0 [] L)
    (keep : ∀ i acc L', R i acc L' → ∀ p o, En.ob p o ∈ L → En.ob p o ∈ L')
    (hs : ∀ i x y T D H' acc L', xs[i]? = some x → ys[i]? = some y → R i acc L' → Fx H' (.ob T (.tup [x, y]) :: .ob D (.lst acc) :: L') → g (.ref T) (wipe σ vs) H' fun σ2 H2 => wipe σ2 vs = wipe σ vs ∧ tt σ2 H2 fun b H3 =>
      if b = true then te σ2 H3 fun y H4 => LcPut D R i y H4 else LcP D R (i + 1) H3)
    (hd : ∀ D acc L' H', Fx H' (.ob D (.lst acc) :: L') → R (min xs.length ys.length) acc L' → QD D H') :
    GoZG K [a, b] H fun J H1 => ∀ D, H1 D = none → ∃ W : Nat → Nat → Hp → Prop, (∃ m, W 0 m (upd H1 D (.lst []))) ∧ ∀ i m H, W i m H →
  (J.stop i H ∧ QD D H) ∨ (J.go i H ∧ ∃ Nx : Hp → Prop, (∀ H', Nx H' → ∃ m', m' < m ∧ W (i + 1) m' H') ∧ ∀ x H', J.yld i H x H' → g x (wipe σ vs) H' fun σ2 H2 => wipe σ2 vs = wipe σ vs ∧ tt σ2 H2 fun b H3 =>
    if b = true then te σ2 H3 fun y H4 => ∃ acc, H4 D = some (.lst acc) ∧
          acc.length < sizeLine ∧ Nx (upd H4 D (.lst (acc ++ [y]))) else Nx H3) := by
  obtain ⟨ka, p, rfl, qa⟩ := ha.side
  obtain ⟨kb, q, rfl, qb⟩ := hb.side
  refine ⟨p, q, ka, kb, xs, ys, rfl, qa K H L F (fun _ _ h => h), qb K H L F (fun _ _ h => h), wLcW (walk_zipG (K := K) (xs := xs) (ys := ys) rfl) F R h0 (fun i acc L' D H' r F' => ?_) ?_ hd⟩
  · have k := keep i acc L' r
    exact ⟨qa K H' _ F' fun p o m => .tail _ (k p o m), qb K H' _ F' fun p o m => .tail _ (k p o m)⟩
  · rintro i x D H' H'' acc L' _ r F' ⟨T, u, v, rfl, hT, rfl, e1, e2⟩
    exact hs i u v T D _ acc L' e1 e2 r (F'.new hT)
end
/-! ### len(x), an own __len__ -/
structure OwnLenF (K : PySem.W.Frag) (C f : Addr) : Prop where
  len : PySem.W.findIn K (.ref C) "__len__" = some (some (.ref f))
  fn : PySem.W.typeIn K (.ref f) = some (.type "function")
def rLenOwn (K : PySem.W.Frag) (C : Addr) (sp : Sp) : List V → Hp → VK → Prop := fun vs H Q => ∃ a dx fs, vs = [.ref a] ∧ H a = some (.ins C dx fs) ∧ sp [.ref a] H (fun v H' => ∃ n : Int, v = .int n ∧ 0 ≤ n ∧ n < 2 ^ 63 ∧ Q (.int n) H') E0
section
variable {X : Cx} {k : Nat} {C f : Addr} {fd : FuncData} {ps : List Str} {sp : Sp}
theorem own_call1 {A : Around} {pins : List (Addr × Obj)} {σ : L2.St} {H : Hp} {s : Shared} {Q : VK} {x : V} {u : Value} (F : FnOk X.prog X.w X.K X.mg X.base CX0 k f fd ps sp) (hb : Binds X.K fd ps []) (hr : Room k A) (hf : A.frames = X.A.frames)
    (I : L2.Inv X pins σ H s) (rx : RelV x u) (h : sp [x] H Q E0) : wpAny (model X.prog X.w) A (call (.ref f) [u]) (EP X pins σ Q) X.xe s := by
  have e0 : Env0 X.prog X.w X.K
        X.mg X.base A X.stack s H := by
    have e := I.env0
    exact ⟨by rw [hf]; exact e.frames, e.mod, e.bs, e.bsz, e.funs, e.frf, e.hok, e.bare⟩
  have hl := F.len _ _ _ _ h
  have r2 : Vals [x] [u] := .cons rx .nil
  refine wpAny_call (codeAny_mono (F.run A X.stack s H ⟨[u], []⟩ [u] [x] _ E0 hr e0 (by
    have := hb s [u] I.kIn (by simpa using hl)
    simpa using this) r2 h) fun r s' hq => ?_)
  cases r with
  | error e => exact
        False.elim hq
  | ok fl =>
    cases fl with
    | ret w => exact I.after hq
    | next => exact False.elim hq
    | brk => exact False.elim hq
    | cont => exact False.elim hq
theorem cr_lenOwn (F : FnOk X.prog X.w X.K X.mg X.base CX0 k f fd ps sp) (q : OwnLenF X.K C f) (hb : Binds X.K fd ps []) (hr : Room (k + 1) X.A) : CallR X (.builtin "len") (rLenOwn X.K C sp) := by
  intro pins s σ
        H vs us Q I r h
  obtain ⟨a, dx, fs, rfl, ha, hsp⟩ := h
  obtain ⟨u, rfl,
        ru⟩ := vals1 r
  obtain rfl : u =
        Value.ref a := ru
  obtain ⟨mA, J, _⟩
        := ins_get I.hok ha
  obtain ⟨od, J, _⟩ := J.look
  refine PySem.Calls.call_function_entry PySem.kind_len PySem.plain_len PySem.entry_len (PySem.args_len1 _) ?_
  unfold Builtin.«len»
  refine wpAny_bind (m := oneArg
        "len" _) (wpAny_pure ?_)
  refine wpAny_bind (m := callSpecial? (.ref a) (Str.ofString "__len__")) (PySem.W.special_fn I.kIn J q.len q.fn (wpAny_mono (own_call1 F hb hr.in1 rfl I (show RelV (V.ref a) (Value.ref a) from rfl) hsp) (fun v s' z => ?_) fun _ _ e => e))
  obtain ⟨v', H', I', rv, n, en, h0, h1, hq⟩ := z
  subst en
  obtain ⟨t, rfl⟩ := rv
  refine wpAny_bind
        (wpAny_holding (wpAny_pure ?_))
  refine wpAny_bind
        (wpAny_letGo ?_)
  show wpAny _ _ (if n <
        0 then _ else _) _ _ _
  rw [if_neg (by omega)]
  show wpAny _ _ (if n ≥ 2
        ^ 63 then _ else _) _ _ _
  rw [if_neg (by omega)]
  exact wpAny_bind (wpAny_mkInt (wpAny_pure ⟨_, rfl, .int n, H', I'.tok _, ⟨_, rfl⟩, hq⟩))
def LenO (P : Program) (w : World) (K : PySem.W.Frag) (mg : Str → Option Value) (base : Heap) (C : Addr) (k : Nat) (ps : List Str) (sp : Sp) : Prop := ∃ (f : Addr) (fd : FuncData), OwnLenF K C f ∧ Binds K fd ps [] ∧ FnOk P w K mg base CX0 k f fd ps sp
theorem cr_lenO (O : LenO X.prog X.w X.K X.mg X.base C k ps sp) (hr : Room (k + 1) X.A) : CallR X (.builtin "len") (rLenOwn X.K C sp) := by
  obtain ⟨f, fd, q, b, F⟩ := O
  exact cr_lenOwn F q b hr
theorem wLenOwn {K : PySem.W.Frag} {H : Hp} {Q : VK} {a dx : Addr} {fs : List (Str × V)} (ha : H a = some (.ins C dx fs)) (h : sp [.ref a] H (fun v H' => ∃ n : Int, v = .int n ∧ 0 ≤ n ∧ n < 2 ^ 63 ∧ Q (.int n) H') E0) : rLenOwn K C sp [.ref a] H Q := ⟨a, dx, fs, rfl, ha, h⟩
end
/-! ### two lists, place by place -/
structure Al2 {α β : Type} (R : α → β → Prop) (xs : List α) (ys : List β) : Prop where
  len : xs.length = ys.length
  get : ∀ (i : Nat) (x : α) (y : β), xs[i]? = some x → ys[i]? = some y → R x y
section
variable {α β : Type} {R R' : α → β → Prop} {xs xs' : List α} {ys ys' : List β} {x : α} {y : β} {i : Nat}
theorem Al2.nil : Al2 R ([] : List α) ([] : List β) := ⟨rfl, fun i x y e => by simp at e⟩
theorem Al2.mono (h : Al2 R xs ys) (k : ∀ x y, R x y → R' x y) : Al2 R' xs ys := ⟨h.len, fun i x y e e' => k x y (h.get i x y e e')⟩
theorem Al2.getL (h : Al2 R xs ys) (e : xs[i]? = some x) : ∃ y, ys[i]? = some y ∧ R x y := by
  have hi := (List.getElem?_eq_some_iff.mp e).1
  have hy : ys[i]? = some (ys[i]'(by rw [← h.len]; exact hi)) := List.getElem?_eq_getElem _
  exact ⟨_, hy, h.get i x _ e hy⟩
theorem Al2.getR (h : Al2 R xs ys) (e : ys[i]? = some y) : ∃ x, xs[i]? = some x ∧ R x y := by
  have hi := (List.getElem?_eq_some_iff.mp e).1
  have hx : xs[i]? = some (xs[i]'(by rw [h.len]; exact hi)) := List.getElem?_eq_getElem _
  exact ⟨_, hx, h.get i _ y hx e⟩
theorem Al2.app (h : Al2 R xs ys) (h' : Al2 R xs' ys') : Al2 R (xs ++ xs') (ys ++ ys') := by
  refine ⟨by rw [List.length_append, List.length_append, h.len, h'.len], fun i x y e e' => ?_⟩
  by_cases hi : i < xs.length
  · rw [List.getElem?_append_left hi] at e
    rw [List.getElem?_append_left (by rw [← h.len]; exact hi)] at e'
    exact h.get i x y e e'
  · rw [List.getElem?_append_right (by omega)] at e
    rw [List.getElem?_append_right (by rw [← h.len]; omega), ← h.len] at e'
    exact h'.get _ x y e e'
theorem Al2.one (r : R x y) : Al2 R [x] [y] := ⟨rfl, fun i a b e e' => by
  cases i with
  | zero => cases e; cases e'; exact r
  | succ i => simp at e⟩
theorem Al2.snoc (h : Al2 R xs ys) (r : R x y) : Al2 R (xs ++ [x]) (ys ++ [y]) := h.app (.one r)
theorem Al2.cons (r : R x y) (h : Al2 R xs ys) : Al2 R (x :: xs) (y :: ys) := (Al2.one r).app h
theorem Al2.take (h : Al2 R xs ys) (n : Nat) : Al2 R (xs.take n) (ys.take n) := by
  refine ⟨by rw [List.length_take, List.length_take, h.len], fun i x y e e' => ?_⟩
  by_cases hi : i < n
  · rw [List.getElem?_take_of_lt hi] at e e'
    exact h.get i x y e e'
  · rw [List.getElem?_take_eq_none (by omega)] at e
    cases e
theorem Al2.drop (h : Al2 R xs ys) (n : Nat) : Al2 R (xs.drop n) (ys.drop n) := by
  refine ⟨by rw [List.length_drop, List.length_drop, h.len], fun i x y e e' => ?_⟩
  rw [List.getElem?_drop] at e e'
  exact h.get _ x y e e'
theorem Al2.set (h : Al2 R xs ys) (r : R x y) (n : Nat) : Al2 R (xs.set n x) (ys.set n y) := by
  refine ⟨by rw [List.length_set, List.length_set, h.len], fun i a b e e' => ?_⟩
  by_cases hi : n = i
  · subst hi
    have h1 := (List.getElem?_eq_some_iff.mp e).1
    have h2 := (List.getElem?_eq_some_iff.mp e').1
    rw [List.length_set] at h1 h2
    rw [List.getElem?_set_self h1] at e
    rw [List.getElem?_set_self h2] at e'
    cases e
    cases e'
    exact r
  · rw [List.getElem?_set_ne hi] at e e'
    exact h.get i a b e e'
theorem Al2.rep (r : R x y) (n : Nat) : Al2 R (List.replicate n x) (List.replicate n y) := by
  refine ⟨by rw [List.length_replicate, List.length_replicate], fun i a b e e' => ?_⟩
  obtain ⟨_, rfl⟩ := List.getElem?_eq_some_iff.mp e
  obtain ⟨_, rfl⟩ := List.getElem?_eq_some_iff.mp e'
  simpa using r
end
/-- an entry of a sublist, brought to the front -/
theorem sub_front {α : Type} {e : α} {r : List α} : ∀ {L : List α}, (e :: r).Sublist L → ∃ L2, L.Perm (e :: L2) ∧ r.Sublist L2
  | _, .cons a h => by
    obtain ⟨L2, p, s⟩ := sub_front h
    exact ⟨a :: L2, (p.cons a).trans (.swap _ _ _), s.cons a⟩
  | _, .cons_cons _ h => ⟨_, .refl _, h⟩
def Sp5 (f : V → V → V → V → V → Hp → VK → XK → Prop) : Sp := fun vs H Q E => ∃ a b c d e, vs = [a, b, c, d, e] ∧ f a b c d e H Q E
end Z

set_option Elab.async false
set_option linter.all false
set_option maxRecDepth 100000
set_option maxHeartbeats 2000500
/-! ### slices -/
namespace Z
open PySem L2 RZ
theorem cut_mem {xs : List V} {lo hi : Option Int} {x : V} (h : x ∈ cutV xs lo hi) : x ∈ xs := by
  unfold cutV at h
  exact List.mem_of_mem_drop (List.mem_of_mem_take h)
theorem cut_ints (cs : List Int) (lo hi : Option Int) : ∃ ds : List Int, cutV (cs.map V.int) lo hi = ds.map V.int ∧ ds.length ≤ cs.length ∧ ∀ d ∈ ds, d ∈ cs := by
  refine ⟨(cs.drop (HT.sIx cs.length 0 lo)).take (HT.sIx cs.length cs.length hi - HT.sIx cs.length 0 lo), ?_, ?_, fun d h => List.mem_of_mem_drop (List.mem_of_mem_take h)⟩
  · unfold cutV
    rw [List.length_map, ← List.map_drop, ← List.map_take]
  · rw [List.length_take, List.length_drop]; omega
theorem cut_take {xs : List V} {k : Int} (h : 0 ≤ k) : cutV xs none (some k) = xs.take k.toNat := by
  obtain ⟨n, rfl⟩ := Int.eq_ofNat_of_zero_le h
  unfold cutV
  rw [HT.sIx_nat, HT.sIx_none, List.drop_zero, Nat.sub_zero, Int.toNat_natCast]
  by_cases hn : n ≤ xs.length
  · rw [Nat.min_eq_left hn]
  · rw [Nat.min_eq_right (by omega), List.take_length, List.take_of_length_le (by omega)]
theorem cut_drop {xs : List V} {k : Int} (h : 0 ≤ k) : cutV xs (some k) none = xs.drop k.toNat := by
  obtain ⟨n, rfl⟩ := Int.eq_ofNat_of_zero_le h
  unfold cutV
  rw [HT.sIx_nat, HT.sIx_none, Int.toNat_natCast]
  by_cases hn : n ≤ xs.length
  · rw [Nat.min_eq_left hn, List.take_of_length_le (by rw [List.length_drop]; exact Nat.le_refl _)]
  · rw [Nat.min_eq_right (by omega), Nat.sub_self, List.take_zero, List.drop_eq_nil_of_le (by omega)]
theorem cut_but {xs : List V} : cutV xs none (some (-1)) = xs.dropLast := by
  unfold cutV HT.sIx
  show List.take ((-1 + (xs.length : Int)).toNat - 0) (List.drop 0 _) = _
  rw [List.drop_zero, List.dropLast_eq_take, show (-1 + (xs.length : Int)).toNat - 0 = xs.length - 1 from by omega]
end Z
namespace Z
open PySem PySem.Spec
      PyProof.Rows L2
/-! ### max and min of a tuple of whole numbers -/
theorem maxI : ∀ (xs : List Int) (x : Int), PySem.W.maxOf x xs ∈ x :: xs ∧ ∀ y ∈ x :: xs, y ≤ PySem.W.maxOf x xs
  | [], x => ⟨List.mem_cons_self, fun y h => by cases List.mem_singleton.mp h; exact Int.le_refl _⟩
  | z :: r, x => by
    have lt : PySem.W.DatumOrd.lt x z = decide (x < z) := rfl
    have e : PySem.W.maxOf x (z :: r) = PySem.W.maxOf (if PySem.W.DatumOrd.lt x z = true then z else x) r := rfl
    rw [e, lt]
    by_cases h : x < z
    · rw [if_pos (decide_eq_true h)]
      obtain ⟨a, b⟩ := maxI r z
      refine ⟨List.mem_cons_of_mem _ a, fun y hy => ?_⟩
      have hz := b z List.mem_cons_self
      rcases List.mem_cons.mp
            hy with rfl | hy
      · omega
      · exact b y hy
    · rw [if_neg (by simpa using h)]
      obtain ⟨a, b⟩ := maxI r x
      refine ⟨?_, fun y hy => ?_⟩
      · rcases List.mem_cons.mp a with a | a
        · rw [a]; exact List.mem_cons_self
        · exact List.mem_cons_of_mem _ (List.mem_cons_of_mem _ a)
      · have hx := b x List.mem_cons_self
        rcases List.mem_cons.mp
              hy with rfl | hy
        · exact hx
        · rcases List.mem_cons.mp
              hy with rfl | hy
          · omega
          · exact b y (List.mem_cons_of_mem _ hy)
def rMaxT (K : PySem.W.Frag) : List V → Hp → VK → Prop := fun vs H Q => ∃ (a : Addr) (ns : List Int), vs = [V.ref a] ∧ SqT K H a (ns.map V.int) ∧ 0 < ns.length ∧ ∀ m, m ∈ ns → (∀ y, y ∈ ns → y ≤ m) → Q (.int m) H
theorem cr_maxT {X : Cx} (hc : X.calm = true) (hu : X.A.units + 1 < cLine) : CallR X (.builtin "max") (rMaxT X.K) := by
  intro pins s σ
        H vs us Q I r h
  obtain ⟨a, ns, rfl,
        hs, hne, q⟩ := h
  obtain ⟨its, rv, hl, _⟩ := I.tuple hs
  rw [Vals.ref1 r]
  cases ns with
  | nil => simp at hne
  | cons n ms =>
    obtain ⟨m1, m2⟩ := maxI ms n
    refine PySem.W.max_tuple_datum (α := Int) (x := n) (xs := ms) (I.ok.hd hc) (show s.heap.IsTuple a its.toArray from hl) (by simpa using PySem.W.HoldAll.of_ints rv.ints) hu fun i v h' tk _ hv hk => ?_
    obtain ⟨as, hv⟩ := hv
    cases hv
    exact ⟨.int _, H, I.kept hk, ⟨_, rfl⟩, q _ m1 m2⟩
theorem wMaxT {K : PySem.W.Frag} {H : Hp} {Q : VK} {a : Addr} {ns : List Int} (s : SqT K H a (ns.map V.int)) (n : 0 < ns.length) (h : ∀ m, m ∈ ns → (∀ y, y ∈ ns → y ≤ m) → Q (.int m) H) : rMaxT K [.ref a] H Q := ⟨a, ns, rfl, s, n, h⟩
/-! ### slices and sums of tuples, any -/
theorem opCatA {X : Cx} : OpR X (binaryOp .Add) (rCatA X.K) := op_catA
section
variable {K : PySem.W.Frag} {H : Hp} {L : List En} {a b : Addr} {v : V} {xs ys : List V} {lo hi : Option Int} {Q : VK}
theorem wSlTu (m : En.ob a (.tup xs) ∈ L) (F : Fx H L) (k : ∀ p H' L1, L.Sublist L1 → En.ob p (.tup (cutV xs lo hi)) ∈ L1 → Fx H' L1 → Q (.ref p) H') : rOrS (rSlL K) (rSlA K) (.ref a) lo hi H Q := by
  refine .inr ⟨_, xs, rfl, F.tup m, fun e => ?_, fun _ => ?_⟩
  · refine k a H L (.refl _) ?_ F
    rw [cut_whole e]
    exact m
  · exact wNewF F fun p H' F' => k p H' _ (.cons _ (.refl _)) List.mem_cons_self F'
theorem wSlLi (m : En.ob a (.lst xs) ∈ L) (F : Fx H L) (k : ∀ p H', Fx H' (.ob p (.lst (cutV xs lo hi)) :: L) → Q (.ref p) H') : rOrS (rSlL K) (rSlA K) (.ref a) lo hi H Q :=
  .inl ⟨_, xs, rfl, F.lst m, wNewF F k⟩
theorem wCatA (m : En.ob a (.tup xs) ∈ L) (m' : En.ob b (.tup ys) ∈ L) (l : xs.length + ys.length ≤ 1000000) (F : Fx H L) (k : ∀ p H' L1, L.Sublist L1 → En.ob p (.tup (xs ++ ys)) ∈ L1 → Fx H' L1 → Q (.ref p) H') : rCatA K (.ref a) (.ref b) H Q := by
  refine ⟨a, b, xs, ys, rfl, rfl, F.tup m, F.tup m', Nat.le_trans l line_big, fun e => ?_, fun e e' => ?_, fun _ _ => ?_⟩
  · subst e
    exact k b H L (.refl _) m' F
  · subst e'
    exact k a H L (.refl _) (by rw [List.append_nil]; exact m) F
  · exact wNewF F fun p H' F' => k p H' _ (.cons _ (.refl _)) List.mem_cons_self F'
theorem wListSq (hq : SeqIs L v (some xs)) (F : Fx H L) (k : ∀ p H', Fx H' (.ob p (.lst xs) :: L) → Q (.ref p) H') : rList K [v] H Q := by
  cases hq with
  | lst m => exact wListL (F.lst m) F k
  | tup m => exact wListT (F.tup m) F k
end
theorem units1 {n : Nat} {A : Around} (hr : Room (n + 1) A) : A.units + 1 < cLine := by have := hr.units; omega
theorem sum_rep (b : Int) : ∀ n : Nat, (List.replicate n b).sum = n * b
  | 0 => by simp
  | n + 1 => by rw [List.replicate_succ, List.sum_cons, sum_rep b n, Int.natCast_add, Int.add_mul]; omega
/-- what is no list, past a list -/
theorem mem_skip {L : List En} {a b : Addr} {o : HO} {xs : List V} (h : En.ob a o ∈ (En.ob b (.lst xs) :: L)) (n : ∀ ys, o ≠ .lst ys) : En.ob a o ∈ L := by
  rcases List.mem_cons.mp h with h | h
  · injection h with _ h
    exact absurd h (n xs)
  · exact h
theorem nodup_le : ∀ {l m : List Int}, l.Nodup → (∀ x ∈ l, x ∈ m) → l.length ≤ m.length
  | [], _, _, _ =>
        Nat.zero_le _
  | a :: l, m, hn, h => by
    have hm := h a List.mem_cons_self
    have h1 := nodup_le (l := l) (m := m.erase a) (List.nodup_cons.mp hn).2 fun x hx => (List.mem_erase_of_ne (fun e : x = a => (List.nodup_cons.mp hn).1 (by rw [← e]; exact hx))).mpr (h x (List.mem_cons_of_mem _ hx))
    rw [List.length_erase_of_mem hm] at h1
    have := List.length_pos_of_mem hm
    rw [List.length_cons]
    omega
end Z

set_option Elab.async false
set_option linter.all false
set_option maxRecDepth 100000
set_option maxHeartbeats 2000500
/-! ### dicts with numbers as keys -/
namespace Z
open PySem PySem.Spec
      PyProof.Rows L2
section
variable {X : Cx} {K : PySem.W.Frag} {H : Hp} {L : List En} {a : Addr} {Q : VK} {kvs : List (Key × V)}
theorem hu1 {X : Cx} {k : Nat} (hr : Room k X.A) : X.A.units + 1 < cLine := by have := hr.un; omega
def rInD : R2 := fun x y H Q => ∃ a kvs k, y = .ref a ∧ x = kV k ∧ H a = some (.dK kvs) ∧ Q (.bl (valV kvs k).isSome) H
theorem op_inD (hu : X.A.units + 1 < cLine) : OpR X (compareOp .In) rInD := by
  intro pins s σ H x
        y v u Q I rx ry h
  obtain ⟨a, kvs, k, rfl, rfl, e, q⟩ := h
  obtain rfl : u =
        Value.ref a := ry
  exact d_in hu I (DGet.k e) rx fun s3 I3 => ⟨.bl _, H, I3, rfl, q⟩
theorem wInD {n : Int} (F : Fx H L) (m : En.ob a (.dK kvs) ∈ L) (h : Q (.bl (valV kvs (.inl n)).isSome) H) : rInD (.int n) (.ref a) H Q :=
  ⟨a, kvs, .inl n, rfl, rfl, F.get m, h⟩
/-- the dict of a comprehension, at its turn i -/
def DcP (D : Addr) (R : Nat → List (Key × V) → List En → Prop) (i : Nat) (H : Hp) : Prop := ∃ kvs L, Fx H (.ob D (.dK kvs) :: L) ∧ R i kvs L
def DcPut (D : Addr) (R : Nat → List (Key × V) → List En → Prop) (i : Nat) (y z : V) (H : Hp) : Prop :=
  ∃ kvs k, y = kV k ∧ H D = some (.dK kvs) ∧ kvs.length < sizeLine ∧ DcP D R (i + 1) (upd H D (.dK (putK kvs k z)))
theorem dcPut {D : Addr} {R : Nat → List (Key × V) → List En → Prop} {i : Nat} {n : Int} {z : V} (F : Fx H (.ob D (.dK kvs) :: L)) (l : kvs.length < sizeLine) (r : R (i + 1) (putK kvs (.inl n) z) L) : DcPut D R i (.int n) z H :=
  ⟨kvs, .inl n, rfl, F.get List.mem_cons_self, l, _, L, F.put .head, r⟩
variable {J : It} {n : Nat} {G : Hp → Prop} {Y : Nat → Hp → V → Hp → Prop} {g : TG} {tt : TT} {tk tv : TE} {vs : List Nat} {σ : L2.St}
theorem wDc {wi : TI} (h : wi σ H fun J H1 => ∀ D, H1 D = none → ∃ W : Nat → Nat → Hp → Prop, (∃ m, W 0 m (upd H1 D (.dK []))) ∧ ∀ i m H, W i m H →
  (J.stop i H ∧ Q (.ref D) H) ∨ (J.go i H ∧ ∃ Nx : Hp → Prop, (∀ H', Nx H' → ∃ m', m' < m ∧ W (i + 1) m' H')
        ∧ ∀ x H', J.yld i H x H' → g x (wipe σ vs) H' fun σ2 H2 => wipe σ2 vs = wipe σ vs ∧ tt σ2 H2 fun b H3 =>
    if b = true then tk σ2 H3 fun y H4 => tv σ2 H4 fun z H5 => ∃ kvs k, y = kV k ∧ H5 D = some (.dK kvs) ∧ kvs.length < sizeLine ∧ Nx (upd H5 D (.dK (putK kvs k z))) else Nx H3)) : tDc wi g tt tk tv vs σ H Q := h
theorem wDcW {QD : Addr → Hp → Prop} (w : Walk J n G Y) (F : Fx H L) (R : Nat → List (Key × V) → List En → Prop) (h0 : R 0 [] L) (hG : ∀ i kvs L' D H', R i kvs L' → Fx H' (.ob D (.dK kvs) :: L') → G H')
    (hs : ∀ i x D H' H'' kvs L', i < n → R i kvs L' → Fx H' (.ob D (.dK kvs) :: L') → Y i H' x H'' → g x (wipe σ vs) H'' fun σ2 H2 => wipe σ2 vs = wipe σ vs ∧ tt σ2 H2 fun b H3 =>
      if b = true then tk σ2 H3 fun y H4 => tv σ2 H4 fun z H5 => DcPut D R i y z H5 else DcP D R (i + 1) H3)
    (hd : ∀ D kvs L' H', Fx H' (.ob D (.dK kvs) :: L') → R n kvs L' → QD D H') :
    ∀ D, H D = none → ∃ W : Nat → Nat → Hp → Prop, (∃ m, W 0 m (upd H D (.dK []))) ∧ ∀ i m H, W i m H →
  (J.stop i H ∧ QD D H) ∨ (J.go i H ∧ ∃ Nx : Hp → Prop, (∀ H', Nx H' → ∃ m', m' < m ∧ W (i + 1) m' H') ∧ ∀ x H', J.yld i H x H' → g x (wipe σ vs) H' fun σ2 H2 => wipe σ2 vs = wipe σ vs ∧ tt σ2 H2 fun b H3 =>
    if b = true then tk σ2 H3 fun y H4 => tv σ2 H4 fun z H5 => ∃ kvs k, y = kV k ∧ H5 D = some
          (.dK kvs) ∧ kvs.length < sizeLine ∧ Nx (upd H5 D (.dK (putK kvs k z))) else Nx H3) := by
  intro D hD
  refine ⟨fun i m H => m = n - i ∧ i ≤ n ∧ DcP D R i H, ⟨n, by simp, Nat.zero_le _, [], L, F.new hD, h0⟩, ?_⟩
  rintro i m H ⟨rfl, hi, kvs, L', F', r⟩
  have q := hG i kvs L' D H r F'
  by_cases hlt : i < n
  · exact .inr ⟨w.goes i H hlt q, DcP D R (i + 1), fun H' p' => ⟨n - (i + 1), by omega, rfl, hlt, p'⟩, fun x H' y => hs i x D H H' kvs L' hlt r F' (w.yields i H x H' hlt q y)⟩
  · have e : i = n := by omega
    subst e
    exact .inl ⟨w.stops H q, hd D kvs L' H F' r⟩
end
/-! ### name = {..} on one line, the name a local -/
section
variable {X : Cx}
theorem ps_setDc {i : Nat} {y : Str} {py : Pos} {kx vx tg iter : Expr} {ifs : List Expr} {scope : Scope} {own : List (Str × Nat)} {pos spos : Pos} {wi : TI} {g : TG} {tt : TT} {tk tv : TE} (hc : X.calm = true) (hN : X.N.Nodup) (hy : X.N[i]? = some y) (hyl : X.env.scope.names.lookup y = some .local)
    (hsw : swapsWith (.DictComp kx vx [⟨tg, iter, ifs, 0⟩] scope pos) (some (.Name y py)) spos.line X.env = pure true) (hi : PI X tg iter wi) (ok : BlkOk X.N X.env.scope scope own)
    (hg : ∀ (s : Shared) (H : Hp) (C : Addr) (cl : List (Str × Addr)) (fp : List Addr), PG (X.blk s H scope (compEnvC scope cl C X.env) fp) tg g)
          (ht : ∀ (s : Shared) (H : Hp) (C : Addr) (cl : List (Str × Addr)) (fp : List Addr), PTs (X.blk s H scope (compEnvC scope cl C X.env) fp) ifs tt)
    (hk : ∀ (s : Shared) (H : Hp) (C : Addr) (cl : List (Str × Addr)) (fp :
          List Addr), PE (X.blk s H scope (compEnvC scope cl C X.env) fp) kx tk)
    (he : ∀ (s : Shared) (H : Hp) (C : Addr) (cl : List (Str × Addr)) (fp : List Addr), PE (X.blk s H scope
          (compEnvC scope cl C X.env) fp) vx tv) (hs : ∀ x, foldedSetIterable iter X.env x = pure x := by intro _; rfl) :
    PS X (.Assign [.Name y py] (.DictComp kx vx [⟨tg, iter, ifs, 0⟩] scope pos) spos) (tAsg (tDc wi g tt tk tv (own.map (·.2))) (gName i)) := by
  refine ⟨fun pins
        s σ H D I h => ?_⟩
  rw [exec_Assign_Name_used
        _ _ _ _ hsw]
  refine wpAny_bind
        (wpAny_standAt (wpAny_bind ?_))
  show wpAny _ X.A (do let _ ← comprehension (.DictComp kx vx [⟨tg, iter, ifs, 0⟩] scope pos) scope X.env (firstIterPos [⟨tg, iter, ifs, 0⟩] pos) newDict false (eval iter X.env) (some (assign (.Name y py) X.env))) _ _ s
  have h : tDc wi g tt tk tv (own.map (·.2)) σ H (fun x H1 => gName i x σ H1 D.nx) := h
  refine wpAny_bind (thn (dc_core (Qf := fun _ s' => SP X pins D .next s') hc hN I hi ok hg ht hk he hs h fun L C s' m H' I' q hn f => ?_) fun _ s' hq => wpAny_pure (wpAny_pure hq))
  show wpAny _ _ (assign (.Name
        y py) X.env (.ref L)) _ _ _
  refine wpAny_assign_Name (store_ok2 (v := V.ref L) I' hN hy
        (.inl hyl) rfl (fun s2 I2 ⟨a, sb, ha⟩ => ?_) (.inr hyl))
  obtain ⟨f0, f1, f2,
        f3, f4, f5⟩ := f
  have haC : C ≠ a := by
    rcases ha with z | z
    · rw [z]; exact f1
    · exact fun e =>
          f4 y a z e.symm
  refine ⟨m, hn.sameBut sb
        haC, fun h3 sb3 => ?_⟩
  exact ⟨_, H', I2.turned (t' := s2.toks) (fun b o
        hb e => (sb3.2 b hb).trans e) f0 f1 f3 f4 f5, q⟩
theorem sw_trueD {kx vx : Expr} {gs : List Comprehension} {scope : Scope} {pos py : Pos} {y : Str} {l : Nat} {env : Env} (hk : env.scope.kind = .function) (hy : env.scope.names.lookup y = some .local) (hl : (py.line == pos.line) = true)
    (ha : (scope.names.any fun (n, k) => n == y && (k == .local || k == .cell)) = false) : swapsWith (.DictComp kx vx gs scope pos) (some (.Name y py)) l env = pure true := by
  have ky : env.kindOf
        y = some .local := hy
  have hb : env.blockKind = .function :=
        by unfold Env.blockKind; rw [hk]; rfl
  unfold swapsWith
  simp only [hb, ky,
        ha, Expr.pos, hl]
  rfl
end
/-! ### the dict of the numbers of a row -/
/-- which numbers are keys -/
def KeysOf (kvs : List (Key × V)) (ns : List Int) : Prop := (∀ k : Int, (valV kvs (.inl k)).isSome = decide (k ∈ ns)) ∧ kvs.length ≤ ns.length
theorem KeysOf.nil : KeysOf [] [] := ⟨fun k => by simp [valV_nil], Nat.le_refl _⟩
theorem KeysOf.snoc {kvs : List (Key × V)} {ns : List Int} {n : Int} {z : V} (h : KeysOf kvs ns) : KeysOf (putK kvs (.inl n) z) (ns ++ [n]) := by
  refine ⟨fun k => ?_, ?_⟩
  · rw [valV_put]
    by_cases e : k = n
    · subst e; simp
    · have e' : ¬ (Sum.inl k : Key) = Sum.inl n := fun h => e (Sum.inl.inj h)
      rw [if_neg e', h.1 k]
      simp [e]
  · have := length_putK kvs (.inl n) z
    have := h.2
    simp only [List.length_append, List.length_cons, List.length_nil]
    omega
section
variable {K : PySem.W.Frag} {H : Hp} {L : List En} {a : V} {xs : List V} {Q : VK} {g : TG} {tt : TT} {tk tv : TE} {vs : List Nat} {σ : L2.St}
theorem wDcS {QD : Addr → Hp → Prop} (hq : SeqIs L a (some xs)) (F : Fx H L) (R : Nat → List (Key × V) → List En → Prop) (h0 : R 0 [] L) (keep : ∀ i kvs L', R i kvs L' → ∀ e ∈ L, e ∈ L')
    (hs : ∀ i x D H' kvs L', xs[i]? = some x → R i kvs L' → Fx H' (.ob D (.dK kvs) :: L') → g x (wipe σ vs) H' fun σ2 H2 => wipe σ2 vs = wipe σ vs ∧ tt σ2 H2 fun b H3 =>
      if b = true then tk σ2 H3 fun y H4 => tv σ2 H4 fun z H5 => DcPut D R i y z H5 else DcP D R (i + 1) H3)
    (hd : ∀ D kvs L' H', Fx H' (.ob D (.dK kvs) :: L') → R xs.length kvs L' → QD D H') :
    GoS K a H fun J H1 => ∀ D, H1 D = none → ∃ W : Nat → Nat → Hp → Prop, (∃ m, W 0 m (upd H1 D (.dK []))) ∧ ∀ i m H, W i m H →
  (J.stop i H ∧ QD D H) ∨ (J.go i H ∧ ∃ Nx : Hp → Prop, (∀ H', Nx H' → ∃ m', m' < m ∧ W (i + 1) m' H') ∧ ∀ x H', J.yld i H x H' → g x (wipe σ vs) H' fun σ2 H2 => wipe σ2 vs = wipe σ vs ∧ tt σ2 H2 fun b H3 =>
    if b = true then tk σ2 H3 fun y H4 => tv σ2 H4 fun z H5 => ∃ kvs k, y = kV k ∧ H5 D = some
          (.dK kvs) ∧ kvs.length < sizeLine ∧ Nx (upd H5 D (.dK (putK kvs k z))) else Nx H3) := by
  cases hq with
  | lst m =>
    refine wGoSL (F.lst m) (wDcW (walk_list (K := K) (xs := xs)) F R h0 (fun i kvs L' D H' r F' => F'.lst (List.mem_cons_of_mem _ (keep _ _ _ r _ m))) ?_ hd)
    rintro i x D H' H'' kvs L' _ r F' ⟨rfl, e⟩
    exact hs i x D H'' kvs L' e r F'
  | tup m =>
    refine wGoST (F.tup m) (wDcW (walk_tup (K := K) (xs := xs)) F R h0 (fun i kvs L' D H' r F' => F'.tup (List.mem_cons_of_mem _ (keep _ _ _ r _ m))) ?_ hd)
    rintro i x D H' H'' kvs L' _ r F' ⟨rfl, e⟩
    exact hs i x D H'' kvs L' e r F'
end
theorem KeysOf.snocT {kvs : List (Key × V)} {ns : List Int} {i : Nat} {n : Int} {z : V} (h : KeysOf kvs (ns.take i)) (e : ns[i]? = some n) : KeysOf (putK kvs (.inl n) z) (ns.take (i + 1)) := by
  have := h.snoc (n := n) (z := z)
  rw [List.take_add_one, e]
  exact this
theorem KeysOf.low {kvs : List (Key × V)} {ns : List Int} {i m : Nat} (h : KeysOf kvs (ns.take i)) (l : ns.length ≤ m) (hm : m < 1000000) : kvs.length < sizeLine := by
  have := h.2
  rw [List.length_take] at this
  have := line_big
  omega
theorem wEqBB {K : PySem.W.Frag} {H : Hp} {Q : VK} {x y : Bool} (h : Q (.bl (x == y)) H) : rOr rEq (rEqD K) (.bl x) (.bl y) H Q := .inl ⟨rfl, by rw [dec_bl]; exact h⟩
theorem wNeBB {K : PySem.W.Frag} {H : Hp} {Q : VK} {x y : Bool} (h : Q (.bl (!(x == y))) H) : rOr rNe (rNeD K) (.bl x) (.bl y) H Q := .inl ⟨rfl, by rw [dec_bl]; exact h⟩
theorem filt_take {ns : List Int} {i : Nat} {u : Int} (e : ns[i]? = some u) (q : Int → Bool) : (ns.take (i + 1)).filter q = (ns.take i).filter q ++ if q u = true then [u] else [] := by
  rw [List.take_add_one, e, List.filter_append]
  congr 1
  cases h : q u <;> simp [h]
section
variable {K : PySem.W.Frag} {H : Hp} {L : List En} {a : V} {xs : List V} {Q : VK} {g : TG} {tt : TT} {te : TE} {vs : List Nat} {σ : L2.St}
theorem wLcE {QD : Addr → Hp → Prop} (hq : SeqIs L a (some xs)) (F : Fx H L) (R : Nat → List V → List En → Prop) (h0 : R 0 [] L) (keep : ∀ i acc L', R i acc L' → ∀ e ∈ L, e ∈ L')
    (hs : ∀ i x T D H' acc L', xs[i]? = some x → R i acc L' → Fx H' (.ob T (.tup [.int (i : Nat), x]) :: .ob D (.lst acc) :: L') → g (.ref T) (wipe σ vs) H' fun σ2 H2 => wipe σ2 vs = wipe σ vs ∧ tt σ2 H2 fun b H3 =>
      if b = true then te σ2 H3 fun y H4 => LcPut D R i y H4 else LcP D R (i + 1) H3)
    (hd : ∀ D acc L' H', Fx H' (.ob D (.lst acc) :: L') → R xs.length acc L' → QD D H') :
    GoE K [a] H fun J H1 => ∀ D, H1 D = none → ∃ W : Nat → Nat → Hp → Prop, (∃ m, W 0 m (upd H1 D (.lst []))) ∧ ∀ i m H, W i m H →
  (J.stop i H ∧ QD D H) ∨ (J.go i H ∧ ∃ Nx : Hp → Prop, (∀ H', Nx H' → ∃ m', m' < m ∧ W (i + 1) m' H') ∧ ∀ x H', J.yld i H x H' → g x (wipe σ vs) H' fun σ2 H2 => wipe σ2 vs = wipe σ vs ∧ tt σ2 H2 fun b H3 =>
    if b = true then te σ2 H3 fun y H4 => ∃ acc, H4 D = some (.lst acc) ∧
          acc.length < sizeLine ∧ Nx (upd H4 D (.lst (acc ++ [y]))) else Nx H3) := by
  cases hq with
  | @lst p _ m =>
    refine ⟨p, rfl, .inl ⟨xs, F.lst m, wLcW (walk_enum (K := K) (xs := xs)) F R h0 (fun i acc L' D H' r F' => F'.lst (List.mem_cons_of_mem _ (keep _ _ _ r _ m))) ?_ hd⟩⟩
    rintro i x D H' H'' acc L' _ r F' ⟨T, u, v, rfl, hT, rfl, e1, e2⟩
    cases e1
    exact hs i v T D _ acc L' e2 r (F'.new hT)
  | @tup p _ m =>
    refine ⟨p, rfl, .inr ⟨xs, F.tup m, wLcW (walk_enumT (K := K) (xs := xs)) F R h0 (fun i acc L' D H' r F' => F'.tup (List.mem_cons_of_mem _ (keep _ _ _ r _ m))) ?_ hd⟩⟩
    rintro i x D H' H'' acc L' _ r F' ⟨T, u, v, rfl, hT, rfl, e1, e2⟩
    cases e1
    exact hs i v T D _ acc L' e2 r (F'.new hT)
end
/-! ### lists of truths, compared -/
section
variable {K : PySem.W.Frag} {H : Hp} {L : List En} {a b : Addr} {xs ys : List Bool} {Q : VK}
theorem DtA.bls : ∀ xs : List Bool, DtA L (xs.map V.bl) (xs.map PyData.bool)
  | [] => .nil
  | x :: r => .cons (.bl x) (DtA.bls r)
theorem ShA.bls (xs : List Bool) : ShA (xs.map PyData.bool) 0 := ShA.map fun x _ => ⟨rfl, Nat.le_refl _⟩
theorem eqv_bls : ∀ xs ys : List Bool, PyData.eqvAll (xs.map PyData.bool) (ys.map PyData.bool) = decide (xs = ys)
  | [], [] => rfl
  | [], _ :: _ => rfl
  | _ :: _, [] => rfl
  | x :: xs, y :: ys => by
    show (PyData.eqv (.bool x) (.bool y) && PyData.eqvAll (xs.map PyData.bool) (ys.map PyData.bool)) = _
    rw [eqv_bls xs ys]
    have e : PyData.eqv (.bool x) (.bool y) = (x == y) := by cases x <;> cases y <;> rfl
    rw [e]
    cases x <;> cases y <;> simp
theorem wEqBL (F : Fx H L) (m : En.ob a (.lst (xs.map V.bl)) ∈ L) (n : En.ob b (.lst (ys.map V.bl)) ∈ L) (h : Q (.bl (decide (xs = ys))) H) : rOr rEq (rEqD K) (.ref a) (.ref b) H Q := by
  refine wEqD F (.lst m (DtA.bls xs)) (.lst n (DtA.bls ys)) (Sh.lst (ShA.bls xs)).ok (Sh.lst (ShA.bls ys)).ok ?_
  have e : PyData.eqv (.list (xs.map PyData.bool)) (.list (ys.map PyData.bool)) = decide (xs = ys) := eqv_bls xs ys
  rw [e]
  exact h
end
/-! ### x in d, an own __contains__ -/
structure OwnInF (K : PySem.W.Frag) (C f : Addr) : Prop where
  con : PySem.W.findIn K (.ref C) "__contains__" = some (some (.ref f))
  fn : PySem.W.typeIn K (.ref f) = some (.type "function")
def rInOwn (K : PySem.W.Frag) (C : Addr) (sp : Sp) : R2 := fun x y H Q => ∃ a dx fs, y = .ref a ∧ H a = some (.ins C dx fs) ∧ sp [.ref a, x] H (fun v H' => ∃ b : Bool, v = .bl b ∧ Q (.bl b) H') E0
section
variable {prog : Program} {w : World} {A : Around} {E : Value → Shared → Prop} {s : Shared} {K : PySem.W.Frag} {x C f : Addr} {ox : Obj} {od : Option Obj} {u : Value}
theorem contains_fn {Q : Value → Shared → Prop} (X : K.In s.heap) (I : PySem.W.InstAt s.heap x ox C od) (hs : PySem.W.findIn K (.ref C) "__contains__" = some (some (.ref f))) (hf : PySem.W.typeIn K (.ref f) = some (.type "function"))
    (h : wpAny (model prog w) A (call (.ref f) [.ref x, u]) (fun v s' => ∃ b, v = .bool b ∧ Q (.bool b) s') E s) : wpAny (model prog w) A (compareOp .In u (.ref x)) Q E s := by
  show wpAny _ _ (do return .bool (← contains (.ref x) u)) Q E s
  refine wpAny_bind ?_
  unfold contains
  refine wpAny_holding ?_
  refine wpAny_bind (wpAny_bind (I.type.here ((PySem.W.looks_findIn X hs).here ?_)))
  show wpAny _ _ (if (some (Value.ref f) == some Value.none) = true then _ else _) _ E s
  rw [if_neg (show ¬ ((some (Value.ref f) == some Value.none) = true) from Bool.false_ne_true)]
  refine wpAny_bind ?_
  unfold callSpecialUnlessNone?
  refine wpAny_bind (wpAny_bind (I.type.here ((PySem.W.looks_findIn X hs).here (wpAny_holding (wpAny_bind ((PySem.W.bind_fn X _ hf).here ?_))))))
  show wpAny _ _ (if (Value.ref f == Value.none) = true then _ else _) _ E s
  rw [if_neg (show ¬ ((Value.ref f ==
        Value.none) = true) from Bool.false_ne_true)]
  refine wpAny_bind (wpAny_mono h (fun v s' z => ?_) fun _ _ e => e)
  obtain ⟨b, rfl, q⟩ := z
  exact wpAny_pure (wpAny_truthy_bool (wpAny_pure q))
end
section
variable {X : Cx} {k : Nat} {C f : Addr} {fd : FuncData} {ps : List Str} {sp : Sp}
theorem op_inOwn (F : FnOk X.prog X.w X.K X.mg X.base CX0 k f fd ps sp) (q : OwnInF X.K C f) (hb : Binds X.K fd ps []) (hr : Room k X.A) : OpR X (compareOp .In) (rInOwn X.K C sp) := by
  intro pins s σ H x
        y v u Q I rx ry h
  obtain ⟨a, dx, fs, rfl, ha, hsp⟩ := h
  obtain rfl : u =
        Value.ref a := ry
  obtain ⟨mA, J, _⟩
        := ins_get I.hok ha
  obtain ⟨od, J, _⟩ := J.look
  refine contains_fn I.kIn J q.con q.fn (wpAny_mono (own_call F hb hr rfl I (show RelV (V.ref a) (Value.ref a) from rfl) rx hsp) (fun v s' z => ?_) fun _ _ e => e)
  obtain ⟨v', H', I', rv, b, eb, hq⟩ := z
  subst eb
  obtain rfl : v = Value.bool b := rv
  exact ⟨b, rfl, .bl b, H', I', rfl, hq⟩
def InO (P : Program) (w : World) (K : PySem.W.Frag) (mg : Str → Option Value) (base : Heap) (C : Addr) (k : Nat) (ps : List Str) (sp : Sp) : Prop := ∃ (f : Addr) (fd : FuncData), OwnInF K C f ∧ Binds K fd ps [] ∧ FnOk P w K mg base CX0 k f fd ps sp
theorem op_inO (O : InO X.prog X.w X.K X.mg X.base C k ps sp) (hr : Room k X.A) : OpR X (compareOp .In) (rInOwn X.K C sp) := by
  obtain ⟨f, fd, q, b, F⟩ := O
  exact op_inOwn F q b hr
theorem wInOwn {K : PySem.W.Frag} {H : Hp} {Q : VK} {a dx : Addr} {x : V} {fs : List (Str × V)} (ha : H a = some (.ins C dx fs)) (h : sp [.ref a, x] H (fun v H' => ∃ b : Bool, v = .bl b ∧ Q (.bl b) H') E0) : rInOwn K C sp x (.ref a) H Q := ⟨a, dx, fs, rfl, ha, h⟩
/-! ### min of three, sorted of any number of numbers, a range from its end -/
def rMin3 : List V → Hp → VK → Prop := fun vs H Q => ∃ i j k : Int, vs = [.int i, .int j, .int k] ∧ Q (.int (min (min i j) k)) H
theorem cr_min3 (hc : X.calm = true) : CallR X (.builtin "min") rMin3 := by
  intro pins s σ
        H vs us Q I r h
  obtain ⟨i, j, k, rfl, q⟩ := h
  refine call_min3Nu hc pins s σ H _ us Q I r ⟨.int i, .int j, .int k, .int (min (min i j) k), rfl, ?_, q⟩
  have two : ∀ a b : Int, nuMin2 (.int a) (.int b) = some (.int (min a b)) := fun a b => by
    show some (if decide (b < a) = true then V.int b else V.int a) = _
    by_cases h : b < a
    · rw [if_pos (decide_eq_true h), Int.min_eq_right (by omega)]
    · rw [if_neg (by simpa using h), Int.min_eq_left (by omega)]
  show (nuMin2 (.int i) (.int j)).bind (fun m => nuMin2 m (.int k)) = _
  rw [two]
  exact two _ _
theorem wMin3 {i j k : Int} {H : Hp} {Q : VK} (h : Q (.int (min (min i j) k)) H) : rMin3 [.int i, .int j, .int k] H Q := ⟨i, j, k, rfl, h⟩
theorem wSortedI {K : PySem.W.Frag} {H : Hp} {L : List En} {Q : VK} {a : Addr} {ns : List Int} (s : SqL K H a (ns.map V.int)) (F : Fx H L)
    (k : ∀ (ns' : List Int) p H', ns'.Perm ns → ns'.Pairwise (· ≤ ·) → Fx H' (.ob p (.lst (ns'.map V.int)) :: L) → Q (.ref p) H') : rSortedI K [.ref a] H Q :=
  ⟨a, ns, rfl, s, fun ns' p hp hs hn => k ns' p _ hp hs (F.new hn)⟩
def GoRev (x : V) (H : Hp) (R : It → Hp → Prop) : Prop := ∃ n : Int, x = .int n ∧ -(2 ^ 62) ≤ (0 : Int) ∧ (0 : Int) < 2 ^ 62 ∧ -(2 ^ 62) ≤ n ∧ n < 2 ^ 62 ∧ R (Itc (0 + (((n - 0).toNat : Nat) : Int) - 1) (-1) (n - 0).toNat) H
theorem wIRevR {σ : L2.St} {H : Hp} {RI : It → Hp → Prop} {ta : TE} (h : ta σ H fun x H1 => GoRev x H1 RI) : iRevR (tRg1 ta) σ H RI := h
theorem wGoRev {n : Int} {H : Hp} {RI : It → Hp → Prop} (h0 : 0 ≤ n) (h1 : n < 2 ^ 62) (h : RI (Itc (n - 1) (-1) n.toNat) H) : GoRev (.int n) H RI := by
  refine ⟨n, rfl, by omega, by omega, by omega, h1, ?_⟩
  have e : (0 : Int) + (((n - 0).toNat : Nat) : Int) - 1 = n - 1 := by omega
  have e2 : (n - 0).toNat = n.toNat := by omega
  rw [e, e2]
  exact h
end
end Z
namespace RZ
open PySem L2
def intV (x : V) : Int := match x with | .int i => i | _ => 0
theorem intV_map (ns : List Int) : (ns.map V.int).map intV = ns := by
  rw [List.map_map]
  exact List.map_id'' (fun _ => rfl) ns
theorem putF_len (f : Str) (v : V) : ∀ l : List (Str × V), (putF f v l).length ≤ l.length + 1
  | [] => Nat.le_refl _
  | (g, u) :: r => by
    have ih := putF_len f v r
    unfold putF
    split
    · exact Nat.le_succ _
    · exact Nat.succ_le_succ ih
theorem putF_le {f : Str} {v : V} {l : List (Str × V)} {n : Nat} (h : l.length ≤ n) : (putF f v l).length ≤ n + 1 := Nat.le_trans (putF_len f v l) (Nat.succ_le_succ h)
end RZ

set_option Elab.async false
set_option linter.all false
set_option maxRecDepth 100000
set_option maxHeartbeats 2000500
/-! ### min of a list with default=None -/
namespace PySem
section
variable {prog : Program} {w : World} {A : Around} {R : Result → Shared → Prop} {E : Value → Shared → Prop} {s : Shared} {I S : Addr} {fp wr : List Addr} {n : Nat} {P : Nat → Value → Prop} {St : Nat → Heap → Prop} {d : Value}
theorem zf_args_minD (a v : Value) : argsOk "min" ⟨[a], [(Str.ofString "default", v)]⟩ := by unfold argsOk; kernel_rfl
theorem zcall_kw {id : String} {b : Builtin} {args : List Value} {kw : List (Str × Value)} {Q : Value → Shared → Prop} (hk : builtinKind id = none) (hp : plainId id = true) (hb : entryFor table id = some b) (ha : argsOk id ⟨args, kw⟩)
    (hc : wpAny (model prog w) A.in1 (b ⟨args, kw⟩) (fun fin s' => ∃ c', fin = .again c' ∧ c'.quiet = true ∧ codeAny (model prog w) A c' (fun r s' => ∃ v, r = .ok (.ret v) ∧ Q v s') s') E s) : wpAny (model prog w) A (call (.builtin id) args kw) Q E s := by
  refine wpAny_call
        (codeAny_call_builtin hp hb ?_)
  have fin := wpAny_mono hc (Q' := fun fin s' => match fin with
      | .done f => (match (Except.ok f : Result) with
        | .ok (.ret v) => Q v s'
        | .ok _ => False
        | .error e => E e s')
      | .again c' => c'.quiet = true ∧ codeAny (model prog w) A c' (fun r s' => match r with
        | .ok (.ret v) => Q v s'
        | .ok _ => False
        | .error e => E e s') s') (fun fin s' z => by
    obtain ⟨c', rfl, q, z⟩ := z
    exact ⟨q, codeAny_mono z fun r s2 y => by obtain ⟨v, rfl, y⟩ := y; exact y⟩) fun _ _ e => e
  simp only
        [checkBuiltinCall, hk]
  cases sg : Manifest.signature? id with
  | none => exact wpAny_pure fin
  | some g =>
    have h2 : Bind.checkArgs id g ⟨args, kw⟩ = pure () := by simpa only [argsOk, sg] using ha
    simp only [h2]
    exact wpAny_pure fin
/-- min's loop, at its turn j: nothing found yet, or the best of the first j -/
theorem zmin_loop (W : Walks prog w A.in1 I fp wr n P St) (bt : Nat → Nat → Bool) (hcmp : CmpOf prog w A.in1 .Lt P bt) (hSf : S ∉ fp) : ∀ (k j : Nat) (s : Shared) (its : Array Value) (c : Nat), n - j = k → j ≤ n → St j s.heap →
    ((its = #[] ∧ j = 0) ∨ ∃ vb, its = #[vb, vb] ∧ 0 < j ∧ P (argBest bt (j - 1)) vb) → s.heap.get? S = some { cls := .type "list", dict := none, data := .seq its c, slots := #[] } →
    (∀ v h' tk, (n = 0 ∧ v = d ∨ 0 < n ∧ P (argBest bt (n - 1)) v) → (∀ b o, b ∉ wr → b ≠ S → s.heap.get? b = some o → h'.get? b = some o) → R (.ok (.ret v)) { s with heap := h', toks := tk }) →
    codeAny (model prog w) A (.builtin "min.loop" ⟨[.ref I, .none, .ref S], [("default", d)]⟩) R s := by
  have hSw : S ∉ wr :=
        fun h => hSf (W.sub _ h)
  have nm : (toString "min" ++ toString ".loop" : String) = "min.loop" := by decide
  intro k
  induction k with
  | zero =>
    intro j s its c hk hj hst hits hS hR
    obtain rfl : j = n := by omega
    refine codeAny_builtin
          F.entry_min_loop ?_
    rw [Around.under_plainId
          F.plain_min_loop _]
    show wpAny _ A.in1 (seqItems?
          (.ref S) >>= _) _ _ s
    refine wpAny_bind
          (wpAny_seqItems hS rfl ?_)
    rcases hits with ⟨rfl, rfl⟩ | ⟨vb, rfl, j0, hP⟩
    · show wpAny _ A.in1 (tryCatch (pyNext (.ref I)) _ >>= _) _ _ s
      refine wpAny_bind (wpAny_tryCatch
            (W.done s _ _ hst fun h' tk hk' => ?_))
      show wpAny _ A.in1
            (rule _ >>= _) _ _ _
      refine wpAny_bind
            (wpAny_rule (wpAny_pure ?_))
      exact hR d _ tk (.inl ⟨rfl, rfl⟩) fun b o h1 _ e => hk' b o h1 e
    · show wpAny _ A.in1 (tryCatch (pyNext (.ref I)) _ >>= _) _ _ s
      refine wpAny_bind (wpAny_tryCatch
            (W.done s _ _ hst fun h' tk hk' => ?_))
      have hS' := hk' S _ hSw hS
      show wpAny _ A.in1 (updateSeq
            S (fun _ => #[]) >>= _) _ _ _
      refine wpAny_bind ?_
      refine wpAny_updateSeq hS' rfl
            (wpAny_bind (wpAny_letGo (wpAny_pure ?_)))
      exact hR vb _ tk (.inr ⟨j0, hP⟩) fun b o h1 h2 e => (Heap.get?_update_other _ _ (Ne.symm h2)).trans (hk' b o h1 e)
  | succ k ih =>
    intro j s its c hk hj hst hits hS hR
    have lt : j < n := by omega
    refine codeAny_builtin
          F.entry_min_loop ?_
    rw [Around.under_plainId
          F.plain_min_loop _]
    show wpAny _ A.in1 (seqItems?
          (.ref S) >>= _) _ _ s
    refine wpAny_bind
          (wpAny_seqItems hS rfl ?_)
    rcases hits with ⟨rfl, rfl⟩ | ⟨vb, rfl, j0, hP⟩
    · show wpAny _ A.in1 (tryCatch (pyNext (.ref I)) _ >>= _) _ _ s
      refine wpAny_bind (wpAny_tryCatch (W.item 0 s _ _ lt hst fun v h' tk hPv hst' hk' => ?_))
      have hS' := hk' S _ hSw hS
      show wpAny _ A.in1 (updateSeq S
            (fun _ => #[v, v]) >>= _) _ _ _
      refine wpAny_bind ?_
      refine wpAny_updateSeq
            hS' rfl ?_
      rw [nm]
      refine wpAny_pure ⟨plainId_quiet F.plain_min_loop _, ih 1 _ #[v, v] _ (by omega) (by omega) (W.frame _ _ _ hst' fun b hb o e => (Heap.get?_update_other _ _ (fun h : S = b => hSf (by rw [h]; exact hb))).trans e) (.inr ⟨v, rfl, by omega, hPv⟩) (Heap.get?_update_self _ hS' rfl) fun v2 h2 tk2 q2 f2 => ?_⟩
      exact hR v2 h2 tk2 q2 fun b o h1 h3 e => f2 b o h1 h3 ((Heap.get?_update_other _ _ (Ne.symm h3)).trans (hk' b o h1 e))
    · have ej : j - 1 + 1 = j := by omega
      show wpAny _ A.in1 (tryCatch
            (pyNext (.ref I)) _ >>= _) _ _ s
      refine wpAny_bind (wpAny_tryCatch (W.item j s _ _ lt hst fun v h' tk hPv hst' hk' => ?_))
      have hS' := hk' S _ hSw hS
      show wpAny _ A.in1 (tryCatch (holding [v, v]
            (richCompare .Lt v vb >>= _)) _ >>= _) _ _ _
      refine wpAny_bind (wpAny_tryCatch (wpAny_holding (wpAny_bind (hcmp j (argBest bt (j - 1)) v vb _ _ _ hPv hP ?_))))
      refine wpAny_bind (wpAny_holding
            (wpAny_truthy_bool ?_))
      refine wpAny_bind
            (wpAny_letGo (wpAny_pure ?_))
      have best : argBest bt j = if bt j (argBest bt (j - 1)) = true then j else argBest bt (j - 1) := by
        conv => lhs; rw [← ej]
        rw [argBest, ej]
      cases hb : bt j (argBest bt (j - 1)) with
      | true =>
        rw [hb, if_pos rfl] at best
        simp only [if_true]
        refine wpAny_bind ?_
        refine wpAny_updateSeq hS' rfl
              (wpAny_bind (wpAny_letGo ?_))
        rw [nm]
        refine wpAny_pure ⟨plainId_quiet F.plain_min_loop _, ih (j + 1) _ #[v, v] _ (by omega) (by omega) (W.frame _ _ _ hst' fun b hb o e => (Heap.get?_update_other _ _ (fun h : S = b => hSf (by rw [h]; exact hb))).trans e) (.inr ⟨v, rfl, by omega, by rw [Nat.add_sub_cancel, best]; exact hPv⟩) (Heap.get?_update_self _ hS' rfl) fun v2 h2 tk2 q2 f2 => ?_⟩
        exact hR v2 h2 tk2 q2 fun b o h1 h3 e => f2 b o h1 h3 ((Heap.get?_update_other _ _ (Ne.symm h3)).trans (hk' b o h1 e))
      | false =>
        rw [hb, if_neg Bool.false_ne_true] at best
        simp only [Bool.false_eq_true,
              if_false]
        refine wpAny_bind
              (wpAny_letGo ?_)
        rw [nm]
        refine wpAny_pure ⟨plainId_quiet F.plain_min_loop _, ih (j + 1) _ #[vb, vb] _ (by omega) (by omega) hst' (.inr ⟨vb, rfl, by omega, by rw [Nat.add_sub_cancel, best]; exact hP⟩) hS' fun v2 h2 tk2 q2 f2 => ?_⟩
        exact hR v2 h2 tk2 q2 fun b o h1 h3 e => f2 b o h1 h3 (hk' b o h1 e)
theorem zmin_list {l : Addr} {xs : Array (Int × Tok)} {Q : Value → Shared → Prop} (hh : A.handled = none) (hl : s.heap.IsList l (intItems xs))
    (h : ∀ v h' tk, (xs.size = 0 ∧ v = d ∨ 0 < xs.size ∧ (intItems xs)[argBest (fun i j => decide (numAt xs i < numAt xs j)) (xs.size - 1)]? = some v) → (∀ b o, s.heap.get? b = some o → h'.get? b = some o) → Q v { s with heap := h', toks := tk }) :
    wpAny (model prog w) A (call (.builtin "min")
          [.ref l] [(Str.ofString "default", d)]) Q E s := by
  have nm : (toString "min" ++ toString ".loop" : String) = "min.loop" := by decide
  refine zcall_kw F.kind_min F.plain_min F.entry_min (zf_args_minD _ _) ?_
  show wpAny _ A.in1 (Builtin.Builtins.bindParams "min" ["key",
        "default"] 0 ⟨[], [(Str.ofString "default", d)]⟩ >>= _) _ _ s
  refine wpAny_bind (wpAny_of_eq (show Builtin.Builtins.bindParams "min" ["key", "default"] 0 ⟨[], [(Str.ofString "default", d)]⟩ = pure [none, some d] from by first | rfl | kernel_rfl) ?_)
  refine wpAny_bind
        (wpAny_pure ?_)
  refine wpAny_bind (iter_intList hl fun s₂ e st hfp hlI => ?_)
  subst e
  refine wpAny_bind
        (wpAny_newObj_type ?_)
  have hSf : (s.heap.push { cls := .type "list_iterator", data := .fields #[.ref l, .int 0 0] }).objs.size ∉ [s.heap.objs.size, l] := fun hm => Nat.lt_irrefl _ (hfp _ hm)
  have W := Walks.list (prog := prog) (w := w) (A := A.in1) hh _ l hlI (intItems xs)
  rw [nm]
  refine wpAny_pure ⟨_, rfl, plainId_quiet F.plain_min_loop _, zmin_loop (d := d) W _ (CmpOf.ints_lt (numAt xs) (fun _ _ => intItems_at)) hSf _ 0 _ #[] _ rfl (Nat.zero_le _) (W.frame _ _ _ st fun b _ o e => Heap.get?_push_of_some _ e) (.inl ⟨rfl, rfl⟩) (Heap.get?_push_size _ rfl) fun v h' tk hP hk => ?_⟩
  refine ⟨v, rfl, h v h' tk (by simpa [intItems] using hP) (old_kept fun b o hb e => hk b o hb (Nat.ne_of_lt (Heap.lt_size e)) (Heap.get?_push_of_some _ e))⟩
end
end PySem
namespace Z
open PySem PySem.Spec
      PyProof.Rows L2
section
variable {X : Cx}
def rMinN (K : PySem.W.Frag) : List V → List V → Hp → VK → Prop := fun vs zs H Q => ∃ (a : Addr) (ns : List Int), vs = [V.ref a] ∧ zs = [.non] ∧ SqL K H a (ns.map V.int) ∧ (ns = [] → Q .non H) ∧ ∀ m, m ∈ ns → (∀ y, y ∈ ns → m ≤ y) → Q (.int m) H
theorem cr_minN (hc : X.calm = true) : CallRK X (.builtin "min") [Str.ofString "default"] (rMinN X.K) := by
  intro pins s σ H vs
        zs us ws Q I r rz h
  obtain ⟨a, ns, rfl, rfl, hs, q0, q⟩ := h
  obtain ⟨its, rv,
        hl, _⟩ := I.list hs
  obtain rfl := Vals.ref1 r
  obtain ⟨w1, rfl, e1⟩ : ∃ w1, ws = [w1] ∧ RelV .non w1 := by
    cases rz with
    | cons a b => cases b; exact ⟨_, rfl, a⟩
  obtain rfl : w1 =
        Value.none := e1
  have hi := rv.ints
  obtain ⟨xs, e⟩ :=
        hi.allInts.items
  have hn : numsOf (intItems xs).toList
        = ns := by rw [← e]; exact hi.numsOf
  rw [nums_intItems] at hn
  subst hn
  have hl' := hl.isList
  rw [e] at hl'
  refine zmin_list (I.ok.hd hc) hl' fun v h' tk hv hk => ?_
  rcases hv with ⟨h0, rfl⟩ | ⟨h0, hv⟩
  · refine ⟨.non, H, I.kept hk, rfl, q0 ?_⟩
    have : xs.toList = [] := by
      apply List.eq_nil_of_length_eq_zero
      rw [Array.length_toList]; exact h0
    rw [this]; rfl
  · obtain ⟨t, rfl⟩ := intItems_at hv
    obtain ⟨h1, h2⟩ := argBest_lt
          (numAt xs) (xs.size - 1)
    refine ⟨.int _, H, I.kept hk, ⟨_, rfl⟩, q _ ?_ fun y hy => ?_⟩
    · rw [numAt_eq]; exact PySem.getD_mem (by rw
          [List.length_map, Array.length_toList]; omega)
    · obtain ⟨j, hj, rfl⟩ := mem_getD hy
      rw [List.length_map,
            Array.length_toList] at hj
      rw [← numAt_eq];
            exact h2 j (by omega)
end
section
variable {K : PySem.W.Frag} {H : Hp} {Q : VK} {a : Addr} {ns : List Int} {σ : L2.St}
theorem wCKw {r : List V → List V → Hp → VK → Prop} {t tk : TA} (h : t σ H fun vs H1 => tk σ H1 fun zs H2 => r vs zs H2 Q) : tCKw r t tk σ H Q := h
theorem wMinN (s : SqL K H a (ns.map V.int)) (q0 : ns = [] → Q .non H) (q : ∀ m, m ∈ ns → (∀ y, y ∈ ns → m ≤ y) → Q (.int m) H) : rMinN K [.ref a] [.non] H Q := ⟨a, ns, rfl, rfl, s, q0, q⟩
end
end Z
namespace Z
open PySem PySem.Spec
      PyProof.Rows L2
section
variable {X : Cx}
/-! ### divmod of great numbers -/
def rDvm : List V → Hp → VK → Prop := fun xs H Q => ∃ i j, xs = [.int i, .int j] ∧ CDivP i j ∧ ∀ p, H p = none → Q (.ref p) (upd H p (.tup [.int (i / j), .int (i % j)]))
theorem cr_dvm : CallR X (.builtin "divmod") rDvm := call_divmodW
theorem divp_big {i j : Int} (i0 : 0 ≤ i) (i1 : i < 10 ^ 40) (hj : 0 < j) : CDivP i j := by
  refine divp_ok hj (Nat.le_trans ?_ (Nat.le_add_left _ _))
  have h2 : i.natAbs < 2 ^ 140 := by
    have : (10 : Int) ^ 40 < 2 ^ 140 := by decide
    omega
  unfold Builtin.Int.intBits
  have := PySem.Flt.log2_lt_of (n := i.natAbs) (k := 140) (by decide) h2
  split <;> omega
theorem wDvm {H : Hp} {L : List En} {Q : VK} {i j : Int} (i0 : 0 ≤ i) (i1 : i < 10 ^ 40) (hj : 0 < j) (F : Fx H L) (k : ∀ p H', Fx H' (.ob p (.tup [.int (i / j), .int (i % j)]) :: L) → Q (.ref p) H') : rDvm [.int i, .int j] H Q :=
  ⟨i, j, rfl, divp_big i0 i1 hj, fun p hp => k p _ (F.new hp)⟩
end
end Z
namespace Z
open PySem PySem.Spec
      PyProof.Rows L2
/-! ### x not in d, an own __contains__ -/
def rNotInOwn (K : PySem.W.Frag) (C : Addr) (sp : Sp) : R2 := fun x y H Q => ∃ a dx fs, y = .ref a ∧ H a = some (.ins C dx fs) ∧ sp [.ref a, x] H (fun v H' => ∃ b : Bool, v = .bl b ∧ Q (.bl (!b)) H') E0
section
variable {prog : Program} {w : World} {A : Around} {E : Value → Shared → Prop} {s : Shared} {K : PySem.W.Frag} {x C f : Addr} {ox : Obj} {od : Option Obj} {u : Value}
theorem contains_fnN {Q : Value → Shared → Prop} (X : K.In s.heap) (I : PySem.W.InstAt s.heap x ox C od) (hs : PySem.W.findIn K (.ref C) "__contains__" = some (some (.ref f))) (hf : PySem.W.typeIn K (.ref f) = some (.type "function"))
    (h : wpAny (model prog w) A (call (.ref f) [.ref x, u]) (fun v s' => ∃ b, v = .bool b ∧ Q (.bool (!b)) s') E s) : wpAny (model prog w) A (compareOp .NotIn u (.ref x)) Q E s := by
  show wpAny _ _ (do return .bool (!(← contains (.ref x) u))) Q E s
  refine wpAny_bind ?_
  unfold contains
  refine wpAny_holding ?_
  refine wpAny_bind (wpAny_bind (I.type.here ((PySem.W.looks_findIn X hs).here ?_)))
  show wpAny _ _ (if (some (Value.ref f) == some Value.none) = true then _ else _) _ E s
  rw [if_neg (show ¬ ((some (Value.ref f) == some Value.none) = true) from Bool.false_ne_true)]
  refine wpAny_bind ?_
  unfold callSpecialUnlessNone?
  refine wpAny_bind (wpAny_bind (I.type.here ((PySem.W.looks_findIn X hs).here (wpAny_holding (wpAny_bind ((PySem.W.bind_fn X _ hf).here ?_))))))
  show wpAny _ _ (if (Value.ref f == Value.none) = true then _ else _) _ E s
  rw [if_neg (show ¬ ((Value.ref f ==
        Value.none) = true) from Bool.false_ne_true)]
  refine wpAny_bind (wpAny_mono h (fun v s' z => ?_) fun _ _ e => e)
  obtain ⟨b, rfl, q⟩ := z
  exact wpAny_pure (wpAny_truthy_bool (wpAny_pure q))
end
section
variable {X : Cx} {k : Nat} {C : Addr} {ps : List Str} {sp : Sp}
theorem op_notInO (O : InO X.prog X.w X.K X.mg X.base C k ps sp) (hr : Room k X.A) : OpR X (compareOp .NotIn) (rNotInOwn X.K C sp) := by
  obtain ⟨f, fd, q, hb, F⟩ := O
  intro pins s σ H x
        y v u Q I rx ry h
  obtain ⟨a, dx, fs, rfl, ha, hsp⟩ := h
  obtain rfl : u =
        Value.ref a := ry
  obtain ⟨mA, J, _⟩
        := ins_get I.hok ha
  obtain ⟨od, J, _⟩ := J.look
  refine contains_fnN I.kIn J q.con q.fn (wpAny_mono (own_call F hb hr rfl I (show RelV (V.ref a) (Value.ref a) from rfl) rx hsp) (fun v s' z => ?_) fun _ _ e => e)
  obtain ⟨v', H', I', rv, b, eb, hq⟩ := z
  subst eb
  obtain rfl : v = Value.bool b := rv
  exact ⟨b, rfl, .bl (!b), H', I', rfl, hq⟩
theorem wNotInOwn {K : PySem.W.Frag} {H : Hp} {Q : VK} {a dx : Addr} {x : V} {fs : List (Str × V)} (ha : H a = some (.ins C dx fs)) (h : sp [.ref a, x] H (fun v H' => ∃ b : Bool, v = .bl b ∧ Q (.bl (!b)) H') E0) : rNotInOwn K C sp x (.ref a) H Q := ⟨a, dx, fs, rfl, ha, h⟩
end
end Z
namespace Z
open L2
theorem wIntB {b : Bool} {H : Hp} {Q : VK} (h : Q (.int (if b = true then 1 else 0)) H) : rInt [.bl b] H Q := .inr ⟨b, rfl, h⟩
end Z
namespace Z
open PySem PySem.Spec
      PyProof.Rows L2
/-! ### a try that stands alone in a loop: its reading by name -/
def tTryO (K : PySem.W.Frag) (c : Value) (ts : Addr → Value → Option Addr → TS) (Wout : WX) (tb : WX → TS) : TS := fun D σ H => tb (wOnly K c ts Wout D) D σ H
theorem wTryO {K : PySem.W.Frag} {c : Value} {ts : Addr → Value → Option Addr → TS} {Wout : WX} {tb : WX → TS} {D : Ends} {σ : L2.St} {H : Hp} (h : tb (wOnly K c ts Wout D) D σ H) : tTryO K c ts Wout tb D σ H := h
section
variable {X : Cx} {x : Str} {c : Value} {body suite : List Stmt} {b₀ : Stmt} {np
      pos pos' : Pos} {tb : WX → TS} {ts : Addr → Value → Option Addr → TS} {Wout : WX}
theorem ps_try_onlyN (hs : X.stack = X.env :: X.outer) (hf : X.env.frame = some X.env.locals) (hc : Names X x c) (tk : Takes X Wout)
    (hb : ∀ (W : WX) (pn : List (Addr × Obj)) (xe : Value → Shared → Prop), Takes (X.tr pn xe) W → PassesOwn (model X.prog X.w) X.A X.env xe →
      PSs (X.tr pn xe) body (tb W))
    (hsu : ∀ (a : Addr) (oe : Obj) (cls : Value) (d : Option Addr) (pn : List (Addr × Obj)), Zc cls d oe → (∃ vs, oe.data = .fields vs) →
      PSs (X.suite a ((a, oe) :: pn)) (b₀ :: suite) (ts a cls d)) :
    PS X (.Try body [.ExceptHandler (some (.Name x np)) none (b₀ :: suite) pos'] [] [] pos) (tTryO X.K c ts Wout tb) := ps_try_only hs hf hc tk hb hsu
end
end Z
namespace Z
open PySem PySem.Spec
      PyProof.Rows L2
/-! ### a, b = x, y -/
def tPar2 (i j : Nat) (D : Ends) (vs : List V) (σ : L2.St) (H : Hp) : Prop := ∃ v w, vs = [v, w] ∧ D.nx ((σ.set i (some v)).set j (some w)) H
theorem wPar {i j : Nat} {ta : TA} {D : Ends} {σ : L2.St} {H : Hp} (h : ta σ H fun vs H1 => tPar2 i j D vs σ H1) : tPar i j ta D σ H := h
theorem wPar2 {i j : Nat} {nx bk ct : L2.St → Hp → Prop} {rt : VK} {v w : V} {σ : L2.St} {H : Hp} (h : nx ((σ.set i (some v)).set j (some w)) H) : tPar2 i j ⟨nx, rt, bk, ct⟩ [v, w] σ H := ⟨v, w, rfl, h⟩
end Z

set_option Elab.async false
set_option linter.all false
set_option maxRecDepth 100000
set_option maxHeartbeats 2000500
/-! ### constants of the program, gcd, // of any sign, ratios -/
namespace Z
open PySem PySem.Spec
      PyProof.Rows L2
section
variable {X : Cx} {K : PySem.W.Frag} {H : Hp} {L : List En} {Q : VK}
/-- a tuple of the written part -/
def KT (K : PySem.W.Frag) (a : Addr) (xs : List V) : Prop := ∀ H, SqT K H a xs
def constI : List Value → List Int → Bool
  | [], [] => true
  | .int i _ :: r, j :: q => (i == j) && constI r q
  | _, _ => false
theorem constI_vals : ∀ {vs : List Value} {ns : List Int}, constI vs ns = true → Vals (ns.map V.int) vs
  | [], [], _ => .nil
  | .int i t :: r, j :: q, h => by
    have h : ((i == j) && constI r q) = true := h
    rw [Bool.and_eq_true, beq_iff_eq] at h
    obtain ⟨rfl, h2⟩ := h
    exact .cons (⟨t, rfl⟩ : RelV (.int i) (.int i t)) (constI_vals h2)
theorem KT.of {a : Addr} {od : Option Addr} {its : Array Value} {n : Nat} {sl : Array (Option Value)} {ns : List Int} (h : K.lookup a = some ⟨.type "tuple", od, .seq its n, sl⟩) (c : constI its.toList ns = true) (l : its.size ≤ 100) : KT K a (ns.map V.int) := fun H =>
  .inr ⟨_, its, n, h, rfl, rfl, Nat.le_trans (Nat.le_trans l (by decide)) line_big, constI_vals c⟩
/-- // by a divisor of either sign -/
abbrev rDivA : R2 := rI (fun _ j => j ≠ 0 ∧ j.natAbs.log2 < 9000) fun i j => .int (i.fdiv j)
theorem zDivA : OpR X (binaryOp .FloorDiv) rDivA := opI fun i j _ _ _ _ _ hc q => floordiv_int hc.1 q (.inl (PyProof.noPylong_of_log2 hc.2))
theorem wDivA {i j : Int} (h0 : j ≠ 0) (h9 : j.natAbs.log2 < 9000) (h : Q (.int (i.fdiv j)) H) : rDivA (.int i) (.int j) H Q := ⟨i, j, rfl, rfl, ⟨h0, h9⟩, h⟩
theorem wGcd {a b : Int} (h : Q (.int ((Nat.gcd a.natAbs b.natAbs : Nat) : Int)) H) : rGcd [.int a, .int b] H Q := ⟨a, b, rfl, h⟩
/-- v is the ratio a / b -/
def Rt (K : PySem.W.Frag) (L : List En) (v : V) (a b : Int) : Prop := ∃ p, v = .ref p ∧ (En.ob p (.tup [.int a, .int b]) ∈ L ∨ KT K p [.int a, .int b])
theorem Rt.sq {v : V} {a b : Int} (h : Rt K L v a b) (F : Fx H L) : ∃ p, v = .ref p ∧ SqT K H p [.int a, .int b] := by
  obtain ⟨p, rfl, h | h⟩ := h
  · exact ⟨p, rfl, F.tup h⟩
  · exact ⟨p, rfl, h H⟩
theorem Rt.mono {L' : List En} {v : V} {a b : Int} (h : Rt K L v a b) (s : ∀ e ∈ L, e ∈ L') : Rt K L' v a b := let ⟨p, e, h⟩ := h; ⟨p, e, h.imp (s _) id⟩
theorem Rt.le {L' : List En} {v : V} {a b : Int} (h : Rt K L v a b) (s : L.Sublist L') : Rt K L' v a b := h.mono fun _ m => s.subset m
theorem Rt.head {p : Addr} {a b : Int} : Rt K (.ob p (.tup [.int a, .int b]) :: L) (.ref p) a b := ⟨p, rfl, .inl (.head _)⟩
end
end Z
namespace RZ
/-! ### lowest terms -/
/-- what a / b is divided by -/
def shr (t b : Int) : Int := if b < 0 then -((Nat.gcd t.natAbs b.natAbs : Nat) : Int) else ((Nat.gcd t.natAbs b.natAbs : Nat) : Int)
def lowT (t b : Int) : Int := t.fdiv (shr t b)
def lowB (t b : Int) : Int := b.fdiv (shr t b)
theorem shr_abs (t b : Int) : (shr t b).natAbs = Nat.gcd t.natAbs b.natAbs := by unfold shr; split <;> omega
theorem shr_ne {t b : Int} (hb : b ≠ 0) : shr t b ≠ 0 := by
  have : 0 < Nat.gcd t.natAbs b.natAbs := Nat.gcd_pos_of_pos_right _ (by omega)
  unfold shr
  split <;> omega
theorem low_spec {t b : Int} (hb : b ≠ 0) : t = shr t b * lowT t b ∧ b = shr t b * lowB t b ∧ 1 ≤ lowB t b ∧ Nat.gcd (lowT t b).natAbs (lowB t b).natAbs = 1 ∧ (lowT t b).natAbs ≤ t.natAbs ∧ (lowB t b).natAbs ≤ b.natAbs := by
  have s0 := shr_ne (t := t) hb
  have sa := shr_abs t b
  have d1 : shr t b ∣ t := Int.natAbs_dvd_natAbs.mp (by rw [sa]; exact Nat.gcd_dvd_left _ _)
  have d2 : shr t b ∣ b := Int.natAbs_dvd_natAbs.mp (by rw [sa]; exact Nat.gcd_dvd_right _ _)
  obtain ⟨t', ht⟩ := d1
  obtain ⟨b', hb'⟩ := d2
  have e1 : lowT t b = t' := by unfold lowT; conv => lhs; arg 1; rw [ht]
                                exact Int.mul_fdiv_cancel_left _ s0
  have e2 : lowB t b = b' := by unfold lowB; conv => lhs; arg 1; rw [hb']
                                exact Int.mul_fdiv_cancel_left _ s0
  rw [e1, e2]
  have g0 : 0 < Nat.gcd t.natAbs b.natAbs := Nat.gcd_pos_of_pos_right _ (by omega)
  have n1 : t.natAbs = Nat.gcd t.natAbs b.natAbs * t'.natAbs := by rw [← sa, ← Int.natAbs_mul, ← ht]
  have n2 : b.natAbs = Nat.gcd t.natAbs b.natAbs * b'.natAbs := by rw [← sa, ← Int.natAbs_mul, ← hb']
  refine ⟨ht, hb', ?_, ?_, ?_, ?_⟩
  · have hne : b' ≠ 0 := by rintro rfl; rw [Int.mul_zero] at hb'; exact hb hb'
    by_cases c : b < 0
    · have hs : shr t b < 0 := by unfold shr; rw [if_pos c]; omega
      by_cases c2 : b' < 0
      · have := Int.mul_pos_of_neg_of_neg hs c2
        omega
      · omega
    · have hs : 0 < shr t b := by unfold shr; rw [if_neg c]; omega
      by_cases c2 : b' < 0
      · have := Int.mul_neg_of_pos_of_neg hs c2
        omega
      · omega
  · have := Nat.gcd_mul_left (Nat.gcd t.natAbs b.natAbs) t'.natAbs b'.natAbs
    rw [← n1, ← n2] at this
    exact (Nat.eq_of_mul_eq_mul_left g0 (by rw [Nat.mul_one]; exact this.symm))
  · rw [n1]; exact Nat.le_mul_of_pos_left _ g0
  · rw [n2]; exact Nat.le_mul_of_pos_left _ g0
/-- at most k bits -/
def Sz (k : Nat) (a : Int) : Prop := a.natAbs < 2 ^ k
theorem Sz.mono {k l : Nat} {a : Int} (h : Sz k a) (hl : k ≤ l) : Sz l a := Nat.lt_of_lt_of_le h (Nat.pow_le_pow_right (by decide) hl)
theorem Sz.mul {k l : Nat} {a b : Int} (h : Sz k a) (h2 : Sz l b) : Sz (k + l) (a * b) := by
  unfold Sz at *
  rw [Int.natAbs_mul,
        Nat.pow_add]
  exact Nat.mul_lt_mul'' h h2
theorem Sz.add {k : Nat} {a b : Int} (h : Sz k a) (h2 : Sz k b) : Sz (k + 1) (a + b) := by
  unfold Sz at *
  rw [Nat.pow_succ]
  omega
theorem Sz.sub {k : Nat} {a b : Int} (h : Sz k a) (h2 : Sz k b) : Sz (k + 1) (a - b) := by
  unfold Sz at *
  rw [Nat.pow_succ]
  omega
theorem Sz.neg {k : Nat} {a : Int} (h : Sz k a) : Sz k (-a) := by unfold Sz at *; omega
theorem Sz.log {k : Nat} {a : Int} (h : Sz k a) (hk : k ≤ 8000) : a.natAbs.log2 < 9000 := by
  by_cases h0 : a.natAbs = 0
  · rw [h0]; decide
  · have := (Nat.log2_lt h0).mpr h
    omega
theorem Sz.shr {k : Nat} {t b : Int} (h : Sz k b) (hb : b ≠ 0) : Sz k (shr t b) := by
  unfold Sz at *
  rw [shr_abs]
  exact Nat.lt_of_le_of_lt (Nat.le_of_dvd (by omega) (Nat.gcd_dvd_right _ _)) h
theorem Sz.lowT {k : Nat} {t b : Int} (h : Sz k t) (hb : b ≠ 0) : Sz k (lowT t b) := Nat.lt_of_le_of_lt (low_spec hb).2.2.2.2.1 h
theorem Sz.lowB {k : Nat} {t b : Int} (h : Sz k b) (hb : b ≠ 0) : Sz k (lowB t b) := Nat.lt_of_le_of_lt (low_spec hb).2.2.2.2.2 h
end RZ
namespace Z
open L2
theorem wMulW {K : PySem.W.Frag} {H : Hp} {Q : VK} {i j : Int} (c : CMulW i j) (h : Q (.int (i * j)) H) : rOr rMulC (rOr rMulI (rOr rRep (rRepT K))) (.int i) (.int j) H Q := .inr (.inl ⟨i, j, rfl, rfl, c, h⟩)
end Z
namespace Z
open PySem PySem.Spec
      PyProof.Rows L2
section
variable {K : PySem.W.Frag} {H : Hp} {L : List En} {a : V} {xs : List V} {g : TG} {tb : TS} {nx : L2.St → Hp → Prop} {rt : VK} {σ : L2.St}
/-- a for over a list or a tuple of the ledger -/
theorem wForQ (hq : SeqIs L a (some xs)) (F : Fx H L) (Pv : Nat → L2.St → Hp → Prop) (h0 : Pv 0 σ H) (keep : ∀ i σ H', Pv i σ H' → ∃ L', Fx H' L' ∧ ∀ e ∈ L, e ∈ L')
    (hs : ∀ i x σ H', xs[i]? = some x → Pv i σ H' → g x σ H' fun σ2 H2 => tb ⟨Pv (i + 1), rt, nx, Pv (i + 1)⟩ σ2 H2) (hd : ∀ σ H', Pv xs.length σ H' → nx σ H') :
    GoS K a H fun J H1 => ∃ W : Nat → Nat → L2.St → Hp → Prop, (∃ m, W 0 m σ H1) ∧ ∀ i m σ H, W i m σ H →
      (J.stop i H ∧ nx σ H) ∨ (J.go i H ∧ ∃ N : L2.St → Hp → Prop, (∀ σ' H', N σ' H' → ∃ m', m' < m ∧ W (i + 1) m' σ' H') ∧ ∀ x H', J.yld i H x H' → g x σ H' fun σ2 H2 => tb ⟨N, rt, nx, N⟩ σ2 H2) := by
  cases hq with
  | lst m =>
    refine wGoSL (F.lst m) (wForW (walk_list (K := K) (xs := xs)) Pv h0 (fun i σ H' _ q => ?_) (fun i x σ H' H'' _ q y => ?_) hd)
    · obtain ⟨L', F', k⟩ := keep i σ H' q
      exact F'.lst (k _ m)
    · obtain ⟨rfl, e⟩ := y
      exact hs i x σ _ e q
  | tup m =>
    refine wGoST (F.tup m) (wForW (walk_tup (K := K) (xs := xs)) Pv h0 (fun i σ H' _ q => ?_) (fun i x σ H' H'' _ q y => ?_) hd)
    · obtain ⟨L', F', k⟩ := keep i σ H' q
      exact F'.tup (k _ m)
    · obtain ⟨rfl, e⟩ := y
      exact hs i x σ _ e q
end
end Z
namespace Z
open PySem PySem.Spec
      PyProof.Rows L2
/-! ### a def called with keywords for defaults -/
def OkN (CX : CXT) (P : Program) (w : World) (K : PySem.W.Frag) (mg : Str → Option Value) (base : Heap) (x : Str) (k : Nat) (ps ks : List Str) (n : Nat) (gV : List V → List V → List V) (sp : Sp) : Prop :=
  ∃ (f : Addr) (fd : FuncData) (g : List Value → List Value → List Value), mg x = some (.ref f) ∧ PySem.W.keepIn K (.ref f) = true ∧ KBn K fd ps n ks g gV ∧ FnOk P w K mg base CX k f fd ps sp
def CallN (n m : Nat) (sp : Sp) (gV : List V → List V → List V) (E : XK) (vs zs : List V) (H : Hp) (Q : VK) : Prop := vs.length = n ∧ zs.length = m ∧ sp (gV vs zs) H Q E
section
variable {X : Cx} {CX : CXT} {k n : Nat} {ps ks : List Str} {sp : Sp} {E : XK} {x : Str} {p pos : Pos} {e : Expr} {es : List Expr} {kws : List Keyword} {t tk : TA} {gV : List V → List V → List V}
theorem pe_callNO (O : OkN CX X.prog X.w X.K X.mg X.base x k ps ks n gV sp) (hg : Gl X x) (hr : Room k X.A) (hx : Passes CX X E) (ha : PA X (e :: es) t) (hkw : PK X kws tk) (hall : (backToKw pos (keywordEach kws X.env)).all (·.1.isSome) = true := by rfl)
    (hks : (backToKw pos (keywordEach kws X.env)).filterMap (·.1) = ks := by rfl) (hdb : (x == ("__debug__" : Str)) = false := by decide) (he : starEach (e :: es) X.env = (false, eval e X.env) :: starEach es X.env := by rfl)
    (hpl : ((backTo pos (starEach (e :: es) X.env)).any (·.1) ||
      (backToKw pos (keywordEach kws X.env)).any (·.1.isNone)) = false := by rfl) : PE X (.Call (.Name x p) (e :: es) kws pos) (tCallN n ks.length sp gV E t tk) := by
  obtain ⟨f, fd, g, m, kp, b, F⟩ := O
  exact pe_callN F hr hg m kp b hx ha hkw hall hks hdb he hpl
theorem wCallN {n m : Nat} {sp : Sp} {gV : List V → List V → List V} {E : XK} {t tk : TA} {σ : L2.St} {H : Hp} {Q : VK} (h : t σ H fun vs H1 => tk σ H1 fun zs H2 => CallN n m sp gV E vs zs H2 Q) : tCallN n m sp gV E t tk σ H Q := h
end
end Z

set_option Elab.async false
set_option linter.all false
set_option maxRecDepth 100000
set_option maxHeartbeats 2000500
set_option
      exponentiation.threshold 2000
/-! ### texts -/
namespace Z
open PySem PySem.Spec
      PyProof.Rows L2
section
variable {X : Cx} {K : PySem.W.Frag} {H : Hp} {L : List En} {Q : VK} {o e : Expr} {to te : TE} {σ : L2.St}
/-- methods of a text -/
def StrA (x : V) (P : Prop) : Prop := (∃ a, x = .str a) ∧ P
theorem wM1 {r : V → List V → Hp → VK → Prop} (h : to σ H fun x H1 => StrA x (te σ H1 fun y H2 => r x [y] H2 Q)) : tM1 r to te σ H Q := h
theorem wStrA {a : Str} {P : Prop} (h : P) : StrA (.str a) P := ⟨⟨_, rfl⟩, h⟩
def rPart : V → List V → Hp → VK → Prop := fun x xs H Q => ∃ a b, x = .str a ∧ xs = [.str b] ∧ (b.length == 0) = false ∧ a.length ≤ sizeLine ∧
    ∀ p, H p = none → Q (.ref p) (upd H p (.tup [.str (Txt.partition a b).1, .str (Txt.partition a b).2.1, .str (Txt.partition a b).2.2]))
theorem pe_part {apos pos : Pos} (ho : PE X o to) (he : PE X e te) (hs : starEach [e] X.env = [(false, eval e X.env)] := by rfl) (hbase : attributeBase o "partition" X.env (eval o X.env) = eval o X.env := by rfl) (hline : (apos.endLine == pos.line) = true := by rfl) :
    PE X (.Call (.Attribute o "partition" apos) [e] [] pos) (tM1 rPart to te) := pe_partition ho he hs hbase hline
theorem wParts {a b : Str} (hb : (b.length == 0) = false) (hl : a.length ≤ sizeLine) (F : Fx H L)
    (k : ∀ p H', Fx H' (.ob p (.tup [.str (Txt.partition a b).1, .str (Txt.partition a b).2.1, .str (Txt.partition a b).2.2]) :: L) → Q (.ref p) H') : rPart (.str a) [.str b] H Q :=
  ⟨a, b, rfl, rfl, hb, hl, wNewF F k⟩
def rRmp : V → List V → Hp → VK → Prop := fun x xs H Q => ∃ a b, x = .str a ∧ xs = [.str b] ∧ a.length ≤ sizeLine ∧ Q (.str (Txt.removeprefix a b)) H
theorem pe_rmp {apos pos : Pos} (ho : PE X o to) (he : PE X e te) (hs : starEach [e] X.env = [(false, eval e X.env)] := by rfl) (hbase : attributeBase o "removeprefix" X.env (eval o X.env) = eval o X.env := by rfl) (hline : (apos.endLine == pos.line) = true := by rfl) :
    PE X (.Call (.Attribute o "removeprefix" apos) [e] [] pos) (tM1 rRmp to te) := pe_m1 PySem.F.slot_str_removeprefix PySem.F.type_str_removeprefix mt_removeprefix ho he hs hbase hline
theorem wRmp {a b : Str} (hl : a.length ≤ sizeLine) (h : Q (.str (Txt.removeprefix a b)) H) : rRmp (.str a) [.str b] H Q := ⟨a, b, rfl, rfl, hl, h⟩
def rSIdx : V → List V → Hp → VK → Prop := fun x xs H Q => ∃ a b i rest, x = .str a ∧ xs = [.str b] ∧ Builtin.Str.occurrences a b 0 a.length 1 = i :: rest ∧ Q (.int (i : Nat)) H
theorem pe_sidx {apos pos : Pos} (ho : PE X o to) (he : PE X e te) (hs : starEach [e] X.env = [(false, eval e X.env)] := by rfl) (hbase : attributeBase o "index" X.env (eval o X.env) = eval o X.env := by rfl) (hline : (apos.endLine == pos.line) = true := by rfl) :
    PE X (.Call (.Attribute o "index" apos) [e] [] pos) (tM1 rSIdx to te) := pe_m1 PySem.F.slot_str_index PySem.F.type_str_index mt_sindex ho he hs hbase hline
theorem wSIdx {a b : Str} {i : Nat} {rest : List Nat} (o : Builtin.Str.occurrences a b 0 a.length 1 = i :: rest) (h : Q (.int (i : Nat)) H) : rSIdx (.str a) [.str b] H Q := ⟨a, b, i, rest, rfl, rfl, o, h⟩
/-- int(text), str(int) -/
def rIntT : List V → Hp → VK → Prop := fun xs H Q => ∃ a n, xs = [.str a] ∧ PySem.intText? a = some n ∧ a.length ≤ 640 ∧ Q (.int n) H
theorem cr_intT : CallR X (.type "int") rIntT := call_int_str
theorem wIntT {a : Str} {n : Int} (h1 : PySem.intText? a = some n) (h2 : a.length ≤ 640) (h : Q (.int n) H) : rIntT [.str a] H Q := ⟨a, n, rfl, h1, h2, h⟩
def rStrI : List V → Hp → VK → Prop := fun xs H Q => ∃ i, xs = [.int i] ∧ i.natAbs.log2 < 1920 ∧ Q (.str (toString i)) H
theorem cr_strI : CallR X (.type "str") rStrI := call_str_int
theorem wStrI {i : Int} (h1 : i.natAbs.log2 < 1920) (h : Q (.str (toString i)) H) : rStrI [.int i] H Q := ⟨i, rfl, h1, h⟩
/-- f-strings -/
def FmtX (x : V) (H : Hp) (Q : VK) : Prop := (∃ y : Str, x = .str y ∧ y.length ≤ sizeLine ∧ Q (.str y) H) ∨ ∃ i : Int, x = .int i ∧ i.natAbs.log2 < 1920 ∧ Q (.str (toString i)) H
theorem wFmt (h : te σ H fun x H1 => FmtX x H1 Q) : tFmt te σ H Q := h
theorem wFmtI {i : Int} (h1 : i.natAbs.log2 < 1920) (h : Q (.str (toString i)) H) : FmtX (.int i) H Q := .inr ⟨i, rfl, h1, h⟩
def tFs (ts : List TE) : TE := fun σ H Q => tJs ts Str.empty σ H fun out H1 => Q (.str out) H1
theorem pe_fs {v1 v2 : Expr} {rest : List Expr} {ts : List TE} {pos : Pos} (h : PJ X (v1 :: v2 :: rest) ts) : PE X (.JoinedStr (v1 :: v2 :: rest) pos) (tFs ts) := pe_joined h
def JsX (x : V) (acc : Str) (ts : List TE) (σ : L2.St) (H : Hp) (Q : Str → Hp → Prop) : Prop := ∃ y : Str, x = .str y ∧ (acc ++ y).length ≤ sizeLine ∧ tJs ts (acc ++ y) σ H Q
theorem wFs {ts : List TE} (h : tJs ts Str.empty σ H fun out H1 => Q (.str out) H1) : tFs ts σ H Q := h
theorem wJsC {t : TE} {ts : List TE} {acc : Str} {Q : Str → Hp → Prop} (h : t σ H fun x H1 => JsX x acc ts σ H1 Q) : tJs (t :: ts) acc σ H Q := h
theorem wJsN {acc : Str} {Q : Str → Hp → Prop} (h : Q acc H) : tJs [] acc σ H Q := h
theorem wJsX {y acc : Str} {ts : List TE} {Q : Str → Hp → Prop} (h1 : (acc ++ y).length ≤ sizeLine) (h : tJs ts (acc ++ y) σ H Q) : JsX (.str y) acc ts σ H Q := ⟨y, rfl, h1, h⟩
/-- sign in text -/
def rInSign : R2 := fun x y H Q => ∃ (c : Nat) (z : Str), x = .str ⟨#[c]⟩ ∧ y = .str z ∧ Q (.bl (decide (c ∈ z.cps.toList))) H
theorem zInSign : OpR X (compareOp .In) rInSign := op_in_sign
theorem wInSign {c : Nat} {z : Str} (h : Q (.bl (decide (c ∈ z.cps.toList))) H) : rInSign (.str ⟨#[c]⟩) (.str z) H Q := ⟨c, z, rfl, rfl, h⟩
/-- over the signs of a text -/
def GoStr (x : V) (H : Hp) (R : It → Hp → Prop) : Prop := ∃ z, x = .str z ∧ R (Its z) H
theorem wIStr {RI : It → Hp → Prop} (h : te σ H fun v H1 => GoStr v H1 RI) : iStr te σ H RI := h
theorem wGoStr {RI : It → Hp → Prop} {z : Str} (h : RI (Its z) H) : GoStr (.str z) H RI := ⟨z, rfl, h⟩
theorem walk_str {z : Str} : Walk (Its z) z.cps.size (fun _ => True)
      (fun i H v H' => H' = H ∧ ∃ c, z.cps[i]? = some c ∧ v = .str ⟨#[c]⟩) :=
  ⟨fun i _ hi _ => hi, fun _ _ => Nat.le_refl _, fun i H v H' _ _ y => y⟩
/-- text + text -/
theorem wAddSS {a b : Str} (h1 : a.length ≤ 10000) (h2 : b.length ≤ 10000) (h : Q (.str (a ++ b)) H) : rOr rAddI (rOr rAddS (rOr rCat (rCatT K))) (.str a) (.str b) H Q :=
  .inr (.inl ⟨a, b, rfl, rfl, by have := line_big; omega, h⟩)
/-- sign * n -/
theorem reps_one (c : Nat) : ∀ (k : Nat) (acc : Array Nat), (List.replicate k #[c]).foldl (· ++ ·) acc = acc ++ (List.replicate k c).toArray
  | 0, acc => by simp
  | k + 1, acc => by
    rw [List.replicate_succ, List.foldl_cons, reps_one c k, List.replicate_succ, Array.append_assoc]
    apply congrArg
    apply Array.ext'
    simp
def rMulS : R2 := fun x y H Q => ∃ (c : Nat) (n : Int), x = .str ⟨#[c]⟩ ∧ y = .int n ∧ 2 ≤ n ∧ n ≤ 1000 ∧ Q (.str ⟨(List.replicate n.toNat c).toArray⟩) H
theorem op_mulS : OpR X (binaryOp .Mult) rMulS := by
  intro pins s σ H x
        y v u Q I rx ry h
  obtain ⟨c, n, rfl, rfl, h2, h3, q⟩ := h
  obtain ⟨t, rfl⟩ := rx
  obtain ⟨t', rfl⟩ := ry
  have lb := line_big
  have e1 : ((⟨#[c]⟩ : Str).length) = 1 := rfl
  refine PySem.P.mul_str (by rw [decide_eq_false (by omega), decide_eq_false (by omega)]; rfl) (fun _ _ => ?_) (fun _ _ => ?_) ?_
  · rw [e1]
    have : (1 : Int) ≤ (2 ^ 63 - 1) / n := by
      apply (Int.le_ediv_iff_mul_le (by omega)).mpr
      omega
    have e2 : ((1 : Nat) : Int) = 1 := rfl
    rw [e2]
    omega
  · unfold Builtin.Str.tooLong
    rw [e1]
    simp only [decide_eq_false_iff_not, Nat.one_mul]
    omega
  · have hn : (n == 1) = false := by rw [beq_eq_false_iff_ne]; omega
    rw [if_neg (by omega), hn, e1]
    rw [if_neg (by decide), reps_one c n.toNat #[], show (#[] : Array Nat) ++ (List.replicate n.toNat c).toArray = (List.replicate n.toNat c).toArray from by simp]
    refine ⟨?_, .str _, H, I.tok _, ⟨_, rfl⟩, q⟩
    show (List.replicate n.toNat c).toArray.size ≤ sizeLine
    simp only [List.size_toArray, List.length_replicate]
    omega
theorem wMulS {c : Nat} {n : Int} (h2 : 2 ≤ n) (h3 : n ≤ 1000) (h : Q (.str ⟨(List.replicate n.toNat c).toArray⟩) H) : rMulS (.str ⟨#[c]⟩) (.int n) H Q := ⟨c, n, rfl, rfl, h2, h3, h⟩
end
end Z
namespace TX
open PySem PySem.Spec PyProof.Rows L2 TL
/-! ### texts of numbers -/
def numI (i : Int) : List Nat := if i < 0 then 45 :: numL i.natAbs else numL i.natAbs
theorem ofStr_app (s t : String) : Str.ofString (s ++ t) = Str.ofString s ++ Str.ofString t := by
  refine ext_tl ?_
  rw [tl_append, Str.ofString_eq_toList, Str.ofString_eq_toList, Str.ofString_eq_toList, tl_mk, tl_mk, tl_mk, String.toList_append, List.map_append]
theorem tl_int (i : Int) : tl (Str.ofString (toString i)) = numI i := by
  cases i with
  | ofNat n =>
    have e : numI (Int.ofNat n) = numL n := by unfold numI; rw [if_neg (by simp)]; rfl
    rw [e]
    exact tl_num n
  | negSucc m =>
    have e : numI (Int.negSucc m) = 45 :: numL (m + 1) := by unfold numI; rw [if_pos (by omega)]; rfl
    rw [e, ← tl_num (m + 1)]
    have e2 : toString (Int.negSucc m) = "-" ++ toString (((m + 1 : Nat)) : Int) := rfl
    rw [e2, ofStr_app, tl_append]
    rfl
def textL (t b : Int) : List Nat := if b = 1 then numI t else numI t ++ 47 :: numI b
def Cut (w P C : List Nat) : Prop := (47 ∉ w ∧ P = w ∧ C = [49]) ∨ (47 ∉ P ∧ w = P ++ 47 :: C)
theorem cut_uniq {s : Nat} : ∀ {a b x y : List Nat}, s ∉ a → s ∉ b → a ++ s :: x = b ++ s :: y → a = b ∧ x = y
  | [], [], _, _, _, _, h => by simpa using h
  | [], c :: b, _, _, _, h2, h => by
    simp only [List.nil_append, List.cons_append, List.cons.injEq] at h
    exact absurd (h.1 ▸ List.mem_cons_self) h2
  | c :: a, [], _, _, h1, _, h => by
    simp only [List.nil_append, List.cons_append, List.cons.injEq] at h
    exact absurd (h.1 ▸ List.mem_cons_self) h1
  | c :: a, d :: b, x, y, h1, h2, h => by
    simp only [List.cons_append, List.cons.injEq] at h
    have := cut_uniq (fun m => h1 (List.mem_cons_of_mem _ m)) (fun m => h2 (List.mem_cons_of_mem _ m)) h.2
    exact ⟨by rw [h.1, this.1], this.2⟩
theorem numI_free {i : Int} {s : Nat} (h : s < 45 ∨ 57 < s ∨ (45 < s ∧ s < 48)) : s ∉ numI i := by
  have := @numL_free i.natAbs s (by omega)
  unfold numI
  split
  · intro m
    rcases List.mem_cons.mp m with rfl | m
    · omega
    · exact this m
  · exact this
theorem numI_pos {b : Int} (h : 0 ≤ b) : numI b = numL b.natAbs := by unfold numI; rw [if_neg (by omega)]
theorem cut_text {t b : Int} {P C : List Nat} (hb : 1 ≤ b) (h : Cut (textL t b) P C) : P = numI t ∧ C = numL b.natAbs := by
  have f : 47 ∉ numI t := numI_free (by omega)
  unfold textL at h
  by_cases e : b = 1
  · rw [if_pos e] at h
    rcases h with ⟨_, h1, h2⟩ | ⟨_, h2⟩
    · exact ⟨h1, by rw [h2, e]; decide⟩
    · exact absurd (h2 ▸ List.mem_append_right _ List.mem_cons_self) f
  · rw [if_neg e] at h
    rcases h with ⟨h1, _⟩ | ⟨h1, h2⟩
    · exact absurd (List.mem_append_right _ List.mem_cons_self) h1
    · obtain ⟨e1, e2⟩ := cut_uniq f h1 h2
      exact ⟨e1.symm, by rw [← e2, numI_pos (by omega)]⟩
def figs (cs : List Nat) : Bool := decide (1 ≤ cs.length) && decide (cs.length ≤ 300) && cs.all fun c => decide (c ∈ tl ("0123456789" : Str))
theorem ten_iff (c : Nat) : c ∈ tl ("0123456789" : Str) ↔ 48 ≤ c ∧ c ≤ 57 := by
  have e : tl ("0123456789" : Str) = [48, 49, 50, 51, 52, 53, 54, 55, 56, 57] := by decide
  rw [e]
  simp only [List.mem_cons, List.not_mem_nil, or_false]
  omega
theorem figs_iff (cs : List Nat) : figs cs = true ↔ cs ≠ [] ∧ cs.length ≤ 300 ∧ NumText.AllDigits cs := by
  unfold figs NumText.AllDigits
  simp only [Bool.and_eq_true, decide_eq_true_eq, List.all_eq_true, ten_iff, and_assoc]
  have : 1 ≤ cs.length ↔ cs ≠ [] := by rw [Nat.succ_le_iff, List.length_pos_iff]
  rw [this]
def strip : List Nat → List Nat
  | 45 :: r => r
  | P => P
def valI : List Nat → Int
  | 45 :: r => -((NumText.digitsVal r : Nat) : Int)
  | P => ((NumText.digitsVal P : Nat) : Int)
theorem numL_head {n : Nat} {c : Nat} {r : List Nat} (h : numL n = c :: r) : 48 ≤ c ∧ c ≤ 57 := numL_digits n c (h ▸ List.mem_cons_self)
theorem strip_no {c : Nat} {r : List Nat} (h : c ≠ 45) : strip (c :: r) = c :: r := by
  unfold strip
  split
  · rename_i e
    injection e with e1 e2
    exact absurd e1 h
  · rfl
theorem strip_num (t : Int) : strip (numI t) = numL t.natAbs := by
  unfold numI
  split
  · rfl
  · cases e : numL t.natAbs with
    | nil => rfl
    | cons c r => exact strip_no (by have := numL_head e; omega)
theorem val_num (t : Int) : valI (numI t) = t := by
  unfold numI
  split
  · show -((NumText.digitsVal _ : Nat) : Int) = t
    rw [numL_val]; omega
  · have e2 : valI (numL t.natAbs) = ((NumText.digitsVal (numL t.natAbs) : Nat) : Int) := by
      cases e : numL t.natAbs with
      | nil => rfl
      | cons c r =>
        have hc := numL_head e
        unfold valI
        split
        · rename_i e1; injection e1 with e2 e3; omega
        · rfl
    rw [e2, numL_val]; omega
theorem strip_len (P : List Nat) : P.length ≤ (strip P).length + 1 := by unfold strip; split <;> simp
theorem int_text {x : Str} (h : figs (strip (tl x)) = true) : intText? x = some (valI (tl x)) ∧ x.length ≤ 640 := by
  obtain ⟨h1, h2, h3⟩ := (figs_iff _).mp h
  have l1 := strip_len (tl x)
  have l2 := len_tl x
  refine ⟨?_, by omega⟩
  by_cases c : ∃ r, tl x = 45 :: r
  · obtain ⟨r, e⟩ := c
    rw [e] at h1 h3
    rw [e]
    exact PySem.intText_neg e h3 h1 (by omega)
  · have e : strip (tl x) = tl x := by
      unfold strip; split
      · rename_i r e; exact absurd ⟨r, e⟩ c
      · rfl
    have e2 : valI (tl x) = ((NumText.digitsVal (tl x) : Nat) : Int) := by
      unfold valI; split
      · rename_i r e; exact absurd ⟨r, e⟩ c
      · rfl
    rw [e] at h1 h3
    rw [e2]
    exact PySem.intText_digits h3 h1 (by omega)
theorem val_lt : ∀ (cs : List Nat) (a k : Nat), NumText.AllDigits cs → a < 10 ^ k → cs.foldl (fun acc c => acc * 10 + (c - 48)) a < 10 ^ (k + cs.length)
  | [], _, _, _, h => h
  | c :: r, a, k, hd, h => by
    have hc := hd.head
    have := val_lt r (a * 10 + (c - 48)) (k + 1) hd.tail (by rw [Nat.pow_succ]; omega)
    rw [List.foldl_cons, List.length_cons, show k + (r.length + 1) = k + 1 + r.length from by omega]
    exact this
theorem digits_lt {cs : List Nat} (h : figs cs = true) : NumText.digitsVal cs < 2 ^ 1000 := by
  obtain ⟨h1, h2, h3⟩ := (figs_iff _).mp h
  have := val_lt cs 0 0 h3 (by decide)
  have h4 : (10 : Nat) ^ (0 + cs.length) ≤ 10 ^ 300 := Nat.pow_le_pow_right (by decide) (by omega)
  have h5 : (10 : Nat) ^ 300 ≤ 2 ^ 1000 := by decide +kernel
  unfold NumText.digitsVal
  omega
theorem val_sz {P : List Nat} (h : figs (strip P) = true) : RZ.Sz 1000 (valI P) := by
  have := digits_lt h
  unfold RZ.Sz valI
  unfold strip at this
  split at this <;> rename_i e <;> simp only [Int.natAbs_neg, Int.natAbs_natCast] <;> first | exact this | skip
theorem num_back {cs : List Nat} (h : NumText.AllDigits cs) {c : Nat} {r : List Nat} (e : cs = c :: r) (hc : 49 ≤ c) : numL (NumText.digitsVal cs) = cs := by
  unfold numL
  rw [NumText.toDigits_digitsVal r.length cs (by rw [e]; rfl) h (.inr ⟨c, r, e, hc⟩), List.map_map]
  conv => rhs; rw [← List.map_id cs]
  refine List.map_congr_left fun d hd => ?_
  have := h d hd
  show (Char.ofNat d).toNat = d
  have key : ∀ d : Nat, d < 58 → (Char.ofNat d).toNat = d := by decide
  exact key d (by omega)
theorem numL_zero {n : Nat} {r : List Nat} (h : numL n = 48 :: r) : r = [] := by
  by_cases h10 : n < 10
  · rw [numL_lt h10] at h
    injection h with h1 h2
    exact h2.symm
  · exfalso
    have key : ∀ n, 1 ≤ n → ∃ c r, numL n = c :: r ∧ 49 ≤ c := by
      intro n
      induction n using
            Nat.strongRecOn with
      | _ n ih =>
        intro h1
        by_cases h : n < 10
        · exact ⟨48 + n, [], numL_lt h, by omega⟩
        · obtain ⟨c, r, e, hc⟩ := ih (n / 10) (by omega) (by omega)
          exact ⟨c, r ++ [48 + n % 10], by rw [numL_step (by omega), e]; rfl, hc⟩
    obtain ⟨c, r', e, hc⟩ := key n (by omega)
    rw [h] at e
    injection e with e1 e2
    omega
theorem len_int {i : Int} (h : RZ.Sz 1000 i) : (Str.ofString (toString i)).length ≤ 303 := by
  have h2 : (2 : Nat) ^ 1000 ≤ 10 ^ 302 := by decide +kernel
  have h3 := numL_len (n := i.natAbs) (k := 302) (by decide) (by unfold RZ.Sz at h; omega)
  rw [len_tl, tl_int]
  unfold numI
  split
  · rw [List.length_cons]; omega
  · omega
theorem len_app (a b : Str) : (a ++ b).length = a.length + b.length := by rw [len_tl, tl_append, List.length_append, len_tl, len_tl]
theorem len_textL {t b : Int} (h : RZ.Sz 1000 t) (h2 : RZ.Sz 1000 b) : (textL t b).length ≤ 610 := by
  have a := len_int h
  have c := len_int h2
  rw [len_tl, tl_int] at a c
  unfold textL
  split
  · omega
  · rw [List.length_append, List.length_cons]; omega
theorem rmp_tl (x : Str) : tl (Txt.removeprefix x ("-" : Str)) = strip (tl x) := by
  have e1 : ("-" : Str).length = 1 := by decide
  have e2 : ("-" : Str).cps.toList = [45] := by decide
  have hl := len_tl x
  rw [StrLaws.removeprefix_eq, StrLaws.subAt_eq, e1, e2, List.drop_zero]
  show tl (if _ then (⟨(((tl x).drop 1).take (x.length - 1)).toArray⟩ : Str) else x) = _
  rw [show x.cps.toList = tl x from rfl]
  cases h : tl x with
  | nil => rw [h] at hl; simp only [List.length_nil] at hl; simp [hl, h, strip]
  | cons c r =>
    rw [h] at hl
    simp only [List.length_cons] at hl
    by_cases hc : c = 45
    · subst hc
      rw [if_pos (by simp [hl])]
      simp [tl_mk, strip, hl]
    · rw [if_neg (by simp [hc]), h, strip_no hc]
theorem cut_of (z : Str) : ∃ P S C : Str, Txt.partition z ("/" : Str) = (P, S, C) ∧ P.length ≤ z.length ∧ C.length ≤ z.length ∧
    ((S = Str.empty ∧ C = Str.empty ∧ Cut (tl z) (tl P) [49]) ∨ (S = ("/" : Str) ∧ Cut (tl z) (tl P) (tl C))) := by
  have ey : tl ("/" : Str) = [47] := by decide
  by_cases h : 47 ∈ tl z
  · obtain ⟨a, c, e, hn⟩ := List.eq_append_cons_of_mem h
    have ez : z = (⟨a.toArray⟩ : Str) ++ ("/" : Str) ++ (⟨c.toArray⟩ : Str) := by
      refine ext_tl ?_
      rw [tl_append, tl_append, ey, e, List.append_assoc]
      rfl
    have hl := congrArg
          List.length e
    rw [← len_tl, List.length_append, List.length_cons] at hl
    refine ⟨⟨a.toArray⟩, ("/" : Str), ⟨c.toArray⟩, ?_, ?_, ?_, .inr ⟨rfl, .inr ⟨?_, ?_⟩⟩⟩
    · conv => lhs; rw [ez]
      exact partition_app ey hn
    · show a.toArray.size ≤ _
      simp only
            [List.size_toArray]; omega
    · show c.toArray.size ≤ _
      simp only
            [List.size_toArray]; omega
    · exact hn
    · exact e
  · exact ⟨z, _, _, partition_none ey h, Nat.le_refl _, Nat.zero_le _, .inl ⟨rfl, rfl, .inl ⟨h, rfl, rfl⟩⟩⟩
end TX

set_option Elab.async false
set_option linter.all false
set_option maxRecDepth 100000
set_option
      maxHeartbeats 4000000
namespace M
open PySem L2 RZ
local macro_rules | `(tactic| walk_at "zm") => `(tactic| with_reducible first | exact List.mem_cons_self | assumption | (refine List.mem_cons_of_mem _ ?_; walk_at "zm"))
local macro_rules | `(tactic| walk_at "zp") => `(tactic| with_reducible first | exact Z.Put.head | (refine Z.Put.tail ?_; walk_at "zp"))
local macro_rules | `(tactic| walk_at "zo") => `(tactic| first | omega | (simp only [List.length_map, List.length_cons, List.length_nil, List.length_append, List.length_range] at *; omega))
local macro_rules | `(tactic| walk_at "zF") => `(tactic| with_reducible assumption)
local macro_rules | `(tactic| walk_at "zsq") => `(tactic| first | exact Z.Fx.lst (by walk_at "zF") (by walk_at "zm") | exact Z.Fx.tup (by walk_at "zF") (by walk_at "zm") | with_reducible assumption | exact Z.Fx.frz (by walk_at "zF") (by walk_at "zm"))
local macro_rules | `(tactic| walk_at "zsL") => `(tactic| first | exact Z.Fx.lst (by walk_at "zF") (by walk_at "zm") | with_reducible assumption | exact Z.Fx.frz (by walk_at "zF") (by walk_at "zm"))
local macro_rules | `(tactic| walk_at "zsT") => `(tactic| first | exact Z.SqT.of (Z.Fx.get (by walk_at "zF") (by walk_at "zm")) | with_reducible assumption)
local macro_rules | `(tactic| walk_at "zcm") => `(tactic| first | exact Or.inr ⟨by decide, by decide⟩ | exact Or.inl ⟨by decide, by decide⟩ | exact Or.inl ⟨by omega, by omega⟩ | exact Or.inr ⟨by omega, by omega⟩)
local macro_rules | `(tactic| walk_at "zcd") => `(tactic| first | exact ⟨by decide, by decide +kernel⟩ | assumption | exact ⟨by omega, by assumption⟩)
local macro_rules | `(tactic| walk_at "zb1") => `(tactic| first | rfl | assumption | exact decide_eq_true (by omega) | exact decide_eq_true (by assumption) | (simp only [Bool.not_eq_true', decide_eq_false_iff_not, bne_iff_ne, ne_eq]; omega))
local macro_rules | `(tactic| walk_at "zb0") => `(tactic| first | rfl | assumption | exact decide_eq_false (by omega) | exact decide_eq_false (by assumption) | (simp only [Bool.not_eq_false', decide_eq_true_iff, bne_eq_false_iff_eq]; omega))
local macro_rules | `(tactic| walk_at "zv") => `(tactic| with_reducible first | refine Z.wV0 ?_ | refine Z.wV1 ?_ | refine Z.wV2 ?_ | refine Z.wV3 ?_ | refine Z.wV4 ?_ | refine Z.wV5 ?_ | refine Z.wV6 ?_ | refine Z.wV7 ?_ | refine Z.wV8 ?_ | refine Z.wV9 ?_ | refine Z.wV10 ?_ | refine Z.wV11 ?_ | refine Z.wV12 ?_ | refine Z.wV13 ?_ | refine Z.wV14 ?_)
local macro_rules | `(tactic| walk_at "zg") => `(tactic| with_reducible first | refine Z.wG0 ?_ | refine Z.wG1 ?_ | refine Z.wG2 ?_ | refine Z.wG3 ?_ | refine Z.wG4 ?_ | refine Z.wG5 ?_ | refine Z.wG6 ?_ | refine Z.wG7 ?_ | refine Z.wG8 ?_ | refine Z.wG9 ?_ | refine Z.wG10 ?_ | refine Z.wG11 ?_ | refine Z.wG12 ?_ | refine Z.wG13 ?_ | refine Z.wG14 ?_)
-- syntax nodes
local macro_rules | `(tactic| walk_at "zt") => `(tactic| with_reducible first | refine Z.wSeq ?_ | refine Z.wAsg ?_ | refine Z.wOp ?_ | refine Z.wC ?_ | refine Z.wCons ?_ | refine Z.wNil ?_ | refine Z.wCB ?_ | refine Z.wTest ?_ | refine Z.wRet ?_ | refine Z.wNext ?_ | refine Z.wDrop ?_ | refine Z.wTruN ?_ | refine Z.wNot ?_ | refine Z.wAnd ?_ | refine Z.wOrb ?_ | refine Z.wCall0 ?_ | refine Z.wAndT ?_ | refine Z.wOrT ?_ | refine Z.wNotT ?_ | refine Z.wUn ?_ | refine Z.wTIf ?_ | refine Z.wChain ?_ | refine Z.wBM ?_ | refine Z.wBM0 ?_ | refine Z.wGSub ?_ | refine Z.wTTup ?_ | refine Z.wTLst ?_ | refine Z.wRetN ?_ | refine Z.wBreak ?_ | refine Z.wCont ?_ | refine Z.wListI ?_)
-- values
local macro_rules | `(tactic| walk_at "zx") => `(tactic| first
  | with_reducible refine Z.wBl ?_ | with_reducible refine Z.wTbl ?_ | with_reducible refine Z.wTint ?_ | with_reducible refine Z.wTnon ?_ | with_reducible refine Z.wIntI ?_ | with_reducible refine Z.wNeg ?_
  | with_reducible refine Z.wI0 ?_ | with_reducible refine Z.wOr1 (Z.wI0 ?_)
  | with_reducible refine Z.wOr1 (Z.wEqII ?_) | with_reducible refine Z.wOr1 (Z.wNeII ?_)
  | with_reducible refine Z.wOr1 (Z.wIsN ?_) | with_reducible refine Z.wOr1 (Z.wNotN ?_) | with_reducible refine Z.wOr2 (Z.wIsB ?_) | with_reducible refine Z.wOr2 (Z.wNotB ?_)
  | ((with_reducible refine' Z.wI ?zc ?_); (case zc => first | omega | decide | (walk_at "zcd") | exact ⟨by decide, by decide, by decide +kernel⟩))
  | ((with_reducible refine' Z.wOr1 (Z.wI (C := L2.CMul) ?zc ?_)); (case zc => walk_at "zcm"))
  | ((with_reducible refine' Z.wSetL ?zf ?zm ?ze ?zp ?_); (case zf => walk_at "zF"); (case zm => walk_at "zm"); (case ze => first | rfl | exact Z.ixN_of (by walk_at "zo") (by walk_at "zo")); (case zp => walk_at "zp"); with_reducible intro _ _)
  | ((with_reducible refine' Z.wIxL ?zs ?ze ?_); (case zs => walk_at "zsL"); (case ze => first | rfl | assumption))
  | ((with_reducible refine' Z.wIxT ?zs ?ze ?_); (case zs => walk_at "zsT"); (case ze => first | rfl | assumption))
  | ((with_reducible refine' Z.wIxLi ?zs ?z0 ?z1 ?_); (case zs => walk_at "zsL"); (case z0 => walk_at "zo"); (case z1 => walk_at "zo"))
  | ((with_reducible refine' Z.wIxTi ?zs ?z0 ?z1 ?_); (case zs => walk_at "zsT"); (case z0 => walk_at "zo"); (case z1 => walk_at "zo"))
  | ((with_reducible refine' Z.wLenLi ?zs ?_); (case zs => walk_at "zsL"))
  | ((with_reducible refine' Z.wLenTi ?zs ?_); (case zs => walk_at "zsT"))
  | ((with_reducible refine' Z.wLenL ?zs ?_); (case zs => walk_at "zsL"))
  | ((with_reducible refine' Z.wLenT ?zs ?_); (case zs => walk_at "zsT"))
  | ((with_reducible refine' Z.wTyL ?zs ?_); (case zs => walk_at "zsL"))
  | ((with_reducible refine' Z.wApp ?zf ?zm ?zp ?zn ?_); (case zf => walk_at "zF"); (case zm => walk_at "zm"); (case zp => walk_at "zp"); (case zn => first | (have := Z.line_big; walk_at "zo") | assumption); with_reducible intro _ _)
  | ((with_reducible refine' Z.wTup ?zn ?zf ?_); (case zn => first | exact Nat.le_of_ble_eq_true rfl | walk_at "zo"); (case zf => walk_at "zF"); with_reducible intro _ _ _)
  | ((with_reducible refine' Z.wLst ?zn ?zf ?_); (case zn => first | exact Nat.le_of_ble_eq_true rfl | walk_at "zo"); (case zf => walk_at "zF"); with_reducible intro _ _ _)
  | ((with_reducible refine' Z.wListL ?zs ?zf ?_); (case zs => walk_at "zsL"); (case zf => walk_at "zF"); with_reducible intro _ _ _)
  | ((with_reducible refine' Z.wListT ?zs ?zf ?_); (case zs => walk_at "zsT"); (case zf => walk_at "zF"); with_reducible intro _ _ _)
  | ((with_reducible refine' Z.wTupleL ?zs ?zf ?_); (case zs => walk_at "zsL"); (case zf => walk_at "zF"); with_reducible intro _ _ _)
  | ((with_reducible refine' Z.wTupleT ?zs ?_); (case zs => walk_at "zsT"))
  | ((with_reducible refine' Z.wTlst ?zs ?_); (case zs => walk_at "zsL"))
  | ((with_reducible refine' Z.wTtup ?zs ?_); (case zs => walk_at "zsT"))
  | with_reducible refine Z.wAbs ?_)
-- branches that the facts decide
local macro_rules | `(tactic| walk_at "zi") => `(tactic| first | ((with_reducible refine' Z.wIfT ?zb ?_); (case zb => walk_at "zb1")) | ((with_reducible refine' Z.wIfF ?zb ?_); (case zb => walk_at "zb0")))
local macro_rules | `(tactic| walk_at "z") => `(tactic| repeat walk_at "z1")
local macro_rules | `(tactic| walk_at "zc") => `(tactic| fail)
local macro_rules | `(tactic| walk_at "zif") => `(tactic| with_reducible first | refine Z.wIfS ?_ | refine Z.wFor ?_)
local macro_rules | `(tactic| walk_at "z1") => `(tactic| first | walk_at "zt" | walk_at "zv" | walk_at "zg" | walk_at "zc" | walk_at "zif" | walk_at "zx" | walk_at "zi")
local macro_rules | `(tactic| walk_at "y1") => `(tactic| first | walk_at "zt" | walk_at "zv" | walk_at "zg" | walk_at "zc" | walk_at "zx" | walk_at "zi")
local macro_rules | `(tactic| walk_at "y") => `(tactic| repeat walk_at "y1")
local macro_rules | `(tactic| walk_at "zfs") => `(tactic| (refine Z.Fx.sub (by walk_at "zF") ?_; walk_at "zsub"))
local macro_rules | `(tactic| walk_at "zs") => `(tactic| first | refine Z.wIfD (fun _ => ?_) (fun _ => ?_) | refine Z.wIfND (fun _ => ?_) (fun _ => ?_) | refine Z.wIf (fun _ => ?_) (fun _ => ?_))
local macro_rules | `(tactic| walk_at "zz") => `(tactic| ((repeat walk_at "z1"); try (walk_at "zs" <;> walk_at "zz")))
local macro_rules | `(tactic| walk_at "zlog") => `(tactic| first | decide +kernel | assumption | exact Z.log_small (by walk_at "zo") (by walk_at "zo"))
local macro_rules | `(tactic| walk_at "zk") => `(tactic| first | with_reducible assumption | exact Z.HasK.int _ | exact Z.HasK.bl _ | exact Z.HasK.str _ | exact Z.HasK.non | exact Z.HasK.lst (by walk_at "zsL") | exact Z.HasK.tup (by walk_at "zsT"))
local macro_rules | `(tactic| walk_at "zsub") => `(tactic| ((try dsimp only [List.cons_append, List.nil_append, List.append_eq]); (with_reducible first | exact List.Sublist.refl _ | (refine List.Sublist.cons_cons _ ?_; walk_at "zsub") | (refine List.Sublist.cons _ ?_; walk_at "zsub"))))
local macro_rules | `(tactic| walk_at "zt") => `(tactic| with_reducible first | refine Z.wIS ?_ | refine Z.wIL ?_ | refine Z.wIT ?_ | refine Z.wIR1 ?_ | refine Z.wIR2 ?_ | refine Z.wIZ ?_ | refine Z.wLc ?_ | refine Z.wSl ?_ | refine Z.wNoPart ?_ | refine Z.wPart ?_ | refine Z.wPartV ?_ | refine Z.wGCons ?_ | refine Z.wGNil ?_ | refine Z.wYes ?_ | refine Z.wMake ?_ | refine Z.wMakeS ?_ | refine Z.wFld ?_ | refine Z.wSFld ?_ | refine Z.wCallS ?_)
local macro_rules | `(tactic| walk_at "zx") => `(tactic| first
  | ((with_reducible refine' Z.wGTup ?zs ?ze ?_); (case zs => walk_at "zsT"); (case ze => first | rfl | assumption))
  | ((with_reducible refine' Z.wGoSL ?zs ?_); (case zs => walk_at "zsL"))
  | ((with_reducible refine' Z.wGoST ?zs ?_); (case zs => walk_at "zsT"))
  | ((with_reducible refine' Z.wGoL ?zs ?_); (case zs => walk_at "zsL"))
  | ((with_reducible refine' Z.wGoT ?zs ?_); (case zs => walk_at "zsT"))
  | ((with_reducible refine' Z.wGoZL ?zs ?zt ?_); (case zs => walk_at "zsL"); (case zt => walk_at "zsL"))
  | ((with_reducible refine' Z.wGoZT ?zs ?zt ?_); (case zs => walk_at "zsT"); (case zt => walk_at "zsT"))
  | ((with_reducible refine' Z.wGoR1 ?za ?zb ?_); (case za => walk_at "zo"); (case zb => walk_at "zo"))
  | ((with_reducible refine' Z.wGoR2 ?za ?zb ?zc ?zd ?_); (case za => walk_at "zo"); (case zb => walk_at "zo"); (case zc => walk_at "zo"); (case zd => walk_at "zo"))
  | ((with_reducible refine' Z.wSlL ?zs ?zf ?_); (case zs => walk_at "zsL"); (case zf => walk_at "zF"); with_reducible intro _ _ _))
local macro_rules | `(tactic| walk_at "zis") => `(tactic| first | with_reducible assumption | exact Z.SeqIs.int _ | exact Z.SeqIs.bl _ | exact Z.SeqIs.str _ | exact Z.SeqIs.non | exact Z.SeqIs.lst (by walk_at "zm") | exact Z.SeqIs.tup (by walk_at "zm") | exact Z.SeqIs.dct (by walk_at "zm"))
local macro_rules | `(tactic| walk_at "zw") => `(tactic| (simp only [List.map_cons, List.map_nil, wipe, List.set_cons_zero, List.set_cons_succ]))
local macro_rules | `(tactic| walk_at "zt") => `(tactic| with_reducible first | refine Z.wListRg2 ?_)
local macro_rules | `(tactic| walk_at "zx") => `(tactic| first
  | ((with_reducible refine' Z.wRgV ?zo ?zf ?_); (case zo => exact L2.RgOk.of_le (by walk_at "zo") (by walk_at "zo") (by walk_at "zo") (by walk_at "zo")); (case zf => walk_at "zF"); with_reducible intro _ _ _))

local macro_rules | `(tactic| walk_at "zt") => `(tactic| with_reducible first | refine Z.wIE ?_ | refine Z.wIR3 ?_ | refine Z.wMin2 ?_ | refine Z.wMax2 ?_ | refine Z.wBody ?_ | refine Z.wAug rfl ?_)
local macro_rules | `(tactic| walk_at "zx") => `(tactic| first
  | ((with_reducible refine' Z.wGoDown ?za ?zb ?zc ?zd ?_); (case za => walk_at "zo"); (case zb => walk_at "zo"); (case zc => walk_at "zo"); (case zd => walk_at "zo"))
  | ((with_reducible refine' Z.wSumL ?zs ?_); (case zs => walk_at "zsL"))
  | ((with_reducible refine' Z.wSumT ?zs ?_); (case zs => walk_at "zsT"))
  | ((with_reducible refine' Z.wRepL ?zf ?zm ?z1 ?z2 ?z3 ?_); (case zf => walk_at "zF"); (case zm => walk_at "zm"); (case z1 => walk_at "zo"); (case z2 => walk_at "zo"); (case z3 => walk_at "zo"); with_reducible intro _ _ _)
  | ((with_reducible refine' Z.wCatL ?zf ?zm ?z1 ?z2 ?_); (case zf => walk_at "zF"); (case zm => walk_at "zm"); (case z1 => walk_at "zm"); (case z2 => walk_at "zo"); with_reducible intro _ _ _))
local macro_rules | `(tactic| walk_at "zx") => `(tactic| ((with_reducible refine Z.wIpI ?_); try simp only [List.set_cons_zero, List.set_cons_succ]))
local macro_rules | `(tactic| walk_at "zt") => `(tactic| with_reducible first | refine Z.wMkO ?_ | refine Z.wCallD ?_ | refine Z.wSpC ?_ | refine Z.wSpN ?_ | refine Z.wSpC1 ?_ | refine Z.wSpN1 ?_ | refine Z.wSpC2 ?_ | refine Z.wSpN2 ?_)
local macro_rules | `(tactic| walk_at "zv") => `(tactic| with_reducible first | refine Z.wV15 ?_ | refine Z.wV16 ?_ | refine Z.wV17 ?_ | refine Z.wV18 ?_ | refine Z.wV19 ?_ | refine Z.wV20 ?_ | refine Z.wV21 ?_ | refine Z.wV22 ?_ | refine Z.wV23 ?_ | refine Z.wV24 ?_ | refine Z.wV25 ?_ | refine Z.wV26 ?_)
local macro_rules | `(tactic| walk_at "zg") => `(tactic| with_reducible first | refine Z.wG15 ?_ | refine Z.wG16 ?_ | refine Z.wG17 ?_ | refine Z.wG18 ?_ | refine Z.wG19 ?_ | refine Z.wG20 ?_ | refine Z.wG21 ?_ | refine Z.wG22 ?_ | refine Z.wG23 ?_ | refine Z.wG24 ?_ | refine Z.wG25 ?_ | refine Z.wG26 ?_)
local macro_rules | `(tactic| walk_at "zt") => `(tactic| with_reducible first | refine Z.wRevS ?_ | refine Z.wTupRev ?_ | refine Z.wIRev ?_)
local macro_rules | `(tactic| walk_at "zx") => `(tactic| first
  | ((with_reducible refine' Z.wRevL ?zs ?zf ?_); (case zs => walk_at "zsL"); (case zf => walk_at "zF"); with_reducible intro _ _ _)
  | ((with_reducible refine' Z.wRevT ?zs ?zf ?_); (case zs => walk_at "zsT"); (case zf => walk_at "zF"); with_reducible intro _ _ _)
  | ((with_reducible refine' Z.wTupRevT ?zs ?zf ?_); (case zs => walk_at "zsT"); (case zf => walk_at "zF"); with_reducible intro _ _ _)
  | ((with_reducible refine' Z.wRevI ?zs ?_); (case zs => walk_at "zsL")))
local macro_rules | `(tactic| walk_at "zt") => `(tactic| with_reducible first | refine Z.wIRG ?_ | refine Z.wGoRG ?_)
local macro_rules | `(tactic| walk_at "zr") => `(tactic| ((walk_at "z"); (try ((first | ((refine' Z.wIfF ?zb ?_); (case zb => (simp; done))) | ((refine' Z.wIfT ?zb ?_); (case zb => (simp; done)))); (walk_at "z")))))
local macro_rules | `(tactic| walk_at "zt") => `(tactic| with_reducible first | refine Z.wDc ?_ | refine Z.wIRevR ?_)
local macro_rules | `(tactic| walk_at "zx") => `(tactic| first
  | ((with_reducible refine' Z.wInD ?zf ?zm ?_); (case zf => walk_at "zF"); (case zm => walk_at "zm"))
  | with_reducible refine Z.wMin3 ?_ | with_reducible refine Z.wEqBB ?_ | with_reducible refine Z.wNeBB ?_)
local macro_rules | `(tactic| walk_at "zt") => `(tactic| with_reducible first | refine Z.wCKw ?_)
local macro_rules | `(tactic| walk_at "zx") => `(tactic| first
  | ((with_reducible refine' Z.wDvm ?z1 ?z2 ?z3 ?zf ?_); (case z1 => omega); (case z2 => omega); (case z3 => omega); (case zf => walk_at "zF"); with_reducible intro _ _ _))
local macro_rules | `(tactic| walk_at "zx") => `(tactic| with_reducible refine Z.wIntB ?_)
local macro_rules | `(tactic| walk_at "zt") => `(tactic| with_reducible refine Z.wTryO ?_)
local macro_rules | `(tactic| walk_at "zt") => `(tactic| with_reducible first | refine Z.wPar ?_ | (refine Z.wPar2 ?_; simp only [List.set_cons_zero, List.set_cons_succ]))
local macro_rules | `(tactic| walk_at "zx") => `(tactic| with_reducible refine Z.wGcd ?_)
local macro_rules | `(tactic| walk_at "zx") => `(tactic| ((with_reducible refine' Z.wMulW ?zc ?_); (case zc => with_reducible assumption)))
local macro_rules | `(tactic| walk_at "zt") => `(tactic| with_reducible refine Z.wCallN ?_)
local macro_rules | `(tactic| walk_at "zt") => `(tactic| with_reducible first | refine Z.wM1 ?_ | refine Z.wFmt ?_ | refine Z.wFs ?_ | refine Z.wJsC ?_ | refine Z.wIStr ?_ | refine Z.wStrA ?_ | refine Z.wJsN ?_ | refine Z.wInSign ?_ | refine Z.wGoStr ?_)
local macro_rules | `(tactic| walk_at "zx") => `(tactic| first
  | ((with_reducible refine' Z.wFmtI ?zl ?_); (case zl => assumption))
  | ((with_reducible refine' Z.wStrI ?zl ?_); (case zl => assumption))
  | ((with_reducible refine' Z.wJsX ?zl ?_); (case zl => first | exact Nat.le_of_ble_eq_true rfl | assumption))
  | ((with_reducible refine' Z.wRmp ?zl ?_); (case zl => assumption))
  | ((with_reducible refine' Z.wLenS ?zl ?_); (case zl => assumption))
  | ((with_reducible refine' Z.wParts ?zb ?zl ?zf ?_); (case zb => rfl); (case zl => assumption); (case zf => walk_at "zF"); with_reducible intro _ _ _))
local macro_rules | `(tactic| walk_at "zS") => `(tactic| first | assumption | exact Nat.le_of_ble_eq_true rfl | decide)
local macro_rules | `(tactic| walk_at "zx") => `(tactic| ((with_reducible refine' Z.wAddSS ?z1 ?z2 ?_); (case z1 => walk_at "zS"); (case z2 => walk_at "zS")))
def top (i : Nat) : Stmt := PySem.Challenge.pw_jointsapart_k01_whole_ratios_reckoned_an.main.body.getD i (.Pass ⟨0, 0, 0, 0⟩)

abbrev s__law_mixed : Stmt := top 25
abbrev s__law_take : Stmt := top 26
abbrev s__law_great : Stmt := top 27
abbrev s__lowest : Stmt := top 10
abbrev s__law_number : Stmt := top 28
abbrev s_BadRatio___init__ : Stmt := inClass (top 3) 0
abbrev s_is_whole : Stmt := top 7
abbrev s_make_ratio : Stmt := top 9
abbrev s__law_made : Stmt := top 34
abbrev s__law_gcd : Stmt := top 29
abbrev s__law_lowest : Stmt := top 30
abbrev s__law_whole : Stmt := top 31
abbrev s__law_is : Stmt := top 37
abbrev s__law_odd : Stmt := top 32
abbrev s_over : Stmt := top 14
abbrev s__law_over : Stmt := top 35
abbrev s_plus : Stmt := top 11
abbrev s_negative : Stmt := top 15
abbrev s_minus : Stmt := top 12
abbrev s_times : Stmt := top 13
abbrev s_compare : Stmt := top 16
abbrev s_sum_of : Stmt := top 17
abbrev s__law_sums_right : Stmt := top 38
abbrev s_is_ratio : Stmt := top 8
abbrev s__law_unlike : Stmt := top 33
abbrev s__law_things : Stmt := top 39
abbrev s_least_of : Stmt := top 18
abbrev s_greatest_of : Stmt := top 19
abbrev s__law_hand : Stmt := top 24
abbrev s_are_figures : Stmt := top 21
abbrev s_ratio_text : Stmt := top 20
abbrev s_ratio_of : Stmt := top 22
abbrev s__law_read : Stmt := top 36
abbrev s__law_texts : Stmt := top 40
abbrev s_law : Stmt := top 41
structure Txt (K : PySem.W.Frag) (mg : Str → Option Value) (c_BadRatio : Addr) (c_ONE : Addr) (c_ZERO : Addr) : Prop where
  k_ONE : mg "ONE" = some (.ref c_ONE)
  kt_ONE : Z.KT K c_ONE (([1, 1] : List Int).map V.int)
  k_ZERO : mg "ZERO" = some (.ref c_ZERO)
  kt_ZERO : Z.KT K c_ZERO (([0, 1] : List Int).map V.int)
  b_abs : mg "abs" = none
  b_all : mg "all" = none
  b_bool : mg "bool" = none
  b_int : mg "int" = none
  b_isinstance : mg "isinstance" = none
  b_len : mg "len" = none
  b_list : mg "list" = none
  b_range : mg "range" = none
  b_str : mg "str" = none
  b_tuple : mg "tuple" = none
  m_gcd : mg "gcd" = some (.builtin "math.gcd")
  g_BadRatio : mg "BadRatio" = some (.ref c_BadRatio)
  x_BadRatio : Z.ErrF K c_BadRatio
  n_BadRatio_what : PySem.W.findIn K (.ref c_BadRatio) "what" = some none
  d__law_mixed : ∃ f fd, Fun K "_law_mixed" "_law_mixed" s__law_mixed f fd ∧ mg "_law_mixed" = some (.ref f)
  d__law_take : ∃ f fd, Fun K "_law_take" "_law_take" s__law_take f fd ∧ mg "_law_take" = some (.ref f)
  d__law_great : ∃ f fd, Fun K "_law_great" "_law_great" s__law_great f fd ∧ mg "_law_great" = some (.ref f)
  d__lowest : ∃ f fd, Fun K "_lowest" "_lowest" s__lowest f fd ∧ mg "_lowest" = some (.ref f)
  d__law_number : ∃ f fd, Fun K "_law_number" "_law_number" s__law_number f fd ∧ mg "_law_number" = some (.ref f)
  d_BadRatio___init__ : ∃ f fd, Fun K "__init__" "BadRatio.__init__" s_BadRatio___init__ f fd ∧ Z.ErrI K c_BadRatio f
  d_is_whole : ∃ f fd, FunD K "is_whole" "is_whole" (defArgs s_is_whole) (defBody s_is_whole) (defScope s_is_whole) [.non, .non] [] f fd ∧ mg "is_whole" = some (.ref f)
  d_make_ratio : ∃ f fd, FunD K "make_ratio" "make_ratio" (defArgs s_make_ratio) (defBody s_make_ratio) (defScope s_make_ratio) [.int 1] [] f fd ∧ mg "make_ratio" = some (.ref f)
  d__law_made : ∃ f fd, Fun K "_law_made" "_law_made" s__law_made f fd ∧ mg "_law_made" = some (.ref f)
  d__law_gcd : ∃ f fd, Fun K "_law_gcd" "_law_gcd" s__law_gcd f fd ∧ mg "_law_gcd" = some (.ref f)
  d__law_lowest : ∃ f fd, Fun K "_law_lowest" "_law_lowest" s__law_lowest f fd ∧ mg "_law_lowest" = some (.ref f)
  d__law_whole : ∃ f fd, Fun K "_law_whole" "_law_whole" s__law_whole f fd ∧ mg "_law_whole" = some (.ref f)
  d__law_is : ∃ f fd, Fun K "_law_is" "_law_is" s__law_is f fd ∧ mg "_law_is" = some (.ref f)
  d__law_odd : ∃ f fd, Fun K "_law_odd" "_law_odd" s__law_odd f fd ∧ mg "_law_odd" = some (.ref f)
  d_over : ∃ f fd, Fun K "over" "over" s_over f fd ∧ mg "over" = some (.ref f)
  d__law_over : ∃ f fd, Fun K "_law_over" "_law_over" s__law_over f fd ∧ mg "_law_over" = some (.ref f)
  d_plus : ∃ f fd, Fun K "plus" "plus" s_plus f fd ∧ mg "plus" = some (.ref f)
  d_negative : ∃ f fd, Fun K "negative" "negative" s_negative f fd ∧ mg "negative" = some (.ref f)
  d_minus : ∃ f fd, Fun K "minus" "minus" s_minus f fd ∧ mg "minus" = some (.ref f)
  d_times : ∃ f fd, Fun K "times" "times" s_times f fd ∧ mg "times" = some (.ref f)
  d_compare : ∃ f fd, Fun K "compare" "compare" s_compare f fd ∧ mg "compare" = some (.ref f)
  d_sum_of : ∃ f fd, Fun K "sum_of" "sum_of" s_sum_of f fd ∧ mg "sum_of" = some (.ref f)
  d__law_sums_right : ∃ f fd, Fun K "_law_sums_right" "_law_sums_right" s__law_sums_right f fd ∧ mg "_law_sums_right" = some (.ref f)
  d_is_ratio : ∃ f fd, Fun K "is_ratio" "is_ratio" s_is_ratio f fd ∧ mg "is_ratio" = some (.ref f)
  d__law_unlike : ∃ f fd, Fun K "_law_unlike" "_law_unlike" s__law_unlike f fd ∧ mg "_law_unlike" = some (.ref f)
  d__law_things : ∃ f fd, Fun K "_law_things" "_law_things" s__law_things f fd ∧ mg "_law_things" = some (.ref f)
  d_least_of : ∃ f fd, Fun K "least_of" "least_of" s_least_of f fd ∧ mg "least_of" = some (.ref f)
  d_greatest_of : ∃ f fd, Fun K "greatest_of" "greatest_of" s_greatest_of f fd ∧ mg "greatest_of" = some (.ref f)
  d__law_hand : ∃ f fd, Fun K "_law_hand" "_law_hand" s__law_hand f fd ∧ mg "_law_hand" = some (.ref f)
  d_are_figures : ∃ f fd, Fun K "are_figures" "are_figures" s_are_figures f fd ∧ mg "are_figures" = some (.ref f)
  d_ratio_text : ∃ f fd, Fun K "ratio_text" "ratio_text" s_ratio_text f fd ∧ mg "ratio_text" = some (.ref f)
  d_ratio_of : ∃ f fd, Fun K "ratio_of" "ratio_of" s_ratio_of f fd ∧ mg "ratio_of" = some (.ref f)
  d__law_read : ∃ f fd, Fun K "_law_read" "_law_read" s__law_read f fd ∧ mg "_law_read" = some (.ref f)
  d__law_texts : ∃ f fd, Fun K "_law_texts" "_law_texts" s__law_texts f fd ∧ mg "_law_texts" = some (.ref f)
  d_law : ∃ f fd, Fun K "law" "law" s_law f fd ∧ mg "law" = some (.ref f)
section
variable {P : Program} {w : World} {K : PySem.W.Frag} {mg : Str → Option Value} {base : Heap} {c_BadRatio c_ONE c_ZERO : Addr}
theorem sc__law_mixed : FnScope ["_law_number_here", "_law_turn", "_law_once", "_law_twice"] ["_law_number_here", "_law_turn"] (defScope s__law_mixed) := ⟨rfl, rfl, rfl, by decide +kernel, rfl, by decide +kernel, by decide +kernel⟩
def sp__law_mixed : Sp := Z.Sp2 fun a b H Q E => ∃ x y : Int, a = .int x ∧ b = .int y ∧ ∀ v : Int, Q (.int v) H
theorem fn__law_mixed (T : Txt K mg c_BadRatio c_ONE c_ZERO) {f : Addr} {fd : FuncData} (F : Fun K "_law_mixed" "_law_mixed" s__law_mixed f fd) : FnOk P w K mg base CX0 1 f fd ["_law_number_here", "_law_turn"] sp__law_mixed := by
  refine F.ok sc__law_mixed (fun vs H Q E h => ?_) (fun cdv A outer s H vs Q E hr h => ?_)
  · obtain ⟨a, b, rfl, _⟩ := h; rfl
  · obtain ⟨a, b, rfl, h⟩ := h
    refine ⟨_, (pss_cons (ps_set (i := 2) sc__law_mixed.nd rfl (by first | exact Or.inl rfl | exact Or.inr rfl) (pe_op Z.zMod (pe_callTy Z.zInt (by rfl) T.b_int (by decide +kernel) (pa_cons (pe_op Z.zAdd (pe_op Z.zAdd (pe_op Z.zMul (pv 0) pe_int) (pe_op Z.zMul (pv 1) pe_int)) pe_int) pa_nil)) pe_int))
      (pss_cons (ps_set (i := 3) sc__law_mixed.nd rfl (by first | exact Or.inl rfl | exact Or.inr rfl) (pe_op Z.zMod (pe_callTy Z.zInt (by rfl) T.b_int (by decide +kernel) (pa_cons (pe_op Z.zAdd (pe_op Z.zAdd (pe_op Z.zMul (pv 2) (pv 2)) (pe_op Z.zMul (pv 1) pe_int)) (pe_op Z.zDiv (pv 2) pe_int)) pa_nil)) pe_int))
      (pss_one (ps_ret (pe_op Z.zDiv (pe_callTy Z.zInt (by rfl) T.b_int (by decide +kernel) (pa_cons (pe_op Z.zMod (pe_callTy Z.zInt (by rfl) T.b_int (by decide +kernel) (pa_cons (pe_op Z.zAdd (pe_op Z.zMul (pv 3) pe_int) (pe_op Z.zDiv (pv 2) pe_int)) pa_nil)) pe_int) pa_nil)) pe_int))))), ?_⟩
    try dsimp only [cxOf, Cx.nox, Cx.wish]
    refine Z.at_start (σ' := [some a, some b, none, none]) rfl ?_
    obtain ⟨x, y, rfl, rfl, k⟩ := h
    walk_at "z"
    exact k _
theorem ok__law_mixed (T : Txt K mg c_BadRatio c_ONE c_ZERO) : Z.Ok CX0 P w K mg base "_law_mixed" 1 ["_law_number_here", "_law_turn"] [] sp__law_mixed := by
  obtain ⟨f, fd, F, g⟩ := T.d__law_mixed
  exact Z.mkOk F g (F.binds (ps := ["_law_number_here", "_law_turn"]) fun _ _ _ _ _ _ us hl => match us, hl with | [_, _], _ => rfl) (fn__law_mixed T F)
theorem use__law_mixed {H : Hp} {Q : VK} {E : XK} {x y : Int} (k : ∀ v : Int, Q (.int v) H) : sp__law_mixed [.int x, .int y] H Q E := ⟨_, _, rfl, x, y, rfl, rfl, k⟩
local macro_rules | `(tactic| walk_at "zc") => `(tactic| (with_reducible refine use__law_mixed ?_; intro _))
theorem sc__law_take : FnScope ["_law_hand_here", "_law_many", "_law_cell", "_law_rest"] ["_law_hand_here", "_law_many"] (defScope s__law_take) := ⟨rfl, rfl, rfl, by decide +kernel, rfl, by decide +kernel, by decide +kernel⟩
/-- a draw below m -/
def sp__law_take : Sp := Z.Sp2 fun a b H Q E => ∃ (L : List Z.En) (l c : Addr) (m : Int), a = .ref l ∧ b = .int m ∧ Z.Fx H L ∧ Z.En.hand l c ∈ L ∧ 0 < m ∧ m.natAbs.log2 < 9000 ∧ ∀ (v : Int) H', Z.Fx H' L → 0 ≤ v → v < m → Q (.int v) H'
theorem fn__law_take (T : Txt K mg c_BadRatio c_ONE c_ZERO) {f : Addr} {fd : FuncData} (F : Fun K "_law_take" "_law_take" s__law_take f fd) : FnOk P w K mg base CX0 2 f fd ["_law_hand_here", "_law_many"] sp__law_take := by
  have O__law_mixed := ok__law_mixed (P := P) (w := w) (base := base) T
  refine F.ok sc__law_take (fun vs H Q E h => ?_) (fun cdv A outer s H vs Q E hr h => ?_)
  · obtain ⟨a, b, rfl, _⟩ := h; rfl
  · obtain ⟨a, b, rfl, h⟩ := h
    refine ⟨_, (pss_cons (ps_if (PW.pt (pw_and (pt_cmpR (Z.zEq (Z.hu0 hr)) (pe_ix ix_seq (pv 0) pe_int (fun _ _ => rfl)) pe_int (nomark _)) (pw_and1 (pt_cmpR Z.zLt (pe_ix ix_seq (pv 0) pe_int (fun _ _ => rfl)) (pe_callB Z.zLen (by rfl) T.b_len (by decide +kernel) (pa_cons (pe_ix ix_seq (pv 0) pe_int (fun _ _ => rfl)) pa_nil)) (nomark _)))))
        (pss_cons (ps_set (i := 2) sc__law_take.nd rfl (by first | exact Or.inl rfl | exact Or.inr rfl) (pe_ix ix_seq (pe_ix ix_seq (pv 0) pe_int (fun _ _ => rfl)) (pe_ix ix_seq (pv 0) pe_int (fun _ _ => rfl)) (fun _ _ => rfl)))
        (pss_cons (ps_asg (pe_op Z.zAdd (pe_ix ix_seq (pv 0) pe_int (fun _ _ => rfl)) pe_int) (pg_sub (pv 0) pe_int set_list))
        (pss_cons (ps_if (pt_cmpR Z.zLt (pv 2) (pe_op Z.zPow pe_int pe_int) (nomark _))
          (pss_one (ps_ret (pe_op Z.zMod (pe_callTy Z.zInt (by rfl) T.b_int (by decide +kernel) (pa_cons (Z.pe_callO O__law_mixed (by rfl) (hr.mono (by decide)) pass0 (pa_cons (pe_op Z.zMod (pe_callTy Z.zInt (by rfl) T.b_int (by decide +kernel) (pa_cons (pv 2) pa_nil)) pe_int) (pa_cons (pe_ix ix_seq (pv 0) pe_int (fun _ _ => rfl)) pa_nil))) pa_nil)) (pv 1))))
          pss_nil)
        (pss_one (ps_asg (pv 2) (pg_sub (pv 0) pe_int set_list))))))
        pss_nil)
      (pss_cons (ps_if (pt_cmpR Z.zGt (pe_ix ix_seq (pv 0) pe_int (fun _ _ => rfl)) pe_int (nomark _))
        (pss_cons (ps_set (i := 3) sc__law_take.nd rfl (by first | exact Or.inl rfl | exact Or.inr rfl) (pe_ix ix_seq (pv 0) pe_int (fun _ _ => rfl)))
        (pss_cons (ps_asg (pe_op Z.zDiv (pe_callTy Z.zInt (by rfl) T.b_int (by decide +kernel) (pa_cons (pv 3) pa_nil)) (pv 1)) (pg_sub (pv 0) pe_int set_list))
        (pss_one (ps_ret (pe_op Z.zMod (pe_callTy Z.zInt (by rfl) T.b_int (by decide +kernel) (pa_cons (pv 3) pa_nil)) (pv 1))))))
        pss_nil)
      (pss_cons (ps_asg (pe_op Z.zMod (pe_callTy Z.zInt (by rfl) T.b_int (by decide +kernel) (pa_cons (pe_op Z.zAdd (pe_ix ix_seq (pv 0) pe_int (fun _ _ => rfl)) pe_int) pa_nil)) pe_int) (pg_sub (pv 0) pe_int set_list))
      (pss_one (ps_ret (pe_op Z.zMod (pe_callTy Z.zInt (by rfl) T.b_int (by decide +kernel) (pa_cons (Z.pe_callO O__law_mixed (by rfl) (hr.mono (by decide)) pass0 (pa_cons (pe_ix ix_seq (pv 0) pe_int (fun _ _ => rfl)) (pa_cons (pe_ix ix_seq (pv 0) pe_int (fun _ _ => rfl)) pa_nil))) pa_nil)) (pv 1))))))), ?_⟩
    try dsimp only [cxOf, Cx.nox, Cx.wish]
    refine Z.at_start (σ' := [some a, some b, none, none]) rfl ?_
    obtain ⟨L, l, c, m, rfl, rfl, F, hm, h0, h9, k⟩ := h
    obtain ⟨ns, i, j, t, L1, hi, G, back⟩ := F.open hm
    clear F hm
    walk_at "zz"
    all_goals (refine' k _ _ (back _ _ _ _ _ ?hiz ?fxz) (Int.emod_nonneg _ (by omega)) (Int.emod_lt_of_pos _ h0); (case fxz => assumption); (case hiz => omega))
theorem ok__law_take (T : Txt K mg c_BadRatio c_ONE c_ZERO) : Z.Ok CX0 P w K mg base "_law_take" 2 ["_law_hand_here", "_law_many"] [] sp__law_take := by
  obtain ⟨f, fd, F, g⟩ := T.d__law_take
  exact Z.mkOk F g (F.binds (ps := ["_law_hand_here", "_law_many"]) fun _ _ _ _ _ _ us hl => match us, hl with | [_, _], _ => rfl) (fn__law_take T F)
theorem use__law_take {H : Hp} {Q : VK} {E : XK} {L : List Z.En} {l c : Addr} {m : Int} (F : Z.Fx H L) (hm : Z.En.hand l c ∈ L) (h0 : 0 < m) (h9 : m.natAbs.log2 < 9000) (k : ∀ (v : Int) H', Z.Fx H' L → 0 ≤ v → v < m → Q (.int v) H') : sp__law_take [.ref l, .int m] H Q E :=
  ⟨_, _, rfl, L, l, c, m, rfl, rfl, F, hm, h0, h9, k⟩
local macro_rules | `(tactic| walk_at "zc") => `(tactic| ((with_reducible refine' use__law_take ?zf ?zm ?z0 ?z9 ?_); (case zf => walk_at "zF"); (case zm => walk_at "zm"); (case z0 => first | walk_at "zo" | decide); (case z9 => walk_at "zlog"); with_reducible intro _ _ _ _ _))
theorem sc__law_great : FnScope ["_law_hand_here"] ["_law_hand_here"] (defScope s__law_great) := ⟨rfl, rfl, rfl, by decide +kernel, rfl, by decide +kernel, by decide +kernel⟩
def sp__law_great : Sp := Z.Sp1 fun a H Q E => ∃ (L : List Z.En) (l c : Addr), a = .ref l ∧ Z.Fx H L ∧ Z.En.hand l c ∈ L ∧ ∀ (v : Int) H', 0 ≤ v → v < 1000000000000000000 → Z.Fx H' L → Q (.int v) H'
theorem fn__law_great (T : Txt K mg c_BadRatio c_ONE c_ZERO) {f : Addr} {fd : FuncData} (F : Fun K "_law_great" "_law_great" s__law_great f fd) : FnOk P w K mg base CX0 3 f fd ["_law_hand_here"] sp__law_great := by
  have O__law_take := ok__law_take (P := P) (w := w) (base := base) T
  refine F.ok sc__law_great (fun vs H Q E h => ?_) (fun cdv A outer s H vs Q E hr h => ?_)
  · obtain ⟨a, rfl, _⟩ := h; rfl
  · obtain ⟨a, rfl, h⟩ := h
    refine ⟨_, (pss_one (ps_ret (pe_op Z.zAdd (pe_op Z.zMul (Z.pe_callO O__law_take (by rfl) (hr.mono (by decide)) pass0 (pa_cons (pv 0) (pa_cons (pe_op Z.zPow pe_int pe_int) pa_nil))) (pe_op Z.zPow pe_int pe_int)) (Z.pe_callO O__law_take (by rfl) (hr.mono (by decide)) pass0 (pa_cons (pv 0) (pa_cons (pe_op Z.zPow pe_int pe_int) pa_nil)))))), ?_⟩
    try dsimp only [cxOf, Cx.nox, Cx.wish]
    refine Z.at_start (σ' := [some a]) rfl ?_
    obtain ⟨L, l, c, rfl, F, hm, q⟩ := h
    have e9 : (10 : Int) ^ Int.toNat 9 = 1000000000 := by decide
    walk_at "z"
    rename_i v1 H1 F1 v10 v11 v2 H2 F2 v20 v21
    rw [e9] at *
    exact q _ _ (by omega) (by omega) F2
theorem ok__law_great (T : Txt K mg c_BadRatio c_ONE c_ZERO) : Z.Ok CX0 P w K mg base "_law_great" 3 ["_law_hand_here"] [] sp__law_great := by
  obtain ⟨f, fd, F, g⟩ := T.d__law_great
  exact Z.mkOk F g (F.binds (ps := ["_law_hand_here"]) fun _ _ _ _ _ _ us hl => match us, hl with | [_], _ => rfl) (fn__law_great T F)
theorem use__law_great {H : Hp} {Q : VK} {E : XK} {L : List Z.En} {l c : Addr} (F : Z.Fx H L) (hm : Z.En.hand l c ∈ L) (q : ∀ (v : Int) H', 0 ≤ v → v < 1000000000000000000 → Z.Fx H' L → Q (.int v) H') : sp__law_great [.ref l] H Q E := ⟨_, rfl, L, l, c, rfl, F, hm, q⟩
theorem sc__lowest : FnScope ["top", "bottom", "shared"] ["top", "bottom"] (defScope s__lowest) := ⟨rfl, rfl, rfl, by decide +kernel, rfl, by decide +kernel, by decide +kernel⟩
theorem ratio_mul {k l : Nat} {a b : Int} (h : Sz k a) (h2 : Sz l b) (hk : k ≤ 8000 := by decide) (hl : l ≤ 8000 := by decide) : L2.CMulW a b := by
  have := h.log hk
  have := h2.log hl
  show _ < _
  omega
def sp__lowest (K : PySem.W.Frag) : Sp := Z.Sp2 fun x y H Q E => ∃ (L : List Z.En) (t b : Int), x = .int t ∧ y = .int b ∧ b ≠ 0 ∧ Sz 4000 b ∧ Z.Fx H L ∧ ∀ r H', Z.Fx H' (.ob r (.tup [.int (lowT t b), .int (lowB t b)]) :: L) → Q (.ref r) H'
theorem fn__lowest (T : Txt K mg c_BadRatio c_ONE c_ZERO) {f : Addr} {fd : FuncData} (F : Fun K "_lowest" "_lowest" s__lowest f fd) : FnOk P w K mg base CX0 1 f fd ["top", "bottom"] (sp__lowest K) := by
  refine F.ok sc__lowest (fun vs H Q E h => ?_) (fun cdv A outer s H vs Q E hr h => ?_)
  · obtain ⟨a, b, rfl, _⟩ := h; rfl
  · obtain ⟨a, b, rfl, h⟩ := h
    refine ⟨_, (pss_cons (ps_set (i := 2) sc__lowest.nd rfl (by first | exact Or.inl rfl | exact Or.inr rfl) (pe_callBfun cr_gcd (by rfl) T.m_gcd (pa_cons (pv 0) (pa_cons (pv 1) pa_nil))))
      (pss_cons (ps_if (pt_cmpR Z.zLt (pv 1) pe_int (nomark _))
        (pss_one (ps_set (i := 2) sc__lowest.nd rfl (by first | exact Or.inl rfl | exact Or.inr rfl) (pe_un un_neg (pv 2))))
        pss_nil)
      (pss_one (ps_ret (pe_tup (pa_cons (pe_op Z.zDivA (pv 0) (pv 2)) (pa_cons (pe_op Z.zDivA (pv 1) (pv 2)) pa_nil))))))), ?_⟩
    try dsimp only [cxOf, Cx.nox, Cx.wish]
    refine Z.at_start (σ' := [some a, some b, none]) rfl ?_
    obtain ⟨L, t, b, rfl, rfl, hb, sb, F, k⟩ := h
    walk_at "y"
    refine Z.wMidS (fun σ' H' => σ' = [some (.int t), some (.int b), some (.int (shr t b))] ∧ H' = H) (fun N hk => ?_) ?_
    · unfold shr at hk
      walk_at "z"
      refine Z.wIfD (fun h => ?_) (fun h => ?_)
      · rw [if_pos h] at hk
        walk_at "z"
        exact hk _ _ ⟨rfl, rfl⟩
      · rw [if_neg h] at hk
        walk_at "z"
        exact hk _ _ ⟨rfl, rfl⟩
    rintro _ _ ⟨rfl, rfl⟩
    have s0 := shr_ne (t := t) hb
    have s9 := (Sz.shr (t := t) sb hb).log (by decide)
    walk_at "z"
    exact k _ _ (by assumption)
theorem ok__lowest (T : Txt K mg c_BadRatio c_ONE c_ZERO) : Z.Ok CX0 P w K mg base "_lowest" 1 ["top", "bottom"] [] (sp__lowest K) := by
  obtain ⟨f, fd, F, g⟩ := T.d__lowest
  exact Z.mkOk F g (F.binds (ps := ["top", "bottom"]) fun _ _ _ _ _ _ us hl => match us, hl with | [_, _], _ => rfl) (fn__lowest T F)
theorem use__lowest {H : Hp} {Q : VK} {E : XK} {L : List Z.En} {t b : Int} (hb : b ≠ 0) (sb : Sz 4000 b) (F : Z.Fx H L) (k : ∀ r H', Z.Fx H' (.ob r (.tup [.int (lowT t b), .int (lowB t b)]) :: L) → Q (.ref r) H') : sp__lowest K [.int t, .int b] H Q E := ⟨_, _, rfl, L, t, b, rfl, rfl, hb, sb, F, k⟩
theorem sc__law_number : FnScope ["_law_hand_here", "_law_way", "_law_number_here"] ["_law_hand_here"] (defScope s__law_number) := ⟨rfl, rfl, rfl, by decide +kernel, rfl, by decide +kernel, by decide +kernel⟩
def sp__law_number : Sp := Z.Sp1 fun a H Q E => ∃ (L : List Z.En) (l c : Addr), a = .ref l ∧ Z.Fx H L ∧ Z.En.hand l c ∈ L ∧ ∀ (v : Int) H', Sz 60 v → Z.Fx H' L → Q (.int v) H'
theorem fn__law_number (T : Txt K mg c_BadRatio c_ONE c_ZERO) {f : Addr} {fd : FuncData} (F : Fun K "_law_number" "_law_number" s__law_number f fd) : FnOk P w K mg base CX0 4 f fd ["_law_hand_here"] (sp__law_number) := by
  have O__law_great := ok__law_great (P := P) (w := w) (base := base) T
  have O__law_take := ok__law_take (P := P) (w := w) (base := base) T
  refine F.ok sc__law_number (fun vs H Q E h => ?_) (fun cdv A outer s H vs Q E hr h => ?_)
  · obtain ⟨a, rfl, _⟩ := h; rfl
  · obtain ⟨a, rfl, h⟩ := h
    refine ⟨_, (pss_cons (ps_set (i := 1) sc__law_number.nd rfl (by first | exact Or.inl rfl | exact Or.inr rfl) (Z.pe_callO O__law_take (by rfl) (hr.mono (by decide)) pass0 (pa_cons (pv 0) (pa_cons pe_int pa_nil))))
      (pss_cons (ps_if (pt_cmpR (Z.zEq (Z.hu0 hr)) (pv 1) pe_int (nomark _))
        (pss_one (ps_ret (pe_op op_sub (Z.pe_callO O__law_take (by rfl) (hr.mono (by decide)) pass0 (pa_cons (pv 0) (pa_cons pe_int pa_nil))) pe_int)))
        pss_nil)
      (pss_cons (ps_if (pt_cmpR (Z.zEq (Z.hu0 hr)) (pv 1) pe_int (nomark _))
        (pss_one (ps_ret (pe_op op_sub (Z.pe_callO O__law_take (by rfl) (hr.mono (by decide)) pass0 (pa_cons (pv 0) (pa_cons pe_int pa_nil))) pe_int)))
        pss_nil)
      (pss_cons (ps_set (i := 2) sc__law_number.nd rfl (by first | exact Or.inl rfl | exact Or.inr rfl) (Z.pe_callO O__law_great (by rfl) (hr.mono (by decide)) pass0 (pa_cons (pv 0) pa_nil)))
      (pss_one (ps_ret (pe_ifExp (Z.pt_truN (Z.pe_callO O__law_take (by rfl) (hr.mono (by decide)) pass0 (pa_cons (pv 0) (pa_cons pe_int pa_nil)))) (pv 2) (pe_un un_neg (pv 2))))))))), ?_⟩
    try dsimp only [cxOf, Cx.nox, Cx.wish]
    refine Z.at_start (σ' := [some a, none, none]) rfl ?_
    obtain ⟨L, l, c, rfl, F, hm, q⟩ := h
    have p60 : (2 : Nat) ^ 60 = 1152921504606846976 := by decide
    walk_at "z"
    rename_i v1 H1 F1 v10 v11
    refine Z.wIfD (fun h => ?_) (fun h => ?_)
    · walk_at "z"
      rename_i v2 H2 F2 v20 v21
      exact q _ _ (by unfold Sz; rw [p60]; omega) F2
    walk_at "z"
    refine Z.wIfD (fun h => ?_) (fun h => ?_)
    · walk_at "z"
      rename_i v2 H2 F2 v20 v21
      exact q _ _ (by unfold Sz; rw [p60]; omega) F2
    walk_at "z"
    refine use__law_great F1 hm fun v2 H2 v20 v21 F2 => ?_
    walk_at "z"
    rename_i v3 H3 F3 v30 v31
    refine Z.wIf (fun h => ?_) (fun h => ?_)
    · walk_at "z"
      exact q _ _ (by unfold Sz; rw [p60]; omega) F3
    · walk_at "z"
      exact q _ _ (by unfold Sz; rw [p60]; omega) F3
theorem ok__law_number (T : Txt K mg c_BadRatio c_ONE c_ZERO) : Z.Ok CX0 P w K mg base "_law_number" 4 ["_law_hand_here"] [] (sp__law_number) := by
  obtain ⟨f, fd, F, g⟩ := T.d__law_number
  exact Z.mkOk F g (F.binds (ps := ["_law_hand_here"]) fun _ _ _ _ _ _ us hl => match us, hl with | [_], _ => rfl) (fn__law_number T F)
theorem use__law_number {H : Hp} {Q : VK} {E : XK} {L : List Z.En} {l c : Addr} (F : Z.Fx H L) (hm : Z.En.hand l c ∈ L) (q : ∀ (v : Int) H', Sz 60 v → Z.Fx H' L → Q (.int v) H') : sp__law_number [.ref l] H Q E := ⟨_, rfl, L, l, c, rfl, F, hm, q⟩
theorem sc_BadRatio___init__ : FnScope ["self", "what"] ["self", "what"] (defScope s_BadRatio___init__) := ⟨rfl, rfl, rfl, by decide +kernel, rfl, by decide +kernel, by decide +kernel⟩

theorem fn_BadRatio___init__ (T : Txt K mg c_BadRatio c_ONE c_ZERO) {f : Addr} {fd : FuncData} (F : Fun K "__init__" "BadRatio.__init__" s_BadRatio___init__ f fd) : FnOk P w K mg base CX0 1 f fd ["self", "what"] (Z.spErr1 K "what") := by
  refine F.ok sc_BadRatio___init__ (fun vs H Q E h => ?_) (fun cdv A outer s H vs Q E hr h => ?_)
  · obtain ⟨a, b, rfl, _⟩ := h; rfl
  · obtain ⟨a, b, rfl, h⟩ := h
    refine ⟨_, (pss_one (ps_ost (pv 0) (pv 1))), ?_⟩
    try dsimp only [cxOf, Cx.nox, Cx.wish]
    refine Z.at_start (σ' := [some a, some b]) rfl ?_
    exact Z.init1_run h
theorem ok_BadRatio___init__ (T : Txt K mg c_BadRatio c_ONE c_ZERO) : Z.ErrO P w K mg base c_BadRatio 1 ["self", "what"] (Z.spErr1 K "what") := by
  obtain ⟨f, fd, F, i⟩ := T.d_BadRatio___init__
  exact ⟨f, fd, i, (F.binds (ps := ["self", "what"]) fun _ _ _ _ _ _ us hl => match us, hl with | [_, _], _ => rfl), fn_BadRatio___init__ T F⟩
theorem sc_is_whole : FnScope ["thing", "low", "high"] ["thing", "low", "high"] (defScope s_is_whole) := ⟨rfl, rfl, rfl, by decide +kernel, rfl, by decide +kernel, by decide +kernel⟩
/-- what a bound may be -/
def isBd (v : V) : Prop := v = .non ∨ ∃ i, v = .int i
def sp_is_whole (K : PySem.W.Frag) : Sp := Z.Sp3 fun a b c H Q E => ∃ k, Z.HasK K H a k ∧ isBd b ∧ isBd c ∧ Q (.bl (Z.inB a b c)) H
theorem fn_is_whole (T : Txt K mg c_BadRatio c_ONE c_ZERO) {f : Addr} {fd : FuncData} (F : FunD K "is_whole" "is_whole" (defArgs s_is_whole) (defBody s_is_whole) (defScope s_is_whole) [.non, .non] [] f fd) : FnOk P w K mg base CX0 1 f fd ["thing", "low", "high"] (sp_is_whole K) := by
  refine F.ok (CX := CX0) sc_is_whole (fun vs H Q E h => ?_) (fun cdv A outer s H vs Q E hr h => ?_)
  · obtain ⟨a, b, c, rfl, _⟩ := h; rfl
  · obtain ⟨a, b, c, rfl, h⟩ := h
    refine ⟨_, (pss_cons (ps_if (PW.pt (pw_or (pt_not (Z.pt_truN (pe_callB Z.zIsi (by rfl) T.b_isinstance (by decide +kernel) (pa_cons (pv 0) (pa_cons (pe_bltn (by rfl) T.b_int (by decide +kernel) (show RelV (.ty "int") _ from rfl)) pa_nil))))) (pw_or1 (Z.pt_truN (pe_callB Z.zIsi (by rfl) T.b_isinstance (by decide +kernel) (pa_cons (pv 0) (pa_cons (pe_bltn (by rfl) T.b_bool (by decide +kernel) (show RelV (.ty "bool") _ from rfl)) pa_nil)))))))
        (pss_one (ps_ret pe_bl))
        pss_nil)
      (pss_one (ps_ret (pe_andT (pe_orT (pe_cmpR Z.zIs (pv 1) pe_non (nomark _)) (pe_one (pe_cmpR Z.zGe (pv 0) (pv 1) (nomark _)))) (pe_one (pe_orT (pe_cmpR Z.zIs (pv 2) pe_non (nomark _)) (pe_one (pe_cmpR Z.zLe (pv 0) (pv 2) (nomark _))))))))), ?_⟩
    try dsimp only [cxOf, Cx.nox, Cx.wish]
    refine Z.at_start (σ' := [some a, some b, some c]) rfl ?_
    obtain ⟨k, hk, hb, hc, q⟩ := h
    walk_at "z"
    refine Z.wIsiInt hk ?_
    cases hk with
    | int i =>
      walk_at "z"
      refine Z.wIsiBool (.int i) ?_
      rcases hb with rfl | ⟨lo, rfl⟩ <;> rcases hc with rfl | ⟨hi, rfl⟩ <;> walk_at "zz"
      all_goals simpa [Z.inB, *] using q
    | bl b =>
      walk_at "z"
      refine Z.wIsiBool (.bl b) ?_
      walk_at "z"
      exact q
    | _ =>
      walk_at "z"
      exact q
theorem ok_is_whole_1 (T : Txt K mg c_BadRatio c_ONE c_ZERO) : Z.Ok CX0 P w K mg base "is_whole" 1 ["thing", "low", "high"] [.non, .non] (sp_is_whole K) := by
  obtain ⟨f, fd, F, g⟩ := T.d_is_whole
  obtain ⟨ds, v, b⟩ := F.binds1 (ps := ["thing", "low", "high"]) 1 0 (by decide) rfl fun T kV doc pm an cdv ct us its h1 h2 => match us, h1, its, h2 with | [_], _, [_, _], _ => ⟨_, rfl, rfl⟩
  exact ⟨f, fd, ds, g, F.kp, b, v, fn_is_whole T F⟩
theorem ok_is_whole_2 (T : Txt K mg c_BadRatio c_ONE c_ZERO) : Z.Ok CX0 P w K mg base "is_whole" 1 ["thing", "low", "high"] [.non] (sp_is_whole K) := by
  obtain ⟨f, fd, F, g⟩ := T.d_is_whole
  obtain ⟨ds, v, b⟩ := F.binds1 (ps := ["thing", "low", "high"]) 2 1 (by decide) rfl fun T kV doc pm an cdv ct us its h1 h2 => match us, h1, its, h2 with | [_, _], _, [_, _], _ => ⟨_, rfl, rfl⟩
  exact ⟨f, fd, ds, g, F.kp, b, v, fn_is_whole T F⟩
theorem ok_is_whole_3 (T : Txt K mg c_BadRatio c_ONE c_ZERO) : Z.Ok CX0 P w K mg base "is_whole" 1 ["thing", "low", "high"] [] (sp_is_whole K) := by
  obtain ⟨f, fd, F, g⟩ := T.d_is_whole
  obtain ⟨ds, v, b⟩ := F.binds1 (ps := ["thing", "low", "high"]) 3 2 (by decide) rfl fun T kV doc pm an cdv ct us its h1 h2 => match us, h1, its, h2 with | [_, _, _], _, [_, _], _ => ⟨_, rfl, rfl⟩
  exact ⟨f, fd, ds, g, F.kp, b, v, fn_is_whole T F⟩
theorem use_is_whole {H : Hp} {Q : VK} {E : XK} {a b c : V} {k : Z.Kd} (hk : Z.HasK K H a k) (hb : isBd b) (hc : isBd c) (q : Q (.bl (Z.inB a b c)) H) : sp_is_whole K [a, b, c] H Q E := ⟨_, _, _, rfl, k, hk, hb, hc, q⟩
local macro_rules | `(tactic| walk_at "zc") => `(tactic| ((with_reducible refine' use_is_whole ?zk ?zb ?zc ?_); (case zk => walk_at "zk"); (case zb => first | exact Or.inl rfl | exact Or.inr ⟨_, rfl⟩); (case zc => first | exact Or.inl rfl | exact Or.inr ⟨_, rfl⟩)))
def gLow {α : Type} : List α → List α → List α → List α
  | [x], [_, h], [z] => [x, z, h]
  | _, _, _ => []
def gHigh {α : Type} : List α → List α → List α → List α
  | [x], [l, _], [z] => [x, l, z]
  | _, _, _ => []
theorem gLow_rel {vs ds zs : List V} {us its ws : List Value} (h1 : Vals vs us) (h2 : Vals ds its) (h3 : Vals zs ws) : Vals (gLow vs ds zs) (gLow us its ws) := by
  cases h1 with
  | nil => exact .nil
  | cons a r1 =>
    cases r1 with
    | cons _ _ => exact .nil
    | nil =>
      cases h2 with
      | nil => exact .nil
      | cons b r2 =>
        cases r2 with
        | nil => exact .nil
        | cons c r3 =>
          cases r3 with
          | cons _ _ => exact .nil
          | nil =>
            cases h3 with
            | nil => exact .nil
            | cons d r4 =>
              cases r4 with
              | cons _ _ => exact .nil
              | nil => exact .cons a (.cons d (.cons c .nil))
theorem gHigh_rel {vs ds zs : List V} {us its ws : List Value} (h1 : Vals vs us) (h2 : Vals ds its) (h3 : Vals zs ws) : Vals (gHigh vs ds zs) (gHigh us its ws) := by
  cases h1 with
  | nil => exact .nil
  | cons a r1 =>
    cases r1 with
    | cons _ _ => exact .nil
    | nil =>
      cases h2 with
      | nil => exact .nil
      | cons b r2 =>
        cases r2 with
        | nil => exact .nil
        | cons c r3 =>
          cases r3 with
          | cons _ _ => exact .nil
          | nil =>
            cases h3 with
            | nil => exact .nil
            | cons d r4 =>
              cases r4 with
              | cons _ _ => exact .nil
              | nil => exact .cons a (.cons b (.cons d .nil))
theorem ok_is_whole_low (T : Txt K mg c_BadRatio c_ONE c_ZERO) : Z.OkN CX0 P w K mg base "is_whole" 1 ["thing", "low", "high"] ["low"] 1 (fun vs zs => gLow vs [.non, .non] zs) (sp_is_whole K) := by
  obtain ⟨f, fd, F, g⟩ := T.d_is_whole
  obtain ⟨its, b⟩ := F.kbindsD (ps := ["thing", "low", "high"]) 1 ["low"] gLow (by decide) (fun h1 h2 h3 => gLow_rel h1 h2 h3) fun T kV doc pm an cdv ct us its ws h1 h2 h3 => match us, h1, its, h2, ws, h3 with | [_], _, [_, _], _, [_], _ => ⟨_, rfl, rfl⟩
  exact ⟨f, fd, _, g, F.kp, b, fn_is_whole T F⟩
theorem ok_is_whole_high (T : Txt K mg c_BadRatio c_ONE c_ZERO) : Z.OkN CX0 P w K mg base "is_whole" 1 ["thing", "low", "high"] ["high"] 1 (fun vs zs => gHigh vs [.non, .non] zs) (sp_is_whole K) := by
  obtain ⟨f, fd, F, g⟩ := T.d_is_whole
  obtain ⟨its, b⟩ := F.kbindsD (ps := ["thing", "low", "high"]) 1 ["high"] gHigh (by decide) (fun h1 h2 h3 => gHigh_rel h1 h2 h3) fun T kV doc pm an cdv ct us its ws h1 h2 h3 => match us, h1, its, h2, ws, h3 with | [_], _, [_, _], _, [_], _ => ⟨_, rfl, rfl⟩
  exact ⟨f, fd, _, g, F.kp, b, fn_is_whole T F⟩
theorem sc_make_ratio : FnScope ["top", "bottom"] ["top", "bottom"] (defScope s_make_ratio) := ⟨rfl, rfl, rfl, by decide +kernel, rfl, by decide +kernel, by decide +kernel⟩
/-- the first word that is due of a ratio's parts -/
def ratioW (a b : V) : Option Str := if Z.inB a .non .non = false then some "top" else if Z.inB b .non .non = false ∨ b = .int 0 then some "bottom" else none
def sp_make_ratio (K : PySem.W.Frag) (cB : Addr) : Sp := Z.Sp2 fun a b H Q E => ∃ (L : List Z.En) (k1 k2 : Z.Kd), Z.Fx H L ∧ Z.Thing L a k1 ∧ Z.Thing L b k2 ∧ (∀ w, ratioW a b = some w → ∀ e H', Z.Fx H' (.ob e (.xd [("what", .str w)]) :: L) → E (.ref cB) (some e) H') ∧
  (∀ t d, a = .int t → b = .int d → d ≠ 0 → Sz 4000 d ∧ ∀ r H', Z.Fx H' (.ob r (.tup [.int (lowT t d), .int (lowB t d)]) :: L) → Q (.ref r) H')
theorem fn_make_ratio (T : Txt K mg c_BadRatio c_ONE c_ZERO) {f : Addr} {fd : FuncData} (F : FunD K "make_ratio" "make_ratio" (defArgs s_make_ratio) (defBody s_make_ratio) (defScope s_make_ratio) [.int 1] [] f fd) : FnOk P w K mg base (L2.CX P w) 3 f fd ["top", "bottom"] (sp_make_ratio K c_BadRatio) := by
  have O_BadRatio___init__ := ok_BadRatio___init__ (P := P) (w := w) (base := base) T
  have O__lowest := ok__lowest (P := P) (w := w) (base := base) T
  have O_is_whole_1 := ok_is_whole_1 (P := P) (w := w) (base := base) T
  have O_is_whole_2 := ok_is_whole_2 (P := P) (w := w) (base := base) T
  have O_is_whole_3 := ok_is_whole_3 (P := P) (w := w) (base := base) T
  refine F.ok (CX := (L2.CX P w)) sc_make_ratio (fun vs H Q E h => ?_) (fun cdv A outer s H vs Q E hr h => ?_)
  · obtain ⟨a, b, rfl, _⟩ := h; rfl
  · obtain ⟨a, b, rfl, h⟩ := h
    have TK := takes_of (X := cxOf (L2.CX P w) P w K mg base ["top", "bottom"] "make_ratio" (defScope s_make_ratio) f cdv A outer s H E) rfl rfl rfl rfl
    refine ⟨_, (pss_cons (ps_if (pt_not (Z.pt_truN (Z.pe_callO O_is_whole_1 (by rfl) (hr.mono (by decide)) pass0 (pa_cons (pv 0) pa_nil))))
        (pss_one (ps_raise (by rfl) TK (Z.pmk_errO T.x_BadRatio O_BadRatio___init__ (hr.mono (by decide)) T.g_BadRatio (by rfl) (pa_cons pe_str pa_nil))))
        pss_nil)
      (pss_cons (ps_if (PW.pt (pw_or (pt_not (Z.pt_truN (Z.pe_callO O_is_whole_1 (by rfl) (hr.mono (by decide)) pass0 (pa_cons (pv 1) pa_nil)))) (pw_or1 (pt_cmpR (Z.zEq (Z.hu0 hr)) (pv 1) pe_int (nomark _)))))
        (pss_one (ps_raise (by rfl) TK (Z.pmk_errO T.x_BadRatio O_BadRatio___init__ (hr.mono (by decide)) T.g_BadRatio (by rfl) (pa_cons pe_str pa_nil))))
        pss_nil)
      (pss_one (ps_ret (Z.pe_callO O__lowest (by rfl) (hr.mono (by decide)) pass0 (pa_cons (pv 0) (pa_cons (pv 1) pa_nil))))))), ?_⟩
    try dsimp only [cxOf, Cx.nox, Cx.wish]
    refine Z.at_start (σ' := [some a, some b]) rfl ?_
    obtain ⟨L, k1, k2, F, ha, hb, kE, kQ⟩ := h
    walk_at "z"
    refine use_is_whole (ha.has F) (.inl rfl) (.inl rfl) ?_
    walk_at "z"
    refine Z.wIf (fun h1 => ?_) (fun h1 => ?_)
    · have h1' : Z.inB a .non .non = false := by simpa using h1
      walk_at "z"
      refine Z.wMk1 T.x_BadRatio.oex T.n_BadRatio_what F fun e H2 F2 => kE _ (by unfold ratioW; rw [if_pos h1']) _ _ F2
    have h1' : Z.inB a .non .non = true := by simpa using h1
    obtain ⟨t, rfl⟩ : ∃ t, a = .int t := by
      cases a with
      | int i => exact ⟨i, rfl⟩
      | _ => exact absurd h1' (by simp [Z.inB])
    have n1 : ¬ Z.inB (.int t) .non .non = false := by rw [h1']; decide
    walk_at "z"
    refine use_is_whole (hb.has F) (.inl rfl) (.inl rfl) ?_
    walk_at "z"
    refine Z.wIf (fun h2 => ?_) (fun h2 => ?_)
    · have h2' : Z.inB b .non .non = false := by simpa using h2
      walk_at "z"
      refine Z.wMk1 T.x_BadRatio.oex T.n_BadRatio_what F fun e H2 F2 => kE _ (by unfold ratioW; rw [if_neg n1, if_pos (.inl h2')]) _ _ F2
    have h2' : Z.inB b .non .non = true := by simpa using h2
    obtain ⟨d, rfl⟩ : ∃ d, b = .int d := by
      cases b with
      | int i => exact ⟨i, rfl⟩
      | _ => exact absurd h2' (by simp [Z.inB])
    walk_at "z"
    refine Z.wIfD (fun h3 => ?_) (fun h3 => ?_)
    · subst h3
      walk_at "z"
      refine Z.wMk1 T.x_BadRatio.oex T.n_BadRatio_what F fun e H2 F2 => kE _ (by unfold ratioW; rw [if_neg n1, if_pos (.inr rfl)]) _ _ F2
    · obtain ⟨sd, kQ⟩ := kQ t d rfl rfl h3
      walk_at "z"
      exact use__lowest h3 sd F kQ
theorem ok_make_ratio_1 (T : Txt K mg c_BadRatio c_ONE c_ZERO) : Z.Ok (L2.CX P w) P w K mg base "make_ratio" 3 ["top", "bottom"] [.int 1] (sp_make_ratio K c_BadRatio) := by
  obtain ⟨f, fd, F, g⟩ := T.d_make_ratio
  obtain ⟨ds, v, b⟩ := F.binds1 (ps := ["top", "bottom"]) 1 0 (by decide) rfl fun T kV doc pm an cdv ct us its h1 h2 => match us, h1, its, h2 with | [_], _, [_], _ => ⟨_, rfl, rfl⟩
  exact ⟨f, fd, ds, g, F.kp, b, v, fn_make_ratio T F⟩
theorem ok_make_ratio_2 (T : Txt K mg c_BadRatio c_ONE c_ZERO) : Z.Ok (L2.CX P w) P w K mg base "make_ratio" 3 ["top", "bottom"] [] (sp_make_ratio K c_BadRatio) := by
  obtain ⟨f, fd, F, g⟩ := T.d_make_ratio
  obtain ⟨ds, v, b⟩ := F.binds1 (ps := ["top", "bottom"]) 2 1 (by decide) rfl fun T kV doc pm an cdv ct us its h1 h2 => match us, h1, its, h2 with | [_, _], _, [_], _ => ⟨_, rfl, rfl⟩
  exact ⟨f, fd, ds, g, F.kp, b, v, fn_make_ratio T F⟩
theorem use_make_ratio {cB : Addr} {H : Hp} {Q : VK} {E : XK} {L : List Z.En} {a b : V} {k1 k2 : Z.Kd} (F : Z.Fx H L) (ha : Z.Thing L a k1) (hb : Z.Thing L b k2) (kE : ∀ w, ratioW a b = some w → ∀ e H', Z.Fx H' (.ob e (.xd [("what", .str w)]) :: L) → E (.ref cB) (some e) H')
  (kQ : ∀ t d, a = .int t → b = .int d → d ≠ 0 → Sz 4000 d ∧ ∀ r H', Z.Fx H' (.ob r (.tup [.int (lowT t d), .int (lowB t d)]) :: L) → Q (.ref r) H') : sp_make_ratio K cB [a, b] H Q E := ⟨_, _, rfl, L, k1, k2, F, ha, hb, kE, kQ⟩
theorem sc__law_made : FnScope ["_law_top", "_law_bottom", "_law_told", "raised"] ["_law_top", "_law_bottom"] (defScope s__law_made) := ⟨rfl, rfl, rfl, by decide +kernel, rfl, by decide +kernel, by decide +kernel⟩
/-- at p the row of a refusal -/
def RefAt (L : List Z.En) (v : V) (w : Str) : Prop := ∃ p, v = .ref p ∧ Z.En.ob p (.lst [.str ("refused" : Str), .str w]) ∈ L
def sp__law_made (K : PySem.W.Frag) : Sp := Z.Sp2 fun a b H Q E => ∃ (L : List Z.En) (k1 k2 : Z.Kd), Z.Fx H L ∧ Z.Thing L a k1 ∧ Z.Thing L b k2 ∧ (∀ w, ratioW a b = some w → ∀ v L1 H', L.Sublist L1 → RefAt L1 v w → Z.Fx H' L1 → Q v H') ∧
  (∀ t d, a = .int t → b = .int d → d ≠ 0 → Sz 4000 d ∧ ∀ r H', Z.Fx H' (.ob r (.tup [.int (lowT t d), .int (lowB t d)]) :: L) → Q (.ref r) H')
theorem fn__law_made (T : Txt K mg c_BadRatio c_ONE c_ZERO) {f : Addr} {fd : FuncData} (F : Fun K "_law_made" "_law_made" s__law_made f fd) : FnOk P w K mg base CX0 4 f fd ["_law_top", "_law_bottom"] (sp__law_made K) := by
  have O_make_ratio_1 := ok_make_ratio_1 (P := P) (w := w) (base := base) T
  have O_make_ratio_2 := ok_make_ratio_2 (P := P) (w := w) (base := base) T
  refine F.ok sc__law_made (fun vs H Q E h => ?_) (fun cdv A outer s H vs Q E hr h => ?_)
  · obtain ⟨a, b, rfl, _⟩ := h; rfl
  · obtain ⟨a, b, rfl, h⟩ := h
    refine ⟨_, (pss_cons (ps_try_as (i := 3) rfl rfl sc__law_made.nd rfl rfl ⟨rfl, by decide, Or.inl T.g_BadRatio⟩ takes0 (fun W pn xe tk _ => (by exact (pss_one (ps_set (i := 2) sc__law_made.nd rfl (by first | exact Or.inl rfl | exact Or.inr rfl) (Z.pe_callSO O_make_ratio_2 (by rfl) (hr.mono (by decide)) (fun σ => passAt tk σ) (pa_cons (pv 0) (pa_cons (pv 1) pa_nil)))))))
        (fun a oe cls d pn hz hf => (by exact (pss_one (ps_ret (pe_lst (pa_cons pe_str (pa_cons (pe_xf T.x_BadRatio.xf T.n_BadRatio_what hz hf (pv 3)) pa_nil))))))))
      (pss_one (ps_ret (pv 2)))), ?_⟩
    try dsimp only [cxOf, Cx.nox, Cx.wish]
    refine Z.at_start (σ' := [some a, some b, none, none]) rfl ?_
    obtain ⟨L, k1, k2, F, ha, hb, kE, kQ⟩ := h
    walk_at "z"
    refine use_make_ratio F ha hb (fun w hw e H1 F1 => ?_) fun t d e1 e2 e3 => ?_
    · refine Z.wAs_yes T.x_BadRatio.me fun q hq => ?_
      simp only [List.set_cons_zero, List.set_cons_succ]
      walk_at "z"
      refine Z.wXf ?_
      walk_at "z"
      refine ⟨rfl, rfl, e, _, V.str w, rfl, F1.get List.mem_cons_self, by simp [List.lookup], ?_⟩
      walk_at "z"
      rename_i p2 H2 F2
      exact kE w hw _ _ _ (.cons _ (.cons _ (.refl _))) ⟨p2, rfl, .head _⟩ F2
    · obtain ⟨sd, kQ⟩ := kQ t d e1 e2 e3
      refine ⟨sd, fun r H1 F1 => ?_⟩
      walk_at "z"
      exact kQ r H1 F1
theorem ok__law_made (T : Txt K mg c_BadRatio c_ONE c_ZERO) : Z.Ok CX0 P w K mg base "_law_made" 4 ["_law_top", "_law_bottom"] [] (sp__law_made K) := by
  obtain ⟨f, fd, F, g⟩ := T.d__law_made
  exact Z.mkOk F g (F.binds (ps := ["_law_top", "_law_bottom"]) fun _ _ _ _ _ _ us hl => match us, hl with | [_, _], _ => rfl) (fn__law_made T F)
theorem use__law_made {H : Hp} {Q : VK} {E : XK} {L : List Z.En} {a b : V} {k1 k2 : Z.Kd} (F : Z.Fx H L) (ha : Z.Thing L a k1) (hb : Z.Thing L b k2) (kE : ∀ w, ratioW a b = some w → ∀ v L1 H', L.Sublist L1 → RefAt L1 v w → Z.Fx H' L1 → Q v H')
  (kQ : ∀ t d, a = .int t → b = .int d → d ≠ 0 → Sz 4000 d ∧ ∀ r H', Z.Fx H' (.ob r (.tup [.int (lowT t d), .int (lowB t d)]) :: L) → Q (.ref r) H') : sp__law_made K [a, b] H Q E := ⟨_, _, rfl, L, k1, k2, F, ha, hb, kE, kQ⟩
theorem sc__law_gcd : FnScope ["_law_one", "_law_other", "_law_rest"] ["_law_one", "_law_other"] (defScope s__law_gcd) := ⟨rfl, rfl, rfl, by decide +kernel, rfl, by decide +kernel, by decide +kernel⟩
def sp__law_gcd (K : PySem.W.Frag) : Sp := Z.Sp2 fun x y H Q E => ∃ a b : Int, x = .int a ∧ y = .int b ∧ Q (.int ((Nat.gcd a.natAbs b.natAbs : Nat) : Int)) H
theorem fn__law_gcd (T : Txt K mg c_BadRatio c_ONE c_ZERO) {f : Addr} {fd : FuncData} (F : Fun K "_law_gcd" "_law_gcd" s__law_gcd f fd) : FnOk P w K mg base CX0 1 f fd ["_law_one", "_law_other"] (sp__law_gcd K) := by
  refine F.ok sc__law_gcd (fun vs H Q E h => ?_) (fun cdv A outer s H vs Q E hr h => ?_)
  · obtain ⟨a, b, rfl, _⟩ := h; rfl
  · obtain ⟨a, b, rfl, h⟩ := h
    refine ⟨_, (pss_cons (ps_set (i := 0) sc__law_gcd.nd rfl (by first | exact Or.inl rfl | exact Or.inr rfl) (pe_callB Z.zAbs (by rfl) T.b_abs (by decide +kernel) (pa_cons (pv 0) pa_nil)))
      (pss_cons (ps_set (i := 1) sc__law_gcd.nd rfl (by first | exact Or.inl rfl | exact Or.inr rfl) (pe_callB Z.zAbs (by rfl) T.b_abs (by decide +kernel) (pa_cons (pv 1) pa_nil)))
      (pss_cons (ps_while PassesOwn.never (pt_cmpR Z.zGt (pv 1) pe_int (nomark _))
        (pss_cons (ps_set (i := 2) sc__law_gcd.nd rfl (by first | exact Or.inl rfl | exact Or.inr rfl) (pe_op Z.zMod (pe_callTy Z.zInt (by rfl) T.b_int (by decide +kernel) (pa_cons (pv 0) pa_nil)) (pv 1)))
        (pss_cons (ps_set (i := 0) sc__law_gcd.nd rfl (by first | exact Or.inl rfl | exact Or.inr rfl) (pv 1))
        (pss_one (ps_set (i := 1) sc__law_gcd.nd rfl (by first | exact Or.inl rfl | exact Or.inr rfl) (pv 2))))))
      (pss_one (ps_ret (pv 0)))))), ?_⟩
    try dsimp only [cxOf, Cx.nox, Cx.wish]
    refine Z.at_start (σ' := [some a, some b, none]) rfl ?_
    obtain ⟨a, b, rfl, rfl, k⟩ := h
    walk_at "z"
    have ha : ∀ a : Int, (if a < 0 then -a else a) = (a.natAbs : Int) := fun a => by split <;> omega
    rw [ha, ha]
    refine Z.wWhile (fun m σ H' => ∃ (u v : Nat) (r : Option V), σ = [some (.int u), some (.int v), r] ∧ m = v ∧ H' = H ∧ Nat.gcd u v = Nat.gcd a.natAbs b.natAbs) b.natAbs ⟨_, _, _, rfl, rfl, rfl, rfl⟩ ?_
    rintro m σ H1 ⟨u, v, r, rfl, hm, rfl, hg⟩
    rw [hm]
    clear hm
    walk_at "y"
    refine Z.wIfD (fun h => ?_) (fun h => ?_)
    · have hv : 0 < v := by omega
      walk_at "y"
      refine ⟨u % v, Nat.mod_lt _ hv, v, u % v, _, by rw [Int.natCast_emod], rfl, rfl, ?_⟩
      rw [← hg, Nat.gcd_comm u v, Nat.gcd_rec v u, Nat.gcd_comm]
    · have hv : v = 0 := by omega
      subst hv
      walk_at "z"
      rw [Nat.gcd_zero_right] at hg
      rw [hg]
      exact k
theorem ok__law_gcd (T : Txt K mg c_BadRatio c_ONE c_ZERO) : Z.Ok CX0 P w K mg base "_law_gcd" 1 ["_law_one", "_law_other"] [] (sp__law_gcd K) := by
  obtain ⟨f, fd, F, g⟩ := T.d__law_gcd
  exact Z.mkOk F g (F.binds (ps := ["_law_one", "_law_other"]) fun _ _ _ _ _ _ us hl => match us, hl with | [_, _], _ => rfl) (fn__law_gcd T F)
theorem use__law_gcd {H : Hp} {Q : VK} {E : XK} {a b : Int} (k : Q (.int ((Nat.gcd a.natAbs b.natAbs : Nat) : Int)) H) : sp__law_gcd K [.int a, .int b] H Q E := ⟨_, _, rfl, a, b, rfl, rfl, k⟩
theorem sc__law_lowest : FnScope ["_law_top", "_law_bottom", "_law_share"] ["_law_top", "_law_bottom"] (defScope s__law_lowest) := ⟨rfl, rfl, rfl, by decide +kernel, rfl, by decide +kernel, by decide +kernel⟩
def sp__law_lowest (K : PySem.W.Frag) : Sp := Z.Sp2 fun x y H Q E => ∃ (L : List Z.En) (t b : Int), x = .int t ∧ y = .int b ∧ b ≠ 0 ∧ Sz 4000 b ∧ Z.Fx H L ∧ ∀ r H', Z.Fx H' (.ob r (.tup [.int (lowT t b), .int (lowB t b)]) :: L) → Q (.ref r) H'
theorem fn__law_lowest (T : Txt K mg c_BadRatio c_ONE c_ZERO) {f : Addr} {fd : FuncData} (F : Fun K "_law_lowest" "_law_lowest" s__law_lowest f fd) : FnOk P w K mg base CX0 2 f fd ["_law_top", "_law_bottom"] (sp__law_lowest K) := by
  have O__law_gcd := ok__law_gcd (P := P) (w := w) (base := base) T
  refine F.ok sc__law_lowest (fun vs H Q E h => ?_) (fun cdv A outer s H vs Q E hr h => ?_)
  · obtain ⟨a, b, rfl, _⟩ := h; rfl
  · obtain ⟨a, b, rfl, h⟩ := h
    refine ⟨_, (pss_cons (ps_set (i := 2) sc__law_lowest.nd rfl (by first | exact Or.inl rfl | exact Or.inr rfl) (Z.pe_callO O__law_gcd (by rfl) (hr.mono (by decide)) pass0 (pa_cons (pv 0) (pa_cons (pv 1) pa_nil))))
      (pss_cons (ps_if (pt_cmpR Z.zLt (pv 1) pe_int (nomark _))
        (pss_one (ps_set (i := 2) sc__law_lowest.nd rfl (by first | exact Or.inl rfl | exact Or.inr rfl) (pe_un un_neg (pv 2))))
        pss_nil)
      (pss_one (ps_ret (pe_tup (pa_cons (pe_op Z.zDivA (pv 0) (pv 2)) (pa_cons (pe_op Z.zDivA (pv 1) (pv 2)) pa_nil))))))), ?_⟩
    try dsimp only [cxOf, Cx.nox, Cx.wish]
    refine Z.at_start (σ' := [some a, some b, none]) rfl ?_
    obtain ⟨L, t, b, rfl, rfl, hb, sb, F, k⟩ := h
    walk_at "y"
    refine use__law_gcd ?_
    walk_at "y"
    refine Z.wMidS (fun σ' H' => σ' = [some (.int t), some (.int b), some (.int (shr t b))] ∧ H' = H) (fun N hk => ?_) ?_
    · unfold shr at hk
      walk_at "z"
      refine Z.wIfD (fun h => ?_) (fun h => ?_)
      · rw [if_pos h] at hk
        walk_at "z"
        exact hk _ _ ⟨rfl, rfl⟩
      · rw [if_neg h] at hk
        walk_at "z"
        exact hk _ _ ⟨rfl, rfl⟩
    rintro _ _ ⟨rfl, rfl⟩
    have s0 := shr_ne (t := t) hb
    have s9 := (Sz.shr (t := t) sb hb).log (by decide)
    walk_at "z"
    exact k _ _ (by assumption)
theorem ok__law_lowest (T : Txt K mg c_BadRatio c_ONE c_ZERO) : Z.Ok CX0 P w K mg base "_law_lowest" 2 ["_law_top", "_law_bottom"] [] (sp__law_lowest K) := by
  obtain ⟨f, fd, F, g⟩ := T.d__law_lowest
  exact Z.mkOk F g (F.binds (ps := ["_law_top", "_law_bottom"]) fun _ _ _ _ _ _ us hl => match us, hl with | [_, _], _ => rfl) (fn__law_lowest T F)
theorem use__law_lowest {H : Hp} {Q : VK} {E : XK} {L : List Z.En} {t b : Int} (hb : b ≠ 0) (sb : Sz 4000 b) (F : Z.Fx H L) (k : ∀ r H', Z.Fx H' (.ob r (.tup [.int (lowT t b), .int (lowB t b)]) :: L) → Q (.ref r) H') : sp__law_lowest K [.int t, .int b] H Q E := ⟨_, _, rfl, L, t, b, rfl, rfl, hb, sb, F, k⟩
theorem sc__law_whole : FnScope ["_law_thing"] ["_law_thing"] (defScope s__law_whole) := ⟨rfl, rfl, rfl, by decide +kernel, rfl, by decide +kernel, by decide +kernel⟩
def isI (v : V) : Bool := match v with | .int _ => true | _ => false
def sp__law_whole (K : PySem.W.Frag) : Sp := Z.Sp1 fun a H Q E => ∃ k, Z.HasK K H a k ∧ Q (.bl (isI a)) H
theorem fn__law_whole (T : Txt K mg c_BadRatio c_ONE c_ZERO) {f : Addr} {fd : FuncData} (F : Fun K "_law_whole" "_law_whole" s__law_whole f fd) : FnOk P w K mg base CX0 1 f fd ["_law_thing"] (sp__law_whole K) := by
  refine F.ok sc__law_whole (fun vs H Q E h => ?_) (fun cdv A outer s H vs Q E hr h => ?_)
  · obtain ⟨a, rfl, _⟩ := h; rfl
  · obtain ⟨a, rfl, h⟩ := h
    refine ⟨_, (pss_one (ps_ret (pe_andT (pe_callB Z.zIsi (by rfl) T.b_isinstance (by decide +kernel) (pa_cons (pv 0) (pa_cons (pe_bltn (by rfl) T.b_int (by decide +kernel) (show RelV (.ty "int") _ from rfl)) pa_nil))) (pe_one (pe_notT (pe_callB Z.zIsi (by rfl) T.b_isinstance (by decide +kernel) (pa_cons (pv 0) (pa_cons (pe_bltn (by rfl) T.b_bool (by decide +kernel) (show RelV (.ty "bool") _ from rfl)) pa_nil)))))))), ?_⟩
    try dsimp only [cxOf, Cx.nox, Cx.wish]
    refine Z.at_start (σ' := [some a]) rfl ?_
    obtain ⟨k, hk, q⟩ := h
    walk_at "z"
    refine Z.wIsiInt hk ?_
    cases hk with
    | int i =>
      walk_at "z"
      refine Z.wIsiBool (.int i) ?_
      walk_at "z"
      exact q
    | bl b =>
      walk_at "z"
      refine Z.wIsiBool (.bl b) ?_
      walk_at "z"
      exact q
    | _ =>
      walk_at "z"
      exact q
theorem ok__law_whole (T : Txt K mg c_BadRatio c_ONE c_ZERO) : Z.Ok CX0 P w K mg base "_law_whole" 1 ["_law_thing"] [] (sp__law_whole K) := by
  obtain ⟨f, fd, F, g⟩ := T.d__law_whole
  exact Z.mkOk F g (F.binds (ps := ["_law_thing"]) fun _ _ _ _ _ _ us hl => match us, hl with | [_], _ => rfl) (fn__law_whole T F)
theorem use__law_whole {H : Hp} {Q : VK} {E : XK} {a : V} {k : Z.Kd} (hk : Z.HasK K H a k) (q : Q (.bl (isI a)) H) : sp__law_whole K [a] H Q E := ⟨_, rfl, k, hk, q⟩
local macro_rules | `(tactic| walk_at "zc") => `(tactic| ((with_reducible refine' use__law_whole ?zk ?_); (case zk => walk_at "zk")))
theorem sc__law_is : FnScope ["_law_told", "_law_due"] ["_law_told", "_law_due"] (defScope s__law_is) := ⟨rfl, rfl, rfl, by decide +kernel, rfl, by decide +kernel, by decide +kernel⟩
def sp__law_is (K : PySem.W.Frag) : Sp := Z.Sp2 fun x y H Q E => ∃ (L : List Z.En) (a b c d : Int), Z.Fx H L ∧ Z.Rt K L x a b ∧ Z.Rt K L y c d ∧ Q (.bl (decide (a = c) && decide (b = d))) H
theorem fn__law_is (T : Txt K mg c_BadRatio c_ONE c_ZERO) {f : Addr} {fd : FuncData} (F : Fun K "_law_is" "_law_is" s__law_is f fd) : FnOk P w K mg base CX0 2 f fd ["_law_told", "_law_due"] (sp__law_is K) := by
  have O__law_whole := ok__law_whole (P := P) (w := w) (base := base) T
  refine F.ok sc__law_is (fun vs H Q E h => ?_) (fun cdv A outer s H vs Q E hr h => ?_)
  · obtain ⟨a, b, rfl, _⟩ := h; rfl
  · obtain ⟨a, b, rfl, h⟩ := h
    refine ⟨_, (pss_cons (ps_if (PW.pt (pw_or (pt_not (Z.pt_truN (pe_callB Z.zIsi (by rfl) T.b_isinstance (by decide +kernel) (pa_cons (pv 0) (pa_cons (pe_bltn (by rfl) T.b_tuple (by decide +kernel) (show RelV (.ty "tuple") _ from rfl)) pa_nil))))) (pw_or1 (pt_cmpR (Z.zNe (Z.hu0 hr)) (pe_callB Z.zLen (by rfl) T.b_len (by decide +kernel) (pa_cons (pv 0) pa_nil)) pe_int (nomark _)))))
        (pss_one (ps_ret pe_bl))
        pss_nil)
      (pss_one (ps_ret (pe_andT (Z.pe_callO O__law_whole (by rfl) (hr.mono (by decide)) pass0 (pa_cons (pe_ix ix_seq (pv 0) pe_int (fun _ _ => rfl)) pa_nil)) (pe_andT (Z.pe_callO O__law_whole (by rfl) (hr.mono (by decide)) pass0 (pa_cons (pe_ix ix_seq (pv 0) pe_int (fun _ _ => rfl)) pa_nil)) (pe_andT (pe_cmpR (Z.zEq (Z.hu0 hr)) (pe_ix ix_seq (pv 0) pe_int (fun _ _ => rfl)) (pe_ix ix_seq (pv 1) pe_int (fun _ _ => rfl)) (nomark _)) (pe_one (pe_cmpR (Z.zEq (Z.hu0 hr)) (pe_ix ix_seq (pv 0) pe_int (fun _ _ => rfl)) (pe_ix ix_seq (pv 1) pe_int (fun _ _ => rfl)) (nomark _))))))))), ?_⟩
    try dsimp only [cxOf, Cx.nox, Cx.wish]
    refine Z.at_start (σ' := [some a, some b]) rfl ?_
    obtain ⟨L, a, b, c, d, F, hx, hy, k⟩ := h
    obtain ⟨p, rfl, s1⟩ := hx.sq F
    obtain ⟨q, rfl, s2⟩ := hy.sq F
    walk_at "z"
    refine Z.wIsiTuple (.tup s1) ?_
    walk_at "z"
    refine Z.wIfD (fun h => ?_) (fun h => ?_)
    · rw [decide_eq_true h, Bool.true_and] at k
      walk_at "z"
      exact k
    · rw [decide_eq_false h] at k ⊢
      exact k
theorem ok__law_is (T : Txt K mg c_BadRatio c_ONE c_ZERO) : Z.Ok CX0 P w K mg base "_law_is" 2 ["_law_told", "_law_due"] [] (sp__law_is K) := by
  obtain ⟨f, fd, F, g⟩ := T.d__law_is
  exact Z.mkOk F g (F.binds (ps := ["_law_told", "_law_due"]) fun _ _ _ _ _ _ us hl => match us, hl with | [_, _], _ => rfl) (fn__law_is T F)
theorem use__law_is {H : Hp} {Q : VK} {E : XK} {L : List Z.En} {x y : V} {a b c d : Int} (F : Z.Fx H L) (hx : Z.Rt K L x a b) (hy : Z.Rt K L y c d) (k : Q (.bl (decide (a = c) && decide (b = d))) H) : sp__law_is K [x, y] H Q E := ⟨_, _, rfl, L, a, b, c, d, F, hx, hy, k⟩
theorem sc__law_odd : FnScope ["_law_hand_here"] ["_law_hand_here"] (defScope s__law_odd) := ⟨rfl, rfl, rfl, by decide +kernel, rfl, by decide +kernel, by decide +kernel⟩
/-- an odd thing: no whole number; a list or tuple of whole numbers, perhaps -/
inductive Odd : V → List Z.En → Prop where
  | non : Odd .non []
  | bl (b : Bool) : Odd (.bl b) []
  | str (z : Str) : (z.length ≤ 1 ∧ PyData.strOk z = true) → Odd (.str z) []
  | tup0 (p : Addr) : Odd (.ref p) [.ob p (.tup [])]
  | lst1 (p : Addr) : Odd (.ref p) [.ob p (.lst [.int 1])]
  | tup2 (p : Addr) : Odd (.ref p) [.ob p (.tup [.int 1, .int 2])]
def sp__law_odd (K : PySem.W.Frag) : Sp := Z.Sp1 fun a H Q E => ∃ (L : List Z.En) (l c : Addr), a = .ref l ∧ Z.Fx H L ∧ Z.En.hand l c ∈ L ∧ ∀ v N H', Odd v N → Z.Fx H' (N ++ L) → Q v H'
theorem fn__law_odd (T : Txt K mg c_BadRatio c_ONE c_ZERO) {f : Addr} {fd : FuncData} (F : Fun K "_law_odd" "_law_odd" s__law_odd f fd) : FnOk P w K mg base CX0 3 f fd ["_law_hand_here"] (sp__law_odd K) := by
  have O__law_take := ok__law_take (P := P) (w := w) (base := base) T
  refine F.ok sc__law_odd (fun vs H Q E h => ?_) (fun cdv A outer s H vs Q E hr h => ?_)
  · obtain ⟨a, rfl, _⟩ := h; rfl
  · obtain ⟨a, rfl, h⟩ := h
    refine ⟨_, (pss_one (ps_ret (pe_ix ix_seq (pe_lst (pa_cons pe_non (pa_cons pe_bl (pa_cons pe_bl (pa_cons pe_str (pa_cons pe_str (pa_cons (pe_tup pa_nil) (pa_cons (pe_lst (pa_cons pe_int pa_nil)) (pa_cons (pe_tup (pa_cons pe_int (pa_cons pe_int pa_nil))) pa_nil))))))))) (Z.pe_callO O__law_take (by rfl) (hr.mono (by decide)) pass0 (pa_cons (pv 0) (pa_cons pe_int pa_nil))) (fun _ _ => rfl)))), ?_⟩
    try dsimp only [cxOf, Cx.nox, Cx.wish]
    refine Z.at_start (σ' := [some a]) rfl ?_
    obtain ⟨L, l, c, rfl, F, hm, k⟩ := h
    walk_at "z"
    rename_i p0 H0 F0 p1 H1 F1 p2 H2 F2 p3 H3 F3 v H4 F4 h0 h1
    rcases (by omega : v = 0 ∨ v = 1 ∨ v = 2 ∨ v = 3 ∨ v = 4 ∨ v = 5 ∨ v = 6 ∨ v = 7) with rfl | rfl | rfl | rfl | rfl | rfl | rfl | rfl <;> walk_at "z"
    · exact k _ _ _ .non (F4.sub (by walk_at "zsub"))
    · exact k _ _ _ (.bl _) (F4.sub (by walk_at "zsub"))
    · exact k _ _ _ (.bl _) (F4.sub (by walk_at "zsub"))
    · exact k _ _ _ (.str _ (by decide +kernel)) (F4.sub (by walk_at "zsub"))
    · exact k _ _ _ (.str _ (by decide +kernel)) (F4.sub (by walk_at "zsub"))
    · exact k _ _ _ (.tup0 _) (F4.sub (by walk_at "zsub"))
    · exact k _ _ _ (.lst1 _) (F4.sub (by walk_at "zsub"))
    · exact k _ _ _ (.tup2 _) (F4.sub (by walk_at "zsub"))
theorem ok__law_odd (T : Txt K mg c_BadRatio c_ONE c_ZERO) : Z.Ok CX0 P w K mg base "_law_odd" 3 ["_law_hand_here"] [] (sp__law_odd K) := by
  obtain ⟨f, fd, F, g⟩ := T.d__law_odd
  exact Z.mkOk F g (F.binds (ps := ["_law_hand_here"]) fun _ _ _ _ _ _ us hl => match us, hl with | [_], _ => rfl) (fn__law_odd T F)
theorem use__law_odd {H : Hp} {Q : VK} {E : XK} {L : List Z.En} {l c : Addr} (F : Z.Fx H L) (hm : Z.En.hand l c ∈ L) (k : ∀ v N H', Odd v N → Z.Fx H' (N ++ L) → Q v H') : sp__law_odd K [.ref l] H Q E := ⟨_, rfl, L, l, c, rfl, F, hm, k⟩
theorem odd_data {L N : List Z.En} {v : V} (o : Odd v N) : ∃ d, Z.Dt (N ++ L) v d ∧ Z.Sh d 1 := by
  cases o with
  | non => exact ⟨_, .non, rfl, Nat.zero_le _⟩
  | bl b => exact ⟨_, .bl b, rfl, Nat.zero_le _⟩
  | str z hz => exact ⟨_, .str z, hz.2, Nat.zero_le _⟩
  | tup0 p => exact ⟨_, .tup List.mem_cons_self .nil, rfl, Nat.le_refl _⟩
  | lst1 p => exact ⟨_, .lst List.mem_cons_self (.cons (.int 1) .nil), rfl, Nat.le_refl _⟩
  | tup2 p => exact ⟨_, .tup List.mem_cons_self (.cons (.int 1) (.cons (.int 2) .nil)), rfl, Nat.le_refl _⟩
theorem Dt.thing {L : List Z.En} {v : V} {d : PyData} (h : Z.Dt L v d) : ∃ k, Z.Thing L v k := by
  cases h with
  | non => exact ⟨_, .non⟩
  | bl b => exact ⟨_, .bl b⟩
  | int i => exact ⟨_, .int i⟩
  | str z => exact ⟨_, .str z⟩
  | lst m _ => exact ⟨_, .lst m⟩
  | tup m _ => exact ⟨_, .tup m⟩
theorem odd_inB {N : List Z.En} {v lo hi : V} (o : Odd v N) : Z.inB v lo hi = false := by
  cases o <;> rfl
theorem sc_over : FnScope ["one", "other"] ["one", "other"] (defScope s_over) := ⟨rfl, rfl, rfl, by decide +kernel, rfl, by decide +kernel, by decide +kernel⟩
def sp_over (K : PySem.W.Frag) (cB : Addr) : Sp := Z.Sp2 fun x y H Q E => ∃ (L : List Z.En) (a b c d : Int), Z.Fx H L ∧ Z.Rt K L x a b ∧ Z.Rt K L y c d ∧ Sz 1900 a ∧ Sz 1900 b ∧ Sz 1900 c ∧ Sz 1900 d ∧ b ≠ 0 ∧ d ≠ 0 ∧ (c = 0 → ∀ e H', Z.Fx H' (.ob e (.xd [("what", .str ("zero" : Str))]) :: L) → E (.ref cB) (some e) H') ∧ (c ≠ 0 → ∀ r H', Z.Fx H' (.ob r (.tup [.int (lowT (a * d) (b * c)), .int (lowB (a * d) (b * c))]) :: L) → Q (.ref r) H')
theorem fn_over (T : Txt K mg c_BadRatio c_ONE c_ZERO) {f : Addr} {fd : FuncData} (F : Fun K "over" "over" s_over f fd) : FnOk P w K mg base (L2.CX P w) 3 f fd ["one", "other"] (sp_over K c_BadRatio) := by
  have O_BadRatio___init__ := ok_BadRatio___init__ (P := P) (w := w) (base := base) T
  have O__lowest := ok__lowest (P := P) (w := w) (base := base) T
  refine F.okX sc_over (fun vs H Q E h => ?_) (fun cdv A outer s H vs Q E hr h => ?_)
  · obtain ⟨a, b, rfl, _⟩ := h; rfl
  · obtain ⟨a, b, rfl, h⟩ := h
    have TK := takes_of (X := cxOf (L2.CX P w) P w K mg base ["one", "other"] "over" (defScope s_over) f cdv A outer s H E) rfl rfl rfl rfl
    refine ⟨_, (pss_cons (ps_if (pt_cmpR (Z.zEq (Z.hu0 hr)) (pe_ix ix_seq (pv 1) pe_int (fun _ _ => rfl)) pe_int (nomark _))
        (pss_one (ps_raise (by rfl) TK (Z.pmk_errO T.x_BadRatio O_BadRatio___init__ (hr.mono (by decide)) T.g_BadRatio (by rfl) (pa_cons pe_str pa_nil))))
        pss_nil)
      (pss_one (ps_ret (Z.pe_callO O__lowest (by rfl) (hr.mono (by decide)) pass0 (pa_cons (pe_op Z.zMul (pe_ix ix_seq (pv 0) pe_int (fun _ _ => rfl)) (pe_ix ix_seq (pv 1) pe_int (fun _ _ => rfl))) (pa_cons (pe_op Z.zMul (pe_ix ix_seq (pv 0) pe_int (fun _ _ => rfl)) (pe_ix ix_seq (pv 1) pe_int (fun _ _ => rfl))) pa_nil)))))), ?_⟩
    try dsimp only [cxOf, Cx.nox, Cx.wish]
    refine Z.at_start (σ' := [some a, some b]) rfl ?_
    obtain ⟨L, a, b, c, d, F, hx, hy, sa, sb, sc, sd, b0, d0, kE, kQ⟩ := h
    obtain ⟨p, rfl, sp1⟩ := hx.sq F
    obtain ⟨q, rfl, sp2⟩ := hy.sq F
    have c1 : L2.CMulW a d := ratio_mul sa sd
    have c2 : L2.CMulW b c := ratio_mul sb sc
    walk_at "z"
    refine Z.wIfD (fun h => ?_) (fun h => ?_)
    · walk_at "z"
      refine Z.wMk1 T.x_BadRatio.oex T.n_BadRatio_what F fun e H2 F2 => kE h _ _ F2
    · walk_at "z"
      exact use__lowest (Int.mul_ne_zero b0 h) ((sb.mul sc).mono (by decide)) F (kQ h)
theorem ok_over (T : Txt K mg c_BadRatio c_ONE c_ZERO) : Z.Ok (L2.CX P w) P w K mg base "over" 3 ["one", "other"] [] (sp_over K c_BadRatio) := by
  obtain ⟨f, fd, F, g⟩ := T.d_over
  exact Z.mkOk F g (F.binds (ps := ["one", "other"]) fun _ _ _ _ _ _ us hl => match us, hl with | [_, _], _ => rfl) (fn_over T F)
theorem use_over {cB : Addr} {H : Hp} {Q : VK} {E : XK} {L : List Z.En} {x y : V} {a b c d : Int} (F : Z.Fx H L) (hx : Z.Rt K L x a b) (hy : Z.Rt K L y c d) (sa : Sz 1900 a) (sb : Sz 1900 b) (sc : Sz 1900 c) (sd : Sz 1900 d) (b0 : b ≠ 0) (d0 : d ≠ 0) (kE : c = 0 → ∀ e H', Z.Fx H' (.ob e (.xd [("what", .str ("zero" : Str))]) :: L) → E (.ref cB) (some e) H') (kQ : c ≠ 0 → ∀ r H', Z.Fx H' (.ob r (.tup [.int (lowT (a * d) (b * c)), .int (lowB (a * d) (b * c))]) :: L) → Q (.ref r) H') : sp_over K cB [x, y] H Q E := ⟨_, _, rfl, L, a, b, c, d, F, hx, hy, sa, sb, sc, sd, b0, d0, kE, kQ⟩
theorem sc__law_over : FnScope ["_law_one", "_law_other", "_law_told", "raised"] ["_law_one", "_law_other"] (defScope s__law_over) := ⟨rfl, rfl, rfl, by decide +kernel, rfl, by decide +kernel, by decide +kernel⟩
def sp__law_over (K : PySem.W.Frag) : Sp := Z.Sp2 fun x y H Q E => ∃ (L : List Z.En) (a b c d : Int), Z.Fx H L ∧ Z.Rt K L x a b ∧ Z.Rt K L y c d ∧ Sz 1900 a ∧ Sz 1900 b ∧ Sz 1900 c ∧ Sz 1900 d ∧ b ≠ 0 ∧ d ≠ 0 ∧ (c = 0 → ∀ v L1 H', L.Sublist L1 → RefAt L1 v "zero" → Z.Fx H' L1 → Q v H') ∧ (c ≠ 0 → ∀ r H', Z.Fx H' (.ob r (.tup [.int (lowT (a * d) (b * c)), .int (lowB (a * d) (b * c))]) :: L) → Q (.ref r) H')
theorem fn__law_over (T : Txt K mg c_BadRatio c_ONE c_ZERO) {f : Addr} {fd : FuncData} (F : Fun K "_law_over" "_law_over" s__law_over f fd) : FnOk P w K mg base CX0 4 f fd ["_law_one", "_law_other"] (sp__law_over K) := by
  have O_over := ok_over (P := P) (w := w) (base := base) T
  refine F.ok sc__law_over (fun vs H Q E h => ?_) (fun cdv A outer s H vs Q E hr h => ?_)
  · obtain ⟨a, b, rfl, _⟩ := h; rfl
  · obtain ⟨a, b, rfl, h⟩ := h
    refine ⟨_, (pss_cons (ps_try_as (i := 3) rfl rfl sc__law_over.nd rfl rfl ⟨rfl, by decide, Or.inl T.g_BadRatio⟩ takes0 (fun W pn xe tk _ => (by exact (pss_one (ps_set (i := 2) sc__law_over.nd rfl (by first | exact Or.inl rfl | exact Or.inr rfl) (Z.pe_callSO O_over (by rfl) (hr.mono (by decide)) (fun σ => passAt tk σ) (pa_cons (pv 0) (pa_cons (pv 1) pa_nil)))))))
        (fun a oe cls d pn hz hf => (by exact (pss_one (ps_ret (pe_lst (pa_cons pe_str (pa_cons (pe_xf T.x_BadRatio.xf T.n_BadRatio_what hz hf (pv 3)) pa_nil))))))))
      (pss_one (ps_ret (pv 2)))), ?_⟩
    try dsimp only [cxOf, Cx.nox, Cx.wish]
    refine Z.at_start (σ' := [some a, some b, none, none]) rfl ?_
    obtain ⟨L, a, b, c, d, F, hx, hy, sa, sb, sc, sd, b0, d0, kE, kQ⟩ := h
    walk_at "z"
    refine use_over F hx hy sa sb sc sd b0 d0 (fun hc e H1 F1 => ?_) fun hc r H1 F1 => ?_
    · refine Z.wAs_yes T.x_BadRatio.me fun q hq => ?_
      simp only [List.set_cons_zero, List.set_cons_succ]
      walk_at "z"
      refine Z.wXf ?_
      walk_at "z"
      refine ⟨rfl, rfl, e, _, V.str ("zero" : Str), rfl, F1.get List.mem_cons_self, by simp [List.lookup], ?_⟩
      walk_at "z"
      rename_i p2 H2 F2
      exact kE hc _ _ _ (.cons _ (.cons _ (.refl _))) ⟨p2, rfl, .head _⟩ F2
    · walk_at "z"
      exact kQ hc r H1 F1
theorem ok__law_over (T : Txt K mg c_BadRatio c_ONE c_ZERO) : Z.Ok CX0 P w K mg base "_law_over" 4 ["_law_one", "_law_other"] [] (sp__law_over K) := by
  obtain ⟨f, fd, F, g⟩ := T.d__law_over
  exact Z.mkOk F g (F.binds (ps := ["_law_one", "_law_other"]) fun _ _ _ _ _ _ us hl => match us, hl with | [_, _], _ => rfl) (fn__law_over T F)
theorem use__law_over {H : Hp} {Q : VK} {E : XK} {L : List Z.En} {x y : V} {a b c d : Int} (F : Z.Fx H L) (hx : Z.Rt K L x a b) (hy : Z.Rt K L y c d) (sa : Sz 1900 a) (sb : Sz 1900 b) (sc : Sz 1900 c) (sd : Sz 1900 d) (b0 : b ≠ 0) (d0 : d ≠ 0) (kE : c = 0 → ∀ v L1 H', L.Sublist L1 → RefAt L1 v "zero" → Z.Fx H' L1 → Q v H') (kQ : c ≠ 0 → ∀ r H', Z.Fx H' (.ob r (.tup [.int (lowT (a * d) (b * c)), .int (lowB (a * d) (b * c))]) :: L) → Q (.ref r) H') : sp__law_over K [x, y] H Q E := ⟨_, _, rfl, L, a, b, c, d, F, hx, hy, sa, sb, sc, sd, b0, d0, kE, kQ⟩
theorem RefAt.dt {L : List Z.En} {v : V} {w : Str} (h : RefAt L v w) : Z.Dt L v (.list [.str ("refused" : Str), .str w]) := by
  obtain ⟨p, rfl, m⟩ := h
  exact .lst m (.cons (.str _) (.cons (.str _) .nil))
theorem RefAt.le {L L2 : List Z.En} {v : V} {w : Str} (h : RefAt L v w) (s : L.Sublist L2) : RefAt L2 v w := let ⟨p, e, m⟩ := h; ⟨p, e, s.subset m⟩
theorem sc_plus : FnScope ["one", "other"] ["one", "other"] (defScope s_plus) := ⟨rfl, rfl, rfl, by decide +kernel, rfl, by decide +kernel, by decide +kernel⟩
def sp_plus (K : PySem.W.Frag) : Sp := Z.Sp2 fun x y H Q E => ∃ (L : List Z.En) (a b c d : Int), Z.Fx H L ∧ Z.Rt K L x a b ∧ Z.Rt K L y c d ∧ Sz 1900 a ∧ Sz 1900 b ∧ Sz 1900 c ∧ Sz 1900 d ∧ b ≠ 0 ∧ d ≠ 0 ∧ ∀ r H', Z.Fx H' (.ob r (.tup [.int (lowT (a * d + c * b) (b * d)), .int (lowB (a * d + c * b) (b * d))]) :: L) → Q (.ref r) H'
theorem fn_plus (T : Txt K mg c_BadRatio c_ONE c_ZERO) {f : Addr} {fd : FuncData} (F : Fun K "plus" "plus" s_plus f fd) : FnOk P w K mg base CX0 2 f fd ["one", "other"] (sp_plus K) := by
  have O__lowest := ok__lowest (P := P) (w := w) (base := base) T
  refine F.ok sc_plus (fun vs H Q E h => ?_) (fun cdv A outer s H vs Q E hr h => ?_)
  · obtain ⟨a, b, rfl, _⟩ := h; rfl
  · obtain ⟨a, b, rfl, h⟩ := h
    refine ⟨_, (pss_one (ps_ret (Z.pe_callO O__lowest (by rfl) (hr.mono (by decide)) pass0 (pa_cons (pe_op Z.zAdd (pe_op Z.zMul (pe_ix ix_seq (pv 0) pe_int (fun _ _ => rfl)) (pe_ix ix_seq (pv 1) pe_int (fun _ _ => rfl))) (pe_op Z.zMul (pe_ix ix_seq (pv 1) pe_int (fun _ _ => rfl)) (pe_ix ix_seq (pv 0) pe_int (fun _ _ => rfl)))) (pa_cons (pe_op Z.zMul (pe_ix ix_seq (pv 0) pe_int (fun _ _ => rfl)) (pe_ix ix_seq (pv 1) pe_int (fun _ _ => rfl))) pa_nil))))), ?_⟩
    try dsimp only [cxOf, Cx.nox, Cx.wish]
    refine Z.at_start (σ' := [some a, some b]) rfl ?_
    obtain ⟨L, a, b, c, d, F, hx, hy, sa, sb, sc, sd, b0, d0, k⟩ := h
    obtain ⟨p, rfl, sp1⟩ := hx.sq F
    obtain ⟨q, rfl, sp2⟩ := hy.sq F
    have c1 : L2.CMulW a d := ratio_mul sa sd
    have c2 : L2.CMulW c b := ratio_mul sc sb
    have c3 : L2.CMulW b d := ratio_mul sb sd
    have c4 : L2.CMulW a c := ratio_mul sa sc
    walk_at "z"
    exact use__lowest (Int.mul_ne_zero b0 d0) ((sb.mul sd).mono (by decide)) F k
theorem ok_plus (T : Txt K mg c_BadRatio c_ONE c_ZERO) : Z.Ok CX0 P w K mg base "plus" 2 ["one", "other"] [] (sp_plus K) := by
  obtain ⟨f, fd, F, g⟩ := T.d_plus
  exact Z.mkOk F g (F.binds (ps := ["one", "other"]) fun _ _ _ _ _ _ us hl => match us, hl with | [_, _], _ => rfl) (fn_plus T F)
theorem use_plus {H : Hp} {Q : VK} {E : XK} {L : List Z.En} {x y : V} {a b c d : Int} (F : Z.Fx H L) (hx : Z.Rt K L x a b) (hy : Z.Rt K L y c d) (sa : Sz 1900 a) (sb : Sz 1900 b) (sc : Sz 1900 c) (sd : Sz 1900 d) (b0 : b ≠ 0) (d0 : d ≠ 0) (k : ∀ r H', Z.Fx H' (.ob r (.tup [.int (lowT (a * d + c * b) (b * d)), .int (lowB (a * d + c * b) (b * d))]) :: L) → Q (.ref r) H') : sp_plus K [x, y] H Q E := ⟨_, _, rfl, L, a, b, c, d, F, hx, hy, sa, sb, sc, sd, b0, d0, k⟩
theorem sc_negative : FnScope ["one"] ["one"] (defScope s_negative) := ⟨rfl, rfl, rfl, by decide +kernel, rfl, by decide +kernel, by decide +kernel⟩
def sp_negative (K : PySem.W.Frag) : Sp := Z.Sp1 fun x H Q E => ∃ (L : List Z.En) (a b : Int), Z.Fx H L ∧ Z.Rt K L x a b ∧ ∀ r H', Z.Fx H' (.ob r (.tup [.int (-a), .int b]) :: L) → Q (.ref r) H'
theorem fn_negative (T : Txt K mg c_BadRatio c_ONE c_ZERO) {f : Addr} {fd : FuncData} (F : Fun K "negative" "negative" s_negative f fd) : FnOk P w K mg base CX0 1 f fd ["one"] (sp_negative K) := by
  refine F.ok sc_negative (fun vs H Q E h => ?_) (fun cdv A outer s H vs Q E hr h => ?_)
  · obtain ⟨a, rfl, _⟩ := h; rfl
  · obtain ⟨a, rfl, h⟩ := h
    refine ⟨_, (pss_one (ps_ret (pe_tup (pa_cons (pe_un un_neg (pe_ix ix_seq (pv 0) pe_int (fun _ _ => rfl))) (pa_cons (pe_ix ix_seq (pv 0) pe_int (fun _ _ => rfl)) pa_nil))))), ?_⟩
    try dsimp only [cxOf, Cx.nox, Cx.wish]
    refine Z.at_start (σ' := [some a]) rfl ?_
    obtain ⟨L, a, b, F, hx, k⟩ := h
    obtain ⟨p, rfl, sp1⟩ := hx.sq F
    walk_at "z"
    exact k _ _ (by assumption)
theorem ok_negative (T : Txt K mg c_BadRatio c_ONE c_ZERO) : Z.Ok CX0 P w K mg base "negative" 1 ["one"] [] (sp_negative K) := by
  obtain ⟨f, fd, F, g⟩ := T.d_negative
  exact Z.mkOk F g (F.binds (ps := ["one"]) fun _ _ _ _ _ _ us hl => match us, hl with | [_], _ => rfl) (fn_negative T F)
theorem use_negative {H : Hp} {Q : VK} {E : XK} {L : List Z.En} {x : V} {a b : Int} (F : Z.Fx H L) (hx : Z.Rt K L x a b) (k : ∀ r H', Z.Fx H' (.ob r (.tup [.int (-a), .int b]) :: L) → Q (.ref r) H') : sp_negative K [x] H Q E := ⟨_, rfl, L, a, b, F, hx, k⟩
theorem sc_minus : FnScope ["one", "other"] ["one", "other"] (defScope s_minus) := ⟨rfl, rfl, rfl, by decide +kernel, rfl, by decide +kernel, by decide +kernel⟩
def sp_minus (K : PySem.W.Frag) : Sp := Z.Sp2 fun x y H Q E => ∃ (L : List Z.En) (a b c d : Int), Z.Fx H L ∧ Z.Rt K L x a b ∧ Z.Rt K L y c d ∧ Sz 1900 a ∧ Sz 1900 b ∧ Sz 1900 c ∧ Sz 1900 d ∧ b ≠ 0 ∧ d ≠ 0 ∧ ∀ r H', Z.Fx H' (.ob r (.tup [.int (lowT (a * d - c * b) (b * d)), .int (lowB (a * d - c * b) (b * d))]) :: L) → Q (.ref r) H'
theorem fn_minus (T : Txt K mg c_BadRatio c_ONE c_ZERO) {f : Addr} {fd : FuncData} (F : Fun K "minus" "minus" s_minus f fd) : FnOk P w K mg base CX0 3 f fd ["one", "other"] (sp_minus K) := by
  have O_negative := ok_negative (P := P) (w := w) (base := base) T
  have O_plus := ok_plus (P := P) (w := w) (base := base) T
  refine F.ok sc_minus (fun vs H Q E h => ?_) (fun cdv A outer s H vs Q E hr h => ?_)
  · obtain ⟨a, b, rfl, _⟩ := h; rfl
  · obtain ⟨a, b, rfl, h⟩ := h
    refine ⟨_, (pss_one (ps_ret (Z.pe_callO O_plus (by rfl) (hr.mono (by decide)) pass0 (pa_cons (pv 0) (pa_cons (Z.pe_callO O_negative (by rfl) (hr.mono (by decide)) pass0 (pa_cons (pv 1) pa_nil)) pa_nil))))), ?_⟩
    try dsimp only [cxOf, Cx.nox, Cx.wish]
    refine Z.at_start (σ' := [some a, some b]) rfl ?_
    obtain ⟨L, a, b, c, d, F, hx, hy, sa, sb, sc, sd, b0, d0, k⟩ := h
    walk_at "z"
    refine use_negative F hy fun q H1 F1 => ?_
    walk_at "z"
    refine use_plus F1 (hx.le (.cons _ (.refl _))) .head sa sb sc.neg sd b0 d0 fun r H2 F2 => ?_
    rw [Int.neg_mul, ← Int.sub_eq_add_neg] at F2
    exact k r H2 (F2.sub (.cons_cons _ (.cons _ (.refl _))))
theorem ok_minus (T : Txt K mg c_BadRatio c_ONE c_ZERO) : Z.Ok CX0 P w K mg base "minus" 3 ["one", "other"] [] (sp_minus K) := by
  obtain ⟨f, fd, F, g⟩ := T.d_minus
  exact Z.mkOk F g (F.binds (ps := ["one", "other"]) fun _ _ _ _ _ _ us hl => match us, hl with | [_, _], _ => rfl) (fn_minus T F)
theorem use_minus {H : Hp} {Q : VK} {E : XK} {L : List Z.En} {x y : V} {a b c d : Int} (F : Z.Fx H L) (hx : Z.Rt K L x a b) (hy : Z.Rt K L y c d) (sa : Sz 1900 a) (sb : Sz 1900 b) (sc : Sz 1900 c) (sd : Sz 1900 d) (b0 : b ≠ 0) (d0 : d ≠ 0) (k : ∀ r H', Z.Fx H' (.ob r (.tup [.int (lowT (a * d - c * b) (b * d)), .int (lowB (a * d - c * b) (b * d))]) :: L) → Q (.ref r) H') : sp_minus K [x, y] H Q E := ⟨_, _, rfl, L, a, b, c, d, F, hx, hy, sa, sb, sc, sd, b0, d0, k⟩
theorem sc_times : FnScope ["one", "other"] ["one", "other"] (defScope s_times) := ⟨rfl, rfl, rfl, by decide +kernel, rfl, by decide +kernel, by decide +kernel⟩
def sp_times (K : PySem.W.Frag) : Sp := Z.Sp2 fun x y H Q E => ∃ (L : List Z.En) (a b c d : Int), Z.Fx H L ∧ Z.Rt K L x a b ∧ Z.Rt K L y c d ∧ Sz 1900 a ∧ Sz 1900 b ∧ Sz 1900 c ∧ Sz 1900 d ∧ b ≠ 0 ∧ d ≠ 0 ∧ ∀ r H', Z.Fx H' (.ob r (.tup [.int (lowT (a * c) (b * d)), .int (lowB (a * c) (b * d))]) :: L) → Q (.ref r) H'
theorem fn_times (T : Txt K mg c_BadRatio c_ONE c_ZERO) {f : Addr} {fd : FuncData} (F : Fun K "times" "times" s_times f fd) : FnOk P w K mg base CX0 2 f fd ["one", "other"] (sp_times K) := by
  have O__lowest := ok__lowest (P := P) (w := w) (base := base) T
  refine F.ok sc_times (fun vs H Q E h => ?_) (fun cdv A outer s H vs Q E hr h => ?_)
  · obtain ⟨a, b, rfl, _⟩ := h; rfl
  · obtain ⟨a, b, rfl, h⟩ := h
    refine ⟨_, (pss_one (ps_ret (Z.pe_callO O__lowest (by rfl) (hr.mono (by decide)) pass0 (pa_cons (pe_op Z.zMul (pe_ix ix_seq (pv 0) pe_int (fun _ _ => rfl)) (pe_ix ix_seq (pv 1) pe_int (fun _ _ => rfl))) (pa_cons (pe_op Z.zMul (pe_ix ix_seq (pv 0) pe_int (fun _ _ => rfl)) (pe_ix ix_seq (pv 1) pe_int (fun _ _ => rfl))) pa_nil))))), ?_⟩
    try dsimp only [cxOf, Cx.nox, Cx.wish]
    refine Z.at_start (σ' := [some a, some b]) rfl ?_
    obtain ⟨L, a, b, c, d, F, hx, hy, sa, sb, sc, sd, b0, d0, k⟩ := h
    obtain ⟨p, rfl, sp1⟩ := hx.sq F
    obtain ⟨q, rfl, sp2⟩ := hy.sq F
    have c1 : L2.CMulW a d := ratio_mul sa sd
    have c2 : L2.CMulW c b := ratio_mul sc sb
    have c3 : L2.CMulW b d := ratio_mul sb sd
    have c4 : L2.CMulW a c := ratio_mul sa sc
    walk_at "z"
    exact use__lowest (Int.mul_ne_zero b0 d0) ((sb.mul sd).mono (by decide)) F k
theorem ok_times (T : Txt K mg c_BadRatio c_ONE c_ZERO) : Z.Ok CX0 P w K mg base "times" 2 ["one", "other"] [] (sp_times K) := by
  obtain ⟨f, fd, F, g⟩ := T.d_times
  exact Z.mkOk F g (F.binds (ps := ["one", "other"]) fun _ _ _ _ _ _ us hl => match us, hl with | [_, _], _ => rfl) (fn_times T F)
theorem use_times {H : Hp} {Q : VK} {E : XK} {L : List Z.En} {x y : V} {a b c d : Int} (F : Z.Fx H L) (hx : Z.Rt K L x a b) (hy : Z.Rt K L y c d) (sa : Sz 1900 a) (sb : Sz 1900 b) (sc : Sz 1900 c) (sd : Sz 1900 d) (b0 : b ≠ 0) (d0 : d ≠ 0) (k : ∀ r H', Z.Fx H' (.ob r (.tup [.int (lowT (a * c) (b * d)), .int (lowB (a * c) (b * d))]) :: L) → Q (.ref r) H') : sp_times K [x, y] H Q E := ⟨_, _, rfl, L, a, b, c, d, F, hx, hy, sa, sb, sc, sd, b0, d0, k⟩
theorem sc_compare : FnScope ["one", "other", "left", "right"] ["one", "other"] (defScope s_compare) := ⟨rfl, rfl, rfl, by decide +kernel, rfl, by decide +kernel, by decide +kernel⟩
/-- how a / b lies to c / d -/
def cmpI (a b c d : Int) : Int := if a * d = c * b then 0 else if a * d < c * b then -1 else 1
def sp_compare (K : PySem.W.Frag) : Sp := Z.Sp2 fun x y H Q E => ∃ (L : List Z.En) (a b c d : Int), Z.Fx H L ∧ Z.Rt K L x a b ∧ Z.Rt K L y c d ∧ Sz 1900 a ∧ Sz 1900 b ∧ Sz 1900 c ∧ Sz 1900 d ∧ Q (.int (cmpI a b c d)) H
theorem fn_compare (T : Txt K mg c_BadRatio c_ONE c_ZERO) {f : Addr} {fd : FuncData} (F : Fun K "compare" "compare" s_compare f fd) : FnOk P w K mg base CX0 1 f fd ["one", "other"] (sp_compare K) := by
  refine F.ok sc_compare (fun vs H Q E h => ?_) (fun cdv A outer s H vs Q E hr h => ?_)
  · obtain ⟨a, b, rfl, _⟩ := h; rfl
  · obtain ⟨a, b, rfl, h⟩ := h
    refine ⟨_, (pss_cons (ps_set (i := 2) sc_compare.nd rfl (by first | exact Or.inl rfl | exact Or.inr rfl) (pe_op Z.zMul (pe_ix ix_seq (pv 0) pe_int (fun _ _ => rfl)) (pe_ix ix_seq (pv 1) pe_int (fun _ _ => rfl))))
      (pss_cons (ps_set (i := 3) sc_compare.nd rfl (by first | exact Or.inl rfl | exact Or.inr rfl) (pe_op Z.zMul (pe_ix ix_seq (pv 1) pe_int (fun _ _ => rfl)) (pe_ix ix_seq (pv 0) pe_int (fun _ _ => rfl))))
      (pss_cons (ps_if (pt_cmpR (Z.zEq (Z.hu0 hr)) (pv 2) (pv 3) (nomark _))
        (pss_one (ps_ret pe_int))
        pss_nil)
      (pss_one (ps_ret (pe_ifExp (pt_cmpR Z.zLt (pv 2) (pv 3) (nomark _)) (pe_un un_neg pe_int) pe_int)))))), ?_⟩
    try dsimp only [cxOf, Cx.nox, Cx.wish]
    refine Z.at_start (σ' := [some a, some b, none, none]) rfl ?_
    obtain ⟨L, a, b, c, d, F, hx, hy, sa, sb, sc, sd, k⟩ := h
    obtain ⟨p, rfl, sp1⟩ := hx.sq F
    obtain ⟨q, rfl, sp2⟩ := hy.sq F
    have c1 : L2.CMulW a d := ratio_mul sa sd
    have c2 : L2.CMulW c b := ratio_mul sc sb
    unfold cmpI at k
    walk_at "z"
    refine Z.wIfD (fun h => ?_) (fun h => ?_)
    · rw [if_pos h] at k
      walk_at "z"
      exact k
    · rw [if_neg h] at k
      walk_at "z"
      refine Z.wIfD (fun h => ?_) (fun h => ?_)
      · rw [if_pos h] at k
        walk_at "z"
        exact k
      · rw [if_neg h] at k
        walk_at "z"
        exact k
theorem ok_compare (T : Txt K mg c_BadRatio c_ONE c_ZERO) : Z.Ok CX0 P w K mg base "compare" 1 ["one", "other"] [] (sp_compare K) := by
  obtain ⟨f, fd, F, g⟩ := T.d_compare
  exact Z.mkOk F g (F.binds (ps := ["one", "other"]) fun _ _ _ _ _ _ us hl => match us, hl with | [_, _], _ => rfl) (fn_compare T F)
theorem use_compare {H : Hp} {Q : VK} {E : XK} {L : List Z.En} {x y : V} {a b c d : Int} (F : Z.Fx H L) (hx : Z.Rt K L x a b) (hy : Z.Rt K L y c d) (sa : Sz 1900 a) (sb : Sz 1900 b) (sc : Sz 1900 c) (sd : Sz 1900 d) (k : Q (.int (cmpI a b c d)) H) : sp_compare K [x, y] H Q E := ⟨_, _, rfl, L, a, b, c, d, F, hx, hy, sa, sb, sc, sd, k⟩
theorem sc_sum_of : FnScope ["ratios", "total", "ratio"] ["ratios"] (defScope s_sum_of) := ⟨rfl, rfl, rfl, by decide +kernel, rfl, by decide +kernel, by decide +kernel⟩
/-- a ratio more -/
def addR (t r : Int × Int) : Int × Int := (lowT (t.1 * r.2 + r.1 * t.2) (t.2 * r.2), lowB (t.1 * r.2 + r.1 * t.2) (t.2 * r.2))
def sumR (rows : List (Int × Int)) : Int × Int := rows.foldl addR (0, 1)
/-- small ratios in lowest terms -/
def SmallR (r : Int × Int) : Prop := Sz 60 r.1 ∧ Sz 60 r.2 ∧ 1 ≤ r.2 ∧ Nat.gcd r.1.natAbs r.2.natAbs = 1
theorem addR_ok {k : Nat} {t r : Int × Int} (h1 : Sz k t.1) (h2 : Sz k t.2) (h3 : 1 ≤ t.2) (hr : SmallR r) : Sz (k + 61) (addR t r).1 ∧ Sz (k + 61) (addR t r).2 ∧ 1 ≤ (addR t r).2 := by
  have hb : t.2 * r.2 ≠ 0 := Int.mul_ne_zero (by omega) (by have := hr.2.2.1; omega)
  refine ⟨Sz.lowT ?_ hb, Sz.lowB ((h2.mul hr.2.1).mono (by omega)) hb, (low_spec hb).2.2.1⟩
  exact ((h1.mul hr.2.1).add ((hr.1.mul h2).mono (by omega))).mono (by omega)
theorem sumR_ok {rows : List (Int × Int)} (h : ∀ r ∈ rows, SmallR r) (n : Nat) (hn : n ≤ rows.length) : Sz (61 * (n + 1)) (sumR (rows.take n)).1 ∧ Sz (61 * (n + 1)) (sumR (rows.take n)).2 ∧ 1 ≤ (sumR (rows.take n)).2 := by
  induction n with
  | zero => exact ⟨by simp [sumR, Sz], by simp [sumR, Sz], by simp [sumR]⟩
  | succ n ih =>
    obtain ⟨a, b, c⟩ := ih (by omega)
    have e : rows.take (n + 1) = rows.take n ++ [rows[n]] := by rw [List.take_add_one, List.getElem?_eq_getElem (by omega)]; rfl
    have e2 : sumR (rows.take (n + 1)) = addR (sumR (rows.take n)) rows[n] := by unfold sumR; rw [e, List.foldl_append]; rfl
    rw [e2]
    obtain ⟨x, y, z⟩ := addR_ok a b c (h rows[n] (List.getElem_mem _))
    exact ⟨x.mono (by omega), y.mono (by omega), z⟩
theorem sumR_step {rows : List (Int × Int)} {i : Nat} {r : Int × Int} (h : rows[i]? = some r) : sumR (rows.take (i + 1)) = addR (sumR (rows.take i)) r := by
  unfold sumR; rw [List.take_add_one, h, List.foldl_append]; rfl
/-- the ratios of a row -/
def RowsR (K : PySem.W.Frag) (L : List Z.En) (vs : List V) (rows : List (Int × Int)) : Prop := Z.Al2 (fun v (r : Int × Int) => Z.Rt K L v r.1 r.2) vs rows
def sp_sum_of (K : PySem.W.Frag) (cZ : Addr) : Sp := Z.Sp1 fun x H Q E => ∃ (L : List Z.En) (vs : List V) (rows : List (Int × Int)), Z.Fx H L ∧ Z.SeqIs L x (some vs) ∧ RowsR K L vs rows ∧ (∀ r ∈ rows, SmallR r) ∧ rows.length ≤ 20 ∧ ∀ v L1 H', L.Sublist L1 → Z.Rt K L1 v (sumR rows).1 (sumR rows).2 → Z.Fx H' L1 → Q v H'
theorem fn_sum_of (T : Txt K mg c_BadRatio c_ONE c_ZERO) {f : Addr} {fd : FuncData} (F : Fun K "sum_of" "sum_of" s_sum_of f fd) : FnOk P w K mg base CX0 3 f fd ["ratios"] (sp_sum_of K c_ZERO) := by
  have O_plus := ok_plus (P := P) (w := w) (base := base) T
  refine F.ok sc_sum_of (fun vs H Q E h => ?_) (fun cdv A outer s H vs Q E hr h => ?_)
  · obtain ⟨a, rfl, _⟩ := h; rfl
  · obtain ⟨a, rfl, h⟩ := h
    refine ⟨_, (pss_cons (ps_set (i := 1) sc_sum_of.nd rfl (by first | exact Or.inl rfl | exact Or.inr rfl) (pe_glob (v := V.ref c_ZERO) (by rfl) T.k_ZERO (show RelV (V.ref _) _ from rfl)))
      (pss_cons (ps_for PassesOwn.never (by rfl) (Z.pi_seq (pv 0)) (pg_name (i := 2) sc_sum_of.nd rfl (by first | exact Or.inl rfl | exact Or.inr rfl))
        (pss_one (ps_set (i := 1) sc_sum_of.nd rfl (by first | exact Or.inl rfl | exact Or.inr rfl) (Z.pe_callO O_plus (by rfl) (hr.mono (by decide)) pass0 (pa_cons (pv 1) (pa_cons (pv 2) pa_nil))))))
      (pss_one (ps_ret (pv 1))))), ?_⟩
    try dsimp only [cxOf, Cx.nox, Cx.wish]
    refine Z.at_start (σ' := [some a, none, none]) rfl ?_
    obtain ⟨L, vs, rows, F, hs, al, hr, hl, k⟩ := h
    have hlen := al.len
    walk_at "z"
    refine Z.wForQ hs F (fun i σ H' => ∃ (v : V) (v2 : Option V) (L1 : List Z.En), σ = [some a, some v, v2] ∧ L.Sublist L1 ∧ Z.Rt K L1 v (sumR (rows.take i)).1 (sumR (rows.take i)).2 ∧ Z.Fx H' L1) ⟨_, _, L, rfl, .refl _, ⟨c_ZERO, rfl, .inr T.kt_ZERO⟩, F⟩ ?_ ?_ ?_
    · rintro i σ H' ⟨v, v2, L1, rfl, s1, rt, F'⟩
      exact ⟨L1, F', fun e m => s1.subset m⟩
    · rintro i x σ H' hx ⟨v, v2, L1, rfl, s1, rt, F'⟩
      obtain ⟨r, hr', rx⟩ := al.getL hx
      have hi := (List.getElem?_eq_some_iff.mp hr').1
      have sm := hr r (List.mem_of_getElem? hr')
      obtain ⟨a1, b1, c1⟩ := sumR_ok hr i (by omega)
      walk_at "z"
      refine use_plus F' rt (rx.le s1) (a1.mono (by omega)) (b1.mono (by omega)) (sm.1.mono (by decide)) (sm.2.1.mono (by decide)) (by omega) (by have := sm.2.2.1; omega) fun q H2 F2 => ?_
      walk_at "z"
      exact ⟨.ref q, _, _, rfl, s1.trans (.cons _ (.refl _)), by rw [sumR_step hr']; exact .head, F2⟩
    · rintro σ H' ⟨v, v2, L1, rfl, s1, rt, F'⟩
      walk_at "z"
      rw [hlen, List.take_length] at rt
      exact k v L1 H' s1 rt F'
theorem ok_sum_of (T : Txt K mg c_BadRatio c_ONE c_ZERO) : Z.Ok CX0 P w K mg base "sum_of" 3 ["ratios"] [] (sp_sum_of K c_ZERO) := by
  obtain ⟨f, fd, F, g⟩ := T.d_sum_of
  exact Z.mkOk F g (F.binds (ps := ["ratios"]) fun _ _ _ _ _ _ us hl => match us, hl with | [_], _ => rfl) (fn_sum_of T F)
theorem use_sum_of {cZ : Addr} {H : Hp} {Q : VK} {E : XK} {L : List Z.En} {x : V} {vs : List V} {rows : List (Int × Int)} (F : Z.Fx H L) (hs : Z.SeqIs L x (some vs)) (al : RowsR K L vs rows) (hr : ∀ r ∈ rows, SmallR r) (hl : rows.length ≤ 20) (k : ∀ v L1 H', L.Sublist L1 → Z.Rt K L1 v (sumR rows).1 (sumR rows).2 → Z.Fx H' L1 → Q v H') : sp_sum_of K cZ [x] H Q E := ⟨_, rfl, L, vs, rows, F, hs, al, hr, hl, k⟩
theorem sc__law_sums_right : FnScope ["_law_one", "_law_other", "_law_a", "_law_b", "_law_c", "_law_d", "_law_due", "_law_told"] ["_law_one", "_law_other"] (defScope s__law_sums_right) := ⟨rfl, rfl, rfl, by decide +kernel, rfl, by decide +kernel, by decide +kernel⟩
theorem ref_ok (w : Str) (h : PyData.strOk w = true) : SeqAt.shaped (.list [.str ("refused" : Str), .str w]) = true :=
  (Z.Sh.lst (n := 0) (Z.ShA.cons (d := .str ("refused" : Str)) (n := 0) (m := 0) ⟨by decide +kernel, Nat.le_refl _⟩ (Z.ShA.cons (d := .str w) (n := 0) (m := 0) ⟨h, Nat.le_refl _⟩ .nil))).ok
def sp__law_sums_right (K : PySem.W.Frag) : Sp := Z.Sp2 fun x y H Q E => ∃ (L : List Z.En) (r t : Int × Int), Z.Fx H L ∧ Z.Rt K L x r.1 r.2 ∧ Z.Rt K L y t.1 t.2 ∧ SmallR r ∧ SmallR t ∧ ∀ L1 H', L.Sublist L1 → Z.Fx H' L1 → Q (.bl true) H'
theorem fn__law_sums_right (T : Txt K mg c_BadRatio c_ONE c_ZERO) {f : Addr} {fd : FuncData} (F : Fun K "_law_sums_right" "_law_sums_right" s__law_sums_right f fd) : FnOk P w K mg base CX0 5 f fd ["_law_one", "_law_other"] (sp__law_sums_right K) := by
  have O__law_is := ok__law_is (P := P) (w := w) (base := base) T
  have O__law_lowest := ok__law_lowest (P := P) (w := w) (base := base) T
  have O__law_over := ok__law_over (P := P) (w := w) (base := base) T
  have O__law_whole := ok__law_whole (P := P) (w := w) (base := base) T
  have O_compare := ok_compare (P := P) (w := w) (base := base) T
  have O_minus := ok_minus (P := P) (w := w) (base := base) T
  have O_negative := ok_negative (P := P) (w := w) (base := base) T
  have O_plus := ok_plus (P := P) (w := w) (base := base) T
  have O_times := ok_times (P := P) (w := w) (base := base) T
  refine F.ok sc__law_sums_right (fun vs H Q E h => ?_) (fun cdv A outer s H vs Q E hr h => ?_)
  · obtain ⟨a, b, rfl, _⟩ := h; rfl
  · obtain ⟨a, b, rfl, h⟩ := h
    refine ⟨_, (pss_cons (ps_asg (pv 0) (pg_tup (by rfl) (pgs_cons (pg_name (i := 2) sc__law_sums_right.nd rfl (by first | exact Or.inl rfl | exact Or.inr rfl)) (pgs_cons (pg_name (i := 3) sc__law_sums_right.nd rfl (by first | exact Or.inl rfl | exact Or.inr rfl)) pgs_nil))))
      (pss_cons (ps_asg (pv 1) (pg_tup (by rfl) (pgs_cons (pg_name (i := 4) sc__law_sums_right.nd rfl (by first | exact Or.inl rfl | exact Or.inr rfl)) (pgs_cons (pg_name (i := 5) sc__law_sums_right.nd rfl (by first | exact Or.inl rfl | exact Or.inr rfl)) pgs_nil))))
      (pss_cons (ps_if (pt_not (Z.pt_truN (Z.pe_callO O__law_is (by rfl) (hr.mono (by decide)) pass0 (pa_cons (Z.pe_callO O_plus (by rfl) (hr.mono (by decide)) pass0 (pa_cons (pv 0) (pa_cons (pv 1) pa_nil))) (pa_cons (Z.pe_callO O__law_lowest (by rfl) (hr.mono (by decide)) pass0 (pa_cons (pe_op Z.zAdd (pe_op Z.zMul (pv 2) (pv 5)) (pe_op Z.zMul (pv 4) (pv 3))) (pa_cons (pe_op Z.zMul (pv 3) (pv 5)) pa_nil))) pa_nil)))))
        (pss_one (ps_ret pe_bl))
        pss_nil)
      (pss_cons (ps_if (pt_not (Z.pt_truN (Z.pe_callO O__law_is (by rfl) (hr.mono (by decide)) pass0 (pa_cons (Z.pe_callO O_minus (by rfl) (hr.mono (by decide)) pass0 (pa_cons (pv 0) (pa_cons (pv 1) pa_nil))) (pa_cons (Z.pe_callO O__law_lowest (by rfl) (hr.mono (by decide)) pass0 (pa_cons (pe_op op_sub (pe_op Z.zMul (pv 2) (pv 5)) (pe_op Z.zMul (pv 4) (pv 3))) (pa_cons (pe_op Z.zMul (pv 3) (pv 5)) pa_nil))) pa_nil)))))
        (pss_one (ps_ret pe_bl))
        pss_nil)
      (pss_cons (ps_if (PW.pt (pw_or (pt_not (Z.pt_truN (Z.pe_callO O__law_is (by rfl) (hr.mono (by decide)) pass0 (pa_cons (Z.pe_callO O_times (by rfl) (hr.mono (by decide)) pass0 (pa_cons (pv 0) (pa_cons (pv 1) pa_nil))) (pa_cons (Z.pe_callO O__law_lowest (by rfl) (hr.mono (by decide)) pass0 (pa_cons (pe_op Z.zMul (pv 2) (pv 4)) (pa_cons (pe_op Z.zMul (pv 3) (pv 5)) pa_nil))) pa_nil))))) (pw_or1 (pt_not (Z.pt_truN (Z.pe_callO O__law_is (by rfl) (hr.mono (by decide)) pass0 (pa_cons (Z.pe_callO O_negative (by rfl) (hr.mono (by decide)) pass0 (pa_cons (pv 0) pa_nil)) (pa_cons (pe_tup (pa_cons (pe_un un_neg (pv 2)) (pa_cons (pv 3) pa_nil))) pa_nil))))))))
        (pss_one (ps_ret pe_bl))
        pss_nil)
      (pss_cons (ps_if (pt_cmpR (Z.zEq (Z.hu0 hr)) (pv 4) pe_int (nomark _))
        (pss_one (ps_if (pt_cmpR (Z.zNe (Z.hu0 hr)) (Z.pe_callO O__law_over (by rfl) (hr.mono (by decide)) pass0 (pa_cons (pv 0) (pa_cons (pv 1) pa_nil))) (pe_lst (pa_cons pe_str (pa_cons pe_str pa_nil))) (nomark _))
          (pss_one (ps_ret pe_bl))
          pss_nil))
        (pss_one (ps_if (pt_not (Z.pt_truN (Z.pe_callO O__law_is (by rfl) (hr.mono (by decide)) pass0 (pa_cons (Z.pe_callO O__law_over (by rfl) (hr.mono (by decide)) pass0 (pa_cons (pv 0) (pa_cons (pv 1) pa_nil))) (pa_cons (Z.pe_callO O__law_lowest (by rfl) (hr.mono (by decide)) pass0 (pa_cons (pe_op Z.zMul (pv 2) (pv 5)) (pa_cons (pe_op Z.zMul (pv 3) (pv 4)) pa_nil))) pa_nil)))))
          (pss_one (ps_ret pe_bl))
          pss_nil)))
      (pss_cons (ps_set (i := 6) sc__law_sums_right.nd rfl (by first | exact Or.inl rfl | exact Or.inr rfl) (pe_ifExp (pt_cmpR (Z.zEq (Z.hu0 hr)) (pe_op Z.zMul (pv 2) (pv 5)) (pe_op Z.zMul (pv 4) (pv 3)) (nomark _)) pe_int (pe_ifExp (pt_cmpR Z.zLt (pe_op Z.zMul (pv 2) (pv 5)) (pe_op Z.zMul (pv 4) (pv 3)) (nomark _)) (pe_un un_neg pe_int) pe_int)))
      (pss_cons (ps_set (i := 7) sc__law_sums_right.nd rfl (by first | exact Or.inl rfl | exact Or.inr rfl) (Z.pe_callO O_compare (by rfl) (hr.mono (by decide)) pass0 (pa_cons (pv 0) (pa_cons (pv 1) pa_nil))))
      (pss_one (ps_ret (pe_andT (Z.pe_callO O__law_whole (by rfl) (hr.mono (by decide)) pass0 (pa_cons (pv 7) pa_nil)) (pe_one (pe_cmpR (Z.zEq (Z.hu0 hr)) (pv 7) (pv 6) (nomark _)))))))))))))), ?_⟩
    try dsimp only [cxOf, Cx.nox, Cx.wish]
    refine Z.at_start (σ' := [some a, some b, none, none, none, none, none, none]) rfl ?_
    obtain ⟨L, ⟨ra, rb⟩, ⟨tc, td⟩, F, hx, hy, ⟨sa, sb, rb1, rg⟩, ⟨sc, sd, td1, tg⟩, k⟩ := h
    dsimp only at hx hy sa sb sc sd rb1 td1
    have A := sa.mono (l := 1900) (by decide)
    have B := sb.mono (l := 1900) (by decide)
    have C := sc.mono (l := 1900) (by decide)
    have D := sd.mono (l := 1900) (by decide)
    have b0 : rb ≠ 0 := by omega
    have d0 : td ≠ 0 := by omega
    have c1 : L2.CMulW ra td := ratio_mul A D
    have c2 : L2.CMulW tc rb := ratio_mul C B
    have c3 : L2.CMulW rb td := ratio_mul B D
    have c4 : L2.CMulW ra tc := ratio_mul A C
    have c5 : L2.CMulW rb tc := ratio_mul B C
    have bd0 : rb * td ≠ 0 := Int.mul_ne_zero b0 d0
    have sbd : Sz 4000 (rb * td) := (B.mul D).mono (by decide)
    obtain ⟨p, rfl, s1⟩ := hx.sq F
    obtain ⟨q, rfl, s2⟩ := hy.sq F
    walk_at "y"
    refine Z.wMidS (fun σ' H' => ∃ L1, σ' = [some (.ref p), some (.ref q), some (.int ra), some (.int rb), some (.int tc), some (.int td), none, none] ∧ L.Sublist L1 ∧ Z.Fx H' L1) (fun N hk => ?_) ?_
    · walk_at "z"
      refine use_plus F hx hy A B C D b0 d0 fun r1 H1 F1 => ?_
      walk_at "z"
      refine use__law_lowest bd0 sbd F1 fun r2 H2 F2 => ?_
      refine use__law_is F2 (Z.Rt.head.le (.cons _ (.refl _))) .head ?_
      rw [decide_eq_true rfl, decide_eq_true rfl]
      walk_at "z"
      exact hk _ _ ⟨_, rfl, .cons _ (.cons _ (.refl _)), F2⟩
    rintro _ H1 ⟨L1, rfl, l1, F1⟩
    have hx1 := hx.le l1
    have hy1 := hy.le l1
    clear s1 s2 F
    obtain ⟨_, e, s1⟩ := hx1.sq F1
    cases e
    obtain ⟨_, e, s2⟩ := hy1.sq F1
    cases e
    walk_at "y"
    refine Z.wMidS (fun σ' H' => ∃ L2, σ' = [some (.ref p), some (.ref q), some (.int ra), some (.int rb), some (.int tc), some (.int td), none, none] ∧ L1.Sublist L2 ∧ Z.Fx H' L2) (fun N hk => ?_) ?_
    · walk_at "z"
      refine use_minus F1 hx1 hy1 A B C D b0 d0 fun r1 H1 F1 => ?_
      walk_at "z"
      refine use__law_lowest bd0 sbd F1 fun r2 H2 F2 => ?_
      refine use__law_is F2 (Z.Rt.head.le (.cons _ (.refl _))) .head ?_
      rw [decide_eq_true rfl, decide_eq_true rfl]
      walk_at "z"
      exact hk _ _ ⟨_, rfl, .cons _ (.cons _ (.refl _)), F2⟩
    rintro _ H2 ⟨L2, rfl, l2, F2⟩
    have hx2 := hx1.le l2
    have hy2 := hy1.le l2
    clear s1 s2 F1
    walk_at "y"
    refine Z.wMidS (fun σ' H' => ∃ L3, σ' = [some (.ref p), some (.ref q), some (.int ra), some (.int rb), some (.int tc), some (.int td), none, none] ∧ L2.Sublist L3 ∧ Z.Fx H' L3) (fun N hk => ?_) ?_
    · walk_at "z"
      refine use_times F2 hx2 hy2 A B C D b0 d0 fun r1 H1 F1 => ?_
      walk_at "z"
      refine use__law_lowest bd0 sbd F1 fun r2 H3 F3 => ?_
      refine use__law_is F3 (Z.Rt.head.le (.cons _ (.refl _))) .head ?_
      rw [decide_eq_true rfl, decide_eq_true rfl]
      walk_at "z"
      refine use_negative F3 (hx2.le (.cons _ (.cons _ (.refl _)))) fun r4 H4 F4 => ?_
      walk_at "z"
      rename_i r5 H5 F5
      refine use__law_is F5 (Z.Rt.head.le (.cons _ (.refl _))) .head ?_
      rw [decide_eq_true rfl, decide_eq_true rfl]
      walk_at "z"
      exact hk _ _ ⟨_, rfl, .cons _ (.cons _ (.cons _ (.cons _ (.refl _)))), F5⟩
    rintro _ H3 ⟨L3, rfl, l3, F3⟩
    have hx3 := hx2.le l3
    have hy3 := hy2.le l3
    clear F2
    walk_at "y"
    refine Z.wMidS (fun σ' H' => ∃ L4, σ' = [some (.ref p), some (.ref q), some (.int ra), some (.int rb), some (.int tc), some (.int td), none, none] ∧ L3.Sublist L4 ∧ Z.Fx H' L4) (fun N hk => ?_) ?_
    · walk_at "z"
      refine Z.wIfD (fun hc => ?_) (fun hc => ?_)
      · walk_at "z"
        refine use__law_over F3 hx3 hy3 A B C D b0 d0 (fun _ v L4 H4 l4 rf F4 => ?_) (fun h => absurd hc h)
        walk_at "z"
        rename_i q5 H5 F5
        refine Z.wNeSame F5 (rf.le (.cons _ (.refl _))).dt (RefAt.dt ⟨q5, rfl, .head _⟩) (ref_ok _ (by decide +kernel)) ?_
        walk_at "z"
        exact hk _ _ ⟨_, rfl, l4.trans (.cons _ (.refl _)), F5⟩
      · walk_at "z"
        refine use__law_over F3 hx3 hy3 A B C D b0 d0 (fun h => absurd h hc) (fun _ r1 H4 F4 => ?_)
        walk_at "z"
        refine use__law_lowest (Int.mul_ne_zero b0 hc) ((B.mul C).mono (by decide)) F4 fun r2 H5 F5 => ?_
        refine use__law_is F5 (Z.Rt.head.le (.cons _ (.refl _))) .head ?_
        rw [decide_eq_true rfl, decide_eq_true rfl]
        walk_at "z"
        exact hk _ _ ⟨_, rfl, .cons _ (.cons _ (.refl _)), F5⟩
    rintro _ H4 ⟨L4, rfl, l4, F4⟩
    have hx4 := hx3.le l4
    have hy4 := hy3.le l4
    refine Z.wSeq ?_
    refine Z.wMidS (fun σ' H' => σ' = [some (.ref p), some (.ref q), some (.int ra), some (.int rb), some (.int tc), some (.int td), some (.int (cmpI ra rb tc td)), none] ∧ H' = H4) (fun N hk => ?_) ?_
    · unfold cmpI at hk
      walk_at "z"
      refine Z.wIfD (fun h => ?_) (fun h => ?_)
      · rw [if_pos h] at hk
        walk_at "z"
        exact hk _ _ ⟨rfl, rfl⟩
      · rw [if_neg h] at hk
        walk_at "z"
        refine Z.wIfD (fun h2 => ?_) (fun h2 => ?_)
        · rw [if_pos h2] at hk
          walk_at "z"
          exact hk _ _ ⟨rfl, rfl⟩
        · rw [if_neg h2] at hk
          walk_at "z"
          exact hk _ _ ⟨rfl, rfl⟩
    rintro _ _ ⟨rfl, rfl⟩
    walk_at "z"
    refine use_compare F4 hx4 hy4 A B C D ?_
    walk_at "z"
    rw [decide_eq_true rfl]
    exact k _ _ (l1.trans (l2.trans (l3.trans l4))) F4
theorem ok__law_sums_right (T : Txt K mg c_BadRatio c_ONE c_ZERO) : Z.Ok CX0 P w K mg base "_law_sums_right" 5 ["_law_one", "_law_other"] [] (sp__law_sums_right K) := by
  obtain ⟨f, fd, F, g⟩ := T.d__law_sums_right
  exact Z.mkOk F g (F.binds (ps := ["_law_one", "_law_other"]) fun _ _ _ _ _ _ us hl => match us, hl with | [_, _], _ => rfl) (fn__law_sums_right T F)
theorem use__law_sums_right {H : Hp} {Q : VK} {E : XK} {L : List Z.En} {x y : V} {r t : Int × Int} (F : Z.Fx H L) (hx : Z.Rt K L x r.1 r.2) (hy : Z.Rt K L y t.1 t.2) (sr : SmallR r) (st : SmallR t) (k : ∀ L1 H', L.Sublist L1 → Z.Fx H' L1 → Q (.bl true) H') : sp__law_sums_right K [x, y] H Q E := ⟨_, _, rfl, L, r, t, F, hx, hy, sr, st, k⟩
theorem sc_is_ratio : FnScope ["thing", "top", "bottom"] ["thing"] (defScope s_is_ratio) := ⟨rfl, rfl, rfl, by decide +kernel, rfl, by decide +kernel, by decide +kernel⟩
/-- what is a ratio in lowest terms -/
def isRt (xs : List V) : Bool := match xs with
  | [.int t, .int b] => decide (1 ≤ b) && decide (Nat.gcd t.natAbs b.natAbs = 1)
  | _ => false
def isRtV (o : Option (List V)) : Bool := match o with
  | some xs => isRt xs
  | none => false
/-- a thing with its items, if it is a tuple -/
def TupIs (K : PySem.W.Frag) (L : List Z.En) (v : V) (o : Option (List V)) : Prop := (∃ k, Z.Thing L v k ∧ k.isTuple = false ∧ o = none) ∨ ∃ p xs, v = .ref p ∧ o = some xs ∧ xs.length ≤ 1000 ∧ (Z.En.ob p (.tup xs) ∈ L ∨ Z.KT K p xs) ∧ ∀ x ∈ xs, ∃ k, Z.Thing L x k
theorem TupIs.sq {K : PySem.W.Frag} {H : Hp} {L : List Z.En} {p : Addr} {xs : List V} (F : Z.Fx H L) (h : Z.En.ob p (.tup xs) ∈ L ∨ Z.KT K p xs) : SqT K H p xs := h.elim (fun m => F.tup m) (fun k => k H)
theorem Rt.tup {K : PySem.W.Frag} {L : List Z.En} {v : V} {a b : Int} (h : Z.Rt K L v a b) : TupIs K L v (some [.int a, .int b]) := by
  obtain ⟨p, rfl, h⟩ := h
  refine .inr ⟨p, _, rfl, rfl, by simp, h, fun x hx => ?_⟩
  simp only [List.mem_cons,
        List.not_mem_nil, or_false] at hx
  rcases hx with rfl | rfl
  · exact ⟨_, .int _⟩
  · exact ⟨_, .int _⟩
def sp_is_ratio (K : PySem.W.Frag) : Sp := Z.Sp1 fun a H Q E => ∃ (L : List Z.En) (o : Option (List V)), Z.Fx H L ∧ TupIs K L a o ∧ Q (.bl (isRtV o)) H
theorem fn_is_ratio (T : Txt K mg c_BadRatio c_ONE c_ZERO) {f : Addr} {fd : FuncData} (F : Fun K "is_ratio" "is_ratio" s_is_ratio f fd) : FnOk P w K mg base CX0 2 f fd ["thing"] (sp_is_ratio K) := by
  have O_is_whole_1 := ok_is_whole_1 (P := P) (w := w) (base := base) T
  have O_is_whole_2 := ok_is_whole_2 (P := P) (w := w) (base := base) T
  have O_is_whole_3 := ok_is_whole_3 (P := P) (w := w) (base := base) T
  refine F.ok sc_is_ratio (fun vs H Q E h => ?_) (fun cdv A outer s H vs Q E hr h => ?_)
  · obtain ⟨a, rfl, _⟩ := h; rfl
  · obtain ⟨a, rfl, h⟩ := h
    refine ⟨_, (pss_cons (ps_if (PW.pt (pw_or (pt_not (Z.pt_truN (pe_callB Z.zIsi (by rfl) T.b_isinstance (by decide +kernel) (pa_cons (pv 0) (pa_cons (pe_bltn (by rfl) T.b_tuple (by decide +kernel) (show RelV (.ty "tuple") _ from rfl)) pa_nil))))) (pw_or1 (pt_cmpR (Z.zNe (Z.hu0 hr)) (pe_callB Z.zLen (by rfl) T.b_len (by decide +kernel) (pa_cons (pv 0) pa_nil)) pe_int (nomark _)))))
        (pss_one (ps_ret pe_bl))
        pss_nil)
      (pss_cons (ps_asg (pv 0) (pg_tup (by rfl) (pgs_cons (pg_name (i := 1) sc_is_ratio.nd rfl (by first | exact Or.inl rfl | exact Or.inr rfl)) (pgs_cons (pg_name (i := 2) sc_is_ratio.nd rfl (by first | exact Or.inl rfl | exact Or.inr rfl)) pgs_nil))))
      (pss_one (ps_ret (pe_andT (Z.pe_callO O_is_whole_1 (by rfl) (hr.mono (by decide)) pass0 (pa_cons (pv 1) pa_nil)) (pe_andT (Z.pe_callO O_is_whole_2 (by rfl) (hr.mono (by decide)) pass0 (pa_cons (pv 2) (pa_cons pe_int pa_nil))) (pe_one (pe_cmpR (Z.zEq (Z.hu0 hr)) (pe_callBfun cr_gcd (by rfl) T.m_gcd (pa_cons (pv 1) (pa_cons (pv 2) pa_nil))) pe_int (nomark _))))))))), ?_⟩
    try dsimp only [cxOf, Cx.nox, Cx.wish]
    refine Z.at_start (σ' := [some a, none, none]) rfl ?_
    obtain ⟨L, o, F, h, q⟩ := h
    rcases h with ⟨k, ht, hk, rfl⟩ | ⟨p, xs, rfl, rfl, hl, hp, hx⟩
    · walk_at "z"
      refine Z.wIsiTuple (ht.has F) ?_
      rw [hk]
      walk_at "z"
      exact q
    have sq := TupIs.sq (K := K) F hp
    walk_at "z"
    refine Z.wIsiTuple (.tup sq) ?_
    walk_at "z"
    by_cases h2 : xs.length = 2
    case neg =>
      have e : isRtV (some xs) = false := by
        unfold isRtV isRt
        dsimp only
        split
        · exact absurd rfl h2
        · rfl
      rw [e] at q
      rw [decide_eq_false (show ¬ (xs.length : Int) = 2 by omega)]
      walk_at "z"
      exact q
    obtain ⟨x, y, rfl⟩ : ∃ x y, xs = [x, y] := by
      match xs, h2 with
      | [x, y], _ => exact ⟨x, y, rfl⟩
    obtain ⟨kx, tx⟩ := hx x (by simp)
    obtain ⟨ky, ty⟩ := hx y (by simp)
    walk_at "z"
    refine use_is_whole (tx.has F) (.inl rfl) (.inl rfl) ?_
    walk_at "z"
    refine Z.wIf (fun h1 => ?_) (fun h1 => ?_)
    case refine_2 =>
      rw [h1]
      have e : isRtV (some [x, y]) = false := by
        cases x with
        | int i => exact absurd h1 (by simp [Z.inB])
        | _ => rfl
      rw [e] at q
      exact q
    obtain ⟨t, rfl⟩ : ∃ t, x = .int t := by
      cases x with
      | int i => exact ⟨i, rfl⟩
      | _ => exact absurd h1 (by simp [Z.inB])
    walk_at "z"
    refine use_is_whole (ty.has F) (.inr ⟨_, rfl⟩) (.inl rfl) ?_
    walk_at "z"
    refine Z.wIf (fun h3 => ?_) (fun h3 => ?_)
    case refine_2 =>
      rw [h3]
      have e : isRtV (some [.int t, y]) = false := by
        cases y with
        | int i =>
          have : ¬ 1 ≤ i := by simpa [Z.inB] using h3
          simp [isRtV, isRt, this]
        | _ => rfl
      rw [e] at q
      exact q
    obtain ⟨d, rfl⟩ : ∃ d, y = .int d := by
      cases y with
      | int i => exact ⟨i, rfl⟩
      | _ => exact absurd h3 (by simp [Z.inB])
    have d1 : 1 ≤ d := by simpa [Z.inB] using h3
    walk_at "z"
    have e : isRtV (some [.int t, .int d]) = decide (((Nat.gcd t.natAbs d.natAbs : Nat) : Int) = 1) := by
      simp only [isRtV, isRt, d1, decide_true, Bool.true_and]
      rw [Bool.eq_iff_iff, decide_eq_true_iff, decide_eq_true_iff]
      omega
    rw [e] at q
    exact q
theorem ok_is_ratio (T : Txt K mg c_BadRatio c_ONE c_ZERO) : Z.Ok CX0 P w K mg base "is_ratio" 2 ["thing"] [] (sp_is_ratio K) := by
  obtain ⟨f, fd, F, g⟩ := T.d_is_ratio
  exact Z.mkOk F g (F.binds (ps := ["thing"]) fun _ _ _ _ _ _ us hl => match us, hl with | [_], _ => rfl) (fn_is_ratio T F)
theorem use_is_ratio {H : Hp} {Q : VK} {E : XK} {L : List Z.En} {a : V} {o : Option (List V)} (F : Z.Fx H L) (h : TupIs K L a o) (q : Q (.bl (isRtV o)) H) : sp_is_ratio K [a] H Q E := ⟨_, rfl, L, o, F, h, q⟩
theorem sc__law_unlike : FnScope ["_law_told", "_law_due"] ["_law_told", "_law_due"] (defScope s__law_unlike) := ⟨rfl, rfl, rfl, by decide +kernel, rfl, by decide +kernel, by decide +kernel⟩
/-- a bool that is not the one that is due -/
def sp__law_unlike : Sp := Z.Sp2 fun a b H Q E => ∃ t d : Bool, a = .bl t ∧ b = .bl d ∧ Q (.bl (t != d)) H
theorem fn__law_unlike (T : Txt K mg c_BadRatio c_ONE c_ZERO) {f : Addr} {fd : FuncData} (F : Fun K "_law_unlike" "_law_unlike" s__law_unlike f fd) : FnOk P w K mg base CX0 1 f fd ["_law_told", "_law_due"] sp__law_unlike := by
  refine F.ok sc__law_unlike (fun vs H Q E h => ?_) (fun cdv A outer s H vs Q E hr h => ?_)
  · obtain ⟨a, b, rfl, _⟩ := h; rfl
  · obtain ⟨a, b, rfl, h⟩ := h
    refine ⟨_, (pss_one (ps_ret (pe_ifExp (Z.pt_truN (pv 1)) (pe_cmpR Z.zIsNot (pv 0) pe_bl (nomark _)) (pe_cmpR Z.zIsNot (pv 0) pe_bl (nomark _))))), ?_⟩
    try dsimp only [cxOf, Cx.nox, Cx.wish]
    refine Z.at_start (σ' := [some a, some b]) rfl ?_
    obtain ⟨t, d, rfl, rfl, q⟩ := h
    cases t <;> cases d <;> walk_at "zz" <;> exact q
theorem ok__law_unlike (T : Txt K mg c_BadRatio c_ONE c_ZERO) : Z.Ok CX0 P w K mg base "_law_unlike" 1 ["_law_told", "_law_due"] [] sp__law_unlike := by
  obtain ⟨f, fd, F, g⟩ := T.d__law_unlike
  exact Z.mkOk F g (F.binds (ps := ["_law_told", "_law_due"]) fun _ _ _ _ _ _ us hl => match us, hl with | [_, _], _ => rfl) (fn__law_unlike T F)
theorem use__law_unlike {H : Hp} {Q : VK} {E : XK} {t d : Bool} (q : Q (.bl (t != d)) H) : sp__law_unlike [.bl t, .bl d] H Q E := ⟨_, _, rfl, t, d, rfl, rfl, q⟩
local macro_rules | `(tactic| walk_at "zc") => `(tactic| (with_reducible refine use__law_unlike ?_))
theorem sc__law_things : FnScope ["_law_hand_here", "_law_one", "_law_other", "_law_a", "_law_b", "_law_factor", "_law_thing", "_law_down", "_law_up", "_law_number_here"] ["_law_hand_here", "_law_one", "_law_other"] (defScope s__law_things) := ⟨rfl, rfl, rfl, by decide +kernel, rfl, by decide +kernel, by decide +kernel⟩
def sp__law_things (K : PySem.W.Frag) (cZ cO : Addr) : Sp := Z.Sp3 fun x y z H Q E => ∃ (L : List Z.En) (l c : Addr) (r t : Int × Int), x = .ref l ∧ Z.Fx H L ∧ Z.En.hand l c ∈ L ∧ Z.Rt K L y r.1 r.2 ∧ Z.Rt K L z t.1 t.2 ∧ SmallR r ∧ SmallR t ∧ ∀ L1 H', L.Sublist L1 → Z.Fx H' L1 → Q (.bl true) H'
theorem fn__law_things (T : Txt K mg c_BadRatio c_ONE c_ZERO) {f : Addr} {fd : FuncData} (F : Fun K "_law_things" "_law_things" s__law_things f fd) : FnOk P w K mg base CX0 4 f fd ["_law_hand_here", "_law_one", "_law_other"] (sp__law_things K c_ZERO c_ONE) := by
  have O__law_odd := ok__law_odd (P := P) (w := w) (base := base) T
  have O__law_take := ok__law_take (P := P) (w := w) (base := base) T
  have O__law_unlike := ok__law_unlike (P := P) (w := w) (base := base) T
  have O_is_ratio := ok_is_ratio (P := P) (w := w) (base := base) T
  have O_is_whole_1 := ok_is_whole_1 (P := P) (w := w) (base := base) T
  have O_is_whole_2 := ok_is_whole_2 (P := P) (w := w) (base := base) T
  have O_is_whole_3 := ok_is_whole_3 (P := P) (w := w) (base := base) T
  refine F.ok sc__law_things (fun vs H Q E h => ?_) (fun cdv A outer s H vs Q E hr h => ?_)
  · obtain ⟨a, b, c, rfl, _⟩ := h; rfl
  · obtain ⟨a, b, c, rfl, h⟩ := h
    refine ⟨_, (pss_cons (ps_asg (pv 1) (pg_tup (by rfl) (pgs_cons (pg_name (i := 3) sc__law_things.nd rfl (by first | exact Or.inl rfl | exact Or.inr rfl)) (pgs_cons (pg_name (i := 4) sc__law_things.nd rfl (by first | exact Or.inl rfl | exact Or.inr rfl)) pgs_nil))))
      (pss_cons (ps_if (PW.pt (pw_or (pt_cmpR Z.zIsNot (Z.pe_callO O_is_ratio (by rfl) (hr.mono (by decide)) pass0 (pa_cons (pv 1) pa_nil)) pe_bl (nomark _)) (pw_or (pt_cmpR Z.zIsNot (Z.pe_callO O_is_ratio (by rfl) (hr.mono (by decide)) pass0 (pa_cons (pe_lst (pa_cons (pv 3) (pa_cons (pv 4) pa_nil))) pa_nil)) pe_bl (nomark _)) (pw_or1 (pt_cmpR Z.zIsNot (Z.pe_callO O_is_ratio (by rfl) (hr.mono (by decide)) pass0 (pa_cons (pv 3) pa_nil)) pe_bl (nomark _))))))
        (pss_one (ps_ret pe_bl))
        pss_nil)
      (pss_cons (ps_set (i := 5) sc__law_things.nd rfl (by first | exact Or.inl rfl | exact Or.inr rfl) (pe_op Z.zAdd pe_int (Z.pe_callO O__law_take (by rfl) (hr.mono (by decide)) pass0 (pa_cons (pv 0) (pa_cons pe_int pa_nil)))))
      (pss_cons (ps_for PassesOwn.never (by rfl) (Z.pi_seq (pe_lst (pa_cons (pe_tup (pa_cons (pe_op Z.zMul (pv 3) (pv 5)) (pa_cons (pe_op Z.zMul (pv 4) (pv 5)) pa_nil))) (pa_cons (pe_tup (pa_cons (pv 3) (pa_cons (pe_un un_neg (pv 4)) pa_nil))) (pa_cons (pe_tup (pa_cons (pv 3) (pa_cons pe_int pa_nil))) (pa_cons (pe_tup (pa_cons (pv 3) (pa_cons (pv 4) (pa_cons pe_int pa_nil)))) (pa_cons (pe_tup (pa_cons (pv 3) pa_nil)) (pa_cons (pe_tup (pa_cons pe_bl (pa_cons pe_int pa_nil))) (pa_cons (pe_tup (pa_cons pe_int (pa_cons pe_bl pa_nil))) (pa_cons (pe_tup (pa_cons pe_str (pa_cons pe_int pa_nil))) (pa_cons pe_non pa_nil))))))))))) (pg_name (i := 6) sc__law_things.nd rfl (by first | exact Or.inl rfl | exact Or.inr rfl))
        (pss_one (ps_if (pt_cmpR Z.zIsNot (Z.pe_callO O_is_ratio (by rfl) (hr.mono (by decide)) pass0 (pa_cons (pv 6) pa_nil)) pe_bl (nomark _))
          (pss_one (ps_ret pe_bl))
          pss_nil)))
      (pss_cons (ps_set (i := 7) sc__law_things.nd rfl (by first | exact Or.inl rfl | exact Or.inr rfl) (pe_op op_sub (Z.pe_callO O__law_take (by rfl) (hr.mono (by decide)) pass0 (pa_cons (pv 0) (pa_cons pe_int pa_nil))) pe_int))
      (pss_cons (ps_set (i := 8) sc__law_things.nd rfl (by first | exact Or.inl rfl | exact Or.inr rfl) (pe_op Z.zAdd (pv 7) (Z.pe_callO O__law_take (by rfl) (hr.mono (by decide)) pass0 (pa_cons (pv 0) (pa_cons pe_int pa_nil)))))
      (pss_cons (ps_for PassesOwn.never (by rfl) (pi_range2 (by rfl) T.b_range (pa_cons (pe_op op_sub (pv 7) pe_int) (pa_cons (pe_op Z.zAdd (pv 8) pe_int) pa_nil))) (pg_name (i := 9) sc__law_things.nd rfl (by first | exact Or.inl rfl | exact Or.inr rfl))
        (pss_cons (ps_if (Z.pt_truN (Z.pe_callO O__law_unlike (by rfl) (hr.mono (by decide)) pass0 (pa_cons (Z.pe_callO O_is_whole_3 (by rfl) (hr.mono (by decide)) pass0 (pa_cons (pv 9) (pa_cons (pv 7) (pa_cons (pv 8) pa_nil)))) (pa_cons (pe_chain Z.zLe Z.zLe (pv 7) (pv 9) (pv 8)) pa_nil))))
          (pss_one (ps_ret pe_bl))
          pss_nil)
        (pss_one (ps_if (PW.pt (pw_or (Z.pt_truN (Z.pe_callO O__law_unlike (by rfl) (hr.mono (by decide)) pass0 (pa_cons (Z.pe_callO O_is_whole_2 (by rfl) (hr.mono (by decide)) pass0 (pa_cons (pv 9) (pa_cons (pv 7) pa_nil))) (pa_cons (pe_cmpR Z.zLe (pv 7) (pv 9) (nomark _)) pa_nil)))) (pw_or1 (Z.pt_truN (Z.pe_callO O__law_unlike (by rfl) (hr.mono (by decide)) pass0 (pa_cons (Z.pe_callNO (ok_is_whole_high (P := P) (w := w) (base := base) T) (by rfl) (hr.mono (by decide)) pass0 (pa_cons (pv 9) pa_nil) (pk_cons (pv 8) pk_nil)) (pa_cons (pe_cmpR Z.zLe (pv 9) (pv 8) (nomark _)) pa_nil)))))))
          (pss_one (ps_ret pe_bl))
          pss_nil))))
      (pss_cons (ps_if (PW.pt (pw_or (pt_cmpR Z.zIsNot (Z.pe_callO O_is_whole_1 (by rfl) (hr.mono (by decide)) pass0 (pa_cons (pv 3) pa_nil)) pe_bl (nomark _)) (pw_or1 (pt_cmpR Z.zIsNot (Z.pe_callNO (ok_is_whole_low (P := P) (w := w) (base := base) T) (by rfl) (hr.mono (by decide)) pass0 (pa_cons (pe_ix ix_seq (pv 2) pe_int (fun _ _ => rfl)) pa_nil) (pk_cons (pe_ix ix_seq (pv 2) pe_int (fun _ _ => rfl)) pk_nil)) pe_bl (nomark _)))))
        (pss_one (ps_ret pe_bl))
        pss_nil)
      (pss_one (ps_ret (pe_andT (pe_cmpR Z.zIs (Z.pe_callO O_is_whole_1 (by rfl) (hr.mono (by decide)) pass0 (pa_cons (Z.pe_callO O__law_odd (by rfl) (hr.mono (by decide)) pass0 (pa_cons (pv 0) pa_nil)) pa_nil)) pe_bl (nomark _)) (pe_andT (pe_cmpR (Z.zEq (Z.hu0 hr)) (pe_glob (v := V.ref c_ZERO) (by rfl) T.k_ZERO (show RelV (V.ref _) _ from rfl)) (pe_tup (pa_cons pe_int (pa_cons pe_int pa_nil))) (nomark _)) (pe_one (pe_cmpR (Z.zEq (Z.hu0 hr)) (pe_glob (v := V.ref c_ONE) (by rfl) T.k_ONE (show RelV (V.ref _) _ from rfl)) (pe_tup (pa_cons pe_int (pa_cons pe_int pa_nil))) (nomark _))))))))))))))), ?_⟩
    try dsimp only [cxOf, Cx.nox, Cx.wish]
    refine Z.at_start (σ' := [some a, some b, some c, none, none, none, none, none, none, none]) rfl ?_
    obtain ⟨L, l, cc, ⟨ra, rb⟩, ⟨tc, td⟩, rfl, F, mh, hx, hy, ⟨sa, sb, rb1, rg⟩, st, k⟩ := h
    dsimp only at hx hy sa sb rb1 rg
    obtain ⟨p, rfl, s1⟩ := hx.sq F
    obtain ⟨q, rfl, s2⟩ := hy.sq F
    walk_at "z"
    refine use_is_ratio F (Rt.tup hx) ?_
    have e1 : isRtV (some [.int ra, .int rb]) = true := by simp [isRtV, isRt, rb1, rg]
    rw [e1]
    walk_at "z"
    rename_i q1 H1 F1
    refine use_is_ratio F1 (.inl ⟨_, .lst (.head _), rfl, rfl⟩) ?_
    rw [show isRtV none = false from rfl]
    walk_at "z"
    refine use_is_ratio F1 (.inl ⟨_, .int _, rfl, rfl⟩) ?_
    rw [show isRtV none = false from rfl]
    walk_at "z"
    rename_i fv Hf Ff fv0 fv1 a8 h8 f8 a7 h7 f7 a6 h6 f6 a5 h5 f5 a4 h4 f4 a3 h3 f3 a2 h2 f2 a1 h1 f1 a0 h0 f0
    clear f1 f2 f3 f4 f5 f6 f7 f8 Ff F1
    obtain ⟨LL, hLL, FF, hs, m0⟩ : ∃ LL, (Z.En.ob a0 (.lst [V.ref a8, V.ref a7, V.ref a6, V.ref a5, V.ref a4, V.ref a3, V.ref a2, V.ref a1, V.non]) :: Z.En.ob a1 (.tup [.str ("1" : Str), .int 2]) :: Z.En.ob a2 (.tup [.int 3, .bl true]) :: Z.En.ob a3 (.tup [.bl true, .int 1]) :: Z.En.ob a4 (.tup [.int ra]) :: Z.En.ob a5 (.tup [.int ra, .int rb, .int 1]) :: Z.En.ob a6 (.tup [.int ra, .int 0]) :: Z.En.ob a7 (.tup [.int ra, .int (-rb)]) :: Z.En.ob a8 (.tup [.int (ra * (2 + fv)), .int (rb * (2 + fv))]) :: Z.En.ob q1 (.lst [.int ra, .int rb]) :: L) = LL ∧ Z.Fx h0 LL ∧ L.Sublist LL ∧ Z.En.ob a0 (.lst [V.ref a8, V.ref a7, V.ref a6, V.ref a5, V.ref a4, V.ref a3, V.ref a2, V.ref a1, V.non]) ∈ LL := ⟨_, rfl, f0, by walk_at "zsub", .head _⟩
    have th1 : ∀ x ∈ [V.int ra], ∃ k, Z.Thing LL x k := fun x hx => by cases List.mem_singleton.mp hx; exact ⟨_, .int _⟩
    have hall : ∀ y ∈ [V.ref a8, V.ref a7, V.ref a6, V.ref a5, V.ref a4, V.ref a3, V.ref a2, V.ref a1, V.non], ∃ o, TupIs K LL y o ∧ isRtV o = false := by
      intro y hy
      have tup : ∀ (p : Addr) (xs : List V), Z.En.ob p (.tup xs) ∈ LL → xs.length ≤ 1000 → (∀ x ∈ xs, ∃ k, Z.Thing LL x k) → isRt xs = false → ∃ o, TupIs K LL (.ref p) o ∧ isRtV o = false := fun p xs m l t h => ⟨some xs, .inr ⟨p, xs, rfl, rfl, l, .inl m, t⟩, h⟩
      have two : ∀ (x y : V), (∃ k, Z.Thing LL x k) → (∃ k, Z.Thing LL y k) → ∀ z ∈ [x, y], ∃ k, Z.Thing LL z k := fun x y a b z hz => by
        simp only [List.mem_cons, List.not_mem_nil, or_false] at hz
        rcases hz with rfl | rfl
        · exact a
        · exact b
      subst hLL
      simp only [List.mem_cons, List.not_mem_nil, or_false] at hy
      rcases hy with rfl | rfl | rfl | rfl | rfl | rfl | rfl | rfl | rfl
      · refine tup _ _ (by walk_at "zm") (by simp) (two _ _ ⟨_, .int _⟩ ⟨_, .int _⟩) ?_
        have : Nat.gcd (ra * (2 + fv)).natAbs (rb * (2 + fv)).natAbs ≠ 1 := by
          rw [Int.natAbs_mul, Int.natAbs_mul, Nat.gcd_mul_right, rg]
          omega
        simp [isRt, this]
      · exact tup _ _ (by walk_at "zm") (by simp) (two _ _ ⟨_, .int _⟩ ⟨_, .int _⟩) (by simp [isRt]; omega)
      · exact tup _ _ (by walk_at "zm") (by simp) (two _ _ ⟨_, .int _⟩ ⟨_, .int _⟩) (by simp [isRt])
      · exact tup _ _ (by walk_at "zm") (by simp) (fun x hx => by
          simp only [List.mem_cons,
                List.not_mem_nil, or_false] at hx
          rcases hx with rfl | rfl | rfl <;> exact ⟨_, .int _⟩) rfl
      · exact tup _ _ (by walk_at "zm") (by simp) th1 rfl
      · exact tup _ _ (by walk_at "zm") (by simp) (two _ _ ⟨_, .bl _⟩ ⟨_, .int _⟩) rfl
      · exact tup _ _ (by walk_at "zm") (by simp) (two _ _ ⟨_, .int _⟩ ⟨_, .bl _⟩) rfl
      · exact tup _ _ (by walk_at "zm") (by simp) (two _ _ ⟨_, .str _⟩ ⟨_, .int _⟩) rfl
      · exact ⟨none, .inl ⟨_, .non, rfl, rfl⟩, rfl⟩
    clear hLL f0
    refine Z.wForLi FF m0 (fun i σ H' => ∃ v6, σ = [some (.ref l), some (.ref p), some (.ref q), some (.int ra), some (.int rb), some (.int (2 + fv)), v6, none, none, none] ∧ Z.Fx H' LL) ⟨_, rfl, FF⟩ ?_ ?_ ?_
    · rintro i σ H' ⟨v6, rfl, F'⟩
      exact ⟨_, F', m0⟩
    · rintro i y σ H' hy ⟨v6, rfl, F'⟩
      obtain ⟨o, to, ho⟩ := hall y (List.mem_of_getElem? hy)
      walk_at "z"
      refine use_is_ratio F' to ?_
      rw [ho]
      walk_at "z"
      exact ⟨_, rfl, F'⟩
    rintro σ H3 ⟨v6, rfl, F3⟩
    have mh3 := hs.subset mh
    have hx3 := hx.le hs
    have hy3 := hy.le hs
    clear hall th1
    walk_at "z"
    rename_i dv H4 F4 dv0 dv1 uv H5 F5 uv0 uv1
    refine Z.wForW walk_range (fun i σ H' => ∃ v9, σ = [some (.ref l), some (.ref p), some (.ref q), some (.int ra), some (.int rb), some (.int (2 + fv)), v6, some (.int (dv - 4)), some (.int (dv - 4 + uv)), v9] ∧ H' = H5) ⟨_, rfl, rfl⟩ (fun _ _ _ _ _ => trivial) ?_ ?_
    · rintro i u σ H6 H7 hi ⟨v9, rfl, rfl⟩ ⟨rfl, rfl⟩
      dsimp only
      generalize dv - 4 - 1 + (i : Int) = n
      generalize dv - 4 = lo at *
      generalize lo + uv = up at *
      have nb : ∀ t : Bool, (t != t) = false := fun t => by cases t <;> rfl
      walk_at "zg"
      refine Z.wSeq ?_
      refine Z.wMidS (fun σ' H' => σ' = [some (.ref l), some (.ref p), some (.ref q), some (.int ra), some (.int rb), some (.int (2 + fv)), v6, some (.int lo), some (.int up), some (.int n)] ∧ H' = H7) (fun N hk => ?_) ?_
      · walk_at "z"
        refine Z.wIfD (fun h => ?_) (fun h => ?_)
        · rw [show Z.inB (.int n) (.int lo) (.int up) = decide (n ≤ up) by simp [Z.inB, h]]
          walk_at "z"
          rw [nb]
          walk_at "z"
          exact hk _ _ ⟨rfl, rfl⟩
        · rw [show Z.inB (.int n) (.int lo) (.int up) = false by simp [Z.inB, h]]
          walk_at "z"
          exact hk _ _ ⟨rfl, rfl⟩
      rintro _ _ ⟨rfl, rfl⟩
      walk_at "z"
      rw [show Z.inB (.int n) (.int lo) .non = decide (lo ≤ n) by simp [Z.inB]]
      rw [nb]
      walk_at "z"
      refine ⟨rfl, rfl, ?_⟩
      refine use_is_whole (b := .non) (c := .int up) (.int _) (.inl rfl) (.inr ⟨_, rfl⟩) ?_
      rw [show Z.inB (.int n) .non (.int up) = decide (n ≤ up) by simp [Z.inB]]
      walk_at "z"
      rw [nb]
      walk_at "z"
      exact ⟨_, rfl, rfl⟩
    rintro σ H6 ⟨v9, rfl, rfl⟩
    obtain ⟨_, e, s2'⟩ := hy3.sq F5
    cases e
    walk_at "z"
    refine ⟨rfl, rfl, ?_⟩
    refine use_is_whole (b := .int tc) (c := .non) (.int _) (.inr ⟨_, rfl⟩) (.inl rfl) ?_
    rw [show Z.inB (.int tc) (.int tc) .non = true by simp [Z.inB]]
    walk_at "z"
    refine use__law_odd F5 mh3 fun v N H7 o F7 => ?_
    obtain ⟨d, hd, _⟩ := odd_data (L := LL) o
    obtain ⟨kk, tk⟩ := Dt.thing hd
    walk_at "z"
    refine use_is_whole (tk.has F7) (.inl rfl) (.inl rfl) ?_
    rw [odd_inB o]
    walk_at "z"
    rename_i z1 H8 F8
    refine Z.wEqTT (T.kt_ZERO _) (F8.tup (.head _)) (ns := [0, 1]) (ms := [0, 1]) ?_
    rw [decide_eq_true rfl]
    walk_at "z"
    rename_i z2 H9 F9
    refine Z.wEqTT (T.kt_ONE _) (F9.tup (.head _)) (ns := [1, 1]) (ms := [1, 1]) ?_
    rw [decide_eq_true rfl]
    exact k _ _ (hs.trans ((List.sublist_append_right N LL).trans (.cons _ (.cons _ (.refl _))))) F9
theorem ok__law_things (T : Txt K mg c_BadRatio c_ONE c_ZERO) : Z.Ok CX0 P w K mg base "_law_things" 4 ["_law_hand_here", "_law_one", "_law_other"] [] (sp__law_things K c_ZERO c_ONE) := by
  obtain ⟨f, fd, F, g⟩ := T.d__law_things
  exact Z.mkOk F g (F.binds (ps := ["_law_hand_here", "_law_one", "_law_other"]) fun _ _ _ _ _ _ us hl => match us, hl with | [_, _, _], _ => rfl) (fn__law_things T F)
theorem use__law_things {cZ cO : Addr} {H : Hp} {Q : VK} {E : XK} {L : List Z.En} {l c : Addr} {y z : V} {r t : Int × Int} (F : Z.Fx H L) (mh : Z.En.hand l c ∈ L) (hx : Z.Rt K L y r.1 r.2) (hy : Z.Rt K L z t.1 t.2) (sr : SmallR r) (st : SmallR t) (k : ∀ L1 H', L.Sublist L1 → Z.Fx H' L1 → Q (.bl true) H') : sp__law_things K cZ cO [.ref l, y, z] H Q E := ⟨_, _, _, rfl, L, l, c, r, t, rfl, F, mh, hx, hy, sr, st, k⟩
theorem sc_least_of : FnScope ["ratios", "least", "ratio"] ["ratios"] (defScope s_least_of) := ⟨rfl, rfl, rfl, by decide +kernel, rfl, by decide +kernel, by decide +kernel⟩
def lesR (l r : Int × Int) : Int × Int := if cmpI r.1 r.2 l.1 l.2 < 0 then r else l
def lstR (rows : List (Int × Int)) : Int × Int := rows.tail.foldl lesR (rows.getD 0 (0, 1))
def sp_least_of (K : PySem.W.Frag) : Sp := Z.Sp1 fun x H Q E => ∃ (L : List Z.En) (vs : List V) (rows : List (Int × Int)), Z.Fx H L ∧ Z.SeqIs L x (some vs) ∧ RowsR K L vs rows ∧ (∀ r ∈ rows, SmallR r) ∧ 1 ≤ rows.length ∧ rows.length ≤ 20 ∧ ∀ v H' N, Z.Rt K (N ++ L) v (lstR rows).1 (lstR rows).2 → Z.Fx H' (N ++ L) → Q v H'
theorem fn_least_of (T : Txt K mg c_BadRatio c_ONE c_ZERO) {f : Addr} {fd : FuncData} (F : Fun K "least_of" "least_of" s_least_of f fd) : FnOk P w K mg base CX0 2 f fd ["ratios"] (sp_least_of K) := by
  have O_compare := ok_compare (P := P) (w := w) (base := base) T
  refine F.ok sc_least_of (fun vs H Q E h => ?_) (fun cdv A outer s H vs Q E hr h => ?_)
  · obtain ⟨a, rfl, _⟩ := h; rfl
  · obtain ⟨a, rfl, h⟩ := h
    refine ⟨_, (pss_cons (ps_set (i := 1) sc_least_of.nd rfl (by first | exact Or.inl rfl | exact Or.inr rfl) (pe_ix ix_seq (pv 0) pe_int (fun _ _ => rfl)))
      (pss_cons (ps_for PassesOwn.never (by rfl) (Z.pi_seq (pe_slice Z.zSlA (pv 0) (po_some pe_int) po_none)) (pg_name (i := 2) sc_least_of.nd rfl (by first | exact Or.inl rfl | exact Or.inr rfl))
        (pss_one (ps_if (pt_cmpR Z.zLt (Z.pe_callO O_compare (by rfl) (hr.mono (by decide)) pass0 (pa_cons (pv 2) (pa_cons (pv 1) pa_nil))) pe_int (nomark _))
          (pss_one (ps_set (i := 1) sc_least_of.nd rfl (by first | exact Or.inl rfl | exact Or.inr rfl) (pv 2)))
          pss_nil)))
      (pss_one (ps_ret (pv 1))))), ?_⟩
    try dsimp only [cxOf, Cx.nox, Cx.wish]
    refine Z.at_start (σ' := [some a, none, none]) rfl ?_
    obtain ⟨L, vs, rows, F, hs, al, hr, h1, hl, k⟩ := h
    have hlen := al.len
    obtain ⟨r0, hr0⟩ : ∃ r0, rows[0]? = some r0 := ⟨_, List.getElem?_eq_getElem (by omega)⟩
    obtain ⟨v0, hv0, rt0⟩ := al.getR hr0
    walk_at "z"
    refine Z.wIxSq hs F (v := v0) (by have := L2.atI_nat hv0; simpa using this) ?_
    walk_at "z"
    refine Z.wSlAS hs (.refl _) F fun p H1 N hq F1 => ?_
    rw [Z.cut_tail] at hq
    walk_at "z"
    refine Z.wForQ hq.isR F1 (fun i σ H' => ∃ (v : V) (v2 : Option V) (r : Int × Int), σ = [some a, some v, v2] ∧ H' = H1 ∧ Z.Rt K (N ++ L) v r.1 r.2 ∧ r ∈ rows ∧ r = (rows.tail.take i).foldl lesR r0) ⟨_, _, r0, rfl, rfl, rt0.mono fun _ m => List.mem_append_right _ m, List.mem_of_getElem? hr0, rfl⟩ ?_ ?_ ?_
    · rintro i σ H' ⟨v, v2, r, rfl, rfl, rt, hm, e⟩
      exact ⟨_, F1, fun _ h => h⟩
    · rintro i x σ H' hx ⟨v, v2, r, rfl, rfl, rt, hm, e⟩
      rw [List.getElem?_tail] at hx
      obtain ⟨r2, hr2, rx⟩ := al.getL hx
      have hm2 := List.mem_of_getElem? hr2
      have s1 := hr r hm
      have s2 := hr r2 hm2
      have stp : (rows.tail.take (i + 1)).foldl lesR r0 = lesR r r2 := by
        rw [List.take_add_one, List.getElem?_tail, hr2, List.foldl_append, ← e]; rfl
      walk_at "z"
      refine use_compare F1 (rx.mono fun _ m => List.mem_append_right _ m) rt (s2.1.mono (by decide)) (s2.2.1.mono (by decide)) (s1.1.mono (by decide)) (s1.2.1.mono (by decide)) ?_
      walk_at "z"
      refine Z.wIfD (fun h => ?_) (fun h => ?_)
      · walk_at "z"
        exact ⟨x, _, r2, rfl, rfl, rx.mono fun _ m => List.mem_append_right _ m, hm2, by rw [stp]; unfold lesR; rw [if_pos h]⟩
      · walk_at "z"
        exact ⟨v, _, r, rfl, rfl, rt, hm, by rw [stp]; unfold lesR; rw [if_neg h]⟩
    · rintro σ H' ⟨v, v2, r, rfl, rfl, rt, hm, e⟩
      walk_at "z"
      have e2 : lstR rows = r := by
        unfold lstR
        rw [List.getD_eq_getElem?_getD, hr0, e, List.length_tail, hlen, ← List.length_tail, List.take_length]
        rfl
      rw [← e2] at rt
      exact k v H' N rt F1
theorem ok_least_of (T : Txt K mg c_BadRatio c_ONE c_ZERO) : Z.Ok CX0 P w K mg base "least_of" 2 ["ratios"] [] (sp_least_of K) := by
  obtain ⟨f, fd, F, g⟩ := T.d_least_of
  exact Z.mkOk F g (F.binds (ps := ["ratios"]) fun _ _ _ _ _ _ us hl => match us, hl with | [_], _ => rfl) (fn_least_of T F)
theorem use_least_of {H : Hp} {Q : VK} {E : XK} {L : List Z.En} {x : V} {vs : List V} {rows : List (Int × Int)} (F : Z.Fx H L) (hs : Z.SeqIs L x (some vs)) (al : RowsR K L vs rows) (hr : ∀ r ∈ rows, SmallR r) (h1 : 1 ≤ rows.length) (hl : rows.length ≤ 20) (k : ∀ v H' N, Z.Rt K (N ++ L) v (lstR rows).1 (lstR rows).2 → Z.Fx H' (N ++ L) → Q v H') : sp_least_of K [x] H Q E := ⟨_, rfl, L, vs, rows, F, hs, al, hr, h1, hl, k⟩
theorem sc_greatest_of : FnScope ["ratios", "greatest", "ratio"] ["ratios"] (defScope s_greatest_of) := ⟨rfl, rfl, rfl, by decide +kernel, rfl, by decide +kernel, by decide +kernel⟩
def greR (l r : Int × Int) : Int × Int := if cmpI r.1 r.2 l.1 l.2 > 0 then r else l
def grtR (rows : List (Int × Int)) : Int × Int := rows.tail.foldl greR (rows.getD 0 (0, 1))
def sp_greatest_of (K : PySem.W.Frag) : Sp := Z.Sp1 fun x H Q E => ∃ (L : List Z.En) (vs : List V) (rows : List (Int × Int)), Z.Fx H L ∧ Z.SeqIs L x (some vs) ∧ RowsR K L vs rows ∧ (∀ r ∈ rows, SmallR r) ∧ 1 ≤ rows.length ∧ rows.length ≤ 20 ∧ ∀ v H' N, Z.Rt K (N ++ L) v (grtR rows).1 (grtR rows).2 → Z.Fx H' (N ++ L) → Q v H'
theorem fn_greatest_of (T : Txt K mg c_BadRatio c_ONE c_ZERO) {f : Addr} {fd : FuncData} (F : Fun K "greatest_of" "greatest_of" s_greatest_of f fd) : FnOk P w K mg base CX0 2 f fd ["ratios"] (sp_greatest_of K) := by
  have O_compare := ok_compare (P := P) (w := w) (base := base) T
  refine F.ok sc_greatest_of (fun vs H Q E h => ?_) (fun cdv A outer s H vs Q E hr h => ?_)
  · obtain ⟨a, rfl, _⟩ := h; rfl
  · obtain ⟨a, rfl, h⟩ := h
    refine ⟨_, (pss_cons (ps_set (i := 1) sc_greatest_of.nd rfl (by first | exact Or.inl rfl | exact Or.inr rfl) (pe_ix ix_seq (pv 0) pe_int (fun _ _ => rfl)))
      (pss_cons (ps_for PassesOwn.never (by rfl) (Z.pi_seq (pe_slice Z.zSlA (pv 0) (po_some pe_int) po_none)) (pg_name (i := 2) sc_greatest_of.nd rfl (by first | exact Or.inl rfl | exact Or.inr rfl))
        (pss_one (ps_if (pt_cmpR Z.zGt (Z.pe_callO O_compare (by rfl) (hr.mono (by decide)) pass0 (pa_cons (pv 2) (pa_cons (pv 1) pa_nil))) pe_int (nomark _))
          (pss_one (ps_set (i := 1) sc_greatest_of.nd rfl (by first | exact Or.inl rfl | exact Or.inr rfl) (pv 2)))
          pss_nil)))
      (pss_one (ps_ret (pv 1))))), ?_⟩
    try dsimp only [cxOf, Cx.nox, Cx.wish]
    refine Z.at_start (σ' := [some a, none, none]) rfl ?_
    obtain ⟨L, vs, rows, F, hs, al, hr, h1, hl, k⟩ := h
    have hlen := al.len
    obtain ⟨r0, hr0⟩ : ∃ r0, rows[0]? = some r0 := ⟨_, List.getElem?_eq_getElem (by omega)⟩
    obtain ⟨v0, hv0, rt0⟩ := al.getR hr0
    walk_at "z"
    refine Z.wIxSq hs F (v := v0) (by have := L2.atI_nat hv0; simpa using this) ?_
    walk_at "z"
    refine Z.wSlAS hs (.refl _) F fun p H1 N hq F1 => ?_
    rw [Z.cut_tail] at hq
    walk_at "z"
    refine Z.wForQ hq.isR F1 (fun i σ H' => ∃ (v : V) (v2 : Option V) (r : Int × Int), σ = [some a, some v, v2] ∧ H' = H1 ∧ Z.Rt K (N ++ L) v r.1 r.2 ∧ r ∈ rows ∧ r = (rows.tail.take i).foldl greR r0) ⟨_, _, r0, rfl, rfl, rt0.mono fun _ m => List.mem_append_right _ m, List.mem_of_getElem? hr0, rfl⟩ ?_ ?_ ?_
    · rintro i σ H' ⟨v, v2, r, rfl, rfl, rt, hm, e⟩
      exact ⟨_, F1, fun _ h => h⟩
    · rintro i x σ H' hx ⟨v, v2, r, rfl, rfl, rt, hm, e⟩
      rw [List.getElem?_tail] at hx
      obtain ⟨r2, hr2, rx⟩ := al.getL hx
      have hm2 := List.mem_of_getElem? hr2
      have s1 := hr r hm
      have s2 := hr r2 hm2
      have stp : (rows.tail.take (i + 1)).foldl greR r0 = greR r r2 := by
        rw [List.take_add_one, List.getElem?_tail, hr2, List.foldl_append, ← e]; rfl
      walk_at "z"
      refine use_compare F1 (rx.mono fun _ m => List.mem_append_right _ m) rt (s2.1.mono (by decide)) (s2.2.1.mono (by decide)) (s1.1.mono (by decide)) (s1.2.1.mono (by decide)) ?_
      walk_at "z"
      refine Z.wIfD (fun h => ?_) (fun h => ?_)
      · walk_at "z"
        exact ⟨x, _, r2, rfl, rfl, rx.mono fun _ m => List.mem_append_right _ m, hm2, by rw [stp]; unfold greR; rw [if_pos h]⟩
      · walk_at "z"
        exact ⟨v, _, r, rfl, rfl, rt, hm, by rw [stp]; unfold greR; rw [if_neg h]⟩
    · rintro σ H' ⟨v, v2, r, rfl, rfl, rt, hm, e⟩
      walk_at "z"
      have e2 : grtR rows = r := by
        unfold grtR
        rw [List.getD_eq_getElem?_getD, hr0, e, List.length_tail, hlen, ← List.length_tail, List.take_length]
        rfl
      rw [← e2] at rt
      exact k v H' N rt F1
theorem ok_greatest_of (T : Txt K mg c_BadRatio c_ONE c_ZERO) : Z.Ok CX0 P w K mg base "greatest_of" 2 ["ratios"] [] (sp_greatest_of K) := by
  obtain ⟨f, fd, F, g⟩ := T.d_greatest_of
  exact Z.mkOk F g (F.binds (ps := ["ratios"]) fun _ _ _ _ _ _ us hl => match us, hl with | [_], _ => rfl) (fn_greatest_of T F)
theorem use_greatest_of {H : Hp} {Q : VK} {E : XK} {L : List Z.En} {x : V} {vs : List V} {rows : List (Int × Int)} (F : Z.Fx H L) (hs : Z.SeqIs L x (some vs)) (al : RowsR K L vs rows) (hr : ∀ r ∈ rows, SmallR r) (h1 : 1 ≤ rows.length) (hl : rows.length ≤ 20) (k : ∀ v H' N, Z.Rt K (N ++ L) v (grtR rows).1 (grtR rows).2 → Z.Fx H' (N ++ L) → Q v H') : sp_greatest_of K [x] H Q E := ⟨_, rfl, L, vs, rows, F, hs, al, hr, h1, hl, k⟩
theorem sc__law_hand : FnScope ["_law_script", "_law_total", "_law_cells", "_law_cell"] ["_law_script"] (defScope s__law_hand) := ⟨rfl, rfl, rfl, by decide +kernel, rfl, by decide +kernel, by decide +kernel⟩
def sp__law_hand (K : PySem.W.Frag) : Sp := Z.Sp1 fun a H Q E => ∃ (l : Addr) (ns : List Int), a = .ref l ∧ SqL K H l (ns.map V.int) ∧ ns.length ≤ 63 ∧ ∀ p c H', Z.Fx H' [.hand p c] → Q (.ref p) H'
theorem fn__law_hand (T : Txt K mg c_BadRatio c_ONE c_ZERO) {f : Addr} {fd : FuncData} (F : Fun K "_law_hand" "_law_hand" s__law_hand f fd) : FnOk P w K mg base CX0 1 f fd ["_law_script"] (sp__law_hand K) := by
  refine F.ok sc__law_hand (fun vs H Q E h => ?_) (fun cdv A outer s H vs Q E hr h => ?_)
  · obtain ⟨a, rfl, _⟩ := h; rfl
  · obtain ⟨a, rfl, h⟩ := h
    refine ⟨_, (pss_cons (ps_set (i := 1) sc__law_hand.nd rfl (by first | exact Or.inl rfl | exact Or.inr rfl) (pe_op Z.zAdd (pe_callB Z.zLen (by rfl) T.b_len (by decide +kernel) (pa_cons (pv 0) pa_nil)) pe_int))
      (pss_cons (ps_set (i := 2) sc__law_hand.nd rfl (by first | exact Or.inl rfl | exact Or.inr rfl) (pe_lst pa_nil))
      (pss_cons (ps_for PassesOwn.never (by rfl) (Z.pi_seq (pv 0)) (pg_name (i := 3) sc__law_hand.nd rfl (by first | exact Or.inl rfl | exact Or.inr rfl))
        (pss_cons (ps_set (i := 1) sc__law_hand.nd rfl (by first | exact Or.inl rfl | exact Or.inr rfl) (pe_op Z.zMod (pe_callTy Z.zInt (by rfl) T.b_int (by decide +kernel) (pa_cons (pe_op Z.zAdd (pe_op Z.zMul (pv 1) pe_int) (pe_callTy Z.zInt (by rfl) T.b_int (by decide +kernel) (pa_cons (pv 3) pa_nil))) pa_nil)) pe_int))
        (pss_one (ps_expr (pe_bm PySem.F.plainAttrs_list PySem.F.slot_list_append PySem.F.type_list_append mt_append (pv 2) (pa_cons (pe_ifExp (pt_cmpR Z.zGe (pv 3) pe_int (nomark _)) (pe_callTy Z.zInt (by rfl) T.b_int (by decide +kernel) (pa_cons (pv 3) pa_nil)) (pe_un un_neg (pe_callTy Z.zInt (by rfl) T.b_int (by decide +kernel) (pa_cons (pv 3) pa_nil)))) pa_nil))))))
      (pss_one (ps_ret (pe_lst (pa_cons (pv 2) (pa_cons pe_int (pa_cons pe_int (pa_cons (pv 1) pa_nil)))))))))), ?_⟩
    try dsimp only [cxOf, Cx.nox, Cx.wish]
    refine Z.at_start (σ' := [some a, none, none, none]) rfl ?_
    obtain ⟨l, ns, rfl, hS, hl, k⟩ := h
    obtain ⟨L0, F, keep⟩ := Z.seq_keep hS [] Z.Fx.nil (by simp)
    walk_at "z"
    rename_i p0 H0 F0
    refine Z.wGoSL (keep _ [_] F0) ?_
    refine Z.wForW (walk_list (xs := ns.map V.int)) (fun i σ H2 => ∃ (cs : List Int) (t : Int) (cp : Addr) (v : Option V), σ = [some (.ref l), some (.int t), some (.ref cp), v] ∧ Z.Fx H2 ([Z.En.ob cp (.lst (cs.map V.int))] ++ (L0 ++ [])) ∧ cs.length = i) ?_ ?_ ?_ ?_
    · exact ⟨[], _, _, _, rfl, F0, rfl⟩
    · rintro i σ H2 _ ⟨cs, t, cp, v, rfl, F2, _⟩
      exact keep _ _ F2
    · rintro i x σ H2 H3 _ ⟨cs, t, cp, v, rfl, F2, hc⟩ ⟨rfl, hi⟩
      obtain ⟨z, rfl⟩ := Z.int_of_map hi
      have hil := (List.getElem?_eq_some_iff.mp hi).1
      rw [List.length_map] at hil
      dsimp only [List.cons_append, List.nil_append] at F2
      walk_at "zz"
      · refine ⟨cs ++ [z], _, cp, _, rfl, ?_, by rw [List.length_append, hc]; rfl⟩
        rw [List.map_append]; assumption
      · refine ⟨cs ++ [-z], _, cp, _, rfl, ?_, by rw [List.length_append, hc]; rfl⟩
        rw [List.map_append]; assumption
    · rintro σ H2 ⟨cs, t, cp, v, rfl, F2, hc⟩
      dsimp only [List.cons_append, List.nil_append] at F2
      walk_at "z"
      refine k _ cp _ ?_
      rename_i p H3 F3
      have F4 := F3.sub (L' := [Z.En.ob p (.lst [.ref cp, .int 0, .int 0, .int t]), Z.En.ob cp (.lst (cs.map V.int))]) (by simp)
      refine ⟨fun e he => ?_, F4.2⟩
      cases List.mem_singleton.mp he
      exact ⟨cs, 0, 0, t, by omega, F4.get List.mem_cons_self, F4.get (List.mem_cons_of_mem _ List.mem_cons_self)⟩
theorem ok__law_hand (T : Txt K mg c_BadRatio c_ONE c_ZERO) : Z.Ok CX0 P w K mg base "_law_hand" 1 ["_law_script"] [] (sp__law_hand K) := by
  obtain ⟨f, fd, F, g⟩ := T.d__law_hand
  exact Z.mkOk F g (F.binds (ps := ["_law_script"]) fun _ _ _ _ _ _ us hl => match us, hl with | [_], _ => rfl) (fn__law_hand T F)
theorem sc_are_figures : FnScope ["text", "most", "sign"] ["text", "most"] (defScope s_are_figures) := ⟨rfl, rfl, rfl, by decide +kernel, rfl, by decide +kernel, by decide +kernel⟩
def sp_are_figures (K : PySem.W.Frag) : Sp := Z.Sp2 fun x y H Q E => ∃ (L : List Z.En) (z : Str), Z.Fx H L ∧ x = .str z ∧ y = .int 300 ∧ z.length ≤ sizeLine ∧ ∀ H', Z.Fx H' L → Q (.bl (TX.figs (TL.tl z))) H'
theorem fn_are_figures (T : Txt K mg c_BadRatio c_ONE c_ZERO) {f : Addr} {fd : FuncData} (F : Fun K "are_figures" "are_figures" s_are_figures f fd) : FnOk P w K mg base CX0 1 f fd ["text", "most"] (sp_are_figures K) := by
  refine F.ok sc_are_figures (fun vs H Q E h => ?_) (fun cdv A outer s H vs Q E hr h => ?_)
  · obtain ⟨a, b, rfl, _⟩ := h; rfl
  · obtain ⟨a, b, rfl, h⟩ := h
    refine ⟨_, (pss_one (ps_ret (pe_andT (pe_chain Z.zLe Z.zLe pe_int (pe_callB Z.zLen (by rfl) T.b_len (by decide +kernel) (pa_cons (pv 0) pa_nil)) (pv 1)) (pe_one (pe_callB (cr_all rfl) (by rfl) T.b_all (by decide +kernel) (pa_cons (by exact (pe_lc (own := [("sign", 2)]) (g := (gName 2)) (by rfl) sc_are_figures.nd (pi_str (pv 0)) (blkOk_by (own := [("sign", 2)]) (N := ["text", "most", "sign"]) (sc := defScope s_are_figures) (by decide +kernel)) (fun _ _ _ _ _ => (by exact (pg_name (i := 2) sc_are_figures.nd rfl (by first | exact Or.inl rfl | exact Or.inr rfl)))) (fun _ _ _ _ _ => (by exact pts_nil)) (fun _ _ _ _ _ => (by exact (pe_cmpR (show OpR _ _ Z.rInSign from Z.zInSign) (pv 2) pe_str (by rfl)))))) pa_nil)))))), ?_⟩
    try dsimp only [cxOf, Cx.nox, Cx.wish]
    refine Z.at_start (σ' := [some a, some b, none]) rfl ?_
    obtain ⟨L, z, F, rfl, rfl, hl, q⟩ := h
    walk_at "z"
    have ef : TX.figs (TL.tl z) = (decide (1 ≤ (z.length : Int)) && (decide ((z.length : Int) ≤ 300) && (TL.tl z).all fun c => decide (c ∈ TL.tl ("0123456789" : Str)))) := by
      have hl2 := TL.len_tl z
      have a1 : decide (1 ≤ (TL.tl z).length) = decide (1 ≤ (z.length : Int)) := by rw [decide_eq_decide]; omega
      have a2 : decide ((TL.tl z).length ≤ 300) = decide ((z.length : Int) ≤ 300) := by rw [decide_eq_decide]; omega
      unfold TX.figs
      rw [a1, a2, Bool.and_assoc]
    refine Z.wIf (fun h1 => ?_) (fun h1 => ?_)
    case refine_2 =>
      rw [h1, Bool.false_and] at ef
      rw [ef] at q
      walk_at "z"
      exact q _ F
    rw [h1, Bool.true_and] at ef
    walk_at "z"
    refine Z.wIf (fun h2 => ?_) (fun h2 => ?_)
    case refine_2 =>
      rw [h2, Bool.false_and] at ef
      rw [ef] at q
      rw [h2]
      exact q _ F
    rw [h2, Bool.true_and] at ef
    have h3 : (z.length : Int) ≤ 300 := of_decide_eq_true h2
    walk_at "z"
    refine Z.wLcW Z.walk_str F (fun i acc L' => L' = L ∧ acc = ((TL.tl z).take i).map fun c => V.bl (decide (c ∈ TL.tl ("0123456789" : Str)))) ⟨rfl, rfl⟩ (fun _ _ _ _ _ _ _ => trivial) ?_ ?_
    · rintro i x D H1 H2 acc L' hi ⟨rfl, rfl⟩ F1 ⟨rfl, c, hc, rfl⟩
      walk_at "zw"
      walk_at "z"
      refine ⟨rfl, ?_⟩
      walk_at "z"
      have hc2 : (TL.tl z)[i]? = some c := by rw [Array.getElem?_toList]; exact hc
      have hl2 := TL.len_tl z
      refine Z.lcPut F1 (by rw [List.length_map, List.length_take]; have := Z.line_big; omega) ⟨rfl, (Z.take_succ_map hc2).symm⟩
    rintro D acc L' H2 F2 ⟨rfl, rfl⟩
    have e5 : (TL.tl z).take z.cps.size = TL.tl z := List.take_of_length_le (by rw [← TL.len_tl]; exact Nat.le_refl _)
    have e0 : ((TL.tl z).map fun c => V.bl (decide (c ∈ TL.tl ("0123456789" : Str)))) = ((TL.tl z).map fun c => decide (c ∈ TL.tl ("0123456789" : Str))).map V.bl := by rw [List.map_map]; rfl
    rw [e5, e0] at F2
    walk_at "z"
    refine Z.wAll (F2.lst List.mem_cons_self) ?_
    have ea : (((TL.tl z).map fun c => decide (c ∈ TL.tl ("0123456789" : Str))).all id) = (TL.tl z).all fun c => decide (c ∈ TL.tl ("0123456789" : Str)) := by rw [List.all_map]; rfl
    rw [ea, ← ef]
    exact q _ (F2.sub (by walk_at "zsub"))
theorem ok_are_figures (T : Txt K mg c_BadRatio c_ONE c_ZERO) : Z.Ok CX0 P w K mg base "are_figures" 1 ["text", "most"] [] (sp_are_figures K) := by
  obtain ⟨f, fd, F, g⟩ := T.d_are_figures
  exact Z.mkOk F g (F.binds (ps := ["text", "most"]) fun _ _ _ _ _ _ us hl => match us, hl with | [_, _], _ => rfl) (fn_are_figures T F)
theorem use_are_figures {H : Hp} {Q : VK} {E : XK} {L : List Z.En} {z : Str} (F : Z.Fx H L) (hl : z.length ≤ sizeLine) (q : ∀ H', Z.Fx H' L → Q (.bl (TX.figs (TL.tl z))) H') : sp_are_figures K [.str z, .int 300] H Q E := ⟨_, _, rfl, L, z, F, rfl, rfl, hl, q⟩
theorem sc_ratio_text : FnScope ["ratio", "top", "bottom"] ["ratio"] (defScope s_ratio_text) := ⟨rfl, rfl, rfl, by decide +kernel, rfl, by decide +kernel, by decide +kernel⟩
def sp_ratio_text (K : PySem.W.Frag) : Sp := Z.Sp1 fun a H Q E => ∃ (L : List Z.En) (t b : Int), Z.Fx H L ∧ Z.Rt K L a t b ∧ 1 ≤ b ∧ RZ.Sz 1000 t ∧ RZ.Sz 1000 b ∧ ∀ z : Str, TL.tl z = TX.textL t b → Q (.str z) H
theorem fn_ratio_text (T : Txt K mg c_BadRatio c_ONE c_ZERO) {f : Addr} {fd : FuncData} (F : Fun K "ratio_text" "ratio_text" s_ratio_text f fd) : FnOk P w K mg base CX0 1 f fd ["ratio"] (sp_ratio_text K) := by
  refine F.ok sc_ratio_text (fun vs H Q E h => ?_) (fun cdv A outer s H vs Q E hr h => ?_)
  · obtain ⟨a, rfl, _⟩ := h; rfl
  · obtain ⟨a, rfl, h⟩ := h
    refine ⟨_, (pss_cons (ps_asg (pv 0) (pg_tup (by rfl) (pgs_cons (pg_name (i := 1) sc_ratio_text.nd rfl (by first | exact Or.inl rfl | exact Or.inr rfl)) (pgs_cons (pg_name (i := 2) sc_ratio_text.nd rfl (by first | exact Or.inl rfl | exact Or.inr rfl)) pgs_nil))))
      (pss_one (ps_ret (pe_ifExp (pt_cmpR (Z.zEq (Z.hu0 hr)) (pv 2) pe_int (nomark _)) (pe_joined1 (pe_fmt (pv 1))) (Z.pe_fs (PJ.cons (pe_fmt (pv 1)) (PJ.cons pe_str (PJ.cons (pe_fmt (pv 2)) PJ.nil)))))))), ?_⟩
    try dsimp only [cxOf, Cx.nox, Cx.wish]
    refine Z.at_start (σ' := [some a, none, none]) rfl ?_
    obtain ⟨L, t, b, F, hr1, h1, st, sb, q⟩ := h
    obtain ⟨p, rfl, sq⟩ := hr1.sq F
    have l1 : t.natAbs.log2 < 1920 := by
      by_cases h0 : t.natAbs = 0
      · rw [h0]; decide
      · have := (Nat.log2_lt h0).mpr st
        omega
    have l2 : b.natAbs.log2 < 1920 := by
      have := (Nat.log2_lt (show b.natAbs ≠ 0 by omega)).mpr sb
      omega
    walk_at "y"
    have e1 := TX.len_int st
    have e2 := TX.len_int sb
    have lb := Z.line_big
    refine Z.wIf (fun h2 => ?_) (fun h2 => ?_)
    · walk_at "z"
      refine q _ ?_
      rw [TX.tl_int, TX.textL, if_pos (of_decide_eq_true h2)]
    have z0 : (Str.empty : Str).length = 0 := rfl
    have z1 : ("/" : Str).length = 1 := by decide
    walk_at "z"
    refine Z.wJsX (by rw [TX.len_app]; omega) ?_
    walk_at "z"
    refine Z.wJsX (by rw [TX.len_app, TX.len_app]; omega) ?_
    walk_at "z"
    refine Z.wJsX (by rw [TX.len_app, TX.len_app, TX.len_app]; omega) ?_
    walk_at "z"
    refine q _ ?_
    rw [TL.tl_append, TL.tl_append, TL.tl_append, TX.tl_int, TX.tl_int, TX.textL, if_neg (of_decide_eq_false h2), List.append_assoc]
    rfl
theorem ok_ratio_text (T : Txt K mg c_BadRatio c_ONE c_ZERO) : Z.Ok CX0 P w K mg base "ratio_text" 1 ["ratio"] [] (sp_ratio_text K) := by
  obtain ⟨f, fd, F, g⟩ := T.d_ratio_text
  exact Z.mkOk F g (F.binds (ps := ["ratio"]) fun _ _ _ _ _ _ us hl => match us, hl with | [_], _ => rfl) (fn_ratio_text T F)
theorem use_ratio_text {H : Hp} {Q : VK} {E : XK} {L : List Z.En} {a : V} {t b : Int} (F : Z.Fx H L) (hr : Z.Rt K L a t b) (h1 : 1 ≤ b) (st : RZ.Sz 1000 t) (sb : RZ.Sz 1000 b) (q : ∀ z : Str, TL.tl z = TX.textL t b → Q (.str z) H) : sp_ratio_text K [a] H Q E := ⟨_, rfl, L, t, b, F, hr, h1, st, sb, q⟩
theorem sc_ratio_of : FnScope ["text", "top", "slash", "bottom", "ratio"] ["text"] (defScope s_ratio_of) := ⟨rfl, rfl, rfl, by decide +kernel, rfl, by decide +kernel, by decide +kernel⟩
/-- w is the text of the ratio t / b in lowest terms, with at most 300 figures each -/
def TextOf (w : List Nat) (t b : Int) : Prop := 1 ≤ b ∧ Nat.gcd t.natAbs b.natAbs = 1 ∧ w = TX.textL t b ∧ (TL.numL t.natAbs).length ≤ 300 ∧ (TL.numL b.natAbs).length ≤ 300
theorem TextOf.cut {w P B : List Nat} {t b : Int} (h : TextOf w t b) (c : TX.Cut w P B) : TX.figs (TX.strip P) = true ∧ TX.figs B = true ∧ TX.valI P = t ∧ TX.valI B = b := by
  obtain ⟨h1, h2, rfl, h3, h4⟩ := h
  obtain ⟨rfl, rfl⟩ := TX.cut_text h1 c
  refine ⟨?_, (TX.figs_iff _).mpr ⟨TL.numL_ne _, h4, TL.numL_digits _⟩, TX.val_num t, ?_⟩
  · rw [TX.strip_num]
    exact (TX.figs_iff _).mpr ⟨TL.numL_ne _, h3, TL.numL_digits _⟩
  · rw [← TX.numI_pos (by omega)]
    exact TX.val_num b
theorem strip_figs {B : List Nat} (h : TX.figs B = true) : TX.strip B = B := by
  obtain ⟨h1, h2, h3⟩ := (TX.figs_iff _).mp h
  cases B with
  | nil => rfl
  | cons c r => exact TX.strip_no (by have := h3 c List.mem_cons_self; omega)
def TextV (x : V) (t b : Int) : Prop := match x with
  | .str z => TextOf (TL.tl z) t b
  | _ => False
def lenV (x : V) : Prop := match x with
  | .str z => z.length ≤ sizeLine
  | _ => True
def sp_ratio_of (K : PySem.W.Frag) (cB : Addr) : Sp := Z.Sp1 fun x H Q E => ∃ (L : List Z.En) (k : Z.Kd), Z.Fx H L ∧ Z.Thing L x k ∧ lenV x ∧
  ((∀ t b, ¬ TextV x t b) → ∀ e H', Z.Fx H' (.ob e (.xd [("what", .str ("text" : Str))]) :: L) → E (.ref cB) (some e) H') ∧
  (∀ t b, TextV x t b → ∀ p H', Z.Fx H' (.ob p (.tup [.int t, .int b]) :: L) → Q (.ref p) H')
theorem fn_ratio_of (T : Txt K mg c_BadRatio c_ONE c_ZERO) {f : Addr} {fd : FuncData} (F : Fun K "ratio_of" "ratio_of" s_ratio_of f fd) : FnOk P w K mg base (L2.CX P w) 3 f fd ["text"] (sp_ratio_of K c_BadRatio) := by
  have O_BadRatio___init__ := ok_BadRatio___init__ (P := P) (w := w) (base := base) T
  have O_are_figures := ok_are_figures (P := P) (w := w) (base := base) T
  have O_is_ratio := ok_is_ratio (P := P) (w := w) (base := base) T
  have O_ratio_text := ok_ratio_text (P := P) (w := w) (base := base) T
  refine F.okX sc_ratio_of (fun vs H Q E h => ?_) (fun cdv A outer s H vs Q E hr h => ?_)
  · obtain ⟨a, rfl, _⟩ := h; rfl
  · obtain ⟨a, rfl, h⟩ := h
    have TK := takes_of (X := cxOf (L2.CX P w) P w K mg base ["text", "top", "slash", "bottom", "ratio"] "ratio_of" (defScope s_ratio_of) f cdv A outer s H E) rfl rfl rfl rfl
    refine ⟨_, (pss_cons (ps_if (pt_not (Z.pt_truN (pe_callB Z.zIsi (by rfl) T.b_isinstance (by decide +kernel) (pa_cons (pv 0) (pa_cons (pe_bltn (by rfl) T.b_str (by decide +kernel) (show RelV (.ty "str") _ from rfl)) pa_nil)))))
        (pss_one (ps_raise (by rfl) TK (Z.pmk_errO T.x_BadRatio O_BadRatio___init__ (hr.mono (by decide)) T.g_BadRatio (by rfl) (pa_cons pe_str pa_nil))))
        pss_nil)
      (pss_cons (ps_asg (Z.pe_part (pv 0) pe_str) (pg_tup (by rfl) (pgs_cons (pg_name (i := 1) sc_ratio_of.nd rfl (by first | exact Or.inl rfl | exact Or.inr rfl)) (pgs_cons (pg_name (i := 2) sc_ratio_of.nd rfl (by first | exact Or.inl rfl | exact Or.inr rfl)) (pgs_cons (pg_name (i := 3) sc_ratio_of.nd rfl (by first | exact Or.inl rfl | exact Or.inr rfl)) pgs_nil)))))
      (pss_cons (ps_if (pt_not (Z.pt_truN (pv 2)))
        (pss_one (ps_set (i := 3) sc_ratio_of.nd rfl (by first | exact Or.inl rfl | exact Or.inr rfl) pe_str))
        pss_nil)
      (pss_cons (ps_if (PW.pt (pw_or (pt_not (Z.pt_truN (Z.pe_callO O_are_figures (by rfl) (hr.mono (by decide)) pass0 (pa_cons (Z.pe_rmp (pv 1) pe_str) (pa_cons pe_int pa_nil))))) (pw_or1 (pt_not (Z.pt_truN (Z.pe_callO O_are_figures (by rfl) (hr.mono (by decide)) pass0 (pa_cons (pv 3) (pa_cons pe_int pa_nil))))))))
        (pss_one (ps_raise (by rfl) TK (Z.pmk_errO T.x_BadRatio O_BadRatio___init__ (hr.mono (by decide)) T.g_BadRatio (by rfl) (pa_cons pe_str pa_nil))))
        pss_nil)
      (pss_cons (ps_set (i := 4) sc_ratio_of.nd rfl (by first | exact Or.inl rfl | exact Or.inr rfl) (pe_tup (pa_cons (pe_callTy Z.cr_intT (by rfl) T.b_int (by decide +kernel) (pa_cons (pv 1) pa_nil)) (pa_cons (pe_callTy Z.cr_intT (by rfl) T.b_int (by decide +kernel) (pa_cons (pv 3) pa_nil)) pa_nil))))
      (pss_cons (ps_if (PW.pt (pw_or (pt_not (Z.pt_truN (Z.pe_callO O_is_ratio (by rfl) (hr.mono (by decide)) pass0 (pa_cons (pv 4) pa_nil)))) (pw_or1 (pt_cmpR (Z.zNe (Z.hu0 hr)) (Z.pe_callO O_ratio_text (by rfl) (hr.mono (by decide)) pass0 (pa_cons (pv 4) pa_nil)) (pv 0) (nomark _)))))
        (pss_one (ps_raise (by rfl) TK (Z.pmk_errO T.x_BadRatio O_BadRatio___init__ (hr.mono (by decide)) T.g_BadRatio (by rfl) (pa_cons pe_str pa_nil))))
        pss_nil)
      (pss_one (ps_ret (pv 4))))))))), ?_⟩
    try dsimp only [cxOf, Cx.nox, Cx.wish]
    refine Z.at_start (σ' := [some a, none, none, none, none]) rfl ?_
    obtain ⟨L, k, F, ht, hl, kE, kQ⟩ := h
    have hs := ht.has (K := K) F
    walk_at "z"
    refine Z.wIsiStr hs ?_
    walk_at "z"
    by_cases ck : k.isStr = true
    case neg =>
      have ck : k.isStr = false := by simpa using ck
      rw [ck]
      walk_at "z"
      refine Z.wMk1 T.x_BadRatio.oex T.n_BadRatio_what F fun e H2 F2 => kE (fun t b h => ?_) _ _ F2
      cases a <;> first | exact h | (cases hs <;> exact absurd ck (by decide))
    obtain ⟨z, rfl⟩ : ∃ z, a = .str z := by
      cases hs <;> first | exact ⟨_, rfl⟩ | exact absurd ck (by decide)
    have hl : z.length ≤ sizeLine := hl
    have kE : (∀ t b, ¬ TextOf (TL.tl z) t b) → ∀ e H', Z.Fx H' (.ob e (.xd [("what", .str ("text" : Str))]) :: L) → E (.ref c_BadRatio) (some e) H' := kE
    have kQ : ∀ t b, TextOf (TL.tl z) t b → ∀ p H', Z.Fx H' (.ob p (.tup [.int t, .int b]) :: L) → Q (.ref p) H' := kQ
    obtain ⟨P, S, C, ep, hP, hC, hc⟩ := TX.cut_of z
    rw [ck]
    walk_at "y"
    rename_i p1 H1 F1
    rw [ep] at F1 ⊢
    dsimp only
    refine Z.wMidS (fun σ' H' => H' = H1 ∧ ∃ B : Str, σ' = [some (.str z), some (.str P), some (.str S), some (.str B), none] ∧ B.length ≤ sizeLine ∧ TX.Cut (TL.tl z) (TL.tl P) (TL.tl B)) (fun N hk => ?_) ?_
    · have lb := Z.line_big
      rcases hc with ⟨rfl, rfl, hc⟩ | ⟨rfl, hc⟩
      · walk_at "z"
        refine ⟨false, ⟨Nat.zero_le _, rfl⟩, ?_⟩
        walk_at "z"
        have e1 : TL.tl ("1" : Str) = [49] := by decide
        exact hk _ _ ⟨rfl, _, rfl, Nat.le_trans (show ("1" : Str).length ≤ 1 by decide) (by omega), by rw [e1]; exact hc⟩
      · walk_at "z"
        refine ⟨true, ⟨Nat.le_trans (show ("/" : Str).length ≤ 1 by decide) (by omega), by decide⟩, ?_⟩
        walk_at "z"
        exact hk _ _ ⟨rfl, _, rfl, Nat.le_trans hC hl, hc⟩
    rintro _ _ ⟨rfl, B, rfl, hB, hcut⟩
    -- the figures
    have hP' : P.length ≤ sizeLine := Nat.le_trans hP hl
    have hR : (Txt.removeprefix P ("-" : Str)).length ≤ sizeLine := Nat.le_trans (PyProof.Rows.len_removeprefix _ _) hP'
    refine Z.wSeq ?_
    refine Z.wMidS (fun σ' H' => σ' = [some (.str z), some (.str P), some (.str S), some (.str B), none] ∧ Z.Fx H' L ∧ TX.figs (TX.strip (TL.tl P)) = true ∧ TX.figs (TL.tl B) = true) (fun N hk => ?_) ?_
    · walk_at "z"
      refine use_are_figures F1 hR fun H2 F2 => ?_
      rw [TX.rmp_tl]
      walk_at "z"
      refine Z.wIf (fun h1 => ?_) (fun h1 => ?_)
      · walk_at "z"
        refine Z.wMk1 T.x_BadRatio.oex T.n_BadRatio_what F2 fun e H3 F3 => kE (fun t b h => ?_) _ _ (F3.sub (by walk_at "zsub"))
        rw [(h.cut hcut).1] at h1
        exact absurd h1 (by decide)
      · have f1 : TX.figs (TX.strip (TL.tl P)) = true := by simpa using h1
        walk_at "z"
        refine use_are_figures F2 hB fun H3 F3 => ?_
        walk_at "z"
        refine Z.wIf (fun h2 => ?_) (fun h2 => ?_)
        · walk_at "z"
          refine Z.wMk1 T.x_BadRatio.oex T.n_BadRatio_what F3 fun e H4 F4 => kE (fun t b h => ?_) _ _ (F4.sub (by walk_at "zsub"))
          rw [(h.cut hcut).2.1] at h2
          exact absurd h2 (by decide)
        · have f2 : TX.figs (TL.tl B) = true := by simpa using h2
          walk_at "z"
          exact hk _ _ ⟨rfl, F3.sub (by walk_at "zsub"), f1, f2⟩
    rintro _ H2 ⟨rfl, F2, f1, f2⟩
    have f3 : TX.figs (TX.strip (TL.tl B)) = true := by rw [strip_figs f2]; exact f2
    walk_at "z"
    refine Z.wIntT (TX.int_text f1).1 (TX.int_text f1).2 ?_
    walk_at "z"
    refine Z.wIntT (TX.int_text f3).1 (TX.int_text f3).2 ?_
    have sp := TX.val_sz f1
    have sb := TX.val_sz f3
    have hkey : ∀ t b, TextOf (TL.tl z) t b → TX.valI (TL.tl P) = t ∧ TX.valI (TL.tl B) = b := fun t b h => (h.cut hcut).2.2
    generalize et : TX.valI (TL.tl P) = t at *
    generalize eb : TX.valI (TL.tl B) = b at *
    walk_at "z"
    rename_i p3 H3 F3
    refine use_is_ratio F3 (Rt.tup Z.Rt.head) ?_
    walk_at "z"
    refine Z.wIf (fun h1 => ?_) (fun h1 => ?_)
    · have h1 : isRtV (some [.int t, .int b]) = false := by simpa using h1
      walk_at "z"
      refine Z.wMk1 T.x_BadRatio.oex T.n_BadRatio_what F3 fun e H4 F4 => kE (fun t' b' h => ?_) _ _ (F4.sub (by walk_at "zsub"))
      obtain ⟨rfl, rfl⟩ := hkey _ _ h
      have e2 : isRtV (some [.int t, .int b]) = true := by
        show (decide (1 ≤ b) && decide (Nat.gcd t.natAbs b.natAbs = 1)) = true
        rw [decide_eq_true h.1, decide_eq_true h.2.1]
        rfl
      rw [e2] at h1
      exact absurd h1 (by decide)
    · have h1 : isRtV (some [.int t, .int b]) = true := by simpa using h1
      have h1 : (decide (1 ≤ b) && decide (Nat.gcd t.natAbs b.natAbs = 1)) = true := h1
      rw [Bool.and_eq_true, decide_eq_true_iff, decide_eq_true_iff] at h1
      walk_at "z"
      refine use_ratio_text F3 Z.Rt.head h1.1 sp sb fun zz ez => ?_
      walk_at "z"
      refine Z.wNeStr ?_
      walk_at "z"
      refine Z.wIf (fun h2 => ?_) (fun h2 => ?_)
      · have h2 : ¬ zz = z := by simpa using h2
        walk_at "z"
        refine Z.wMk1 T.x_BadRatio.oex T.n_BadRatio_what F3 fun e H4 F4 => kE (fun t' b' h => ?_) _ _ (F4.sub (by walk_at "zsub"))
        obtain ⟨rfl, rfl⟩ := hkey _ _ h
        exact h2 (TL.ext_tl (by rw [ez, h.2.2.1]))
      · have h2 : zz = z := by simpa using h2
        subst h2
        walk_at "z"
        have hcut' := hcut
        rw [ez] at hcut'
        obtain ⟨eP, eB⟩ := TX.cut_text h1.1 hcut'
        refine kQ t b ⟨h1.1, h1.2, ez, ?_, ?_⟩ _ _ F3
        · rw [eP, TX.strip_num] at f1
          exact ((TX.figs_iff _).mp f1).2.1
        · rw [eB] at f2
          exact ((TX.figs_iff _).mp f2).2.1
theorem ok_ratio_of (T : Txt K mg c_BadRatio c_ONE c_ZERO) : Z.Ok (L2.CX P w) P w K mg base "ratio_of" 3 ["text"] [] (sp_ratio_of K c_BadRatio) := by
  obtain ⟨f, fd, F, g⟩ := T.d_ratio_of
  exact Z.mkOk F g (F.binds (ps := ["text"]) fun _ _ _ _ _ _ us hl => match us, hl with | [_], _ => rfl) (fn_ratio_of T F)
theorem use_ratio_of {cB : Addr} {H : Hp} {Q : VK} {E : XK} {L : List Z.En} {x : V} {k : Z.Kd} (F : Z.Fx H L) (ht : Z.Thing L x k) (hl : lenV x)
  (kE : (∀ t b, ¬ TextV x t b) → ∀ e H', Z.Fx H' (.ob e (.xd [("what", .str ("text" : Str))]) :: L) → E (.ref cB) (some e) H')
  (kQ : ∀ t b, TextV x t b → ∀ p H', Z.Fx H' (.ob p (.tup [.int t, .int b]) :: L) → Q (.ref p) H') : sp_ratio_of K cB [x] H Q E := ⟨_, rfl, L, k, F, ht, hl, kE, kQ⟩
theorem sc__law_read : FnScope ["_law_text", "_law_told", "raised"] ["_law_text"] (defScope s__law_read) := ⟨rfl, rfl, rfl, by decide +kernel, rfl, by decide +kernel, by decide +kernel⟩
def sp__law_read (K : PySem.W.Frag) : Sp := Z.Sp1 fun a H Q E => ∃ (L : List Z.En) (k : Z.Kd), Z.Fx H L ∧ Z.Thing L a k ∧ lenV a ∧
  ((∀ t b, ¬ TextV a t b) → ∀ v L1 H', L.Sublist L1 → RefAt L1 v ("text" : Str) → Z.Fx H' L1 → Q v H') ∧
  (∀ t b, TextV a t b → ∀ p H', Z.Fx H' (.ob p (.tup [.int t, .int b]) :: L) → Q (.ref p) H')
theorem fn__law_read (T : Txt K mg c_BadRatio c_ONE c_ZERO) {f : Addr} {fd : FuncData} (F : Fun K "_law_read" "_law_read" s__law_read f fd) : FnOk P w K mg base CX0 4 f fd ["_law_text"] (sp__law_read K) := by
  have O_ratio_of := ok_ratio_of (P := P) (w := w) (base := base) T
  refine F.ok sc__law_read (fun vs H Q E h => ?_) (fun cdv A outer s H vs Q E hr h => ?_)
  · obtain ⟨a, rfl, _⟩ := h; rfl
  · obtain ⟨a, rfl, h⟩ := h
    refine ⟨_, (pss_cons (ps_try_as (i := 2) rfl rfl sc__law_read.nd rfl rfl ⟨rfl, by decide, Or.inl T.g_BadRatio⟩ takes0 (fun W pn xe tk _ => (by exact (pss_one (ps_set (i := 1) sc__law_read.nd rfl (by first | exact Or.inl rfl | exact Or.inr rfl) (Z.pe_callSO O_ratio_of (by rfl) (hr.mono (by decide)) (fun σ => passAt tk σ) (pa_cons (pv 0) pa_nil))))))
        (fun a oe cls d pn hz hf => (by exact (pss_one (ps_ret (pe_lst (pa_cons pe_str (pa_cons (pe_xf T.x_BadRatio.xf T.n_BadRatio_what hz hf (pv 2)) pa_nil))))))))
      (pss_one (ps_ret
            (pv 1)))), ?_⟩
    try dsimp only [cxOf, Cx.nox, Cx.wish]
    refine Z.at_start (σ' := [some a, none, none]) rfl ?_
    obtain ⟨L, k, F, ha, hl, kE, kQ⟩ := h
    walk_at "z"
    refine use_ratio_of F ha hl (fun hn e H1 F1 => ?_) fun t b ht p H1 F1 => ?_
    · refine Z.wAs_yes T.x_BadRatio.me fun q hq => ?_
      simp only [List.set_cons_zero, List.set_cons_succ]
      walk_at "z"
      refine Z.wXf ?_
      walk_at "z"
      refine ⟨rfl, rfl, e, _, V.str ("text" : Str), rfl, F1.get List.mem_cons_self, by simp [List.lookup], ?_⟩
      walk_at "z"
      rename_i p2 H2 F2
      exact kE hn _ _ _ (.cons _ (.cons _ (.refl _))) ⟨p2, rfl, .head _⟩ F2
    · walk_at "z"
      exact kQ t b ht p H1 F1
theorem ok__law_read (T : Txt K mg c_BadRatio c_ONE c_ZERO) : Z.Ok CX0 P w K mg base "_law_read" 4 ["_law_text"] [] (sp__law_read K) := by
  obtain ⟨f, fd, F, g⟩ := T.d__law_read
  exact Z.mkOk F g (F.binds (ps := ["_law_text"]) fun _ _ _ _ _ _ us hl => match us, hl with | [_], _ => rfl) (fn__law_read T F)
theorem use__law_read {H : Hp} {Q : VK} {E : XK} {L : List Z.En} {x : V} {k : Z.Kd} (F : Z.Fx H L) (ht : Z.Thing L x k) (hl : lenV x)
  (kE : (∀ t b, ¬ TextV x t b) → ∀ v L1 H', L.Sublist L1 → RefAt L1 v ("text" : Str) → Z.Fx H' L1 → Q v H')
  (kQ : ∀ t b, TextV x t b → ∀ p H', Z.Fx H' (.ob p (.tup [.int t, .int b]) :: L) → Q (.ref p) H') : sp__law_read K [x] H Q E := ⟨_, rfl, L, k, F, ht, hl, kE, kQ⟩
theorem sc__law_texts : FnScope ["_law_hand_here", "_law_one", "_law_text", "_law_spoilt", "_law_bad", "_law_figures", "_law_sign", "_law_great_here", "_law_told", "_law_below", "_law_due", "_law_turn"] ["_law_hand_here", "_law_one"] (defScope s__law_texts) := ⟨rfl, rfl, rfl, by decide +kernel, rfl, by decide +kernel, by decide +kernel⟩
theorem numL_last (n : Nat) : ∃ i d, TL.numL n = i ++ [d] ∧ 48 ≤ d ∧ d ≤ 57 := by
  by_cases h : n < 10
  · exact ⟨[], 48 + n, TL.numL_lt h, by omega, by omega⟩
  · exact ⟨_, _, TL.numL_step (by omega), by omega, by omega⟩
theorem numI_last (t : Int) : ∃ i d, TX.numI t = i ++ [d] ∧ 48 ≤ d ∧ d ≤ 57 := by
  obtain ⟨i, d, e, h⟩ := numL_last t.natAbs
  unfold TX.numI
  split
  · exact ⟨45 :: i, d, by rw [e]; rfl, h⟩
  · exact ⟨i, d, e, h⟩
theorem textL_last (t b : Int) : ∃ i d, TX.textL t b = i ++ [d] ∧ 48 ≤ d ∧ d ≤ 57 := by
  unfold TX.textL
  split
  · exact numI_last t
  · obtain ⟨i, d, e, h⟩ := numI_last b
    exact ⟨TX.numI t ++ 47 :: i, d, by rw [e, List.append_assoc]; rfl, h⟩
theorem numI_head (t : Int) : ∃ c r, TX.numI t = c :: r ∧ (c = 45 ∨ (48 ≤ c ∧ c ≤ 57)) := by
  unfold TX.numI
  split
  · exact ⟨45, _, rfl, .inl rfl⟩
  · cases e : TL.numL t.natAbs with
    | nil => exact absurd e (TL.numL_ne _)
    | cons c r => exact ⟨c, r, rfl, .inr (TX.numL_head e)⟩
theorem textL_head (t b : Int) : ∃ c r, TX.textL t b = c :: r ∧ (c = 45 ∨ (48 ≤ c ∧ c ≤ 57)) := by
  obtain ⟨c, r, e, h⟩ := numI_head t
  unfold TX.textL
  split
  · exact ⟨c, r, e, h⟩
  · exact ⟨c, r ++ 47 :: TX.numI b, by rw [e]; rfl, h⟩
/-- no ratio's text -/
def Bad (w : List Nat) : Prop := ∀ t b, ¬ TextOf w t b
theorem bad_last {w : List Nat} {c : Nat} (h : c < 48 ∨ 57 < c) : Bad (w ++ [c]) := fun t b ⟨_, _, e, _⟩ => by
  obtain ⟨i, d, e2, h2⟩ := textL_last t b
  rw [e2] at e
  have := (List.append_inj' e rfl).2
  injection this with e3
  omega
theorem bad_head {w : List Nat} {c : Nat} (h : c ≠ 45 ∧ (c < 48 ∨ 57 < c)) : Bad (c :: w) := fun t b ⟨_, _, e, _⟩ => by
  obtain ⟨i, d, e2, h2⟩ := textL_head t b
  rw [e2] at e
  injection e with e3
  omega
theorem bad_nil : Bad [] := fun t b ⟨_, _, e, _⟩ => by
  obtain ⟨i, d, e2, h2⟩ := textL_head t b
  rw [e2] at e
  cases e
/-- by the parts -/
theorem bad_cut {w P C : List Nat} (c : TX.Cut w P C) (h : ∀ t b : Int, 1 ≤ b → Nat.gcd t.natAbs b.natAbs = 1 → (b = 1 → w = TX.numI t) → P = TX.numI t → C = TL.numL b.natAbs → False) : Bad w := fun t b ⟨h1, h2, e, _⟩ => by
  have e' := e
  rw [e] at c
  obtain ⟨e1, e2⟩ := TX.cut_text h1 c
  refine h t b h1 h2 (fun hb => ?_) e1 e2
  rw [e, TX.textL, if_pos hb]
theorem bad_slash {a C : List Nat} (ha : 47 ∉ a) (h : ∀ t b : Int, 1 ≤ b → b ≠ 1 → Nat.gcd t.natAbs b.natAbs = 1 → a = TX.numI t → C = TL.numL b.natAbs → False) : Bad (a ++ 47 :: C) :=
  bad_cut (P := a) (C := C) (.inr ⟨ha, rfl⟩) fun t b h1 h2 h3 h4 h5 => h t b h1 (fun hb => by
    have := h3 hb
    exact TX.numI_free (i := t) (s := 47) (by omega) (this ▸ List.mem_append_right _ List.mem_cons_self)) h2 h4 h5
theorem bad_plain {a : List Nat} (ha : 47 ∉ a) (h : ∀ t : Int, a = TX.numI t → False) : Bad a :=
  bad_cut (P := a) (C := [49]) (.inl ⟨ha, rfl, rfl⟩) fun t b h1 h2 h3 h4 h5 => h t h4
theorem numI_neg0 (t : Int) : TX.numI t ≠ [45, 48] := fun h => by
  have e := TX.val_num t
  rw [h] at e
  have e : (0 : Int) = t := e
  subst e
  revert h
  decide
theorem one_num {b : Int} (h1 : 1 ≤ b) {c : Nat} (h : [48 + c] = TL.numL b.natAbs) (hc : c < 10) : b = c := by
  rw [← TL.numL_lt hc] at h
  have := TL.numL_inj h
  omega
section
variable {t b : Int}
theorem bad_more (hb : 1 ≤ b) : Bad (TX.textL t b ++ [47, 49]) := by
  have f : 47 ∉ TX.numI t := TX.numI_free (by omega)
  unfold TX.textL
  split
  · refine bad_slash f fun t' b' h1 h2 h3 h4 h5 => h2 (by have := one_num h1 (c := 1) h5 (by omega); omega)
  · rw [List.append_assoc]
    refine bad_slash f fun t' b' h1 h2 h3 h4 h5 => ?_
    have : 47 ∈ TL.numL b'.natAbs := by rw [← h5]; simp
    exact TL.numL_free (by omega) this
theorem bad_minus2 : Bad (45 :: 45 :: TX.textL t b) := fun t' b' ⟨_, _, e, _⟩ => by
  have key : ∃ c r, TX.numI t' = c :: r ∧ (c = 45 → ∃ d q, r = d :: q ∧ 48 ≤ d) := by
    unfold TX.numI
    split
    · refine ⟨45, _, rfl, fun _ => ?_⟩
      cases e : TL.numL t'.natAbs with
      | nil => exact absurd e (TL.numL_ne _)
      | cons c r => exact ⟨c, r, rfl, (TX.numL_head e).1⟩
    · cases e : TL.numL t'.natAbs with
      | nil => exact absurd e (TL.numL_ne _)
      | cons c r => exact ⟨c, r, rfl, fun hc => by have := TX.numL_head e; omega⟩
  obtain ⟨c, r, e2, h⟩ := key
  have : ∃ r', TX.textL t' b' = c :: (r ++ r') := by
    unfold TX.textL
    split
    · exact ⟨[], by rw [e2]; simp⟩
    · exact ⟨_, by rw [e2]; rfl⟩
  obtain ⟨r', e3⟩ := this
  rw [e3] at e
  injection e with e4 e5
  obtain ⟨d, q, rfl, hd⟩ := h e4.symm
  injection e5 with e6 e7
  omega
theorem bad_zero : Bad (48 :: TX.textL t b) := by
  have f : 47 ∉ TX.numI t := TX.numI_free (by omega)
  have f2 : 47 ∉ 48 :: TX.numI t := by
    intro h
    rcases List.mem_cons.mp h with h | h
    · omega
    · exact f h
  have key : ∀ t' : Int, 48 :: TX.numI t = TX.numI t' → False := fun t' h => by
    by_cases c : t' < 0
    · rw [show TX.numI t' = 45 :: TL.numL t'.natAbs from if_pos c] at h
      injection h with h1 h2
      omega
    · rw [show TX.numI t' = TL.numL t'.natAbs from if_neg c] at h
      have e0 := TX.numL_zero h.symm
      obtain ⟨c, r, e, _⟩ := numI_head t
      rw [e] at e0
      cases e0
  unfold TX.textL
  split
  · exact bad_plain f2 fun t' h => key t' h
  · exact bad_slash (a := 48 :: TX.numI t) f2 fun t' b' _ _ _ h _ => key t' h
theorem bad_twice (hb : 1 ≤ b) : Bad (TX.numI (t * 2) ++ 47 :: TX.numI (b * 2)) := by
  refine bad_slash (TX.numI_free (by omega)) fun t' b' h1 h2 h3 h4 h5 => ?_
  have e1 : t * 2 = t' := by rw [← TX.val_num (t * 2), h4, TX.val_num]
  have e2 : b * 2 = b' := by rw [← TX.val_num (b * 2), h5, ← TX.numI_pos (by omega), TX.val_num]
  subst e1 e2
  rw [Int.natAbs_mul, Int.natAbs_mul, Nat.gcd_mul_right] at h3
  have : Nat.gcd t.natAbs b.natAbs * 2 = 1 := h3
  omega
theorem bad_m0 : Bad [45, 48] := bad_plain (by decide) fun t h => numI_neg0 t h.symm
theorem bad_m0s : Bad ([45, 48] ++ 47 :: TX.numI b) := bad_slash (by decide) fun t' b' _ _ _ h _ => numI_neg0 t' h.symm
theorem bad_over0 : Bad (TX.numI t ++ 47 :: [48]) := bad_slash (TX.numI_free (by omega)) fun t' b' h1 _ _ _ h => by
  have := one_num h1 (c := 0) h (by omega)
  omega
theorem bad_overm : Bad (TX.numI t ++ 47 :: 45 :: TX.numI b) := bad_slash (TX.numI_free (by omega)) fun t' b' h1 _ _ _ h => by
  have := TX.numL_head h.symm
  omega
theorem bad_mid {c : Nat} (h : c < 45 ∨ 57 < c ∨ (45 < c ∧ c < 47)) {a d : List Nat} (ha : 47 ∉ a ++ c :: d) : Bad (a ++ c :: d) := bad_plain ha fun t e => by
  have : c ∈ TX.numI t := by rw [← e]; simp
  exact TX.numI_free (by omega) this
end
section
variable {n c : Nat}
theorem rep_digits (h : 48 ≤ c ∧ c ≤ 57) : NumText.AllDigits (List.replicate n c) := fun d hd => by rw [(List.mem_replicate.mp hd).2]; exact h
theorem rep_num (hn : 1 ≤ n) (h : 49 ≤ c ∧ c ≤ 57) : TL.numL (NumText.digitsVal (List.replicate n c)) = List.replicate n c := by
  obtain ⟨m, rfl⟩ : ∃ m, n =
        m + 1 := ⟨n - 1, by omega⟩
  exact TX.num_back (rep_digits (by omega)) (List.replicate_succ) h.1
theorem rep_big (hn : 2 ≤ n) (h : 49 ≤ c ∧ c ≤ 57) : 2 ≤ NumText.digitsVal (List.replicate n c) := by
  have e := congrArg List.length (rep_num (n := n) (by omega) h)
  rw [List.length_replicate] at e
  by_cases c2 : 2 ≤ NumText.digitsVal (List.replicate n c)
  · exact c2
  · rw [TL.numL_lt (by omega)] at e
    simp only [List.length_cons, List.length_nil] at e
    omega
theorem great_minus (h2 : 2 ≤ n) (hn : n ≤ 300) (h : 49 ≤ c ∧ c ≤ 57) : TextOf (45 :: List.replicate n c) (-((NumText.digitsVal (List.replicate n c) : Nat) : Int)) 1 := by
  have b := rep_big h2 h
  have e := rep_num (n := n) (by omega) h
  refine ⟨by omega, by simp, ?_, ?_, by decide⟩
  · have hneg : -((NumText.digitsVal (List.replicate n c) : Nat) : Int) < 0 := by omega
    unfold TX.textL TX.numI
    rw [if_pos rfl, if_pos hneg, Int.natAbs_neg, Int.natAbs_natCast, e]
  · rw [Int.natAbs_neg, Int.natAbs_natCast, e, List.length_replicate]
    exact hn
theorem great_over (h2 : 2 ≤ n) (hn : n ≤ 300) (h : 49 ≤ c ∧ c ≤ 57) : TextOf ([49] ++ 47 :: List.replicate n c) 1 ((NumText.digitsVal (List.replicate n c) : Nat) : Int) := by
  have b := rep_big h2 h
  have e := rep_num (n := n) (by omega) h
  refine ⟨by omega, by simp, ?_, by decide, ?_⟩
  · have hne : ¬ ((NumText.digitsVal (List.replicate n c) : Nat) : Int) = 1 := by omega
    have h0 : (0 : Int) ≤ ((NumText.digitsVal (List.replicate n c) : Nat) : Int) := by omega
    unfold TX.textL
    rw [if_neg hne, TX.numI_pos h0, TX.numI_pos (by decide), Int.natAbs_natCast, e]
    rfl
  · rw [Int.natAbs_natCast, e, List.length_replicate]
    exact hn
theorem free_rep (h : 49 ≤ c ∧ c ≤ 57) : 47 ∉ List.replicate n c := fun m => by
  have := (List.mem_replicate.mp m).2
  omega
theorem great_minus_bad (hn : 300 < n) (h : 49 ≤ c ∧ c ≤ 57) : Bad (45 :: List.replicate n c) := fun t b ⟨h1, _, e, h3, _⟩ => by
  have cu : TX.Cut (45 :: List.replicate n c) (45 :: List.replicate n c) [49] := .inl ⟨fun m => by
    rcases List.mem_cons.mp m with m | m
    · omega
    · exact free_rep h m, rfl, rfl⟩
  rw [e] at cu
  have e1 := (TX.cut_text h1 cu).1
  rw [← e] at e1
  by_cases c0 : t < 0
  · rw [show TX.numI t = 45 :: TL.numL t.natAbs from if_pos c0] at e1
    injection e1 with _ e2
    rw [← e2, List.length_replicate] at h3
    omega
  · rw [show TX.numI t = TL.numL t.natAbs from if_neg c0] at e1
    have := TX.numL_head e1.symm
    omega
theorem great_over_bad (hn : 300 < n) (h : 49 ≤ c ∧ c ≤ 57) : Bad ([49] ++ 47 :: List.replicate n c) := fun t b ⟨h1, _, e, _, h4⟩ => by
  have cu : TX.Cut ([49] ++ 47 :: List.replicate n c) [49] (List.replicate n c) := .inr ⟨by decide, rfl⟩
  rw [e] at cu
  have e1 := (TX.cut_text h1 cu).2
  rw [← e1, List.length_replicate] at h4
  omega
/-- the number that the first i signs make -/
def repD (c i : Nat) : Int := ((NumText.digitsVal (List.replicate i c) : Nat) : Int)
theorem repD_succ (c i : Nat) (h : 48 ≤ c) : repD c (i + 1) = repD c i * 10 + ((c - 48 : Nat) : Int) := by
  unfold repD
  rw [List.replicate_succ', NumText.digitsVal_snoc]
  omega
theorem repD_sz {i : Nat} (h : 48 ≤ c ∧ c ≤ 57) (hi : i ≤ 300) : Sz 1000 (repD c i) := by
  have := TX.val_lt (List.replicate i c) 0 0 (rep_digits h) (by decide)
  rw [List.length_replicate] at this
  have h4 : (10 : Nat) ^ (0 + i) ≤ 10 ^ 300 := Nat.pow_le_pow_right (by decide) (by omega)
  have h5 : (10 : Nat) ^ 300 ≤ 2 ^ 1000 := by decide +kernel
  unfold Sz repD NumText.digitsVal
  rw [Int.natAbs_natCast]
  omega
end
theorem idx_ten : ∀ d : Nat, d < 9 → Builtin.Str.occurrences ("0123456789" : Str) ⟨#[49 + d]⟩ 0 ("0123456789" : Str).length 1 = [d + 1] := by decide +kernel
def sp__law_texts (K : PySem.W.Frag) : Sp := Z.Sp2 fun x y H Q E => ∃ (L : List Z.En) (l c p : Addr) (r : Int × Int), x = .ref l ∧ y = .ref p ∧ Z.Fx H L ∧ Z.En.hand l c ∈ L ∧ Z.En.ob p (.tup [.int r.1, .int r.2]) ∈ L ∧ SmallR r ∧ ∀ L1 H', L.Sublist L1 → Z.Fx H' L1 → Q (.bl true) H'
theorem text_uniq {z : Str} {t b t' b' : Int} (h : TextOf (TL.tl z) t b) (h' : TextOf (TL.tl z) t' b') : t = t' ∧ b = b' := by
  obtain ⟨P, S, C, _, _, _, hc⟩ := TX.cut_of z
  obtain ⟨B, c⟩ : ∃ B, TX.Cut (TL.tl z) (TL.tl P) B := by
    rcases hc with ⟨_, _, hc⟩ | ⟨_, hc⟩
    · exact ⟨_, hc⟩
    · exact ⟨_, hc⟩
  have e1 := (h.cut c).2.2
  have e2 := (h'.cut c).2.2
  exact ⟨by rw [← e1.1, e2.1], by rw [← e1.2, e2.2]⟩
theorem fn__law_texts (T : Txt K mg c_BadRatio c_ONE c_ZERO) {f : Addr} {fd : FuncData} (F : Fun K "_law_texts" "_law_texts" s__law_texts f fd) : FnOk P w K mg base CX0 5 f fd ["_law_hand_here", "_law_one"] (sp__law_texts K) := by
  have O__law_is := ok__law_is (P := P) (w := w) (base := base) T
  have O__law_read := ok__law_read (P := P) (w := w) (base := base) T
  have O__law_take := ok__law_take (P := P) (w := w) (base := base) T
  have O_ratio_text := ok_ratio_text (P := P) (w := w) (base := base) T
  refine F.ok sc__law_texts (fun vs H Q E h => ?_) (fun cdv A outer s H vs Q E hr h => ?_)
  · obtain ⟨a, b, rfl, _⟩ := h; rfl
  · obtain ⟨a, b, rfl, h⟩ := h
    refine ⟨_, (pss_cons (ps_set (i := 2) sc__law_texts.nd rfl (by first | exact Or.inl rfl | exact Or.inr rfl) (pe_ifExp (pt_cmpR (Z.zEq (Z.hu0 hr)) (pe_ix ix_seq (pv 1) pe_int (fun _ _ => rfl)) pe_int (nomark _)) (pe_callTy Z.cr_strI (by rfl) T.b_str (by decide +kernel) (pa_cons (pe_ix ix_seq (pv 1) pe_int (fun _ _ => rfl)) pa_nil)) (pe_op Z.zAdd (pe_op Z.zAdd (pe_callTy Z.cr_strI (by rfl) T.b_str (by decide +kernel) (pa_cons (pe_ix ix_seq (pv 1) pe_int (fun _ _ => rfl)) pa_nil)) pe_str) (pe_callTy Z.cr_strI (by rfl) T.b_str (by decide +kernel) (pa_cons (pe_ix ix_seq (pv 1) pe_int (fun _ _ => rfl)) pa_nil)))))
      (pss_cons (ps_if (PW.pt (pw_or (pt_cmpR (Z.zNe (Z.hu0 hr)) (Z.pe_callO O_ratio_text (by rfl) (hr.mono (by decide)) pass0 (pa_cons (pv 1) pa_nil)) (pv 2) (nomark _)) (pw_or1 (pt_not (Z.pt_truN (Z.pe_callO O__law_is (by rfl) (hr.mono (by decide)) pass0 (pa_cons (Z.pe_callO O__law_read (by rfl) (hr.mono (by decide)) pass0 (pa_cons (pv 2) pa_nil)) (pa_cons (pv 1) pa_nil))))))))
        (pss_one (ps_ret pe_bl))
        pss_nil)
      (pss_cons (ps_set (i := 3) sc__law_texts.nd rfl (by first | exact Or.inl rfl | exact Or.inr rfl) (pe_lst (pa_cons pe_str (pa_cons pe_str (pa_cons pe_str (pa_cons (pe_op Z.zAdd pe_str (pv 2)) (pa_cons (pe_op Z.zAdd pe_str (pv 2)) (pa_cons (pe_op Z.zAdd (pv 2) pe_str) (pa_cons (pe_op Z.zAdd (pv 2) pe_str) (pa_cons (pe_op Z.zAdd (pv 2) pe_str) (pa_cons (pe_op Z.zAdd pe_str (pv 2)) (pa_cons pe_str (pa_cons (pe_op Z.zAdd pe_str (pv 2)) (pa_cons (pe_op Z.zAdd (pv 2) pe_str) (pa_cons (pe_op Z.zAdd (pv 2) pe_str) pa_nil)))))))))))))))
      (pss_cons (ps_set (i := 3) sc__law_texts.nd rfl (by first | exact Or.inl rfl | exact Or.inr rfl) (pe_op Z.zAdd (pv 3) (pe_lst (pa_cons (pe_op Z.zAdd (pe_op Z.zAdd (pe_callTy Z.cr_strI (by rfl) T.b_str (by decide +kernel) (pa_cons (pe_op Z.zMul (pe_ix ix_seq (pv 1) pe_int (fun _ _ => rfl)) pe_int) pa_nil)) pe_str) (pe_callTy Z.cr_strI (by rfl) T.b_str (by decide +kernel) (pa_cons (pe_op Z.zMul (pe_ix ix_seq (pv 1) pe_int (fun _ _ => rfl)) pe_int) pa_nil))) (pa_cons (pe_op Z.zAdd pe_str (pe_callTy Z.cr_strI (by rfl) T.b_str (by decide +kernel) (pa_cons (pe_ix ix_seq (pv 1) pe_int (fun _ _ => rfl)) pa_nil))) (pa_cons (pe_op Z.zAdd (pe_callTy Z.cr_strI (by rfl) T.b_str (by decide +kernel) (pa_cons (pe_ix ix_seq (pv 1) pe_int (fun _ _ => rfl)) pa_nil)) pe_str) (pa_cons (pe_op Z.zAdd (pe_op Z.zAdd (pe_callTy Z.cr_strI (by rfl) T.b_str (by decide +kernel) (pa_cons (pe_ix ix_seq (pv 1) pe_int (fun _ _ => rfl)) pa_nil)) pe_str) (pe_callTy Z.cr_strI (by rfl) T.b_str (by decide +kernel) (pa_cons (pe_ix ix_seq (pv 1) pe_int (fun _ _ => rfl)) pa_nil))) pa_nil)))))))
      (pss_cons (ps_set (i := 3) sc__law_texts.nd rfl (by first | exact Or.inl rfl | exact Or.inr rfl) (pe_op Z.zAdd (pv 3) (pe_lst (pa_cons pe_non (pa_cons pe_int (pa_cons pe_bl (pa_cons (pv 1) (pa_cons (pe_lst (pa_cons (pv 2) pa_nil)) (pa_cons pe_str (pa_cons pe_str pa_nil))))))))))
      (pss_cons (ps_for PassesOwn.never (by rfl) (Z.pi_seq (pv 3)) (pg_name (i := 4) sc__law_texts.nd rfl (by first | exact Or.inl rfl | exact Or.inr rfl))
        (pss_one (ps_if (pt_cmpR (Z.zNe (Z.hu0 hr)) (Z.pe_callO O__law_read (by rfl) (hr.mono (by decide)) pass0 (pa_cons (pv 4) pa_nil)) (pe_lst (pa_cons pe_str (pa_cons pe_str pa_nil))) (nomark _))
          (pss_one (ps_ret pe_bl))
          pss_nil)))
      (pss_cons (ps_set (i := 5) sc__law_texts.nd rfl (by first | exact Or.inl rfl | exact Or.inr rfl) (pe_op Z.zAdd pe_int (Z.pe_callO O__law_take (by rfl) (hr.mono (by decide)) pass0 (pa_cons (pv 0) (pa_cons pe_int pa_nil)))))
      (pss_cons (ps_set (i := 6) sc__law_texts.nd rfl (by first | exact Or.inl rfl | exact Or.inr rfl) (pe_ix ix_seq pe_str (Z.pe_callO O__law_take (by rfl) (hr.mono (by decide)) pass0 (pa_cons (pv 0) (pa_cons pe_int pa_nil))) (fun _ _ => rfl)))
      (pss_cons (ps_set (i := 7) sc__law_texts.nd rfl (by first | exact Or.inl rfl | exact Or.inr rfl) (pe_op Z.op_mulS (pv 6) (pv 5)))
      (pss_cons (ps_set (i := 8) sc__law_texts.nd rfl (by first | exact Or.inl rfl | exact Or.inr rfl) (Z.pe_callO O__law_read (by rfl) (hr.mono (by decide)) pass0 (pa_cons (pe_op Z.zAdd pe_str (pv 7)) pa_nil)))
      (pss_cons (ps_set (i := 9) sc__law_texts.nd rfl (by first | exact Or.inl rfl | exact Or.inr rfl) (Z.pe_callO O__law_read (by rfl) (hr.mono (by decide)) pass0 (pa_cons (pe_op Z.zAdd pe_str (pv 7)) pa_nil)))
      (pss_cons (ps_if (pt_cmpR Z.zGt (pv 5) pe_int (nomark _))
        (pss_one (ps_ret (pe_andT (pe_cmpR (Z.zEq (Z.hu0 hr)) (pv 8) (pe_lst (pa_cons pe_str (pa_cons pe_str pa_nil))) (nomark _)) (pe_one (pe_cmpR (Z.zEq (Z.hu0 hr)) (pv 9) (pe_lst (pa_cons pe_str (pa_cons pe_str pa_nil))) (nomark _))))))
        pss_nil)
      (pss_cons (ps_set (i := 10) sc__law_texts.nd rfl (by first | exact Or.inl rfl | exact Or.inr rfl) pe_int)
      (pss_cons (ps_for PassesOwn.never (by rfl) (pi_range1 (by rfl) T.b_range (pa_cons (pv 5) pa_nil)) (pg_name (i := 11) sc__law_texts.nd rfl (by first | exact Or.inl rfl | exact Or.inr rfl))
        (pss_one (ps_set (i := 10) sc__law_texts.nd rfl (by first | exact Or.inl rfl | exact Or.inr rfl) (pe_op Z.zAdd (pe_op Z.zMul (pv 10) pe_int) (Z.pe_sidx pe_str (pv 6))))))
      (pss_one (ps_ret (pe_andT (Z.pe_callO O__law_is (by rfl) (hr.mono (by decide)) pass0 (pa_cons (pv 8) (pa_cons (pe_tup (pa_cons (pe_un un_neg (pv 10)) (pa_cons pe_int pa_nil))) pa_nil))) (pe_one (Z.pe_callO O__law_is (by rfl) (hr.mono (by decide)) pass0 (pa_cons (pv 9) (pa_cons (pe_tup (pa_cons pe_int (pa_cons (pv 10) pa_nil))) pa_nil))))))))))))))))))))), ?_⟩
    try dsimp only [cxOf, Cx.nox, Cx.wish]
    refine Z.at_start (σ' := [some a, some b, none, none, none, none, none, none, none, none, none, none]) rfl ?_
    obtain ⟨L, l, cc, p, ⟨t, b⟩, rfl, rfl, F, mh, mp, ⟨st, sb, b1, bg⟩, q⟩ := h
    dsimp only at mp st sb b1 bg
    have hr1 : Z.Rt K L (.ref p) t b := ⟨p, rfl, .inl mp⟩
    have sq := F.tup (K := K) mp
    have lg : ∀ {i : Int}, Sz 1000 i → i.natAbs.log2 < 1920 := fun {i} h => by
      by_cases h0 : i.natAbs = 0
      · rw [h0]; decide
      · have := (Nat.log2_lt h0).mpr h
        omega
    have sT := st.mono (l := 1000) (by omega)
    have sB := sb.mono (l := 1000) (by omega)
    have sT2 : Sz 1000 (t * 2) := (st.mul (l := 2) (show Sz 2 2 by unfold Sz; decide)).mono (by omega)
    have sB2 : Sz 1000 (b * 2) := (sb.mul (l := 2) (show Sz 2 2 by unfold Sz; decide)).mono (by omega)
    have lT := lg sT
    have lB := lg sB
    have lT2 := lg sT2
    have lB2 := lg sB2
    have nT : (Str.ofString (toString t)).length ≤ 10000 := Nat.le_trans (TX.len_int sT) (by decide)
    have nB : (Str.ofString (toString b)).length ≤ 10000 := Nat.le_trans (TX.len_int sB) (by decide)
    have nT2 : (Str.ofString (toString (t * 2))).length ≤ 10000 := Nat.le_trans (TX.len_int sT2) (by decide)
    have nB2 : (Str.ofString (toString (b * 2))).length ≤ 10000 := Nat.le_trans (TX.len_int sB2) (by decide)
    have z1 : ("/" : Str).length = 1 := by decide
    have mT : (Str.ofString (toString t) ++ ("/" : Str)).length ≤ 10000 := by rw [TX.len_app]; have := TX.len_int sT; omega
    have mT2 : (Str.ofString (toString (t * 2)) ++ ("/" : Str)).length ≤ 10000 := by rw [TX.len_app]; have := TX.len_int sT2; omega
    have z2 : ("/-" : Str).length = 2 := by decide
    have mTm : (Str.ofString (toString t) ++ ("/-" : Str)).length ≤ 10000 := by rw [TX.len_app]; have := TX.len_int sT; omega
    have sl : TL.tl ("/" : Str) = [47] := by decide
    refine Z.wSeq ?_
    refine Z.wMidS (fun σ' H' => H' = H ∧ ∃ z : Str, σ' = [some (.ref l), some (.ref p), some (.str z), none, none, none, none, none, none, none, none, none] ∧ TL.tl z = TX.textL t b) (fun N hk => ?_) ?_
    · walk_at "y"
      refine Z.wIf (fun h1 => ?_) (fun h1 => ?_)
      · walk_at "y"
        exact hk _ _ ⟨rfl, _, rfl, by rw [TX.tl_int, TX.textL, if_pos (of_decide_eq_true h1)]⟩
      · walk_at "y"
        exact hk _ _ ⟨rfl, _, rfl, by rw [TL.tl_append, TL.tl_append, TX.tl_int, TX.tl_int, sl, TX.textL, if_neg (of_decide_eq_false h1), List.append_assoc]; rfl⟩
    rintro _ _ ⟨rfl, z, rfl, ez⟩
    have nz : z.length ≤ 610 := by rw [TL.len_tl, ez]; exact TX.len_textL sT sB
    have nz1 : z.length ≤ 10000 := Nat.le_trans nz (by decide)
    have hz : TextOf (TL.tl z) t b := by
      have h19 : (2 : Nat) ^ 60 ≤ 10 ^ 19 := by decide +kernel
      have g1 := TL.numL_len (n := t.natAbs) (k := 19) (by decide) (by unfold Sz at st; omega)
      have g2 := TL.numL_len (n := b.natAbs) (k := 19) (by decide) (by unfold Sz at sb; omega)
      exact ⟨b1, bg, ez, by omega, by omega⟩
    have cm1 : L2.CMulW t 2 := ratio_mul st (show Sz 60 2 by unfold Sz; decide)
    have cm2 : L2.CMulW b 2 := ratio_mul sb (show Sz 60 2 by unfold Sz; decide)
    walk_at "z"
    refine use_ratio_text F hr1 b1 sT sB fun zz ezz => ?_
    obtain rfl : zz = z := TL.ext_tl (by rw [ez, ezz])
    walk_at "z"
    refine Z.wNeStr ?_
    rw [decide_eq_true (show zz = zz from rfl)]
    walk_at "z"
    have lb := Z.line_big
    refine use__law_read F (.str _) (show zz.length ≤ sizeLine by omega) (fun hn => absurd hz (hn t b)) fun t' b' ht p1 H1 F1 => ?_
    obtain ⟨rfl, rfl⟩ := text_uniq hz ht
    walk_at "z"
    refine use__law_is F1 Z.Rt.head (hr1.mono fun e m => .tail _ m) ?_
    rw [decide_eq_true (show t = t from rfl), decide_eq_true (show b = b from rfl)]
    walk_at "z"
    rename_i a1 H2 F2 a2 H3 F3 a3 H4 F4 a4 H5 F5 a5 H6 F6 a6 H7 F7
    clear F3 F4 F5 F6
    have mh7 : Z.En.hand l cc ∈ L := mh
    obtain ⟨XS, eXS⟩ : ∃ XS, XS = [.str ("" : Str), .str ("-" : Str), .str ("/" : Str), .str (("+" : Str) ++ zz), .str ((" " : Str) ++ zz), .str (zz ++ (" " : Str)), .str (zz ++ ("/" : Str)), .str (zz ++ ("/1" : Str)), .str (("--" : Str) ++ zz),
      .str ("-0" : Str), .str (("0" : Str) ++ zz), .str (zz ++ ("x" : Str)), .str (zz ++ ("\n" : Str))] ++
      [V.str (Str.ofString (toString (t * 2)) ++ ("/" : Str) ++ Str.ofString (toString (b * 2))), .str (("-0/" : Str) ++ Str.ofString (toString b)), .str (Str.ofString (toString t) ++ ("/0" : Str)), .str (Str.ofString (toString t) ++ ("/-" : Str) ++ Str.ofString (toString b))] ++
      [V.non, .int 5, .bl true, .ref p, .ref a4, .str ("1_0" : Str), .str ("1.0" : Str)] := ⟨_, rfl⟩
    obtain ⟨LL, FF, hs, m6, m4⟩ : ∃ LL, Z.Fx H7 LL ∧ L.Sublist LL ∧ Z.En.ob a6 (.lst XS) ∈ LL ∧ Z.En.ob a4 (.lst [V.str zz]) ∈ LL := by
      refine ⟨_, F7, ?_, ?_, ?_⟩
      · exact .cons _ (.cons _ (.cons _ (.cons _ (.cons _ (.cons _ (.cons _ (.refl _)))))))
      · rw [eXS]; exact .head _
      · walk_at "zm"
    have hall : ∀ y ∈ XS, (∃ k, Z.Thing LL y k) ∧ lenV y ∧ ∀ t b, ¬ TextV y t b := by
      intro y hy
      have la : ∀ x y : Str, x.length ≤ 20000 → y.length ≤ 20000 → (x ++ y).length ≤ sizeLine := fun x y h1 h2 => by rw [TX.len_app]; omega
      have ok : ∀ (w : Str) (u : List Nat), TL.tl w = u → Bad u → w.length ≤ sizeLine → (∃ k, Z.Thing LL (.str w) k) ∧ lenV (.str w) ∧ ∀ t b, ¬ TextV (.str w) t b := fun w u e hb hl => ⟨⟨_, .str _⟩, hl, fun t b => show ¬ TextOf (TL.tl w) t b from e.symm ▸ hb t b⟩
      have no : ∀ (v : V) (k : Z.Kd), Z.Thing LL v k → lenV v → (∀ t b, ¬ TextV v t b) → (∃ k, Z.Thing LL v k) ∧ lenV v ∧ ∀ t b, ¬ TextV v t b := fun v k h1 h2 h3 => ⟨⟨k, h1⟩, h2, h3⟩
      have w0 : TL.tl ("" : Str) = [] := by decide
      have w1 : TL.tl ("-" : Str) = [45] := by decide
      have w2 : TL.tl ("+" : Str) = [43] := by decide
      have w3 : TL.tl (" " : Str) = [32] := by decide
      have w4 : TL.tl ("/1" : Str) = [47, 49] := by decide
      have w5 : TL.tl ("--" : Str) = [45, 45] := by decide
      have w6 : TL.tl ("-0" : Str) = [45, 48] := by decide
      have w7 : TL.tl ("0" : Str) = [48] := by decide
      have w8 : TL.tl ("x" : Str) = [120] := by decide
      have w9 : TL.tl ("\n" : Str) = [10] := by decide
      have wa : TL.tl ("-0/" : Str) = [45, 48] ++ [47] := by decide
      have wb : TL.tl ("/0" : Str) = [47, 48] := by decide
      have wc : TL.tl ("/-" : Str) = [47, 45] := by decide
      have wd : TL.tl ("1_0" : Str) = [49] ++ 95 :: [48] := by decide
      have we : TL.tl ("1.0" : Str) = [49] ++ 46 :: [48] := by decide
      have nT' := TX.len_int sT
      have nB' := TX.len_int sB
      have nT2' := TX.len_int sT2
      have nB2' := TX.len_int sB2
      have big : 20000 ≤ sizeLine := by omega
      rw [eXS] at hy
      simp only [List.mem_append, List.mem_cons, List.not_mem_nil, or_false, or_assoc] at hy
      rcases hy with rfl | rfl | rfl | rfl | rfl | rfl | rfl | rfl | rfl | rfl | rfl | rfl | rfl | rfl | rfl | rfl | rfl | rfl | rfl | rfl | rfl | rfl | rfl | rfl
      · exact ok _ _ w0 bad_nil (Nat.le_trans (show ("" : Str).length ≤ 20000 by decide) big)
      · exact ok _ _ w1 (bad_last (w := []) (by omega)) (Nat.le_trans (show ("-" : Str).length ≤ 20000 by decide) big)
      · exact ok _ _ sl (bad_last (w := []) (by omega)) (Nat.le_trans (show ("/" : Str).length ≤ 20000 by decide) big)
      · exact ok _ _ (by rw [TL.tl_append, w2, ez]; rfl) (bad_head (w := TX.textL t b) (c := 43) (by omega)) (la _ _ (by decide) (by omega))
      · exact ok _ _ (by rw [TL.tl_append, w3, ez]; rfl) (bad_head (w := TX.textL t b) (c := 32) (by omega)) (la _ _ (by decide) (by omega))
      · exact ok _ _ (by rw [TL.tl_append, w3, ez]) (bad_last (c := 32) (by omega)) (la _ _ (by omega) (by decide))
      · exact ok _ _ (by rw [TL.tl_append, sl, ez]) (bad_last (c := 47) (by omega)) (la _ _ (by omega) (by decide))
      · exact ok _ _ (by rw [TL.tl_append, w4, ez]) (bad_more b1) (la _ _ (by omega) (by decide))
      · exact ok _ _ (by rw [TL.tl_append, w5, ez]; rfl) (bad_minus2 (t := t) (b := b)) (la _ _ (by decide) (by omega))
      · exact ok _ _ w6 bad_m0 (Nat.le_trans (show ("-0" : Str).length ≤ 20000 by decide) big)
      · exact ok _ _ (by rw [TL.tl_append, w7, ez]; rfl) (bad_zero (t := t) (b := b)) (la _ _ (by decide) (by omega))
      · exact ok _ _ (by rw [TL.tl_append, w8, ez]) (bad_last (c := 120) (by omega)) (la _ _ (by omega) (by decide))
      · exact ok _ _ (by rw [TL.tl_append, w9, ez]) (bad_last (c := 10) (by omega)) (la _ _ (by omega) (by decide))
      · exact ok _ _ (by rw [TL.tl_append, TL.tl_append, sl, TX.tl_int, TX.tl_int, List.append_assoc]; rfl) (bad_twice (t := t) (b := b) b1) (la _ _ (by omega) (by omega))
      · exact ok _ _ (by rw [TL.tl_append, wa, TX.tl_int, List.append_assoc]; rfl) (bad_m0s (b := b)) (la _ _ (by decide) (by omega))
      · exact ok _ _ (by rw [TL.tl_append, wb, TX.tl_int]) (bad_over0 (t := t)) (la _ _ (by omega) (by decide))
      · exact ok _ _ (by rw [TL.tl_append, TL.tl_append, wc, TX.tl_int, TX.tl_int, List.append_assoc]; rfl) (bad_overm (t := t) (b := b)) (la _ _ (by omega) (by omega))
      · exact no _ _ .non trivial fun _ _ h => h
      · exact no _ _ (.int _) trivial fun _ _ h => h
      · exact no _ _ (.bl _) trivial fun _ _ h => h
      · exact no _ _ (.tup (hs.subset mp)) trivial fun _ _ h => h
      · exact no _ _ (.lst m4) trivial fun _ _ h => h
      · exact ok _ _ wd (bad_mid (by omega) (by decide)) (Nat.le_trans (show ("1_0" : Str).length ≤ 20000 by decide) big)
      · exact ok _ _ we (bad_mid (by omega) (by decide)) (Nat.le_trans (show ("1.0" : Str).length ≤ 20000 by decide) big)
    clear eXS
    refine Z.wForLi FF m6 (fun i σ H' => ∃ v4, σ = [some (.ref l), some (.ref p), some (.str zz), some (.ref a6), v4, none, none, none, none, none, none, none] ∧ Z.Fx H' LL) ⟨_, rfl, FF⟩ ?_ ?_ ?_
    · rintro i σ H' ⟨v4, rfl, F'⟩
      exact ⟨_, F', m6⟩
    · rintro i y σ H' hy ⟨v4, rfl, F'⟩
      obtain ⟨⟨k, ty⟩, ly, by'⟩ := hall y (List.mem_of_getElem? hy)
      walk_at "z"
      refine use__law_read F' ty ly (fun _ v L1 H8 hs1 rf F8 => ?_) (fun t' b' h => absurd h (by' t' b'))
      walk_at "z"
      rename_i q5 H9 F9
      refine Z.wNeSame F9 (rf.le (.cons _ (.refl _))).dt (RefAt.dt ⟨q5, rfl, .head _⟩) (ref_ok _ (by decide +kernel)) ?_
      walk_at "z"
      exact ⟨_, rfl, F9.sub (.cons _ hs1)⟩
    rintro σ H8 ⟨v4, rfl, F8⟩
    have mh8 := hs.subset mh
    walk_at "z"
    rename_i fv H9 F9 f0 f1 dv H10 F10 d0 d1
    obtain ⟨d, hd, rfl⟩ : ∃ d : Nat, d < 9 ∧ dv = (d : Int) := ⟨dv.toNat, by omega, by omega⟩
    obtain ⟨n, n1, n2, hfv⟩ : ∃ n : Nat, 299 ≤ n ∧ n ≤ 301 ∧ 299 + fv = (n : Int) := ⟨(299 + fv).toNat, by omega, by omega, by omega⟩
    rw [hfv]
    have hc : ∀ d : Nat, d < 9 → L2.atI ("123456789" : Str).cps.toList (d : Int) = some (49 + d) := by decide
    refine Z.wIxS (Nat.le_trans (show ("123456789" : Str).length ≤ 20000 by decide) (by omega)) (hc d hd) ?_
    walk_at "z"
    refine Z.wMulS (by omega) (by omega) ?_
    have hc2 : 49 ≤ 49 + d ∧ 49 + d ≤ 57 := by omega
    obtain ⟨G, eG, tG⟩ : ∃ G : Str, G = ⟨(List.replicate ((n : Nat) : Int).toNat (49 + d)).toArray⟩ ∧ TL.tl G = List.replicate n (49 + d) := ⟨_, rfl, by rw [TL.tl_mk]; rfl⟩
    rw [← eG]
    have gl : G.length ≤ 10000 := by rw [TL.len_tl, tG, List.length_replicate]; omega
    have t1 : TL.tl (("-" : Str) ++ G) = 45 :: List.replicate n (49 + d) := by rw [TL.tl_append, tG, show TL.tl ("-" : Str) = [45] by decide]; rfl
    have t2 : TL.tl (("1/" : Str) ++ G) = [49] ++ 47 :: List.replicate n (49 + d) := by rw [TL.tl_append, tG, show TL.tl ("1/" : Str) = [49, 47] by decide]; rfl
    have y1 : ("-" : Str).length = 1 := by decide
    have y2 : ("1/" : Str).length = 2 := by decide
    have v1 : lenV (.str (("-" : Str) ++ G)) := by
      show (("-" : Str) ++ G).length ≤ sizeLine
      rw [TX.len_app]; omega
    have v2 : lenV (.str (("1/" : Str) ++ G)) := by
      show (("1/" : Str) ++ G).length ≤ sizeLine
      rw [TX.len_app]; omega
    walk_at "z"
    by_cases hn : 300 < n
    · refine use__law_read F10 (.str _) v1 (fun _ u1 L1 H11 hs1 rf1 F11 => ?_) fun t' b' h => absurd (t1 ▸ h : TextOf (45 :: List.replicate n (49 + d)) t' b') (great_minus_bad hn hc2 t' b')
      walk_at "z"
      refine use__law_read F11 (.str _) v2 (fun _ u2 L2 H12 hs2 rf2 F12 => ?_) fun t' b' h => absurd (t2 ▸ h : TextOf ([49] ++ 47 :: List.replicate n (49 + d)) t' b') (great_over_bad hn hc2 t' b')
      have rf1' := rf1.le hs2
      walk_at "z"
      rename_i q5 H13 F13
      refine Z.wEqSame F13 (rf1'.le (.cons _ (.refl _))).dt (RefAt.dt ⟨q5, rfl, .head _⟩) (ref_ok _ (by decide +kernel)) ?_
      walk_at "z"
      rename_i q6 H14 F14
      refine Z.wEqSame F14 (rf2.le (.cons _ (.cons _ (.refl _)))).dt (RefAt.dt ⟨q6, rfl, .head _⟩) (ref_ok _ (by decide +kernel)) ?_
      exact q _ _ ((hs.trans (hs1.trans hs2)).trans (.cons _ (.cons _ (.refl _)))) F14
    have g1 : TextV (.str (("-" : Str) ++ G)) (-repD (49 + d) n) 1 := by
      show TextOf (TL.tl (("-" : Str) ++ G)) _ _
      rw [t1]
      exact great_minus (by omega) (by omega) hc2
    have g2 : TextV (.str (("1/" : Str) ++ G)) 1 (repD (49 + d) n) := by
      show TextOf (TL.tl (("1/" : Str) ++ G)) _ _
      rw [t2]
      exact great_over (by omega) (by omega) hc2
    refine use__law_read F10 (.str _) v1 (fun hb => absurd g1 (hb _ _)) fun t' b' ht p8 H11 F11 => ?_
    obtain ⟨rfl, rfl⟩ := text_uniq (show TextOf (TL.tl (("-" : Str) ++ G)) _ _ from g1) ht
    walk_at "z"
    refine use__law_read F11 (.str _) v2 (fun hb => absurd g2 (hb _ _)) fun t' b' ht2 p9 H12 F12 => ?_
    obtain ⟨rfl, rfl⟩ := text_uniq (show TextOf (TL.tl (("1/" : Str) ++ G)) _ _ from g2) ht2
    walk_at "z"
    have hn3 : n ≤ 300 := by omega
    refine Z.wForW walk_range (fun i σ H' => ∃ v11, σ = [some (.ref l), some (.ref p), some (.str zz), some (.ref a6), v4, some (.int (n : Int)), some (.str ⟨#[49 + d]⟩), some (.str G), some (.ref p8), some (.ref p9), some (.int (repD (49 + d) i)), v11] ∧ H' = H12) ⟨_, rfl, rfl⟩ (fun _ _ _ _ _ => trivial) ?_ ?_
    · rintro i u σ H6 H7 hi ⟨v11, rfl, rfl⟩ ⟨rfl, rfl⟩
      have hi2 : i < n := hi
      have cmi : L2.CMulW (repD (49 + d) i) 10 := ratio_mul ((repD_sz (c := 49 + d) (i := i) (by omega) (by omega)).mono (l := 1900) (by decide)) (show Sz 1900 10 by unfold Sz; decide +kernel)
      have er := repD_succ (49 + d) i (by omega)
      rw [show 49 + d - 48 = d + 1 by omega] at er
      walk_at "z"
      refine Z.wSIdx (idx_ten d hd) ?_
      walk_at "z"
      exact ⟨_, by rw [er], rfl⟩
    rintro σ H6 ⟨v11, rfl, rfl⟩
    rw [show ((n : Nat) : Int).toNat = n from rfl]
    walk_at "z"
    rename_i r1 H13 F13
    refine use__law_is F13 (a := -repD (49 + d) n) (b := 1) ⟨p8, rfl, .inl (by walk_at "zm")⟩ Z.Rt.head ?_
    rw [decide_eq_true (show -repD (49 + d) n = -repD (49 + d) n from rfl), decide_eq_true (show (1 : Int) = 1 from rfl)]
    walk_at "z"
    rename_i r2 H14 F14
    refine use__law_is F14 (a := 1) (b := repD (49 + d) n) ⟨p9, rfl, .inl (by walk_at "zm")⟩ Z.Rt.head ?_
    rw [decide_eq_true (show repD (49 + d) n = repD (49 + d) n from rfl), decide_eq_true (show (1 : Int) = 1 from rfl)]
    exact q _ _ (hs.trans (.cons _ (.cons _ (.cons _ (.cons _ (.refl _)))))) F14
theorem ok__law_texts (T : Txt K mg c_BadRatio c_ONE c_ZERO) : Z.Ok CX0 P w K mg base "_law_texts" 5 ["_law_hand_here", "_law_one"] [] (sp__law_texts K) := by
  obtain ⟨f, fd, F, g⟩ := T.d__law_texts
  exact Z.mkOk F g (F.binds (ps := ["_law_hand_here", "_law_one"]) fun _ _ _ _ _ _ us hl => match us, hl with | [_, _], _ => rfl) (fn__law_texts T F)
theorem use__law_texts {H : Hp} {Q : VK} {E : XK} {L : List Z.En} {l c p : Addr} {r : Int × Int} (F : Z.Fx H L) (mh : Z.En.hand l c ∈ L) (hy : Z.En.ob p (.tup [.int r.1, .int r.2]) ∈ L) (sr : SmallR r) (k : ∀ L1 H', L.Sublist L1 → Z.Fx H' L1 → Q (.bl true) H') : sp__law_texts K [.ref l, .ref p] H Q E := ⟨_, _, rfl, L, l, c, p, r, rfl, rfl, F, mh, hy, sr, k⟩
theorem sc_law : FnScope ["_law_script", "_law_hand_here", "_law_rows", "_law_turn", "_law_top", "_law_bottom", "_law_told", "_law_odd_here", "_law_one", "_law_other", "_law_total", "_law_least", "_law_most", "_law_row", "_law_given"] ["_law_script"] (defScope s_law) := ⟨rfl, rfl, rfl, by decide +kernel, rfl, by decide +kernel, by decide +kernel⟩
def sp_law (K : PySem.W.Frag) : Sp := Z.Sp1 fun a H Q E => ∃ (l : Addr) (ns : List Int), a = .ref l ∧ SqL K H l (ns.map V.int) ∧ ns.length ≤ 63 ∧ ∀ H', Q (.bl true) H'
theorem lowR_small {t b : Int} (h1 : Sz 60 t) (h2 : Sz 60 b) (hb : b ≠ 0) : SmallR (lowT t b, lowB t b) := ⟨h1.lowT hb, h2.lowB hb, (low_spec hb).2.2.1, (low_spec hb).2.2.2.1⟩
theorem low_one (t : Int) : lowT t 1 = t ∧ lowB t 1 = 1 := by
  have s : shr t 1 = 1 := by unfold shr; rw [if_neg (by decide)]; simp
  unfold lowT lowB
  rw [s]
  exact ⟨Int.fdiv_one _, rfl⟩
/-- the rows, each a tuple of the ledger -/
inductive RowsM (L : List Z.En) : List V → List (Int × Int) → Prop where
  | nil : RowsM L [] []
  | cons {v : V} {r : Int × Int} {vs : List V} {rows : List (Int × Int)} (h : ∃ p, v = .ref p ∧ Z.En.ob p (.tup [.int r.1, .int r.2]) ∈ L) (t : RowsM L vs rows) : RowsM L (v :: vs) (r :: rows)
theorem RowsM.mono {L L' : List Z.En} (s : ∀ e ∈ L, e ∈ L') : ∀ {vs : List V} {rows : List (Int × Int)}, RowsM L vs rows → RowsM L' vs rows
  | _, _, .nil => .nil
  | _, _, .cons ⟨p, e, m⟩ t => .cons ⟨p, e, s _ m⟩ (t.mono s)
theorem RowsM.snoc {L : List Z.En} {v : V} {r : Int × Int} (h : ∃ p, v = .ref p ∧ Z.En.ob p (.tup [.int r.1, .int r.2]) ∈ L) : ∀ {vs : List V} {rows : List (Int × Int)}, RowsM L vs rows → RowsM L (vs ++ [v]) (rows ++ [r])
  | _, _, .nil => .cons h .nil
  | _, _, .cons h' t => .cons h' (t.snoc h)
theorem RowsM.len {L : List Z.En} : ∀ {vs : List V} {rows : List (Int × Int)}, RowsM L vs rows → vs.length = rows.length
  | _, _, .nil => rfl
  | _, _, .cons _ t => by rw [List.length_cons, List.length_cons, t.len]
theorem ratioW_int {t b : Int} {w : Str} (h : ratioW (.int t) (.int b) = some w) : b = 0 ∧ w = ("bottom" : Str) := by
  unfold ratioW at h
  rw [if_neg (by simp [Z.inB])] at h
  by_cases c : b = 0
  · subst c
    rw [if_pos (.inr rfl)] at h
    injection h with h
    exact ⟨rfl, h.symm⟩
  · rw [if_neg (by simp [Z.inB, c])] at h
    cases h
theorem odd_thing {L N : List Z.En} {v : V} (o : Odd v N) : (∃ k, Z.Thing (N ++ L) v k) ∧ Z.inB v .non .non = false := by
  cases o with
  | non => exact ⟨⟨_, .non⟩, rfl⟩
  | bl b => exact ⟨⟨_, .bl b⟩, rfl⟩
  | str z _ => exact ⟨⟨_, .str z⟩, rfl⟩
  | tup0 p => exact ⟨⟨_, .tup (.head _)⟩, rfl⟩
  | lst1 p => exact ⟨⟨_, .lst (.head _)⟩, rfl⟩
  | tup2 p => exact ⟨⟨_, .tup (.head _)⟩, rfl⟩
theorem ratioW_top {v b : V} {w : Str} (hv : Z.inB v .non .non = false) (h : ratioW v b = some w) : w = ("top" : Str) := by
  unfold ratioW at h
  rw [if_pos hv] at h
  injection h with h
  exact h.symm
theorem ratioW_bottom {v : V} {t : Int} {w : Str} (hv : Z.inB v .non .non = false) (h : ratioW (.int t) v = some w) : w = ("bottom" : Str) := by
  unfold ratioW at h
  rw [if_neg (by simp [Z.inB]), if_pos (.inl hv)] at h
  injection h with h
  exact h.symm
theorem RowsM.get {L : List Z.En} : ∀ {vs : List V} {rows : List (Int × Int)} (k : Nat), RowsM L vs rows → k < vs.length → ∃ p r, vs[k]? = some (.ref p) ∧ r ∈ rows ∧ rows[k]? = some r ∧ Z.En.ob p (.tup [.int r.1, .int r.2]) ∈ L
  | _, _, k, .nil, h => absurd h (Nat.not_lt_zero _)
  | _, _, 0, .cons ⟨p, e, m⟩ t, _ => ⟨p, _, by rw [e]; rfl, List.mem_cons_self, rfl, m⟩
  | _, _, k + 1, .cons _ t, h => by
    obtain ⟨p, r, e1, e2, e3, m⟩ := t.get k (by simpa using h)
    exact ⟨p, r, e1, List.mem_cons_of_mem _ e2, e3, m⟩
theorem RowsM.al {K : PySem.W.Frag} {L : List Z.En} : ∀ {vs : List V} {rows : List (Int × Int)}, RowsM L vs rows → RowsR K L vs rows
  | _, _, .nil => .nil
  | _, _, .cons ⟨p, e, m⟩ t => .cons ⟨p, e, .inl m⟩ t.al
theorem atI_nat {vs : List V} {k : Nat} {v : V} (h : vs[k]? = some v) : atI vs (k : Int) = some v := by
  have hk : k < vs.length := by
    rw [List.getElem?_eq_some_iff] at h
    exact h.1
  unfold atI
  rw [Z.ixN_of (by omega) (by omega)]
  exact h
theorem les_if {l r : Int × Int} : lesR l r = if r.1 * l.2 < l.1 * r.2 then r else l := by
  have e : cmpI r.1 r.2 l.1 l.2 < 0 ↔ r.1 * l.2 < l.1 * r.2 := by
    unfold cmpI
    split
    · omega
    · split <;> omega
  unfold lesR
  by_cases h : r.1 * l.2 < l.1 * r.2
  · rw [if_pos (e.mpr h), if_pos h]
  · rw [if_neg (fun x => h (e.mp x)), if_neg h]
theorem gre_if {l r : Int × Int} : greR l r = if r.1 * l.2 > l.1 * r.2 then r else l := by
  have e : cmpI r.1 r.2 l.1 l.2 > 0 ↔ r.1 * l.2 > l.1 * r.2 := by
    unfold cmpI
    split
    · omega
    · split <;> omega
  unfold greR
  by_cases h : r.1 * l.2 > l.1 * r.2
  · rw [if_pos (e.mpr h), if_pos h]
  · rw [if_neg (fun x => h (e.mp x)), if_neg h]
theorem fold_step {f : Int × Int → Int × Int → Int × Int} {rows : List (Int × Int)} {i : Nat} {r r0 : Int × Int} (h : rows[i]? = some r) : (rows.take (i + 1)).foldl f r0 = f ((rows.take i).foldl f r0) r := by
  rw [List.take_add_one, h, List.foldl_append]; rfl
theorem fold_all {f : Int × Int → Int × Int → Int × Int} {rows : List (Int × Int)} {r0 : Int × Int} (h : rows[0]? = some r0) (hf : f r0 r0 = r0) : rows.foldl f r0 = rows.tail.foldl f (rows.getD 0 (0, 1)) := by
  cases rows with
  | nil => cases h
  | cons r q =>
    injection h with h
    subst h
    show q.foldl f (f r r) = q.foldl f r
    rw [hf]
theorem RowsM.dt {L : List Z.En} : ∀ {vs : List V} {rows : List (Int × Int)}, RowsM L vs rows → Z.DtA L vs (rows.map fun r => PyData.tuple [.int r.1, .int r.2])
  | _, _, .nil => .nil
  | _, _, .cons ⟨p, e, m⟩ t => by
    subst e
    exact .cons (.tup m (.cons (.int _) (.cons (.int _) .nil))) t.dt
theorem rows_ok (rows : List (Int × Int)) : SeqAt.shaped (.list (rows.map fun r => PyData.tuple [.int r.1, .int r.2])) = true :=
  (Z.Sh.lst (Z.ShA.map (n := 1) fun r _ => Z.Sh.tup (n := 0) (Z.ShA.cons (n := 0) (m := 0) (.int _) (Z.ShA.cons (n := 0) (m := 0) (.int _) .nil)))).ok
theorem fn_law (T : Txt K mg c_BadRatio c_ONE c_ZERO) {f : Addr} {fd : FuncData} (F : Fun K "law" "law" s_law f fd) : FnOk P w K mg base CX0 6 f fd ["_law_script"] (sp_law K) := by
  have O__law_hand := ok__law_hand (P := P) (w := w) (base := base) T
  have O__law_is := ok__law_is (P := P) (w := w) (base := base) T
  have O__law_lowest := ok__law_lowest (P := P) (w := w) (base := base) T
  have O__law_made := ok__law_made (P := P) (w := w) (base := base) T
  have O__law_number := ok__law_number (P := P) (w := w) (base := base) T
  have O__law_odd := ok__law_odd (P := P) (w := w) (base := base) T
  have O__law_sums_right := ok__law_sums_right (P := P) (w := w) (base := base) T
  have O__law_take := ok__law_take (P := P) (w := w) (base := base) T
  have O__law_texts := ok__law_texts (P := P) (w := w) (base := base) T
  have O__law_things := ok__law_things (P := P) (w := w) (base := base) T
  have O_greatest_of := ok_greatest_of (P := P) (w := w) (base := base) T
  have O_least_of := ok_least_of (P := P) (w := w) (base := base) T
  have O_make_ratio_1 := ok_make_ratio_1 (P := P) (w := w) (base := base) T
  have O_make_ratio_2 := ok_make_ratio_2 (P := P) (w := w) (base := base) T
  have O_sum_of := ok_sum_of (P := P) (w := w) (base := base) T
  refine F.ok sc_law (fun vs H Q E h => ?_) (fun cdv A outer s H vs Q E hr h => ?_)
  · obtain ⟨a, rfl, _⟩ := h; rfl
  · obtain ⟨a, rfl, h⟩ := h
    refine ⟨_, (pss_cons (ps_set (i := 1) sc_law.nd rfl (by first | exact Or.inl rfl | exact Or.inr rfl) (Z.pe_callO O__law_hand (by rfl) (hr.mono (by decide)) pass0 (pa_cons (pv 0) pa_nil)))
      (pss_cons (ps_set (i := 2) sc_law.nd rfl (by first | exact Or.inl rfl | exact Or.inr rfl) (pe_lst (pa_cons (pe_tup (pa_cons pe_int (pa_cons pe_int pa_nil))) pa_nil)))
      (pss_cons (ps_for PassesOwn.never (by rfl) (pi_range1 (by rfl) T.b_range (pa_cons (pe_op Z.zAdd pe_int (Z.pe_callO O__law_take (by rfl) (hr.mono (by decide)) pass0 (pa_cons (pv 1) (pa_cons pe_int pa_nil)))) pa_nil)) (pg_name (i := 3) sc_law.nd rfl (by first | exact Or.inl rfl | exact Or.inr rfl))
        (pss_cons (ps_set (i := 4) sc_law.nd rfl (by first | exact Or.inl rfl | exact Or.inr rfl) (Z.pe_callO O__law_number (by rfl) (hr.mono (by decide)) pass0 (pa_cons (pv 1) pa_nil)))
        (pss_cons (ps_set (i := 5) sc_law.nd rfl (by first | exact Or.inl rfl | exact Or.inr rfl) (Z.pe_callO O__law_number (by rfl) (hr.mono (by decide)) pass0 (pa_cons (pv 1) pa_nil)))
        (pss_cons (ps_set (i := 6) sc_law.nd rfl (by first | exact Or.inl rfl | exact Or.inr rfl) (Z.pe_callO O__law_made (by rfl) (hr.mono (by decide)) pass0 (pa_cons (pv 4) (pa_cons (pv 5) pa_nil))))
        (pss_cons (ps_if (pt_cmpR (Z.zEq (Z.hu0 hr)) (pv 5) pe_int (nomark _))
          (pss_one (ps_if (pt_cmpR (Z.zNe (Z.hu0 hr)) (pv 6) (pe_lst (pa_cons pe_str (pa_cons pe_str pa_nil))) (nomark _))
            (pss_one (ps_ret pe_bl))
            pss_nil))
          (pss_one (ps_if (pt_not (Z.pt_truN (Z.pe_callO O__law_is (by rfl) (hr.mono (by decide)) pass0 (pa_cons (pv 6) (pa_cons (Z.pe_callO O__law_lowest (by rfl) (hr.mono (by decide)) pass0 (pa_cons (pv 4) (pa_cons (pv 5) pa_nil))) pa_nil)))))
            (pss_one (ps_ret pe_bl))
            pss_nil)))
        (pss_cons (ps_if (pt_cmpR (Z.zNe (Z.hu0 hr)) (pv 5) pe_int (nomark _))
          (pss_one (ps_expr (pe_bm PySem.F.plainAttrs_list PySem.F.slot_list_append PySem.F.type_list_append mt_append (pv 2) (pa_cons (Z.pe_callO O__law_lowest (by rfl) (hr.mono (by decide)) pass0 (pa_cons (pv 4) (pa_cons (pv 5) pa_nil))) pa_nil))))
          pss_nil)
        (pss_one (ps_if (pt_not (Z.pt_truN (Z.pe_callO O__law_is (by rfl) (hr.mono (by decide)) pass0 (pa_cons (Z.pe_callO O_make_ratio_1 (by rfl) (hr.mono (by decide)) passL (pa_cons (pv 4) pa_nil)) (pa_cons (pe_tup (pa_cons (pv 4) (pa_cons pe_int pa_nil))) pa_nil)))))
          (pss_one (ps_ret pe_bl))
          pss_nil))))))))
      (pss_cons (ps_set (i := 7) sc_law.nd rfl (by first | exact Or.inl rfl | exact Or.inr rfl) (Z.pe_callO O__law_odd (by rfl) (hr.mono (by decide)) pass0 (pa_cons (pv 1) pa_nil)))
      (pss_cons (ps_if (PW.pt (pw_or (pt_cmpR (Z.zNe (Z.hu0 hr)) (Z.pe_callO O__law_made (by rfl) (hr.mono (by decide)) pass0 (pa_cons (pv 7) (pa_cons pe_int pa_nil))) (pe_lst (pa_cons pe_str (pa_cons pe_str pa_nil))) (nomark _)) (pw_or1 (pt_cmpR (Z.zNe (Z.hu0 hr)) (Z.pe_callO O__law_made (by rfl) (hr.mono (by decide)) pass0 (pa_cons pe_int (pa_cons (pv 7) pa_nil))) (pe_lst (pa_cons pe_str (pa_cons pe_str pa_nil))) (nomark _)))))
        (pss_one (ps_ret pe_bl))
        pss_nil)
      (pss_cons (ps_set (i := 8) sc_law.nd rfl (by first | exact Or.inl rfl | exact Or.inr rfl) (pe_ix ix_seq (pv 2) (Z.pe_callO O__law_take (by rfl) (hr.mono (by decide)) pass0 (pa_cons (pv 1) (pa_cons (pe_callB Z.zLen (by rfl) T.b_len (by decide +kernel) (pa_cons (pv 2) pa_nil)) pa_nil))) (fun _ _ => rfl)))
      (pss_cons (ps_set (i := 9) sc_law.nd rfl (by first | exact Or.inl rfl | exact Or.inr rfl) (pe_ix ix_seq (pv 2) (Z.pe_callO O__law_take (by rfl) (hr.mono (by decide)) pass0 (pa_cons (pv 1) (pa_cons (pe_callB Z.zLen (by rfl) T.b_len (by decide +kernel) (pa_cons (pv 2) pa_nil)) pa_nil))) (fun _ _ => rfl)))
      (pss_cons (ps_if (PW.pt (pw_or (pt_not (Z.pt_truN (Z.pe_callO O__law_sums_right (by rfl) (hr.mono (by decide)) pass0 (pa_cons (pv 8) (pa_cons (pv 9) pa_nil))))) (pw_or (pt_not (Z.pt_truN (Z.pe_callO O__law_sums_right (by rfl) (hr.mono (by decide)) pass0 (pa_cons (pv 9) (pa_cons (pv 8) pa_nil))))) (pw_or1 (pt_not (Z.pt_truN (Z.pe_callO O__law_sums_right (by rfl) (hr.mono (by decide)) pass0 (pa_cons (pv 8) (pa_cons (pv 8) pa_nil)))))))))
        (pss_one (ps_ret pe_bl))
        pss_nil)
      (pss_cons (ps_set (i := 10) sc_law.nd rfl (by first | exact Or.inl rfl | exact Or.inr rfl) (pe_tup (pa_cons pe_int (pa_cons pe_int pa_nil))))
      (pss_cons (ps_set (i := 11) sc_law.nd rfl (by first | exact Or.inl rfl | exact Or.inr rfl) (pe_ix ix_seq (pv 2) pe_int (fun _ _ => rfl)))
      (pss_cons (ps_set (i := 12) sc_law.nd rfl (by first | exact Or.inl rfl | exact Or.inr rfl) (pe_ix ix_seq (pv 2) pe_int (fun _ _ => rfl)))
      (pss_cons (ps_for PassesOwn.never (by rfl) (Z.pi_seq (pv 2)) (pg_name (i := 13) sc_law.nd rfl (by first | exact Or.inl rfl | exact Or.inr rfl))
        (pss_cons (ps_set (i := 10) sc_law.nd rfl (by first | exact Or.inl rfl | exact Or.inr rfl) (Z.pe_callO O__law_lowest (by rfl) (hr.mono (by decide)) pass0 (pa_cons (pe_op Z.zAdd (pe_op Z.zMul (pe_ix ix_seq (pv 10) pe_int (fun _ _ => rfl)) (pe_ix ix_seq (pv 13) pe_int (fun _ _ => rfl))) (pe_op Z.zMul (pe_ix ix_seq (pv 13) pe_int (fun _ _ => rfl)) (pe_ix ix_seq (pv 10) pe_int (fun _ _ => rfl)))) (pa_cons (pe_op Z.zMul (pe_ix ix_seq (pv 10) pe_int (fun _ _ => rfl)) (pe_ix ix_seq (pv 13) pe_int (fun _ _ => rfl))) pa_nil))))
        (pss_cons (ps_if (pt_cmpR Z.zLt (pe_op Z.zMul (pe_ix ix_seq (pv 13) pe_int (fun _ _ => rfl)) (pe_ix ix_seq (pv 11) pe_int (fun _ _ => rfl))) (pe_op Z.zMul (pe_ix ix_seq (pv 11) pe_int (fun _ _ => rfl)) (pe_ix ix_seq (pv 13) pe_int (fun _ _ => rfl))) (nomark _))
          (pss_one (ps_set (i := 11) sc_law.nd rfl (by first | exact Or.inl rfl | exact Or.inr rfl) (pv 13)))
          pss_nil)
        (pss_one (ps_if (pt_cmpR Z.zGt (pe_op Z.zMul (pe_ix ix_seq (pv 13) pe_int (fun _ _ => rfl)) (pe_ix ix_seq (pv 12) pe_int (fun _ _ => rfl))) (pe_op Z.zMul (pe_ix ix_seq (pv 12) pe_int (fun _ _ => rfl)) (pe_ix ix_seq (pv 13) pe_int (fun _ _ => rfl))) (nomark _))
          (pss_one (ps_set (i := 12) sc_law.nd rfl (by first | exact Or.inl rfl | exact Or.inr rfl) (pv 13)))
          pss_nil)))))
      (pss_cons (ps_set (i := 14) sc_law.nd rfl (by first | exact Or.inl rfl | exact Or.inr rfl) (pe_callTy Z.zList (by rfl) T.b_list (by decide +kernel) (pa_cons (pv 2) pa_nil)))
      (pss_cons (ps_if (PW.pt (pw_or (pt_not (Z.pt_truN (Z.pe_callO O__law_is (by rfl) (hr.mono (by decide)) pass0 (pa_cons (Z.pe_callO O_sum_of (by rfl) (hr.mono (by decide)) pass0 (pa_cons (pv 14) pa_nil)) (pa_cons (pv 10) pa_nil))))) (pw_or (pt_not (Z.pt_truN (Z.pe_callO O__law_is (by rfl) (hr.mono (by decide)) pass0 (pa_cons (Z.pe_callO O_least_of (by rfl) (hr.mono (by decide)) pass0 (pa_cons (pv 14) pa_nil)) (pa_cons (pv 11) pa_nil))))) (pw_or1 (pt_not (Z.pt_truN (Z.pe_callO O__law_is (by rfl) (hr.mono (by decide)) pass0 (pa_cons (Z.pe_callO O_greatest_of (by rfl) (hr.mono (by decide)) pass0 (pa_cons (pv 14) pa_nil)) (pa_cons (pv 12) pa_nil)))))))))
        (pss_one (ps_ret pe_bl))
        pss_nil)
      (pss_cons (ps_if (PW.pt (pw_or (pt_cmpR (Z.zNe (Z.hu0 hr)) (pv 14) (pv 2) (nomark _)) (pw_or (pt_not (Z.pt_truN (Z.pe_callO O__law_is (by rfl) (hr.mono (by decide)) pass0 (pa_cons (Z.pe_callO O_sum_of (by rfl) (hr.mono (by decide)) pass0 (pa_cons (pe_lst pa_nil) pa_nil)) (pa_cons (pe_tup (pa_cons pe_int (pa_cons pe_int pa_nil))) pa_nil))))) (pw_or1 (pt_not (Z.pt_truN (Z.pe_callO O__law_is (by rfl) (hr.mono (by decide)) pass0 (pa_cons (Z.pe_callO O_least_of (by rfl) (hr.mono (by decide)) pass0 (pa_cons (pe_tup (pa_cons (pv 8) pa_nil)) pa_nil)) (pa_cons (pv 8) pa_nil)))))))))
        (pss_one (ps_ret pe_bl))
        pss_nil)
      (pss_one (ps_ret (pe_andT (Z.pe_callO O__law_things (by rfl) (hr.mono (by decide)) pass0 (pa_cons (pv 1) (pa_cons (pv 8) (pa_cons (pv 9) pa_nil)))) (pe_andT (Z.pe_callO O__law_texts (by rfl) (hr.mono (by decide)) pass0 (pa_cons (pv 1) (pa_cons (pv 8) pa_nil))) (pe_one (Z.pe_callO O__law_texts (by rfl) (hr.mono (by decide)) pass0 (pa_cons (pv 1) (pa_cons (pv 9) pa_nil))))))))))))))))))))))), ?_⟩
    try dsimp only [cxOf, Cx.nox, Cx.wish]
    refine Z.at_start (σ' := [some a, none, none, none, none, none, none, none, none, none, none, none, none, none, none]) rfl ?_
    obtain ⟨l, ns0, rfl, hS, hl, q⟩ := h
    walk_at "z"
    refine ⟨_, rfl, l, ns0, rfl, hS, hl, fun hp cp H1 F1 => ?_⟩
    walk_at "z"
    rename_i zp H2 F2 a H3 F3 fv H4 F4 f0 f1
    obtain ⟨n, n1, hn⟩ : ∃ n : Nat, n ≤ 6 ∧ 2 + fv = (n : Int) := ⟨(2 + fv).toNat, by omega, by omega⟩
    rw [hn]
    refine Z.wForW walk_range (fun i σ H' => ∃ (LL : List Z.En) (vs : List V) (rows : List (Int × Int)) (v3 v4 v5 v6 : Option V), σ = [some (.ref l), some (.ref hp), some (.ref a), v3, v4, v5, v6, none, none, none, none, none, none, none, none] ∧
        Z.Fx H' (.ob a (.lst vs) :: LL) ∧ Z.En.hand hp cp ∈ LL ∧ RowsM LL vs rows ∧ (∀ r ∈ rows, SmallR r) ∧ 1 ≤ rows.length ∧ rows.length ≤ i + 1) ?_ (fun _ _ _ _ _ => trivial) ?_ ?_
    · refine ⟨_, [.ref zp], [(0, 1)], none, none, none, none, rfl, F4, by walk_at "zm", ?_, ?_, by simp, by simp⟩
      · exact .cons ⟨zp, rfl, by walk_at "zm"⟩ .nil
      · intro r hr
        rw [List.mem_singleton.mp hr]
        refine ⟨?_, ?_, by decide, by decide⟩ <;> (unfold Sz; decide)
    · rintro i u σ H6 H7 hi ⟨LL, vs, rows, v3, v4, v5, v6, rfl, F5, mh, hrows, hsm, hl1, hl2⟩ ⟨rfl, rfl⟩
      walk_at "zg"
      refine Z.wSeq ?_
      walk_at "y"
      refine use__law_number F5 (.tail _ mh) fun t H8 st F8 => ?_
      walk_at "y"
      refine use__law_number F8 (.tail _ mh) fun b H9 sb F9 => ?_
      walk_at "y"
      refine use__law_made F9 (.int t) (.int b) (fun w hw v L1 H10 hs1 rf F10 => ?_) (fun t' b' e1 e2 e3 => ?_)
      · obtain ⟨rfl, rfl⟩ := ratioW_int hw
        walk_at "z"
        rename_i q5 H11 F11
        refine Z.wNeSame F11 (rf.le (.cons _ (.refl _))).dt (RefAt.dt ⟨q5, rfl, .head _⟩) (ref_ok _ (by decide +kernel)) ?_
        walk_at "z"
        refine use_make_ratio F11 (.int t) (.int 1) (fun w' hw' => absurd (ratioW_int hw').1 (by decide)) (fun t' d' e1' e2' _ => ?_)
        injection e1' with e1'
        injection e2' with e2'
        subst e1' e2'
        refine ⟨show Sz 4000 1 by unfold Sz; decide +kernel, fun r9 H20 F20 => ?_⟩
        walk_at "z"
        rename_i r10 H21 F21
        refine use__law_is F21 (a := lowT t 1) (b := lowB t 1) ⟨r9, rfl, .inl (by walk_at "zm")⟩ Z.Rt.head ?_
        rw [(low_one t).1, (low_one t).2, decide_eq_true (show t = t from rfl), decide_eq_true (show (1 : Int) = 1 from rfl)]
        walk_at "z"
        exact ⟨LL, vs, rows, _, _, _, _, rfl, F21.sub (.cons _ (.cons _ (.cons _ hs1))), mh, hrows, hsm, hl1, by omega⟩
      · injection e1 with e1
        injection e2 with e2
        subst e1 e2
        have sb4 : Sz 4000 b := sb.mono (by decide)
        refine ⟨sb4, fun r H10 F10 => ?_⟩
        walk_at "z"
        refine use__law_lowest e3 sb4 F10 fun r2 H11 F11 => ?_
        walk_at "z"
        refine use__law_is F11 (a := lowT t b) (b := lowB t b) ⟨r, rfl, .inl (by walk_at "zm")⟩ Z.Rt.head ?_
        rw [decide_eq_true (show lowT t b = lowT t b from rfl), decide_eq_true (show lowB t b = lowB t b from rfl)]
        walk_at "z"
        refine use__law_lowest e3 sb4 F11 fun r3 H12 F12 => ?_
        have hv := hrows.len
        have hv2 : vs.length < sizeLine := by have := Z.line_big; omega
        walk_at "z"
        refine Z.wApp F12 (by walk_at "zm") (Z.Put.tail (Z.Put.tail (Z.Put.tail Z.Put.head))) hv2 fun H13 F13 => ?_
        have F14 : Z.Fx H13 (.ob a (.lst (vs ++ [.ref r3])) :: .ob r3 (.tup [.int (lowT t b), .int (lowB t b)]) :: LL) :=
          (F13.sub (L' := .ob r3 (.tup [.int (lowT t b), .int (lowB t b)]) :: .ob a (.lst (vs ++ [.ref r3])) :: LL) (.cons₂ _ (.cons _ (.cons _ (.refl _))))).perm (List.Perm.swap _ _ _)
        walk_at "z"
        refine use_make_ratio F14 (.int t) (.int 1) (fun w' hw' => absurd (ratioW_int hw').1 (by decide)) (fun t' d' e1' e2' _ => ?_)
        injection e1' with e1'
        injection e2' with e2'
        subst e1' e2'
        refine ⟨show Sz 4000 1 by unfold Sz; decide +kernel, fun r9 H20 F20 => ?_⟩
        walk_at "z"
        rename_i r10 H21 F21
        refine use__law_is F21 (a := lowT t 1) (b := lowB t 1) ⟨r9, rfl, .inl (by walk_at "zm")⟩ Z.Rt.head ?_
        rw [(low_one t).1, (low_one t).2, decide_eq_true (show t = t from rfl), decide_eq_true (show (1 : Int) = 1 from rfl)]
        walk_at "z"
        refine ⟨.ob r3 (.tup [.int (lowT t b), .int (lowB t b)]) :: LL, _, rows ++ [(lowT t b, lowB t b)], _, _, _, _, rfl, F21.sub (.cons _ (.cons _ (.refl _))), .tail _ mh, (hrows.mono fun e m => .tail _ m).snoc (r := (lowT t b, lowB t b)) ⟨r3, rfl, .head _⟩, fun q hq => ?_, by simp, by rw [List.length_append]; simp; omega⟩
        rcases List.mem_append.mp
              hq with hq | hq
        · exact hsm q hq
        · rw [List.mem_singleton.mp
              hq]
          exact lowR_small st sb e3
    rintro σ H6 ⟨LL, vs, rows, v3, v4, v5, v6, rfl, F5, mh, hrows, hsm, hl1, hl2⟩
    walk_at "y"
    refine use__law_odd F5 (.tail _ mh) fun v N H7 od F7 => ?_
    walk_at "y"
    obtain ⟨⟨k, hk⟩, hin⟩ := odd_thing (L := .ob a (.lst vs) :: LL) od
    refine Z.wMidS (fun σ' H' => (∃ v7, σ' = [some (.ref l), some (.ref hp), some (.ref a), v3, v4, v5, v6, v7, none, none, none, none, none, none, none]) ∧ Z.Fx H' (.ob a (.lst vs) :: LL)) (fun N' hk' => ?_) ?_
    · walk_at "z"
      refine use__law_made F7 hk (.int 0) (fun w hw u1 L1 H8 hs1 rf1 F8 => ?_) (fun t' b' e1 e2 e3 => ?_)
      · obtain rfl := ratioW_top hin hw
        walk_at "z"
        rename_i q5 H9 F9
        refine Z.wNeSame F9 (rf1.le (.cons _ (.refl _))).dt (RefAt.dt ⟨q5, rfl, .head _⟩) (ref_ok _ (by decide +kernel)) ?_
        walk_at "z"
        refine use__law_made F9 (.int 3) (hk.mono fun e m => .tail _ (hs1.subset m)) (fun w hw u2 L2 H10 hs2 rf2 F10 => ?_) (fun t' b' e1 e2 e3 => ?_)
        · obtain rfl := ratioW_bottom hin hw
          walk_at "z"
          rename_i q6 H11 F11
          refine Z.wNeSame F11 (rf2.le (.cons _ (.refl _))).dt (RefAt.dt ⟨q6, rfl, .head _⟩) (ref_ok _ (by decide +kernel)) ?_
          walk_at "z"
          exact hk' _ _ ⟨⟨_, rfl⟩, F11.sub (.cons _ (((List.sublist_append_right N _).trans hs1).trans ((List.Sublist.cons _ (.refl _)).trans hs2)))⟩
        · subst e2
          exact absurd hin (by simp [Z.inB])
      · subst e1
        exact absurd hin (by simp [Z.inB])
    rintro _ H8 ⟨⟨v7, rfl⟩, F8⟩
    clear hk hin od F7
    have hv := hrows.len
    have hsq := fun {H' : Hp} (F : Z.Fx H' (.ob a (.lst vs) :: LL)) => F.lst (K := K) (a := a) (xs := vs) (.head _)
    have hvl : vs.length ≤ 8 := by
      have e : ((n : Nat) : Int).toNat = n := rfl
      omega
    walk_at "z"
    rename_i kv H9 F9 kv0 kv1
    obtain ⟨k8, hk8, rfl⟩ : ∃ k8 : Nat, k8 < vs.length ∧ kv = (k8 : Int) := ⟨kv.toNat, by omega, by omega⟩
    obtain ⟨p8, r8, e8, hr8, _, m8⟩ := hrows.get k8 hk8
    refine Z.wIxL (hsq F9) (atI_nat e8) ?_
    walk_at "z"
    rename_i kv' H10 F10 kv0' kv1'
    obtain ⟨k9, hk9, rfl⟩ : ∃ k9 : Nat, k9 < vs.length ∧ kv' = (k9 : Int) := ⟨kv'.toNat, by omega, by omega⟩
    obtain ⟨p9, r9, e9, hr9, _, m9⟩ := hrows.get k9 hk9
    refine Z.wIxL (hsq F10) (atI_nat e9) ?_
    walk_at "z"
    have x8 : Z.Rt K (.ob a (.lst vs) :: LL) (.ref p8) r8.1 r8.2 := ⟨p8, rfl, .inl (.tail _ m8)⟩
    have x9 : Z.Rt K (.ob a (.lst vs) :: LL) (.ref p9) r9.1 r9.2 := ⟨p9, rfl, .inl (.tail _ m9)⟩
    have s8 := hsm r8 hr8
    have s9 := hsm r9 hr9
    refine use__law_sums_right F10 x8 x9 s8 s9 fun L1 H11 hs1 F11 => ?_
    have F11 := F11.sub hs1
    walk_at "z"
    refine use__law_sums_right F11 x9 x8 s9 s8 fun L1 H12 hs2 F12 => ?_
    have F12 := F12.sub hs2
    walk_at "z"
    refine use__law_sums_right F12 x8 x8 s8 s8 fun L1 H13 hs3 F13 => ?_
    have F13 := F13.sub hs3
    obtain ⟨p0, r0, e0, hr0, g0, m0⟩ := hrows.get 0 (by omega)
    have a0 : atI vs 0 = some (.ref p0) := atI_nat (k := 0) e0
    have s0 := hsm r0 hr0
    walk_at "y"
    rename_i pt H14 F14
    walk_at "z"
    refine Z.wForLi F14 (by walk_at "zm") (fun i σ H' => ∃ (M2 : List Z.En) (qt ql qm : Addr) (rl rm : Int × Int) (v13 : Option V), σ = [some (.ref l), some (.ref hp), some (.ref a), v3, v4, v5, v6, v7, some (.ref p8), some (.ref p9), some (.ref qt), some (.ref ql), some (.ref qm), v13, none] ∧
      Z.Fx H' M2 ∧ (Z.En.ob a (.lst vs) :: LL).Sublist M2 ∧ Z.En.ob qt (.tup [.int (sumR (rows.take i)).1, .int (sumR (rows.take i)).2]) ∈ M2 ∧ Z.En.ob ql (.tup [.int rl.1, .int rl.2]) ∈ M2 ∧ Z.En.ob qm (.tup [.int rm.1, .int rm.2]) ∈ M2 ∧
      SmallR rl ∧ SmallR rm ∧ rl = (rows.take i).foldl lesR r0 ∧ rm = (rows.take i).foldl greR r0) ?_ ?_ ?_ ?_
    · exact ⟨_, pt, p0, p0, r0, r0, _, rfl, F14, .cons _ (.refl _), .head _, .tail _ (.tail _ m0), .tail _ (.tail _ m0), s0, s0, rfl, rfl⟩
    · rintro i σ H' ⟨M2, qt, ql, qm, rl, rm, v13, rfl, F', hs', _⟩
      exact ⟨M2, F', hs'.subset (.head _)⟩
    · rintro i x σ H' hx ⟨M2, qt, ql, qm, rl, rm, v13, rfl, F', hs', mt, ml, mm, sl, sm, el, em⟩
      obtain ⟨px, r, ex, hr', gr, mx⟩ := hrows.get i (List.getElem?_eq_some_iff.mp hx).1
      rw [hx] at ex
      injection ex with ex
      subst ex
      have sr := hsm r hr'
      have mx' := hs'.subset (List.mem_cons_of_mem _ mx)
      have hi := (List.getElem?_eq_some_iff.mp gr).1
      obtain ⟨ba, bb, bc⟩ := sumR_ok hsm i (by omega)
      generalize eT : sumR (rows.take i) = T at *
      have ba := ba.mono (l := 1000) (by omega)
      have bb := bb.mono (l := 1000) (by omega)
      have c1 : L2.CMulW T.1 r.2 := ratio_mul ba sr.2.1
      have c2 : L2.CMulW r.1 T.2 := ratio_mul sr.1 bb
      have c3 : L2.CMulW T.2 r.2 := ratio_mul bb sr.2.1
      have c4 : L2.CMulW r.1 rl.2 := ratio_mul sr.1 sl.2.1
      have c5 : L2.CMulW rl.1 r.2 := ratio_mul sl.1 sr.2.1
      have c6 : L2.CMulW r.1 rm.2 := ratio_mul sr.1 sm.2.1
      have c7 : L2.CMulW rm.1 r.2 := ratio_mul sm.1 sr.2.1
      have t0 : T.2 * r.2 ≠ 0 := Int.mul_ne_zero (by omega) (by have := sr.2.2.1; omega)
      have b4 : Sz 4000 (T.2 * r.2) := (bb.mul sr.2.1).mono (by decide)
      walk_at "z"
      refine use__law_lowest t0 b4 F' fun q2 H2 F2 => ?_
      have st := sumR_step gr
      rw [eT] at st
      have fl : (rows.take (i + 1)).foldl lesR r0 = lesR rl r := by rw [fold_step gr, ← el]
      have fm : (rows.take (i + 1)).foldl greR r0 = greR rm r := by rw [fold_step gr, ← em]
      walk_at "z"
      refine Z.wIfD (fun h => ?_) (fun h => ?_) <;> walk_at "z" <;> refine Z.wIfD (fun h2 => ?_) (fun h2 => ?_) <;> walk_at "z"
      · exact ⟨_, q2, px, px, r, r, _, rfl, F2, .cons _ hs', by rw [st]; exact .head _, .tail _ mx', .tail _ mx', sr, sr, by rw [fl, les_if, if_pos h], by rw [fm, gre_if, if_pos h2]⟩
      · exact ⟨_, q2, px, qm, r, rm, _, rfl, F2, .cons _ hs', by rw [st]; exact .head _, .tail _ mx', .tail _ mm, sr, sm, by rw [fl, les_if, if_pos h], by rw [fm, gre_if, if_neg h2]⟩
      · exact ⟨_, q2, ql, px, rl, r, _, rfl, F2, .cons _ hs', by rw [st]; exact .head _, .tail _ ml, .tail _ mx', sl, sr, by rw [fl, les_if, if_neg h], by rw [fm, gre_if, if_pos h2]⟩
      · exact ⟨_, q2, ql, qm, rl, rm, _, rfl, F2, .cons _ hs', by rw [st]; exact .head _, .tail _ ml, .tail _ mm, sl, sm, by rw [fl, les_if, if_neg h], by rw [fm, gre_if, if_neg h2]⟩
    rintro σ H15 ⟨M2, qt, ql, qm, rl, rm, v13, rfl, F15, hs', mt, ml, mm, sl, sm, el, em⟩
    have hrl : rows.take vs.length = rows := by rw [hv, List.take_length]
    rw [hrl] at mt el em
    have el : rl = lstR rows := by rw [el]; exact fold_all g0 (by rw [les_if, if_neg (by omega)])
    have em : rm = grtR rows := by rw [em]; exact fold_all g0 (by rw [gre_if, if_neg (by omega)])
    have mrow := hs'.subset (List.Mem.head _)
    walk_at "z"
    rename_i g H16 F16
    have hrows2 : RowsM (.ob g (.lst vs) :: M2) vs rows := hrows.mono fun e m => .tail _ (hs'.subset (.tail _ m))
    refine use_sum_of F16 (.lst (.head _)) hrows2.al hsm (by omega) fun v L1 H17 hs4 rt F17 => ?_
    walk_at "z"
    refine use__law_is F17 rt ⟨qt, rfl, .inl (hs4.subset (.tail _ mt))⟩ ?_
    rw [decide_eq_true (show (sumR rows).1 = (sumR rows).1 from rfl), decide_eq_true (show (sumR rows).2 = (sumR rows).2 from rfl)]
    walk_at "z"
    have F17 := F17.sub hs4
    refine use_least_of F17 (.lst (.head _)) hrows2.al hsm (by omega) (by omega) fun v H18 N rt F18 => ?_
    walk_at "z"
    refine use__law_is F18 rt ⟨ql, rfl, .inl (List.mem_append_right _ (.tail _ ml))⟩ ?_
    rw [← el, decide_eq_true (show rl.1 = rl.1 from rfl), decide_eq_true (show rl.2 = rl.2 from rfl)]
    walk_at "z"
    have F18 := F18.sub (List.sublist_append_right N _)
    refine use_greatest_of F18 (.lst (.head _)) hrows2.al hsm (by omega) (by omega) fun v H19 N rt F19 => ?_
    walk_at "z"
    refine use__law_is F19 rt ⟨qm, rfl, .inl (List.mem_append_right _ (.tail _ mm))⟩ ?_
    rw [← em, decide_eq_true (show rm.1 = rm.1 from rfl), decide_eq_true (show rm.2 = rm.2 from rfl)]
    walk_at "z"
    have F19 := F19.sub (List.sublist_append_right N _)
    refine Z.wNeSame F19 (.lst (.head _) hrows2.dt) (.lst (.tail _ mrow) hrows2.dt) (rows_ok rows) ?_
    walk_at "z"
    rename_i g2 H20 F20
    refine use_sum_of F20 (vs := []) (rows := []) (.lst (.head _)) .nil (fun r h => nomatch h) (by simp) fun v L1 H21 hs5 rt F21 => ?_
    walk_at "z"
    rename_i q7 H22 F22
    refine use__law_is F22 (rt.le (.cons _ (.refl _))) Z.Rt.head ?_
    rw [show (sumR []).1 = 0 from rfl, show (sumR []).2 = 1 from rfl, decide_eq_true (show (0 : Int) = 0 from rfl), decide_eq_true (show (1 : Int) = 1 from rfl)]
    walk_at "z"
    rename_i q8 H23 F23
    have F23 := F23.sub (L' := .ob q8 (.tup [.ref p8]) :: M2) (.cons₂ _ (.cons _ ((List.Sublist.cons _ (.cons _ (.refl _))).trans hs5)))
    have m8' := hs'.subset (List.mem_cons_of_mem (Z.En.ob a (.lst vs)) m8)
    have m9' := hs'.subset (List.mem_cons_of_mem (Z.En.ob a (.lst vs)) m9)
    have mh' := hs'.subset (List.mem_cons_of_mem (Z.En.ob a (.lst vs)) mh)
    have one8 : RowsM (.ob q8 (.tup [.ref p8]) :: M2) [.ref p8] [r8] := .cons ⟨p8, rfl, .tail _ m8'⟩ .nil
    refine use_least_of F23 (.tup (.head _)) one8.al (fun r h => by rw [List.mem_singleton.mp h]; exact s8) (by simp) (by simp) fun v H24 N rt F24 => ?_
    walk_at "z"
    refine use__law_is F24 rt ⟨p8, rfl, .inl (List.mem_append_right _ (.tail _ m8'))⟩ ?_
    rw [show lstR [r8] = r8 from rfl, decide_eq_true (show r8.1 = r8.1 from rfl), decide_eq_true (show r8.2 = r8.2 from rfl)]
    walk_at "z"
    have F24 := F24.sub ((List.Sublist.cons _ (.refl M2)).trans (List.sublist_append_right N _))
    refine use__law_things F24 mh' ⟨p8, rfl, .inl m8'⟩ ⟨p9, rfl, .inl m9'⟩ s8 s9 fun L1 H25 hs6 F25 => ?_
    walk_at "z"
    refine use__law_texts F25 (hs6.subset mh') (hs6.subset m8') s8 fun L3 H26 hs7 F26 => ?_
    walk_at "z"
    refine use__law_texts F26 (hs7.subset (hs6.subset mh')) (hs7.subset (hs6.subset m9')) s9 fun L4 H27 hs8 F27 => ?_
    exact q _
theorem ok_law (T : Txt K mg c_BadRatio c_ONE c_ZERO) : Z.Ok CX0 P w K mg base "law" 6 ["_law_script"] [] (sp_law K) := by
  obtain ⟨f, fd, F, g⟩ := T.d_law
  exact Z.mkOk F g (F.binds (ps := ["_law_script"]) fun _ _ _ _ _ _ us hl => match us, hl with | [_], _ => rfl) (fn_law T F)
end
section
open PyProof.Rows
theorem all_facts {l : PySem.W.OpenLaw} {w : World} {K : PySem.W.Frag} {h : Heap} {mg : Str → Option Value} {fa : Addr} (X : K.In h) (G : h.Ns mainGlobals mg)
    (hfa : mg "law" = some (.ref fa))
    {c_BadRatio N_BadRatio c_ONE c_ZERO f0 f1 f2 f3 f4 f5 f6 f7 f8 f9 f10 f11 f12 f13 f14 f15 f16 f17 f18 f19 f20 f21 f22 f23 f24 f25 f26 f27 f28 f29 f30 f31 f32 f33 f34 : Addr} {ok_ONE ok_ZERO od0 an0 od1 an1 od2 an2 od3 an3 od4 an4 od5 an5 od6 an6 od7 an7 od8 an8 od9 an9 od10 an10 od11 an11 od12 an12 od13 an13 od14 an14 od15 an15 od16 an16 od17 an17 od18 an18 od19 an19 od20 an20 od21 an21 od22 an22 od23 an23 od24 an24 od25 an25 od26 an26 od27 an27 od28 an28 od29 an29 od30 an30 od31 an31 od32 an32 od33 an33 od34 an34 : Option Addr} {ks_ONE ks_ZERO sl0 sl1 sl2 sl3 sl4 sl5 sl6 sl7 sl8 sl9 sl10 sl11 sl12 sl13 sl14 sl15 sl16 sl17 sl18 sl19 sl20 sl21 sl22 sl23 sl24 sl25 sl26 sl27 sl28 sl29 sl30 sl31 sl32 sl33 sl34 : Array (Option Value)}
    {oc0 kV0 dc0 pm0 cd0 ct0 oc1 kV1 dc1 pm1 cd1 ct1 oc2 kV2 dc2 pm2 cd2 ct2 oc3 kV3 dc3 pm3 cd3 ct3 oc4 kV4 dc4 pm4 cd4 ct4 oc5 kV5 dc5 pm5 cd5 ct5 oc6 kV6 dc6 pm6 cd6 ct6 dV6 oc7 kV7 dc7 pm7 cd7 ct7 dV7 oc8 kV8 dc8 pm8 cd8 ct8 oc9 kV9 dc9 pm9 cd9 ct9 oc10 kV10 dc10 pm10 cd10 ct10 oc11 kV11 dc11 pm11 cd11 ct11 oc12 kV12 dc12 pm12 cd12 ct12 oc13 kV13 dc13 pm13 cd13 ct13 oc14 kV14 dc14 pm14 cd14 ct14 oc15 kV15 dc15 pm15 cd15 ct15 oc16 kV16 dc16 pm16 cd16 ct16 oc17 kV17 dc17 pm17 cd17 ct17 oc18 kV18 dc18 pm18 cd18 ct18 oc19 kV19 dc19 pm19 cd19 ct19 oc20 kV20 dc20 pm20 cd20 ct20 oc21 kV21 dc21 pm21 cd21 ct21 oc22 kV22 dc22 pm22 cd22 ct22 oc23 kV23 dc23 pm23 cd23 ct23 oc24 kV24 dc24 pm24 cd24 ct24 oc25 kV25 dc25 pm25 cd25 ct25 oc26 kV26 dc26 pm26 cd26 ct26 oc27 kV27 dc27 pm27 cd27 ct27 oc28 kV28 dc28 pm28 cd28 ct28 oc29 kV29 dc29 pm29 cd29 ct29 oc30 kV30 dc30 pm30 cd30 ct30 oc31 kV31 dc31 pm31 cd31 ct31 oc32 kV32 dc32 pm32 cd32 ct32 oc33 kV33 dc33 pm33 cd33 ct33 oc34 kV34 dc34 pm34 cd34 ct34 : Value}
    {nm_BadRatio : Str} {qq_BadRatio : Str} {bs_BadRatio : List Value} {bm_BadRatio : List Value} {sn_BadRatio : List Str} {sub_BadRatio : List Value} {ab_BadRatio : Bool} {col_BadRatio : Option Bool} {dd_BadRatio : Option Addr} {m0_BadRatio : Option Value} {m1_BadRatio : Option Value} {m2_BadRatio : Option Value} {m3_BadRatio : Option Value} {m5_BadRatio : Option Value} {ki_ONE : Array Value} {kn_ONE : Nat} {ki_ZERO : Array Value} {kn_ZERO : Nat}
    (g_BadRatio : PySem.W.nsIn K mainGlobals "BadRatio" = some (some (.ref c_BadRatio)))
    (xL_BadRatio : K.lookup c_BadRatio = some (excClassObj nm_BadRatio qq_BadRatio c_BadRatio N_BadRatio bs_BadRatio bm_BadRatio true sn_BadRatio sub_BadRatio ab_BadRatio col_BadRatio dd_BadRatio m0_BadRatio m1_BadRatio m2_BadRatio m3_BadRatio m5_BadRatio "ValueError.__new__"))
    (rv_BadRatio : PySem.HandSPX.refsVE bm_BadRatio = true)
    (sa_BadRatio : PySem.W.findIn K (.ref c_BadRatio) "__setattr__" = some (some (.builtin "object.__setattr__")))
    (ex_BadRatio : PySem.W.subIn K (.ref c_BadRatio) (.type "BaseException") = some true)
    (ty_BadRatio : PySem.W.typeIn K (.ref c_BadRatio) = some (.type "type"))
    (kc_BadRatio : PySem.W.keepIn K (.ref c_BadRatio) = true)
    (ga_BadRatio : PySem.W.findIn K (.ref c_BadRatio) "__getattribute__" = some (some (.builtin "BaseException.__getattribute__")))
    (gg_BadRatio : PySem.W.findIn K (.ref c_BadRatio) "__getattr__" = some none)
    (hd_BadRatio : PySem.W.hasDictIn K c_BadRatio = true)
    (ic_BadRatio : PySem.W.isClsIn K c_BadRatio = true)
    (ss_BadRatio : PySem.W.subIn K (.ref c_BadRatio) (.ref c_BadRatio) = some true)
    (n_BadRatio_what : PySem.W.findIn K (.ref c_BadRatio) "what" = some none)
    (kg_ONE : PySem.W.nsIn K mainGlobals "ONE" = some (some (.ref c_ONE)))
    (kl_ONE : K.lookup c_ONE = some ⟨.type "tuple", ok_ONE, .seq ki_ONE kn_ONE, ks_ONE⟩)
    (kc_ONE : Z.constI ki_ONE.toList [1, 1] = true)
    (kz_ONE : ki_ONE.size ≤ 100)
    (kg_ZERO : PySem.W.nsIn K mainGlobals "ZERO" = some (some (.ref c_ZERO)))
    (kl_ZERO : K.lookup c_ZERO = some ⟨.type "tuple", ok_ZERO, .seq ki_ZERO kn_ZERO, ks_ZERO⟩)
    (kc_ZERO : Z.constI ki_ZERO.toList [0, 1] = true)
    (kz_ZERO : ki_ZERO.size ≤ 100)
    (z_abs : PySem.W.nsIn K mainGlobals "abs" = some none)
    (z_all : PySem.W.nsIn K mainGlobals "all" = some none)
    (z_bool : PySem.W.nsIn K mainGlobals "bool" = some none)
    (z_int : PySem.W.nsIn K mainGlobals "int" = some none)
    (z_isinstance : PySem.W.nsIn K mainGlobals "isinstance" = some none)
    (z_len : PySem.W.nsIn K mainGlobals "len" = some none)
    (z_list : PySem.W.nsIn K mainGlobals "list" = some none)
    (z_range : PySem.W.nsIn K mainGlobals "range" = some none)
    (z_str : PySem.W.nsIn K mainGlobals "str" = some none)
    (z_tuple : PySem.W.nsIn K mainGlobals "tuple" = some none)
    (zi_gcd : PySem.W.nsIn K mainGlobals "gcd" = some (some (.builtin "math.gcd")))
    (a0 : PySem.W.nsIn K mainGlobals "_law_mixed" = some (some (.ref f0)))
    (l0 : K.lookup f0 = some ⟨oc0, od0, .func (PySem.W.fnOf "_law_mixed" "_law_mixed" (defArgs s__law_mixed) (defBody s__law_mixed) (defScope s__law_mixed) .none kV0 dc0 pm0 an0 cd0 ct0), sl0⟩)
    (c0 : PySem.W.codeIn K cd0 "_law_mixed" = true)
    (k0 : PySem.W.keepIn K (.ref f0) = true)
    (a1 : PySem.W.nsIn K mainGlobals "_law_take" = some (some (.ref f1)))
    (l1 : K.lookup f1 = some ⟨oc1, od1, .func (PySem.W.fnOf "_law_take" "_law_take" (defArgs s__law_take) (defBody s__law_take) (defScope s__law_take) .none kV1 dc1 pm1 an1 cd1 ct1), sl1⟩)
    (c1 : PySem.W.codeIn K cd1 "_law_take" = true)
    (k1 : PySem.W.keepIn K (.ref f1) = true)
    (a2 : PySem.W.nsIn K mainGlobals "_law_great" = some (some (.ref f2)))
    (l2 : K.lookup f2 = some ⟨oc2, od2, .func (PySem.W.fnOf "_law_great" "_law_great" (defArgs s__law_great) (defBody s__law_great) (defScope s__law_great) .none kV2 dc2 pm2 an2 cd2 ct2), sl2⟩)
    (c2 : PySem.W.codeIn K cd2 "_law_great" = true)
    (k2 : PySem.W.keepIn K (.ref f2) = true)
    (a3 : PySem.W.nsIn K mainGlobals "_lowest" = some (some (.ref f3)))
    (l3 : K.lookup f3 = some ⟨oc3, od3, .func (PySem.W.fnOf "_lowest" "_lowest" (defArgs s__lowest) (defBody s__lowest) (defScope s__lowest) .none kV3 dc3 pm3 an3 cd3 ct3), sl3⟩)
    (c3 : PySem.W.codeIn K cd3 "_lowest" = true)
    (k3 : PySem.W.keepIn K (.ref f3) = true)
    (a4 : PySem.W.nsIn K mainGlobals "_law_number" = some (some (.ref f4)))
    (l4 : K.lookup f4 = some ⟨oc4, od4, .func (PySem.W.fnOf "_law_number" "_law_number" (defArgs s__law_number) (defBody s__law_number) (defScope s__law_number) .none kV4 dc4 pm4 an4 cd4 ct4), sl4⟩)
    (c4 : PySem.W.codeIn K cd4 "_law_number" = true)
    (k4 : PySem.W.keepIn K (.ref f4) = true)
    (a5 : PySem.W.findIn K (.ref c_BadRatio) "__init__" = some (some (.ref f5)))
    (l5 : K.lookup f5 = some ⟨oc5, od5, .func (PySem.W.fnOf "__init__" "BadRatio.__init__" (defArgs s_BadRatio___init__) (defBody s_BadRatio___init__) (defScope s_BadRatio___init__) .none kV5 dc5 pm5 an5 cd5 ct5), sl5⟩)
    (c5 : PySem.W.codeIn K cd5 "BadRatio.__init__" = true)
    (k5 : PySem.W.keepIn K (.ref f5) = true)
    (t5 : PySem.W.typeIn K (.ref f5) = some (.type "function"))
    (a6 : PySem.W.nsIn K mainGlobals "is_whole" = some (some (.ref f6)))
    (l6 : K.lookup f6 = some ⟨oc6, od6, .func (PySem.W.fnOf "is_whole" "is_whole" (defArgs s_is_whole) (defBody s_is_whole) (defScope s_is_whole) dV6 kV6 dc6 pm6 an6 cd6 ct6), sl6⟩)
    (c6 : PySem.W.codeIn K cd6 "is_whole" = true)
    (k6 : PySem.W.keepIn K (.ref f6) = true)
    (v6 : He.dflB K dV6 [.non, .non] = true)
    (a7 : PySem.W.nsIn K mainGlobals "make_ratio" = some (some (.ref f7)))
    (l7 : K.lookup f7 = some ⟨oc7, od7, .func (PySem.W.fnOf "make_ratio" "make_ratio" (defArgs s_make_ratio) (defBody s_make_ratio) (defScope s_make_ratio) dV7 kV7 dc7 pm7 an7 cd7 ct7), sl7⟩)
    (c7 : PySem.W.codeIn K cd7 "make_ratio" = true)
    (k7 : PySem.W.keepIn K (.ref f7) = true)
    (v7 : He.dflB K dV7 [.int 1] = true)
    (a8 : PySem.W.nsIn K mainGlobals "_law_made" = some (some (.ref f8)))
    (l8 : K.lookup f8 = some ⟨oc8, od8, .func (PySem.W.fnOf "_law_made" "_law_made" (defArgs s__law_made) (defBody s__law_made) (defScope s__law_made) .none kV8 dc8 pm8 an8 cd8 ct8), sl8⟩)
    (c8 : PySem.W.codeIn K cd8 "_law_made" = true)
    (k8 : PySem.W.keepIn K (.ref f8) = true)
    (a9 : PySem.W.nsIn K mainGlobals "_law_gcd" = some (some (.ref f9)))
    (l9 : K.lookup f9 = some ⟨oc9, od9, .func (PySem.W.fnOf "_law_gcd" "_law_gcd" (defArgs s__law_gcd) (defBody s__law_gcd) (defScope s__law_gcd) .none kV9 dc9 pm9 an9 cd9 ct9), sl9⟩)
    (c9 : PySem.W.codeIn K cd9 "_law_gcd" = true)
    (k9 : PySem.W.keepIn K (.ref f9) = true)
    (a10 : PySem.W.nsIn K mainGlobals "_law_lowest" = some (some (.ref f10)))
    (l10 : K.lookup f10 = some ⟨oc10, od10, .func (PySem.W.fnOf "_law_lowest" "_law_lowest" (defArgs s__law_lowest) (defBody s__law_lowest) (defScope s__law_lowest) .none kV10 dc10 pm10 an10 cd10 ct10), sl10⟩)
    (c10 : PySem.W.codeIn K cd10 "_law_lowest" = true)
    (k10 : PySem.W.keepIn K (.ref f10) = true)
    (a11 : PySem.W.nsIn K mainGlobals "_law_whole" = some (some (.ref f11)))
    (l11 : K.lookup f11 = some ⟨oc11, od11, .func (PySem.W.fnOf "_law_whole" "_law_whole" (defArgs s__law_whole) (defBody s__law_whole) (defScope s__law_whole) .none kV11 dc11 pm11 an11 cd11 ct11), sl11⟩)
    (c11 : PySem.W.codeIn K cd11 "_law_whole" = true)
    (k11 : PySem.W.keepIn K (.ref f11) = true)
    (a12 : PySem.W.nsIn K mainGlobals "_law_is" = some (some (.ref f12)))
    (l12 : K.lookup f12 = some ⟨oc12, od12, .func (PySem.W.fnOf "_law_is" "_law_is" (defArgs s__law_is) (defBody s__law_is) (defScope s__law_is) .none kV12 dc12 pm12 an12 cd12 ct12), sl12⟩)
    (c12 : PySem.W.codeIn K cd12 "_law_is" = true)
    (k12 : PySem.W.keepIn K (.ref f12) = true)
    (a13 : PySem.W.nsIn K mainGlobals "_law_odd" = some (some (.ref f13)))
    (l13 : K.lookup f13 = some ⟨oc13, od13, .func (PySem.W.fnOf "_law_odd" "_law_odd" (defArgs s__law_odd) (defBody s__law_odd) (defScope s__law_odd) .none kV13 dc13 pm13 an13 cd13 ct13), sl13⟩)
    (c13 : PySem.W.codeIn K cd13 "_law_odd" = true)
    (k13 : PySem.W.keepIn K (.ref f13) = true)
    (a14 : PySem.W.nsIn K mainGlobals "over" = some (some (.ref f14)))
    (l14 : K.lookup f14 = some ⟨oc14, od14, .func (PySem.W.fnOf "over" "over" (defArgs s_over) (defBody s_over) (defScope s_over) .none kV14 dc14 pm14 an14 cd14 ct14), sl14⟩)
    (c14 : PySem.W.codeIn K cd14 "over" = true)
    (k14 : PySem.W.keepIn K (.ref f14) = true)
    (a15 : PySem.W.nsIn K mainGlobals "_law_over" = some (some (.ref f15)))
    (l15 : K.lookup f15 = some ⟨oc15, od15, .func (PySem.W.fnOf "_law_over" "_law_over" (defArgs s__law_over) (defBody s__law_over) (defScope s__law_over) .none kV15 dc15 pm15 an15 cd15 ct15), sl15⟩)
    (c15 : PySem.W.codeIn K cd15 "_law_over" = true)
    (k15 : PySem.W.keepIn K (.ref f15) = true)
    (a16 : PySem.W.nsIn K mainGlobals "plus" = some (some (.ref f16)))
    (l16 : K.lookup f16 = some ⟨oc16, od16, .func (PySem.W.fnOf "plus" "plus" (defArgs s_plus) (defBody s_plus) (defScope s_plus) .none kV16 dc16 pm16 an16 cd16 ct16), sl16⟩)
    (c16 : PySem.W.codeIn K cd16 "plus" = true)
    (k16 : PySem.W.keepIn K (.ref f16) = true)
    (a17 : PySem.W.nsIn K mainGlobals "negative" = some (some (.ref f17)))
    (l17 : K.lookup f17 = some ⟨oc17, od17, .func (PySem.W.fnOf "negative" "negative" (defArgs s_negative) (defBody s_negative) (defScope s_negative) .none kV17 dc17 pm17 an17 cd17 ct17), sl17⟩)
    (c17 : PySem.W.codeIn K cd17 "negative" = true)
    (k17 : PySem.W.keepIn K (.ref f17) = true)
    (a18 : PySem.W.nsIn K mainGlobals "minus" = some (some (.ref f18)))
    (l18 : K.lookup f18 = some ⟨oc18, od18, .func (PySem.W.fnOf "minus" "minus" (defArgs s_minus) (defBody s_minus) (defScope s_minus) .none kV18 dc18 pm18 an18 cd18 ct18), sl18⟩)
    (c18 : PySem.W.codeIn K cd18 "minus" = true)
    (k18 : PySem.W.keepIn K (.ref f18) = true)
    (a19 : PySem.W.nsIn K mainGlobals "times" = some (some (.ref f19)))
    (l19 : K.lookup f19 = some ⟨oc19, od19, .func (PySem.W.fnOf "times" "times" (defArgs s_times) (defBody s_times) (defScope s_times) .none kV19 dc19 pm19 an19 cd19 ct19), sl19⟩)
    (c19 : PySem.W.codeIn K cd19 "times" = true)
    (k19 : PySem.W.keepIn K (.ref f19) = true)
    (a20 : PySem.W.nsIn K mainGlobals "compare" = some (some (.ref f20)))
    (l20 : K.lookup f20 = some ⟨oc20, od20, .func (PySem.W.fnOf "compare" "compare" (defArgs s_compare) (defBody s_compare) (defScope s_compare) .none kV20 dc20 pm20 an20 cd20 ct20), sl20⟩)
    (c20 : PySem.W.codeIn K cd20 "compare" = true)
    (k20 : PySem.W.keepIn K (.ref f20) = true)
    (a21 : PySem.W.nsIn K mainGlobals "sum_of" = some (some (.ref f21)))
    (l21 : K.lookup f21 = some ⟨oc21, od21, .func (PySem.W.fnOf "sum_of" "sum_of" (defArgs s_sum_of) (defBody s_sum_of) (defScope s_sum_of) .none kV21 dc21 pm21 an21 cd21 ct21), sl21⟩)
    (c21 : PySem.W.codeIn K cd21 "sum_of" = true)
    (k21 : PySem.W.keepIn K (.ref f21) = true)
    (a22 : PySem.W.nsIn K mainGlobals "_law_sums_right" = some (some (.ref f22)))
    (l22 : K.lookup f22 = some ⟨oc22, od22, .func (PySem.W.fnOf "_law_sums_right" "_law_sums_right" (defArgs s__law_sums_right) (defBody s__law_sums_right) (defScope s__law_sums_right) .none kV22 dc22 pm22 an22 cd22 ct22), sl22⟩)
    (c22 : PySem.W.codeIn K cd22 "_law_sums_right" = true)
    (k22 : PySem.W.keepIn K (.ref f22) = true)
    (a23 : PySem.W.nsIn K mainGlobals "is_ratio" = some (some (.ref f23)))
    (l23 : K.lookup f23 = some ⟨oc23, od23, .func (PySem.W.fnOf "is_ratio" "is_ratio" (defArgs s_is_ratio) (defBody s_is_ratio) (defScope s_is_ratio) .none kV23 dc23 pm23 an23 cd23 ct23), sl23⟩)
    (c23 : PySem.W.codeIn K cd23 "is_ratio" = true)
    (k23 : PySem.W.keepIn K (.ref f23) = true)
    (a24 : PySem.W.nsIn K mainGlobals "_law_unlike" = some (some (.ref f24)))
    (l24 : K.lookup f24 = some ⟨oc24, od24, .func (PySem.W.fnOf "_law_unlike" "_law_unlike" (defArgs s__law_unlike) (defBody s__law_unlike) (defScope s__law_unlike) .none kV24 dc24 pm24 an24 cd24 ct24), sl24⟩)
    (c24 : PySem.W.codeIn K cd24 "_law_unlike" = true)
    (k24 : PySem.W.keepIn K (.ref f24) = true)
    (a25 : PySem.W.nsIn K mainGlobals "_law_things" = some (some (.ref f25)))
    (l25 : K.lookup f25 = some ⟨oc25, od25, .func (PySem.W.fnOf "_law_things" "_law_things" (defArgs s__law_things) (defBody s__law_things) (defScope s__law_things) .none kV25 dc25 pm25 an25 cd25 ct25), sl25⟩)
    (c25 : PySem.W.codeIn K cd25 "_law_things" = true)
    (k25 : PySem.W.keepIn K (.ref f25) = true)
    (a26 : PySem.W.nsIn K mainGlobals "least_of" = some (some (.ref f26)))
    (l26 : K.lookup f26 = some ⟨oc26, od26, .func (PySem.W.fnOf "least_of" "least_of" (defArgs s_least_of) (defBody s_least_of) (defScope s_least_of) .none kV26 dc26 pm26 an26 cd26 ct26), sl26⟩)
    (c26 : PySem.W.codeIn K cd26 "least_of" = true)
    (k26 : PySem.W.keepIn K (.ref f26) = true)
    (a27 : PySem.W.nsIn K mainGlobals "greatest_of" = some (some (.ref f27)))
    (l27 : K.lookup f27 = some ⟨oc27, od27, .func (PySem.W.fnOf "greatest_of" "greatest_of" (defArgs s_greatest_of) (defBody s_greatest_of) (defScope s_greatest_of) .none kV27 dc27 pm27 an27 cd27 ct27), sl27⟩)
    (c27 : PySem.W.codeIn K cd27 "greatest_of" = true)
    (k27 : PySem.W.keepIn K (.ref f27) = true)
    (a28 : PySem.W.nsIn K mainGlobals "_law_hand" = some (some (.ref f28)))
    (l28 : K.lookup f28 = some ⟨oc28, od28, .func (PySem.W.fnOf "_law_hand" "_law_hand" (defArgs s__law_hand) (defBody s__law_hand) (defScope s__law_hand) .none kV28 dc28 pm28 an28 cd28 ct28), sl28⟩)
    (c28 : PySem.W.codeIn K cd28 "_law_hand" = true)
    (k28 : PySem.W.keepIn K (.ref f28) = true)
    (a29 : PySem.W.nsIn K mainGlobals "are_figures" = some (some (.ref f29)))
    (l29 : K.lookup f29 = some ⟨oc29, od29, .func (PySem.W.fnOf "are_figures" "are_figures" (defArgs s_are_figures) (defBody s_are_figures) (defScope s_are_figures) .none kV29 dc29 pm29 an29 cd29 ct29), sl29⟩)
    (c29 : PySem.W.codeIn K cd29 "are_figures" = true)
    (k29 : PySem.W.keepIn K (.ref f29) = true)
    (a30 : PySem.W.nsIn K mainGlobals "ratio_text" = some (some (.ref f30)))
    (l30 : K.lookup f30 = some ⟨oc30, od30, .func (PySem.W.fnOf "ratio_text" "ratio_text" (defArgs s_ratio_text) (defBody s_ratio_text) (defScope s_ratio_text) .none kV30 dc30 pm30 an30 cd30 ct30), sl30⟩)
    (c30 : PySem.W.codeIn K cd30 "ratio_text" = true)
    (k30 : PySem.W.keepIn K (.ref f30) = true)
    (a31 : PySem.W.nsIn K mainGlobals "ratio_of" = some (some (.ref f31)))
    (l31 : K.lookup f31 = some ⟨oc31, od31, .func (PySem.W.fnOf "ratio_of" "ratio_of" (defArgs s_ratio_of) (defBody s_ratio_of) (defScope s_ratio_of) .none kV31 dc31 pm31 an31 cd31 ct31), sl31⟩)
    (c31 : PySem.W.codeIn K cd31 "ratio_of" = true)
    (k31 : PySem.W.keepIn K (.ref f31) = true)
    (a32 : PySem.W.nsIn K mainGlobals "_law_read" = some (some (.ref f32)))
    (l32 : K.lookup f32 = some ⟨oc32, od32, .func (PySem.W.fnOf "_law_read" "_law_read" (defArgs s__law_read) (defBody s__law_read) (defScope s__law_read) .none kV32 dc32 pm32 an32 cd32 ct32), sl32⟩)
    (c32 : PySem.W.codeIn K cd32 "_law_read" = true)
    (k32 : PySem.W.keepIn K (.ref f32) = true)
    (a33 : PySem.W.nsIn K mainGlobals "_law_texts" = some (some (.ref f33)))
    (l33 : K.lookup f33 = some ⟨oc33, od33, .func (PySem.W.fnOf "_law_texts" "_law_texts" (defArgs s__law_texts) (defBody s__law_texts) (defScope s__law_texts) .none kV33 dc33 pm33 an33 cd33 ct33), sl33⟩)
    (c33 : PySem.W.codeIn K cd33 "_law_texts" = true)
    (k33 : PySem.W.keepIn K (.ref f33) = true)
    (a34 : PySem.W.nsIn K mainGlobals "law" = some (some (.ref f34)))
    (l34 : K.lookup f34 = some ⟨oc34, od34, .func (PySem.W.fnOf "law" "law" (defArgs s_law) (defBody s_law) (defScope s_law) .none kV34 dc34 pm34 an34 cd34 ct34), sl34⟩)
    (c34 : PySem.W.codeIn K cd34 "law" = true)
    (k34 : PySem.W.keepIn K (.ref f34) = true)
    : ∃ fd : FuncData, (∀ (s : Shared) (u : Value), BindsTo s fd ⟨[u], []⟩ [("_law_script", u)]) ∧ ∀ base : Heap, K.In base → base.Ns mainGlobals mg → FnOk l.prog w K mg base CX0 6 fa fd ["_law_script"] (sp_law K) := by
  have e := hfa.symm.trans (PySem.W.mg_of X G a34)
  cases e
  have T : Txt K mg c_BadRatio c_ONE c_ZERO :=
    { g_BadRatio := PySem.W.mg_of X G g_BadRatio,
      x_BadRatio := ⟨⟨⟨_, _, _, _, _, _, _, _, _, _, _, _, _, _, _, xL_BadRatio, rv_BadRatio⟩, sa_BadRatio, ex_BadRatio, ty_BadRatio, kc_BadRatio⟩, ⟨ga_BadRatio, gg_BadRatio, ex_BadRatio, hd_BadRatio⟩, Z.exm_of ex_BadRatio ic_BadRatio ty_BadRatio ss_BadRatio⟩,
      n_BadRatio_what := n_BadRatio_what,
      k_ONE := PySem.W.mg_of X G kg_ONE,
      kt_ONE := Z.KT.of kl_ONE kc_ONE kz_ONE,
      k_ZERO := PySem.W.mg_of X G kg_ZERO,
      kt_ZERO := Z.KT.of kl_ZERO kc_ZERO kz_ZERO,
      b_abs := PySem.W.mg_none_of X G z_abs,
      b_all := PySem.W.mg_none_of X G z_all,
      b_bool := PySem.W.mg_none_of X G z_bool,
      b_int := PySem.W.mg_none_of X G z_int,
      b_isinstance := PySem.W.mg_none_of X G z_isinstance,
      b_len := PySem.W.mg_none_of X G z_len,
      b_list := PySem.W.mg_none_of X G z_list,
      b_range := PySem.W.mg_none_of X G z_range,
      b_str := PySem.W.mg_none_of X G z_str,
      b_tuple := PySem.W.mg_none_of X G z_tuple,
      m_gcd := PySem.W.mg_of X G zi_gcd,
      d__law_mixed := ⟨f0, _, fun_mk (st := s__law_mixed) l0 c0 k0, PySem.W.mg_of X G a0⟩,
      d__law_take := ⟨f1, _, fun_mk (st := s__law_take) l1 c1 k1, PySem.W.mg_of X G a1⟩,
      d__law_great := ⟨f2, _, fun_mk (st := s__law_great) l2 c2 k2, PySem.W.mg_of X G a2⟩,
      d__lowest := ⟨f3, _, fun_mk (st := s__lowest) l3 c3 k3, PySem.W.mg_of X G a3⟩,
      d__law_number := ⟨f4, _, fun_mk (st := s__law_number) l4 c4 k4, PySem.W.mg_of X G a4⟩,
      d_BadRatio___init__ := ⟨f5, _, fun_mk (st := s_BadRatio___init__) l5 c5 k5, ⟨a5, t5⟩⟩,
      d_is_whole := ⟨f6, _, ⟨⟨_, _, _, _, _, _, _, _, _, _, rfl, l6, c6, He.dflB_ok v6, .inl rfl⟩, k6⟩, PySem.W.mg_of X G a6⟩,
      d_make_ratio := ⟨f7, _, ⟨⟨_, _, _, _, _, _, _, _, _, _, rfl, l7, c7, He.dflB_ok v7, .inl rfl⟩, k7⟩, PySem.W.mg_of X G a7⟩,
      d__law_made := ⟨f8, _, fun_mk (st := s__law_made) l8 c8 k8, PySem.W.mg_of X G a8⟩,
      d__law_gcd := ⟨f9, _, fun_mk (st := s__law_gcd) l9 c9 k9, PySem.W.mg_of X G a9⟩,
      d__law_lowest := ⟨f10, _, fun_mk (st := s__law_lowest) l10 c10 k10, PySem.W.mg_of X G a10⟩,
      d__law_whole := ⟨f11, _, fun_mk (st := s__law_whole) l11 c11 k11, PySem.W.mg_of X G a11⟩,
      d__law_is := ⟨f12, _, fun_mk (st := s__law_is) l12 c12 k12, PySem.W.mg_of X G a12⟩,
      d__law_odd := ⟨f13, _, fun_mk (st := s__law_odd) l13 c13 k13, PySem.W.mg_of X G a13⟩,
      d_over := ⟨f14, _, fun_mk (st := s_over) l14 c14 k14, PySem.W.mg_of X G a14⟩,
      d__law_over := ⟨f15, _, fun_mk (st := s__law_over) l15 c15 k15, PySem.W.mg_of X G a15⟩,
      d_plus := ⟨f16, _, fun_mk (st := s_plus) l16 c16 k16, PySem.W.mg_of X G a16⟩,
      d_negative := ⟨f17, _, fun_mk (st := s_negative) l17 c17 k17, PySem.W.mg_of X G a17⟩,
      d_minus := ⟨f18, _, fun_mk (st := s_minus) l18 c18 k18, PySem.W.mg_of X G a18⟩,
      d_times := ⟨f19, _, fun_mk (st := s_times) l19 c19 k19, PySem.W.mg_of X G a19⟩,
      d_compare := ⟨f20, _, fun_mk (st := s_compare) l20 c20 k20, PySem.W.mg_of X G a20⟩,
      d_sum_of := ⟨f21, _, fun_mk (st := s_sum_of) l21 c21 k21, PySem.W.mg_of X G a21⟩,
      d__law_sums_right := ⟨f22, _, fun_mk (st := s__law_sums_right) l22 c22 k22, PySem.W.mg_of X G a22⟩,
      d_is_ratio := ⟨f23, _, fun_mk (st := s_is_ratio) l23 c23 k23, PySem.W.mg_of X G a23⟩,
      d__law_unlike := ⟨f24, _, fun_mk (st := s__law_unlike) l24 c24 k24, PySem.W.mg_of X G a24⟩,
      d__law_things := ⟨f25, _, fun_mk (st := s__law_things) l25 c25 k25, PySem.W.mg_of X G a25⟩,
      d_least_of := ⟨f26, _, fun_mk (st := s_least_of) l26 c26 k26, PySem.W.mg_of X G a26⟩,
      d_greatest_of := ⟨f27, _, fun_mk (st := s_greatest_of) l27 c27 k27, PySem.W.mg_of X G a27⟩,
      d__law_hand := ⟨f28, _, fun_mk (st := s__law_hand) l28 c28 k28, PySem.W.mg_of X G a28⟩,
      d_are_figures := ⟨f29, _, fun_mk (st := s_are_figures) l29 c29 k29, PySem.W.mg_of X G a29⟩,
      d_ratio_text := ⟨f30, _, fun_mk (st := s_ratio_text) l30 c30 k30, PySem.W.mg_of X G a30⟩,
      d_ratio_of := ⟨f31, _, fun_mk (st := s_ratio_of) l31 c31 k31, PySem.W.mg_of X G a31⟩,
      d__law_read := ⟨f32, _, fun_mk (st := s__law_read) l32 c32 k32, PySem.W.mg_of X G a32⟩,
      d__law_texts := ⟨f33, _, fun_mk (st := s__law_texts) l33 c33 k33, PySem.W.mg_of X G a33⟩,
      d_law := ⟨fa, _, fun_mk (st := s_law) l34 c34 k34, PySem.W.mg_of X G a34⟩ }
  exact ⟨PySem.W.fnOf "law" "law" (defArgs s_law) (defBody s_law) (defScope s_law) .none kV34 dc34 pm34 an34 cd34 ct34, fun s u => .of_eq rfl, fun base _ _ => fn_law T (fun_mk (st := s_law) l34 c34 k34)⟩
theorem walk {l : PySem.W.OpenLaw} {q : Program} {loose : List Str} {XP : (Str → Option Value) → Heap → Prop} {YP : World → Heap → Prop}
    {d : DefRec} {K : Params → PySem.W.Frag} (hn : l.most = some 63) (hdf : d.params.defaults = [])
    (hY : ∀ (w : World) (h : Heap),
          YP w h → (K w.params).In h)
    (F : ∀ (w : World) (mg : Str → Option Value) (fa : Addr) (h : Heap),
      (K w.params).In h → h.Ns mainGlobals mg → mg d.name = some (.ref fa) →
      ∃ fd : FuncData, (∀ (s : Shared) (u : Value), BindsTo s fd ⟨[u], []⟩ [("_law_script", u)]) ∧
        ∀ base : Heap, (K w.params).In base → base.Ns mainGlobals mg → FnOk l.prog w (K w.params) mg base CX0 6 fa fd ["_law_script"] (sp_law (K w.params))) :
    PySem.W.WalkO q loose XP YP l.row.toRowW
          d [] (fun f vs => PySem.call f vs) :=
  L2.walk_of (n := 63) (k := 6) (x := "_law_script") (CX := fun _ => CX0) (sp := fun w => sp_law (K w.params)) hn (by decide) hdf ⟨rfl, by decide, by decide⟩
    hY F (fun _ _ a ns hl _ hS => ⟨_, rfl, a, ns, rfl, hS, hl, fun _ => rfl⟩) fun _ _ _ _ _ z => z
end
end M
open PySem PySem.W
      PyProof.Rows
set_option
      maxRecDepth 100000 in
set_option maxHeartbeats 0 in
theorem PySem.Challenge.cw_jointsapart_k01_whole_ratios_reckoned_an_holds : PySem.Challenge.rw_jointsapart_k01_whole_ratios_reckoned_an.Holds := by
  w_on; o_law; k_head;
        (case hw => w_witness2)
  k_fill
  refine M.walk (l := PySem.Challenge.rw_jointsapart_k01_whole_ratios_reckoned_an) rfl rfl (fun w h Y => PySem.W.kIn_of Y) ?F
  case F =>
    intro w mg fa h KX G hmg
    refine' M.all_facts (l := PySem.Challenge.rw_jointsapart_k01_whole_ratios_reckoned_an) KX G hmg ?h_g_BadRatio ?h_xL_BadRatio ?h_rv_BadRatio ?h_sa_BadRatio ?h_ex_BadRatio ?h_ty_BadRatio ?h_kc_BadRatio ?h_ga_BadRatio ?h_gg_BadRatio ?h_hd_BadRatio ?h_ic_BadRatio ?h_ss_BadRatio ?h_n_BadRatio_what ?h_kg_ONE ?h_kl_ONE ?h_kc_ONE ?h_kz_ONE ?h_kg_ZERO ?h_kl_ZERO ?h_kc_ZERO ?h_kz_ZERO ?h_z_abs ?h_z_all ?h_z_bool ?h_z_int ?h_z_isinstance ?h_z_len ?h_z_list ?h_z_range ?h_z_str ?h_z_tuple ?h_zi_gcd ?h_a0 ?h_l0 ?h_c0 ?h_k0 ?h_a1 ?h_l1 ?h_c1 ?h_k1 ?h_a2 ?h_l2 ?h_c2 ?h_k2 ?h_a3 ?h_l3 ?h_c3 ?h_k3 ?h_a4 ?h_l4 ?h_c4 ?h_k4 ?h_a5 ?h_l5 ?h_c5 ?h_k5 ?h_t5 ?h_a6 ?h_l6 ?h_c6 ?h_k6 ?h_v6 ?h_a7 ?h_l7 ?h_c7 ?h_k7 ?h_v7 ?h_a8 ?h_l8 ?h_c8 ?h_k8 ?h_a9 ?h_l9 ?h_c9 ?h_k9 ?h_a10 ?h_l10 ?h_c10 ?h_k10 ?h_a11 ?h_l11 ?h_c11 ?h_k11 ?h_a12 ?h_l12 ?h_c12 ?h_k12 ?h_a13 ?h_l13 ?h_c13 ?h_k13 ?h_a14 ?h_l14 ?h_c14 ?h_k14 ?h_a15 ?h_l15 ?h_c15 ?h_k15 ?h_a16 ?h_l16 ?h_c16 ?h_k16 ?h_a17 ?h_l17 ?h_c17 ?h_k17 ?h_a18 ?h_l18 ?h_c18 ?h_k18 ?h_a19 ?h_l19 ?h_c19 ?h_k19 ?h_a20 ?h_l20 ?h_c20 ?h_k20 ?h_a21 ?h_l21 ?h_c21 ?h_k21 ?h_a22 ?h_l22 ?h_c22 ?h_k22 ?h_a23 ?h_l23 ?h_c23 ?h_k23 ?h_a24 ?h_l24 ?h_c24 ?h_k24 ?h_a25 ?h_l25 ?h_c25 ?h_k25 ?h_a26 ?h_l26 ?h_c26 ?h_k26 ?h_a27 ?h_l27 ?h_c27 ?h_k27 ?h_a28 ?h_l28 ?h_c28 ?h_k28 ?h_a29 ?h_l29 ?h_c29 ?h_k29 ?h_a30 ?h_l30 ?h_c30 ?h_k30 ?h_a31 ?h_l31 ?h_c31 ?h_k31 ?h_a32 ?h_l32 ?h_c32 ?h_k32 ?h_a33 ?h_l33 ?h_c33 ?h_k33 ?h_a34 ?h_l34 ?h_c34 ?h_k34
    case h_g_BadRatio => first | k_is | rfl | decide +kernel
    case h_xL_BadRatio => first | k_is | rfl | decide +kernel
    case h_rv_BadRatio => first | k_is | rfl | decide +kernel
    case h_sa_BadRatio => first | k_is | rfl | decide +kernel
    case h_ex_BadRatio => first | k_is | rfl | decide +kernel
    case h_ty_BadRatio => first | k_is | rfl | decide +kernel
    case h_kc_BadRatio => first | k_is | rfl | decide +kernel
    case h_ga_BadRatio => first | k_is | rfl | decide +kernel
    case h_gg_BadRatio => first | k_is | rfl | decide +kernel
    case h_hd_BadRatio => first | k_is | rfl | decide +kernel
    case h_ic_BadRatio => first | k_is | rfl | decide +kernel
    case h_ss_BadRatio => first | k_is | rfl | decide +kernel
    case h_n_BadRatio_what => first | k_is | rfl | decide +kernel
    case h_kg_ONE => first | k_is | rfl | decide +kernel
    case h_kl_ONE => first | k_is | rfl | decide +kernel
    case h_kc_ONE => first | k_is | rfl | decide +kernel
    case h_kz_ONE => first | k_is | rfl | decide +kernel
    case h_kg_ZERO => first | k_is | rfl | decide +kernel
    case h_kl_ZERO => first | k_is | rfl | decide +kernel
    case h_kc_ZERO => first | k_is | rfl | decide +kernel
    case h_kz_ZERO => first | k_is | rfl | decide +kernel
    case h_z_abs => first | k_is | rfl | decide +kernel
    case h_z_all => first | k_is | rfl | decide +kernel
    case h_z_bool => first | k_is | rfl | decide +kernel
    case h_z_int => first | k_is | rfl | decide +kernel
    case h_z_isinstance => first | k_is | rfl | decide +kernel
    case h_z_len => first | k_is | rfl | decide +kernel
    case h_z_list => first | k_is | rfl | decide +kernel
    case h_z_range => first | k_is | rfl | decide +kernel
    case h_z_str => first | k_is | rfl | decide +kernel
    case h_z_tuple => first | k_is | rfl | decide +kernel
    case h_zi_gcd => first | k_is | rfl | decide +kernel
    case h_a0 => first | k_is | rfl | decide +kernel
    case h_l0 => first | k_is | rfl | decide +kernel
    case h_c0 => first | k_is | rfl | decide +kernel
    case h_k0 => first | k_is | rfl | decide +kernel
    case h_a1 => first | k_is | rfl | decide +kernel
    case h_l1 => first | k_is | rfl | decide +kernel
    case h_c1 => first | k_is | rfl | decide +kernel
    case h_k1 => first | k_is | rfl | decide +kernel
    case h_a2 => first | k_is | rfl | decide +kernel
    case h_l2 => first | k_is | rfl | decide +kernel
    case h_c2 => first | k_is | rfl | decide +kernel
    case h_k2 => first | k_is | rfl | decide +kernel
    case h_a3 => first | k_is | rfl | decide +kernel
    case h_l3 => first | k_is | rfl | decide +kernel
    case h_c3 => first | k_is | rfl | decide +kernel
    case h_k3 => first | k_is | rfl | decide +kernel
    case h_a4 => first | k_is | rfl | decide +kernel
    case h_l4 => first | k_is | rfl | decide +kernel
    case h_c4 => first | k_is | rfl | decide +kernel
    case h_k4 => first | k_is | rfl | decide +kernel
    case h_a5 => first | k_is | rfl | decide +kernel
    case h_l5 => first | k_is | rfl | decide +kernel
    case h_c5 => first | k_is | rfl | decide +kernel
    case h_k5 => first | k_is | rfl | decide +kernel
    case h_t5 => first | k_is | rfl | decide +kernel
    case h_a6 => first | k_is | rfl | decide +kernel
    case h_l6 => first | k_is | rfl | decide +kernel
    case h_c6 => first | k_is | rfl | decide +kernel
    case h_k6 => first | k_is | rfl | decide +kernel
    case h_v6 => first | k_is | rfl | decide +kernel
    case h_a7 => first | k_is | rfl | decide +kernel
    case h_l7 => first | k_is | rfl | decide +kernel
    case h_c7 => first | k_is | rfl | decide +kernel
    case h_k7 => first | k_is | rfl | decide +kernel
    case h_v7 => first | k_is | rfl | decide +kernel
    case h_a8 => first | k_is | rfl | decide +kernel
    case h_l8 => first | k_is | rfl | decide +kernel
    case h_c8 => first | k_is | rfl | decide +kernel
    case h_k8 => first | k_is | rfl | decide +kernel
    case h_a9 => first | k_is | rfl | decide +kernel
    case h_l9 => first | k_is | rfl | decide +kernel
    case h_c9 => first | k_is | rfl | decide +kernel
    case h_k9 => first | k_is | rfl | decide +kernel
    case h_a10 => first | k_is | rfl | decide +kernel
    case h_l10 => first | k_is | rfl | decide +kernel
    case h_c10 => first | k_is | rfl | decide +kernel
    case h_k10 => first | k_is | rfl | decide +kernel
    case h_a11 => first | k_is | rfl | decide +kernel
    case h_l11 => first | k_is | rfl | decide +kernel
    case h_c11 => first | k_is | rfl | decide +kernel
    case h_k11 => first | k_is | rfl | decide +kernel
    case h_a12 => first | k_is | rfl | decide +kernel
    case h_l12 => first | k_is | rfl | decide +kernel
    case h_c12 => first | k_is | rfl | decide +kernel
    case h_k12 => first | k_is | rfl | decide +kernel
    case h_a13 => first | k_is | rfl | decide +kernel
    case h_l13 => first | k_is | rfl | decide +kernel
    case h_c13 => first | k_is | rfl | decide +kernel
    case h_k13 => first | k_is | rfl | decide +kernel
    case h_a14 => first | k_is | rfl | decide +kernel
    case h_l14 => first | k_is | rfl | decide +kernel
    case h_c14 => first | k_is | rfl | decide +kernel
    case h_k14 => first | k_is | rfl | decide +kernel
    case h_a15 => first | k_is | rfl | decide +kernel
    case h_l15 => first | k_is | rfl | decide +kernel
    case h_c15 => first | k_is | rfl | decide +kernel
    case h_k15 => first | k_is | rfl | decide +kernel
    case h_a16 => first | k_is | rfl | decide +kernel
    case h_l16 => first | k_is | rfl | decide +kernel
    case h_c16 => first | k_is | rfl | decide +kernel
    case h_k16 => first | k_is | rfl | decide +kernel
    case h_a17 => first | k_is | rfl | decide +kernel
    case h_l17 => first | k_is | rfl | decide +kernel
    case h_c17 => first | k_is | rfl | decide +kernel
    case h_k17 => first | k_is | rfl | decide +kernel
    case h_a18 => first | k_is | rfl | decide +kernel
    case h_l18 => first | k_is | rfl | decide +kernel
    case h_c18 => first | k_is | rfl | decide +kernel
    case h_k18 => first | k_is | rfl | decide +kernel
    case h_a19 => first | k_is | rfl | decide +kernel
    case h_l19 => first | k_is | rfl | decide +kernel
    case h_c19 => first | k_is | rfl | decide +kernel
    case h_k19 => first | k_is | rfl | decide +kernel
    case h_a20 => first | k_is | rfl | decide +kernel
    case h_l20 => first | k_is | rfl | decide +kernel
    case h_c20 => first | k_is | rfl | decide +kernel
    case h_k20 => first | k_is | rfl | decide +kernel
    case h_a21 => first | k_is | rfl | decide +kernel
    case h_l21 => first | k_is | rfl | decide +kernel
    case h_c21 => first | k_is | rfl | decide +kernel
    case h_k21 => first | k_is | rfl | decide +kernel
    case h_a22 => first | k_is | rfl | decide +kernel
    case h_l22 => first | k_is | rfl | decide +kernel
    case h_c22 => first | k_is | rfl | decide +kernel
    case h_k22 => first | k_is | rfl | decide +kernel
    case h_a23 => first | k_is | rfl | decide +kernel
    case h_l23 => first | k_is | rfl | decide +kernel
    case h_c23 => first | k_is | rfl | decide +kernel
    case h_k23 => first | k_is | rfl | decide +kernel
    case h_a24 => first | k_is | rfl | decide +kernel
    case h_l24 => first | k_is | rfl | decide +kernel
    case h_c24 => first | k_is | rfl | decide +kernel
    case h_k24 => first | k_is | rfl | decide +kernel
    case h_a25 => first | k_is | rfl | decide +kernel
    case h_l25 => first | k_is | rfl | decide +kernel
    case h_c25 => first | k_is | rfl | decide +kernel
    case h_k25 => first | k_is | rfl | decide +kernel
    case h_a26 => first | k_is | rfl | decide +kernel
    case h_l26 => first | k_is | rfl | decide +kernel
    case h_c26 => first | k_is | rfl | decide +kernel
    case h_k26 => first | k_is | rfl | decide +kernel
    case h_a27 => first | k_is | rfl | decide +kernel
    case h_l27 => first | k_is | rfl | decide +kernel
    case h_c27 => first | k_is | rfl | decide +kernel
    case h_k27 => first | k_is | rfl | decide +kernel
    case h_a28 => first | k_is | rfl | decide +kernel
    case h_l28 => first | k_is | rfl | decide +kernel
    case h_c28 => first | k_is | rfl | decide +kernel
    case h_k28 => first | k_is | rfl | decide +kernel
    case h_a29 => first | k_is | rfl | decide +kernel
    case h_l29 => first | k_is | rfl | decide +kernel
    case h_c29 => first | k_is | rfl | decide +kernel
    case h_k29 => first | k_is | rfl | decide +kernel
    case h_a30 => first | k_is | rfl | decide +kernel
    case h_l30 => first | k_is | rfl | decide +kernel
    case h_c30 => first | k_is | rfl | decide +kernel
    case h_k30 => first | k_is | rfl | decide +kernel
    case h_a31 => first | k_is | rfl | decide +kernel
    case h_l31 => first | k_is | rfl | decide +kernel
    case h_c31 => first | k_is | rfl | decide +kernel
    case h_k31 => first | k_is | rfl | decide +kernel
    case h_a32 => first | k_is | rfl | decide +kernel
    case h_l32 => first | k_is | rfl | decide +kernel
    case h_c32 => first | k_is | rfl | decide +kernel
    case h_k32 => first | k_is | rfl | decide +kernel
    case h_a33 => first | k_is | rfl | decide +kernel
    case h_l33 => first | k_is | rfl | decide +kernel
    case h_c33 => first | k_is | rfl | decide +kernel
    case h_k33 => first | k_is | rfl | decide +kernel
    case h_a34 => first | k_is | rfl | decide +kernel
    case h_l34 => first | k_is | rfl | decide +kernel
    case h_c34 => first | k_is | rfl | decide +kernel
    case h_k34 => first | k_is | rfl | decide +kernel