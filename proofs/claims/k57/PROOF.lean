import PyProof.Rows.All
import Wide.All
import OpenK.AllK
import Wide.FinOn
import HandS.Base
import HandS.Call
import HandS.List
import HandS.Comp
import HandS.Ends
import HandS.Text
import HandS.Words
import HandS.StrMore
import HandS.ForMost
import HandS.Codes
import HandS.Replace
import HandS.FStrTup
import PyProof.StrBlock2
import HandS.Exc
import HandS.ExcInit
import HandS.ExcIs
import HandS.ExcField
import KE.KExcIs
import HandS.IsInst
import HandS.Zip
import HandS.Nested
import HandS.OwnEq
import HandS.More
import HandS.Star
import HandS.ClsMeth
import HandS.Property
import HandS.Iter
import HandS.Zip0
import KE.GoesMore
import KE.GoesEnum
import HandS.NoneIn
import PyProof.StrLawsRepr
import HandS.EndTab
import HandS.ListEq
import KE.LtData
import PyProof.EnumMake
import PySem.Challenge.RW_anchoredits_k57_changes_one_after_anothe
import HandS.Flt
import HandS.FltList
import HandS.Conv
import HandS.Rev
import KE.KRevSl
import HandS.Style
import KE.DataMinKey
import HandS.SortKw
import KE.DataMinMax
import KE.KTryMore
import HandS.TupAny
import HandS.DictComp
import HandS.RevRange
import KE.OsRunLaw
set_option Elab.async false
set_option maxRecDepth 100000
set_option linter.all false
namespace Vk
open PySem PySem.Spec PyProof.Rows L2
/-! ## defs that may show values: no guard is under way -/
structure FnG (P : Program) (w : World) (K : PySem.W.Frag) (mg : Str → Option Value) (base : Heap) (CX : CXT) (k : Nat) (f : Addr) (fd : FuncData) (ps : List Str) (sp : Sp) : Prop where
  len : ∀ vs H Q E, sp vs H Q E → vs.length = ps.length
  run : ∀ (A : Around) (outer : List Env) (s : Shared) (H : Hp) (args : Args) (us : List Value) (vs : List V) (Q : VK) (E : XK), A.guards = some [] → Room k A → Env0 P w K mg base A outer s H → BindsTo s fd args (ps.zip us) → Vals vs us → sp vs H Q E →
    codeAny (model P w) A (.call (.ref f) args) (CR CX outer P w H s Q E) s
theorem FnG.of {P : Program} {w : World} {K : PySem.W.Frag} {mg : Str → Option Value} {base : Heap} {CX : CXT} {k : Nat} {f : Addr} {fd : FuncData} {ps : List Str} {sp : Sp} (F : FnOk P w K mg base CX k f fd ps sp) : FnG P w K mg base CX k f fd ps sp :=
  ⟨F.len, fun A outer s H args us vs Q E _ => F.run A outer s H args us vs Q E⟩
section
variable {P : Program} {w : World} {K : PySem.W.Frag} {mg : Str → Option Value} {base : Heap}
theorem okG {CX : CXT} {x qual : Str} {st : Stmt} {f : Addr} {fd : FuncData} {N ps : List Str} {k : Nat} {sp : Sp} (F : Fun K x qual st f fd) (S : FnScope N ps (defScope st)) (hlen : ∀ vs H Q E, sp vs H Q E → vs.length = ps.length)
    (hbody : ∀ (cdv : Value) (A : Around) (outer : List Env) (s : Shared) (H : Hp) (vs : List V) (Q : VK) (E : XK), A.guards = some [] → Room k (A.deeper (envOfC qual (defScope st) s.heap.objs.size f cdv)) → sp vs H Q E →
      ∃ t, PSs (cxOf CX P w K mg base N qual (defScope st) f cdv A outer s H E) (defBody st) t ∧ t { nx := fun _ H' => Q .non H', rt := Q } (start N vs) H) : FnG P w K mg base CX (k + 1) f fd ps sp := by
  obtain ⟨oc, od, kV, doc, pm, an, cdv, ct, osl, rfl, lk, hcd⟩ := F.ex
  refine ⟨hlen, fun A outer s H args us vs Q E hg hr e0 hb r hsp => ?_⟩
  have hvl := hlen _ _ _ _ hsp
  have KX := e0.mod.kin.keeps (fun b o e => (e0.bs b o e).1 : ∀ b o, base.get? b = some o → s.heap.get? b = some o)
  have noLim := e0.mod.nolimit.keeps (fun b o e => (e0.bs b o e).1 : ∀ b o, base.get? b = some o → s.heap.get? b = some o)
  have kinds : ∀ y ∈ ps.zip us, (defScope st).names.lookup y.1 = some .local ∨ ((defScope st).names.lookup y.1 = some .cell ∧ ((cellsFrom (s.heap.objs.size + 1) (defScope st).names []).lookup y.1).isSome = true) := by
    rintro ⟨n, v⟩ hy
    have hy1 := (List.of_mem_zip hy).1
    cases S.par n hy1 with
    | inl q => exact Or.inl q
    | inr q => exact Or.inr (And.intro q (PySem.W.cellsFrom_some _ _ _ (Or.inl q)))
  refine codeAny_call_function hr.depth (KX f _ lk) rfl S.co S.gen rfl (PySem.W.codeRec_of KX hcd) (hb _ _ _ _ (wpAny_newFunctionEnv_cells S.kind kinds fun env he s1 x => ?_))
  cases he
  refine And.intro (noLim.keeps x.toInCall.keep) (codeAny_func ?_)
  obtain ⟨t, ht, hq⟩ := hbody cdv A outer s H vs Q E hg (hr.deeper _) hsp
  have I0 := inv_start (CX := CX) (E := E) S hr.hd e0 hvl r x
  refine wpAny_mono (ht.run [] s1 (start N vs) H _ I0 hq) (fun fl s2 hs => ?_) (fun e s2 hs => hs)
  have close : ∀ {σ2 : L2.St} {H2 : Hp} {v : V} {u : Value}, Inv (cxOf CX P w K mg base N qual (defScope st) f cdv A outer s H E) [] σ2 H2 s2 → RelV v u → Q v H2 → CE outer P w H s Q u s2 := by
    intro σ2 H2 v u J rv q
    exact ⟨v, H2, And.intro J.os (And.intro J.bare (And.intro J.base (And.intro J.hok (And.intro rv q))))⟩
  match fl, hs with
  | .ret u, ⟨v, σ2, H2, J, rv, q⟩ => exact close J rv q
  | .next, ⟨σ2, H2, J, q⟩ => exact close (v := V.non) (u := Value.none) J rfl q
  | .brk, ⟨_, _, _, q⟩ => exact q.elim
  | .cont, ⟨_, _, _, q⟩ => exact q.elim
end
section
variable {P : Program} {w : World} {K : PySem.W.Frag} {mg : Str → Option Value} {base : Heap}
theorem okG0 {x qual : Str} {st : Stmt} {f : Addr} {fd : FuncData} {N ps : List Str} {k : Nat} {sp : Sp} (F : Fun K x qual st f fd) (S : FnScope N ps (defScope st)) (hlen : ∀ vs H Q E, sp vs H Q E → vs.length = ps.length)
    (hbody : ∀ (cdv : Value) (A : Around) (outer : List Env) (s : Shared) (H : Hp) (vs : List V) (Q : VK) (E : XK), A.guards = some [] → Room k (A.deeper (envOfC qual (defScope st) s.heap.objs.size f cdv)) → sp vs H Q E →
      ∃ t, PSs (cxOf CX0 P w K mg base N qual (defScope st) f cdv A outer s H E).nox (defBody st) t ∧ t { nx := fun _ H' => Q .non H', rt := Q } (start N vs) H) : FnG P w K mg base CX0 (k + 1) f fd ps sp :=
  okG F S hlen fun cdv A outer s H vs Q E hg hr hsp => match hbody cdv A outer s H vs Q E hg hr hsp with | ⟨t, h, q⟩ => ⟨t, h.nox, q⟩
end
/-- a def of the module by its name -/
structure CalG (P : Program) (w : World) (K : PySem.W.Frag) (mg : Str → Option Value) (base : Heap) (CX : CXT) (k : Nat) (x : Str) (sp : Sp) : Prop where
  ex : ∃ (f : Addr) (fd : FuncData) (ps : List Str), FnG P w K mg base CX k f fd ps sp ∧ mg x = some (.ref f) ∧ PySem.W.keepIn K (.ref f) = true ∧ Binds K fd ps []
section
variable {X : Cx} {CX : CXT} {j k : Nat} {f : Addr} {fd : FuncData} {ps : List Str} {sp : Sp} {E : XK} {x : Str} {p pos : Pos} {e : Expr} {es : List Expr} {t : TA}
theorem run_fnG {pins : List (Addr × Obj)} {σ : L2.St} {H : Hp} {s : Shared} {Q : VK} {us : List Value} {vs : List V} (F : FnG X.prog X.w X.K X.mg X.base CX k f fd ps sp) (hg : X.A.guards = some []) (hr : Room k X.A) (hb : Binds X.K fd ps []) (hx : Passes CX X E)
    (I : Inv X pins σ H s) (r : Vals vs us) (h : sp vs H Q E) : wpAny (model X.prog X.w) X.A (call (.ref f) us) (EP X pins σ Q) X.xe s := by
  have hl : us.length = ps.length := r.length.symm.trans (F.len _ _ _ _ h)
  have b := hb s us I.kIn ((congrArg List.length (List.append_nil us)).trans hl)
  rw [List.append_nil] at b
  refine wpAny_call (codeAny_mono (F.run X.A X.stack s H ⟨us, []⟩ us vs Q E hg hr I.env0 b r h) (fun res s2 hq => ?_))
  match res, hq with
  | .error e, hq => exact hx pins σ H s e s2 I hq
  | .ok (.ret u), hq => exact I.after hq
  | .ok .next, hq => exact hq.elim
  | .ok .brk, hq => exact hq.elim
  | .ok .cont, hq => exact hq.elim
theorem pe_cG (c : CalG X.prog X.w X.K X.mg X.base CX k x sp) (hg : X.A.guards = some []) (hr : Room j X.A) (hk : k ≤ j) (hx : Passes CX X E) (ha : PA X (e :: es) t) (gl : Gl X x := by rfl)
    (hdb : (x == ("__debug__" : Str)) = false := by decide) (he : starEach (e :: es) X.env = (false, eval e X.env) :: starEach es X.env := by rfl) (hpl : (backTo pos (starEach es X.env)).any (·.1) = false := by rfl) :
    PE X (.Call (.Name x p) (e :: es) [] pos) (tCall sp [] E t) := by
  obtain ⟨f, fd, ps, F, hm, kp, hb⟩ := c.ex
  refine ⟨fun pins s σ H Q I h => wpAny_Call_Name_kw (ld_glob I gl hm (PySem.W.callWith_K (h₀ := X.base) I.ok.mod.kin kp (thn (ha.run pos pins s σ H _ I h) fun us s1 hh => ?_) he hpl) hdb)⟩
  obtain ⟨vs, H1, I1, r, q⟩ := hh
  rw [List.append_nil] at q
  exact ⟨I1.kIn, run_fnG F hg (hr.mono hk) hb hx I1 r q⟩
theorem pe_cG0 (c : CalG X.prog X.w X.K X.mg X.base CX k x sp) (hg : X.A.guards = some []) (hr : Room j X.A) (hk : k ≤ j) (hx : Passes CX X E) (gl : Gl X x := by rfl)
    (hdb : (x == ("__debug__" : Str)) = false := by decide) : PE X (.Call (.Name x p) [] [] pos) (tCall sp [] E tNil) := by
  obtain ⟨f, fd, ps, F, hm, kp, hb⟩ := c.ex
  exact ⟨fun pins s σ H Q I h => wpAny_Call_Name_kw (ld_glob I gl hm (PySem.W.callWith_K0 I.kIn kp (run_fnG (us := []) F hg (hr.mono hk) hb hx I .nil h)) hdb)⟩
end
/-! ## repr -/
section
variable {X : Cx}
end
/-! ## the law's own call -/
end Vk
set_option Elab.async false
set_option maxRecDepth 100000
set_option linter.all false
namespace Vk
open PySem PySem.Spec PyProof.Rows L2
/-! ## what stays -/
/-- all that was tracked stays, but what stands at p -/
def Ext (p : Addr) (H H' : Hp) : Prop := ∀ b o, H b = some o → b ≠ p → H' b = some o
theorem Ext.rfl {p : Addr} {H : Hp} : Ext p H H := fun _ _ h _ => h
theorem Ext.trans {p : Addr} {H H1 H2 : Hp} (a : Ext p H H1) (b : Ext p H1 H2) : Ext p H H2 := fun c o h n => b c o (a c o h n) n
theorem Ext.same {p : Addr} {H H1 : Hp} (a : Same H H1) : Ext p H H1 := fun c o h _ => a c o h
theorem Ext.at {p : Addr} {H : Hp} {o : HO} : Ext p H (upd H p o) := fun c u h n => (upd_ne n).trans h
theorem same_new {H : Hp} {a : Addr} {o : HO} (h : H a = none) : Same H (upd H a o) := fun c u e => (upd_ne (ne_of_none e h)).trans e
theorem Ext.new {p a : Addr} {H : Hp} {o : HO} (h : H a = none) : Ext p H (upd H a o) := .same (same_new h)
theorem Ext.set {p a : Addr} {H H1 : Hp} {o : HO} (x : Ext p H H1) (h : H a = none) : Ext p H (upd H1 a o) := fun c u e n => (upd_ne (ne_of_none e h)).trans (x c u e n)
theorem Ext.none_of {p a : Addr} {H H1 : Hp} (x : Ext p H H1) (hp : a ≠ p) (h : H1 a = none) : H a = none := by
  match q : H a with
  | none => rfl
  | some o => exact nomatch (x a o q hp).symm.trans h
theorem up_new {H : Hp} {a b : Addr} {o u : HO} (h : H a = some o) (hb : H b = none) : upd H b u a = some o := same_new hb a o h
/-! ## the pen -/
def penL (c : Addr) (t l : Int) : List (Key × V) := [(.inr "cells", .ref c), (.inr "turn", .int t), (.inr "left", .int l)]
theorem k_ct : ¬ ((Str.ofString "cells") = Str.ofString "turn") := by decide +kernel
theorem k_cl : ¬ ((Str.ofString "cells") = Str.ofString "left") := by decide +kernel
theorem k_tl : ¬ ((Str.ofString "turn") = Str.ofString "left") := by decide +kernel
theorem k_lt : ¬ ((Str.ofString "left") = Str.ofString "turn") := by decide +kernel
theorem pen_cells (c : Addr) (t l : Int) : valV (penL c t l) (Sum.inr "cells" : Key) = some (.ref c) := valV_pos rfl
theorem pen_turn (c : Addr) (t l : Int) : valV (penL c t l) (Sum.inr "turn" : Key) = some (.int t) := (valV_neg (fun e => k_ct (Sum.inr.inj e))).trans (valV_pos rfl)
theorem pen_left (c : Addr) (t l : Int) : valV (penL c t l) (Sum.inr "left" : Key) = some (.int l) := (valV_neg (fun e => k_cl (Sum.inr.inj e))).trans ((valV_neg (fun e => k_tl (Sum.inr.inj e))).trans (valV_pos rfl))
theorem pen_put_turn (c : Addr) (t l u : Int) : putK (penL c t l) (Sum.inr "turn" : Key) (.int u) = penL c u l := by
  unfold putK
  rw [valV_any, pen_turn]
  simp [penL, k_ct, k_lt]
theorem pen_put_left (c : Addr) (t l u : Int) : putK (penL c t l) (Sum.inr "left" : Key) (.int u) = penL c t u := by
  unfold putK
  rw [valV_any, pen_left]
  simp [penL, k_cl, k_tl]
theorem pen_made (c : Addr) (t l : Int) : mergeK [] (penL c t l) = penL c t l := by
  simp [mergeK, penL, putK, k_ct, k_cl, k_tl]
structure Pen (H : Hp) (p c : Addr) (T : Nat) : Prop where
  ex : ∃ (ns : List Int) (t l : Int), H p = some (.dK (penL c t l)) ∧ H c = some (.lst (ns.map V.int)) ∧ ns.length ≤ 63 ∧ 0 ≤ t ∧ t ≤ T ∧ 0 ≤ l
section
variable {H H1 : Hp} {p c a : Addr} {T U : Nat} {o : HO} {xs : List V}
theorem Pen.mono (x : Pen H p c T) (h : T ≤ U) : Pen H p c U := by
  obtain ⟨ns, t, l, h1, h2, h3, h4, h5, h6⟩ := x.ex
  exact ⟨ns, t, l, h1, h2, h3, h4, by omega, h6⟩
theorem Pen.stay (x : Pen H p c T) (s : Same H H1) : Pen H1 p c T := by
  obtain ⟨ns, t, l, h1, h2, r⟩ := x.ex
  exact ⟨ns, t, l, s _ _ h1, s _ _ h2, r⟩
theorem Pen.new (x : Pen H p c T) (h : H a = none) : Pen (upd H a o) p c T := x.stay (same_new h)
theorem Pen.is (x : Pen H p c T) : ∃ t l, H p = some (.dK (penL c t l)) := by
  obtain ⟨ns, t, l, h1, _⟩ := x.ex
  exact ⟨t, l, h1⟩
theorem Pen.ne (x : Pen H p c T) (h : H a = some (.lst xs)) : a ≠ p := by
  obtain ⟨t, l, h1⟩ := x.is
  exact ne_of h h1 (by intro z; cases z)
/-- another thing is changed -/
theorem Pen.set (x : Pen H p c T) (h1 : a ≠ p) (h2 : a ≠ c) : Pen (upd H a o) p c T := by
  obtain ⟨ns, t, l, g1, g2, r⟩ := x.ex
  exact ⟨ns, t, l, (upd_ne h1.symm).trans g1, (upd_ne h2.symm).trans g2, r⟩
/-- a thing that was not there when the pen stood is neither the pen nor its cells -/
theorem Pen.apart (x : Pen H p c T) (h : H a = none) : a ≠ p ∧ a ≠ c := by
  obtain ⟨ns, t, l, g1, g2, r⟩ := x.ex
  exact ⟨(ne_of_none g1 h).symm, (ne_of_none g2 h).symm⟩
end
/-- draw's promise -/
def spDraw : Sp := fun vs H Q _ => ∃ (p c : Addr) (m : Int) (T : Nat), vs = [.ref p, .int m] ∧ 0 < m ∧ m < 1073741824 ∧ Pen H p c T ∧ T < 1000000000 ∧
  ∀ (d : Int) (H' : Hp), 0 ≤ d → d < m → Pen H' p c (T + 1) → Ext p H H' → Q (.int d) H'
def spPen (K : PySem.W.Frag) : Sp := fun vs H Q _ => ∃ (a : Addr) (ns : List Int), vs = [.ref a] ∧ SqL K H a (ns.map V.int) ∧
  ∀ (p c : Addr) (H' : Hp), H p = none → Pen H' p c 0 → Same H H' → Q (.ref p) H'
/-! ## draws' small facts -/
theorem ints_dp {K : PySem.W.Frag} {H : Hp} : ∀ ns : List Int, DpAll K H (ns.map V.int) (ns.map PyData.int)
  | [] => .nil
  | n :: ns => .cons (.int n) (ints_dp ns)
theorem ints_canLay : ∀ ns : List Int, PyData.canLayAll0 (ns.map PyData.int) = true
  | [] => rfl
  | n :: ns => by
    show (PyData.canLay0 (.int n) && PyData.canLayAll0 (ns.map PyData.int)) = true
    rw [ints_canLay ns]
    rfl
theorem ints_depth : ∀ ns : List Int, PyData.depthAll (ns.map PyData.int) = 0
  | [] => rfl
  | n :: ns => by
    show max (PyData.depth (.int n)) (PyData.depthAll (ns.map PyData.int)) = 0
    rw [ints_depth ns]
    rfl
theorem ints_shaped (ns : List Int) : SeqAt.shaped (.list (ns.map PyData.int)) = true := by
  have h1 : PyData.canLay0 (.list (ns.map PyData.int)) = true := ints_canLay ns
  have h2 : PyData.depth (.list (ns.map PyData.int)) = 1 := by
    show PyData.depthAll (ns.map PyData.int) + 1 = 1
    rw [ints_depth]
  unfold SeqAt.shaped
  rw [h1, h2]
  rfl
theorem ints_ne_nil (ns : List Int) : PyData.eqv (.list (ns.map PyData.int)) (.list []) = ns.isEmpty := by
  match ns with
  | [] => rfl
  | n :: r => rfl
theorem get_left {H : Hp} {p c : Addr} {t l : Int} (h : H p = some (.dK (penL c t l))) : DGet H p (.str "left") (some (.int l)) := pen_left c t l ▸ DGet.k (k := Sum.inr "left") h
theorem get_turn {H : Hp} {p c : Addr} {t l : Int} (h : H p = some (.dK (penL c t l))) : DGet H p (.str "turn") (some (.int t)) := pen_turn c t l ▸ DGet.k (k := Sum.inr "turn") h
theorem get_cells {H : Hp} {p c : Addr} {t l : Int} (h : H p = some (.dK (penL c t l))) : DGet H p (.str "cells") (some (.ref c)) := pen_cells c t l ▸ DGet.k (k := Sum.inr "cells") h
theorem put_left {H : Hp} {p c : Addr} {t l u : Int} (h : H p = some (.dK (penL c t l))) : DPut H p (.str "left") (.int u) (upd H p (.dK (penL c t u))) := pen_put_left c t l u ▸ DPut.k (k := Sum.inr "left") h (by show 3 < sizeLine; decide)
theorem put_turn {H : Hp} {p c : Addr} {t l u : Int} (h : H p = some (.dK (penL c t l))) : DPut H p (.str "turn") (.int u) (upd H p (.dK (penL c u l))) := pen_put_turn c t l u ▸ DPut.k (k := Sum.inr "turn") h (by show 3 < sizeLine; decide)
theorem at_mod {α : Type} {xs : List α} {i : Int} (h0 : 0 ≤ i) (h : i < (xs.length : Int)) : ∃ v, atI xs i = some v ∧ v ∈ xs := by
  have hj : i.toNat < xs.length := by omega
  refine ⟨xs[i.toNat], ?_, List.getElem_mem hj⟩
  have e : i = (i.toNat : Int) := by omega
  have q := atI_nat (List.getElem?_eq_getElem hj)
  rw [← e] at q
  exact q
def primes : List Int := [2147483629, 2147483647, 2147483587, 2147483563, 2147483579]
theorem primes_in {v : V} (h : v ∈ primes.map V.int) : ∃ i : Int, v = .int i ∧ 0 < i ∧ i < 2147483648 := by
  obtain ⟨i, hi, e⟩ := List.mem_map.mp h
  refine ⟨i, e.symm, ?_⟩
  have q : ∀ j ∈ primes, 0 < j ∧ j < 2147483648 := by decide
  exact q i hi
end Vk
set_option Elab.async false
set_option maxRecDepth 100000
set_option linter.all false
namespace Vk
open PySem PySem.Spec PyProof.Rows L2
/-! ## a def that returns one written text, and a replace of what it returns (a token is out behind it) -/
structure FnT (P : Program) (w : World) (K : PySem.W.Frag) (mg : Str → Option Value) (base : Heap) (k : Nat) (x : Str) (z : Str) : Prop where
  ex : ∃ f : Addr, mg x = some (.ref f) ∧ PySem.W.keepIn K (.ref f) = true ∧ ∀ (A : Around) (outer : List Env) (s : Shared) (H : Hp) (Q : VK), Room k A → Env0 P w K mg base A outer s H → Q (.str z) H →
    codeAny (model P w) A (.call (.ref f) ⟨[], []⟩) (fun r s2 => 1 ≤ s2.toks ∧ CR CX0 outer P w H s Q E0 r s2) s
section
variable {P : Program} {w : World} {K : PySem.W.Frag} {mg : Str → Option Value} {base : Heap}
theorem okT {x : Str} {st : Stmt} {f : Addr} {fd : FuncData} {z : Str} {j : Nat} {p1 p2 : Pos} (F : Fun K x x st f fd) (S : FnScope [] [] (defScope st)) (hm : mg x = some (.ref f)) (hb : Binds K fd [] [])
    (body : defBody st = [.Return (some (.Constant (.str z) j p1)) p2]) : FnT P w K mg base 1 x z := by
  refine ⟨f, hm, F.kp, ?_⟩
  obtain ⟨oc, od, kV, doc, pm, an, cdv, ct, osl, rfl, lk, hcd⟩ := F.ex
  intro A outer s H Q hr e0 hsp
  have KX := e0.mod.kin.keeps (fun b o e => (e0.bs b o e).1 : ∀ b o, base.get? b = some o → s.heap.get? b = some o)
  have noLim := e0.mod.nolimit.keeps (fun b o e => (e0.bs b o e).1 : ∀ b o, base.get? b = some o → s.heap.get? b = some o)
  refine codeAny_call_function hr.depth (KX f _ lk) rfl S.co S.gen rfl (PySem.W.codeRec_of KX hcd) (hb s [] KX rfl _ _ _ _ (wpAny_newFunctionEnv_cells S.kind (fun y hy => absurd hy (List.not_mem_nil (a := y))) fun env he s1 x0 => ?_))
  cases he
  refine And.intro (noLim.keeps x0.toInCall.keep) (codeAny_func ?_)
  have I0 := inv_start (P := P) (CX := CX0) (E := E0) (us := []) (vs := []) S hr.hd e0 rfl .nil x0
  show wpAny _ _ (execs (defBody st) _) _ _ s1
  rw [body]
  refine wpAny_execs_cons (wpAny_Return_some (Calls.Constant_str ?_))
  exact ⟨Nat.succ_pos _, .str z, H, I0.os, I0.bare, (I0.tok (s1.toks + 1)).base, (I0.tok (s1.toks + 1)).hok, ⟨_, rfl⟩, hsp⟩
end
section
variable {X : Cx} {j k : Nat} {x z y v : Str} {q q2 apos pos c0 c1 : Pos} {j0 j1 : Nat}
theorem pe_replT (c : FnT X.prog X.w X.K X.mg X.base k x z) (hr : Room j X.A) (hk : k ≤ j) (hz : z.length + (z.length + 1) * v.length ≤ 16777216) (hyz : (y == v) = false) (gl : Gl X x := by rfl) (hdb : (x == ("__debug__" : Str)) = false := by decide)
    (hst : starEach [.Constant (.str y) j0 c0, .Constant (.str v) j1 c1] X.env = [(false, eval (.Constant (.str y) j0 c0) X.env), (false, eval (.Constant (.str v) j1 c1) X.env)] := by rfl)
    (hbase : attributeBase (.Call (.Name x q) [] [] q2) "replace" X.env (eval (.Call (.Name x q) [] [] q2) X.env) = eval (.Call (.Name x q) [] [] q2) X.env := by rfl) (hline : (apos.endLine == pos.line) = true := by rfl) :
    PE X (.Call (.Attribute (.Call (.Name x q) [] [] q2) "replace" apos) [.Constant (.str y) j0 c0, .Constant (.str v) j1 c1] [] pos) (fun σ H Q => Q (.str (Txt.replace z y v)) H) := by
  obtain ⟨f, hm, kp, run⟩ := c.ex
  refine ⟨fun pins s σ H Q I h => PySem.Call_method2 (Q := EP X pins σ Q) hbase hst hline (wpAny_mono (Q := fun u s1 => 1 ≤ s1.toks ∧ EP X pins σ (fun w H1 => w = .str z ∧ H1 = H) u s1) ?_ ?_ (fun _ _ e => e))⟩
  · refine wpAny_Call_Name_kw (ld_glob I gl hm (PySem.W.callWith_K0 I.kIn kp (wpAny_call (codeAny_mono (run X.A X.stack s H (fun w H1 => w = .str z ∧ H1 = H) (hr.mono hk) I.env0 ⟨rfl, rfl⟩) fun res s2 hq => ?_))) hdb)
    match res, hq with
    | .error e, hq => exact hq.2.elim
    | .ok (.ret u), hq => exact ⟨hq.1, I.after hq.2⟩
    | .ok .next, hq => exact hq.2.elim
    | .ok .brk, hq => exact hq.2.elim
    | .ok .cont, hq => exact hq.2.elim
  · rintro u s1 ⟨ht, w, H1, I1, r1, rfl, rfl⟩
    obtain ⟨tx, rfl⟩ := r1
    refine ⟨"str", _, PySem.F.plainAttrs_str, PySem.F.slot_str_replace, PySem.F.type_str_replace, typeIs_str _ _ _, (fun _ e => nomatch e), Calls.callWith_builtin rfl (Calls.evalArgs_plain (Calls.spliced_cons (Calls.Constant_str (Calls.spliced_cons (Calls.Constant_str (Calls.spliced_nil ?_))))))⟩
    exact PySem.SC.replace (Nat.ne_of_gt ht) (Nat.succ_ne_zero _) (by show s1.toks ≠ s1.toks + 1; omega) hyz hz fun t' kk => ⟨V.str _, _, I1.tok kk, ⟨t', rfl⟩, h⟩
end
/-! ## options to pick from -/
def OneS (c : Nat) : V := .str ⟨#[c]⟩
inductive Opts (K : PySem.W.Frag) (H : Hp) : V → List V → Prop
  | str (z : Str) (h : z.length ≤ 1000) : Opts K H (.str z) (z.cps.toList.map OneS)
  | lst {a : Addr} {xs : List V} (h : SqL K H a xs) : Opts K H (.ref a) xs
  | tup {a : Addr} {xs : List V} (h : SqT K H a xs) : Opts K H (.ref a) xs
theorem Ext.sqL {K : PySem.W.Frag} {p a : Addr} {H H1 : Hp} {xs : List V} {kvs : List (Key × V)} (x : Ext p H H1) (hp : H p = some (.dK kvs)) (h : SqL K H a xs) : SqL K H1 a xs := by
  match h with
  | .inl (.inl e) => exact .inl (.inl (x _ _ e (ne_of e hp (by intro z; cases z))))
  | .inl (.inr ⟨o, e⟩) => exact .inl (.inr ⟨o, x _ _ e (ne_of e hp (by intro z; cases z))⟩)
  | .inr e => exact .inr e
theorem Ext.sqT {K : PySem.W.Frag} {p a : Addr} {H H1 : Hp} {xs : List V} {kvs : List (Key × V)} (x : Ext p H H1) (hp : H p = some (.dK kvs)) (h : SqT K H a xs) : SqT K H1 a xs := by
  match h with
  | .inl (.inl e) => exact .inl (.inl (x _ _ e (ne_of e hp (by intro z; cases z))))
  | .inl (.inr ⟨o, e⟩) => exact .inl (.inr ⟨o, x _ _ e (ne_of e hp (by intro z; cases z))⟩)
  | .inr e => exact .inr e
theorem Ext.is {p a : Addr} {H H1 : Hp} {xs : List V} {kvs : List (Key × V)} (x : Ext p H H1) (hp : H p = some (.dK kvs)) (h : H a = some (.lst xs)) : H1 a = some (.lst xs) := x _ _ h (ne_of h hp (by intro z; cases z))
theorem Ext.isT {p a : Addr} {H H1 : Hp} {xs : List V} {kvs : List (Key × V)} (x : Ext p H H1) (hp : H p = some (.dK kvs)) (h : H a = some (.tup xs)) : H1 a = some (.tup xs) := x _ _ h (ne_of h hp (by intro z; cases z))
theorem Pen.keepL {K : PySem.W.Frag} {p c a : Addr} {T : Nat} {H H1 : Hp} {xs : List V} (q : Pen H p c T) (x : Ext p H H1) (h : SqL K H a xs) : SqL K H1 a xs := by
  obtain ⟨t, l, hp⟩ := q.is
  exact x.sqL hp h
theorem Pen.keepT {K : PySem.W.Frag} {p c a : Addr} {T : Nat} {H H1 : Hp} {xs : List V} (q : Pen H p c T) (x : Ext p H H1) (h : SqT K H a xs) : SqT K H1 a xs := by
  obtain ⟨t, l, hp⟩ := q.is
  exact x.sqT hp h
theorem Pen.keepI {p c a : Addr} {T : Nat} {H H1 : Hp} {xs : List V} (q : Pen H p c T) (x : Ext p H H1) (h : H a = some (.lst xs)) : H1 a = some (.lst xs) := by
  obtain ⟨t, l, hp⟩ := q.is
  exact x.is hp h
def spPick (K : PySem.W.Frag) : Sp := fun vs H Q _ => ∃ (p c : Addr) (o : V) (xs : List V) (T : Nat), vs = [.ref p, o] ∧ Opts K H o xs ∧ xs ≠ [] ∧ xs.length ≤ 1000 ∧ Pen H p c T ∧ T < 1000000000 ∧
  ∀ (v : V) (H' : Hp), v ∈ xs → Pen H' p c (T + 1) → Ext p H H' → Q v H'
def letS : Str := "\n !\"#$&'()*+,-./0123456789:;<=>?@ABCDEFGHIJKLMNOPQRSTUVWXYZ[\\]^_`abcdefghijklmnopqrstuvwxyz{|}~"
def spSigns : Sp := fun vs H Q _ => vs = [] ∧ Q (.str letS) H
/-- what few gives: one to three letters -/
def Few (z : Str) : Prop := 1 ≤ z.length ∧ z.length ≤ 3 ∧ ∀ c ∈ z.cps.toList, c ∈ letS.cps.toList
def spFew : Sp := fun vs H Q _ => ∃ (p c : Addr) (T : Nat), vs = [.ref p] ∧ Pen H p c T ∧ T + 4 < 1000000000 ∧ ∀ (z : Str) (H' : Hp), Few z → Pen H' p c (T + 4) → Ext p H H' → Q (.str z) H'
/-- a word of the letters of z, a to b of them -/
def Word (z : Str) (a b : Nat) (x : Str) : Prop := a ≤ x.length ∧ x.length ≤ b ∧ ∀ c ∈ x.cps.toList, c ∈ z.cps.toList
def spWord : Sp := fun vs H Q _ => ∃ (p c : Addr) (z : Str) (a b T : Nat), vs = [.ref p, .str z, .int a, .int b] ∧ a ≤ b ∧ b ≤ 100 ∧ 1 ≤ z.length ∧ z.length ≤ 1000 ∧ Pen H p c T ∧ T + 200 < 1000000000 ∧
  ∀ (x : Str) (H' : Hp), Word z a b x → Pen H' p c (T + b + 1) → Ext p H H' → Q (.str x) H'
theorem cut63 (ns : List Int) : ∃ ms : List Int, cutV (ns.map V.int) none (some 63) = ms.map V.int ∧ ms.length ≤ 63 := by
  refine ⟨ns.take 63, ?_, List.length_take_le _ _⟩
  unfold cutV
  rw [HT.sIx_none, show (63 : Int) = ((63 : Nat) : Int) from rfl, HT.sIx_nat, List.drop_zero, Nat.sub_zero, List.map_take, Nat.min_comm, ← List.take_take]
  exact List.take_of_length_le (by rw [List.length_take]; omega)
theorem one_len (z : Str) : (z.cps.toList.map OneS).length = z.length := by
  rw [List.length_map]
  exact Array.length_toList
theorem join_nil : ∀ ls : List (List Nat), TL.joinL [] ls = ls.flatten
  | [] => rfl
  | [p] => by simp [TL.joinL]
  | p :: q :: r => by
    show p ++ ([] ++ TL.joinL [] (q :: r)) = _
    rw [List.nil_append, join_nil (q :: r)]
    rfl
theorem join_ones (cs : List Nat) : Txt.join "" (cs.map fun c => (⟨#[c]⟩ : Str)) = ⟨cs.toArray⟩ := by
  rw [TL.join_eq]
  refine TL.ext_tl ?_
  rw [TL.tl_join]
  refine (join_nil _).trans ?_
  show (List.map TL.tl (cs.map fun c => (⟨#[c]⟩ : Str))).flatten = cs
  rw [List.map_map]
  induction cs with
  | nil => rfl
  | cons c r ih => exact congrArg (c :: ·) ih
theorem ones_len (cs : List Nat) : ((cs.map fun c => (⟨#[c]⟩ : Str)).map (·.length)).sum = cs.length := by
  induction cs with
  | nil => rfl
  | cons c r ih =>
    rw [List.map_cons, List.map_cons, List.sum_cons, ih, List.length_cons]
    show 1 + r.length = r.length + 1
    omega
theorem ones_map (cs : List Nat) : (cs.map fun c => (⟨#[c]⟩ : Str)).map V.str = cs.map OneS := List.map_map
theorem noq_list : (Txt.replace letS "q" "").cps.toList = letS.cps.toList.filter (· != 113) := replace_strikes letS 113
theorem noq_len : (Txt.replace letS "q" "").length = 94 := by
  rw [show (Txt.replace letS "q" "").length = (Txt.replace letS "q" "").cps.toList.length from Array.length_toList.symm, noq_list]
  decide +kernel
theorem noq_in {c : Nat} (h : c ∈ (Txt.replace letS "q" "").cps.toList) : c ∈ letS.cps.toList := by
  rw [noq_list] at h
  exact (List.mem_filter.mp h).1
theorem ones_of {z : Str} {v : V} (h : v ∈ z.cps.toList.map OneS) : ∃ c, v = OneS c ∧ c ∈ z.cps.toList := by
  obtain ⟨c, hc, e⟩ := List.mem_map.mp h
  exact ⟨c, e.symm, hc⟩
theorem opts_ne {z : Str} (h : 1 ≤ z.length) : z.cps.toList.map OneS ≠ [] := fun e => by
  have q := one_len z
  rw [e] at q
  simp at q
  omega
theorem opts_le {z : Str} {n : Nat} (h : z.length ≤ n) : (z.cps.toList.map OneS).length ≤ n := by
  rw [one_len]
  exact h
/-- the fixed choices of few are few -/
theorem few_of {z : Str} (h : (decide (1 ≤ z.length) && decide (z.length ≤ 3) && z.cps.toList.all fun c => decide (c ∈ letS.cps.toList)) = true) : Few z := by
  simp only [Bool.and_eq_true, decide_eq_true_eq, List.all_eq_true] at h
  exact ⟨h.1.1, h.1.2, h.2⟩
theorem few_ones {cs : List Nat} (h1 : 1 ≤ cs.length) (h3 : cs.length ≤ 3) (h : ∀ c ∈ cs, c ∈ letS.cps.toList) : Few ⟨cs.toArray⟩ := ⟨by simpa [Str.length] using h1, by simpa [Str.length] using h3, by simpa using h⟩
/-! ## rules whose written part is named (within a comprehension's block) -/
section
variable {X : Cx} {K : PySem.W.Frag}
theorem ix_seqK (h : X.K = K) : IxR X (rIx K) := h ▸ ix_seq
theorem op_notIn_seqK (h : X.K = K) : OpR X (compareOp .NotIn) (rIn K true) := h ▸ op_notIn_seq
theorem sl_listK (h : X.K = K) : SlR X (rSlL K) := h ▸ sl_list
end
theorem cutV_mem {xs : List V} {lo hi : Option Int} {v : V} (h : v ∈ cutV xs lo hi) : v ∈ xs := List.mem_of_mem_drop (List.mem_of_mem_take h)
theorem cutV_all {xs : List V} {lo hi : Option Int} {f : V → Bool} (h : xs.all f = true) : (cutV xs lo hi).all f = true := List.all_eq_true.mpr fun v hv => List.all_eq_true.mp h v (cutV_mem hv)
theorem ones_flat (cs : List Nat) : (cs.map OneS).all flatV = true := List.all_eq_true.mpr fun v hv => by
  obtain ⟨c, _, rfl⟩ := List.mem_map.mp hv
  rfl
theorem cutV_zero (xs : List V) : cutV xs none (some 0) = [] := by
  unfold cutV
  rw [HT.sIx_none, show (0 : Int) = ((0 : Nat) : Int) from rfl, HT.sIx_nat]
  simp
theorem one_mem {cs : List Nat} {v : V} (h : v ∈ cs.map OneS) : ∃ c, v = OneS c ∧ c ∈ cs := by
  obtain ⟨c, hc, e⟩ := List.mem_map.mp h
  exact ⟨c, e.symm, hc⟩
end Vk
set_option Elab.async false
set_option maxRecDepth 100000
set_option linter.all false
namespace Vk
open PySem PySem.Spec PyProof.Rows L2
/-! ## how long what is shown may be -/
theorem listText_le : ∀ ts : List Str, (listText ts).length ≤ piled ts + 2
  | [] => by decide +kernel
  | t :: r => by
    have h := textFrom_length_pos r 1 (("[" : Str) ++ (if (0 : Nat) > 0 then ", " else "" : String) ++ t) (Nat.succ_pos 0)
    have e : (listText (t :: r)).length = (textFrom 1 (("[" : Str) ++ (if (0 : Nat) > 0 then ", " else "" : String) ++ t) r).length + 1 := strLen_append _ _
    rw [e, h, strLen_append, strLen_append, piled_cons]
    show 1 + 0 + t.length + piled r + 1 ≤ _
    omega
theorem piled_le {ts : List Str} {n : Nat} (h : ∀ t ∈ ts, t.length ≤ n) : piled ts ≤ ts.length * (n + 2) := by
  induction ts with
  | nil => exact Nat.zero_le _
  | cons t r ih =>
    have h1 := h t List.mem_cons_self
    have h2 := ih fun u hu => h u (List.mem_cons_of_mem _ hu)
    rw [piled_cons, List.length_cons, Nat.succ_mul]
    omega
theorem shownAll_map : ∀ ds : List PyData, PyData.shownAll ds = ds.map PyData.shown
  | [] => rfl
  | d :: r => congrArg (d.shown :: ·) (shownAll_map r)
theorem showableAll_iff : ∀ {ds : List PyData}, (∀ d ∈ ds, d.showable = true) → PyData.showableAll ds = true
  | [], _ => rfl
  | d :: r, h => by
    show (d.showable && PyData.showableAll r) = true
    rw [h d List.mem_cons_self, showableAll_iff fun e he => h e (List.mem_cons_of_mem _ he)]
    rfl
theorem hasDictAll_of : ∀ {ds : List PyData}, (∀ d ∈ ds, d.hasDict = false) → PyData.hasDictAll ds = false
  | [], _ => rfl
  | d :: r, h => by
    show (d.hasDict || PyData.hasDictAll r) = false
    rw [h d List.mem_cons_self, hasDictAll_of fun e he => h e (List.mem_cons_of_mem _ he)]
    rfl
theorem depthAll_le : ∀ {ds : List PyData} {n : Nat}, (∀ d ∈ ds, d.depth ≤ n) → PyData.depthAll ds ≤ n
  | [], _, _ => Nat.zero_le _
  | d :: r, n, h => Nat.max_le.mpr ⟨h d List.mem_cons_self, depthAll_le fun e he => h e (List.mem_cons_of_mem _ he)⟩
/-- d may be shown, in at most n signs, at most k deep -/
structure Showy (d : PyData) (k n : Nat) : Prop where
  sh : d.showable = true
  nd : d.hasDict = false
  dp : d.depth ≤ k
  ln : d.shown.length ≤ n
theorem Showy.list {ds : List PyData} {k n : Nat} (h : ∀ d ∈ ds, Showy d k n) : Showy (.list ds) (k + 1) (ds.length * (n + 2) + 2) := by
  refine ⟨showableAll_iff fun d hd => (h d hd).sh, hasDictAll_of fun d hd => (h d hd).nd, Nat.succ_le_succ (depthAll_le fun d hd => (h d hd).dp), ?_⟩
  show (listText (PyData.shownAll ds)).length ≤ _
  rw [shownAll_map]
  have h1 := listText_le (ds.map PyData.shown)
  have h2 := piled_le (ts := ds.map PyData.shown) (n := n) fun t ht => by
    obtain ⟨d, hd, rfl⟩ := List.mem_map.mp ht
    exact (h d hd).ln
  rw [List.length_map] at h2
  omega
theorem Showy.tuple {ds : List PyData} {k n : Nat} (h : ∀ d ∈ ds, Showy d k n) : Showy (.tuple ds) (k + 1) (ds.length * (n + 2) + 2) := by
  refine ⟨showableAll_iff fun d hd => (h d hd).sh, hasDictAll_of fun d hd => (h d hd).nd, Nat.succ_le_succ (depthAll_le fun d hd => (h d hd).dp), ?_⟩
  show (tupleText (PyData.shownAll ds)).length ≤ _
  rw [shownAll_map]
  have h1 := fmt_text (ds.map PyData.shown)
  have h2 := piled_le (ts := ds.map PyData.shown) (n := n) fun t ht => by
    obtain ⟨d, hd, rfl⟩ := List.mem_map.mp ht
    exact (h d hd).ln
  rw [List.length_map] at h2
  omega
theorem Showy.int {i : Int} (h : i.natAbs < 10 ^ 100) : Showy (.int i) 0 101 := by
  have hl : i.natAbs.log2 < 1920 := by
    by_cases h0 : i.natAbs = 0
    · rw [h0]; decide
    · exact (Nat.log2_lt h0).mpr (Nat.lt_of_lt_of_le h (by decide +kernel))
  refine ⟨decide_eq_true hl, rfl, Nat.le_refl _, ?_⟩
  show (Str.ofString (toString i)).length ≤ 101
  rw [PySem.ofString_length]
  exact int_text_length_le10 (k := 100) (by decide) h
theorem Showy.mono {d : PyData} {k k' n n' : Nat} (h : Showy d k n) (h1 : k ≤ k') (h2 : n ≤ n') : Showy d k' n' := ⟨h.sh, h.nd, Nat.le_trans h.dp h1, Nat.le_trans h.ln h2⟩
/-! ## places of words -/
end Vk
set_option Elab.async false
set_option maxRecDepth 100000
set_option linter.all false
namespace Vk
open PySem PySem.Spec PyProof.Rows L2
/-! ## a text some times -/
theorem mulOk {x : Str} {n : Int} (h0 : 0 ≤ n) (h1 : n ≤ 1000000) (h : x.length * n.toNat ≤ 10000000) (hx : x.length ≤ 10000000) : MulOk x n := by
  refine ⟨?_, fun a _ c => ?_, fun _ _ => ?_⟩
  · rw [decide_eq_false (by omega), decide_eq_false (by omega)]
    rfl
  · have hn : 0 < n := by omega
    have q : (10000000 : Int) ≤ (2 ^ 63 - 1) / n := (Int.le_ediv_iff_mul_le hn).mpr (by omega)
    omega
  · unfold Builtin.Str.tooLong sizeLine
    exact decide_eq_false (by omega)
def CMulS (x : Str) (n : Int) : Prop := 0 ≤ n ∧ n ≤ 1000000 ∧ x.length * n.toNat ≤ 10000000 ∧ x.length ≤ 10000000
def rMulS : R2 := fun x y H Q => ∃ (z : Str) (n : Int), x = .str z ∧ y = .int n ∧ CMulS z n ∧ Q (.str (Txt.mul z n)) H
section
variable {X : Cx}
theorem op_mulS : OpR X (binaryOp .Mult) rMulS := by
  intro pins s σ H x y v u Q I rx ry h
  obtain ⟨z, n, rfl, rfl, ⟨h0, h1, h2, h3⟩, q⟩ := h
  obtain ⟨t, rfl⟩ := rx
  obtain ⟨t2, rfl⟩ := ry
  exact SB.mul (mulOk h0 h1 h2 h3) fun t' k => ⟨V.str _, H, I.tok k, ⟨t', rfl⟩, q⟩
end
/-! ## a def called by keywords alone -/
structure CalK (P : Program) (w : World) (K : PySem.W.Frag) (mg : Str → Option Value) (base : Heap) (CX : CXT) (k : Nat) (x : Str) (sp : Sp) (ks : List Str) (g : {α : Type} → List α → List α) : Prop where
  ex : ∃ (f : Addr) (fd : FuncData) (ps : List Str), FnG P w K mg base CX k f fd ps sp ∧ mg x = some (.ref f) ∧ PySem.W.keepIn K (.ref f) = true ∧
    (∀ (s : Shared) (ws : List Value), K.In s.heap → ws.length = ks.length → BindsTo s fd ⟨[], ks.zip ws⟩ (ps.zip (g ws))) ∧ ∀ (vs : List V) (ws : List Value), Vals vs ws → vs.length = ks.length → Vals (g vs) (g ws)
def tCallW (n : Nat) (sp : Sp) (g : {α : Type} → List α → List α) (E : XK) (t : TA) : TE := fun σ H Q => t σ H fun vs H1 => vs.length = n ∧ sp (g vs) H1 Q E
section
variable {X : Cx} {CX : CXT} {j k : Nat} {sp : Sp} {E : XK} {x : Str} {p pos : Pos} {kws : List Keyword} {tk : TA} {ks : List Str} {g : {α : Type} → List α → List α}
theorem pe_kw (c : CalK X.prog X.w X.K X.mg X.base CX k x sp ks g) (hg : X.A.guards = some []) (hr : Room j X.A) (hk : k ≤ j) (hx : Passes CX X E) (hkw : PK X kws tk) (gl : Gl X x := by rfl)
    (hall : (backToKw pos (keywordEach kws X.env)).all (·.1.isSome) = true := by rfl) (hks : (backToKw pos (keywordEach kws X.env)).filterMap (·.1) = ks := by rfl) (hdb : (x == ("__debug__" : Str)) = false := by decide)
    (hpl : ((backTo pos (starEach [] X.env)).any (·.1) || (backToKw pos (keywordEach kws X.env)).any (·.1.isNone)) = false := by rfl) :
    PE X (.Call (.Name x p) [] kws pos) (tCallW ks.length sp g E tk) := by
  obtain ⟨f, fd, ps, F, hm, kp, hb, hv⟩ := c.ex
  refine ⟨fun pins s σ H Q I h => wpAny_Call_Name_kw (ld_glob I gl hm (PySem.W.callWith_KW0 (h₀ := X.base) I.ok.mod.kin kp hall (thn (hkw.run pos pins s σ H _ I h) fun ws s2 hh => ?_) hpl) hdb)⟩
  obtain ⟨vs, H2, I2, rz, l2, q2⟩ := hh
  refine ⟨I2.kIn, ?_⟩
  rw [hks]
  refine wpAny_call (codeAny_mono (F.run X.A X.stack s2 H2 ⟨[], ks.zip ws⟩ (g ws) (g vs) Q E hg (hr.mono hk) I2.env0 (hb s2 ws I2.kIn (rz.length.symm.trans l2)) (hv vs ws rz l2) q2) (fun res s3 hq => ?_))
  match res, hq with
  | .error e, hq => exact hx pins σ H2 s2 e s3 I2 hq
  | .ok (.ret u), hq => exact I2.after hq
  | .ok .next, hq => exact hq.elim
  | .ok .brk, hq => exact hq.elim
  | .ok .cont, hq => exact hq.elim
end
theorem vals_rev : ∀ {vs : List V} {ws : List Value}, Vals vs ws → Vals vs.reverse ws.reverse
  | _, _, .nil => .nil
  | _, _, .cons r t => by
    rw [List.reverse_cons, List.reverse_cons]
    exact (vals_rev t).append (.cons r .nil)
/-! ## a def of the text as the head leaves it -/
structure At (K : PySem.W.Frag) (x : Str) (st : Stmt) (f : Addr) (fd : FuncData) : Prop where
  ns : PySem.W.nsIn K mainGlobals x = some (some (.ref f))
  fn : Fun K x x st f fd
theorem at_mk {K : PySem.W.Frag} {x : Str} {st : Stmt} {f : Addr} {oc : Value} {od an : Option Addr} {sl : Array (Option Value)} {kV doc pm cd ct : Value} (a : PySem.W.nsIn K mainGlobals x = some (some (.ref f)))
    (l : K.lookup f = some ⟨oc, od, .func (PySem.W.fnOf x x (defArgs st) (defBody st) (defScope st) .none kV doc pm an cd ct), sl⟩) (c : PySem.W.codeIn K cd x = true) (k : PySem.W.keepIn K (.ref f) = true) :
    At K x st f (PySem.W.fnOf x x (defArgs st) (defBody st) (defScope st) .none kV doc pm an cd ct) := ⟨a, fun_mk l c k⟩
section
variable {K : PySem.W.Frag} {x y qual : Str} {st : Stmt} {f : Addr} {fd : FuncData} {ps ks : List Str} {g : List Value → List Value}
theorem _root_.L2.Fun.kwb (F : Fun K x qual st f fd)
    (h : ∀ (kV doc pm : Value) (an : Option Addr) (cdv ct : Value) (ws : List Value), ws.length = ks.length → bindArgs (PySem.W.fnOf x qual (defArgs st) (defBody st) (defScope st) .none kV doc pm an cdv ct) ⟨[], ks.zip ws⟩ = pure (ps.zip (g ws))) :
    ∀ (s : Shared) (ws : List Value), K.In s.heap → ws.length = ks.length → BindsTo s fd ⟨[], ks.zip ws⟩ (ps.zip (g ws)) := by
  obtain ⟨oc, od, kV, doc, pm, an, cdv, ct, osl, rfl, lk, hcd⟩ := F.ex
  exact fun s ws _ hl => .of_eq (h kV doc pm an cdv ct ws hl)
theorem _root_.L2.Fun.binds1 (F : Fun K x qual st f fd)
    (h : ∀ {kV doc pm : Value} {an : Option Addr} {cdv ct : Value} {v : Value}, bindArgs (PySem.W.fnOf x qual (defArgs st) (defBody st) (defScope st) .none kV doc pm an cdv ct) ⟨[v], []⟩ = pure [(y, v)]) :
    ∀ (s : Shared) (v : Value), BindsTo s fd ⟨[v], []⟩ [(y, v)] := by
  obtain ⟨oc, od, kV, doc, pm, an, cdv, ct, osl, rfl, lk, hcd⟩ := F.ex
  exact fun s v => .of_eq h
end
end Vk
set_option Elab.async false
set_option maxRecDepth 100000
set_option maxHeartbeats 4000000
set_option linter.all false
namespace PySem
namespace VkX
open PySem.W PySem.Calls PyProof.Rows Builtin Builtin.ObjectAttr PySem.HandSPX
/-! ## own exception classes straight below one of the four -/
structure ExB (B newId initId : String) (tl : List Value) : Prop where
  F : ExcBaseFacts B newId initId tl
  pass : ∀ self : Value, refuseLoop self "__setattr__" tl = pure ()
  obj : tl.contains (.type "object") = true
  refs : tl.all (fun v => match v with | .type _ => true | _ => false) = true
theorem exB_value : ExB "ValueError" "ValueError.__new__" "ValueError.__init__" [.type "ValueError", .type "Exception", .type "BaseException", .type "object"] := ⟨F.excBase_ValueError, fun _ => by kernel_rfl, by decide +kernel, rfl⟩
section
variable {M : Model} {A : Around} {E : Value → Shared → Prop} {h : Heap} {g : Array GenState} {d : Drawn} {t : Nat} {os : OsState}
variable {nm q : Str} {C N : Addr} {bs bm : List Value} {hdct : Bool} {sn : List Str} {sub : List Value} {ab : Bool} {col : Option Bool} {dd : Option Addr} {k0 k1 k2 k3 k5 : Option Value} {B newId initId : String}
theorem check_newK (F : ExcBaseFacts B newId initId bm) {rest : List Value} {kw : List (Str × Value)} {Q : Unit → Shared → Prop} (hC : h.get? C = some (excClassObj nm q C N bs bm hdct sn sub ab col dd k0 k1 k2 k3 k5 newId))
    (hq : Q () ⟨h, g, d, t, os⟩) : wpAny M A (checkBuiltinCall newId ⟨.ref C :: rest, kw⟩) Q E ⟨h, g, d, t, os⟩ := by
  have inB : (Value.ref C :: bm).contains (.type B) = true := by rw [List.contains_cons, F.hasB, Bool.or_true]
  have star := F.noStar
  simp only [checkBuiltinCall, F.newKind, F.newSplit, F.newRow]
  repeat (first | refine wpAny_loadPart_at hC ?_ | (refine wpAny_isSubtype_exc hC ?_; rw [inB]) | refine wpAny_staticBase_exc hC ?_ | refine wpAny_madeBy_exc hC ?_ | simp only [bne_self_eq_false, Bool.false_eq_true, if_false] | wp_step)
  exact hq
end
section
variable {prog : Program} {w : World} {A : Around} {E : Value → Shared → Prop} {R : Result → Shared → Prop} {h : Heap} {g : Array GenState} {d : Drawn} {t : Nat} {os : OsState}
variable {nm q : Str} {C N : Addr} {bs bm : List Value} {hdct : Bool} {sn : List Str} {sub : List Value} {ab : Bool} {col : Option Bool} {dd : Option Addr} {k0 k1 k2 k3 k5 : Option Value} {B newId initId : String}
theorem new_ownK (F : ExcBaseFacts B newId initId bm) {rest : List Value} {kw : List (Str × Value)} (hC : h.get? C = some (excClassObj nm q C N bs bm hdct sn sub ab col dd k0 k1 k2 k3 k5 newId))
    (hq : R (.ok (.ret (.ref (h.objs.size + 1)))) ⟨(h.push (W.kdv_tup rest)).push (excO C h.objs.size), g, d, t, os⟩) (hrest : rest.length ≤ sizeLine) :
    codeAny (model prog w) A (.builtin newId ⟨.ref C :: rest, kw⟩) R ⟨h, g, d, t, os⟩ := by
  have fends := F.ends
  have cB : (Value.ref C :: bm).contains (.type B) = true := by rw [List.contains_cons, F.hasB, Bool.or_true]
  have cA : (Value.ref C :: bm).contains (.type "AttributeError") = false := by rw [List.contains_cons, F.noAttr]; rfl
  have cN : (Value.ref C :: bm).contains (.type "NameError") = false := by rw [List.contains_cons, F.noName]; rfl
  refine codeAny_builtinAt F.entry ?_
  unfold Builtin.«BaseException.__new__»
  refine wpAt_bind (show wpAt _ _ _ (stack >>= _) _ _ _ from wpAt_bind (wpAt_stack fun p below => wpAt_of_wpAny ?_))
  wp_walk
  refine wpAt_of_wpAny ?_
  rw [F.owner]
  repeat (first | with_reducible refine wpAny_madeHere_exc F.canon hC ?_ | with_reducible refine wpAny_loadPart_at hC ?_ | (with_reducible refine wpAny_isSubtype_exc hC ?_; first | rw [cB] | rw [cA] | rw [cN]) | wp_step)
  exact (show R _ _ by rw [Heap.size_push]; exact hq)
theorem check_callK {M : Model} {rest : List Value} {kw : List (Str × Value)} {Q : Unit → Shared → Prop} (hC : h.get? C = some (excClassObj nm q C N bs bm hdct sn sub ab col dd k0 k1 k2 k3 k5 newId)) (hq : Q () ⟨h, g, d, t, os⟩) : wpAny M A (checkBuiltinCall "type.__call__" ⟨.ref C :: rest, kw⟩) Q E ⟨h, g, d, t, os⟩ := by
  have own := tc_sub
  have typed : (⟨h, g, d, t, os⟩ : Shared).TypeIs (.ref C) "type" := ⟨_, hC, rfl⟩
  simp only [checkBuiltinCall, tc_kind, tc_split]
  repeat (any_goals (first | assumption | with_reducible refine wpAny_loadPart_at hC ?_ | with_reducible refine wpAny_onRaise ?_ | with_reducible refine wpAny_map ?_ | wp_step))
theorem type_callK (F : ExcBaseFacts B newId initId bm) {rest : List Value} {kw : List (Str × Value)} {fI : Addr} {Q : Fin → Shared → Prop} (hC : h.get? C = some (excClassObj nm q C N bs bm hdct sn sub ab col dd k0 k1 k2 k3 k5 newId))
    (hi : W.Looks (model prog w) h (typeLookup (.ref C) "__init__") (some (.ref fI))) (hb : ∀ self, W.Looks (model prog w) h (bindSpecial (.ref fI) self) (.ref fI, [self])) (hrest : rest.length ≤ sizeLine)
    (hq : codeAny (model prog w) A (.call (.ref fI) ⟨.ref (h.objs.size + 1) :: rest, kw⟩)
      (fun r s' => match r with | .ok (.ret v) => v = .none ∧ Q (.done (.ret (.ref (h.objs.size + 1)))) s' | .ok _ => False | .error e => E e s')
      ⟨(h.push (W.kdv_tup rest)).push (excO C h.objs.size), g, d, t, os⟩) :
    wpAny (model prog w) A (Builtin.«type.__call__» ⟨.ref C :: rest, kw⟩) Q E ⟨h, g, d, t, os⟩ := by
  repeat (first | with_reducible refine wpAny_loadPart_at hC ?_ | with_reducible refine wpAny_madeBy_exc hC ?_ | wp_step)
  refine codeAny_call_builtin_code (Code.quiet_builtin _ F.quiet) (check_newK F hC (new_ownK F hC (show wpAny _ _ _ _ _ _ from ?_) hrest))
  have kp : ∀ b o, h.get? b = some o → ((h.push (W.kdv_tup rest)).push (excO C h.objs.size)).get? b = some o := fun b o e => Heap.get?_push_of_some _ (Heap.get?_push_of_some _ e)
  have hC1 := kp _ _ hC
  have made : ((h.push (W.kdv_tup rest)).push (excO C h.objs.size)).get? (h.objs.size + 1) = some (excO C h.objs.size) := by heap_get
  have self1 : (Value.ref C :: bm).contains (.ref C) = true := by simp
  have looked := hi.keeps kp
  have bound := (hb (.ref (h.objs.size + 1))).keeps kp
  unfold isInstance
  repeat (first | with_reducible refine wpAny_loadPart_at made ?_ | (with_reducible refine wpAny_isSubtype_exc hC1 ?_; rw [self1]) | wp_step)
  refine (show wpAny _ _ (typeLookup (.ref C) _) _ _ _ from looked.at (wpAny_holding (wpAny_bind (bound.at (wpAny_bind (wpAny_call (codeAny_mono hq fun res s2 z => ?_)))))))
  match res, z with
  | .error e, z => exact z
  | .ok (.ret v), z =>
    obtain ⟨rfl, z⟩ := z
    first
      | exact wpAny_pure (wpAny_pure z)
      | (wp_walk; exact z)
  | .ok .next, z => exact z.elim
  | .ok .brk, z => exact z.elim
  | .ok .cont, z => exact z.elim
theorem call_ownK (F : ExcBaseFacts B newId initId bm) {rest : List Value} {kw : List (Str × Value)} {fI : Addr} (hC : h.get? C = some (excClassObj nm q C N bs bm hdct sn sub ab col dd k0 k1 k2 k3 k5 newId))
    (hi : W.Looks (model prog w) h (typeLookup (.ref C) "__init__") (some (.ref fI))) (hb : ∀ self, W.Looks (model prog w) h (bindSpecial (.ref fI) self) (.ref fI, [self])) (hrest : rest.length ≤ sizeLine)
    (hq : codeAny (model prog w) (A.under (.builtin "type.__call__" ⟨.ref C :: rest, kw⟩)) (.call (.ref fI) ⟨.ref (h.objs.size + 1) :: rest, kw⟩) (W.InitBack (h.objs.size + 1) R)
      ⟨(h.push (W.kdv_tup rest)).push (excO C h.objs.size), g, d, t, os⟩) :
    codeAny (model prog w) A (.call (.ref C) ⟨rest, kw⟩) R ⟨h, g, d, t, os⟩ := by
  have l1 := tc_lookup
  have l2 := tc_bind (.ref C)
  have hTy : (⟨h, g, d, t, os⟩ : Shared).TypeIs (.ref C) "type" := ⟨_, hC, rfl⟩
  refine codeAny_of_tree (show wpAny _ _ (callAny (.ref C) _) _ _ _ from ?_)
  repeat (any_goals (first | assumption | with_reducible refine wpAny_loadPart_at hC ?_ | wp_step))
  refine ⟨rfl, codeAny_call_builtin_at (Code.quiet_builtin _ (by decide +kernel)) entry_typeCall (check_callK hC (type_callK F hC hi hb hrest (codeAny_mono hq fun res s2 z => ?_)))⟩
  match res, z with
  | .error e, z => exact z
  | .ok (.ret v), z => exact z
  | .ok .next, z => exact z.elim
  | .ok .brk, z => exact z.elim
  | .ok .cont, z => exact z.elim
end
end VkX
end PySem
set_option Elab.async false
set_option maxRecDepth 100000
set_option maxHeartbeats 4000000
set_option linter.all false
namespace PySem
namespace VkX
open PySem.W PySem.Calls PyProof.Rows Builtin Builtin.ObjectAttr PySem.HandSPX
section
variable {prog : Program} {w : World} {A : Around} {E : Value → Shared → Prop} {R : Result → Shared → Prop} {hp : Heap} {g : Array GenState} {d : Drawn} {t : Nat} {os : OsState}
/-- object.__setattr__ on an exception of an own class, up to the store into its own dict -/
theorem osa_way {K : Frag} {name : Str} {tk : Tok} {v : Value} {x C : Addr} {ox : Obj} {od : Option Obj} {cd : ClassData} {B newId initId : String} {tl : List Value} (hB : ExB B newId initId tl)
    (X : K.In hp) (I : InstAt hp x ox C od) (hcd : clsIn K C = some cd) (hm : cd.mro = .ref C :: tl) (ha : findIn K (.ref C) name = some none)
    (hq : wpAny (model prog w) (A.under (.builtin "object.__setattr__" ⟨[.ref x, .str name tk, v], []⟩)) (storeInOwnDict (.ref x) (.ref C) (.str name tk) name v false)
      (fun fin s2 => match fin with | .done f => R (.ok f) s2 | .again c2 => c2.quiet = true ∧ codeAny (model prog w) A c2 R s2) (fun e s2 => R (.error e) s2) ⟨hp, g, d, t, os⟩) :
    codeAny (model prog w) A (.call (.builtin "object.__setattr__") ⟨[.ref x, .str name tk, v], []⟩) R ⟨hp, g, d, t, os⟩ := by
  have slot := F.store_object
  have some1 : cd.mro.isEmpty = false := by rw [hm]; rfl
  have obj1 : cd.mro.contains (.type "object") = true := by rw [hm, List.contains_cons, hB.obj, Bool.or_true]
  have within : Looks (model prog w) hp (isInstance (.ref x) (.type "object")) true := I.type.andThen (looks_mroIn X (by unfold mroIn; rw [hcd, Option.bind_some, if_neg (by rw [some1]; decide), obj1]))
  refine codeAny_call_builtin slot.slot.plain slot.entry (@check_slot (model prog w) _ _ ⟨hp, g, d, t, os⟩ "object.__setattr__" "object" "__setattr__" (.ref x) [.str name tk, v] [] _ slot.kind slot.split within (slot.args (.ref x) (.str name tk) v) ?_)
  have line : Looks (model prog w) hp (mroOf (.ref C)) cd.mro := (looks_clsIn X hcd).andThen .now
  rw [osa_eq, refuse_eq]
  refine wpAny_bind (wpAny_bind (I.type.at (wpAny_bind (line.at ?_))))
  rw [hm, refuseLoop_ref, hB.pass]
  exact wpAny_pure (wpAny_bind (I.type.at (wpAny_bind ((looks_findIn X ha).at (wpAny_bind ((show Looks (model prog w) hp (storeTaker? none) none from .now).at hq))))))
theorem osa_first {K : Frag} {name : Str} {tk : Tok} {v : Value} {x C : Addr} {fv : Array Value} {cd : ClassData} {B newId initId : String} {tl : List Value} (hB : ExB B newId initId tl)
    (X : K.In hp) (hx : hp.get? x = some { cls := .ref C, data := .fields fv }) (hcd : clsIn K C = some cd) (hm : cd.mro = .ref C :: tl) (hd : cd.hasDict = true) (ha : findIn K (.ref C) name = some none)
    (hq : ∀ h2 tk2 dx, (∀ b o, b ≠ x → hp.get? b = some o → h2.get? b = some o) → hp.objs.size ≤ dx → dx ≠ x → h2.get? x = some { cls := .ref C, dict := some dx, data := .fields fv } →
      h2.Ns1 dx (fun y => if y = name then some v else none) → R (.ok (.ret .none)) ⟨h2, g, d, tk2, os⟩) :
    codeAny (model prog w) A (.call (.builtin "object.__setattr__") ⟨[.ref x, .str name tk, v], []⟩) R ⟨hp, g, d, t, os⟩ := by
  refine osa_way hB X (ox := { cls := .ref C, data := .fields fv }) (od := none) ⟨hx, rfl, rfl, trivial⟩ hcd hm ha ?_
  have far : x ≠ hp.objs.size := Nat.ne_of_lt (Heap.lt_size hx)
  have whole : Looks (model prog w) hp (classData C) cd := looks_clsIn X hcd
  obtain ⟨c1, c2, c3, c4, c5, c6, c7, c8, c9, c10, c11⟩ := cd
  cases (show c6 = true from hd)
  unfold storeInOwnDict ownDictForStores
  repeat (first | with_reducible refine store_in_new ?_ ?_ | with_reducible refine wpAny_loadPart_at hx ?_ | with_reducible refine whole.at ?_ | wp_step)
  · exact ⟨_, #[], _, (Heap.get?_update_ne _ _ _ _ far.symm).trans (Heap.get?_push_at rfl rfl), rfl, fun e he => absurd he (by simp), fun _ => rfl⟩
  · intro h2 tk2 ns same
    have there : (hp.push { cls := .type "dict", data := .dict #[] }).get? x = some { cls := .ref C, data := .fields fv } := Heap.get?_push_of_some _ hx
    exact hq h2 tk2 hp.objs.size (fun b o hb ho => (same.2 b (Nat.ne_of_lt (Heap.lt_size ho))).trans ((Heap.get?_update_ne _ _ _ _ hb).trans (Heap.get?_push_of_some _ ho))) (Nat.le_refl _) far.symm
      ((same.2 x far).trans (Heap.get?_update_self _ there rfl)) ns
theorem osa_next {K : Frag} {name : Str} {tk : Tok} {v : Value} {x C dx : Addr} {fv : Array Value} {cd : ClassData} {m0 : Str → Option Value} {nl : List Str} {B newId initId : String} {tl : List Value} (hB : ExB B newId initId tl)
    (X : K.In hp) (hx : hp.get? x = some { cls := .ref C, dict := some dx, data := .fields fv }) (hns : hp.Ns1 dx m0) (hw : Within m0 nl) (hz : nl.length ≤ 1000) (hcd : clsIn K C = some cd) (hm : cd.mro = .ref C :: tl) (hd : cd.hasDict = true) (ha : findIn K (.ref C) name = some none)
    (hq : ∀ h2 tk2, (∀ b o, b ≠ dx → hp.get? b = some o → h2.get? b = some o) → h2.Ns1 dx (fun y => if y = name then some v else m0 y) → R (.ok (.ret .none)) ⟨h2, g, d, tk2, os⟩) :
    codeAny (model prog w) A (.call (.builtin "object.__setattr__") ⟨[.ref x, .str name tk, v], []⟩) R ⟨hp, g, d, t, os⟩ := by
  obtain ⟨oD, esD, epD, hoD, hdD, _⟩ := hns.count hw
  refine osa_way hB X (ox := { cls := .ref C, dict := some dx, data := .fields fv }) (od := some oD) ⟨hx, rfl, rfl, hoD⟩ hcd hm ha ?_
  have whole : Looks (model prog w) hp (classData C) cd := looks_clsIn X hcd
  obtain ⟨c1, c2, c3, c4, c5, c6, c7, c8, c9, c10, c11⟩ := cd
  cases (show c6 = true from hd)
  unfold storeInOwnDict ownDictForStores
  repeat (first | with_reducible refine PySem.OEX.store_in_old hns hw hz ?_ | with_reducible refine wpAny_loadPart_at hx ?_ | with_reducible refine whole.at ?_ | wp_step)
  intro h2 tk2 ns same
  exact hq h2 tk2 (fun b o hb ho => (same.2 b hb).trans ho) ns
end
end VkX
end PySem
namespace Vk
open L2 PySem PySem.Spec PyProof.Rows PySem.VkX
/-- what the written part says of an own exception class over one of the four -/
structure OexK (K : PySem.W.Frag) (C : Addr) : Prop where
  cls : ∃ B newId initId tl nm q N bs sn sub ab col dd k0 k1 k2 k3 k5, ExB B newId initId tl ∧ K.lookup C = some (excClassObj nm q C N bs tl true sn sub ab col dd k0 k1 k2 k3 k5 newId)
  sa : PySem.W.findIn K (.ref C) "__setattr__" = some (some (.builtin "object.__setattr__"))
  kC : PySem.W.keepIn K (.ref C) = true
  xf : XfC K C
  ic : ExcC K C
section
variable {X : Cx} {pins : List (Addr × Obj)} {σ : L2.St} {H : Hp} {s : Shared} {a C dx : Addr} {f : Str} {y : V} {u : Value} {fs : List (Str × V)} {Q : Unit → Shared → Prop} {E : Value → Shared → Prop} {A : Around}
theorem kst_first (T : OexK X.K C) (I : Inv X pins σ H s) (e : H a = some (exo a C none)) (hno : PySem.W.findIn X.K (.ref C) f = some none) (ry : RelV y u)
    (h : ∀ dx s2, H dx = none → dx ≠ a → Inv X pins σ (upd (upd H dx (exd dx [(f, y)])) a (exo a C (some dx))) s2 → Q () s2) : wpAny (model X.prog X.w) A (setAttr (.ref a) f u) Q E s := by
  obtain ⟨B, newId, initId, tl, nm, q, N, bs, sn, sub, ab, col, dd, k0, k1, k2, k3, k5, hB, hC⟩ := T.cls
  have hcl : PySem.W.clsIn X.K C = some { name := nm, bases := bs, mro := .ref C :: tl, ns := N, qualname := q, hasDict := true, slotNames := sn, subclasses := sub, abstract := ab, collection := col, hasDel := false } := by unfold PySem.W.clsIn; rw [hC] <;> rfl
  obtain ⟨t1, ho⟩ := exo_at I.hok e
  obtain ⟨hp, g, d, t, os⟩ := s
  refine PySem.W.set_plain I.kIn (ox := { cls := .ref C, dict := none, data := .fields #[.ref t1, .none, .none, .none, .bool false, .none] }) (od := none) ⟨ho, rfl, rfl, trivial⟩ T.sa ?_
  refine osa_first hB I.kIn ho hcl rfl rfl hno fun h2 tk2 dx kept low apart put ns => ?_
  have free1 : H dx = none := I.hok.fresh low
  have old1 : ∀ {b : Addr} {o : Obj}, hp.get? b = some o → b ≠ dx := fun z => Nat.ne_of_lt (Nat.lt_of_lt_of_le (Heap.lt_size z) low)
  have not1 : ∀ {b : Addr}, H b = none → b ≠ a := fun n z => nomatch (z ▸ n).symm.trans e
  have un1 : Un X.fs [] H (upd (upd H dx (exd dx [(f, y)])) a (exo a C (some dx))) hp h2 := {
    keep := fun b o z n _ _ => kept b o (not1 n) z
    slot := fun b o z n _ _ => ⟨o.slots, kept b o (not1 n) z⟩
    free := fun b o z n _ => (upd_ne (not1 n)).trans ((upd_ne (old1 z)).trans n)
    there := fun b o z _ => by
      by_cases hb : b = a
      · exact ⟨_, hb ▸ put⟩
      · exact ⟨o, kept b o hb z⟩
    tups := fun b xs z => (upd_ne (at_ne e z exo_tup)).trans ((upd_ne (ne_of_none z free1)).trans z)
    frzs := fun b o v z => (upd_ne (at_ne e z exo_frz)).trans ((upd_ne (ne_of_none z free1)).trans z)
    tbls := fun b ps z => ⟨#[], by rw [upd_ne (at_ne e z exo_tbl), upd_ne (ne_of_none z free1), z]; simp⟩ }
  refine h dx _ free1 apart (I.un (t' := tk2) un1 fun b o z => ?_)
  by_cases hb : b = a
  · subst hb
    rw [upd_same] at z
    cases z
    exact exo_ok put
  · rw [upd_ne hb] at z
    by_cases hd : b = dx
    · subst hd
      rw [upd_same] at z
      cases z
      exact exd_ok ns (relO_put (fs := []) ry fun g => True.intro)
    · rw [upd_ne hd] at z
      refine (I.hok b o z).stay (fun c v hc r => kept c v ?_ r) (fun c hc => (upd_ne (at_ne e hc exo_own)).trans ((upd_ne (ne_of_none hc free1)).trans hc)) (fun c xs hc => (upd_ne (at_ne e hc exo_tup)).trans ((upd_ne (ne_of_none hc free1)).trans hc))
      exact hc.elim (fun z => z ▸ hb) (fun z => at_ne e z exo_own)
theorem kst_next (T : OexK X.K C) (I : Inv X pins σ H s) (e : H a = some (exo a C (some dx))) (ed : H dx = some (exd dx fs)) (hl : fs.length ≤ 900) (hno : PySem.W.findIn X.K (.ref C) f = some none) (ry : RelV y u)
    (h : ∀ s2, Inv X pins σ (upd H dx (exd dx ((f, y) :: fs))) s2 → Q () s2) : wpAny (model X.prog X.w) A (setAttr (.ref a) f u) Q E s := by
  obtain ⟨B, newId, initId, tl, nm, q, N, bs, sn, sub, ab, col, dd, k0, k1, k2, k3, k5, hB, hC⟩ := T.cls
  have hcl : PySem.W.clsIn X.K C = some { name := nm, bases := bs, mro := .ref C :: tl, ns := N, qualname := q, hasDict := true, slotNames := sn, subclasses := sub, abstract := ab, collection := col, hasDel := false } := by unfold PySem.W.clsIn; rw [hC] <;> rfl
  obtain ⟨t1, ho⟩ := exo_at I.hok e
  obtain ⟨mA, hns, rel⟩ := exd_at I.hok ed
  have hw := within_of rel
  obtain ⟨hp, g, d, t, os⟩ := s
  obtain ⟨oD, _, _, hoD, _, _⟩ := hns.count hw
  refine PySem.W.set_plain I.kIn (ox := { cls := .ref C, dict := some dx, data := .fields #[.ref t1, .none, .none, .none, .bool false, .none] }) (od := some oD) ⟨ho, rfl, rfl, hoD⟩ T.sa ?_
  refine osa_next hB I.kIn ho hns hw (by rw [List.length_map]; omega) hcl rfl rfl hno fun h2 tk2 kept ns => ?_
  exact h _ (I.write (t' := tk2) (x := dx) (e := dx) (o := exd dx ((f, y) :: fs)) (by rw [ed]; exact True.intro) (.inl rfl) kept (match ns with | ⟨o, _, _, z, _⟩ => ⟨o, z⟩) (exd_ok ns (relO_put ry rel)))
end
/-- self.f = e on such an exception -/
def tOsk (K : PySem.W.Frag) (f : Str) (to te : TE) : TS := fun D σ H => te σ H fun y H1 => to σ H1 fun x H2 => ∃ a C : Addr, x = .ref a ∧ OexK K C ∧ PySem.W.findIn K (.ref C) f = some none ∧
  ((H2 a = some (exo a C none) ∧ ∀ dx, H2 dx = none → dx ≠ a → D.nx σ (upd (upd H2 dx (exd dx [(f, y)])) a (exo a C (some dx)))) ∨
    ∃ (dx : Addr) (fs : List (Str × V)), H2 a = some (exo a C (some dx)) ∧ H2 dx = some (exd dx fs) ∧ fs.length ≤ 900 ∧ D.nx σ (upd H2 dx (exd dx ((f, y) :: fs))))
section
variable {X : Cx} {o e : Expr} {es : List Expr} {to te : TE} {ta : TA} {f : Str} {p p' p1 p2 pos : Pos}
theorem ps_osk (ho : PE X o to) (he : PE X e te) (hs : swapsWith e (some (.Attribute o f p')) pos.line X.env = pure false := by rfl) : PS X (.Assign [.Attribute o f p'] e pos) (tOsk X.K f to te) := by
  refine ⟨fun pins s σ H D I h => plainObj_wpAny_Assign_Attribute (thn (he.run pins s σ H _ I h) fun v s1 ⟨y, H1, I1, r1, q1⟩ => thn (ho.run pins s1 σ H1 _ I1 q1) fun u s2 ⟨x, H2, I2, r2, a, C, ex, T, hno, q⟩ => ?_) hs⟩
  subst ex
  obtain rfl : u = Value.ref a := r2
  exact q.elim (fun z => kst_first T I2 z.1 hno r1 fun dx s3 n ne J => ⟨σ, _, J, z.2 dx n ne⟩) (fun ⟨dx, fs, ea, ed, hl, z⟩ => kst_next T I2 ea ed hl hno r1 fun s3 J => ⟨σ, _, J, z⟩)
end
end Vk
set_option Elab.async false
set_option maxRecDepth 100000
set_option maxHeartbeats 4000000
set_option linter.all false
namespace Vk
open L2 PySem PySem.Spec PyProof.Rows PySem.VkX
/-! ## making one -/
/-- __init__(self, f1, ..): the fields stored in their order -/
def spIni (C : Addr) (fsn : List Str) : Sp := fun vs H Q E => ∃ a ws, vs = .ref a :: ws ∧ ws.length = fsn.length ∧ H a = some (exo a C none) ∧
  (fsn = [] → Q .non H) ∧ (fsn ≠ [] → ∀ d, H d = none → d ≠ a → Q .non (upd (upd H d (exd d (fsn.zip ws).reverse)) a (exo a C (some d))))
structure ClsI (P : Program) (w : World) (K : PySem.W.Frag) (mg : Str → Option Value) (base : Heap) (k : Nat) (x : Str) (C : Addr) (fsn : List Str) : Prop where
  T : OexK K C
  hm : mg x = some (.ref C)
  no : ∀ f ∈ fsn, PySem.W.findIn K (.ref C) f = some none
  ex : ∃ (fI : Addr) (fd : FuncData), PySem.W.findIn K (.ref C) "__init__" = some (some (.ref fI)) ∧ PySem.W.typeIn K (.ref fI) = some (.type "function") ∧ FnG P w K mg base CX0 k fI fd (("self" : Str) :: fsn) (spIni C fsn) ∧ Binds K fd (("self" : Str) :: fsn) [] ∧
    (∀ (s : Shared) (v : Value) (ws : List Value), K.In s.heap → ws.length = fsn.length → BindsTo s fd ⟨[v], fsn.reverse.zip ws⟩ ((("self" : Str) :: fsn).zip (v :: ws.reverse)))
theorem upd_over {H : Hp} {a d : Addr} {o1 o2 o3 : HO} (h : d ≠ a) : upd (upd (upd H a o1) d o2) a o3 = upd (upd H d o2) a o3 := by
  funext b
  by_cases hb : b = a
  · subst hb; rw [upd_same, upd_same]
  · rw [upd_ne hb, upd_ne hb]
    by_cases hd : b = d
    · subst hd; rw [upd_same, upd_same]
    · rw [upd_ne hd, upd_ne hd, upd_ne hb]
section
variable {X : Cx} {j k : Nat} {x : Str} {C : Addr} {fsn : List Str} {p pos : Pos} {e : Expr} {es : List Expr} {t : TA}
theorem few_len {n : Nat} (h : n ≤ 1000) : n ≤ sizeLine := Nat.le_trans h (by rw [sizeLine_eq]; decide)
end
end Vk
set_option Elab.async false
set_option maxRecDepth 100000
set_option maxHeartbeats 4000000
set_option linter.all false
namespace Vk
open L2 PySem PySem.Spec PyProof.Rows PySem.VkX
/-- the j-th statement of a class -/
def mtd (st : Stmt) (j : Nat) : Stmt := match st with
  | .ClassDef _ _ _ b _ _ _ _ _ _ _ => b.getD j (.Pass ⟨0, 0, 0, 0⟩)
  | _ => .Pass ⟨0, 0, 0, 0⟩
theorem no1 {P : Str → Prop} {a : Str} (h : P a) : ∀ f ∈ ([a] : List Str), P f := fun f z => by
  rw [List.mem_singleton] at z
  exact z ▸ h
theorem no2 {P : Str → Prop} {a b : Str} (h : P a) (h2 : P b) : ∀ f ∈ ([a, b] : List Str), P f := fun f z => by
  rcases List.mem_cons.mp z with z | z
  · exact z ▸ h
  · rw [List.mem_singleton] at z
    exact z ▸ h2
/-- the class at C has the name x and these classes behind it -/
def ClsN (K : PySem.W.Frag) (C : Addr) (x : Str) (tl : List Value) : Prop := ∃ newId q N bs sn sub ab col dd k0 k1 k2 k3 k5, K.lookup C = some (excClassObj x q C N bs tl true sn sub ab col dd k0 k1 k2 k3 k5 newId)
structure ExcTxt (K : PySem.W.Frag) (x qual : Str) (st : Stmt) (C fI : Addr) (fd : FuncData) (fsn : List Str) (tl : List Value) : Prop where
  cn : ClsN K C x tl
  ns : PySem.W.nsIn K mainGlobals x = some (some (.ref C))
  T : OexK K C
  iC : PySem.W.findIn K (.ref C) "__init__" = some (some (.ref fI))
  tI : PySem.W.typeIn K (.ref fI) = some (.type "function")
  no : ∀ f ∈ fsn, PySem.W.findIn K (.ref C) f = some none
  fn : Fun K "__init__" qual st fI fd
theorem exc_mk {K : PySem.W.Frag} {x qual : Str} {st : Stmt} {C fI : Addr} {fsn : List Str} {B newId initId : String} {tl : List Value} {q : Str} {N : Addr} {bs : List Value} {sn : List Str} {sub : List Value} {ab : Bool} {col : Option Bool} {dd : Option Addr} {k0 k1 k2 k3 k5 : Option Value}
    {oc : Value} {od an : Option Addr} {sl : Array (Option Value)} {kV doc pm cd ct : Value} (hB : ExB B newId initId tl) (ns : PySem.W.nsIn K mainGlobals x = some (some (.ref C))) (iC : PySem.W.findIn K (.ref C) "__init__" = some (some (.ref fI)))
    (cls : K.lookup C = some (excClassObj x q C N bs tl true sn sub ab col dd k0 k1 k2 k3 k5 newId)) (sa : PySem.W.findIn K (.ref C) "__setattr__" = some (some (.builtin "object.__setattr__"))) (kC : PySem.W.keepIn K (.ref C) = true)
    (ga : PySem.W.findIn K (.ref C) "__getattribute__" = some (some (.builtin "BaseException.__getattribute__"))) (gg : PySem.W.findIn K (.ref C) "__getattr__" = some none) (ex : PySem.W.subIn K (.ref C) (.type "BaseException") = some true) (hd : PySem.W.hasDictIn K C = true)
    (ha : PySem.W.findIn K (.ref C) "__class__" = some (some (.builtin "object.__class__"))) (hn : PySem.W.specialIn K (.builtin "object.__class__") "__get__" = some (some (.builtin "getset_descriptor.__get__"))) (ht : PySem.W.takesIn K (.builtin "object.__class__") = some true)
    (hm : PySem.W.mroIn K C (.type "object") = some true) (tI : PySem.W.typeIn K (.ref fI) = some (.type "function")) (kI : PySem.W.keepIn K (.ref fI) = true) (no : ∀ f ∈ fsn, PySem.W.findIn K (.ref C) f = some none)
    (l : K.lookup fI = some ⟨oc, od, .func (PySem.W.fnOf "__init__" qual (defArgs st) (defBody st) (defScope st) .none kV doc pm an cd ct), sl⟩) (c : PySem.W.codeIn K cd qual = true) :
    ExcTxt K x qual st C fI (PySem.W.fnOf "__init__" qual (defArgs st) (defBody st) (defScope st) .none kV doc pm an cd ct) fsn tl := by
  exact ⟨⟨newId, q, N, bs, sn, sub, ab, col, dd, k0, k1, k2, k3, k5, cls⟩, ns, ⟨⟨B, newId, initId, tl, x, q, N, bs, sn, sub, ab, col, dd, k0, k1, k2, k3, k5, hB, cls⟩, sa, kC, ⟨ga, gg, ex, hd⟩, ⟨ga, gg, ex, hd, ha, hn, ht, hm⟩⟩, iC, tI, no, fun_mk l c kI⟩
section
variable {P : Program} {w : World} {K : PySem.W.Frag} {mg : Str → Option Value} {base h : Heap} {x qual f f2 : Str} {st : Stmt} {C fI : Addr} {fd : FuncData} {p1 p2 p3 p4 q1 q2 q3 q4 : Pos}
theorem ClsI.of1 {tl : List Value} (G : ExcTxt K x qual st C fI fd [f] tl) (KX : K.In h) (Gn : h.Ns mainGlobals mg) (F : FnG P w K mg base CX0 1 fI fd [("self" : Str), f] (spIni C [f]))
    (hb : ∀ (kV doc pm : Value) (an : Option Addr) (cdv ct v y : Value), bindArgs (PySem.W.fnOf "__init__" qual (defArgs st) (defBody st) (defScope st) .none kV doc pm an cdv ct) ⟨[v, y], []⟩ = pure [(("self" : Str), v), (f, y)])
    (hk : ∀ (kV doc pm : Value) (an : Option Addr) (cdv ct v y : Value), bindArgs (PySem.W.fnOf "__init__" qual (defArgs st) (defBody st) (defScope st) .none kV doc pm an cdv ct) ⟨[v], [((f : Str), y)]⟩ = pure [(("self" : Str), v), (f, y)]) : ClsI P w K mg base 1 x C [f] where
  T := G.T
  hm := PySem.W.mg_of KX Gn G.ns
  no := G.no
  ex := ⟨fI, fd, G.iC, G.tI, F, G.fn.binds fun kV doc pm an cdv ct us hl => match us, hl with | [v, y], _ => hb kV doc pm an cdv ct v y, fun s v ws KI hl => by
    match ws, hl with
    | [y], _ =>
      obtain ⟨oc, od, kV, doc, pm, an, cdv, ct, osl, rfl, lk, hcd⟩ := G.fn.ex
      exact .of_eq (hk kV doc pm an cdv ct v y)⟩
end
end Vk
namespace Vk
open L2 PySem PySem.Spec PyProof.Rows PySem.VkX
end Vk
set_option Elab.async false
set_option maxRecDepth 100000
set_option maxHeartbeats 4000000
set_option linter.all false
namespace Vk
open L2 PySem PySem.Spec PyProof.Rows PySem.VkX
/-! ## values that are shown, dicts among them -/
inductive Atm : V → PyData → Prop
  | non : Atm .non .none
  | bl (b : Bool) : Atm (.bl b) (.bool b)
  | int (i : Int) : Atm (.int i) (.int i)
  | str (x : Str) : Atm (.str x) (.str x)
def kvS (ps : List (Str × Str)) : List (Key × V) := ps.map fun p => (Sum.inr p.1, V.str p.2)
def kvD (ps : List (Str × Str)) : List (PyData × PyData) := ps.map fun p => (.str p.1, .str p.2)
/-- one level deep -/
inductive Th (H : Hp) : V → PyData → Prop
  | atm {v : V} {d : PyData} : Atm v d → Th H v d
  | lst {a : Addr} {xs : List V} {ds : List PyData} : H a = some (.lst xs) → a ≠ sysModules → Paired Atm xs ds → Th H (.ref a) (.list ds)
  | tup {a : Addr} {xs : List V} {ds : List PyData} : H a = some (.tup xs) → Paired Atm xs ds → Th H (.ref a) (.tuple ds)
  | dct {a : Addr} {ps : List (Str × Str)} : H a = some (.dK (kvS ps)) → Th H (.ref a) (.dict (kvD ps))
theorem Th.keep {H H' : Hp} {v : V} {d : PyData} (h : Th H v d) (k : ∀ a o, H a = some o → H' a = some o) : Th H' v d := by
  cases h with
  | atm h => exact .atm h
  | lst e n h => exact .lst (k _ _ e) n h
  | tup e h => exact .tup (k _ _ e) h
  | dct e => exact .dct (k _ _ e)
section
variable {X : Cx} {pins : List (Addr × Obj)} {σ : L2.St} {H : Hp} {s : Shared}
theorem Atm.reads {h : Heap} {v : V} {u : Value} {d : PyData} (a : Atm v d) (r : RelV v u) : Reads h u d [] ∧ d.hasDict = false := by
  cases a with
  | non => cases r; exact ⟨Reads.none, by simp only [PyData.hasDict]⟩
  | bl b => cases r; exact ⟨Reads.bool b, by simp only [PyData.hasDict]⟩
  | int i => obtain ⟨t, rfl⟩ := r; exact ⟨Reads.int i t, by simp only [PyData.hasDict]⟩
  | str x => obtain ⟨t, rfl⟩ := r; exact ⟨Reads.str x t, by simp only [PyData.hasDict]⟩
theorem atms_reads {h : Heap} : ∀ {vs : List V} {ds : List PyData} {us : List Value}, Paired Atm vs ds → Vals vs us → ReadsAll h us ds [] ∧ PyData.hasDictAll ds = false
  | _, _, _, .nil, .nil => ⟨ReadsAll.nil, by simp only [PyData.hasDictAll]⟩
  | _, _, _, .cons a t, .cons r rs => by
    obtain ⟨h1, n1⟩ := a.reads (h := h) r
    obtain ⟨h2, n2⟩ := atms_reads (h := h) t rs
    exact ⟨ReadsAll.cons h1 h2, by simp only [PyData.hasDictAll, n1, n2, Bool.or_false]⟩
theorem strs_read {P : Program} {w : World} {h : Heap} : ∀ {ps : List (Str × Str)} {vs : List (Key × Value)} {es : List DictEntry}, KV (kvS ps) vs → Pairs (mixKind P w) es vs →
    ReadsAll h (es.map (·.key)) ((kvD ps).map (·.1)) [] ∧ ReadsAll h (es.map (·.val)) ((kvD ps).map (·.2)) []
  | [], _, _, .nil, .nil => ⟨ReadsAll.nil, ReadsAll.nil⟩
  | p :: ps, _, _, .cons a t, .cons k v r => by
    obtain ⟨h1, h2⟩ := strs_read (P := P) (w := w) (h := h) (ps := ps) t r
    obtain ⟨e1, e2⟩ := a
    rw [mixKind_is, ← e1] at k
    obtain ⟨y, ey⟩ := (show ∃ y, _ = Value.str p.2 y from e2)
    rcases keyIs_shape k with ⟨i, t, z, _⟩ | ⟨x, t, z, z2⟩
    · cases z
    · cases z
      refine ⟨?_, ?_⟩
      · have q := ReadsAll.cons (Reads.str (h := h) p.1 t) h1
        rw [← z2] at q
        exact q
      · have q := ReadsAll.cons (Reads.str (h := h) p.2 y) h2
        rw [← ey, ← v] at q
        exact q
theorem Th.reads (I : Inv X pins σ H s) {v : V} {u : Value} {d : PyData} (h : Th H v d) (r : RelV v u) : ∃ as, Reads s.heap u d as ∧ sysModules ∉ as := by
  cases h with
  | atm a =>
    obtain ⟨h1, n⟩ := a.reads (h := s.heap) r
    exact ⟨_, h1, List.not_mem_nil⟩
  | lst e ne a =>
    cases r
    obtain ⟨its, rv, ⟨o, n, ho, hc, _, hd⟩, _⟩ := I.list (SqL.of e)
    obtain ⟨h1, n1⟩ := atms_reads (h := s.heap) a rv
    exact ⟨_, Reads.list ho hc hd h1, fun z => by simp at z; exact ne z.symm⟩
  | tup e a =>
    cases r
    obtain ⟨its, rv, ⟨o, ho, hc, n, hd⟩, _⟩ := I.tuple (SqT.of e)
    obtain ⟨h1, n1⟩ := atms_reads (h := s.heap) a rv
    exact ⟨_, Reads.tuple ho hc hd h1, List.not_mem_nil⟩
  | @dct a ps e =>
    cases r
    obtain ⟨_, ne, vs, kv, o, es, ep, ho, ex, hd, _, pr, _⟩ := (show ObjOk X.prog X.w H s.heap a (.dK (kvS ps)) from I.hok a _ e)
    obtain ⟨h1, h2⟩ := strs_read (h := s.heap) kv pr
    refine ⟨_, Reads.dict ho ex.1 hd h1 h2, fun hm => ?_⟩
    have z : sysModules = a := by simpa using hm
    rw [← z] at ne
    exact absurd ne (by decide)
/-- what is handed to repr -/
def Shw (H : Hp) (x : V) (d : PyData) : Prop := Th H x d ∨ ∃ q y e, x = .ref q ∧ H q = some (.lst [y, y]) ∧ q ≠ sysModules ∧ Th H y e ∧ d = .list [e, e]
theorem Shw.reads (I : Inv X pins σ H s) {v : V} {u : Value} {d : PyData} (h : Shw H v d) (r : RelV v u) : ∃ as, Reads s.heap u d as ∧ (d.hasDict = true → sysModules ∉ as) := by
  rcases h with h | ⟨q, y, d, rfl, e, ne, t, rfl⟩
  · obtain ⟨as, h1, n1⟩ := h.reads I r
    exact ⟨as, h1, fun _ => n1⟩
  · cases r
    obtain ⟨its, rv, ⟨o, n, ho, hc, _, hd⟩, _⟩ := I.list (SqL.of e)
    cases rv with
    | cons r1 rv =>
      cases rv with
      | cons r2 rv =>
        cases rv
        obtain ⟨as, h1, n1⟩ := t.reads I r1
        obtain ⟨bs, h2, n2⟩ := t.reads I r2
        refine ⟨_, Reads.list ho hc hd (ReadsAll.cons h1 (ReadsAll.cons h2 ReadsAll.nil)), fun z => ?_⟩
        simp only [PyData.hasDict, PyData.hasDictAll, Bool.or_false, Bool.or_self] at z
        have m1 := n1
        have m2 := n2
        simp only [List.append_nil, List.mem_cons, List.mem_append, not_or]
        exact ⟨fun w => ne w.symm, m1, m2⟩
end
section
variable {X : Cx} {es : List Expr} {pos : Pos} {t : TA}
theorem call_reprT (hg : X.A.guards = some []) (hu : X.A.units + 64 < cLine) : CallR X (.builtin "repr") (fun xs H Q => ∃ x d, xs = [x] ∧ Shw H x d ∧ d.showable = true ∧ d.depth ≤ 60 ∧ d.shown.length ≤ sizeLine ∧ Q (.str d.shown) H) := by
  intro pins s σ H xs us Q I r h
  obtain ⟨x, d, rfl, hd, hs, hdp, hz, q⟩ := h
  cases r with
  | cons r1 r2 =>
  cases r2
  obtain ⟨as, rd, nm⟩ := hd.reads I r1
  have far : ∀ {a : Addr}, Reads s.heap (.ref a) d as → wpAny (model X.prog X.w) X.A (call (.builtin "repr") [.ref a]) (EP X pins σ Q) X.xe s := fun rd => repr_of_reads' rd hs nm hg (by omega) (fun _ _ e => e) (fun h2 u tk hk => ⟨V.str _, H, I.kept hk, ⟨u, rfl⟩, q⟩) hz
  rcases hd with h | ⟨p, y, e, rfl, _⟩
  · cases h with
    | atm a =>
      cases a with
      | non => cases r1; exact PySem.P.repr_of_none ⟨V.str _, H, I.tok _, ⟨_, rfl⟩, q⟩
      | bl b => cases r1; exact PySem.P.repr_of_bool ⟨V.str _, H, I.tok _, ⟨_, rfl⟩, q⟩
      | int i =>
        obtain ⟨t, rfl⟩ := r1
        exact PySem.P.repr_of_int (of_decide_eq_true hs) ⟨V.str _, H, I.tok _, ⟨_, rfl⟩, q⟩
      | str z =>
        obtain ⟨t, rfl⟩ := r1
        exact PySem.P.repr_of_str ⟨V.str _, H, I.tok _, ⟨_, rfl⟩, q⟩ hz
    | lst e n h => cases r1; exact far rd
    | tup e h => cases r1; exact far rd
    | dct e => cases r1; exact far rd
  · cases r1; exact far rd
/-- [e, ..]: the new list does not stand where the modules do -/
def tLs1 (t : TA) : TE := fun σ H Q => t σ H fun xs H1 => xs.length ≤ sizeLine ∧ ∀ p, H1 p = none → p ≠ sysModules → Q (.ref p) (upd H1 p (.lst xs))
theorem pe_ls1 (h : PA X es t) : PE X (.List es pos) (tLs1 t) := by
  refine ⟨fun pins s σ H Q I hq => wpAny_List_spliced (thn (h.run pos pins s σ H _ I hq) fun us s1 ⟨xs, H1, I1, r, z, q⟩ => ⟨r.length ▸ z, ?_⟩)⟩
  have free1 : H1 s1.heap.objs.size = none := I1.hok.fresh (Nat.le_refl _)
  obtain ⟨o, _, _, ho, _⟩ := I1.mod.glob
  have big : mainGlobals < s1.heap.objs.size := Heap.lt_size (I1.bk _ _ ho)
  have ne : s1.heap.objs.size ≠ sysModules := fun z => by
    rw [z] at big
    exact absurd big (by decide)
  exact ⟨.ref s1.heap.objs.size, _, I1.laid (t' := s1.toks) (o := .lst xs) (fun b u e => Heap.get?_push_of_some _ e) (Nat.le_refl _) ⟨z, us, 0, r, Heap.get?_push_size _ rfl⟩, rfl, q _ free1 ne⟩
end
end Vk
set_option Elab.async false
set_option maxRecDepth 100000
set_option maxHeartbeats 4000000
set_option linter.all false
namespace Vk
open L2 PySem PySem.Spec PyProof.Rows PySem.VkX
/-! ## isinstance among own exception classes -/
section
variable {K : PySem.W.Frag} {C D : Addr} {x y : Str} {tl tl2 : List Value}
theorem ClsN.cls (c : ClsN K C x tl) : ∃ cd, PySem.W.clsIn K C = some cd ∧ cd.name = x ∧ cd.mro = .ref C :: tl ∧ PySem.W.typeIn K (.ref C) = some (.type "type") := by
  obtain ⟨newId, q, N, bs, sn, sub, ab, col, dd, k0, k1, k2, k3, k5, e⟩ := c
  refine ⟨{ name := x, bases := bs, mro := .ref C :: tl, ns := N, qualname := q, hasDict := true, slotNames := sn, subclasses := sub, abstract := ab, collection := col, hasDel := false }, ?_, rfl, rfl, ?_⟩
  · unfold PySem.W.clsIn; rw [e] <;> rfl
  · show (K.lookup C).map (·.cls) = _
    rw [e] <;> rfl
theorem ClsN.inj (c : ClsN K C x tl) (d : ClsN K D y tl2) : (C == D) = true → x = y := by
  intro h
  have e : C = D := by simpa using h
  subst e
  obtain ⟨cd, h1, h2, _⟩ := c.cls
  obtain ⟨ce, g1, g2, _⟩ := d.cls
  cases h1.symm.trans g1
  exact h2.symm.trans g2
/-- what stands at a name is one class -/
structure One (K : PySem.W.Frag) (C : Addr) (x : Str) (tl : List Value) : Prop where
  cn : ClsN K C x tl
  ns : PySem.W.nsIn K mainGlobals x = some (some (.ref C))
  rf : tl.all (fun v => match v with | .type _ => true | _ => false) = true
theorem notIn_types {l : List Value} (h : l.all (fun v => match v with | .type _ => true | _ => false) = true) : l.contains (.ref D) = false := by
  induction l with
  | nil => rfl
  | cons a r ih =>
    rw [List.all_cons, Bool.and_eq_true] at h
    rw [List.contains_cons, ih h.2, Bool.or_false]
    cases a <;> first | rfl | (exact absurd h.1 (by simp)) | simp
theorem kit_type {T : String} (c : One K C x tl) (hT : PySem.W.kitMeta T = true) : PySem.W.kitOne K (.ref C) (.type T) = some (tl.contains (.type T)) := by
  obtain ⟨cd, h1, h2, h3, h4⟩ := c.cn.cls
  unfold PySem.W.kitOne
  have far : ¬ ((Value.ref C == Value.type T) = true) := fun z => nomatch (beq_iff_eq.mp z)
  rw [if_neg far]
  show (if PySem.W.kitMeta T = true then PySem.W.subIn K (.ref C) (.type T) else none) = _
  rw [if_pos hT]
  show PySem.W.mroIn K C (.type T) = _
  unfold PySem.W.mroIn
  rw [h1, Option.bind_some, h3, if_neg (by simp), List.contains_cons]
  have ne : (Value.type T == Value.ref C) = false := beq_eq_false_iff_ne.mpr (fun z => nomatch z)
  rw [ne, Bool.false_or]
end
/-! ## list.count -/
/-! ## a comprehension over zip of two lists of one length -/
end Vk
set_option Elab.async false
set_option maxRecDepth 100000
set_option maxHeartbeats 4000000
set_option linter.all false
namespace Vk
open L2 PySem PySem.Spec PyProof.Rows PySem.VkX
/-! ## what is laid, told by what it shows -/
theorem Same.rfl {H : Hp} : Same H H := fun _ _ h => h
theorem Same.trans {H H1 H2 : Hp} (a : Same H H1) (b : Same H1 H2) : Same H H2 := fun c o h => b c o (a c o h)
def MkA (t : TE) (d : PyData) : Prop := ∃ v, Atm v d ∧ ∀ σ H Q, Q v H → t σ H Q
def MkAs (t : TA) (ds : List PyData) : Prop := ∃ vs, Paired Atm vs ds ∧ ∀ σ H Q, Q vs H → t σ H Q
def Mk (t : TE) (d : PyData) : Prop := ∀ σ H Q, (∀ v H', Same H H' → Th H' v d → Q v H') → t σ H Q
section
variable {t te : TE} {ta : TA} {d : PyData} {ds : List PyData}
theorem ma_non : MkA (tC .non) .none := ⟨_, .non, fun _ _ _ q => q⟩
theorem ma_bl {b : Bool} : MkA (tC (.bl b)) (.bool b) := ⟨_, .bl b, fun _ _ _ q => q⟩
theorem ma_int {i : Int} : MkA (tC (.int i)) (.int i) := ⟨_, .int i, fun _ _ _ q => q⟩
theorem ma_str {x : Str} : MkA (tC (.str x)) (.str x) := ⟨_, .str x, fun _ _ _ q => q⟩
theorem ma_neg {i : Int} : MkA (tUn (rU fun i => V.int (-i)) (tC (.int i))) (.int (-i)) := ⟨_, .int (-i), fun _ _ _ q => ⟨i, rfl, q⟩⟩
theorem ma_pow {i j : Int} (h : CPow i j) : MkA (tOp (rI CPow fun i j => V.int (i ^ j.toNat)) (tC (.int i)) (tC (.int j))) (.int (i ^ j.toNat)) := ⟨_, .int _, fun _ _ _ q => ⟨i, j, rfl, rfl, h, q⟩⟩
theorem ma_mul {z : Str} {n : Int} (h : CMulS z n) : MkA (tOp rMulS (tC (.str z)) (tC (.int n))) (.str (Txt.mul z n)) := ⟨_, .str _, fun _ _ _ q => ⟨z, n, rfl, rfl, h, q⟩⟩
theorem mas_nil : MkAs tNil [] := ⟨[], .nil, fun _ _ _ q => q⟩
theorem mas_cons (a : MkA te d) (b : MkAs ta ds) : MkAs (tCons te ta) (d :: ds) := by
  obtain ⟨v, h1, h2⟩ := a
  obtain ⟨vs, g1, g2⟩ := b
  exact ⟨v :: vs, .cons h1 g1, fun σ H Q q => h2 σ H _ (g2 σ H _ q)⟩
theorem paired_len {α β : Type} {R : α → β → Prop} : ∀ {xs : List α} {ys : List β}, Paired R xs ys → xs.length = ys.length
  | _, _, .nil => rfl
  | _, _, .cons _ t => congrArg (· + 1) (paired_len t)
theorem ths_keep {H H' : Hp} (k : Same H H') : ∀ {vs : List V} {ds : List PyData}, Paired (Th H) vs ds → Paired (Th H') vs ds
  | _, _, .nil => .nil
  | _, _, .cons a t => .cons (a.keep k) (ths_keep k t)
theorem paired_app {α β : Type} {R : α → β → Prop} : ∀ {xs : List α} {ys : List β} {us : List α} {vs : List β}, Paired R xs ys → Paired R us vs → Paired R (xs ++ us) (ys ++ vs)
  | _, _, _, _, .nil, b => b
  | _, _, _, _, .cons a t, b => .cons a (paired_app t b)
theorem paired_mem {α β : Type} {R : α → β → Prop} : ∀ {xs : List α} {ys : List β} {x : α}, Paired R xs ys → x ∈ xs → ∃ y, y ∈ ys ∧ R x y
  | _, _, _, .cons a t, h => by
    rcases List.mem_cons.mp h with rfl | h
    · exact ⟨_, List.mem_cons_self, a⟩
    · obtain ⟨y, h1, h2⟩ := paired_mem t h
      exact ⟨y, List.mem_cons_of_mem _ h1, h2⟩
end
/-- nothing of such a value is the pen -/
theorem Th.ext {H H' : Hp} {p c : Addr} {T : Nat} {v : V} {d : PyData} (h : Th H v d) (hp : Pen H p c T) (x : Ext p H H') : Th H' v d := by
  obtain ⟨ns, t, l, hpp, _⟩ := hp.ex
  cases h with
  | atm a => exact .atm a
  | lst e n a => exact .lst (x _ _ e (fun z => by rw [z, hpp] at e; cases e)) n a
  | tup e a => exact .tup (x _ _ e (fun z => by rw [z, hpp] at e; cases e)) a
  | @dct a ps e =>
    refine .dct (x _ _ e (fun z => ?_))
    rw [z, hpp] at e
    have e2 : penL c t l = kvS ps := HO.dK.inj (Option.some.inj e)
    match ps, e2 with
    | [], e2 => cases e2
    | q :: r, e2 =>
      have z := congrArg (fun l => (l.head?).map (·.2)) e2
      cases z
end Vk
namespace Vk
open L2 PySem PySem.Spec PyProof.Rows PySem.VkX
theorem seq_asg {te : TE} {g : TG} {u : TS} {D : Ends} {σ : L2.St} {H : Hp} (h : te σ H fun v H1 => g v σ H1 (u D)) : tSeq (tAsg te g) u D σ H := h
end Vk
namespace Vk
open L2 PySem PySem.Spec PyProof.Rows PySem.VkX
def okB (d : PyData) : Bool := d.showable && decide (d.depth ≤ 60) && decide (d.shown.length ≤ 1000) && (PyData.list [d, d]).showable && decide ((PyData.list [d, d]).depth ≤ 60) && decide ((PyData.list [d, d]).shown.length ≤ 10000)
end Vk
set_option Elab.async false
set_option maxRecDepth 100000
set_option maxHeartbeats 4000000
set_option linter.all false
namespace Vk
open L2 PySem PySem.Spec PyProof.Rows PySem.VkX
/-! ## several except clauses, with a name or without -/
abbrev Sui := Addr → Value → Option Addr → TS
inductive Clz
  | only (c : Value) (ts : Sui)
  | named (c : Value) (i : Nat) (ts : Sui)
/-- the ends of a suite whose name lies in slot i: the name is gone behind it -/
def gone (D : Ends) (i : Nat) : Ends := { nx := fun σ H => D.nx (σ.set i none) H, rt := D.rt, bk := fun σ H => D.bk (σ.set i none) H, ct := fun σ H => D.ct (σ.set i none) H }
def wEach (K : PySem.W.Frag) (W0 : WX) (D : Ends) : List Clz → WX
  | [] => W0
  | .only c ts :: r => fun cls d σ H => ∃ b, PySem.W.exmOne K cls c = some b ∧ (b = true → ∀ a, H a = none → ts a cls d D σ H) ∧ (b = false → wEach K W0 D r cls d σ H)
  | .named c i ts :: r => fun cls d σ H => ∃ b, PySem.W.exmOne K cls c = some b ∧ (b = true → ∀ a, H a = none → ts a cls d (gone D i) (σ.set i (some (.ref a))) H) ∧ (b = false → wEach K W0 D r cls d σ H)
def SuiOk (X : Cx) (ss : List Stmt) (ts : Sui) : Prop := ∀ (a : Addr) (oe : Obj) (cls : Value) (d : Option Addr) (pn : List (Addr × Obj)), Zc cls d oe → (∃ vs, oe.data = .fields vs) → PSs (X.suite a ((a, oe) :: pn)) ss (ts a cls d)
inductive ClzOk (X : Cx) : List ExceptHandler → List Clz → Prop
  | nil : ClzOk X [] []
  | only {x : Str} {c : Value} {ts : Sui} {s0 : Stmt} {ss : List Stmt} {p1 p2 : Pos} {hs : List ExceptHandler} {l : List Clz} (hc : Names X x c) (su : SuiOk X (s0 :: ss) ts) (r : ClzOk X hs l) : ClzOk X (.ExceptHandler (some (.Name x p1)) none (s0 :: ss) p2 :: hs) (.only c ts :: l)
  | named {x n : Str} {c : Value} {i : Nat} {ts : Sui} {s0 : Stmt} {ss : List Stmt} {p1 p2 : Pos} {hs : List ExceptHandler} {l : List Clz} (hi : X.N[i]? = some n) (hl : X.env.kindOf n = some .local) (hc : Names X x c) (su : SuiOk X (s0 :: ss) ts) (r : ClzOk X hs l) :
      ClzOk X (.ExceptHandler (some (.Name x p1)) (some n) (s0 :: ss) p2 :: hs) (.named c i ts :: l)
section
variable {X : Cx} {body : List Stmt} {e0 : ExceptHandler} {es : List ExceptHandler} {l : List Clz} {pos : Pos} {tb : WX → TS} {W0 : WX}
theorem ps_try_each (hs : X.stack = X.env :: X.outer) (hf : X.env.frame = some X.env.locals) (hN : X.N.Nodup) (tk : Takes X W0)
    (hb : ∀ (W : WX) (pn : List (Addr × Obj)) (xe : Value → Shared → Prop), Takes (X.tr pn xe) W → PassesOwn (model X.prog X.w) X.A X.env xe → PSs (X.tr pn xe) body (tb W))
    (hh : ClzOk X (e0 :: es) l) : PS X (.Try body (e0 :: es) [] [] pos) (fun D σ H => tb (wEach X.K W0 D l) D σ H) := by
  constructor
  intro pins s σ H D I h
  have fine := I.ok
  have frames : X.A.frames = some (X.env :: X.outer) := fine.frames.trans (by rw [hs])
  let caught : Value → Shared → Prop := fun e t1 => wpAny (model X.prog X.w) X.A (noteFrame e X.env) (fun _ t2 => wpAny (model X.prog X.w) X.A (setFlight e none) (fun _ t3 => wpAny (model X.prog X.w) X.A (handleBy e X.env (e0 :: es)) (SP X pins D) X.xe t3) X.xe t2) X.xe t1
  have taken : Takes (X.tr (X.pn ++ pins) caught) (wEach X.K W0 D l) := by
    rintro u t1 ⟨a, B, sI, pins1, σ1, H1, cls, d, rfl, J0, ground, up, sky, na, os, ag, wish⟩
    have J : Inv X pins σ1 H1 sI := J0.ofTry fine
    have sky1 : Sky B (X.env :: X.outer) a (Zc cls d) X.env.locals t1.heap := hs ▸ sky
    show wpAny (model X.prog X.w) X.A (noteFrame (.ref a) X.env) _ _ _
    refine Sky.land Zc.steady frames hf sky1 fun h3 fl3 up3 => ?_
    have J3 : Inv X pins σ1 H1 { t1 with heap := h3 } := J.landed ground fl3.1 (up.trans up3) os ag
    obtain ⟨o3, v3, at3, z3, dat3⟩ := fl3.there
    have apart : a ∉ frs (X.env :: X.outer) := by
      intro hm
      obtain ⟨_, o, eo, plain⟩ := fl3.2.2.1.mem hm
      rw [at3] at eo
      cases eo
      exact plain _ dat3
    have notLoc : a ≠ X.env.locals := fun z => apart (List.mem_filterMap.mpr ⟨X.env, List.mem_cons_self, hf.trans (congrArg some z.symm)⟩)
    have notFs : a ∉ X.fs := fun hm => match List.mem_filterMap.mp hm with | ⟨e, he, q⟩ => apart (List.mem_filterMap.mpr ⟨e, List.mem_cons_of_mem _ he, q⟩)
    have S3 := J3.suite at3 dat3 na notLoc notFs
    have typed : PySem.W.Looks (model X.prog X.w) h3 (typeOf (.ref a)) cls := fun A Q E s k q => wpAny_typeOf_ref (k _ _ at3) (z3.1.symm ▸ q)
    have asked : ∀ {x : Str} {c : Value} {p1 : Pos} {Q : Value → Shared → Prop} {E : Value → Shared → Prop}, Names X x c → Q c { t1 with heap := h3 } → wpAny (model X.prog X.w) (X.A.mark (some (.ref a))) (eval (.Name x p1) X.env) Q E { t1 with heap := h3 } := by
      rintro x c p1 Q E ⟨g1, g2, g3⟩ q
      rcases g3 with g3 | ⟨g3, g4, g5⟩
      · exact ld_glob (X := X.suite a ((a, o3) :: (X.pn ++ pins))) S3 g1 g3 q g2
      · exact ld_blt (X := X.suite a ((a, o3) :: (X.pn ++ pins))) S3 g1 g3 g4 q g5 g2
    have walk : ∀ {hs1 : List ExceptHandler} {l1 : List Clz}, ClzOk X hs1 l1 → wEach X.K W0 D l1 cls d σ1 H1 → wpAny (model X.prog X.w) X.A (handleBy (.ref a) X.env hs1) (SP X pins D) X.xe { t1 with heap := h3 } := by
      intro hs1 l1 ok1
      induction ok1 with
      | nil =>
        intro w
        refine wpAny_handleBy_nil ?_
        obtain ⟨_, _, _, oe, vs, tr, _, _, he, _, hd, first1, _⟩ := id fl3
        unfold PySem.passOn
        refine wpAny_bind (wpAny_field he hd first1 ?_)
        rw [if_neg (show ¬ ((Value.ref tr == Value.none) = true) from by simp)]
        have out : wpAny (model X.prog X.w) X.A (setFlight (.ref a) X.env.frame) (fun _ t4 => wpAny (model X.prog X.w) X.A (throw (.ref a) : Sem Flow) (SP X pins D) X.xe t4) X.xe { t1 with heap := h3 } := by
          rw [hf]
          exact HandSPX.setFlight_upZ fl3 fun h4 held up4 => wpAny_throw (tk _ _ ⟨a, B, sI, pins, σ1, H1, cls, d, rfl, J, ground, (up.trans up3).trans up4, .inr (.inr (hs.symm ▸ held)), na, os, ag, w⟩)
        first
          | exact wpAny_bind (wpAny_pure (wpAny_bind out))
          | exact wpAny_bind out
      | only hc su r ih =>
        rintro ⟨b, m, yes, no⟩
        refine wpAny_handleBy_cons (codeAny_handlers_test (asked hc ((PySem.W.exm_one (M := model X.prog X.w) J3.kIn typed m).here ?_))) (by intro q; cases q)
        cases b with
        | false => exact ih (no rfl)
        | true =>
          refine codeAny_handlers_suite (HandSPX.lands_againZ fl3 fun h4 fl4 up4 => ?_)
          have J4 : Inv X pins σ1 H1 { t1 with heap := h4 } := J.landed ground fl4.1 ((up.trans up3).trans up4) os ag
          obtain ⟨o4, v4, at4, z4, dat4⟩ := fl4.there
          have S4 := J4.suite at4 dat4 na notLoc notFs
          refine wpAny_mono ((su a o4 cls d (X.pn ++ pins) z4 ⟨_, dat4⟩).run [] _ _ H1 _ S4 (yes rfl a na)) (fun f t6 sp => ?_) (fun _ _ z => z.elim)
          match f, sp with
          | .next, ⟨σ6, H6, S6, q6⟩ => exact ⟨_, _, S6.unsuite fine, q6⟩
          | .brk, ⟨σ6, H6, S6, q6⟩ => exact ⟨_, _, S6.unsuite fine, q6⟩
          | .cont, ⟨σ6, H6, S6, q6⟩ => exact ⟨_, _, S6.unsuite fine, q6⟩
          | .ret u, ⟨v6, σ6, H6, S6, r6, q6⟩ => exact ⟨_, _, _, S6.unsuite fine, r6, q6⟩
      | @named x n c i ts s0 ss p1 p2 hs2 l2 hi hl hc su r ih =>
        rintro ⟨b, m, yes, no⟩
        refine wpAny_handleBy_cons (codeAny_handlers_test (asked hc ((PySem.W.exm_one (M := model X.prog X.w) J3.kIn typed m).here ?_))) (by intro q; cases q)
        cases b with
        | false => exact ih (no rfl)
        | true =>
          refine codeAny_handlers_suite_as (HandSPX.lands_againZ fl3 fun h4 fl4 up4 => ?_)
          have J4 : Inv X pins σ1 H1 { t1 with heap := h4 } := J.landed ground fl4.1 ((up.trans up3).trans up4) os ag
          obtain ⟨o4, v4, at4, z4, dat4⟩ := fl4.there
          have S4 := J4.suite at4 dat4 na notLoc notFs
          refine store_ok (X := X.suite a ((a, o4) :: (X.pn ++ pins))) (v := .ref a) S4 hN hi (.inl hl) rfl (fun t5 S5 => ?_) (.inr hl)
          refine wpAny_mono ((su a o4 cls d (X.pn ++ pins) z4 ⟨_, dat4⟩).run [] t5 _ H1 _ S5 (yes rfl a na)) (fun f t6 sp => ?_) (fun _ _ z => z.elim)
          have drop1 : ∀ {σ6 : L2.St} {H6 : Hp} {Q : Shared → Prop}, Inv (X.suite a ((a, o4) :: (X.pn ++ pins))) [] σ6 H6 t6 → (∀ t7, Inv X pins (σ6.set i none) H6 t7 → Q t7) → wpAny (model X.prog X.w) X.A (do bindName X.env n .none; unbindBehindTheSuite X.env n p2) (fun _ t7 => Q t7) X.xe t6 := fun S6 hq => gone_ok (S6.unsuite fine) hN hi hl hq
          match f, sp with
          | .next, ⟨σ6, H6, S6, q6⟩ => exact drop1 S6 fun t7 J7 => ⟨_, _, J7, q6⟩
          | .brk, ⟨σ6, H6, S6, q6⟩ => exact drop1 S6 fun t7 J7 => ⟨_, _, J7, q6⟩
          | .cont, ⟨σ6, H6, S6, q6⟩ => exact drop1 S6 fun t7 J7 => ⟨_, _, J7, q6⟩
          | .ret u, ⟨v6, σ6, H6, S6, r6, q6⟩ => exact drop1 S6 fun t7 J7 => ⟨_, _, _, J7, r6, q6⟩
    exact walk hh wish
  refine wpAny_Try_except (wpAny_mono ((hb (wEach X.K W0 D l) (X.pn ++ pins) caught taken PassesOwn.looking).run [] s σ H D (I.toTry _) h) (fun f t1 sp => ?_) (fun e t1 he => he))
  match f, sp with
  | .next, ⟨σ1, H1, J, q⟩ => exact wpAny_execs_nil ⟨σ1, H1, J.ofTry fine, q⟩
  | .brk, ⟨σ1, H1, J, q⟩ => exact ⟨σ1, H1, J.ofTry fine, q⟩
  | .cont, ⟨σ1, H1, J, q⟩ => exact ⟨σ1, H1, J.ofTry fine, q⟩
  | .ret u, ⟨v, σ1, H1, J, r, q⟩ => exact ⟨v, σ1, H1, J.ofTry fine, r, q⟩
end
end Vk
set_option Elab.async false
set_option maxRecDepth 100000
set_option maxHeartbeats 4000000
set_option linter.all false
namespace Vk
open L2 PySem PySem.Spec PyProof.Rows PySem.VkX
/-! ## C(e, ..) to be raised -/
theorem oex_type {K : PySem.W.Frag} {C : Addr} (T : OexK K C) : PySem.W.typeIn K (.ref C) = some (.type "type") := by
  obtain ⟨B, newId, initId, tl, nm, q1, N, bs, sn, sub, ab, col, dd, k0, k1, k2, k3, k5, hB, hC⟩ := T.cls
  show (K.lookup C).map (·.cls) = _
  rw [hC] <;> rfl
def tMkE (C : Addr) (fsn : List Str) (ta : TA) : L2.St → Hp → XK → Prop := fun σ H Q => ta σ H fun vs H1 => vs.length = fsn.length ∧ ∀ d, H1 d = none → Q (.ref C) (some d) (upd H1 d (.xd (fsn.zip vs).reverse))
theorem let_go {H : Hp} {a d : Addr} {o1 o2 o3 : HO} (n : H a = none) (ne : d ≠ a) : upd (del (upd (upd H d o1) a o2) a) d o3 = upd H d o3 := by
  funext b
  by_cases hd : b = d
  · subst hd; rw [upd_same, upd_same]
  · rw [upd_ne hd, upd_ne hd]
    by_cases ha : b = a
    · subst ha; rw [del_same, n]
    · rw [del_ne ha, upd_ne ha, upd_ne hd]
section
variable {X : Cx} {j k : Nat} {x : Str} {C : Addr} {fsn : List Str} {p pos : Pos} {e : Expr} {es : List Expr} {t : TA}
theorem pmk_k (c : ClsI X.prog X.w X.K X.mg X.base k x C fsn) (hg : X.A.guards = some []) (hr : Room j X.A) (hk : k + 1 ≤ j) (hx : Passes CX0 X (fun _ _ _ => False)) (ha : PA X (e :: es) t) (hn : fsn.length ≤ 1000 := by decide) (h0 : fsn ≠ [] := by decide) (gl : Gl X x := by rfl)
    (hdb : (x == ("__debug__" : Str)) = false := by decide) (he : starEach (e :: es) X.env = (false, eval e X.env) :: starEach es X.env := by rfl) (hpl : (backTo pos (starEach es X.env)).any (·.1) = false := by rfl) :
    PMk X (.Call (.Name x p) (e :: es) [] pos) (tMkE C fsn t) := by
  intro pins s σ H Q I h
  refine wpAny_Call_Name_kw (ld_glob I gl c.hm (PySem.W.callWith_K (h₀ := X.base) I.ok.mod.kin c.T.kC (thn (ha.run pos pins s σ H _ I h) fun us s1 hh => ?_) he hpl) hdb)
  obtain ⟨vs, H1, I1, r, hl, q⟩ := hh
  refine ⟨I1.kIn, ?_⟩
  show wpAny _ _ (call (.ref C) us) _ _ _
  have hus : us.length ≤ sizeLine := few_len (by rw [← r.length, hl]; exact hn)
  obtain ⟨fI, fd, iC, tI, F, hbn, hbk⟩ := c.ex
  obtain ⟨B, newId, initId, tl, nm, q1, N, bs, sn, sub, ab, col, dd, k0, k1, k2, k3, k5, hB, hC⟩ := c.T.cls
  obtain ⟨hp, g, dr, tk, os⟩ := s1
  have big : hp.objs.size ≤ hp.objs.size + 1 := Nat.le_succ _
  have new1 : H1 (hp.objs.size + 1) = none := I1.hok.fresh big
  have kept : ∀ b o, hp.get? b = some o → ((hp.push (PySem.W.kdv_tup us)).push (PySem.HandSPX.excO C hp.objs.size)).get? b = some o := fun b o z => Heap.get?_push_of_some _ (Heap.get?_push_of_some _ z)
  have put : ((hp.push (PySem.W.kdv_tup us)).push (PySem.HandSPX.excO C hp.objs.size)).get? (hp.objs.size + 1) = some (PySem.HandSPX.excO C hp.objs.size) := by heap_get
  have I2 : Inv X pins σ (upd H1 (hp.objs.size + 1) (exo (hp.objs.size + 1) C none)) ⟨(hp.push (PySem.W.kdv_tup us)).push (PySem.HandSPX.excO C hp.objs.size), g, dr, tk, os⟩ :=
    I1.laid (t' := tk) (a := hp.objs.size + 1) (o := exo (hp.objs.size + 1) C none) kept big (exo_ok put)
  have sp1 : spIni C fsn (V.ref (hp.objs.size + 1) :: vs) (upd H1 (hp.objs.size + 1) (exo (hp.objs.size + 1) C none))
      (fun v H2 => v = .non ∧ ∃ d, H1 d = none ∧ d ≠ hp.objs.size + 1 ∧ H2 = upd (upd H1 d (exd d (fsn.zip vs).reverse)) (hp.objs.size + 1) (exo (hp.objs.size + 1) C (some d))) (fun _ _ _ => False) := by
    refine ⟨_, vs, rfl, hl, upd_same, fun z => absurd z h0, fun z d hd ne => ⟨rfl, d, ?_, ne, upd_over ne⟩⟩
    rw [upd_ne ne] at hd
    exact hd
  have bound := hbn ⟨(hp.push (PySem.W.kdv_tup us)).push (PySem.HandSPX.excO C hp.objs.size), g, dr, tk, os⟩ (.ref (hp.objs.size + 1) :: us) I2.kIn (by simpa using (r.length.symm.trans hl))
  rw [List.append_nil] at bound
  refine wpAny_call (call_ownK hB.F (I1.kIn _ _ hC) (PySem.W.looks_findIn I1.kIn iC) (fun self => PySem.W.bind_fn I1.kIn self tI) hus
    (codeAny_mono (F.run _ X.stack _ _ _ (Value.ref (hp.objs.size + 1) :: us) (V.ref (hp.objs.size + 1) :: vs) _ (fun _ _ _ => False) ?_ ((hr.mono hk).make C us []) (I2.env0.make C us []) bound (.cons rfl r) sp1) fun res s3 hz => ?_))
  · first
      | exact hg
      | (simpa [Around.under, Code.isGuard, guardIds] using hg)
  · match res, hz with
    | .error er, hz => exact hx pins σ _ _ er s3 I2 hz
    | .ok (.ret u), hz =>
      obtain ⟨v, H2, os2, bare2, un2, hok2, rv, ev, d, hd1, ne, eH⟩ := hz
      subst ev
      subst eH
      obtain ⟨h2, g2, d2, t2, osx⟩ := s3
      refine ⟨rv, mk_end (raises_own c.T.xf.exC (oex_type c.T)) I1 big kept un2 hok2 os2 bare2 upd_same ((upd_ne ne).trans upd_same) hd1 ?_⟩
      rw [let_go new1 ne]
      exact q d hd1
    | .ok .next, hz => exact hz.elim
    | .ok .brk, hz => exact hz.elim
    | .ok .cont, hz => exact hz.elim
end
/-- what such a class answers to a clause -/
theorem exm_own {K : PySem.W.Frag} {C D : Addr} {b : Bool} (T : OexK K D) (h : PySem.W.subIn K (.ref C) (.ref D) = some b) : PySem.W.exmOne K (.ref C) (.ref D) = some b := PySem.W.exm_ref T.xf.exC T.xf.hdC (oex_type T) h
end Vk
set_option Elab.async false
set_option maxRecDepth 100000
set_option maxHeartbeats 4000000
set_option linter.all false
namespace Vk
open L2 PySem PySem.Spec PyProof.Rows PySem.VkX
/-! ## instances of own classes whose __init__ may raise, made by position and by all keywords in the other order -/
structure MakI (P : Program) (w : World) (K : PySem.W.Frag) (mg : Str → Option Value) (base : Heap) (CX : CXT) (k : Nat) (x : Str) (C : Addr) (fsn : List Str) (sp : Sp) : Prop where
  hm : mg x = some (.ref C)
  ex : ∃ (fI : Addr) (fd : FuncData), L2.Mk K C fI ∧ FnG P w K mg base CX k fI fd (("self" : Str) :: fsn) sp ∧ Binds K fd (("self" : Str) :: fsn) [] ∧
    (∀ (s : Shared) (v : Value) (ws : List Value), K.In s.heap → ws.length = fsn.length → BindsTo s fd ⟨[v], fsn.reverse.zip ws⟩ ((("self" : Str) :: fsn).zip (v :: ws.reverse)))
section
variable {X : Cx} {CX : CXT} {E : XK} {j k : Nat} {x : Str} {C : Addr} {fsn : List Str} {sp : Sp} {p pos : Pos} {e : Expr} {es : List Expr} {t : TA}
end
end Vk
set_option Elab.async false
set_option maxRecDepth 100000
set_option maxHeartbeats 4000000
set_option linter.all false
namespace Vk
open L2 PySem PySem.Spec PyProof.Rows PySem.VkX LamX NdefX
/-! ## a lambda as a value: made in a def, kept in lists, handed to a def that calls it -/
structure LF where
  qual : Str
  params : Arguments
  body : Expr
  scope : Scope
  cl : List (Str × Addr)
  c : Addr
def LF.nf (F : LF) : NF := ⟨"<lambda>", F.qual, F.params, [], F.scope, F.cl, F.c⟩
def LamO (f : Addr) (F : LF) : HO := .ext fun h => ∃ pm ctv : Value, h.get? f = some (PySem.W.kla_obj "<lambda>" F.qual F.params F.body F.scope F.cl pm F.c ctv)
theorem lamO_at {P : Program} {w : World} {H : Hp} {h : Heap} {f : Addr} {F : LF} (ok : HOk P w H h) (e : H f = some (LamO f F)) : ∃ pm ctv : Value, h.get? f = some (PySem.W.kla_obj "<lambda>" F.qual F.params F.body F.scope F.cl pm F.c ctv) := (ok f _ e).1
section
variable {X : Cx} {pins : List (Addr × Obj)} {σ : L2.St} {H : Hp} {s : Shared}
theorem inv_lam {F : LF} {t' : Nat} {pm ctv : Value} (I : Inv X pins σ H s) :
    Inv X pins σ (upd H s.heap.objs.size (LamO s.heap.objs.size F)) { s with heap := s.heap.push (PySem.W.kla_obj "<lambda>" F.qual F.params F.body F.scope F.cl pm F.c ctv), toks := t' } := by
  have at1 : (s.heap.push (PySem.W.kla_obj "<lambda>" F.qual F.params F.body F.scope F.cl pm F.c ctv)).get? s.heap.objs.size = some (PySem.W.kla_obj "<lambda>" F.qual F.params F.body F.scope F.cl pm F.c ctv) := Heap.get?_push_size _ rfl
  exact I.laid (a := s.heap.objs.size) (fun b u q => Heap.get?_push_of_some _ q) (Nat.le_refl _) ⟨⟨pm, ctv, at1⟩, ⟨_, at1⟩, fun h1 h2 ⟨p, t, z⟩ stays => ⟨p, t, stays _ z⟩⟩
/-- the maker's table and code object, T the tables -/
theorem lam_new {T : List (Addr × Str)} {c P : Addr} {params : Arguments} {body : Expr} {scope : Scope} {pos : Pos} {E : Value → Shared → Prop} {Q : Value → Shared → Prop} (I : Inv X pins σ H s) (tb : TabB X.base X.mg c P) (code : X.env.code = .ref c)
    (mem : (P, X.env.qual ++ "<lambda>") ∈ T) (one : ∀ p ∈ T, p.1 = P → p.2 = X.env.qual ++ "<lambda>") (tabs : Tabs T H) (dflt : defaultsOf params X.env = ([], [])) (free : ∀ y ∈ scope.names, y.2 = .free → ∃ c, X.env.cells.lookup y.1 = some c)
    (k : ∀ (f c' : Addr) (H1 : Hp) (s' : Shared), Inv X pins σ H1 s' → ExtN H H1 → (∀ b, H1 b = none → H b = none) → Tabs T H1 → H f = none → H1 f = some (LamO f ⟨X.env.qual ++ "<lambda>", params, body, scope, cloFrom X.env.cells scope.names [], c'⟩) → H1 c' = some (CodeO c' (X.env.qual ++ "<lambda>")) → Q (.ref f) s') :
    wpAny (model X.prog X.w) X.A (eval (.Lambda params body scope pos) X.env) Q E s := by
  obtain ⟨ps, tP, trip, told⟩ := tabs _ mem
  have lies : s.heap.get? P = some { cls := .none, data := .fields ps } := I.hok P _ tP
  have blt : s.heap.BuiltinsAt X.mg P := tb.bm.keeps I.bk
  refine PySem.W.kla_eval dflt ?_
  match among : codeAmong pos ps.toList with
  | some cv =>
    obtain ⟨c', rfl, is⟩ := told pos cv among
    refine PySem.W.kla_makeFunctionHit (mg := X.mg) (c := c) (P := P) (ps := ps) (closure_ok free) I.ok.glob (I.mod.glob.keeps I.bk) code (tb.code.keeps I.bk) lies trip among blt fun ctv h' tk grown big => ?_
    have I1 : Inv X pins σ H { s with heap := h', toks := tk } := I.kept grown
    have new1 : H h'.objs.size = none := I1.hok.fresh (Nat.le_refl _)
    refine k h'.objs.size c' _ _ (inv_lam (F := ⟨X.env.qual ++ "<lambda>", params, body, scope, cloFrom X.env.cells scope.names [], c'⟩) (t' := tk) (pm := (X.mg "__name__").getD .none) (ctv := ctv) I1) (fun b o e n => ?_) (fun b e => upd_none e) (tabs.ext fun b o e => ?_) new1 upd_same ?_
    · rw [upd_ne (ne_of_none e new1)]; exact e
    · rw [upd_ne (ne_of_none e new1)]; exact e
    · rw [upd_ne (ne_of_none is new1)]; exact is
  | none =>
    refine PySem.W.kla_makeFunction (mg := X.mg) (c := c) (P := P) (ps := ps) (closure_ok free) I.ok.glob (I.mod.glob.keeps I.bk) code (tb.code.keeps I.bk) lies trip among tb.gP blt fun c' ctv h' tk grown low high rec2 put => ?_
    obtain ⟨c2, oc, vs, t, ec, hoc, hd, hv⟩ := rec2
    cases ec
    have newC : H c' = none := I.hok.fresh low
    have I1 := inv_table (t' := tk) (more := #[rawInt pos.line, rawInt pos.col, .ref c']) (h' := h') I tP (fun b o hb e => grown b o hb e) put low ⟨oc, vs, t, hoc, hd, hv⟩
    have out1 : ExtN H (upd (upd H P (.tbl (ps ++ #[rawInt pos.line, rawInt pos.col, .ref c']))) c' (CodeO c' (X.env.qual ++ "<lambda>"))) := fun b o e n => by
      have hb : b ≠ P := fun z => n ps (Option.some.inj (e.symm.trans (z ▸ tP)))
      rw [upd_ne (ne_of_none e newC), upd_ne hb]
      exact e
    have tabs1 : Tabs T (upd (upd H P (.tbl (ps ++ #[rawInt pos.line, rawInt pos.col, .ref c']))) c' (CodeO c' (X.env.qual ++ "<lambda>"))) := fun p hp => by
      by_cases hb : p.1 = P
      · rw [one p hp hb, hb]
        have whole : (ps ++ #[rawInt pos.line, rawInt pos.col, .ref c']).toList = ps.toList ++ [rawInt pos.line, rawInt pos.col, .ref c'] := by simp
        refine ⟨_, by rw [upd_ne (ne_of_none tP newC), upd_same], by rw [whole]; exact PySem.TriplesOk_snoc _ _ _ _ trip, fun p' cv hcv => ?_⟩
        rw [whole] at hcv
        rcases among_app _ trip hcv with z | z
        · obtain ⟨c0, e1, e2⟩ := told p' cv z
          exact ⟨c0, e1, out1 _ _ e2 codeO_ne⟩
        · exact ⟨c', z, upd_same⟩
      · obtain ⟨ps', a1, a2, a3⟩ := tabs p hp
        refine ⟨ps', by rw [upd_ne (ne_of_none a1 newC), upd_ne hb]; exact a1, a2, fun p' cv hcv => ?_⟩
        obtain ⟨c0, e1, e2⟩ := a3 p' cv hcv
        exact ⟨c0, e1, out1 _ _ e2 codeO_ne⟩
    have newF := I1.hok.fresh (Nat.le_refl _)
    have newF0 : H h'.objs.size = none := upd_none (upd_none newF)
    refine k h'.objs.size c' _ _ (inv_lam (F := ⟨X.env.qual ++ "<lambda>", params, body, scope, cloFrom X.env.cells scope.names [], c'⟩) (t' := tk) (pm := (X.mg "__name__").getD .none) (ctv := ctv) I1) (fun b o e n => ?_) (fun b e => upd_none (upd_none (upd_none e))) (tabs1.ext fun b o e => ?_) newF0 upd_same ?_
    · have e1 := out1 b o e n
      rw [upd_ne (ne_of_none e1 newF)]; exact e1
    · rw [upd_ne (ne_of_none e newF)]; exact e
    · rw [upd_ne (Nat.ne_of_lt high)]; exact upd_same
end
def tLamV (T : List (Addr × Str)) (mk : Addr → LF) : TE := fun σ H Q => Tabs T H ∧ ∀ (f c' : Addr) (H1 : Hp), ExtN H H1 → (∀ b, H1 b = none → H b = none) → Tabs T H1 → H f = none → H1 f = some (LamO f (mk c')) → H1 c' = some (CodeO c' (mk c').qual) → Q (.ref f) H1
section
variable {X : Cx}
theorem pe_lamv {T : List (Addr × Str)} {c P : Addr} {params : Arguments} {body : Expr} {scope : Scope} {pos : Pos} (tb : TabB X.base X.mg c P) (code : X.env.code = .ref c) (mem : (P, X.env.qual ++ "<lambda>") ∈ T) (one : ∀ p ∈ T, p.1 = P → p.2 = X.env.qual ++ "<lambda>")
    (dflt : defaultsOf params X.env = ([], [])) (free : ∀ y ∈ scope.names, y.2 = .free → X.env.scope.names.lookup y.1 = some .cell ∨ X.env.scope.names.lookup y.1 = some .free) :
    PE X (.Lambda params body scope pos) (tLamV T fun c' => ⟨X.env.qual ++ "<lambda>", params, body, scope, cloFrom X.env.cells scope.names [], c'⟩) := by
  refine ⟨fun pins s σ H Q I h => lam_new I tb code mem one h.1 dflt (fun y hy e => I.ok.has y.1 (free y hy e)) fun f c' H1 s' I1 x1 b1 t1 n1 f1 c1 => ?_⟩
  exact ⟨.ref f, H1, I1, rfl, h.2 f c' H1 x1 b1 t1 n1 f1 c1⟩
end
/-! ### what it does -/
abbrev SpL := List (Option V) → Hp → VK → XK → Prop
structure LamK (P : Program) (w : World) (K : PySem.W.Frag) (mg : Str → Option Value) (base : Heap) (k : Nat) (F : LF) (fr : List Str) (sp : SpL) : Prop where
  run : ∀ (A : Around) (outer : List Env) (s : Shared) (H : Hp) (f : Addr) (ws : List (Option V)) (Q : VK) (E : XK), A.guards = some [] → Room k A → Env0 P w K mg base A outer s H → H f = some (LamO f F) → H F.c = some (CodeO F.c F.qual) → CellsAt F.cl fr ws s.heap H → sp ws H Q E →
    codeAny (model P w) A (.call (.ref f) ⟨[], []⟩) (CR (L2.CX P w) outer P w H s Q E) s
section
variable {P : Program} {w : World} {K : PySem.W.Frag} {mg : Str → Option Value} {base : Heap} {N fr : List Str} {F : LF} {k j : Nat} {sp : SpL}
theorem LamK.mono (l : LamK P w K mg base j F fr sp) (h : j ≤ k) : LamK P w K mg base k F fr sp := ⟨fun A outer s H f ws Q E hg hr => l.run A outer s H f ws Q E hg (hr.mono h)⟩
theorem lamk_of (S : NScope N [] fr F.scope) (hb : ∀ pm ctv : Value, bindArgs (PySem.W.kla_fn "<lambda>" F.qual F.params F.body F.scope F.cl pm (.ref F.c) ctv) ⟨[], []⟩ = pure [])
    (body : ∀ (A : Around) (outer : List Env) (s : Shared) (H : Hp) (f : Addr) (ws : List (Option V)) (Q : VK) (E : XK), A.guards = some [] → Room k (A.deeper (envF F.nf f s.heap.objs.size)) → ws.length = fr.length → sp ws H Q E →
      ∃ t, PE (ncx (L2.CX P w) P w K mg base N F.nf f A outer s H E) F.body t ∧ t (startF N [] ws) H Q) : LamK P w K mg base (k + 1) F fr sp := by
  refine ⟨fun A outer s H f ws Q E hg hr e0 hf hc C hsp => ?_⟩
  have lim : s.heap.NoLimit := e0.mod.nolimit.keeps fun b o e => (e0.bs b o e).1
  obtain ⟨pm, ctv, ho⟩ := lamO_at e0.hok hf
  refine PySem.W.kla_callFunE hr.depth ho rfl S.co S.gen rfl (codeO_at e0.hok hc) ?_
  rw [hb pm ctv]
  refine wpAny_pure (wpAny_newFunctionEnv S.nocell (fun y hy => absurd hy (List.not_mem_nil (a := y))) (fun h1 hns hsb => ⟨lim.fresh _ hsb, ?_⟩) S.kind)
  have kp : ∀ b o, s.heap.get? b = some o → h1.get? b = some o := fun b o e => hsb.extBut b o (Nat.ne_of_lt (Heap.lt_size e)) (Heap.get?_push_of_some _ e)
  obtain ⟨t, ht, hq⟩ := body A outer s H f ws Q E hg (hr.deeper _) C.len hsp
  have I : Inv (ncx (L2.CX P w) P w K mg base N F.nf f A outer s H E) [] (startF N [] ws) H { s with heap := h1, toks := s.toks + ([] : List (Str × Value)).length } := inv_startN (ps := []) (us := []) (vs := []) S hr.hd e0 rfl .nil C hns kp
  refine PySem.W.kla_codeExpr (wpAny_mono (ht.run [] _ _ H Q I hq) (fun v s' hv => ?_) fun e s' hv => hv)
  obtain ⟨v1, H1, J, rv, q⟩ := hv
  exact ⟨v1, H1, J.os, J.bare, J.base, J.hok, rv, q⟩
end
/-! ### called by the def that got it -/
theorem cells_later {X : Cx} {pins : List (Addr × Obj)} {σ : L2.St} {H : Hp} {s : Shared} {cl : List (Str × Addr)} {fr : List Str} {ws : List (Option V)} (C : CellsAt cl fr ws X.s_0.heap X.H_0) (hx : X.ex = []) (I : Inv X pins σ H s) : CellsAt cl fr ws s.heap H := by
  have out : ∀ c : Addr, c ∉ X.ex := fun c z => by
    rw [hx] at z
    exact absurd z (List.not_mem_nil (a := c))
  have same : ∀ y c, cl.lookup y = some c → ∀ v, X.s_0.heap.IsCell c v → s.heap.IsCell c v := fun y c e v ⟨o, ho, hd⟩ => by
    obtain ⟨sl, z⟩ := I.base.any ho (C.all y c e).1 (out c)
    exact ⟨_, z, hd⟩
  refine ⟨C.len, fun y c e => ?_, C.inj, fun i y e => ?_⟩
  · obtain ⟨n, v, z⟩ := C.all y c e
    have z2 := same y c e v z
    obtain ⟨o, ho, _⟩ := z
    exact ⟨I.base.free c o ho n (out c), v, z2⟩
  · obtain ⟨c, hc, hv⟩ := C.has i y e
    refine ⟨c, hc, fun v ev => ?_⟩
    obtain ⟨u, r, z⟩ := hv v ev
    exact ⟨u, r, same y c hc _ z⟩
section
variable {X : Cx} {F : LF} {fr : List Str} {ws : List (Option V)} {i j k : Nat} {x : Str} {sp : SpL} {E : XK} {p pos : Pos} {f0 : Addr}
/-- x(), x a name that holds the lambda -/
theorem pe_lamact (C : CellsAt F.cl fr ws X.s_0.heap X.H_0) (hx0 : X.ex = []) (L : LamK X.prog X.w X.K X.mg X.base k F fr sp) (hg : X.A.guards = some []) (hr : Room j X.A) (hk : k ≤ j) (hx : Passes (L2.CX X.prog X.w) X E) (hN : X.N[i]? = some x) (hv : Vis X.env.scope x)
    (hd : (x == ("__debug__" : Str)) = false := by decide) (hcd : (x == ("__classdict__" : Str)) = false := by decide) :
    PE X (.Call (.Name x p) [] [] pos) (fun σ H Q => σ[i]? = some (some (.ref f0)) ∧ H f0 = some (LamO f0 F) ∧ H F.c = some (CodeO F.c F.qual) ∧ sp ws H Q E) := by
  refine ⟨fun pins s σ H Q I h => ?_⟩
  obtain ⟨hs, hf, hc, hsp⟩ := h
  refine wpAny_Call_Name_kw (thn ((pe_var (pos := p) hN hv hd hcd).run pins s σ H (fun v H1 => v = .ref f0 ∧ H1 = H) I ⟨.ref f0, hs, rfl, rfl⟩) fun u s1 ⟨v, H1, I1, r1, q1⟩ => ?_)
  obtain ⟨ev, eH⟩ := q1
  subst ev
  subst eH
  obtain rfl : u = Value.ref f0 := r1
  obtain ⟨pm, ctv, ho⟩ := lamO_at I1.hok hf
  refine PySem.W.callWith_F0 ⟨_, _, _, _, ho⟩ (wpAny_call (codeAny_mono (L.run X.A X.stack s1 H1 f0 ws Q E hg (hr.mono hk) I1.env0 hf hc (cells_later C hx0 I1) hsp) fun r s2 hq => ?_))
  match r, hq with
  | .error e, hq => exact hx pins σ H1 s1 e s2 I1 hq
  | .ok (.ret u), hq => exact I1.after hq
  | .ok .next, hq => exact hq.elim
  | .ok .brk, hq => exact hq.elim
  | .ok .cont, hq => exact hq.elim
end
/-! ### defs whose promise speaks of the cells that the heap holds -/
structure FnH (P : Program) (w : World) (K : PySem.W.Frag) (mg : Str → Option Value) (base : Heap) (CX : CXT) (k : Nat) (f : Addr) (fd : FuncData) (ps : List Str) (sp : Heap → Sp) : Prop where
  len : ∀ h vs H Q E, sp h vs H Q E → vs.length = ps.length
  run : ∀ (A : Around) (outer : List Env) (s : Shared) (H : Hp) (args : Args) (us : List Value) (vs : List V) (Q : VK) (E : XK), A.guards = some [] → Room k A → Env0 P w K mg base A outer s H → BindsTo s fd args (ps.zip us) → Vals vs us → sp s.heap vs H Q E →
    codeAny (model P w) A (.call (.ref f) args) (CR CX outer P w H s Q E) s
theorem okH {P : Program} {w : World} {K : PySem.W.Frag} {mg : Str → Option Value} {base : Heap} {CX : CXT} {x qual : Str} {st : Stmt} {f : Addr} {fd : FuncData} {N ps : List Str} {k : Nat} {sp : Heap → Sp} (F : Fun K x qual st f fd) (S : FnScope N ps (defScope st)) (hlen : ∀ h vs H Q E, sp h vs H Q E → vs.length = ps.length)
    (hbody : ∀ (cdv : Value) (A : Around) (outer : List Env) (s : Shared) (H : Hp) (vs : List V) (Q : VK) (E : XK), A.guards = some [] → Room k (A.deeper (envOfC qual (defScope st) s.heap.objs.size f cdv)) → sp s.heap vs H Q E →
      ∃ t, PSs (cxOf CX P w K mg base N qual (defScope st) f cdv A outer s H E) (defBody st) t ∧ t { nx := fun _ H' => Q .non H', rt := Q } (start N vs) H) : FnH P w K mg base CX (k + 1) f fd ps sp := by
  refine ⟨hlen, fun A outer s H args us vs Q E hg hr e0 hb r hsp => ?_⟩
  obtain ⟨oc, od, kV, doc, pm, an, cdv, ct, osl, rfl, lk, hcd⟩ := F.ex
  exact run_ofS lk hcd S hr e0 hb r (hlen _ _ _ _ _ hsp) fun hr2 => hbody cdv A outer s H vs Q E hg hr2 hsp
structure CalH (P : Program) (w : World) (K : PySem.W.Frag) (mg : Str → Option Value) (base : Heap) (CX : CXT) (k : Nat) (x : Str) (sp : Heap → Sp) : Prop where
  ex : ∃ (f : Addr) (fd : FuncData) (ps : List Str), FnH P w K mg base CX k f fd ps sp ∧ mg x = some (.ref f) ∧ PySem.W.keepIn K (.ref f) = true ∧ Binds K fd ps []
/-- x(e, ..): rd says of the values and the names what the call asks -/
def tCallH (rd : L2.St → List V → Hp → VK → Prop) (t : TA) : TE := fun σ H Q => t σ H fun vs H1 => rd σ vs H1 Q
section
variable {X : Cx} {CX : CXT} {j k : Nat} {x : Str} {sp : Heap → Sp} {E : XK} {p pos : Pos} {e : Expr} {es : List Expr} {t : TA} {rd : L2.St → List V → Hp → VK → Prop}
theorem pe_cH (c : CalH X.prog X.w X.K X.mg X.base CX k x sp) (hg : X.A.guards = some []) (hr : Room j X.A) (hk : k ≤ j) (hx : Passes CX X E) (ha : PA X (e :: es) t)
    (asks : ∀ (pins : List (Addr × Obj)) (s : Shared) (σ : L2.St) (H : Hp) (vs : List V) (Q : VK), Inv X pins σ H s → rd σ vs H Q → sp s.heap vs H Q E) (gl : Gl X x := by rfl)
    (hdb : (x == ("__debug__" : Str)) = false := by decide) (he : starEach (e :: es) X.env = (false, eval e X.env) :: starEach es X.env := by rfl) (hpl : (backTo pos (starEach es X.env)).any (·.1) = false := by rfl) :
    PE X (.Call (.Name x p) (e :: es) [] pos) (tCallH rd t) := by
  obtain ⟨f, fd, ps, F, hm, kp, hb⟩ := c.ex
  refine ⟨fun pins s σ H Q I h => wpAny_Call_Name_kw (ld_glob I gl hm (PySem.W.callWith_K (h₀ := X.base) I.ok.mod.kin kp (thn (ha.run pos pins s σ H _ I h) fun us s1 hh => ?_) he hpl) hdb)⟩
  obtain ⟨vs, H1, I1, r, q⟩ := hh
  have q := asks pins s1 σ H1 vs Q I1 q
  have hl : us.length = ps.length := r.length.symm.trans (F.len _ _ _ _ _ q)
  have b := hb s1 us I1.kIn ((congrArg List.length (List.append_nil us)).trans hl)
  rw [List.append_nil] at b
  refine ⟨I1.kIn, wpAny_call (codeAny_mono (F.run X.A X.stack s1 H1 ⟨us, []⟩ us vs Q E hg (hr.mono hk) I1.env0 b r q) (fun res s2 hq => ?_))⟩
  match res, hq with
  | .error e, hq => exact hx pins σ H1 s1 e s2 I1 hq
  | .ok (.ret u), hq => exact I1.after hq
  | .ok .next, hq => exact hq.elim
  | .ok .brk, hq => exact hq.elim
  | .ok .cont, hq => exact hq.elim
end
/-! ### isinstance(e, T) of a caught exception that has fields -/
theorem call_isEd {X : Cx} {a C : Addr} {cls : Value} {d : Option Addr} {oe : Obj} {pn : List (Addr × Obj)} (T : OexK X.K C) (hz : Zc cls d oe) (hf : ∃ vs, oe.data = .fields vs) :
    CallR (X.suite a ((a, oe) :: pn)) (.builtin "isinstance") (fun xs H Q => ∃ (c : V) (cv : Value) (b : Bool) (dd : Addr) (fs : List (Str × V)), xs = [.ref a, c] ∧ cls = .ref C ∧ d = some dd ∧ H dd = some (.xd fs) ∧ (∀ u, RelV c u → u = cv) ∧ PySem.W.kitOne X.K (.ref C) cv = some b ∧ Q (.bl b) H) := by
  intro pins s σ H xs us Q I r h
  obtain ⟨c, cv, b, dd, fs, rfl, rfl, rfl, ed, hc, e, q⟩ := h
  obtain ⟨u1, u2, rfl, r1, r2⟩ := vals2 r
  cases (show u1 = Value.ref a from r1)
  cases hc u2 r2
  obtain ⟨ha, _⟩ := I.pin (a, oe) (List.mem_append_left _ List.mem_cons_self)
  obtain ⟨vs, hd⟩ := hf
  obtain ⟨mA, hns, hr⟩ := (show ObjOk X.prog X.w H s.heap dd (.xd fs) from I.hok dd _ ed)
  obtain ⟨od, ho, hl⟩ := lookIn_ns hns
  have J : PySem.W.InstAt s.heap a oe C (some od) := ⟨ha, hz.1, by unfold PySem.W.notCls; rw [hd] <;> rfl, by rw [hz.2]; exact ho⟩
  obtain ⟨B, newId, initId, tl, nm, q1, N, bs, sn, sub, ab, col, dd2, k0, k1, k2, k3, k5, hB, hC⟩ := T.cls
  have hcl : (PySem.W.clsIn X.K C).isSome = true := by unfold PySem.W.clsIn; rw [hC] <;> rfl
  exact PySem.W.kia_one (PySem.W.kitx_exc hcl T.ic.hg T.ic.hk T.ic.hs T.ic.ha T.ic.hn T.ic.ht T.ic.hm) I.kIn J e (fun z => nomatch z) fun tk => ⟨.bl b, H, I.tok tk, rfl, q⟩
theorem passes_len {X : Cx} {W : WX} {E : XK} (tk : Takes X W) (hW : ∀ cls d σ H, σ.length = X.N.length → E cls d H → W cls d σ H) : Passes (L2.CX X.prog X.w) X E := fun _ σ _ _ e s' I c => tk e s' (XE.of_call I (fun cls d H' h => hW cls d σ H' I.len h) c)
/-! ### a def whose code object is known -/
structure FunC (K : PySem.W.Frag) (x qual : Str) (st : Stmt) (f : Addr) (fd : FuncData) (c : Addr) : Prop where
  ex : ∃ (oc : Value) (od : Option Addr) (kV doc pm : Value) (an : Option Addr) (ct : Value) (sl : Array (Option Value)), fd = PySem.W.fnOf x qual (defArgs st) (defBody st) (defScope st) .none kV doc pm an (.ref c) ct ∧ K.lookup f = some ⟨oc, od, .func fd, sl⟩ ∧ PySem.W.codeIn K (.ref c) qual = true
  kp : PySem.W.keepIn K (.ref f) = true
theorem FunC.fn {K : PySem.W.Frag} {x qual : Str} {st : Stmt} {f c : Addr} {fd : FuncData} (F : FunC K x qual st f fd c) : Fun K x qual st f fd := by
  obtain ⟨oc, od, kV, doc, pm, an, ct, sl, e, l, hc⟩ := F.ex
  exact ⟨⟨oc, od, kV, doc, pm, an, .ref c, ct, sl, e, l, hc⟩, F.kp⟩
theorem okC0 {P : Program} {w : World} {K : PySem.W.Frag} {mg : Str → Option Value} {base : Heap} {x qual : Str} {st : Stmt} {f c : Addr} {fd : FuncData} {N ps : List Str} {k : Nat} {sp : Sp} (F : FunC K x qual st f fd c) (S : FnScope N ps (defScope st)) (hlen : ∀ vs H Q E, sp vs H Q E → vs.length = ps.length)
    (hbody : ∀ (A : Around) (outer : List Env) (s : Shared) (H : Hp) (vs : List V) (Q : VK) (E : XK), A.guards = some [] → Room k (A.deeper (envOfC qual (defScope st) s.heap.objs.size f (.ref c))) → sp vs H Q E →
      ∃ t, PSs (cxOf CX0 P w K mg base N qual (defScope st) f (.ref c) A outer s H E).nox (defBody st) t ∧ t { nx := fun _ H' => Q .non H', rt := Q } (start N vs) H) : FnG P w K mg base CX0 (k + 1) f fd ps sp := by
  refine ⟨hlen, fun A outer s H args us vs Q E hg hr e0 hb r hsp => ?_⟩
  obtain ⟨oc, od, kV, doc, pm, an, ct, sl, rfl, lk, hcd⟩ := F.ex
  refine run_ofS lk hcd S hr e0 hb r (hlen _ _ _ _ hsp) fun hr2 => ?_
  obtain ⟨t, ht, hq⟩ := hbody A outer s H vs Q E hg hr2 hsp
  exact ⟨t, ht.nox, hq⟩
end Vk
set_option Elab.async false
set_option maxRecDepth 100000
set_option maxHeartbeats 4000000
set_option linter.all false
namespace Vk
open PySem PySem.Spec PyProof.Rows PySem.SeqAt L2
open Builtin
section
variable {prog : Program} {w : World} {A : Around} {E : Value → Shared → Prop} {s : Shared} {K : PySem.W.Frag} {x C : Addr} {ox : Obj} {od : Option Obj}
end
end Vk
set_option Elab.async false
set_option maxRecDepth 100000
set_option maxHeartbeats 4000000
set_option linter.all false
namespace Vk
open PySem PySem.Spec PyProof.Rows PySem.SeqAt L2
open Builtin
/-! ## == and != and in, on the left an instance of an own class with its own == -/
inductive TyE (H : Hp) : V → Value → Prop
  | non : TyE H .non (.type "NoneType")
  | bl (b : Bool) : TyE H (.bl b) (.type "bool")
  | int (i : Int) : TyE H (.int i) (.type "int")
  | str (z : Str) : TyE H (.str z) (.type "str")
  | tup {a : Addr} {xs : List V} (e : H a = some (.tup xs)) : TyE H (.ref a) (.type "tuple")
  | lst {a : Addr} {xs : List V} (e : H a = some (.lst xs)) : TyE H (.ref a) (.type "list")
  | ins {a C dx : Addr} {fs : List (Str × V)} (e : H a = some (.ins C dx fs)) : TyE H (.ref a) (.ref C)
section
variable {X : Cx} {pins : List (Addr × Obj)} {σ : L2.St} {H : Hp} {s : Shared}
end
/-- the own == of the class at C -/
structure EqI (P : Program) (w : World) (K : PySem.W.Frag) (mg : Str → Option Value) (base : Heap) (k : Nat) (C : Addr) (sp : Sp) : Prop where
  ex : ∃ (f : Addr) (fd : FuncData), PySem.W.findIn K (.ref C) "__eq__" = some (some (.ref f)) ∧ PySem.W.isFn K (.ref f) = true ∧ FnOk P w K mg base CX0 k f fd ["self", "other"] sp ∧ Binds K fd ["self", "other"] []
  ne : PySem.W.findIn K (.ref C) "__ne__" = some (some (.builtin "object.__ne__"))
  obj : PySem.W.mroIn K C (.type "object") = some true
  no1 : PySem.W.mroIn K C (.type "tuple") = some false
  no2 : PySem.W.mroIn K C (.type "list") = some false
  no3 : PySem.W.mroIn K C (.type "str") = some false
  no4 : PySem.W.mroIn K C (.type "NoneType") = some false
section
variable {X : Cx} {k j : Nat} {C : Addr} {sp : Sp}
/-- the items that give way to the instance's own == -/
inductive Dec (H : Hp) : V → Prop
  | non : Dec H .non
  | str (z : Str) : Dec H (.str z)
  | tup {a : Addr} {xs : List V} (e : H a = some (.tup xs)) : Dec H (.ref a)
  | lst {a : Addr} {xs : List V} (e : H a = some (.lst xs)) : Dec H (.ref a)
end
end Vk
set_option Elab.async false
set_option maxRecDepth 100000
set_option maxHeartbeats 4000000
set_option linter.all false
namespace Vk
open PySem PySem.Spec PyProof.Rows L2 StX
/-! ## def f(self, *parts), with nothing under way -/
theorem passesF {X : Cx} : Passes (L2.CX X.prog X.w) X (fun _ _ _ => False) := by
  rintro pins σ H s e s' I ⟨a, B, H', cls, d, _, _, _, _, _, _, _, h⟩
  exact h.elim
section
variable {CX : CXT} {P : Program} {w : World} {K : PySem.W.Frag} {mg : Str → Option Value} {base : Heap} {k : Nat} {x qual : Str} {st : Stmt} {f : Addr} {fd : FuncData} {N ps : List Str} {sp : Sp}
end
section
variable {X : Cx} {CX : CXT} {k j : Nat} {C f : Addr} {sp : Sp} {E : XK} {x : Str} {p pos : Pos} {e : Expr} {es : List Expr} {t : TA}
end
end Vk
set_option Elab.async false
set_option maxRecDepth 100000
set_option maxHeartbeats 4000000
set_option linter.all false
namespace Vk
open PySem PySem.Spec PyProof.Rows L2
/-! ## for i, x in enumerate(t), t a tuple -/
theorem enum_new1 (t : Addr) (items : Array Value) : Meets (Builtin.«enumerate.__new__» ⟨[.type "enumerate", .ref t], []⟩) (fun _ R s => s.heap.IsTuple t items ∧
    R (.ok (.ret (.ref (s.heap.push { cls := .type "tuple_iterator", data := .fields #[.ref t, .int 0 0] }).objs.size)))
      { s with heap := (s.heap.push { cls := .type "tuple_iterator", data := .fields #[.ref t, .int 0 0] }).push { cls := .type "enumerate", data := .fields #[.none, .bool false, .ref s.heap.objs.size, rawInt 0, .none, .none] } }) :=
  .of_wp fun prog w A R s h => by
    obtain ⟨hp, g, d, tk, os⟩ := s
    obtain ⟨isT, k⟩ := h
    have sub := sub_enumerate
    have it1 : ∀ {A1 : Around} {E1 : Value → Shared → Prop} {Q1 : Value → Shared → Prop}, Q1 (.ref hp.objs.size) ⟨hp.push { cls := .type "tuple_iterator", data := .fields #[.ref t, .int 0 0] }, g, d, tk, os⟩ → wpAny (model prog w) A1 (pyIter (.ref t)) Q1 E1 ⟨hp, g, d, tk, os⟩ := fun q => wpAny_pyIter_tuple isT q
    wp_walk
    refine wpAny_stack_any fun st => wpAny_pure ?_
    split
    · rename_i c _ _ _ _ _
      cases (c == Value.type "enumerate")
      · wp_walk using it1
        exact ⟨_, rfl, k⟩
      · wp_walk using it1
        exact ⟨_, rfl, k⟩
    · wp_walk using it1
      exact ⟨_, rfl, k⟩
section
variable {prog : Program} {w : World} {A : Around} {E : Value → Shared → Prop} {s : Shared}
theorem call_enumT {t : Addr} {items : Array Value} {Q : Value → Shared → Prop} (isT : s.heap.IsTuple t items)
    (h : ∀ h2, IsEnum h2 (s.heap.objs.size + 1) s.heap.objs.size 0 .none → h2.IsTupleIter s.heap.objs.size t 0 → (∀ b o, s.heap.get? b = some o → h2.get? b = some o) → Q (.ref (s.heap.objs.size + 1)) { s with heap := h2 }) :
    wpAny (model prog w) A (call (.type "enumerate") [.ref t]) Q E s := by
  refine callType_new F.called_enumerate (by decide) (F.typeCall_enumerate_1 _) (F.newCall_enumerate_1 _) (fun obj => F.args_object_init_2 obj _) F.entry_enumerate_new (enum_new1 t items) ⟨isT, ?_⟩
  have one : (s.heap.push { cls := .type "tuple_iterator", data := .fields #[.ref t, .int 0 0] }).objs.size = s.heap.objs.size + 1 := Heap.size_push ..
  show _ ∧ _
  rw [one]
  have at1 : IsEnum ((s.heap.push { cls := .type "tuple_iterator", data := .fields #[.ref t, .int 0 0] }).push
      { cls := .type "enumerate", data := .fields #[.none, .bool false, .ref s.heap.objs.size, rawInt 0, .none, .none] }) (s.heap.objs.size + 1) s.heap.objs.size 0 .none := by
    have z := Heap.get?_push_size (s.heap.push { cls := .type "tuple_iterator", data := .fields #[.ref t, .int 0 0] })
      (o := { cls := .type "enumerate", data := .fields #[.none, .bool false, .ref s.heap.objs.size, rawInt 0, .none, .none] }) rfl
    rw [one] at z
    exact z
  exact ⟨⟨_, at1, rfl⟩, h _ at1 ⟨_, Heap.get?_push_of_some _ (Heap.get?_push_size _ rfl), rfl, rfl⟩ fun b o z => Heap.get?_push_of_some _ (Heap.get?_push_of_some _ z)⟩
end
/-- the tuple at a, each item in a new pair -/
def Itet (a : Addr) : It :=
  ⟨fun i H => ∃ (xs : List V) (x : V), H a = some (.tup xs) ∧ xs[i]? = some x, fun i H v H' => ∃ T x xs, v = .ref T ∧ H T = none ∧ H' = upd H T (.tup [.int (i : Nat), x]) ∧ H a = some (.tup xs) ∧ xs[i]? = some x, fun i H => ∃ xs : List V, H a = some (.tup xs) ∧ xs.length = i⟩
theorem turn_enumT {P : Program} {w : World} {K : PySem.W.Frag} {elts : List Expr} {kk : Nat} {tpos : Pos} (a e it : Addr) :
    Turn P w K (.Tuple elts kk tpos) (Itet a) [e, it] e (fun i h => (∃ old, IsEnum h e it ((i : Nat) : Int) old) ∧ h.IsTupleIter it a i ∧ e ≠ it ∧ a ≠ it ∧ e ≠ a) where
  mem := by simp
  obj := fun i h st b hb => by
    obtain ⟨⟨old, he⟩, ⟨o, ho, hc, hd⟩, _⟩ := st
    rcases List.mem_cons.mp hb with z | z
    · exact z ▸ ⟨_, he, fun v q => nomatch q⟩
    · rw [List.mem_singleton] at z
      exact z ▸ ⟨o, ho, fun v q => by rw [hd] at q; cases q⟩
  keep := fun i h h' st k => by
    obtain ⟨⟨old, he⟩, hi, rest⟩ := st
    exact ⟨⟨old, k e List.mem_cons_self _ he⟩, hi.at fun o q => k it (List.mem_cons_of_mem _ List.mem_cons_self) o q, rest⟩
  item := by
    intro X hP hw hK hc i pins s σ H E I hf st hg
    subst hP hw hK
    obtain ⟨⟨old, he⟩, hit, hne, hat, hea⟩ := st
    obtain ⟨xs, x, hq, hx⟩ := hg
    obtain ⟨its, rv, isT, hz⟩ := I.tuple (SqT.of hq)
    obtain ⟨u, hu, ru⟩ := rv.get hx
    have lt : i < its.toArray.size := by
      have := (List.getElem?_eq_some_iff.mp hu).1
      simpa using this
    have big1 : e < s.heap.objs.size := Heap.lt_size he
    have big2 : it < s.heap.objs.size := by obtain ⟨_, q, _⟩ := hit; exact Heap.lt_size q
    refine wpAny_pyNext_enum_itemD (Draws.tuple (A := X.A.in1) (I.ok.hd hc) it a hat its.toArray) he ⟨hit, isT⟩ lt hne (by simp [hne, hea]) fun u2 h2 tk hu2 ho st2 hT hsz hk => ?_
    obtain ⟨hit2, _⟩ := st2
    have eu : u2 = u := by
      have q := hu2
      simp only [List.getElem?_toArray] at q
      rw [hu] at q
      exact (Option.some.inj q).symm
    subst eu
    refine ⟨_, rfl, wpAny_letOwnedTupleGo_enum (s := { s with heap := h2, toks := tk + 1 }) ho fun h3 he3 sb => ?_⟩
    have hT3 : h3.get? s.heap.objs.size = some { cls := .type "tuple", data := .seq #[.int i tk, u2] } := (sb.2 _ (Nat.ne_of_gt big1)).trans hT
    have laid : ObjOk X.prog X.w (upd H s.heap.objs.size (.tup [.int (i : Nat), x])) h3 s.heap.objs.size (.tup [.int (i : Nat), x]) := ⟨few_len (Nat.le_of_ble_eq_true rfl), [.int i tk, u2], .cons ⟨_, rfl⟩ (.cons ru .nil), ⟨_, hT3, rfl, _, rfl⟩⟩
    have I1 : Inv X pins σ (upd H s.heap.objs.size (.tup [.int (i : Nat), x])) { s with heap := h3, toks := tk + 1 } :=
      I.turnedNew (ch := [e, it]) (fun b ob hb q => (sb.2 b (fun z => hb (by simp [z]))).trans (hk b ob (fun z => hb (by simp [z])) (fun z => hb (by simp [z])) q)) hf (Nat.le_refl _) laid
    refine ⟨.ref s.heap.objs.size, _, I1, rfl, ⟨_, x, xs, rfl, I.hok.fresh (Nat.le_refl _), rfl, hq, hx⟩, ⟨⟨u2, ?_⟩, hit2.at fun o q => (sb.2 it (Ne.symm hne)).trans q, hne, hat, hea⟩, fun b hb => ?_⟩
    · rw [show ((i + 1 : Nat) : Int) = (i : Int) + 1 by omega]
      exact he3
    · have old1 : b < s.heap.objs.size := by
        rcases List.mem_cons.mp hb with z | z
        · exact z ▸ big1
        · rw [List.mem_singleton] at z
          exact z ▸ big2
      exact (upd_ne (Nat.ne_of_lt old1)).trans (hf b hb).1
  done := by
    intro X hP hw hK hc i pins s σ H E I hf st hg
    subst hP hw hK
    obtain ⟨⟨old, he⟩, hit, hne, hat, hea⟩ := st
    obtain ⟨xs, hq, hx⟩ := hg
    obtain ⟨its, rv, isT, hz⟩ := I.tuple (SqT.of hq)
    obtain ⟨f0, f1, f2, f3, f4, f5⟩ := hf it (List.mem_cons_of_mem _ List.mem_cons_self)
    have le : i = its.toArray.size := by rw [← hx, rv.length, List.size_toArray]
    exact wpAny_pyNext_enum_endD (Draws.tuple (A := X.A.in1) (I.ok.hd hc) it a hat its.toArray) he ⟨le ▸ hit, isT⟩ fun h' eb => ⟨rfl, I.turned (t' := s.toks) (fun b o hb q => eb b o hb q) f0 f1 f3 f4 f5⟩
  self := fun A i s Q E st h => let ⟨⟨_, he⟩, _⟩ := st; wpAny_pyIter_enum he h
def iEnumT (ta : TA) : TI := fun σ H R => ta σ H fun vs H1 => ∃ a xs, vs = [.ref a] ∧ H1 a = some (.tup xs) ∧ R (Itet a) H1
theorem pi_enumT {X : Cx} {e : Expr} {ta : TA} {p pos tpos : Pos} {elts : List Expr} {kk : Nat} (gl : Gl X "enumerate") (hm : X.mg "enumerate" = none) (ha : PA X [e] ta) (hs : starEach [e] X.env = [(false, eval e X.env)] := by rfl) :
    PI X (.Tuple elts kk tpos) (.Call (.Name "enumerate" p) [e] [] pos) (iEnumT ta) := by
  refine ⟨fun pins s σ H R I h => Call_ (ld_blt I gl hm boot_enumerate (PyProof.Rows.callWith_type1 (thn (ha.run pos pins s σ H _ I h) fun us s1 hh => ?_) hs rfl))⟩
  obtain ⟨vs, H1, I1, r1, a, xs, rfl, hq, q⟩ := hh
  obtain ⟨u, rfl, ru⟩ := r1.one
  cases (show u = Value.ref a from ru)
  obtain ⟨its, rv, isT, hz⟩ := I1.tuple (SqT.of hq)
  have lta : a < s1.heap.objs.size := by obtain ⟨o, ho, _⟩ := isT; exact Heap.lt_size ho
  refine call_enumT isT fun h2 he hit hk => wpAny_pyIter_enum he ?_
  have I2 : Inv X pins σ H1 { s1 with heap := h2 } := I1.kept (t' := s1.toks) hk
  refine ⟨s1.heap.objs.size + 1, [s1.heap.objs.size + 1, s1.heap.objs.size], _, _, H1, rfl, I2, turn_enumT a (s1.heap.objs.size + 1) s1.heap.objs.size, ⟨⟨.none, he⟩, hit, Nat.succ_ne_self _, Nat.ne_of_lt lta, Nat.ne_of_gt (Nat.lt_succ_of_lt lta)⟩, fun b hb => ?_, q⟩
  have le : s1.heap.objs.size ≤ b := by
    rcases List.mem_cons.mp hb with z | z
    · rw [z]; exact Nat.le_succ _
    · rw [List.mem_singleton.mp z]; exact Nat.le_refl _
  exact I1.fpOk le (I1.hok.fresh le)
end Vk
set_option Elab.async false
set_option maxRecDepth 100000
set_option maxHeartbeats 4000000
set_option linter.all false
namespace Vk
open PySem PySem.Spec PyProof.Rows L2
/-- what repr asks -/
def Shn (d : PyData) : Prop := d.showable = true ∧ d.depth ≤ 60 ∧ d.shown.length ≤ sizeLine
section
variable {X : Cx}
/-- e.f, a property, e an instance of one of some classes -/
structure PrI (P : Program) (w : World) (K : PySem.W.Frag) (mg : Str → Option Value) (base : Heap) (k : Nat) (C : Addr) (f fa : Str) : Prop where
  ex : ∃ (p g : Addr) (fd : FuncData), Cls K C ∧ PropOf K C f p g ∧ FnOk P w K mg base CX0 k g fd ["self"] (getSp C fa) ∧ Binds K fd ["self"] []
end
end Vk
set_option Elab.async false
set_option maxRecDepth 100000
set_option maxHeartbeats 4000000
set_option linter.all false
namespace Vk
open L2 PySem PySem.Spec PyProof.Rows
/-! ## lstrip leaves nothing of a string exactly if all its signs are to be stripped -/
theorem take_all {α : Type} (g : α → Bool) : ∀ l : List α, (l.takeWhile g).length = l.length ↔ l.all g = true
  | [] => by simp
  | a :: r => by
    rw [List.takeWhile_cons, List.all_cons]
    cases h : g a with
    | true =>
      rw [if_pos rfl, List.length_cons, List.length_cons, Bool.true_and]
      exact ⟨fun z => (take_all g r).mp (Nat.succ.inj z), fun z => congrArg Nat.succ ((take_all g r).mpr z)⟩
    | false =>
      rw [if_neg (by decide)]
      simp
theorem take_le {α : Type} (g : α → Bool) : ∀ l : List α, (l.takeWhile g).length ≤ l.length
  | [] => Nat.le_refl _
  | a :: r => by
    rw [List.takeWhile_cons]
    split
    · exact Nat.succ_le_succ (take_le g r)
    · exact Nat.zero_le _
theorem str_empty {z : Str} : z = "" ↔ z.cps.toList = [] := by
  constructor
  · rintro rfl
    rfl
  · intro h
    cases z with
    | mk c =>
      have e : c = #[] := by simpa using h
      subst e
      rfl
theorem lstrip_all {z y : Str} : Txt.lstripChars z y = "" ↔ z.cps.toList.all y.cps.contains = true := by
  unfold Txt.lstripChars Txt.stripBy
  have len : z.length = z.cps.toList.length := by simp [Str.length]
  have lo : stripLo y.cps.contains true z = (z.cps.toList.takeWhile y.cps.contains).length := rfl
  have hi : ∀ n, stripHi y.cps.contains false z n = z.length := fun n => rfl
  rw [← take_all]
  by_cases h0 : (z.cps.toList.takeWhile y.cps.contains).length = 0
  · have same : stripSame y.cps.contains true false z = true := by
      unfold stripSame
      rw [hi, lo, h0]
      simp
    rw [if_pos same, str_empty, h0]
    exact ⟨fun e => by rw [e]; rfl, fun e => List.length_eq_zero_iff.mp e.symm⟩
  · have same : ¬ (stripSame y.cps.contains true false z = true) := by
      unfold stripSame
      rw [hi, lo]
      simpa using fun e => absurd (by simpa using e) h0
    rw [if_neg same, str_empty]
    have sub : (stripped y.cps.contains true false z).cps.toList = z.cps.toList.drop (z.cps.toList.takeWhile y.cps.contains).length := by
      unfold stripped
      rw [hi, lo]
      show ((z.cps.extract _ z.length).toList) = _
      rw [Array.toList_extract, List.extract_eq_drop_take, len]
      rw [List.take_of_length_le (by rw [List.length_drop]; exact Nat.le_refl _)]
    rw [sub, List.drop_eq_nil_iff]
    have le := take_le y.cps.contains z.cps.toList
    exact ⟨fun e => Nat.le_antisymm le e, fun e => Nat.le_of_eq e.symm⟩
end Vk
namespace Vk
open L2 PySem PySem.Spec PyProof.Rows
/-- a comprehension over the signs of a string -/
theorem lc_str {z : Str} {g : TG} {tt : TT} {te : TE} {vs : List Nat} {σ : L2.St} {H1 : Hp} {D : Addr} {Qd : Hp → Prop} (Pv : Nat → Hp → Prop) (h0 : Pv 0 (upd H1 D (.lst [])))
    (hs : ∀ i c H, z.cps[i]? = some c → Pv i H → g (.str ⟨#[c]⟩) (wipe σ vs) H fun σ2 H2 => wipe σ2 vs = wipe σ vs ∧ tt σ2 H2 fun b H3 =>
      if b = true then te σ2 H3 fun y H4 => ∃ acc, H4 D = some (.lst acc) ∧ acc.length < sizeLine ∧ Pv (i + 1) (upd H4 D (.lst (acc ++ [y]))) else Pv (i + 1) H3) (hd : ∀ H, Pv z.cps.size H → Qd H) :
    ∃ W : Nat → Nat → Hp → Prop, (∃ m, W 0 m (upd H1 D (.lst []))) ∧ ∀ i m H, W i m H →
      ((Its z).stop i H ∧ Qd H) ∨ ((Its z).go i H ∧ ∃ Nx : Hp → Prop, (∀ H', Nx H' → ∃ m', m' < m ∧ W (i + 1) m' H') ∧ ∀ x H', (Its z).yld i H x H' → g x (wipe σ vs) H' fun σ2 H2 => wipe σ2 vs = wipe σ vs ∧ tt σ2 H2 fun b H3 =>
        if b = true then te σ2 H3 fun y H4 => ∃ acc, H4 D = some (.lst acc) ∧ acc.length < sizeLine ∧ Nx (upd H4 D (.lst (acc ++ [y]))) else Nx H3) := by
  refine ⟨fun i m H => m = z.cps.size - i ∧ i ≤ z.cps.size ∧ Pv i H, ⟨z.cps.size, rfl, Nat.zero_le _, h0⟩, ?_⟩
  rintro i m H ⟨rfl, hi, p⟩
  by_cases lt : i < z.cps.size
  · refine .inr ⟨lt, Pv (i + 1), fun H2 p2 => ⟨z.cps.size - (i + 1), by omega, rfl, lt, p2⟩, fun v H2 w => ?_⟩
    obtain ⟨rfl, c, hc, rfl⟩ := w
    exact hs i c _ hc p
  · have e : i = z.cps.size := by omega
    subst e
    exact .inl ⟨Nat.le_refl _, hd H p⟩
end Vk
set_option Elab.async false
set_option maxRecDepth 100000
set_option maxHeartbeats 4000000
set_option linter.all false
namespace Vk
open PySem PySem.Spec PyProof.Rows L2 LamX
/-! ## the law's own call, one def of the text makes lambdas (its code object c, its table P) -/
theorem const_s {p : Program} {loose : List Str} {mean : ExcName → Option Value} {mg mb : Str → Option Value} {h : Heap} (T : PyProof.Rows.Top p loose mean mg mb h) {x z : Str} (e : PyProof.Rows.valOf p x = some (.str z)) : ∃ u, mg x = some u ∧ RelV (.str z) u := by
  obtain ⟨v, hv, r⟩ := T.const x _ e
  cases r h with
  | str i t => exact ⟨_, hv, ⟨t, rfl⟩⟩
/-- the table of a def's code object -/
theorem tab_at {p : Program} {loose : List Str} {mean : ExcName → Option Value} {mg mb : Str → Option Value} {h : Heap} {K : PySem.W.Frag} {x : Str} {c tP : Addr} (T : PyProof.Rows.Top p loose mean mg mb h) (X : K.In h) (hr : ((PyProof.Rows.recsOf p).find? (fun e => e.name == x)).isSome = true) (ht : PySem.W.tabIn K x = some (c, tP)) (no : PySem.W.noTabs K = true) :
    h.get? tP = some { cls := .none, data := .fields #[] } ∧ K.lookup tP = none ∧ PySem.W.CodeHd h c tP := by
  obtain ⟨d, hd⟩ := Option.isSome_iff_exists.mp hr
  obtain ⟨h1, h2⟩ := PySem.W.tab_of T X hd ht
  refine ⟨h2, ?_, h1⟩
  match q : K.lookup tP with
  | none => rfl
  | some o =>
    have e := (X _ _ q).symm.trans h2
    cases e
    have z := List.all_eq_true.mp no _ (PySem.W.mem_of_lookupK q)
    exact nomatch (show false = true from z)
end Vk
set_option Elab.async false
set_option maxRecDepth 100000
set_option maxHeartbeats 4000000
set_option linter.all false
namespace Vk
open PySem PySem.Spec PyProof.Rows L2 LamX
/-! ## where the modules are told lies a dict -/
def SM (base : Heap) : Prop := ∃ (o : Obj) (es : Array DictEntry) (ep : _), base.get? sysModules = some o ∧ o.data = .dict es ep
theorem sm_of {h : Heap} (x : h.NoSeer) : SM h := by
  obtain ⟨mm, ⟨o, es, ep, ho, hd, _⟩, _⟩ := x.mods
  exact ⟨o, es, ep, ho, hd⟩
section
variable {X : Cx} {pins : List (Addr × Obj)} {σ : L2.St} {H : Hp} {s : Shared}
theorem ne_sys (I : Inv X pins σ H s) (sm : SM X.base) {a : Addr} {xs : List V} (h : H a = some (.lst xs)) : a ≠ sysModules := by
  rintro rfl
  obtain ⟨o, es, ep, ho, hd⟩ := sm
  obtain ⟨its, rv, ⟨o2, n, ho2, hc, _, hd2⟩, _⟩ := I.list (SqL.of h)
  have e := (I.bk _ _ ho).symm.trans ho2
  cases e
  exact nomatch hd.symm.trans hd2
/-- a list or a tuple of such values -/
def Shm (H : Hp) (x : V) (d : PyData) : Prop := ∃ q vs ds, x = .ref q ∧ Paired (Th H) vs ds ∧ ((H q = some (.lst vs) ∧ d = .list ds) ∨ (H q = some (.tup vs) ∧ d = .tuple ds))
theorem ths_read (I : Inv X pins σ H s) : ∀ {vs : List V} {ds : List PyData} {us : List Value}, Paired (Th H) vs ds → Vals vs us → ∃ as, ReadsAll s.heap us ds as ∧ sysModules ∉ as
  | _, _, _, .nil, .nil => ⟨_, ReadsAll.nil, List.not_mem_nil⟩
  | _, _, _, .cons a t, .cons r rs => by
    obtain ⟨as, h1, n1⟩ := a.reads I r
    obtain ⟨bs, h2, n2⟩ := ths_read I t rs
    refine ⟨_, ReadsAll.cons h1 h2, ?_⟩
    simp only [List.mem_append, not_or]
    exact ⟨n1, n2⟩
theorem call_reprM (sm : SM X.base) (hg : X.A.guards = some []) (hu : X.A.units + 64 < cLine) : CallR X (.builtin "repr") (fun xs H Q => ∃ x d, xs = [x] ∧ Shm H x d ∧ Shn d ∧ Q (.str d.shown) H) := by
  intro pins s σ H xs us Q I r h
  obtain ⟨x, d, rfl, ⟨q, vs, ds, rfl, pr, hd⟩, sh, k⟩ := h
  obtain ⟨u, rfl, ru⟩ := r.one
  cases (show u = Value.ref q from ru)
  rcases hd with ⟨e, rfl⟩ | ⟨e, rfl⟩
  · have ne := ne_sys I sm e
    obtain ⟨its, rv, ⟨o, n, ho, hc, _, hd⟩, _⟩ := I.list (SqL.of e)
    obtain ⟨as, h1, n1⟩ := ths_read I pr rv
    have rd := Reads.list ho hc hd h1
    refine repr_of_reads' rd sh.1 (fun z => ?_) hg (by have := sh.2.1; omega) (fun _ _ e => e) (fun h2 u tk hk => ⟨V.str _, H, I.kept hk, ⟨u, rfl⟩, k⟩) sh.2.2
    simp only [List.mem_cons, not_or]
    exact ⟨fun w => ne w.symm, n1⟩
  · obtain ⟨its, rv, ⟨o, ho, hc, n, hd⟩, _⟩ := I.tuple (SqT.of e)
    obtain ⟨as, h1, n1⟩ := ths_read I pr rv
    have rd := Reads.tuple ho hc hd h1
    refine repr_of_reads' rd sh.1 (fun z => ?_) hg (by have := sh.2.1; omega) (fun _ _ e => e) (fun h2 u tk hk => ⟨V.str _, H, I.kept hk, ⟨u, rfl⟩, k⟩) sh.2.2
    first | exact n1 | exact List.not_mem_nil
end
/-! ## == of a list and the empty list -/
section
open Builtin
end
/-! ## the law's own call, one def of the text makes lambdas (its code object c, its table P) -/
theorem lawGS {P : Program} {w : World} {K : PySem.W.Frag} {mg mb : Str → Option Value} {CX : CXT} {k : Nat} {fa a c tP : Addr} {fd : FuncData} {x : Str} {sp : Sp} {s1 : Shared} {vs : List Value} {ns : List Int}
    (KX : K.In s1.heap) (gns : s1.heap.Ns mainGlobals mg) (bns : s1.heap.Ns builtinsNs mb) (bbt : ∀ x : Str, x ≠ "__name__" → mb x = bootBuiltins x) (nolim : s1.heap.NoLimit) (smod : SM s1.heap) (gens0 : s1.gens = #[])
    (tabAt : s1.heap.get? tP = some { cls := .none, data := .fields #[] }) (tabK : K.lookup tP = none) (code : PySem.W.CodeHd s1.heap c tP)
    (bmain : ∃ (bm : Addr) (ob : Obj), mg "__builtins__" = some (.ref bm) ∧ bm ≠ builtinsNs ∧ s1.heap.get? bm = some ob ∧ ob.cls = .type "module" ∧ ob.dict = some builtinsNs ∧ ob.data = .plain)
    (scr : s1.heap.get? a = some { cls := .type "list", data := .seq vs.toArray }) (hints : IntsAre vs ns) (short : ns.length ≤ sizeLine) (room : Room k callerA)
    (F : ∀ base : Heap, K.In base → base.Ns mainGlobals mg → TabB base mg c tP → SM base → FnG P w K mg base CX k fa fd [x] sp) (bind1 : ∀ (s : Shared) (u : Value), BindsTo s fd ⟨[u], []⟩ [(x, u)])
    (prom : ∀ H : Hp, H tP = some (.tbl #[]) → SqL K H a (ns.map V.int) → sp [.ref a] H (fun v _ => v = .bl true) fun _ _ _ => False)
    (noX : ∀ H e s2, CX [] H s1 (fun _ _ _ => False) e s2 → False) :
    codeAny (model P w) callerA (.call (.ref fa) ⟨[.ref a], []⟩) (fun r s2 => r = .ok (.ret (.bool true)) ∧ OldK s1.heap s2.heap ∧ s2.os = s1.os ∧ AllBare s2.gens) s1 := by
  have rel := vals_ints hints
  have aP : a ≠ tP := fun z => by
    rw [z, tabAt] at scr
    cases scr
  have main : ∀ H : Hp, H tP = some (.tbl #[]) → (∀ b u, H b = some u → b = tP ∨ (b = a ∧ ∃ ob xs, u = .frz ob (.lst xs))) → SqL K H a (ns.map V.int) → HOk P w H s1.heap → (∀ u, H a = some u → K.lookup a = none) →
      codeAny (model P w) callerA (.call (.ref fa) ⟨[.ref a], []⟩) (fun r s2 => r = .ok (.ret (.bool true)) ∧ OldK s1.heap s2.heap ∧ s2.os = s1.os ∧ AllBare s2.gens) s1 := by
    intro H hP only seq ok un1
    have apart : ∀ {b : Addr} {o : Obj}, s1.heap.get? b = some o → (∀ ws n, o.data ≠ .seq ws n) → o.data ≠ .fields #[] → H b = none := by
      intro b o e n1 n2
      match q : H b with
      | none => rfl
      | some u =>
        rcases only b u q with rfl | ⟨rfl, _⟩
        · rw [tabAt] at e
          cases e
          exact absurd rfl n2
        · rw [scr] at e
          cases e
          exact absurd rfl (n1 _ _)
    have nsAt : ∀ {b : Addr} {m : Str → Option Value}, s1.heap.Ns b m → (hidT s1.heap H).Ns b m := by
      rintro b m ⟨o, es, ep, e, d, r⟩
      exact ⟨o, es, ep, hidT_get e (apart e (fun ws n z => nomatch d.symm.trans z) (fun z => nomatch d.symm.trans z)), d, r⟩
    have inK : K.In (hidT s1.heap H) := by
      intro b o e
      refine hidT_get (KX b o e) ?_
      match q : H b with
      | none => rfl
      | some u =>
        rcases only b u q with rfl | ⟨rfl, _⟩
        · exact nomatch tabK.symm.trans e
        · exact nomatch (un1 u q).symm.trans e
    have limAt : (hidT s1.heap H).NoLimit := match nolim with | ⟨mc, h1, h2⟩ => ⟨mc, nsAt h1, h2⟩
    have mod1 : Mod K mg (hidT s1.heap H) := ⟨inK, nsAt gns, ⟨mb, nsAt bns, bbt⟩, limAt⟩
    have tb : TabB (hidT s1.heap H) mg c tP := by
      refine ⟨?_, ?_, fun z => ?_⟩
      · obtain ⟨o, us, file, tf, flags, tg, inF, text, tt, e1, r1, r2, r3, r⟩ := code
        refine ⟨o, us, file, tf, flags, tg, inF, text, tt, hidT_get e1 (apart e1 (fun ws n z => nomatch r2.symm.trans z) (fun z => ?_)), r1, r2, r3, r⟩
        have z2 := r2.symm.trans z
        cases z2
        simp at r3
      · obtain ⟨bm, ob, b1, b2, b3, b4, b5, b6⟩ := bmain
        refine ⟨bm, ob, b1, b2, fun q => ?_, fun q => ?_, hidT_get b3 (apart b3 (fun ws n z => nomatch b6.symm.trans z) (fun z => nomatch b6.symm.trans z)), b4, b5, b6⟩
        · obtain ⟨o, es, ep, e, hd, _⟩ := gns
          rw [q, e] at b3
          cases b3
          exact nomatch hd.symm.trans b6
        · rw [q, tabAt] at b3
          cases b3
          cases b6
      · obtain ⟨o, es, ep, e, hd, _⟩ := gns
        rw [z, tabAt] at e
        cases e
        cases hd
    have sm : SM (hidT s1.heap H) := by
      obtain ⟨o, es, ep, e, d⟩ := smod
      exact ⟨o, es, ep, hidT_get e (apart e (fun ws n z => nomatch d.symm.trans z) (fun z => nomatch d.symm.trans z)), d⟩
    have start0 : Env0 P w K mg (hidT s1.heap H) callerA [] s1 H := ⟨rfl, mod1, fun b o => of_hidT, Nat.le_of_eq (hidT_size s1.heap H), trivial, (fun b hb => absurd hb (List.not_mem_nil (a := b))), ok, AllBare.of_eq gens0⟩
    refine codeAny_mono ((F _ inK (nsAt gns) tb sm).run callerA [] s1 H ⟨[.ref a], []⟩ [.ref a] [.ref a] _ _ rfl room start0 (bind1 s1 (.ref a)) (.cons rfl .nil) (prom H hP seq)) ?_
    intro res s2 h
    match res, h with
    | .error e, h => exact (noX H e s2 h).elim
    | .ok .next, h => exact h.elim
    | .ok .brk, h => exact h.elim
    | .ok .cont, h => exact h.elim
    | .ok (.ret u), ⟨v, H2, os, bare, un, ok2, r2, (hv : v = .bl true)⟩ =>
      cases hv
      have hu : u = Value.bool true := r2
      cases hu
      obtain ⟨more, grown⟩ := un.tbls tP #[] hP
      have tab2 : s2.heap.get? tP = some { cls := .none, data := .fields (#[] ++ more) } := ok2 tP _ grown
      have rest : ∀ b o, b ≠ tP → s1.heap.get? b = some o → s2.heap.get? b = some o := by
        intro b o nb e
        match q : H b with
        | none => exact un.keep b o e q (fun z => nomatch z) (fun z => nomatch z)
        | some u =>
          rcases only b u q with rfl | ⟨rfl, ob, xs, rfl⟩
          · exact absurd rfl nb
          · have c1 := (ok b _ q).1
            have c2 := (ok2 b _ (un.frzs b ob _ q)).1
            exact c2.trans (c1.symm.trans e)
      refine ⟨rfl, ⟨fun b o e => ?_, fun b o e => ?_⟩, os, bare⟩
      · by_cases hb : b = tP
        · subst hb
          have e2 := tabAt.symm.trans e
          cases e2
          exact .inr (.inl ⟨(code.tab tabAt).isCodeTable, rfl, #[], more, rfl, tab2⟩)
        · exact .inl (rest b o hb e)
      · by_cases hb : b = tP
        · exact ⟨_, hb ▸ tab2⟩
        · exact ⟨o, rest b o hb e⟩
  match hk : K.lookup a with
  | some o =>
    have e := (KX a o hk).symm.trans scr
    cases e
    refine main (fun b => if b = tP then some (.tbl #[]) else none) (if_pos rfl) (fun b u z => ?_) (Or.inr ⟨_, vs.toArray, _, hk, rfl, rfl, rfl, ?_, ?_⟩) (fun b u z => ?_) (fun u z => nomatch (if_neg aP).symm.trans z)
    · by_cases hb : b = tP
      · exact .inl hb
      · exact nomatch (if_neg hb).symm.trans z
    · rw [List.size_toArray, hints.length]
      exact short
    · simpa using rel
    · by_cases hb : b = tP
      · subst hb
        have z2 := (if_pos rfl).symm.trans z
        cases z2
        exact tabAt
      · exact nomatch (if_neg hb).symm.trans z
  | none =>
    refine main (fun b => if b = a then some (.frz { cls := .type "list", data := .seq vs.toArray } (.lst (ns.map V.int))) else if b = tP then some (.tbl #[]) else none) ((if_neg aP.symm).trans (if_pos rfl)) (fun b u z => ?_) (Or.inl (Or.inr ⟨_, if_pos rfl⟩)) (fun b u z => ?_) (fun _ _ => hk)
    · by_cases ha : b = a
      · exact .inr ⟨ha, _, _, (Option.some.inj ((if_pos ha).symm.trans z)).symm⟩
      · by_cases hb : b = tP
        · exact .inl hb
        · exact nomatch ((if_neg ha).trans (if_neg hb)).symm.trans z
    · by_cases ha : b = a
      · subst ha
        have z1 := (if_pos rfl).symm.trans z
        cases z1
        exact ⟨scr, (by rw [List.length_map]; exact short), vs, _, rel, scr⟩
      · have z := (if_neg ha).symm.trans z
        by_cases hb : b = tP
        · subst hb
          have z2 := (if_pos rfl).symm.trans z
          cases z2
          exact tabAt
        · exact nomatch (if_neg hb).symm.trans z
theorem walkXS {l : PySem.W.OpenLaw} {n k : Nat} {q : Program} {loose : List Str} {XP : (Str → Option Value) → Heap → Prop} {YP : World → Heap → Prop} {d : DefRec} {K : Params → PySem.W.Frag} {CX : CXT} {sp : Addr → PySem.W.Frag → Sp} {x : Str}
    (hi : PyProof.Rows.importsNone q = true) (hn : l.most = some n) (hn2 : n ≤ sizeLine) (hdf : d.params.defaults = []) (hr : Room k callerA) (hY : ∀ (w : World) (h : Heap), YP w h → (K w.params).In h)
    (F : ∀ (w : World) (mg : Str → Option Value) (fa : Addr) (h : Heap), (K w.params).In h → (∃ s0 mb, PySem.W.Ground q loose [] XP w s0 mg mb h) → mg d.name = some (.ref fa) →
      ∃ (fd : FuncData) (c tP : Addr), h.get? tP = some { cls := .none, data := .fields #[] } ∧ (K w.params).lookup tP = none ∧ PySem.W.CodeHd h c tP ∧ (∀ (s : Shared) (u : Value), BindsTo s fd ⟨[u], []⟩ [(x, u)]) ∧
        ∀ base : Heap, (K w.params).In base → base.Ns mainGlobals mg → TabB base mg c tP → SM base → FnG l.prog w (K w.params) mg base CX k fa fd [x] (sp tP (K w.params)))
    (hsp : ∀ (tP : Addr) (K : PySem.W.Frag) (H : Hp) (a : Addr) (ns : List Int), ns.length ≤ n → H tP = some (.tbl #[]) → SqL K H a (ns.map V.int) → sp tP K [.ref a] H (fun v _ => v = .bl true) fun _ _ _ => False)
    (noX : ∀ (H : Hp) (s : Shared) (e : Value) (s2 : Shared), CX [] H s (fun _ _ _ => False) e s2 → False) : PySem.W.WalkO q loose XP YP l.row.toRowW d [] (fun f vs => PySem.call f vs) := by
  refine Att.attach_call hn hdf ?_
  intro w s0 s1 mg mb fa o pm cd doc a vs ns G Y _ _ _ hmg scr hints hlen gens0
  obtain ⟨fd, c, tP, t1, t2, t3, hb, hF⟩ := F w mg fa _ (hY w _ Y) ⟨s0, mb, G⟩ hmg
  exact lawGS (hY w _ Y) G.T.g G.T.b G.T.builtins G.T.nolimit (sm_of (G.T.seer hi)) gens0 t1 t2 t3 G.T.bmain scr hints (Nat.le_trans hlen hn2) hr hF hb (fun H h1 h2 => hsp tP _ H a ns hlen h1 h2) (fun H => noX H s1)
end Vk
set_option Elab.async false
set_option maxRecDepth 100000
set_option maxHeartbeats 4000000
set_option linter.all false
namespace Vk
open L2 PySem PySem.Spec PyProof.Rows PySem.VkX
/-! ## what is made is new -/
def New (H : Hp) (v : V) : Prop := ∀ b, v = .ref b → H b = none
theorem New.same {H H1 : Hp} {v : V} (n : New H1 v) (s : Same H H1) : New H v := fun b e => by
  match q : H b with
  | none => rfl
  | some o => exact nomatch (s b o q).symm.trans (n b e)
theorem New.ext {H H1 : Hp} {v : V} {p c : Addr} {T : Nat} (n : New H1 v) (x : Ext p H H1) (P : Pen H1 p c T) : New H v := fun b e => by
  match q : H b with
  | none => rfl
  | some o =>
    obtain ⟨t, l, hp⟩ := P.is
    by_cases hb : b = p
    · rw [hb] at e
      exact nomatch hp.symm.trans (n p e)
    · exact nomatch (x b o q hb).symm.trans (n b e)
theorem Atm.new {H : Hp} {v : V} {d : PyData} (a : Atm v d) : New H v := fun b e => by
  subst e
  cases a
theorem New.ne {H : Hp} {v : V} {D : Addr} {o : HO} (n : New H v) (h : H D = some o) : v ≠ .ref D := fun e => nomatch h.symm.trans (n D e)
theorem Th.at {H : Hp} {v : V} {d : PyData} {D : Addr} {o : HO} (h : Th H v d) (n : v ≠ .ref D) : Th (upd H D o) v d := by
  cases h with
  | atm a => exact .atm a
  | @lst a xs ds e ne p => exact .lst ((upd_ne fun z => n (congrArg V.ref z)).trans e) ne p
  | @tup a xs ds e p => exact .tup ((upd_ne fun z => n (congrArg V.ref z)).trans e) p
  | @dct a ps e => exact .dct ((upd_ne fun z => n (congrArg V.ref z)).trans e)
def Mk2 (t : TE) (d : PyData) : Prop := ∀ σ H Q, (∀ v H', Same H H' → Th H' v d → New H v → Q v H') → t σ H Q
def Mks2 (t : TA) (ds : List PyData) : Prop := ∀ σ H Q, (∀ vs H', Same H H' → Paired (Th H') vs ds → (∀ v ∈ vs, New H v) → Q vs H') → t σ H Q
section
variable {t te : TE} {ta : TA} {d : PyData} {ds : List PyData}
theorem mk2_atm (a : MkA te d) : Mk2 te d := by
  obtain ⟨v, h1, h2⟩ := a
  exact fun σ H Q q => h2 σ H Q (q v H Same.rfl (.atm h1) h1.new)
theorem mk2_tup (a : MkAs ta ds) (hl : ds.length ≤ 1000) : Mk2 (tTup ta) (.tuple ds) := by
  obtain ⟨vs, g1, g2⟩ := a
  exact fun σ H Q q => g2 σ H _ ⟨few_len ((paired_len g1).symm ▸ hl), fun p hp => q _ _ (same_new hp) (.tup upd_same g1) fun b e => by cases e; exact hp⟩
theorem mk2_lst (a : MkAs ta ds) (hl : ds.length ≤ 1000) : Mk2 (tLs1 ta) (.list ds) := by
  obtain ⟨vs, g1, g2⟩ := a
  exact fun σ H Q q => g2 σ H _ ⟨few_len ((paired_len g1).symm ▸ hl), fun p hp np => q _ _ (same_new hp) (.lst upd_same np g1) fun b e => by cases e; exact hp⟩
theorem mk2_dnew : Mk2 tDNewK (.dict (kvD [])) := fun σ H Q q p hp => q _ _ (same_new hp) (.dct upd_same) fun b e => by cases e; exact hp
theorem mk2_disp {a b : Str} : Mk2 (tDisp [(tC (.str a), tC (.str b))]) (.dict (kvD [(a, b)])) := by
  intro σ H Q q p hp
  refine ⟨upd_same, [(Sum.inr a, V.str b)], rfl, by show 1 ≤ 15; decide, ?_⟩
  refine q _ _ (fun c o h => ?_) (.dct (ps := [(a, b)]) upd_same) fun b e => by cases e; exact hp
  rw [upd_ne (ne_of_none h hp), upd_ne (ne_of_none h hp)]
  exact h
theorem mks2_nil : Mks2 tNil [] := fun σ H Q q => q [] H Same.rfl .nil fun v hv => absurd hv List.not_mem_nil
theorem mks2_cons (a : Mk2 te d) (b : Mks2 ta ds) : Mks2 (tCons te ta) (d :: ds) := fun σ H Q q => a σ H _ fun v H1 s1 t1 n1 => b σ H1 _ fun vs H2 s2 t2 n2 => q _ _ (s1.trans s2) (.cons (t1.keep s2) t2) fun x hx => by
  rcases List.mem_cons.mp hx with rfl | hx
  · exact n1
  · exact (n2 x hx).same s1
theorem mk2_many (a : Mks2 ta ds) (hl : ds.length ≤ 1000) {σ : L2.St} {H : Hp} {Q : VK} (q : ∀ p xs H', Same H H' → H' p = some (.lst xs) → Paired (Th H') xs ds → (∀ v ∈ xs, New H v) → Q (.ref p) H') : tLst ta σ H Q :=
  a σ H _ fun vs H1 s1 t1 n1 => ⟨few_len ((paired_len t1).symm ▸ hl), fun p hp => q p vs _ (s1.trans (same_new hp)) upd_same (ths_keep (same_new hp) t1) n1⟩
end
end Vk
set_option Elab.async false
set_option maxRecDepth 100000
set_option linter.all false
namespace Vk
open PySem PySem.Spec PyProof.Rows L2
/-! ## lists whose items stand for items of another list -/
theorem paired_at {α β : Type} {R : α → β → Prop} : ∀ {xs : List α} {ys : List β} {i : Nat} {x : α}, Paired R xs ys → xs[i]? = some x → ∃ y, ys[i]? = some y ∧ R x y
  | _, _, 0, _, .cons a t, h => by cases h; exact ⟨_, rfl, a⟩
  | _, _, i + 1, _, .cons a t, h => paired_at (i := i) t h
theorem drop_at {α : Type} : ∀ {l : List α} {i : Nat} {x : α}, l[i]? = some x → l.drop i = x :: l.drop (i + 1)
  | a :: l, 0, x, h => by cases h; rfl
  | a :: l, i + 1, x, h => by simpa using drop_at (l := l) (i := i) (x := x) (by simpa using h)
def tTruK (K : PySem.W.Frag) (ta : TE) : TT := fun σ H Q => ta σ H fun x H' => ∃ k, TruV K x H' k ∧ Q k H'
theorem pt_truthK {X : Cx} {K : PySem.W.Frag} {a : Expr} {ta : TE} (hK : X.K = K) (ha : PE X a ta) (he : ∀ whole, isTrue a X.env whole = (do let v ← whole; standAt a.pos; holding [v] (truthy v)) := by intro _; rfl) :
    PT X a (tTruK K ta) := hK ▸ pt_truth ha he
end Vk
set_option Elab.async false
set_option maxRecDepth 100000
set_option maxHeartbeats 4000000
set_option linter.all false
namespace Vk
open PySem PySem.Spec PyProof.Rows L2
theorem fewL {n : Nat} (h : n ≤ 100000) : n < sizeLine := Nat.lt_of_le_of_lt h (by rw [sizeLine_eq]; decide)
theorem pair_mono {α β : Type} {R S : α → β → Prop} (h : ∀ a b, R a b → S a b) : ∀ {xs : List α} {ys : List β}, Paired R xs ys → Paired S xs ys
  | _, _, .nil => .nil
  | _, _, .cons a t => .cons (h _ _ a) (pair_mono h t)
theorem none_up {H H1 : Hp} {a : Addr} (s : Same H H1) (h : H1 a = none) : H a = none := by
  match e : H a with
  | none => rfl
  | some o => exact nomatch (s _ _ e).symm.trans h
theorem upd_list {H : Hp} {l : Addr} {xs : List V} {o : HO} (h : H l = some (.lst xs)) (u : Addr) (ws : List V) (hu : H u = some (.tup ws)) : (upd H l o) u = some (.tup ws) := by
  rw [upd_ne (fun e => by rw [e, h] at hu; cases hu)]
  exact hu
theorem upd_out {H H1 : Hp} {l : Addr} {o : HO} (hl : H l = none) (s : Same H H1) : Same H (upd H1 l o) := fun b o2 h => by
  rw [upd_ne (ne_of_none h hl)]
  exact s _ _ h
/-- letter i of x -/
def ltr (x : Str) (i : Nat) : Nat := x.cps.toList.getD i 0
theorem ones_eq (a b : Nat) : decide (OneS a = OneS b) = decide (a = b) := by
  by_cases h : a = b
  · subst h; rw [decide_eq_true rfl, decide_eq_true rfl]
  · rw [decide_eq_false h, decide_eq_false fun e => h ?_]
    have q := V.str.inj e
    have q2 := congrArg (fun z : Str => z.cps.toList) q
    simpa using q2
theorem depthAll_const : ∀ (ds : List PyData) (n : Nat), (∀ d ∈ ds, d.depth ≤ n) → PyData.depthAll ds ≤ n
  | [], _, _ => Nat.zero_le _
  | d :: r, n, h => Nat.max_le.mpr ⟨h d List.mem_cons_self, depthAll_const r n fun e he => h e (List.mem_cons_of_mem _ he)⟩
theorem canAll_of : ∀ (ds : List PyData), (∀ d ∈ ds, PyData.canLay0 d = true) → PyData.canLayAll0 ds = true
  | [], _ => rfl
  | d :: r, h => by
    show (PyData.canLay0 d && PyData.canLayAll0 r) = true
    rw [h d List.mem_cons_self, canAll_of r fun e he => h e (List.mem_cons_of_mem _ he)]
    rfl
theorem atI_end {xs : List V} {n : Nat} {v : V} (h : xs[n]? = some v) (hl : xs.length = n + 1) : atI xs (-1) = some v := by
  have e : xs = xs.take n ++ [v] := by
    have := List.take_append_drop n xs
    rw [drop_at h, List.drop_of_length_le (by omega)] at this
    exact this.symm
  rw [e]
  exact atI_last _ _
/-- pairs of numbers -/
def PrN (H : Hp) : List V → List (Nat × Nat) → Prop := Paired (fun v (p : Nat × Nat) => ∃ t, v = V.ref t ∧ H t = some (.tup [.int (p.1 : Nat), .int (p.2 : Nat)]))
theorem PrN.keep {H H1 : Hp} {xs : List V} {ps : List (Nat × Nat)} (h : PrN H xs ps) (s : Same H H1) : PrN H1 xs ps := pair_mono (fun v p ⟨t, e, ht⟩ => ⟨t, e, s _ _ ht⟩) h
theorem PrN.keepT {H H1 : Hp} {xs : List V} {ps : List (Nat × Nat)} (h : PrN H xs ps) (s : ∀ u ws, H u = some (.tup ws) → H1 u = some (.tup ws)) : PrN H1 xs ps := pair_mono (fun v p ⟨t, e, ht⟩ => ⟨t, e, s _ _ ht⟩) h
theorem at_ltr {x : Str} {i : Nat} (h : i < x.length) : atI x.cps.toList ((i : Nat) : Int) = some (ltr x i) := by
  refine atI_nat ?_
  unfold ltr
  have h2 : i < x.cps.toList.length := by rw [Array.length_toList]; exact h
  rw [List.getD_eq_getElem?_getD, List.getElem?_eq_getElem h2]
  rfl
/-! ## windows -/
theorem cut_to {x : Str} {a : Nat} : (cutS x none (some (a : Int))).cps.toList = x.cps.toList.take a := by
  show ((x.cps.toList.drop (HT.sIx x.length 0 none)).take (HT.sIx x.length x.length (some (a : Int)) - HT.sIx x.length 0 none)).toArray.toList = _
  have lx : x.cps.toList.length = x.length := Array.length_toList
  rw [HT.sIx_none, HT.sIx_nat, Nat.sub_zero, List.drop_zero, List.toList_toArray]
  by_cases h : a ≤ x.length
  · rw [Nat.min_eq_left h]
  · rw [Nat.min_eq_right (by omega), List.take_of_length_le (by omega), List.take_of_length_le (by omega)]
theorem cut_from {x : Str} {a : Nat} : (cutS x (some (a : Int)) none).cps.toList = x.cps.toList.drop a := by
  show ((x.cps.toList.drop (HT.sIx x.length 0 (some (a : Int)))).take (HT.sIx x.length x.length none - HT.sIx x.length 0 (some (a : Int)))).toArray.toList = _
  have lx : x.cps.toList.length = x.length := Array.length_toList
  rw [HT.sIx_none, HT.sIx_nat, List.toList_toArray]
  by_cases h : a ≤ x.length
  · rw [Nat.min_eq_left h, List.take_of_length_le (by rw [List.length_drop]; omega)]
  · rw [Nat.min_eq_right (by omega), Nat.sub_self, List.take_zero, List.drop_of_length_le (by omega)]
theorem app_list (x y : Str) : (x ++ y).cps.toList = x.cps.toList ++ y.cps.toList := by
  show (x.cps ++ y.cps).toList = _
  exact Array.toList_append
theorem str_ext {x y : Str} (h : x.cps.toList = y.cps.toList) : x = y := PySem.W.str_of_cps h
theorem ok_letters {x : Str} (h : ∀ c ∈ x.cps.toList, c ∈ letS.cps.toList) : PyData.strOk x = true := by
  have all : ∀ c ∈ letS.cps.toList, c < 0x110000 := by decide +kernel
  show x.cps.all (· < 0x110000) = true
  rw [Array.all_eq_true_iff_forall_mem]
  intro c hc
  simpa using all c (h c (by simpa using hc))
theorem more_list {z y : Str} : (z ++ y).cps.toList = z.cps.toList ++ y.cps.toList := by
  show (z.cps ++ y.cps).toList = _
  simp
end Vk
set_option linter.all false
namespace Vk
/-! ## distances -/
def neq (a b : Nat) : Nat := if a = b then 0 else 1
def edD (A B : Nat → Nat) : Nat → Nat → Nat
  | 0, j => j
  | i + 1, 0 => i + 1
  | i + 1, j + 1 => min (min (edD A B i j + neq (A i) (B j)) (edD A B i (j + 1) + 1)) (edD A B (i + 1) j + 1)
theorem edD_0 {A B : Nat → Nat} {j : Nat} : edD A B 0 j = j := by cases j <;> simp [edD]
theorem edD_s0 {A B : Nat → Nat} {i : Nat} : edD A B i 0 = i := by cases i <;> simp [edD]
theorem edD_ss {A B : Nat → Nat} {i j : Nat} : edD A B (i + 1) (j + 1) = min (min (edD A B i j + neq (A i) (B j)) (edD A B i (j + 1) + 1)) (edD A B (i + 1) j + 1) := by simp [edD]
theorem edD_congr {A A2 B B2 : Nat → Nat} : ∀ (i j : Nat), (∀ t, t < i → A t = A2 t) → (∀ t, t < j → B t = B2 t) → edD A B i j = edD A2 B2 i j
  | 0, j, _, _ => by rw [edD_0, edD_0]
  | i + 1, 0, _, _ => by rw [edD_s0, edD_s0]
  | i + 1, j + 1, h1, h2 => by
    rw [edD_ss, edD_ss, edD_congr i j (fun t h => h1 t (by omega)) (fun t h => h2 t (by omega)), edD_congr i (j + 1) (fun t h => h1 t (by omega)) h2, edD_congr (i + 1) j h1 (fun t h => h2 t (by omega)), h1 i (by omega), h2 j (by omega)]
theorem neq_le (a b : Nat) : neq a b ≤ 1 := by unfold neq; split <;> omega
theorem edD_up {A B : Nat → Nat} : ∀ (i j : Nat), edD A B i j ≤ i + j
  | 0, j => by rw [edD_0]; omega
  | i + 1, 0 => by rw [edD_s0]; omega
  | i + 1, j + 1 => by
    have := edD_up (A := A) (B := B) i (j + 1)
    rw [edD_ss]; omega
/-! ## windows from a to i -/
def fD (X B : Nat → Nat) (a i j : Nat) : Nat := edD (fun t => X (a + t)) B (i - a) j
structure Best (X B : Nat → Nat) (i j num bits : Nat) : Prop where
  le : ∀ a, a ≤ i → num ≤ fD X B a i j
  bit : ∀ l, bits.testBit l = true ↔ l ≤ i ∧ fD X B (i - l) i j = num
  at_ : ∃ a, a ≤ i ∧ fD X B a i j = num
  up : num ≤ j
/-- the three pairs of next_column -/
def three (ne n1 b1 n2 b2 n3 b3 : Nat) : List (Nat × Nat) := [(n1 + ne, b1 * 2), (n2 + 1, b2 * 2), (n3 + 1, b3)]
/-! ## windows -/
/-! the law's rows -/
/-- what is told and what is due is the same -/
structure Cols (X B : Nat → Nat) (m n : Nat) (es : List (Nat × Nat)) : Prop where
  len : es.length = n
  best : ∀ i e, es[i]? = some e → Best X B (i + 1) m e.1 e.2
/-! an empty old -/
end Vk
set_option linter.all false
namespace Vk
/-! ## edits that make b of a, n of them -/
inductive Ed : List Nat → List Nat → Nat → Prop
  | nil : Ed [] [] 0
  | keep {a b : List Nat} {n : Nat} (x : Nat) : Ed a b n → Ed (x :: a) (x :: b) n
  | drop {a b : List Nat} {n : Nat} (x : Nat) : Ed a b n → Ed (x :: a) b (n + 1)
  | put {a b : List Nat} {n : Nat} (y : Nat) : Ed a b n → Ed a (y :: b) (n + 1)
  | set {a b : List Nat} {n : Nat} (x y : Nat) : Ed a b n → Ed (x :: a) (y :: b) (n + 1)
theorem Ed.refl : ∀ a : List Nat, Ed a a 0
  | [] => .nil
  | x :: a => .keep x (Ed.refl a)
theorem Ed.symm {a b : List Nat} {n : Nat} (h : Ed a b n) : Ed b a n := by
  induction h with
  | nil => exact .nil
  | keep x _ ih => exact .keep x ih
  | drop x _ ih => exact .put x ih
  | put y _ ih => exact .drop y ih
  | set x y _ ih => exact .set y x ih
theorem Ed.app {a b c d : List Nat} {n m : Nat} (h : Ed a b n) (g : Ed c d m) : Ed (a ++ c) (b ++ d) (n + m) := by
  induction h with
  | nil => rw [Nat.zero_add]; exact g
  | keep x _ ih => exact .keep x ih
  | @drop a b n x _ ih => rw [show n + 1 + m = n + m + 1 by omega]; exact .drop x ih
  | @put a b n y _ ih => rw [show n + 1 + m = n + m + 1 by omega]; exact .put y ih
  | @set a b n x y _ ih => rw [show n + 1 + m = n + m + 1 by omega]; exact .set x y ih
theorem Ed.rev {a b : List Nat} {n : Nat} (h : Ed a b n) : Ed a.reverse b.reverse n := by
  induction h with
  | nil => exact .nil
  | keep x _ ih => rw [List.reverse_cons, List.reverse_cons]; exact ih.app (.keep x .nil)
  | drop x _ ih =>
    rw [List.reverse_cons]
    have := ih.app (Ed.drop x .nil)
    rw [List.append_nil] at this
    exact this
  | put y _ ih =>
    rw [List.reverse_cons]
    have := ih.app (Ed.put y .nil)
    rw [List.append_nil] at this
    exact this
  | set x y _ ih => rw [List.reverse_cons, List.reverse_cons]; exact ih.app (.set x y .nil)
theorem Ed.len {a b : List Nat} {n : Nat} (h : Ed a b n) : a.length ≤ b.length + n ∧ b.length ≤ a.length + n := by
  induction h with
  | nil => exact ⟨Nat.le_refl _, Nat.le_refl _⟩
  | _ => simp only [List.length_cons] at *; omega
theorem Ed.zero {a b : List Nat} {n : Nat} (h : Ed a b n) (e : n = 0) : a = b := by
  induction h with
  | nil => rfl
  | keep x _ ih => rw [ih e]
  | _ => cases e
theorem Ed.puts : ∀ b : List Nat, Ed [] b b.length
  | [] => .nil
  | y :: b => .put y (Ed.puts b)
theorem Ed.trans {a b c : List Nat} {n m : Nat} (h : Ed a b n) (g : Ed b c m) : ∃ k, k ≤ n + m ∧ Ed a c k := by
  induction h generalizing c m with
  | nil => exact ⟨m, by omega, g⟩
  | @keep a b n x _ ih =>
    generalize hl : x :: b = l at g
    induction g with
    | nil => cases hl
    | keep y g _ =>
      cases hl
      obtain ⟨k, hk, e⟩ := ih g
      exact ⟨k, hk, .keep _ e⟩
    | drop y g _ =>
      cases hl
      obtain ⟨k, hk, e⟩ := ih g
      exact ⟨k + 1, by omega, .drop _ e⟩
    | put y g ig =>
      obtain ⟨k, hk, e⟩ := ig hl
      exact ⟨k + 1, by omega, .put _ e⟩
    | set y z g _ =>
      cases hl
      obtain ⟨k, hk, e⟩ := ih g
      exact ⟨k + 1, by omega, .set _ _ e⟩
  | @drop a b n x _ ih =>
    obtain ⟨k, hk, e⟩ := ih g
    exact ⟨k + 1, by omega, .drop _ e⟩
  | @put a b n x _ ih =>
    generalize hl : x :: b = l at g
    induction g with
    | nil => cases hl
    | keep y g _ =>
      cases hl
      obtain ⟨k, hk, e⟩ := ih g
      exact ⟨k + 1, by omega, .put _ e⟩
    | drop y g _ =>
      cases hl
      obtain ⟨k, hk, e⟩ := ih g
      exact ⟨k, by omega, e⟩
    | put y g ig =>
      obtain ⟨k, hk, e⟩ := ig hl
      exact ⟨k + 1, by omega, .put _ e⟩
    | set y z g _ =>
      cases hl
      obtain ⟨k, hk, e⟩ := ih g
      exact ⟨k + 1, by omega, .put _ e⟩
  | @set a b n x x2 _ ih =>
    generalize hl : x2 :: b = l at g
    induction g with
    | nil => cases hl
    | keep y g _ =>
      cases hl
      obtain ⟨k, hk, e⟩ := ih g
      exact ⟨k + 1, by omega, .set _ _ e⟩
    | drop y g _ =>
      cases hl
      obtain ⟨k, hk, e⟩ := ih g
      exact ⟨k + 1, by omega, .drop _ e⟩
    | put y g ig =>
      obtain ⟨k, hk, e⟩ := ig hl
      exact ⟨k + 1, by omega, .put _ e⟩
    | set y z g _ =>
      cases hl
      obtain ⟨k, hk, e⟩ := ih g
      exact ⟨k + 1, by omega, .set _ _ e⟩
theorem Ed.cancel {a b : List Nat} {x y n : Nat} (h : Ed (x :: a) (y :: b) n) : ∃ k, k ≤ n ∧ Ed a b k := by
  cases h with
  | keep _ h => exact ⟨_, Nat.le_refl _, h⟩
  | @drop _ _ n _ h =>
    obtain ⟨k, hk, e⟩ := h.trans (Ed.drop y (Ed.refl b))
    exact ⟨k, by omega, e⟩
  | @put _ _ n _ h =>
    obtain ⟨k, hk, e⟩ := (Ed.put x (Ed.refl a)).trans h
    exact ⟨k, by omega, e⟩
  | @set _ _ n _ _ h => exact ⟨n, by omega, h⟩
/-! ## the table's distance -/
def fnL (a : List Nat) : Nat → Nat := fun t => a.getD t 0
def dst (a b : List Nat) : Nat := edD (fnL a) (fnL b) a.length b.length
theorem fn_app {p : List Nat} {q : List Nat} {t : Nat} (h : t < p.length) : fnL (p ++ q) t = fnL p t := by
  unfold fnL
  rw [List.getD_eq_getElem?_getD, List.getD_eq_getElem?_getD, List.getElem?_append_left h]
theorem fn_last {p : List Nat} {x : Nat} : fnL (p ++ [x]) p.length = x := by
  unfold fnL
  rw [List.getD_eq_getElem?_getD, List.getElem?_append_right (Nat.le_refl _), Nat.sub_self]
  rfl
theorem dst_nil (a : List Nat) : dst a [] = a.length := by
  unfold dst
  exact edD_s0
theorem dst_nil2 (b : List Nat) : dst [] b = b.length := by
  unfold dst
  exact edD_0
theorem dst_ss {p q : List Nat} {x y : Nat} : dst (p ++ [x]) (q ++ [y]) = min (min (dst p q + neq x y) (dst p (q ++ [y]) + 1)) (dst (p ++ [x]) q + 1) := by
  unfold dst
  rw [List.length_append, List.length_append, List.length_singleton, List.length_singleton, edD_ss, fn_last, fn_last]
  rw [edD_congr p.length q.length (A := fnL (p ++ [x])) (A2 := fnL p) (B := fnL (q ++ [y])) (B2 := fnL q) (fun t h => fn_app h) (fun t h => fn_app h),
    edD_congr p.length (q.length + 1) (A := fnL (p ++ [x])) (A2 := fnL p) (B := fnL (q ++ [y])) (B2 := fnL (q ++ [y])) (fun t h => fn_app h) (fun t h => rfl),
    edD_congr (p.length + 1) q.length (A := fnL (p ++ [x])) (A2 := fnL (p ++ [x])) (B := fnL (q ++ [y])) (B2 := fnL q) (fun t h => rfl) (fun t h => fn_app h)]
theorem snoc_of {q : List Nat} (h : q ≠ []) : ∃ r y, q = r ++ [y] := ⟨q.dropLast, q.getLast h, (List.dropLast_concat_getLast h).symm⟩
theorem dst_drop {p q : List Nat} {x : Nat} : dst (p ++ [x]) q ≤ dst p q + 1 := by
  by_cases h : q = []
  · rw [h, dst_nil, dst_nil, List.length_append]; exact Nat.le_refl _
  · obtain ⟨r, y, rfl⟩ := snoc_of h
    rw [dst_ss]; omega
theorem dst_put {p q : List Nat} {y : Nat} : dst p (q ++ [y]) ≤ dst p q + 1 := by
  by_cases h : p = []
  · rw [h, dst_nil2, dst_nil2, List.length_append]; exact Nat.le_refl _
  · obtain ⟨r, x, rfl⟩ := snoc_of h
    rw [dst_ss]; omega
theorem dst_least {a b : List Nat} {n : Nat} (h : Ed a b n) : dst a.reverse b.reverse ≤ n := by
  induction h with
  | nil => exact Nat.le_of_eq (dst_nil [])
  | keep x _ ih =>
    rw [List.reverse_cons, List.reverse_cons, dst_ss]
    have : neq x x = 0 := by unfold neq; rw [if_pos rfl]
    omega
  | drop x _ ih =>
    rw [List.reverse_cons]
    exact Nat.le_trans dst_drop (by omega)
  | put y _ ih =>
    rw [List.reverse_cons]
    exact Nat.le_trans dst_put (by omega)
  | set x y _ ih =>
    rw [List.reverse_cons, List.reverse_cons, dst_ss]
    have := neq_le x y
    omega
theorem dst_le {a b : List Nat} {n : Nat} (h : Ed a b n) : dst a b ≤ n := by
  have := dst_least h.rev
  rwa [List.reverse_reverse, List.reverse_reverse] at this
theorem fn_at {a : List Nat} {i : Nat} (h : i < a.length) : a.take (i + 1) = a.take i ++ [fnL a i] := by
  rw [List.take_add_one, List.getElem?_eq_getElem h]
  unfold fnL
  rw [List.getD_eq_getElem?_getD, List.getElem?_eq_getElem h]
  rfl
theorem ed_table {a b : List Nat} : ∀ (i j : Nat), i ≤ a.length → j ≤ b.length → Ed (a.take i) (b.take j) (edD (fnL a) (fnL b) i j)
  | 0, j, _, hj => by
    rw [edD_0, List.take_zero]
    have := Ed.puts (b.take j)
    rwa [List.length_take, Nat.min_eq_left hj] at this
  | i + 1, 0, hi, _ => by
    rw [edD_s0, List.take_zero]
    have := (Ed.puts (a.take (i + 1))).symm
    rwa [List.length_take, Nat.min_eq_left hi] at this
  | i + 1, j + 1, hi, hj => by
    have h1 := ed_table (a := a) (b := b) i j (by omega) (by omega)
    have h2 := ed_table (a := a) (b := b) i (j + 1) (by omega) hj
    have h3 := ed_table (a := a) (b := b) (i + 1) j hi (by omega)
    rw [edD_ss]
    have e1 : Ed (a.take (i + 1)) (b.take (j + 1)) (edD (fnL a) (fnL b) i j + neq (fnL a i) (fnL b j)) := by
      rw [fn_at (a := a) (i := i) (by omega), fn_at (a := b) (i := j) (by omega)]
      refine h1.app ?_
      unfold neq
      split
      · next h => rw [h]; exact .keep _ .nil
      · exact .set _ _ .nil
    have e2 : Ed (a.take (i + 1)) (b.take (j + 1)) (edD (fnL a) (fnL b) i (j + 1) + 1) := by
      have := h2.app (Ed.drop (fnL a i) .nil)
      rwa [List.append_nil, ← fn_at (a := a) (i := i) (by omega)] at this
    have e3 : Ed (a.take (i + 1)) (b.take (j + 1)) (edD (fnL a) (fnL b) (i + 1) j + 1) := by
      have := h3.app (Ed.put (fnL b j) .nil)
      rwa [List.append_nil, ← fn_at (a := b) (i := j) (by omega)] at this
    rcases Nat.le_total (min (edD (fnL a) (fnL b) i j + neq (fnL a i) (fnL b j)) (edD (fnL a) (fnL b) i (j + 1) + 1)) (edD (fnL a) (fnL b) (i + 1) j + 1) with h | h
    · rw [Nat.min_eq_left h]
      rcases Nat.le_total (edD (fnL a) (fnL b) i j + neq (fnL a i) (fnL b j)) (edD (fnL a) (fnL b) i (j + 1) + 1) with h | h
      · rw [Nat.min_eq_left h]; exact e1
      · rw [Nat.min_eq_right h]; exact e2
    · rw [Nat.min_eq_right h]; exact e3
theorem ed_dst (a b : List Nat) : Ed a b (dst a b) := by
  have := ed_table (a := a) (b := b) a.length b.length (Nat.le_refl _) (Nat.le_refl _)
  rwa [List.take_length, List.take_length] at this
theorem dst_of {a b : List Nat} {n : Nat} (h : ∃ k, k ≤ n ∧ Ed a b k) : dst a b ≤ n := by
  obtain ⟨k, hk, e⟩ := h
  exact Nat.le_trans (dst_le e) hk
theorem dst_cat (a b c d : List Nat) : dst (a ++ c) (b ++ d) ≤ dst a b + dst c d := dst_le ((ed_dst a b).app (ed_dst c d))
theorem dst_self (a : List Nat) : dst a a = 0 := Nat.le_zero.mp (dst_le (Ed.refl a))
theorem dst_zero {a b : List Nat} : dst a b = 0 ↔ a = b := ⟨fun h => (ed_dst a b).zero h, fun h => by rw [h, dst_self]⟩
theorem dst_tails {a b : List Nat} {x y : Nat} : dst a b ≤ dst (x :: a) (y :: b) := dst_of (ed_dst _ _).cancel
end Vk
set_option linter.all false
namespace Vk
/-! ## diagonals -/
/-- letters that two texts have in common from the start -/
def com : List Nat → List Nat → Nat
  | x :: a, y :: b => if x = y then com a b + 1 else 0
  | _, _ => 0
theorem com_le : ∀ (a b : List Nat), com a b ≤ a.length ∧ com a b ≤ b.length
  | [], b => by unfold com; exact ⟨Nat.zero_le _, Nat.zero_le _⟩
  | x :: a, [] => by unfold com; exact ⟨Nat.zero_le _, Nat.zero_le _⟩
  | x :: a, y :: b => by
    have := com_le a b
    unfold com
    simp only [List.length_cons]
    split <;> omega
theorem com_take : ∀ (a b : List Nat), a.take (com a b) = b.take (com a b)
  | [], b => by unfold com; simp
  | x :: a, [] => by unfold com; simp
  | x :: a, y :: b => by
    unfold com
    split
    · next h => rw [List.take_succ_cons, List.take_succ_cons, com_take a b, h]
    · rfl
theorem com_self : ∀ a : List Nat, com a a = a.length
  | [] => rfl
  | x :: a => by
    unfold com
    rw [if_pos rfl, com_self a, List.length_cons]
theorem com_drop : ∀ (a b : List Nat) (t : Nat), t ≤ com a b → com (a.drop t) (b.drop t) = com a b - t
  | a, b, 0, _ => rfl
  | [], b, t + 1, h => by unfold com at h; omega
  | x :: a, [], t + 1, h => by unfold com at h; omega
  | x :: a, y :: b, t + 1, h => by
    have q : com (x :: a) (y :: b) = if x = y then com a b + 1 else 0 := rfl
    rw [q] at h ⊢
    split at h
    · next e =>
      rw [if_pos e, List.drop_succ_cons, List.drop_succ_cons]
      have := com_drop a b t (by omega)
      rw [this]
      omega
    · omega
theorem com_pos {a b : List Nat} {i j : Nat} (hi : i < a.length) (hj : j < b.length) : com (a.drop i) (b.drop j) = if fnL a i = fnL b j then com (a.drop (i + 1)) (b.drop (j + 1)) + 1 else 0 := by
  rw [List.drop_eq_getElem_cons hi, List.drop_eq_getElem_cons hj]
  have e1 : fnL a i = a[i] := by unfold fnL; rw [List.getD_eq_getElem?_getD, List.getElem?_eq_getElem hi]; rfl
  have e2 : fnL b j = b[j] := by unfold fnL; rw [List.getD_eq_getElem?_getD, List.getElem?_eq_getElem hj]; rfl
  rw [e1, e2]
  show (if a[i] = b[j] then _ else _) = _
  rfl
theorem com_end {a b : List Nat} {i j : Nat} (h : a.length ≤ i ∨ b.length ≤ j) : com (a.drop i) (b.drop j) = 0 := by
  have := com_le (a.drop i) (b.drop j)
  rw [List.length_drop, List.length_drop] at this
  omega
/-- the kinds of a step -/
inductive Wd | put | drop | set
deriving DecidableEq
/-- where a step may come from -/
def stP (m : Nat) (f : Int → Option Nat) (d : Int) : List (Nat × Wd) := match f (d - 1) with | some i => if (i : Int) + d ≤ m then [(i, .put)] else [] | none => []
def stD (n : Nat) (f : Int → Option Nat) (d : Int) : List (Nat × Wd) := match f (d + 1) with | some i => if i < n then [(i + 1, .drop)] else [] | none => []
def stS (n m : Nat) (f : Int → Option Nat) (d : Int) : List (Nat × Wd) := match f d with | some i => if (i : Int) < min (n : Int) (m - d) then [(i + 1, .set)] else [] | none => []
def stM (n m : Nat) (f : Int → Option Nat) (d : Int) : List (Nat × Wd) := stP m f d ++ stD n f d ++ stS n m f d
def goM (a b : List Nat) (s : Nat) (d : Int) : Nat := s + com (a.drop s) (b.drop ((s : Int) + d).toNat)
def topM (l : List (Nat × Wd)) : Nat := l.foldl (fun r p => max r p.1) 0
def nxM (a b : List Nat) (f : Int → Option Nat) (d : Int) : Option Nat :=
  if stM a.length b.length f d = [] then none else some (goM a b (topM (stM a.length b.length f d)) d)
def lvM (a b : List Nat) : Nat → Int → Option Nat
  | 0 => fun d => if d = 0 then some (goM a b 0 0) else none
  | e + 1 => nxM a b (lvM a b e)
/-- a place on a diagonal -/
def On (a b : List Nat) (i : Nat) (d : Int) : Prop := i ≤ a.length ∧ 0 ≤ (i : Int) + d ∧ (i : Int) + d ≤ b.length
structure LvOk (a b : List Nat) (e : Nat) (f : Int → Option Nat) : Prop where
  on : ∀ d i, f d = some i → On a b i d
  ed : ∀ d i, f d = some i → ∃ k, k ≤ e ∧ Ed (a.take i) (b.take ((i : Int) + d).toNat) k
  end_ : ∀ d i, f d = some i → com (a.drop i) (b.drop ((i : Int) + d).toNat) = 0
theorem go_on {a b : List Nat} {s : Nat} {d : Int} (h : On a b s d) : On a b (goM a b s d) d := by
  obtain ⟨h1, h2, h3⟩ := h
  have := com_le (a.drop s) (b.drop ((s : Int) + d).toNat)
  rw [List.length_drop, List.length_drop] at this
  unfold goM
  refine ⟨by omega, by omega, by omega⟩
theorem ed_com {a b : List Nat} {i j t k : Nat} (h : Ed (a.take i) (b.take j) k) (ht : t ≤ com (a.drop i) (b.drop j)) : Ed (a.take (i + t)) (b.take (j + t)) k := by
  have e : (a.drop i).take t = (b.drop j).take t := by
    have := congrArg (List.take t) (com_take (a.drop i) (b.drop j))
    rwa [List.take_take, List.take_take, Nat.min_eq_left ht] at this
  rw [List.take_add, List.take_add, e]
  exact h.app (Ed.refl _)
theorem go_ed {a b : List Nat} {s k : Nat} {d : Int} (h : On a b s d) (he : Ed (a.take s) (b.take ((s : Int) + d).toNat) k) : Ed (a.take (goM a b s d)) (b.take ((goM a b s d : Int) + d).toNat) k := by
  have := ed_com he (Nat.le_refl _)
  have h2 := h.2.1
  unfold goM
  rwa [show (((s + com (a.drop s) (b.drop ((s : Int) + d).toNat) : Nat) : Int) + d).toNat = ((s : Int) + d).toNat + com (a.drop s) (b.drop ((s : Int) + d).toNat) by omega]
theorem go_end {a b : List Nat} {s : Nat} {d : Int} (h : On a b s d) : com (a.drop (goM a b s d)) (b.drop ((goM a b s d : Int) + d).toNat) = 0 := by
  have h2 := h.2.1
  have := com_drop (a.drop s) (b.drop ((s : Int) + d).toNat) _ (Nat.le_refl _)
  rw [List.drop_drop, List.drop_drop, Nat.sub_self] at this
  unfold goM
  rwa [show (((s + com (a.drop s) (b.drop ((s : Int) + d).toNat) : Nat) : Int) + d).toNat = ((s : Int) + d).toNat + com (a.drop s) (b.drop ((s : Int) + d).toNat) by omega]
theorem top_mem : ∀ (l : List (Nat × Wd)) (r : Nat), (∃ p ∈ l, l.foldl (fun r p => max r p.1) r = p.1) ∨ l.foldl (fun r p => max r p.1) r = r
  | [], r => .inr rfl
  | p :: l, r => by
    rw [List.foldl_cons]
    rcases top_mem l (max r p.1) with ⟨q, hq, e⟩ | e
    · exact .inl ⟨q, List.mem_cons_of_mem _ hq, e⟩
    · rw [e]
      rcases Nat.le_total r p.1 with h | h
      · exact .inl ⟨p, List.mem_cons_self, Nat.max_eq_right h⟩
      · exact .inr (Nat.max_eq_left h)
theorem top_ge : ∀ (l : List (Nat × Wd)) (r : Nat), r ≤ l.foldl (fun r p => max r p.1) r ∧ ∀ p ∈ l, p.1 ≤ l.foldl (fun r p => max r p.1) r
  | [], r => ⟨Nat.le_refl _, fun p hp => absurd hp List.not_mem_nil⟩
  | q :: l, r => by
    obtain ⟨h1, h2⟩ := top_ge l (max r q.1)
    rw [List.foldl_cons]
    refine ⟨by omega, fun p hp => ?_⟩
    rcases List.mem_cons.mp hp with rfl | hp
    · omega
    · exact h2 p hp
theorem topM_le {l : List (Nat × Wd)} {p : Nat × Wd} (h : p ∈ l) : p.1 ≤ topM l := (top_ge l 0).2 p h
theorem topM_mem {l : List (Nat × Wd)} (h : l ≠ []) : ∃ p ∈ l, topM l = p.1 := by
  rcases top_mem l 0 with q | e
  · exact q
  · match l, h with
    | p :: l, _ =>
      refine ⟨p, List.mem_cons_self, ?_⟩
      have h2 := topM_le (l := p :: l) (p := p) List.mem_cons_self
      unfold topM at h2 ⊢
      omega
theorem topM_of {l : List (Nat × Wd)} {p : Nat × Wd} (h : p ∈ l) (hm : ∀ q ∈ l, q.1 ≤ p.1) : topM l = p.1 := by
  obtain ⟨q, hq, e⟩ := topM_mem (l := l) (fun z => by rw [z] at h; cases h)
  have := topM_le h
  have := hm q hq
  omega
theorem mem_st {n m : Nat} {f : Int → Option Nat} {d : Int} {p : Nat × Wd} : p ∈ stM n m f d ↔
    (p.2 = .put ∧ f (d - 1) = some p.1 ∧ (p.1 : Int) + d ≤ m) ∨ (p.2 = .drop ∧ ∃ i, f (d + 1) = some i ∧ i < n ∧ p.1 = i + 1) ∨ (p.2 = .set ∧ ∃ i, f d = some i ∧ (i : Int) < min (n : Int) (m - d) ∧ p.1 = i + 1) := by
  obtain ⟨i, w⟩ := p
  unfold stM stP stD stS
  rw [List.mem_append, List.mem_append, or_assoc]
  refine or_congr ?_ (or_congr ?_ ?_)
  · cases h : f (d - 1) with
    | none => simp
    | some j =>
      simp only
      split
      · rw [List.mem_singleton]
        constructor
        · intro e; cases e; exact ⟨rfl, rfl, by assumption⟩
        · rintro ⟨e1, e2, _⟩; cases e2; cases e1; rfl
      · constructor
        · intro e; cases e
        · rintro ⟨e1, e2, e3⟩; cases e2; omega
  · cases h : f (d + 1) with
    | none => simp
    | some j =>
      simp only
      split
      · rw [List.mem_singleton]
        constructor
        · intro e; cases e; exact ⟨rfl, j, rfl, by assumption, rfl⟩
        · rintro ⟨e1, k, e2, e3, e4⟩; cases e2; cases e1; cases e4; rfl
      · constructor
        · intro e; cases e
        · rintro ⟨e1, k, e2, e3, e4⟩; cases e2; omega
  · cases h : f d with
    | none => simp
    | some j =>
      simp only
      split
      · rw [List.mem_singleton]
        constructor
        · intro e; cases e; exact ⟨rfl, j, rfl, by assumption, rfl⟩
        · rintro ⟨e1, k, e2, e3, e4⟩; cases e2; cases e1; cases e4; rfl
      · constructor
        · intro e; cases e
        · rintro ⟨e1, k, e2, e3, e4⟩; cases e2; omega
theorem st_on {a b : List Nat} {e : Nat} {f : Int → Option Nat} (h : LvOk a b e f) {d : Int} {p : Nat × Wd} (hp : p ∈ stM a.length b.length f d) :
    On a b p.1 d ∧ ∃ k, k ≤ e + 1 ∧ Ed (a.take p.1) (b.take ((p.1 : Int) + d).toNat) k := by
  rcases mem_st.mp hp with ⟨_, h1, h2⟩ | ⟨_, i, h1, h2, h3⟩ | ⟨_, i, h1, h2, h3⟩
  · obtain ⟨o1, o2, o3⟩ := h.on _ _ h1
    obtain ⟨k, hk, e⟩ := h.ed _ _ h1
    refine ⟨⟨o1, by omega, h2⟩, k + 1, by omega, ?_⟩
    have q := e.app (Ed.put (fnL b ((p.1 : Int) + (d - 1)).toNat) .nil)
    rw [List.append_nil, ← fn_at (by omega)] at q
    rwa [show ((p.1 : Int) + d).toNat = ((p.1 : Int) + (d - 1)).toNat + 1 by omega]
  · obtain ⟨o1, o2, o3⟩ := h.on _ _ h1
    obtain ⟨k, hk, e⟩ := h.ed _ _ h1
    rw [h3]
    refine ⟨⟨by omega, by omega, by omega⟩, k + 1, by omega, ?_⟩
    have q := e.app (Ed.drop (fnL a i) .nil)
    rw [List.append_nil, ← fn_at h2] at q
    rwa [show (((i + 1 : Nat) : Int) + d).toNat = ((i : Int) + (d + 1)).toNat by omega]
  · obtain ⟨o1, o2, o3⟩ := h.on _ _ h1
    obtain ⟨k, hk, e⟩ := h.ed _ _ h1
    rw [h3]
    refine ⟨⟨by omega, by omega, by omega⟩, k + 1, by omega, ?_⟩
    have q := e.app (Ed.set (fnL a i) (fnL b ((i : Int) + d).toNat) .nil)
    rw [← fn_at (by omega), ← fn_at (by omega)] at q
    rwa [show (((i + 1 : Nat) : Int) + d).toNat = ((i : Int) + d).toNat + 1 by omega]
theorem lv_ok (a b : List Nat) : ∀ e, LvOk a b e (lvM a b e)
  | 0 => by
    have o : On a b 0 0 := ⟨Nat.zero_le _, by omega, by omega⟩
    have z : ∀ d i, lvM a b 0 d = some i → d = 0 ∧ i = goM a b 0 0 := fun d i h => by
      unfold lvM at h
      split at h
      · exact ⟨by assumption, (Option.some.inj h).symm⟩
      · cases h
    refine ⟨fun d i h => ?_, fun d i h => ?_, fun d i h => ?_⟩
    · obtain ⟨rfl, rfl⟩ := z d i h
      exact go_on o
    · obtain ⟨rfl, rfl⟩ := z d i h
      exact ⟨0, Nat.le_refl _, go_ed o Ed.nil⟩
    · obtain ⟨rfl, rfl⟩ := z d i h
      exact go_end o
  | e + 1 => by
    have ok := lv_ok a b e
    have z : ∀ d i, lvM a b (e + 1) d = some i → ∃ p, p ∈ stM a.length b.length (lvM a b e) d ∧ i = goM a b p.1 d := fun d i h => by
      unfold lvM nxM at h
      split at h
      · cases h
      · next hne =>
        obtain ⟨p, hp, ep⟩ := topM_mem hne
        exact ⟨p, hp, by rw [← ep]; exact (Option.some.inj h).symm⟩
    refine ⟨fun d i h => ?_, fun d i h => ?_, fun d i h => ?_⟩
    · obtain ⟨p, hp, rfl⟩ := z d i h
      exact go_on (st_on ok hp).1
    · obtain ⟨p, hp, rfl⟩ := z d i h
      obtain ⟨o, k, hk, q⟩ := st_on ok hp
      exact ⟨k, hk, go_ed o q⟩
    · obtain ⟨p, hp, rfl⟩ := z d i h
      exact go_end (st_on ok hp).1
/-- what is left from a place on -/
def leftM (a b : List Nat) (i : Nat) (d : Int) : Nat := dst (a.drop i) (b.drop ((i : Int) + d).toNat)
theorem left_mono {a b : List Nat} {i t : Nat} {d : Int} (h0 : 0 ≤ (i : Int) + d) (ha : i + t ≤ a.length) (hb : (i : Int) + d + t ≤ b.length) : leftM a b (i + t) d ≤ leftM a b i d := by
  induction t with
  | zero => exact Nat.le_refl _
  | succ t ih =>
    refine Nat.le_trans ?_ (ih (by omega) (by omega))
    unfold leftM
    have h1 : i + t < a.length := by omega
    have h2 : (((i + t : Nat) : Int) + d).toNat < b.length := by omega
    rw [List.drop_eq_getElem_cons h1, List.drop_eq_getElem_cons h2]
    rw [show (((i + (t + 1) : Nat) : Int) + d).toNat = (((i + t : Nat) : Int) + d).toNat + 1 by omega, show i + (t + 1) = i + t + 1 by omega]
    exact dst_tails
/-- the first step of a shortest way -/
theorem dst_first {a b : List Nat} (h : com a b = 0) (hp : 0 < dst a b) :
    (∃ y b', b = y :: b' ∧ dst a b' + 1 ≤ dst a b) ∨ (∃ x a', a = x :: a' ∧ dst a' b + 1 ≤ dst a b) ∨ (∃ x y a' b', a = x :: a' ∧ b = y :: b' ∧ dst a' b' + 1 ≤ dst a b) := by
  have e := ed_dst a b
  generalize dst a b = n at e hp
  cases e with
  | nil => omega
  | keep x e =>
    unfold com at h
    rw [if_pos rfl] at h
    omega
  | drop x e => exact .inr (.inl ⟨x, _, rfl, Nat.succ_le_succ (dst_le e)⟩)
  | put y e => exact .inl ⟨y, _, rfl, Nat.succ_le_succ (dst_le e)⟩
  | set x y e => exact .inr (.inr ⟨x, y, _, _, rfl, rfl, Nat.succ_le_succ (dst_le e)⟩)
theorem nx_go {a b : List Nat} {e : Nat} {f : Int → Option Nat} (ok : LvOk a b e f) {d : Int} {p : Nat × Wd} (hp : p ∈ stM a.length b.length f d) : ∃ i, nxM a b f d = some i ∧ leftM a b i d ≤ leftM a b p.1 d := by
  have ne : stM a.length b.length f d ≠ [] := fun z => by rw [z] at hp; cases hp
  unfold nxM
  rw [if_neg ne]
  refine ⟨_, rfl, ?_⟩
  obtain ⟨q, hq, eq⟩ := topM_mem ne
  have le := topM_le hp
  rw [eq] at le ⊢
  obtain ⟨o1, o2, o3⟩ := (st_on ok hp).1
  have oq := (st_on ok hq).1
  obtain ⟨g1, g2, g3⟩ := go_on oq
  have gle : q.1 ≤ goM a b q.1 d := by unfold goM; omega
  have := left_mono (a := a) (b := b) (i := p.1) (t := goM a b q.1 d - p.1) (d := d) o2 (by omega) (by omega)
  rwa [show p.1 + (goM a b q.1 d - p.1) = goM a b q.1 d by omega] at this
theorem lv_has (a b : List Nat) : ∀ e, e ≤ dst a b → ∃ d i, lvM a b e d = some i ∧ e + leftM a b i d ≤ dst a b
  | 0, _ => by
    refine ⟨0, goM a b 0 0, ?_, ?_⟩
    · unfold lvM; rw [if_pos rfl]
    · obtain ⟨g1, g2, g3⟩ := go_on (a := a) (b := b) (s := 0) (d := 0) ⟨Nat.zero_le _, by omega, by omega⟩
      have := left_mono (a := a) (b := b) (i := 0) (t := goM a b 0 0) (d := 0) (by omega) (by omega) (by omega)
      rw [Nat.zero_add] at this ⊢
      exact this
  | e + 1, he => by
    obtain ⟨d, i, hf, hl⟩ := lv_has a b e (by omega)
    have ok := lv_ok a b e
    obtain ⟨o1, o2, o3⟩ := ok.on _ _ hf
    have hz := ok.end_ _ _ hf
    -- what is left is more than nothing
    have hpos : 0 < leftM a b i d := by
      obtain ⟨k, hk, ed⟩ := ok.ed _ _ hf
      have c := dst_cat (a.take i) (b.take ((i : Int) + d).toNat) (a.drop i) (b.drop ((i : Int) + d).toNat)
      rw [List.take_append_drop, List.take_append_drop] at c
      have := dst_le ed
      unfold leftM
      omega
    have up : ∀ (d2 : Int) (p : Nat × Wd), p ∈ stM a.length b.length (lvM a b e) d2 → leftM a b p.1 d2 + 1 ≤ leftM a b i d → ∃ d i, lvM a b (e + 1) d = some i ∧ (e + 1) + leftM a b i d ≤ dst a b := fun d2 p hp hle => by
      obtain ⟨i2, h2, l2⟩ := nx_go ok hp
      exact ⟨d2, i2, h2, by omega⟩
    have la : (a.drop i).length = a.length - i := List.length_drop
    have lb : (b.drop ((i : Int) + d).toNat).length = b.length - ((i : Int) + d).toNat := List.length_drop
    rcases dst_first hz hpos with ⟨y, b', eb, hd⟩ | ⟨x, a', ea, hd⟩ | ⟨x, y, a', b', ea, eb, hd⟩
    · have l : b.length - ((i : Int) + d).toNat = b'.length + 1 := by rw [← lb, eb, List.length_cons]
      have e2 : b.drop ((i : Int) + (d + 1)).toNat = b' := by
        rw [show ((i : Int) + (d + 1)).toNat = ((i : Int) + d).toNat + 1 by omega, ← List.drop_drop, eb]
        rfl
      refine up (d + 1) (i, .put) (mem_st.mpr (.inl ⟨rfl, by rw [show d + 1 - 1 = d by omega]; exact hf, by show (i : Int) + (d + 1) ≤ _; omega⟩)) ?_
      show dst (a.drop i) (b.drop ((i : Int) + (d + 1)).toNat) + 1 ≤ _
      rw [e2]
      exact hd
    · have l : a.length - i = a'.length + 1 := by rw [← la, ea, List.length_cons]
      have e2 : a.drop (i + 1) = a' := by
        rw [← List.drop_drop, ea]
        rfl
      refine up (d - 1) (i + 1, .drop) (mem_st.mpr (.inr (.inl ⟨rfl, i, by rw [show d - 1 + 1 = d by omega]; exact hf, by omega, rfl⟩))) ?_
      show dst (a.drop (i + 1)) (b.drop (((i + 1 : Nat) : Int) + (d - 1)).toNat) + 1 ≤ _
      rw [e2, show (((i + 1 : Nat) : Int) + (d - 1)).toNat = ((i : Int) + d).toNat by omega]
      exact hd
    · have l : b.length - ((i : Int) + d).toNat = b'.length + 1 := by rw [← lb, eb, List.length_cons]
      have l2 : a.length - i = a'.length + 1 := by rw [← la, ea, List.length_cons]
      have e1 : a.drop (i + 1) = a' := by
        rw [← List.drop_drop, ea]
        rfl
      have e2 : b.drop (((i + 1 : Nat) : Int) + d).toNat = b' := by
        rw [show (((i + 1 : Nat) : Int) + d).toNat = ((i : Int) + d).toNat + 1 by omega, ← List.drop_drop, eb]
        rfl
      refine up d (i + 1, .set) (mem_st.mpr (.inr (.inr ⟨rfl, i, hf, by omega, rfl⟩))) ?_
      show dst (a.drop (i + 1)) (b.drop (((i + 1 : Nat) : Int) + d).toNat) + 1 ≤ _
      rw [e1, e2]
      exact hd
/-- where the levels end -/
theorem lv_goal {a b : List Nat} {e : Nat} (he : e ≤ dst a b) : lvM a b e ((b.length : Int) - a.length) = some a.length ↔ e = dst a b := by
  constructor
  · intro h
    obtain ⟨k, hk, ed⟩ := (lv_ok a b e).ed _ _ h
    rw [show ((a.length : Int) + ((b.length : Int) - a.length)).toNat = b.length by omega, List.take_length, List.take_length] at ed
    have := dst_le ed
    omega
  · rintro rfl
    obtain ⟨d, i, hf, hl⟩ := lv_has a b _ (Nat.le_refl _)
    have ok := lv_ok a b (dst a b)
    obtain ⟨o1, o2, o3⟩ := ok.on _ _ hf
    have hz := ok.end_ _ _ hf
    have l0 : dst (a.drop i) (b.drop ((i : Int) + d).toNat) = 0 := by
      unfold leftM at hl
      omega
    have e := dst_zero.mp l0
    rw [e, com_self, List.length_drop] at hz
    have l2 : (a.drop i).length = (b.drop ((i : Int) + d).toNat).length := by rw [e]
    rw [List.length_drop, List.length_drop] at l2
    have h1 : i = a.length := by omega
    have h2 : d = (b.length : Int) - a.length := by omega
    rw [← h2, ← h1]
    exact hf
end Vk
set_option linter.all false
namespace Vk
/-! ## changes -/
inductive Op | put (i c : Nat) | drop (i : Nat) | set (i c : Nat)
def okOp (x : List Nat) : Op → Prop
  | .put i _ => i ≤ x.length
  | .drop i => i < x.length
  | .set i c => i < x.length ∧ fnL x i ≠ c
def doOp (x : List Nat) : Op → List Nat
  | .put i c => x.take i ++ c :: x.drop i
  | .drop i => x.take i ++ x.drop (i + 1)
  | .set i c => x.take i ++ c :: x.drop (i + 1)
def opL (b : List Nat) : Op → Prop
  | .put _ c => c ∈ b
  | .drop _ => True
  | .set _ c => c ∈ b
def ToM : List Nat → List Op → List Nat → Prop
  | x, [], y => x = y
  | x, c :: cs, y => okOp x c ∧ ToM (doOp x c) cs y
theorem ToM.snoc : ∀ {cs : List Op} {x y : List Nat} {c : Op}, ToM x cs y → okOp y c → ToM x (cs ++ [c]) (doOp y c)
  | [], x, y, c, h, ok => by
    cases (show x = y from h)
    exact ⟨ok, rfl⟩
  | o :: cs, x, y, c, h, ok => ⟨h.1, ToM.snoc h.2 ok⟩
/-- the text at a place on the way back -/
def atM (a b : List Nat) (i : Nat) (d : Int) : List Nat := a.take i ++ b.drop ((i : Int) + d).toNat
def opOf (b : List Nat) (p : Nat × Wd) (d : Int) : Op :=
  match p.2 with
  | .put => .put p.1 (fnL b ((p.1 : Int) + d - 1).toNat)
  | .drop => .drop (p.1 - 1)
  | .set => .set (p.1 - 1) (fnL b ((p.1 : Int) + d - 1).toNat)
def dOf (d : Int) : Wd → Int
  | .put => d - 1
  | .drop => d + 1
  | .set => d
theorem at_go {a b : List Nat} {s : Nat} {d : Int} (h : On a b s d) : atM a b (goM a b s d) d = atM a b s d := by
  obtain ⟨h1, h2, h3⟩ := h
  unfold atM goM
  rw [show (((s + com (a.drop s) (b.drop ((s : Int) + d).toNat) : Nat) : Int) + d).toNat = ((s : Int) + d).toNat + com (a.drop s) (b.drop ((s : Int) + d).toNat) by omega]
  rw [List.take_add, com_take, List.append_assoc, ← List.drop_drop, List.take_append_drop]
theorem drop_fn {b : List Nat} {j : Nat} (h : j < b.length) : b.drop j = fnL b j :: b.drop (j + 1) := by
  rw [List.drop_eq_getElem_cons h]
  unfold fnL
  rw [List.getD_eq_getElem?_getD, List.getElem?_eq_getElem h]
  rfl
theorem fn_mem {b : List Nat} {j : Nat} (h : j < b.length) : fnL b j ∈ b := by
  unfold fnL
  rw [List.getD_eq_getElem?_getD, List.getElem?_eq_getElem h]
  exact List.getElem_mem h
theorem len_take {a : List Nat} {i : Nat} (h : i ≤ a.length) : (a.take i).length = i := by rw [List.length_take]; omega
theorem at_take {a r : List Nat} {i : Nat} (h : i ≤ a.length) : (a.take i ++ r).take i = a.take i := by
  rw [List.take_append_of_le_length (by rw [len_take h]; exact Nat.le_refl _), List.take_take, Nat.min_self]
theorem at_drop {a r : List Nat} {i t : Nat} (h : i ≤ a.length) : (a.take i ++ r).drop (i + t) = r.drop t := by
  have e : (a.take i ++ r).drop i = r := by
    rw [List.drop_append_of_le_length (by rw [len_take h]; exact Nat.le_refl _), List.drop_of_length_le (l := a.take i) (by rw [len_take h]; exact Nat.le_refl _), List.nil_append]
  rw [← List.drop_drop, e]
theorem at_len {a b : List Nat} {i : Nat} {d : Int} (h : On a b i d) : (atM a b i d).length = i + (b.length - ((i : Int) + d).toNat) := by
  unfold atM
  rw [List.length_append, len_take h.1, List.length_drop]
theorem back_step {a b : List Nat} {e i : Nat} {d : Int} (h : lvM a b (e + 1) d = some i) {p : Nat × Wd} (hp : p ∈ stM a.length b.length (lvM a b e) d) (ht : topM (stM a.length b.length (lvM a b e) d) = p.1) :
    ∃ i', lvM a b e (dOf d p.2) = some i' ∧ okOp (atM a b i d) (opOf b p d) ∧ doOp (atM a b i d) (opOf b p d) = atM a b i' (dOf d p.2) ∧ opL b (opOf b p d) ∧
      p.1 ≤ a.length ∧ (p.2 ≠ .drop → 1 ≤ (p.1 : Int) + d ∧ (p.1 : Int) + d ≤ b.length) ∧ (p.2 ≠ .put → 1 ≤ p.1) := by
  have ok := lv_ok a b e
  have on := (st_on ok hp).1
  have ei : i = goM a b p.1 d := by
    have ne : stM a.length b.length (lvM a b e) d ≠ [] := fun z => by rw [z] at hp; cases hp
    unfold lvM nxM at h
    rw [if_neg ne, ht] at h
    exact (Option.some.inj h).symm
  rw [ei, at_go on]
  obtain ⟨q, w⟩ := p
  simp only at on ht ⊢
  rcases mem_st.mp hp with ⟨hw, h1, h2⟩ | ⟨hw, j, h1, h2, h3⟩ | ⟨hw, j, h1, h2, h3⟩
  · cases (show w = .put from hw)
    obtain ⟨o1, o2, o3⟩ := ok.on _ _ h1
    simp only at o1 o2 o3 h2
    have hj : ((q : Int) + d - 1).toNat < b.length := by omega
    refine ⟨q, h1, ?_, ?_, fn_mem hj, o1, fun _ => ⟨by omega, by omega⟩, fun z => absurd rfl z⟩
    · show q ≤ (atM a b q d).length
      rw [at_len on]; omega
    · show (atM a b q d).take q ++ fnL b ((q : Int) + d - 1).toNat :: (atM a b q d).drop q = atM a b q (d - 1)
      have ed := at_drop (a := a) (r := b.drop ((q : Int) + d).toNat) (i := q) (t := 0) o1
      rw [Nat.add_zero, List.drop_zero] at ed
      unfold atM
      rw [at_take o1, ed, show ((q : Int) + (d - 1)).toNat = ((q : Int) + d - 1).toNat by omega, drop_fn hj]
      rw [show ((q : Int) + d - 1).toNat + 1 = ((q : Int) + d).toNat by omega]
  · cases (show w = .drop from hw)
    cases (show q = j + 1 from h3)
    obtain ⟨o1, o2, o3⟩ := ok.on _ _ h1
    obtain ⟨on1, on2, on3⟩ := on
    refine ⟨j, h1, ?_, ?_, trivial, by omega, fun z => absurd rfl z, fun _ => by omega⟩
    · show j + 1 - 1 < (atM a b (j + 1) d).length
      rw [at_len ⟨on1, on2, on3⟩]; omega
    · show (atM a b (j + 1) d).take (j + 1 - 1) ++ (atM a b (j + 1) d).drop (j + 1 - 1 + 1) = atM a b j (d + 1)
      rw [Nat.add_sub_cancel]
      have ed := at_drop (a := a) (r := b.drop (((j + 1 : Nat) : Int) + d).toNat) (i := j + 1) (t := 0) on1
      rw [Nat.add_zero, List.drop_zero] at ed
      have et := at_take (a := a) (r := [fnL a j] ++ b.drop (((j + 1 : Nat) : Int) + d).toNat) (i := j) (by omega)
      rw [← List.append_assoc, ← fn_at h2] at et
      unfold atM
      rw [ed, et, show ((j : Int) + (d + 1)).toNat = (((j + 1 : Nat) : Int) + d).toNat by omega]
  · cases (show w = .set from hw)
    cases (show q = j + 1 from h3)
    obtain ⟨o1, o2, o3⟩ := ok.on _ _ h1
    obtain ⟨on1, on2, on3⟩ := on
    have hj : (((j + 1 : Nat) : Int) + d - 1).toNat < b.length := by omega
    have hz := ok.end_ _ _ h1
    rw [com_pos (by omega) (by omega)] at hz
    have hne : fnL a j ≠ fnL b (((j + 1 : Nat) : Int) + d - 1).toNat := fun z => by
      rw [if_pos (by rw [z, show (((j + 1 : Nat) : Int) + d - 1).toNat = ((j : Int) + d).toNat by omega])] at hz
      omega
    refine ⟨j, h1, ⟨?_, ?_⟩, ?_, fn_mem hj, by omega, fun _ => ⟨by omega, by omega⟩, fun _ => by omega⟩
    · show j + 1 - 1 < (atM a b (j + 1) d).length
      rw [at_len ⟨on1, on2, on3⟩]; omega
    · show fnL (atM a b (j + 1) d) (j + 1 - 1) ≠ _
      rw [Nat.add_sub_cancel]
      have : fnL (atM a b (j + 1) d) j = fnL a j := by
        unfold atM fnL
        rw [List.getD_eq_getElem?_getD, List.getD_eq_getElem?_getD, List.getElem?_append_left (by rw [len_take on1]; omega), List.getElem?_take, if_pos (by omega)]
      rw [this]
      exact hne
    · show (atM a b (j + 1) d).take (j + 1 - 1) ++ fnL b (((j + 1 : Nat) : Int) + d - 1).toNat :: (atM a b (j + 1) d).drop (j + 1 - 1 + 1) = atM a b j d
      rw [Nat.add_sub_cancel]
      have ed := at_drop (a := a) (r := b.drop (((j + 1 : Nat) : Int) + d).toNat) (i := j + 1) (t := 0) on1
      rw [Nat.add_zero, List.drop_zero] at ed
      have et := at_take (a := a) (r := [fnL a j] ++ b.drop (((j + 1 : Nat) : Int) + d).toNat) (i := j) (by omega)
      rw [← List.append_assoc, ← fn_at (by omega)] at et
      unfold atM
      rw [ed, et, show ((j : Int) + d).toNat = (((j + 1 : Nat) : Int) + d - 1).toNat by omega, drop_fn hj]
      rw [show (((j + 1 : Nat) : Int) + d - 1).toNat + 1 = (((j + 1 : Nat) : Int) + d).toNat by omega]
/-- the way back from the last level -/
structure BackM (a b : List Nat) (t : Nat) (d : Int) (cs : List Op) : Prop where
  at_ : ∃ i, lvM a b (dst a b - t) d = some i ∧ ToM a cs (atM a b i d)
  len : cs.length = t
  let_ : ∀ c ∈ cs, opL b c
theorem back_0 (a b : List Nat) : BackM a b 0 ((b.length : Int) - a.length) [] := by
  refine ⟨⟨a.length, ?_, ?_⟩, rfl, fun c hc => absurd hc List.not_mem_nil⟩
  · rw [Nat.sub_zero]
    exact (lv_goal (Nat.le_refl _)).mpr rfl
  · show a = atM a b a.length ((b.length : Int) - a.length)
    unfold atM
    rw [List.take_length, show ((a.length : Int) + ((b.length : Int) - a.length)).toNat = b.length by omega, List.drop_length, List.append_nil]
theorem back_end {a b : List Nat} {d : Int} {cs : List Op} (h : BackM a b (dst a b) d cs) : ToM a cs b := by
  obtain ⟨i, hi, q⟩ := h.at_
  rw [Nat.sub_self] at hi
  have on := (lv_ok a b 0).on _ _ hi
  unfold lvM at hi
  split at hi
  · next e =>
    subst e
    cases hi
    rw [at_go ⟨Nat.zero_le _, by omega, by omega⟩] at q
    exact q
  · cases hi
theorem lv_st {a b : List Nat} {e i : Nat} {d : Int} (h : lvM a b (e + 1) d = some i) : stM a.length b.length (lvM a b e) d ≠ [] := fun z => by
  unfold lvM nxM at h
  rw [if_pos z] at h
  cases h
theorem back_1 {a b : List Nat} {t : Nat} {d : Int} {cs : List Op} (h : BackM a b t d cs) (ht : t < dst a b) :
    stM a.length b.length (lvM a b (dst a b - 1 - t)) d ≠ [] ∧ ∀ p, p ∈ stM a.length b.length (lvM a b (dst a b - 1 - t)) d → topM (stM a.length b.length (lvM a b (dst a b - 1 - t)) d) = p.1 →
      BackM a b (t + 1) (dOf d p.2) (cs ++ [opOf b p d]) ∧ p.1 ≤ a.length ∧ (p.2 ≠ .drop → 1 ≤ (p.1 : Int) + d ∧ (p.1 : Int) + d ≤ b.length) ∧ (p.2 ≠ .put → 1 ≤ p.1) := by
  obtain ⟨i, hi, q⟩ := h.at_
  rw [show dst a b - t = dst a b - 1 - t + 1 by omega] at hi
  refine ⟨lv_st hi, fun p hp hm => ?_⟩
  obtain ⟨i', h1, h2, h3, h4, h5, h6, h7⟩ := back_step hi hp hm
  refine ⟨⟨⟨i', ?_, ?_⟩, ?_, fun c hc => ?_⟩, h5, h6, h7⟩
  · rw [show dst a b - (t + 1) = dst a b - 1 - t by omega]
    exact h1
  · rw [← h3]
    exact q.snoc h2
  · rw [List.length_append, h.len]; rfl
  · rcases List.mem_append.mp hc with hc | hc
    · exact h.let_ c hc
    · rw [List.mem_singleton.mp hc]
      exact h4
end Vk
set_option Elab.async false
set_option maxRecDepth 100000
set_option maxHeartbeats 4000000
set_option linter.all false
namespace Vk
open PySem PySem.Spec PyProof.Rows L2
/-! ## for i, c in enumerate(x), x a text -/
/-! ## loops over these -/
theorem for_enumL {K : PySem.W.Frag} {a : Addr} {xs : List V} {g : TG} {tb : TS} {D : Ends} {σ : L2.St} {H : Hp} (Pv : Nat → L2.St → Hp → Prop) (h0 : Pv 0 σ H) (hl : ∀ i σ H, i ≤ xs.length → Pv i σ H → SqL K H a xs)
    (hs : ∀ i v σ H T, xs[i]? = some v → H T = none → Pv i σ H → g (.ref T) σ (upd H T (.tup [.int (i : Nat), v])) fun σ2 H2 => tb { D with nx := Pv (i + 1), ct := Pv (i + 1), bk := D.nx } σ2 H2) (hd : ∀ σ H, Pv xs.length σ H → D.nx σ H) :
    ∃ W : Nat → Nat → L2.St → Hp → Prop, (∃ m, W 0 m σ H) ∧ ∀ i m σ H, W i m σ H →
      ((Ite K a).stop i H ∧ D.nx σ H) ∨ ((Ite K a).go i H ∧ ∃ N : L2.St → Hp → Prop, (∀ σ' H', N σ' H' → ∃ m', m' < m ∧ W (i + 1) m' σ' H') ∧ ∀ x1 H', (Ite K a).yld i H x1 H' → g x1 σ H' fun σ2 H2 => tb { D with nx := N, ct := N, bk := D.nx } σ2 H2) := by
  refine ⟨fun i m σ H => m = xs.length - i ∧ i ≤ xs.length ∧ Pv i σ H, ⟨xs.length, by simp, Nat.zero_le _, h0⟩, ?_⟩
  rintro i m σ H ⟨rfl, hi, p⟩
  have q := hl i σ H hi p
  by_cases hlt : i < xs.length
  · refine .inr ⟨⟨xs, xs[i], q, by simp [hlt]⟩, Pv (i + 1), fun σ' H' p' => ⟨xs.length - (i + 1), by omega, rfl, hlt, p'⟩, ?_⟩
    rintro x1 H' ⟨T, v, rfl, hT, rfl, hv⟩
    exact hs i v σ H T (hv xs q) hT p
  · have e : i = xs.length := by omega
    subst e
    exact .inl ⟨⟨xs, q, Nat.le_refl _⟩, hd σ H p⟩
end Vk
set_option Elab.async false
set_option maxRecDepth 100000
set_option linter.all false
namespace Vk
open PySem PySem.Spec PyProof.Rows L2
def top (i : Nat) : Stmt := PySem.Challenge.pw_anchoredits_k57_changes_one_after_anothe.main.body.getD i (.Pass ⟨0, 0, 0, 0⟩)
structure Txt (mg : Str → Option Value) : Prop where
  str : mg "str" = none
  tuple : mg "tuple" = none
  enumerate : mg "enumerate" = none
  bool : mg "bool" = none
  sum : mg "sum" = none
  max : mg "max" = none
  ValueError : mg "ValueError" = none
  len : mg "len" = none
  list : mg "list" = none
  int : mg "int" = none
  abs : mg "abs" = none
  range : mg "range" = none
  min : mg "min" = none
  repr : mg "repr" = none
  isinstance : mg "isinstance" = none
  reversed : mg "reversed" = none
abbrev tlV : List Value := [.type "ValueError", .type "Exception", .type "BaseException", .type "object"]
section
variable {P : Program} {w : World} {K : PySem.W.Frag} {mg : Str → Option Value} {base : Heap}
abbrev m_InvalidChange : Stmt := mtd (top 1) 0
theorem sc_InvalidChange : FnScope ["self", "index"] ["self", "index"] (defScope m_InvalidChange) := ⟨rfl, rfl, rfl, by decide +kernel, rfl, by decide +kernel, by decide +kernel⟩
theorem b_InvalidChange {f C : Addr} {fd : FuncData} (F : Fun K "__init__" "InvalidChange.__init__" m_InvalidChange f fd) (T : OexK K C) (no : ∀ f ∈ (["index"] : List Str), PySem.W.findIn K (.ref C) f = some none) : FnG P w K mg base CX0 1 f fd ["self", "index"] (spIni C ["index"]) := by
  refine okG0 F sc_InvalidChange (fun vs H Q E h => ?_) (fun cdv A outer s H vs Q E hg hr h => ?_)
  · obtain ⟨a, ws, rfl, hl, _⟩ := h
    rw [List.length_cons, hl]
    rfl
  · obtain ⟨a, ws, rfl, hl, ha, k0, k⟩ := h
    match ws, hl with
    | [y], _ => exact ⟨_, (pss_one (ps_osk (pv 0) (pv 1))), _, rfl, _, rfl, a, C, rfl, T, no _ (by simp), .inl ⟨ha, fun dx n ne => k (by simp) dx n ne⟩⟩
theorem c_InvalidChange {h : Heap} {f C : Addr} {fd : FuncData} {tl : List Value} (KX : K.In h) (G : h.Ns mainGlobals mg) (E : ExcTxt K "InvalidChange" "InvalidChange.__init__" m_InvalidChange C f fd ["index"] tl) : ClsI P w K mg base 1 "InvalidChange" C ["index"] :=
  .of1 E KX G (b_InvalidChange E.fn E.T E.no) (fun _ _ _ _ _ _ _ _ => rfl) (fun _ _ _ _ _ _ _ _ => rfl)
def isStr : PyData → Bool
  | .str _ => true
  | _ => false
theorem kit_str {H : Hp} {v : V} {d : PyData} (h : Th H v d) : ∃ t b, TyX K H v t ∧ PySem.W.kitOne K t (.type "str") = some b ∧ b = isStr d := by
  cases h with
  | atm a => cases a with
    | non => exact ⟨.type "NoneType", false, .base .non, kit_ty (by decide +kernel), rfl⟩
    | bl b => exact ⟨.type "bool", false, .base (.bl b), kit_ty (by decide +kernel), rfl⟩
    | int i => exact ⟨.type "int", false, .base (.int i), kit_ty (by decide +kernel), rfl⟩
    | str x => exact ⟨.type "str", true, .base (.str x), kit_ty (by decide +kernel), rfl⟩
  | lst e _ _ => exact ⟨.type "list", false, .base (.lst e), kit_ty (by decide +kernel), rfl⟩
  | tup e _ => exact ⟨.type "tuple", false, .base (.tup e), kit_ty (by decide +kernel), rfl⟩
  | dct e => exact ⟨.type "dict", false, .base (.dK e), kit_ty (by decide +kernel), rfl⟩
/-- a text: a string of letters -/
def isT : PyData → Bool
  | .str z => decide (V.str (Txt.lstripChars z letS) = V.str "")
  | _ => false
/-- strings of values are short -/
def Srt (d : PyData) : Prop := match d with | .str z => z.length ≤ 1000 ∧ PyData.strOk z = true | _ => True
def spTest (f : PyData → Bool) : Sp := fun vs H Q _ => ∃ v d, vs = [v] ∧ Th H v d ∧ Srt d ∧ Q (.bl (f d)) H
abbrev s_is_text : Stmt := top 7
theorem sc_is_text : FnScope ["value"] ["value"] (defScope s_is_text) := ⟨rfl, rfl, rfl, by decide +kernel, rfl, by decide +kernel, by decide +kernel⟩
theorem b_is_text {f : Addr} {fd : FuncData} (F : Fun K "is_text" "is_text" s_is_text f fd) (T : Txt mg) (g_LETTERS : ∃ u, mg "LETTERS" = some u ∧ RelV (.str letS) u) : FnG P w K mg base CX0 1 f fd ["value"] (spTest isT) := by
  refine okG0 F sc_is_text (fun vs H Q E h => ?_) (fun cdv A outer s H vs Q E hg hr h => ?_)
  · obtain ⟨v, d, rfl, _⟩ := h
    rfl
  · have hu := hu_of hr
    have hu64 := hr.units
    obtain ⟨v, d, rfl, th, sr, k⟩ := h
    obtain ⟨t, b, ty, kt, hb⟩ := kit_str (K := K) th
    refine ⟨_, (pss_one (ps_ret (pe_and (pe_callB call_isi (by rfl) T.isinstance (by decide +kernel) (pa_cons (pv 0) (pa_cons (pe_bltn (v := .ty "str") (by rfl) T.str rfl rfl) pa_nil))) (pe_one (pe_cmpR op_eq (pe_bm PySem.F.plainAttrs_str PySem.F.slot_str_lstrip PySem.F.type_str_lstrip mt_lstripChars (pv 0) (pa_cons (C8.pe_gc (by rfl) g_LETTERS) pa_nil)) pe_str (nomark _)))))), ?_⟩
    refine ⟨_, rfl, v, .ty "str", t, .type "str", b, rfl, .ty "str", ty, kt, _, rfl, ?_⟩
    cases th with
    | atm a =>
      cases a with
      | str x =>
        subst hb
        refine iteT ⟨_, rfl, rfl, x, _, rfl, rfl, few_len sr.1, rfl, ?_⟩
        exact k
      | _ => subst hb; exact iteF k
    | _ => subst hb; exact iteF k

theorem isT_str {d : PyData} (h : isT d = true) : ∃ z, d = .str z := by
  cases d with
  | str z => exact ⟨z, rfl⟩
  | _ => cases h
theorem th_str {H : Hp} {v : V} {z : Str} (h : Th H v (.str z)) : v = .str z := by
  cases h with
  | atm a => cases a; rfl
theorem upd_twice {H : Hp} {a : Addr} {o1 o2 : HO} : upd (upd H a o1) a o2 = upd H a o2 := by
  funext b
  by_cases h : b = a
  · subst h; rw [upd_same, upd_same]
  · rw [upd_ne h, upd_ne h, upd_ne h]
theorem isT_all {z : Str} : isT (.str z) = z.cps.toList.all letS.cps.contains := by
  unfold isT
  rw [Bool.eq_iff_iff, ← lstrip_all]
  simp
/-- the signs of z that are no letters, among the first i -/
def odd (z : Str) (i : Nat) : List Nat := (z.cps.toList.take i).filter fun c => !decide (c ∈ letS.cps.toList)
theorem odd_next {z : Str} {i c : Nat} (h : z.cps[i]? = some c) : odd z (i + 1) = if (!decide (c ∈ letS.cps.toList)) = true then odd z i ++ [c] else odd z i := by
  unfold odd
  have e : z.cps.toList[i]? = some c := by rw [Array.getElem?_toList]; exact h
  rw [List.take_add_one, e, List.filter_append]
  cases m : decide (c ∈ letS.cps.toList) with
  | true => simp only [Option.toList_some, List.filter_cons, m, Bool.not_true, Bool.false_eq_true, if_false, List.filter_nil, List.append_nil]
  | false => simp only [Option.toList_some, List.filter_cons, m, Bool.not_false, if_true, List.filter_nil]
theorem odd_len {z : Str} {i : Nat} : (odd z i).length ≤ z.length := by
  unfold odd
  refine Nat.le_trans (List.length_filter_le _ _) ?_
  rw [List.length_take]
  exact Nat.le_trans (Nat.min_le_right _ _) (by simp [Str.length])
theorem odd_all {z : Str} : PyData.eqv (.list ((odd z z.cps.size).map fun c => .str ⟨#[c]⟩)) (.list []) = isT (.str z) := by
  rw [isT_all]
  have e : odd z z.cps.size = z.cps.toList.filter fun c => !decide (c ∈ letS.cps.toList) := by
    unfold odd
    rw [List.take_of_length_le (by simp)]
  rw [e]
  cases h : z.cps.toList.all letS.cps.contains with
  | true =>
    have n : (z.cps.toList.filter fun c => !decide (c ∈ letS.cps.toList)) = [] := by
      rw [List.filter_eq_nil_iff]
      intro c hc
      have q := List.all_eq_true.mp h c hc
      have m : c ∈ letS.cps.toList := by simpa using q
      simp [m]
    rw [n]
    simp [PyData.eqv, PyData.eqvAll]
  | false =>
    have n : (z.cps.toList.filter fun c => !decide (c ∈ letS.cps.toList)) ≠ [] := by
      intro n
      rw [List.filter_eq_nil_iff] at n
      have q : z.cps.toList.all letS.cps.contains = true := by
        rw [List.all_eq_true]
        intro c hc
        have m := n c hc
        simpa using m
      rw [q] at h
      cases h
    revert n
    cases z.cps.toList.filter fun c => !decide (c ∈ letS.cps.toList) with
    | nil => exact fun n => absurd rfl n
    | cons a r => exact fun _ => by simp [PyData.eqv, PyData.eqvAll]
theorem odd_ok {z : Str} (h : PyData.strOk z = true) (i : Nat) : SeqAt.shaped (.list ((odd z i).map fun c => .str ⟨#[c]⟩)) = true := by
  have all : ∀ l : List Nat, (∀ c ∈ l, c < 0x110000) → PyData.canLayAll0 (l.map fun c => PyData.str ⟨#[c]⟩) = true ∧ PyData.depthAll (l.map fun c => PyData.str ⟨#[c]⟩) ≤ 1 := by
    intro l
    induction l with
    | nil => intro _; exact ⟨rfl, by simp [PyData.depthAll]⟩
    | cons a r ih =>
      intro m
      obtain ⟨i1, i2⟩ := ih fun c hc => m c (List.mem_cons_of_mem _ hc)
      have m1 := m a List.mem_cons_self
      refine ⟨?_, ?_⟩
      · rw [List.map_cons]
        simp only [PyData.canLayAll0, PyData.canLay0, i1, Bool.and_true]
        simp [PyData.strOk, m1]
      · rw [List.map_cons]
        simp only [PyData.depthAll, PyData.depth]
        omega
  obtain ⟨a1, a2⟩ := all (odd z i) fun c hc => by
    unfold odd at hc
    have m := List.mem_of_mem_take (List.mem_filter.mp hc).1
    have h2 : z.cps.all (· < 0x110000) = true := h
    rw [Array.all_eq_true_iff_forall_mem] at h2
    have := h2 c (by simpa using m)
    simpa using this
  unfold SeqAt.shaped
  rw [Bool.and_eq_true, decide_eq_true_eq]
  refine ⟨by simpa [PyData.canLay0] using a1, ?_⟩
  simp only [PyData.depth]
  omega
/-- as spTest, new things may be laid -/
def spSays (f : PyData → Bool) : Sp := fun vs H Q _ => ∃ v d, vs = [v] ∧ Th H v d ∧ Srt d ∧ ∀ H', Same H H' → Q (.bl (f d)) H'
theorem dp_signs {H : Hp} : ∀ l : List Nat, DpAll K H (l.map fun c => V.str ⟨#[c]⟩) (l.map fun c => PyData.str ⟨#[c]⟩)
  | [] => .nil
  | c :: r => .cons (.str _) (dp_signs r)
abbrev s_lsigns : Stmt := top 20
theorem sc_lsigns : FnScope [] [] (defScope s_lsigns) := ⟨rfl, rfl, rfl, by decide +kernel, rfl, by decide +kernel, by decide +kernel⟩
theorem b_lsigns {f : Addr} {fd : FuncData} (F : Fun K "_law_signs" "_law_signs" s_lsigns f fd) (T : Txt mg) : FnG P w K mg base CX0 1 f fd [] spSigns := by
  refine okG0 F sc_lsigns (fun vs H Q E h => ?_) (fun cdv A outer s H vs Q E hg hr h => ?_)
  · obtain ⟨rfl, _⟩ := h
    rfl
  · have hu := hu_of hr
    have hu64 := hr.units
    obtain ⟨rfl, k⟩ := h
    exact ⟨_, (pss_one (ps_ret pe_str)), k⟩

abbrev s_lis_text : Stmt := top 21
theorem sc_lis_text : FnScope ["_law_thing", "_law_sign"] ["_law_thing"] (defScope s_lis_text) := ⟨rfl, rfl, rfl, by decide +kernel, rfl, by decide +kernel, by decide +kernel⟩
theorem b_lis_text {f : Addr} {fd : FuncData} (F : Fun K "_law_is_text" "_law_is_text" s_lis_text f fd) (T : Txt mg) (c_lsigns : CalG P w K mg base CX0 1 "_law_signs" spSigns) : FnG P w K mg base CX0 2 f fd ["_law_thing"] (spSays isT) := by
  refine okG0 F sc_lis_text (fun vs H Q E h => ?_) (fun cdv A outer s H vs Q E hg hr h => ?_)
  · obtain ⟨v, d, rfl, _⟩ := h
    rfl
  · have hu := hu_of hr
    have hu64 := hr.units
    obtain ⟨v, d, rfl, th, sr, k⟩ := h
    obtain ⟨t, b, ty, kt, hb⟩ := kit_str (K := K) th
    have hr1 : Room 1 _ := hr
    refine ⟨_, (pss_one (ps_ret (pe_and (pe_callB call_isi (by rfl) T.isinstance (by decide +kernel) (pa_cons (pv 0) (pa_cons (pe_bltn (v := .ty "str") (by rfl) T.str rfl rfl) pa_nil))) (pe_one (pe_cmpR (op_eqD hu64) (pe_lc (own := [("_law_sign", 1)]) (g := gName 1) rfl sc_lis_text.nd (pi_str (pv 0)) (blkOk_by (own := [("_law_sign", 1)]) (N := ["_law_thing", "_law_sign"]) (sc := defScope s_lis_text) (by decide +kernel)) (fun _ _ _ _ _ => (pg_name (i := 1) sc_lis_text.nd rfl (Or.inl rfl))) (fun _ _ _ _ _ => (pts_one (pt_cmpR op_notIn_sign (pv 1) (pe_cG0 c_lsigns hg hr (by decide) pass0) (by rfl)))) (fun _ _ _ _ _ => (pv 1))) (pe_lst pa_nil) (nomark _)))))), ?_⟩
    refine ⟨_, rfl, v, .ty "str", t, .type "str", b, rfl, .ty "str", ty, kt, _, rfl, ?_⟩
    have other : isStr d = false → Q (.bl false) H := fun z => by
      have e : isT d = false := by cases d <;> first | rfl | cases z
      rw [e] at k
      exact k H Same.rfl
    rw [hb]
    match hd : isStr d with
    | false => exact iteF (other hd)
    | true =>
      obtain ⟨z, rfl⟩ : ∃ z, d = .str z := by
        cases d with
        | str z => exact ⟨z, rfl⟩
        | _ => cases hd
      cases th_str th
      refine iteT ⟨_, rfl, z, rfl, fun D hD => ?_⟩
      refine lc_str (fun i H2 => (∀ a o, H a = some o → H2 a = some o) ∧ H2 D = some (.lst ((odd z i).map fun c => V.str ⟨#[c]⟩))) ⟨same_new hD, upd_same⟩ (fun i c H2 hc p => ?_) (fun H2 p => ?_)
      · have nx := odd_next hc
        refine ⟨rfl, _, rfl, ⟨rfl, c, letS, rfl, rfl, _, rfl, ?_⟩⟩
        show (if (!decide (c ∈ letS.cps.toList)) = true then _ else _)
        cases m : (!decide (c ∈ letS.cps.toList)) with
        | true =>
          rw [m, if_pos rfl] at nx
          rw [if_pos rfl]
          refine ⟨_, rfl, _, p.2, Nat.lt_of_le_of_lt (Nat.le_trans (by rw [List.length_map]; exact odd_len) sr.1) (by rw [sizeLine_eq]; decide), fun a o h => ?_, ?_⟩
          · rw [upd_ne (ne_of_none h hD)]
            exact p.1 _ _ h
          · rw [nx, List.map_append]
            exact upd_same
        | false =>
          rw [m, if_neg (by decide)] at nx
          rw [if_neg (by decide), nx]
          exact p
      · refine ⟨few_len (Nat.zero_le _), fun q hq => ⟨_, _, .lst (SqL.of ((same_new hq) _ _ p.2)) (dp_signs _), .lst (SqL.of upd_same) .nil, odd_ok sr.2 _, by decide +kernel, ?_⟩⟩
        rw [odd_all]
        exact k _ (Same.trans p.1 (same_new hq))

def isIntB : PyData → Bool
  | .int _ => true
  | _ => false
theorem kit_int {H : Hp} {v : V} {d : PyData} (h : Th H v d) : ∃ t b c, TyX K H v t ∧ PySem.W.kitOne K t (.type "int") = some b ∧ PySem.W.kitOne K t (.type "bool") = some c ∧ (b && !c) = isIntB d ∧ (isIntB d = false → b = true → c = true) := by
  cases h with
  | atm a => cases a with
    | non => exact ⟨.type "NoneType", false, false, .base .non, kit_ty (by decide +kernel), kit_ty (by decide +kernel), rfl, fun _ z => nomatch z⟩
    | bl b => exact ⟨.type "bool", true, true, .base (.bl b), kit_ty (by decide +kernel), kit_ty (by decide +kernel), rfl, fun _ _ => rfl⟩
    | int i => exact ⟨.type "int", true, false, .base (.int i), kit_ty (by decide +kernel), kit_ty (by decide +kernel), rfl, fun z => nomatch z⟩
    | str x => exact ⟨.type "str", false, false, .base (.str x), kit_ty (by decide +kernel), kit_ty (by decide +kernel), rfl, fun _ z => nomatch z⟩
  | lst e _ _ => exact ⟨.type "list", false, false, .base (.lst e), kit_ty (by decide +kernel), kit_ty (by decide +kernel), rfl, fun _ z => nomatch z⟩
  | tup e _ => exact ⟨.type "tuple", false, false, .base (.tup e), kit_ty (by decide +kernel), kit_ty (by decide +kernel), rfl, fun _ z => nomatch z⟩
  | dct e => exact ⟨.type "dict", false, false, .base (.dK e), kit_ty (by decide +kernel), kit_ty (by decide +kernel), rfl, fun _ z => nomatch z⟩
theorem kit_tup {H : Hp} {v : V} {d : PyData} (h : Th H v d) : ∃ t b, TyX K H v t ∧ PySem.W.kitOne K t (.type "tuple") = some b ∧ b = (match d with | .tuple _ => true | _ => false) := by
  cases h with
  | atm a => cases a with
    | non => exact ⟨.type "NoneType", false, .base .non, kit_ty (by decide +kernel), rfl⟩
    | bl b => exact ⟨.type "bool", false, .base (.bl b), kit_ty (by decide +kernel), rfl⟩
    | int i => exact ⟨.type "int", false, .base (.int i), kit_ty (by decide +kernel), rfl⟩
    | str x => exact ⟨.type "str", false, .base (.str x), kit_ty (by decide +kernel), rfl⟩
  | lst e _ _ => exact ⟨.type "list", false, .base (.lst e), kit_ty (by decide +kernel), rfl⟩
  | tup e _ => exact ⟨.type "tuple", true, .base (.tup e), kit_ty (by decide +kernel), rfl⟩
  | dct e => exact ⟨.type "dict", false, .base (.dK e), kit_ty (by decide +kernel), rfl⟩
def inI (d : PyData) (lo hi : Int) : Bool := match d with | .int i => decide (lo ≤ i) && decide (i ≤ hi) | _ => false
def spIsInt : Sp := fun vs H Q _ => ∃ v d, vs = [v] ∧ Th H v d ∧ Q (.bl (isIntB d)) H
def spInI : Sp := fun vs H Q _ => ∃ v d lo hi, vs = [v, .int lo, .int hi] ∧ Th H v d ∧ Q (.bl (inI d lo hi)) H
theorem int_th {H : Hp} {v : V} {d : PyData} (h : Th H v d) (z : isIntB d = true) : ∃ i, d = .int i ∧ v = .int i := by
  cases h with
  | atm a => cases a with
    | int i => exact ⟨i, rfl, rfl⟩
    | _ => cases z
  | _ => cases z
theorem inI_no {d : PyData} {lo hi : Int} (z : isIntB d = false) : inI d lo hi = false := by
  cases d with
  | int i => cases z
  | _ => rfl
abbrev s_is_integer : Stmt := top 3
theorem sc_is_integer : FnScope ["value"] ["value"] (defScope s_is_integer) := ⟨rfl, rfl, rfl, by decide +kernel, rfl, by decide +kernel, by decide +kernel⟩
theorem b_is_integer {f : Addr} {fd : FuncData} (F : Fun K "is_integer" "is_integer" s_is_integer f fd) (T : Txt mg) : FnG P w K mg base CX0 1 f fd ["value"] spIsInt := by
  refine okG0 F sc_is_integer (fun vs H Q E h => ?_) (fun cdv A outer s H vs Q E hg hr h => ?_)
  · obtain ⟨v, d, rfl, _⟩ := h
    rfl
  · have hu := hu_of hr
    have hu64 := hr.units
    obtain ⟨v, d, rfl, th, k⟩ := h
    obtain ⟨t, b, c, ty, kt, kc, hb, _⟩ := kit_int (K := K) th
    refine ⟨_, (pss_one (ps_ret (pe_and (pe_callB call_isi (by rfl) T.isinstance (by decide +kernel) (pa_cons (pv 0) (pa_cons (pe_bltn (v := .ty "int") (by rfl) T.int rfl rfl) pa_nil))) (pe_one (pe_not (pe_callB call_isi (by rfl) T.isinstance (by decide +kernel) (pa_cons (pv 0) (pa_cons (pe_bltn (v := .ty "bool") (by rfl) T.bool rfl rfl) pa_nil)))))))), ?_⟩
    refine ⟨_, rfl, v, .ty "int", t, .type "int", b, rfl, .ty "int", ty, kt, _, rfl, ?_⟩
    rw [← hb] at k
    cases b with
    | false => exact iteF k
    | true => exact iteT ⟨_, rfl, v, .ty "bool", t, .type "bool", c, rfl, .ty "bool", ty, kc, _, rfl, k⟩

abbrev s_is_integer_in : Stmt := top 4
theorem sc_is_integer_in : FnScope ["value", "low", "high"] ["value", "low", "high"] (defScope s_is_integer_in) := ⟨rfl, rfl, rfl, by decide +kernel, rfl, by decide +kernel, by decide +kernel⟩
theorem b_is_integer_in {f : Addr} {fd : FuncData} (F : Fun K "is_integer_in" "is_integer_in" s_is_integer_in f fd) (T : Txt mg) (c_is_integer : CalG P w K mg base CX0 1 "is_integer" spIsInt) : FnG P w K mg base CX0 2 f fd ["value", "low", "high"] spInI := by
  refine okG0 F sc_is_integer_in (fun vs H Q E h => ?_) (fun cdv A outer s H vs Q E hg hr h => ?_)
  · obtain ⟨v, d, lo, hi, rfl, _⟩ := h
    rfl
  · have hu := hu_of hr
    have hu64 := hr.units
    obtain ⟨v, d, lo, hi, rfl, th, k⟩ := h
    refine ⟨_, (pss_one (ps_ret (pe_and (pe_cG c_is_integer hg hr (by decide) pass0 (pa_cons (pv 0) pa_nil)) (pe_one (pe_chain op_le op_le (pv 1) (pv 0) (pv 2)))))), ?_⟩
    refine ⟨_, rfl, v, d, rfl, th, _, rfl, ?_⟩
    cases hI : isIntB d with
    | false =>
      rw [inI_no hI] at k
      exact iteF k
    | true =>
      obtain ⟨i, rfl, rfl⟩ := int_th th hI
      have k : Q (.bl (decide (lo ≤ i) && decide (i ≤ hi))) H := k
      refine iteT ⟨_, rfl, _, rfl, ?_⟩
      refine ⟨_, _, rfl, rfl, _, rfl, ?_⟩
      cases h1 : decide (lo ≤ i) with
      | false =>
        rw [h1, Bool.false_and] at k
        exact iteF k
      | true =>
        rw [h1, Bool.true_and] at k
        exact iteT ⟨_, rfl, _, _, rfl, rfl, k⟩

end
end Vk
set_option Elab.async false
set_option maxRecDepth 100000
set_option linter.all false
set_option maxHeartbeats 4000000
namespace Vk
open PySem PySem.Spec PyProof.Rows L2
section
variable {P : Program} {w : World} {K : PySem.W.Frag} {mg : Str → Option Value} {base : Heap}
abbrev Ltr (x : Str) : Prop := ∀ c ∈ x.cps.toList, c ∈ letS.cps.toList
theorem lt_ok {x : Str} (h : Ltr x) : PyData.strOk x = true := ok_letters h
theorem lt_word {z x : Str} {a b : Nat} (fz : Few z) (w : Word z a b x) : Ltr x := fun c hc => fz.2.2 c (w.2.2 c hc)
theorem lt_one {z : Str} {c : Nat} (fz : Few z) (h : c ∈ z.cps.toList) : Ltr (⟨#[c]⟩ : Str) := fun d hd => by
  have e : d ∈ [c] := hd
  rw [List.mem_singleton.mp e]
  exact fz.2.2 c h
theorem cutS_lt {x : Str} (h : Ltr x) (a b : Option Int) : Ltr (cutS x a b) := fun c hc => by
  have hc2 : c ∈ (List.toArray ((x.cps.toList.drop (HT.sIx x.length 0 a)).take (HT.sIx x.length x.length b - HT.sIx x.length 0 a))).toList := hc
  rw [List.toList_toArray] at hc2
  exact h c (List.mem_of_mem_drop (List.mem_of_mem_take hc2))
theorem lt_more {z y : Str} (h1 : Ltr z) (h2 : Ltr y) : Ltr (z ++ y) := fun c hc => by
  rw [more_list] at hc
  rcases List.mem_append.mp hc with h | h
  · exact h1 c h
  · exact h2 c h
theorem lt_none : Ltr "" := by decide +kernel
theorem lt_isT {z : Str} (h : Ltr z) : isT (.str z) = true := by
  rw [isT_all]
  exact List.all_eq_true.mpr fun c hc => by simpa using h c hc
abbrev s_ldraw : Stmt := top 18
theorem sc_ldraw : FnScope ["_law_pen_here", "_law_many", "_law_digit", "_law_turn", "_law_cell", "_law_primes", "_law_prime", "_law_drawn"] ["_law_pen_here", "_law_many"] (defScope s_ldraw) := ⟨rfl, rfl, rfl, by decide +kernel, rfl, by decide +kernel, by decide +kernel⟩
theorem b_ldraw {f : Addr} {fd : FuncData} (F : Fun K "_law_draw" "_law_draw" s_ldraw f fd) (T : Txt mg) : FnG P w K mg base CX0 1 f fd ["_law_pen_here", "_law_many"] spDraw := by
  refine okG0 F sc_ldraw (fun vs H Q E h => ?_) (fun cdv A outer s H vs Q E hg hr h => ?_)
  · obtain ⟨p, c, m, T0, rfl, _⟩ := h
    rfl
  · have hu := hu_of hr
    have hu64 := hr.units
    obtain ⟨p, c, m, T0, rfl, m0, m1, ⟨ns, t, l, hp, hc, hn, t0, tT, l0⟩, hT, k⟩ := h
    have ncp : c ≠ p := ne_of hc hp (by intro z; cases z)
    have lenns : (ns.map V.int).length = ns.length := List.length_map _
    refine ⟨_, (pss_cons (ps_if (pt_cmpR op_gt (pe_dget hu (pv 0) pe_str (fun _ _ => rfl)) pe_int (nomark _)) (pss_cons (ps_set (i := 2) sc_ldraw.nd rfl (Or.inl rfl) (pe_op op_mod (pe_callTy call_int1 (by rfl) T.int (by decide +kernel) (pa_cons (pe_dget hu (pv 0) pe_str (fun _ _ => rfl)) pa_nil)) (pv 1)))
      (pss_cons (ps_dput hu (pv 0) pe_str (pe_op op_fdiv (pe_dget hu (pv 0) pe_str (fun _ _ => rfl)) (pv 1)) rfl)
      (pss_one (ps_ret (pv 2))))) pss_nil)
      (pss_cons (ps_set (i := 3) sc_ldraw.nd rfl (Or.inl rfl) (pe_dget hu (pv 0) pe_str (fun _ _ => rfl)))
      (pss_cons (ps_dput hu (pv 0) pe_str (pe_op op_add (pv 3) pe_int) rfl)
      (pss_cons (ps_set (i := 4) sc_ldraw.nd rfl (Or.inl rfl) (pe_op op_add (pe_op op_mul pe_int (pv 3)) pe_int))
      (C8.pss_cut (ps_if (pt_cmpR (op_neD hu64) (pe_dget hu (pv 0) pe_str (fun _ _ => rfl)) (pe_lst pa_nil) (nomark _)) (pss_one (ps_set (i := 4) sc_ldraw.nd rfl (Or.inl rfl) (pe_ix ix_seq (pe_dget hu (pv 0) pe_str (fun _ _ => rfl)) (pe_op op_mod (pe_callTy call_int1 (by rfl) T.int (by decide +kernel) (pa_cons (pv 3) pa_nil)) (pe_callB call_len (by rfl) T.len (by decide +kernel) (pa_cons (pe_dget hu (pv 0) pe_str (fun _ _ => rfl)) pa_nil))) (fun _ _ => rfl)))) pss_nil)
      (C8.pss_cut (ps_if (PW.pt (pw_and (pt_cmpR op_lt (pv 3) (pe_callB call_len (by rfl) T.len (by decide +kernel) (pa_cons (pe_dget hu (pv 0) pe_str (fun _ _ => rfl)) pa_nil)) (nomark _)) (pw_and1 (pt_cmpR op_ge (pe_callB call_abs (by rfl) T.abs (by decide +kernel) (pa_cons (pv 4) pa_nil)) (pe_op op_pow pe_int pe_int) (nomark _))))) (pss_cons (ps_dput hu (pv 0) pe_str (pe_op op_fdiv (pe_op op_sub (pe_callB call_abs (by rfl) T.abs (by decide +kernel) (pa_cons (pv 4) pa_nil)) (pe_op op_pow pe_int pe_int)) (pv 1)) rfl)
      (pss_one (ps_ret (pe_op op_mod (pe_op op_sub (pe_callB call_abs (by rfl) T.abs (by decide +kernel) (pa_cons (pv 4) pa_nil)) (pe_op op_pow pe_int pe_int)) (pv 1))))) pss_nil)
      (pss_cons (ps_set (i := 5) sc_ldraw.nd rfl (Or.inl rfl) (pe_lst (pa_cons pe_int (pa_cons pe_int (pa_cons pe_int (pa_cons pe_int (pa_cons pe_int pa_nil)))))))
      (pss_cons (ps_set (i := 6) sc_ldraw.nd rfl (Or.inl rfl) (pe_ix ix_seq (pv 5) (pe_op op_mod (pe_callTy call_int1 (by rfl) T.int (by decide +kernel) (pa_cons (pv 3) pa_nil)) pe_int) (fun _ _ => rfl)))
      (pss_cons (ps_set (i := 7) sc_ldraw.nd rfl (Or.inl rfl) (pe_op op_mod (pe_callTy call_int1 (by rfl) T.int (by decide +kernel) (pa_cons (pe_op op_add (pe_op op_add (pe_op op_mul (pe_op op_mod (pe_callTy call_int1 (by rfl) T.int (by decide +kernel) (pa_cons (pv 4) pa_nil)) (pv 6)) pe_int) (pe_op op_mul (pv 3) (pe_op op_add (pe_op op_mul pe_int (pv 3)) pe_int))) pe_int) pa_nil)) (pv 6)))
      (pss_cons (ps_set (i := 7) sc_ldraw.nd rfl (Or.inl rfl) (pe_op op_mod (pe_callTy call_int1 (by rfl) T.int (by decide +kernel) (pa_cons (pe_op op_mul (pv 7) (pe_op op_add (pv 7) pe_int)) pa_nil)) (pe_ix ix_seq (pv 5) (pe_op op_mod (pe_callTy call_int1 (by rfl) T.int (by decide +kernel) (pa_cons (pe_op op_add (pv 3) pe_int) pa_nil)) pe_int) (fun _ _ => rfl))))
      (pss_one (ps_ret (pe_op op_mod (pe_callTy call_int1 (by rfl) T.int (by decide +kernel) (pa_cons (pe_op op_fdiv (pe_op op_mod (pe_callTy call_int1 (by rfl) T.int (by decide +kernel) (pa_cons (pe_op op_add (pe_op op_add (pe_op op_mul (pv 7) (pv 7)) (pe_op op_mul pe_int (pv 7))) (pv 3)) pa_nil)) pe_int) pe_int) pa_nil)) (pv 1)))))))))))))), ?_⟩
    refine ⟨_, rfl, p, _, rfl, get_left hp, _, _, rfl, rfl, _, rfl, ?_⟩
    refine ite2 (fun hl => ?_) (fun hl => ?_)
    · refine ⟨_, rfl, p, _, rfl, get_left hp, .inl ⟨_, rfl, ?_⟩⟩
      refine ⟨_, rfl, _, _, rfl, rfl, m0, ?_⟩
      refine ⟨_, rfl, p, _, rfl, get_left hp, _, rfl, _, _, rfl, rfl, ⟨by omega, by omega⟩, ?_⟩
      refine ⟨_, rfl, p, _, rfl, put_left hp, _, rfl, ?_⟩
      refine k _ _ (Int.emod_nonneg _ (by omega)) (Int.emod_lt_of_pos _ m0) ⟨ns, t, _, upd_same, (upd_ne ncp).trans hc, hn, t0, by omega, Int.ediv_nonneg l0 (by omega)⟩ Ext.at
    · refine ⟨_, rfl, p, _, rfl, get_turn hp, ?_⟩
      refine ⟨_, rfl, _, _, rfl, rfl, _, rfl, p, _, rfl, put_turn hp, ?_⟩
      generalize hH1 : upd H p (.dK (penL c (t + 1) l)) = H1
      have hp1 : H1 p = some (.dK (penL c (t + 1) l)) := by rw [← hH1]; exact upd_same
      have hc1 : H1 c = some (.lst (ns.map V.int)) := by rw [← hH1]; exact (upd_ne ncp).trans hc
      have e1 : Ext p H H1 := by rw [← hH1]; exact Ext.at
      refine ⟨_, rfl, _, _, rfl, rfl, .inl ⟨by decide, by decide⟩, _, _, rfl, rfl, ?_⟩
      refine ⟨fun σ' H2 => ∃ z : Int, σ' = [some (.ref p), some (.int m), none, some (.int t), some (.int z), none, none, none] ∧ H2 p = some (.dK (penL c (t + 1) l)) ∧ H2 c = some (.lst (ns.map V.int)) ∧ Ext p H H2, ?_, ?_⟩
      · refine ⟨_, rfl, p, _, rfl, get_cells hp1, by decide, fun b hb => ?_⟩
        have hp2 := up_new (u := .lst []) hp1 hb
        have hc2 := up_new (u := .lst []) hc1 hb
        refine ⟨.list (ns.map .int), .list [], .lst (SqL.of hc2) (ints_dp ns), .lst (SqL.of upd_same) .nil, ints_shaped ns, by decide +kernel, _, rfl, ?_⟩
        rw [ints_ne_nil]
        refine ite2 (fun hne => ?_) (fun _ => ?_)
        · have hpos : 0 < ns.length := by
            cases ns with
            | nil => simp at hne
            | cons a r => exact Nat.succ_pos _
          refine ⟨_, rfl, p, _, rfl, get_cells hp2, _, rfl, .inl ⟨_, rfl, _, rfl, p, _, rfl, get_cells hp2, _, _, rfl, .inl ⟨_, SqL.of hc2, rfl⟩, _, _, rfl, rfl, ?_, ?_⟩⟩
          · rw [lenns]; omega
          · obtain ⟨v, hv, hm⟩ := at_mod (xs := ns.map V.int) (i := t % ((ns.map V.int).length : Int)) (Int.emod_nonneg _ (by rw [lenns]; omega)) (Int.emod_lt_of_pos _ (by rw [lenns]; omega))
            obtain ⟨z, _, rfl⟩ := List.mem_map.mp hm
            refine .inl ⟨_, _, _, _, rfl, rfl, SqL.of hc2, hv, z, rfl, hp2, hc2, e1.set (e1.none_of ?_ hb)⟩
            exact (ne_of_none hp1 hb).symm
        · exact ⟨_, rfl, hp2, hc2, e1.set (e1.none_of (ne_of_none hp1 hb).symm hb)⟩
      · rintro σ2 H2 ⟨z, rfl, hp2, hc2, e2⟩
        refine ⟨fun σ' H3 => σ' = [some (.ref p), some (.int m), none, some (.int t), some (.int z), none, none, none] ∧ H3 = H2, ?_, ?_⟩
        · refine ⟨_, rfl, _, rfl, p, _, rfl, get_cells hp2, _, _, rfl, .inl ⟨_, SqL.of hc2, rfl⟩, _, _, rfl, rfl, _, rfl, ?_⟩
          refine ite2 (fun _ => ?_) (fun _ => ?_)
          · refine ⟨_, rfl, _, rfl, _, _, rfl, rfl, ⟨by decide, by decide, by decide⟩, _, _, rfl, rfl, _, rfl, ?_⟩
            refine ite2 (fun hbig => ?_) (fun _ => ?_)
            · have big := of_decide_eq_true hbig
              refine ⟨_, rfl, _, rfl, _, _, rfl, rfl, ⟨by decide, by decide, by decide⟩, _, _, rfl, rfl, _, rfl, _, _, rfl, rfl, ⟨by omega, by omega⟩, ?_⟩
              refine ⟨_, rfl, p, _, rfl, put_left hp2, ?_⟩
              refine ⟨_, rfl, _, rfl, _, _, rfl, rfl, ⟨by decide, by decide, by decide⟩, _, _, rfl, rfl, _, rfl, _, _, rfl, rfl, m0, ?_⟩
              refine k _ _ (Int.emod_nonneg _ (by omega)) (Int.emod_lt_of_pos _ m0) ⟨ns, t + 1, _, upd_same, (upd_ne ncp).trans hc2, hn, by omega, by omega, Int.ediv_nonneg (by omega) (by omega)⟩ (e2.trans Ext.at)
            · exact ⟨rfl, rfl⟩
          · exact ⟨rfl, rfl⟩
        · rintro σ3 H3 ⟨rfl, rfl⟩
          refine ⟨by decide, fun q hq => ?_⟩
          have hp3 := up_new (u := .lst (primes.map V.int)) hp2 hq
          have hc3 := up_new (u := .lst (primes.map V.int)) hc2 hq
          have e3 : Ext p H (upd H3 q (.lst (primes.map V.int))) := e2.set (e2.none_of (ne_of_none hp2 hq).symm hq)
          have hq3 : (upd H3 q (.lst (primes.map V.int))) q = some (.lst (primes.map V.int)) := upd_same
          have pick : ∀ i : Int, 0 ≤ i → i < 5 → ∃ z : Int, atI (primes.map V.int) i = some (.int z) ∧ 0 < z ∧ z < 2147483648 := fun i h0 h5 => by
            obtain ⟨v, hv, hm⟩ := at_mod (xs := primes.map V.int) h0 h5
            obtain ⟨z, rfl, hz⟩ := primes_in hm
            exact ⟨z, hv, hz⟩
          obtain ⟨a1, ha1, a1p, a1b⟩ := pick (t % 5) (Int.emod_nonneg _ (by decide)) (Int.emod_lt_of_pos _ (by decide))
          obtain ⟨a2, ha2, a2p, a2b⟩ := pick ((t + 2) % 5) (Int.emod_nonneg _ (by decide)) (Int.emod_lt_of_pos _ (by decide))
          refine ⟨_, rfl, _, rfl, .inl ⟨_, rfl, _, _, rfl, rfl, (by show (0 : Int) < 5; decide), .inl ⟨_, _, _, _, rfl, rfl, SqL.of hq3, ha1, ?_⟩⟩⟩
          have b1 := Int.emod_nonneg z (show a1 ≠ 0 by omega)
          have b2 := Int.emod_lt_of_pos z a1p
          refine ⟨_, rfl, .inl ⟨_, rfl, _, rfl, _, _, rfl, rfl, a1p, _, _, rfl, rfl, .inr ⟨by decide, by decide⟩, ?_⟩⟩
          refine ⟨_, rfl, _, rfl, _, _, rfl, rfl, .inl ⟨by decide, by decide⟩, _, _, rfl, rfl, _, _, rfl, rfl, .inl ⟨by omega, by omega⟩, _, _, rfl, rfl, _, _, rfl, rfl, .inl ⟨_, rfl, _, rfl, _, _, rfl, rfl, a1p, ?_⟩⟩
          have d1 := Int.emod_nonneg (z % a1 * 39373 + t * (30011 * t + 8117) + 23) (show a1 ≠ 0 by omega)
          have d2 := Int.emod_lt_of_pos (z % a1 * 39373 + t * (30011 * t + 8117) + 23) a1p
          refine ⟨_, rfl, _, rfl, _, _, rfl, rfl, _, _, rfl, rfl, .inl ⟨by omega, by omega⟩, .inl ⟨_, rfl, _, rfl, _, rfl, _, _, rfl, rfl, .inl ⟨_, rfl, _, _, rfl, rfl, (by show (0 : Int) < 5; decide), .inl ⟨_, _, _, _, rfl, rfl, SqL.of hq3, ha2, _, _, rfl, rfl, a2p, ?_⟩⟩⟩⟩
          have f1 := Int.emod_nonneg (((z % a1 * 39373 + t * (30011 * t + 8117) + 23) % a1) * (((z % a1 * 39373 + t * (30011 * t + 8117) + 23) % a1) + 69621)) (show a2 ≠ 0 by omega)
          have f2 := Int.emod_lt_of_pos (((z % a1 * 39373 + t * (30011 * t + 8117) + 23) % a1) * (((z % a1 * 39373 + t * (30011 * t + 8117) + 23) % a1) + 69621)) a2p
          refine ⟨_, rfl, _, rfl, _, _, rfl, rfl, .inl ⟨by omega, by omega⟩, _, rfl, _, _, rfl, rfl, .inl ⟨by decide, by decide⟩, _, _, rfl, rfl, _, rfl, _, _, rfl, rfl, .inl ⟨_, rfl, _, _, rfl, rfl, (by show (0 : Int) < 2147483549; decide), _, _, rfl, rfl, ⟨by decide, by decide⟩, .inl ⟨_, rfl, _, rfl, _, _, rfl, rfl, m0, ?_⟩⟩⟩
          exact k _ _ (Int.emod_nonneg _ (by omega)) (Int.emod_lt_of_pos _ m0) ⟨ns, t + 1, l, hp3, hc3, hn, by omega, by omega, l0⟩ e3

abbrev s_lpen : Stmt := top 17
theorem sc_lpen : FnScope ["_law_script"] ["_law_script"] (defScope s_lpen) := ⟨rfl, rfl, rfl, by decide +kernel, rfl, by decide +kernel, by decide +kernel⟩
theorem b_lpen {f : Addr} {fd : FuncData} (F : Fun K "_law_pen" "_law_pen" s_lpen f fd) (T : Txt mg) : FnG P w K mg base CX0 1 f fd ["_law_script"] (spPen K) := by
  refine okG0 F sc_lpen (fun vs H Q E h => ?_) (fun cdv A outer s H vs Q E hg hr h => ?_)
  · obtain ⟨a, ns, rfl, _⟩ := h
    rfl
  · have hu := hu_of hr
    have hu64 := hr.units
    obtain ⟨a, ns, rfl, hs, k⟩ := h
    refine ⟨_, (pss_one (ps_ret (pe_disp (pps_cons pe_str (pe_callTy call_list_of (by rfl) T.list (by decide +kernel) (pa_cons (pe_slice sl_list (pv 0) po_none (po_some pe_int)) pa_nil)) (pps_cons pe_str pe_int (pps_cons pe_str pe_int pps_nil))) (by rfl) (by rfl) (fun z => by cases z) (by decide)))), ?_⟩
    intro p hp
    obtain ⟨ms, hms, hml⟩ := cut63 ns
    refine ⟨_, rfl, 63, rfl, a, _, rfl, (same_new hp).seq hs, fun q hq => ?_⟩
    refine ⟨q, _, rfl, .inl (SqL.of upd_same), fun c hc => ?_⟩
    rw [hms] at hc ⊢
    have nqp : p ≠ q := fun e => by rw [← e, upd_same] at hq; cases hq
    have ncp : p ≠ c := fun e => by rw [← e, upd_ne nqp, upd_same] at hc; cases hc
    have hp2 : (upd (upd (upd H p (.dK [])) q (.lst (ms.map V.int))) c (.lst (ms.map V.int))) p = some (.dK []) := by rw [upd_ne ncp, upd_ne nqp, upd_same]
    refine ⟨hp2, penL c 0 0, rfl, (by show 3 ≤ 15; decide), ?_⟩
    rw [pen_made]
    refine k p c _ hp ⟨ms, 0, 0, upd_same, by rw [upd_ne ncp.symm, upd_same], hml, Int.le_refl _, Int.le_refl _, Int.le_refl _⟩ fun b o e => ?_
    rw [upd_ne (ne_of_none e hp), upd_ne ?_, upd_ne ?_, upd_ne (ne_of_none e hp)]
    · exact e
    · rintro rfl
      rw [upd_ne (ne_of_none e hp)] at hq
      rw [hq] at e
      cases e
    · rintro rfl
      by_cases ebq : b = q
      · subst ebq
        rw [upd_ne nqp.symm] at hq
        rw [hq] at e
        cases e
      · rw [upd_ne ebq, upd_ne (ne_of_none e hp)] at hc
        rw [hc] at e
        cases e

abbrev s_lpick : Stmt := top 19
theorem sc_lpick : FnScope ["_law_pen_here", "_law_options"] ["_law_pen_here", "_law_options"] (defScope s_lpick) := ⟨rfl, rfl, rfl, by decide +kernel, rfl, by decide +kernel, by decide +kernel⟩
theorem b_lpick {f : Addr} {fd : FuncData} (F : Fun K "_law_pick" "_law_pick" s_lpick f fd) (T : Txt mg) (c_ldraw : CalG P w K mg base CX0 1 "_law_draw" spDraw) : FnG P w K mg base CX0 2 f fd ["_law_pen_here", "_law_options"] (spPick K) := by
  refine okG0 F sc_lpick (fun vs H Q E h => ?_) (fun cdv A outer s H vs Q E hg hr h => ?_)
  · obtain ⟨p, c, o, xs, T0, rfl, _⟩ := h
    rfl
  · have hu := hu_of hr
    have hu64 := hr.units
    obtain ⟨p, c, o, xs, T0, rfl, ho, hne, hlen, hpen, hT, k⟩ := h
    have hpos : 0 < xs.length := List.length_pos_iff.mpr hne
    have hr1 : Room 1 _ := hr
    refine ⟨_, (pss_one (ps_ret (pe_ix ix_seq (pv 1) (pe_cG c_ldraw hg hr (by decide) pass0 (pa_cons (pv 0) (pa_cons (pe_callB call_len (by rfl) T.len (by decide +kernel) (pa_cons (pv 1) pa_nil)) pa_nil))) (fun _ _ => rfl)))), ?_⟩

    cases ho with
    | str z hz =>
      have e := one_len z
      have hz24 : z.length ≤ sizeLine := Nat.le_trans hz (by decide)
      refine ⟨_, rfl, _, rfl, _, rfl, _, _, rfl, ⟨hz24, rfl⟩, p, c, _, T0, rfl, by omega, by omega, hpen, hT, fun d H' d0 d1 hpen' x => ?_⟩
      obtain ⟨e1, hc, hm⟩ := at_mod (xs := z.cps.toList) d0 (by rw [show (z.cps.toList.length : Int) = (z.length : Int) from congrArg Nat.cast Array.length_toList]; exact d1)
      exact .inr (.inr ⟨z, d, e1, rfl, rfl, hz24, hc, k _ _ (List.mem_map_of_mem (f := OneS) hm) hpen' x⟩)
    | lst hs =>
      refine ⟨_, rfl, _, rfl, _, rfl, _, _, rfl, .inl ⟨_, hs, rfl⟩, p, c, _, T0, rfl, by omega, by omega, hpen, hT, fun d H' d0 d1 hpen' x => ?_⟩
      obtain ⟨v, hv, hm⟩ := at_mod d0 d1
      exact .inl ⟨_, xs, d, v, rfl, rfl, hpen.keepL x hs, hv, k _ _ hm hpen' x⟩
    | tup hs =>
      refine ⟨_, rfl, _, rfl, _, rfl, _, _, rfl, .inr ⟨_, hs, rfl⟩, p, c, _, T0, rfl, by omega, by omega, hpen, hT, fun d H' d0 d1 hpen' x => ?_⟩
      obtain ⟨v, hv, hm⟩ := at_mod d0 d1
      exact .inr (.inl ⟨_, xs, d, v, rfl, rfl, hpen.keepT x hs, hv, k _ _ hm hpen' x⟩)

abbrev s_lfew : Stmt := top 23
theorem sc_lfew : FnScope ["_law_pen_here", "_law_some", "_law_rare", "_law_k"] ["_law_pen_here"] (defScope s_lfew) := ⟨rfl, rfl, rfl, by decide +kernel, rfl, by decide +kernel, by decide +kernel⟩
theorem b_lfew {f : Addr} {fd : FuncData} (F : Fun K "_law_few" "_law_few" s_lfew f fd) (T : Txt mg) (c_lpick : CalG P w K mg base CX0 2 "_law_pick" (spPick K)) (t_signs : FnT P w K mg base 1 "_law_signs" letS) : FnG P w K mg base CX0 3 f fd ["_law_pen_here"] spFew := by
  refine okG0 F sc_lfew (fun vs H Q E h => ?_) (fun cdv A outer s H vs Q E hg hr h => ?_)
  · obtain ⟨p, pc, T0, rfl, _⟩ := h
    rfl
  · have hu := hu_of hr
    have hu64 := hr.units
    obtain ⟨p, pc, T0, rfl, hpen, hT, k⟩ := h
    have hr2 : Room 2 _ := hr
    refine ⟨_, (pss_cons (ps_set (i := 1) sc_lfew.nd rfl (Or.inr rfl) (pe_lst (pa_cons (pe_cG c_lpick hg hr (by decide) pass0 (pa_cons (pv 0) (pa_cons (pe_replT t_signs hr (by decide) (by decide +kernel) (by decide +kernel)) pa_nil))) (pa_cons (pe_cG c_lpick hg hr (by decide) pass0 (pa_cons (pv 0) (pa_cons pe_str pa_nil))) (pa_cons (pe_cG c_lpick hg hr (by decide) pass0 (pa_cons (pv 0) (pa_cons pe_str pa_nil))) pa_nil)))))
      (pss_cons (ps_set (i := 2) sc_lfew.nd rfl (Or.inl rfl) (pe_join pe_str (pe_lc (own := [("_law_k", 3)]) (g := gName 3) rfl sc_lfew.nd (pi_range1 rfl T.range (pa_cons pe_int pa_nil)) (blkOk_by (own := [("_law_k", 3)]) (N := ["_law_pen_here", "_law_some", "_law_rare", "_law_k"]) (sc := defScope s_lfew) (by decide +kernel)) (fun _ _ _ _ _ => (pg_name (i := 3) sc_lfew.nd rfl (Or.inl rfl))) (fun _ _ _ _ _ => (pts_one (pt_cmpR (op_notIn_seqK (K := K) rfl) (pe_ix (ix_seqK (K := K) rfl) (pv 1) (pv 3) (fun _ _ => rfl)) (pe_slice (sl_listK (K := K) rfl) (pv 1) po_none (po_some (pv 3))) (by rfl)))) (fun _ _ _ _ _ => (pe_ix (ix_seqK (K := K) rfl) (pv 1) (pv 3) (fun _ _ => rfl))))))
      (pss_one (ps_ret (pe_cG c_lpick hg hr (by decide) pass0 (pa_cons (pv 0) (pa_cons (pe_lst (pa_cons pe_str (pa_cons pe_str (pa_cons pe_str (pa_cons pe_str (pa_cons pe_str (pa_cons pe_str (pa_cons pe_str (pa_cons pe_str (pa_cons pe_str (pa_cons (pv 2) pa_nil))))))))))) pa_nil))))))), ?_⟩
    refine ⟨_, rfl, p, pc, _, _, T0, rfl, .str _ (by rw [noq_len]; decide), opts_ne (by rw [noq_len]; decide), opts_le (by rw [noq_len]; decide), hpen, by omega, fun v1 H1 m1 P1 x1 => ?_⟩
    obtain ⟨c1, rfl, k1⟩ := ones_of m1
    refine ⟨_, rfl, p, pc, _, _, T0 + 1, rfl, .str _ (by decide), opts_ne (by decide), opts_le (by decide), P1, by omega, fun v2 H2 m2 P2 x2 => ?_⟩
    obtain ⟨c2, rfl, k2⟩ := ones_of m2
    refine ⟨_, rfl, p, pc, _, _, T0 + 2, rfl, .str _ (by decide), opts_ne (by decide), opts_le (by decide), P2, by omega, fun v3 H3 m3 P3 x3 => ?_⟩
    obtain ⟨c3, rfl, k3⟩ := ones_of m3
    refine ⟨by show 3 ≤ sizeLine; decide, fun a ha => ?_⟩
    have hin : ∀ c ∈ [c1, c2, c3], c ∈ letS.cps.toList := by
      intro c hc
      simp only [List.mem_cons, List.not_mem_nil, or_false] at hc
      rcases hc with rfl | rfl | rfl
      · exact noq_in k1
      · exact (by decide +kernel : ∀ c ∈ (Str.ofString "yz").cps.toList, c ∈ letS.cps.toList) _ k2
      · exact (by decide +kernel : ∀ c ∈ (Str.ofString "(\n").cps.toList, c ∈ letS.cps.toList) _ k3
    have P4 := P3.new (o := .lst ([c1, c2, c3].map OneS)) ha
    have x4 : Ext p H (upd H3 a (.lst ([c1, c2, c3].map OneS))) := (x1.trans (x2.trans x3)).trans (Ext.new ha)
    have ha4 : (upd H3 a (.lst ([c1, c2, c3].map OneS))) a = some (.lst ([c1, c2, c3].map OneS)) := upd_same
    generalize hxs : ([c1, c2, c3].map OneS : List V) = xs at ha4 P4 x4
    have hxl : xs.length = 3 := by rw [← hxs]; rfl
    have hxf : xs.all flatV = true := by rw [← hxs]; exact ones_flat _
    have hxm : ∀ v ∈ xs, ∃ c, v = OneS c ∧ c ∈ [c1, c2, c3] := by rw [← hxs]; exact fun v hv => one_mem hv
    have ha5 : (upd H3 a (.lst ([c1, c2, c3].map OneS))) = upd H3 a (.lst xs) := by rw [hxs]
    generalize hH4 : upd H3 a (.lst xs) = H4 at ha4 P4 x4 ha5
    refine ⟨⟨_, rfl⟩, ?_⟩
    show (iRng1 (tCons (tC (V.int 3)) tNil)) _ (upd H3 a (.lst ([c1, c2, c3].map OneS))) _
    rw [ha5]
    refine ⟨3, rfl, by decide, by decide, fun D hD => lc_range (lo := 0) (n := 3) (fun i H' => ∃ cs : List Nat, H' D = some (.lst (cs.map OneS)) ∧ cs.length ≤ i ∧ (1 ≤ i → 1 ≤ cs.length) ∧ (∀ c ∈ cs, c ∈ letS.cps.toList) ∧ Same H4 H') ?_ ?_ ?_⟩
    · exact ⟨[], upd_same, Nat.le_refl _, fun h => by omega, fun c hc => absurd hc List.not_mem_nil, same_new hD⟩
    · rintro i H5 hi ⟨cs, hDc, hcl, hc1, hcm, sm⟩
      obtain ⟨v, hv, hvm⟩ := at_mod (xs := xs) (i := 0 + (i : Int)) (by omega) (by rw [hxl]; omega)
      obtain ⟨c, rfl, hcc⟩ := hxm v hvm
      have sa : SqL K H5 a xs := sm.seq (SqL.of ha4)
      refine ⟨rfl, _, rfl, _, rfl, .inl ⟨a, xs, _, _, rfl, rfl, sa, hv, _, rfl, _, rfl, _, rfl, a, xs, rfl, sa, fun q hq => ⟨q, _, rfl, .inl (SqL.of upd_same), rfl, cutV_all hxf, _, rfl, ?_⟩⟩⟩
      have sq : Same H4 (upd H5 q (.lst (cutV xs none (some (0 + (i : Int)))))) := sm.trans (same_new hq)
      have dq := up_new (u := .lst (cutV xs none (some (0 + (i : Int))))) hDc hq
      refine ite2 (fun hb => ?_) (fun hb => ?_)
      · refine ⟨_, rfl, _, rfl, .inl ⟨a, xs, _, _, rfl, rfl, sq.seq (SqL.of ha4), hv, _, dq, by rw [List.length_map]; exact Nat.lt_of_le_of_lt hcl (Nat.lt_trans hi (by decide)), cs ++ [c], ?_, ?_, fun _ => ?_, ?_, ?_⟩⟩
        · rw [upd_same, List.map_append]
          rfl
        · rw [List.length_append]; exact Nat.add_le_add_right hcl 1
        · rw [List.length_append]; exact Nat.le_add_left _ _
        · intro d hd
          rcases List.mem_append.mp hd with hd | hd
          · exact hcm d hd
          · rw [List.mem_singleton.mp hd]
            exact hin c hcc
        · intro b o e
          by_cases hbD : b = D
          · rw [hbD, hD] at e
            cases e
          · exact (upd_ne hbD).trans (sq b o e)
      · refine ⟨cs, dq, Nat.le_succ_of_le hcl, fun _ => ?_, hcm, sq⟩
        by_cases h0 : i = 0
        · subst h0
          refine absurd ?_ hb
          show (if true = true then !inV (OneS c) (cutV xs none (some (0 + ((0 : Nat) : Int)))) else inV (OneS c) (cutV xs none (some (0 + ((0 : Nat) : Int))))) = true
          rw [show (0 : Int) + ((0 : Nat) : Int) = 0 from rfl, cutV_zero]
          rfl
        · exact hc1 (by omega)
    · rintro H5 ⟨cs, hDc, hcl, hc1, hcm, sm⟩
      refine ⟨_, D, cs.map fun c => ⟨#[c]⟩, rfl, rfl, .inl (SqL.of (by rw [ones_map]; exact hDc)), ?_, ?_⟩
      · rw [ones_len]
        show cs.length + _ * 0 ≤ _
        omega
      · rw [join_ones]
        have fz : Few ⟨cs.toArray⟩ := few_ones (hc1 (by decide)) hcl hcm
        have x5 : Ext p H H5 := x4.trans (Ext.same sm)
        have P5 := P4.stay sm
        refine ⟨_, rfl, _, rfl, by show 10 ≤ sizeLine; decide, fun q hq => ?_⟩
        refine ⟨p, pc, _, _, T0 + 3, rfl, .lst (SqL.of upd_same), by simp, by show 10 ≤ 1000; decide, P5.new hq, by omega, fun v H6 hm P6 x6 => ?_⟩
        have fin : ∃ z, v = .str z ∧ Few z := by
          simp only [List.mem_cons, List.not_mem_nil, or_false] at hm
          rcases hm with rfl | rfl | rfl | rfl | rfl | rfl | rfl | rfl | rfl | rfl
          all_goals first
            | exact ⟨_, rfl, fz⟩
            | exact ⟨_, rfl, few_of (by decide +kernel)⟩
        obtain ⟨z, rfl, hz⟩ := fin
        exact k z H6 hz P6 (x5.trans ((Ext.new hq).trans x6))

abbrev s_lword : Stmt := top 24
theorem sc_lword : FnScope ["_law_pen_here", "_law_signs_here", "_law_least", "_law_most_letters", "_law_many", "_law_k"] ["_law_pen_here", "_law_signs_here", "_law_least", "_law_most_letters"] (defScope s_lword) := ⟨rfl, rfl, rfl, by decide +kernel, rfl, by decide +kernel, by decide +kernel⟩
theorem b_lword {f : Addr} {fd : FuncData} (F : Fun K "_law_word" "_law_word" s_lword f fd) (T : Txt mg) (c_ldraw : CalG P w K mg base CX0 1 "_law_draw" spDraw) (c_lpick : CalG P w K mg base CX0 2 "_law_pick" (spPick K)) : FnG P w K mg base CX0 3 f fd ["_law_pen_here", "_law_signs_here", "_law_least", "_law_most_letters"] spWord := by
  refine okG0 F sc_lword (fun vs H Q E h => ?_) (fun cdv A outer s H vs Q E hg hr h => ?_)
  · obtain ⟨p, pc, z, a, b, T0, rfl, _⟩ := h
    rfl
  · have hu := hu_of hr
    have hu64 := hr.units
    obtain ⟨p, pc, z, a, b, T0, rfl, hab, hb, hz1, hz, hpen, hT, k⟩ := h
    have hr2 : Room 2 _ := hr
    refine ⟨_, (pss_cons (ps_set (i := 4) sc_lword.nd rfl (Or.inl rfl) (pe_op op_add (pv 2) (pe_cG c_ldraw hg hr (by decide) pass0 (pa_cons (pv 0) (pa_cons (pe_op op_add (pe_op op_sub (pv 3) (pv 2)) pe_int) pa_nil)))))
      (pss_one (ps_ret (pe_join pe_str (pe_lc (own := [("_law_k", 5)]) (g := gName 5) (tt := tYes) rfl sc_lword.nd (pi_range1 rfl T.range (pa_cons (pv 4) pa_nil)) (blkOk_by (own := [("_law_k", 5)]) (N := ["_law_pen_here", "_law_signs_here", "_law_least", "_law_most_letters", "_law_many", "_law_k"]) (sc := defScope s_lword) (by decide +kernel)) (fun _ _ _ _ _ => (pg_name (i := 5) sc_lword.nd rfl (Or.inl rfl))) (fun _ _ _ _ _ => pts_nil) (fun _ _ _ _ _ => (pe_cG c_lpick hg hr (by decide) pass0 (pa_cons (pv 0) (pa_cons (pv 1) pa_nil))))))))), ?_⟩
    refine ⟨_, rfl, _, rfl, _, rfl, _, rfl, _, _, rfl, rfl, _, _, rfl, rfl, p, pc, _, T0, rfl, by omega, by omega, hpen, by omega, fun d H1 d0 d1 P1 x1 => ?_⟩
    refine ⟨_, _, rfl, rfl, ⟨_, rfl⟩, ?_⟩
    obtain ⟨n, rfl⟩ : ∃ n : Nat, d = (n : Int) := ⟨d.toNat, by omega⟩
    refine ⟨_, rfl, _, rfl, by omega, by omega, fun D hD => ?_⟩
    have en : ((a : Int) + (n : Int)).toNat = a + n := by omega
    have hn : a + n ≤ b := by omega
    obtain ⟨nDp, nDc⟩ := P1.apart hD
    refine lc_range (lo := 0) (n := ((a : Int) + (n : Int)).toNat) (fun i H' => ∃ cs : List Nat, H' D = some (.lst (cs.map OneS)) ∧ cs.length = i ∧ (∀ c ∈ cs, c ∈ z.cps.toList) ∧ Pen H' p pc (T0 + 1 + i) ∧ Ext p H H') ?_ ?_ ?_
    · refine ⟨[], upd_same, rfl, fun c hc => absurd hc List.not_mem_nil, P1.new hD, x1.trans (Ext.new hD)⟩
    · rintro i H2 hi ⟨cs, hDc, hcl, hcm, P2, x2⟩
      rw [en] at hi
      refine ⟨rfl, _, rfl, _, rfl, p, pc, _, _, T0 + 1 + i, rfl, .str z hz, opts_ne hz1, opts_le hz, P2, by omega, fun v H3 hm P3 x3 => ?_⟩
      obtain ⟨c, rfl, hc⟩ := ones_of hm
      have d3 := P2.keepI x3 hDc
      refine ⟨_, d3, by rw [List.length_map, hcl]; exact Nat.lt_of_lt_of_le hi (Nat.le_trans hn (Nat.le_trans hb (by decide))), cs ++ [c], ?_, by rw [List.length_append, hcl]; rfl, ?_, ?_, ?_⟩
      · rw [upd_same, List.map_append]
        rfl
      · intro e he
        rcases List.mem_append.mp he with he | he
        · exact hcm e he
        · rw [List.mem_singleton.mp he]
          exact hc
      · exact P3.set nDp nDc
      · exact fun b o e hb => by
          rw [upd_ne (fun q => by rw [q, x1.none_of nDp hD] at e; cases e)]
          exact x3 b o (x2 b o e hb) hb
    · rintro H2 ⟨cs, hDc, hcl, hcm, P2, x2⟩
      refine ⟨_, D, cs.map fun c => ⟨#[c]⟩, rfl, rfl, .inl (SqL.of (by rw [ones_map]; exact hDc)), ?_, ?_⟩
      · rw [ones_len]
        show cs.length + _ * 0 ≤ _
        omega
      · rw [join_ones]
        rw [en] at hcl P2
        exact k _ H2 ⟨by show a ≤ cs.toArray.size; rw [List.size_toArray]; omega, by show cs.toArray.size ≤ b; rw [List.size_toArray]; omega, by simpa using hcm⟩ (P2.mono (by omega)) x2

theorem cut_upto (x : Str) (M : Nat) : (cutS x none (some (M : Int))).length ≤ M := by
  unfold cutS
  show (List.toArray _).size ≤ M
  rw [List.size_toArray, HT.sIx_nat, HT.sIx_none]
  refine Nat.le_trans (List.length_take_le _ _) ?_
  have := Nat.min_le_left M x.length
  omega
def spNtext : Sp := fun vs H Q _ => ∃ p c z M T, vs = [.ref p, .str z, .int (M : Nat)] ∧ Few z ∧ M ≤ 100 ∧ Pen H p c T ∧ T + 1000 < 1000000000 ∧ ∀ (x : Str) (H' : Hp), x.length ≤ M → Ltr x → Pen H' p c (T + 100) → Ext p H H' → Q (.str x) H'
abbrev s_lntext : Stmt := top 26
theorem sc_lntext : FnScope ["_law_pen_here", "_law_signs_here", "_law_most_letters", "_law_some", "_law_found", "_law_k"] ["_law_pen_here", "_law_signs_here", "_law_most_letters"] (defScope s_lntext) := ⟨rfl, rfl, rfl, by decide +kernel, rfl, by decide +kernel, by decide +kernel⟩
theorem b_lntext {f : Addr} {fd : FuncData} (F : Fun K "_law_ntext" "_law_ntext" s_lntext f fd) (T : Txt mg) (c_ldraw : CalG P w K mg base CX0 1 "_law_draw" spDraw) (c_lpick : CalG P w K mg base CX0 2 "_law_pick" (spPick K)) (c_lword : CalG P w K mg base CX0 3 "_law_word" spWord) : FnG P w K mg base CX0 4 f fd ["_law_pen_here", "_law_signs_here", "_law_most_letters"] spNtext := by
  refine okG0 F sc_lntext (fun vs H Q E h => ?_) (fun cdv A outer s H vs Q E hg hr h => ?_)
  · obtain ⟨p, pc, z, M, T0, rfl, _⟩ := h
    rfl
  · have hu := hu_of hr
    have hu64 := hr.units
    obtain ⟨p, pc, z, M, T0, rfl, fz, hM, hpen, hT, k⟩ := h
    have hr3 : Room 3 _ := hr
    have z100 : z.length ≤ 1000 := Nat.le_trans fz.2.1 (by decide)
    refine ⟨_, (pss_cons (ps_par (i := 3) (j := 4) (by rfl) sc_lntext.nd rfl rfl (by decide) rfl rfl (pa_cons (pe_lst (pa_cons (pe_cG c_lword hg hr (by decide) pass0 (pa_cons (pv 0) (pa_cons (pv 1) (pa_cons pe_int (pa_cons pe_int pa_nil))))) (pa_cons (pe_cG c_lword hg hr (by decide) pass0 (pa_cons (pv 0) (pa_cons (pv 1) (pa_cons pe_int (pa_cons pe_int pa_nil))))) pa_nil))) (pa_cons pe_str pa_nil)) (by rfl))
      (pss_cons (ps_for PassesOwn.never rfl (pi_range1 rfl T.range (pa_cons (pe_cG c_ldraw hg hr (by decide) pass0 (pa_cons (pv 0) (pa_cons pe_int pa_nil))) pa_nil)) (pg_name (i := 5) sc_lntext.nd rfl (Or.inl rfl)) (pss_one (ps_set (i := 4) sc_lntext.nd rfl (Or.inl rfl) (pe_op op_add_str (pv 4) (pe_cG c_lpick hg hr (by decide) pass0 (pa_cons (pv 0) (pa_cons (pe_op op_cat (pv 3) (pe_lst (pa_cons (pe_cG c_lpick hg hr (by decide) pass0 (pa_cons (pv 0) (pa_cons (pv 1) pa_nil))) pa_nil))) pa_nil)))))))
      (pss_one (ps_ret (pe_slice sl_str (pv 4) po_none (po_some (pv 2))))))), ?_⟩
    refine ⟨_, rfl, _, rfl, p, pc, z, 1, 4, T0, rfl, by decide, by decide, fz.1, z100, hpen, by omega, fun w1 H1 g1 P1 x1 => ?_⟩
    refine ⟨_, rfl, _, rfl, p, pc, z, 1, 3, _, rfl, by decide, by decide, fz.1, z100, P1, by omega, fun w2 H2 g2 P2 x2 => ?_⟩
    refine ⟨by show 2 ≤ sizeLine; decide, fun b hb => ?_⟩
    have sb := same_new (o := .lst [.str w1, .str w2]) hb
    have P3 := P2.stay sb
    have x3 : Ext p H _ := (x1.trans x2).trans (Ext.same sb)
    refine ⟨_, _, rfl, _, rfl, p, pc, 9, _, rfl, by decide, by decide, P3, by omega, fun n H4 n0 n1 P4 x4 => ?_⟩
    have hb4 := P3.keepI x4 upd_same
    refine ⟨_, rfl, by omega, by omega, ?_⟩
    refine for_range (lo := 0) (n := n.toNat) (fun i σ H' => ∃ (o5 : Option V) (f : Str), σ = [some (.ref p), some (.str z), some (.int (M : Nat)), some (.ref b), some (.str f), o5] ∧ (f.length ≤ 100 * i ∧ Ltr f) ∧ Pen H' p pc (T0 + 20 + 2 * i) ∧ Ext p H H' ∧ H' b = some (.lst [.str w1, .str w2])) ?_ ?_ ?_
    · exact ⟨_, "", rfl, ⟨by show 0 ≤ _; omega, lt_none⟩, P4.mono (by omega), x3.trans x4, hb4⟩
    · rintro i σ H5 hi ⟨o5, f, rfl, hf, P5, x5, hb5⟩
      have hf1 := hf.1
      refine ⟨_, rfl, _, rfl, _, rfl, _, rfl, _, rfl, p, pc, _, _, _, rfl, .str z z100, opts_ne fz.1, opts_le z100, P5, by omega, fun v H6 hv P6 x6 => ?_⟩
      obtain ⟨cv, rfl, hcv⟩ := ones_of hv
      have hb6 := P5.keepI x6 hb5
      refine ⟨by show 1 ≤ sizeLine; decide, fun q hq => ?_⟩
      have sq := same_new (o := .lst [OneS cv]) hq
      refine ⟨b, q, _, _, rfl, rfl, sq _ _ hb6, upd_same, by show 3 ≤ sizeLine; decide, fun q2 hq2 => ?_⟩
      have sq2 := same_new (o := .lst [.str w1, .str w2, OneS cv]) hq2
      have P7 := (P6.stay sq).stay sq2
      refine ⟨p, pc, _, _, _, rfl, .lst (SqL.of upd_same), (fun z => by cases z), by show 3 ≤ 1000; decide, P7, by omega, fun v H8 hv2 P8 x8 => ?_⟩
      have hb8 := P7.keepI x8 (sq2 _ _ (sq _ _ hb6))
      have ev : ∃ y : Str, v = .str y ∧ y.length ≤ 100 ∧ Ltr y := by
        simp only [List.mem_append, List.mem_cons, List.not_mem_nil, or_false] at hv2
        rcases hv2 with (rfl | rfl) | rfl
        · exact ⟨w1, rfl, Nat.le_trans g1.2.1 (by decide), lt_word fz g1⟩
        · exact ⟨w2, rfl, Nat.le_trans g2.2.1 (by decide), lt_word fz g2⟩
        · exact ⟨_, rfl, by show 1 ≤ 100; decide, lt_one fz hcv⟩
      obtain ⟨y, rfl, hy, oy⟩ := ev
      refine ⟨_, _, rfl, rfl, Nat.le_of_lt (fewL (by omega)), _, f ++ y, rfl, ⟨?_, lt_more hf.2 oy⟩, P8.mono (by omega), (x5.trans x6).trans (((Ext.same sq).trans (Ext.same sq2)).trans x8), hb8⟩
      rw [strLen_append]
      omega
    · rintro σ H5 ⟨o5, f, rfl, hf, P5, x5, hb5⟩
      have hf1 := hf.1
      refine ⟨_, rfl, _, rfl, _, rfl, f, rfl, Nat.le_of_lt (fewL (by have : n.toNat ≤ 9 := by omega
                                                                     omega)), k _ _ (cut_upto f M) (cutS_lt hf.2 _ _) (P5.mono (by omega)) x5⟩

end
end Vk
set_option Elab.async false
set_option maxRecDepth 100000
set_option linter.all false
set_option maxHeartbeats 4000000
namespace Vk
open PySem PySem.Spec PyProof.Rows L2
section
variable {P : Program} {w : World} {K : PySem.W.Frag} {mg : Str → Option Value} {base : Heap}
theorem nuMin2_nat (a b : Nat) : nuMin2 (.int (a : Nat)) (.int (b : Nat)) = some (.int ((min a b : Nat) : Int)) := by
  show (some (decide ((b : Int) < (a : Int)))).map (fun c => if c = true then V.int (b : Nat) else V.int (a : Nat)) = _
  by_cases h : b < a
  · rw [decide_eq_true (show (b : Int) < (a : Int) by omega), show min a b = b by omega]; rfl
  · rw [decide_eq_false (show ¬ (b : Int) < (a : Int) by omega), show min a b = a by omega]; rfl
theorem nuMin3_nat (a b c : Nat) : nuMin3 (.int (a : Nat)) (.int (b : Nat)) (.int (c : Nat)) = some (.int ((min (min a b) c : Nat) : Int)) := by
  show (nuMin2 (.int (a : Nat)) (.int (b : Nat))).bind (fun m => nuMin2 m (.int (c : Nat))) = _
  rw [nuMin2_nat]
  exact nuMin2_nat _ _
/-- a row of distances -/
def rowN (l r : Str) (k n : Nat) : List V := (List.range n).map fun j => V.int (edD (ltr l) (ltr r) k j : Nat)
theorem rowN_len {l r : Str} {k n : Nat} : (rowN l r k n).length = n := by unfold rowN; rw [List.length_map, List.length_range]
theorem rowN_at {l r : Str} {k n j : Nat} (h : j < n) : (rowN l r k n)[j]? = some (.int (edD (ltr l) (ltr r) k j : Nat)) := by
  unfold rowN
  rw [List.getElem?_map, List.getElem?_range h]
  rfl
theorem rowN_snoc {l r : Str} {k n : Nat} : rowN l r k n ++ [.int (edD (ltr l) (ltr r) k n : Nat)] = rowN l r k (n + 1) := by
  unfold rowN
  rw [List.range_succ, List.map_append]
  rfl
theorem row_0 {l r : Str} {n : Nat} : rgV 0 ((n : Nat) : Int) = rowN l r 0 n := by
  unfold rgV rowN
  rw [show (((n : Nat) : Int) - 0).toNat = n by omega]
  refine List.map_congr_left fun j _ => ?_
  rw [edD_0, Int.zero_add]
def RowL (H : Hp) (l r : Str) : List V → List Nat → Prop := Paired (fun v k => ∃ t, v = V.ref t ∧ H t = some (.lst (rowN l r k (r.length + 1))))
theorem RowL.keep {H H1 : Hp} {l r : Str} {xs : List V} {ks : List Nat} (h : RowL H l r xs ks) (s : Same H H1) : RowL H1 l r xs ks := pair_mono (fun v p ⟨t, e, ht⟩ => ⟨t, e, s _ _ ht⟩) h
theorem RowL.upd {H : Hp} {l r : Str} {a : Addr} {o : HO} : ∀ {xs : List V} {ks : List Nat}, RowL H l r xs ks → (∀ v ∈ xs, v ≠ V.ref a) → RowL (upd H a o) l r xs ks
  | _, _, .nil, _ => .nil
  | _, _, .cons b t, h => .cons (by
      obtain ⟨u, e, hu⟩ := b
      refine ⟨u, e, ?_⟩
      rw [upd_ne (fun z => h _ List.mem_cons_self (by rw [e, z]))]
      exact hu) (RowL.upd t fun v hv => h v (List.mem_cons_of_mem _ hv))
def spRows : Sp := fun vs H Q _ => ∃ l r, vs = [.str l, .str r] ∧ l.length ≤ 200 ∧ r.length ≤ 200 ∧ ∀ a refs H', H a = none → H' a = some (.lst refs) → RowL H' l r refs (List.range (l.length + 1)) → Same H H' → Q (.ref a) H'
def spApart : Sp := fun vs H Q _ => ∃ l r, vs = [.str l, .str r] ∧ l.length ≤ 200 ∧ r.length ≤ 200 ∧ ∀ H', Same H H' → Q (.int (edD (ltr l) (ltr r) l.length r.length : Nat)) H'
abbrev s_lnrows : Stmt := top 28
theorem sc_lnrows : FnScope ["_law_left", "_law_right", "_law_rows", "_law_k", "_law_row", "_law_j", "_law_here"] ["_law_left", "_law_right"] (defScope s_lnrows) := ⟨rfl, rfl, rfl, by decide +kernel, rfl, by decide +kernel, by decide +kernel⟩
theorem b_lnrows {f : Addr} {fd : FuncData} (F : Fun K "_law_nrows" "_law_nrows" s_lnrows f fd) (T : Txt mg) : FnG P w K mg base CX0 1 f fd ["_law_left", "_law_right"] spRows := by
  refine okG0 F sc_lnrows (fun vs H Q E h => ?_) (fun cdv A outer s H vs Q E hg hr h => ?_)
  · obtain ⟨l, r, rfl, _⟩ := h
    rfl
  · have hu := hu_of hr
    have hu64 := hr.units
    obtain ⟨l, r, rfl, hl, hr0, k⟩ := h
    have ll : l.length ≤ sizeLine := Nat.le_trans hl (by decide)
    have rl : r.length ≤ sizeLine := Nat.le_trans hr0 (by decide)
    refine ⟨_, (pss_cons (ps_set (i := 2) sc_lnrows.nd rfl (Or.inl rfl) (pe_lst (pa_cons (pe_listRg rfl (by rfl) T.list (prg_1 (by rfl) T.range (pe_op op_add (pe_callB call_len (by rfl) T.len (by decide +kernel) (pa_cons (pv 1) pa_nil)) pe_int))) pa_nil)))
      (pss_cons (ps_for PassesOwn.never rfl (pi_range1 rfl T.range (pa_cons (pe_callB call_len (by rfl) T.len (by decide +kernel) (pa_cons (pv 0) pa_nil)) pa_nil)) (pg_name (i := 3) sc_lnrows.nd rfl (Or.inl rfl)) (pss_cons (ps_set (i := 4) sc_lnrows.nd rfl (Or.inl rfl) (pe_lst (pa_cons (pe_op op_add (pv 3) pe_int) pa_nil)))
      (pss_cons (ps_for PassesOwn.never rfl (pi_range1 rfl T.range (pa_cons (pe_callB call_len (by rfl) T.len (by decide +kernel) (pa_cons (pv 1) pa_nil)) pa_nil)) (pg_name (i := 5) sc_lnrows.nd rfl (Or.inl rfl)) (pss_cons (ps_set (i := 6) sc_lnrows.nd rfl (Or.inl rfl) (pe_op op_add (pe_ix ix_list (pe_ix ix_list (pv 2) (pv 3) (fun _ _ => rfl)) (pv 5) (fun _ _ => rfl)) (pe_callTy call_int1 (by rfl) T.int (by decide +kernel) (pa_cons (pe_cmpR op_ne (pe_ix ix_seq (pv 0) (pv 3) (fun _ _ => rfl)) (pe_ix ix_seq (pv 1) (pv 5) (fun _ _ => rfl)) (nomark _)) pa_nil))))
      (pss_one (ps_expr (pe_bm PySem.F.plainAttrs_list PySem.F.slot_list_append PySem.F.type_list_append mt_append (pv 4) (pa_cons (pe_callB (call_min3Nu rfl) (by rfl) T.min (by decide +kernel) (pa_cons (pv 6) (pa_cons (pe_op op_add (pe_ix ix_list (pe_ix ix_list (pv 2) (pv 3) (fun _ _ => rfl)) (pe_op op_add (pv 5) pe_int) (fun _ _ => rfl)) pe_int) (pa_cons (pe_op op_add (pe_ix ix_list (pv 4) (pv 5) (fun _ _ => rfl)) pe_int) pa_nil)))) pa_nil))))))
      (pss_one (ps_expr (pe_bm PySem.F.plainAttrs_list PySem.F.slot_list_append PySem.F.type_list_append mt_append (pv 2) (pa_cons (pv 4) pa_nil)))))))
      (pss_one (ps_ret (pv 2))))), ?_⟩
    refine ⟨_, rfl, _, _, rfl, ⟨rl, rfl⟩, _, _, rfl, rfl, _, rfl, ⟨by decide, by decide, by omega, by omega, by omega⟩, fun t0 ht0 => ?_⟩
    have en : ((r.length : Nat) : Int) + 1 = ((r.length + 1 : Nat) : Int) := by omega
    rw [en, row_0 (l := l) (r := r)]
    have st0 := same_new (o := .lst (rowN l r 0 (r.length + 1))) ht0
    refine ⟨by show 1 ≤ sizeLine; decide, fun a ha => ?_⟩
    have sa := same_new (o := .lst [.ref t0]) ha
    have haH := none_up st0 ha
    refine ⟨_, rfl, _, _, rfl, ⟨ll, rfl⟩, _, rfl, by omega, by omega, ?_⟩
    refine for_range (lo := 0) (n := ((l.length : Nat) : Int).toNat) (fun i σ H2 => ∃ (o3 o4 o5 o6 : Option V) (refs : List V), σ = [some (.str l), some (.str r), some (.ref a), o3, o4, o5, o6] ∧ H2 a = some (.lst refs) ∧ RowL H2 l r refs (List.range (i + 1)) ∧ Same H H2 ∧ ∀ v ∈ refs, v ≠ V.ref a) ?_ ?_ ?_
    · exact ⟨_, _, _, _, [.ref t0], rfl, upd_same, .cons ⟨t0, rfl, sa _ _ upd_same⟩ .nil, st0.trans sa, fun v hv e => by
        rw [List.mem_singleton.mp hv] at e
        cases e
        rw [upd_same] at ha
        cases ha⟩
    · rintro i σ H2 hi ⟨o3, o4, o5, o6, refs, rfl, ha2, rw2, s2, hne⟩
      have hi1 : i < l.length := by omega
      have gl := paired_len rw2
      rw [List.length_range] at gl
      rw [Int.zero_add]
      refine ⟨_, rfl, _, _, rfl, rfl, by show 1 ≤ sizeLine; decide, fun q hq => ?_⟩
      have sq := same_new (o := .lst [.int ((i : Int) + 1)]) hq
      have e0 : [V.int ((i : Int) + 1)] = rowN l r (i + 1) (0 + 1) := by
        unfold rowN
        show _ = [V.int (edD (ltr l) (ltr r) (i + 1) 0 : Nat)]
        rw [edD_s0]
        rfl
      rw [e0] at sq ⊢
      refine ⟨_, rfl, _, _, rfl, ⟨rl, rfl⟩, _, rfl, by omega, by omega, ?_⟩
      have hqH := none_up s2 hq
      obtain ⟨v, hv⟩ : ∃ v, refs[i]? = some v := ⟨refs[i]'(by omega), List.getElem?_eq_getElem (by omega)⟩
      obtain ⟨i', hi', t, rfl, ht⟩ := paired_at rw2 hv
      have ei : i' = i := by
        rw [List.getElem?_range (by omega)] at hi'
        exact (Option.some.inj hi').symm
      subst ei
      refine for_range (lo := 0) (n := ((r.length : Nat) : Int).toNat) (fun j σ H3 => ∃ (o5 o6 : Option V), σ = [some (.str l), some (.str r), some (.ref a), some (.int (i' : Nat)), some (.ref q), o5, o6] ∧ H3 q = some (.lst (rowN l r (i' + 1) (j + 1))) ∧ Same H2 H3) ?_ ?_ ?_
      · exact ⟨_, _, rfl, upd_same, sq⟩
      · rintro j σ H3 hj ⟨o5, o6, rfl, hq3, s3⟩
        have hj1 : j < r.length := by omega
        rw [Int.zero_add]
        have ta : atI (rowN l r i' (r.length + 1)) ((j : Nat) : Int) = _ := atI_nat (rowN_at (by omega))
        have tb : atI (rowN l r i' (r.length + 1)) ((j : Nat) + 1 : Int) = _ := atI_nat (j := j + 1) (rowN_at (by omega))
        have tc : atI (rowN l r (i' + 1) (j + 1)) ((j : Nat) : Int) = _ := atI_nat (rowN_at (by omega))
        refine ⟨_, rfl, _, rfl, a, _, _, _, rfl, rfl, SqL.of (s3 _ _ ha2), atI_nat hv, _, rfl, t, _, _, _, rfl, rfl, SqL.of (s3 _ _ ht), ta, ?_⟩
        refine ⟨_, rfl, _, rfl, .inr (.inr ⟨l, _, _, rfl, rfl, ll, at_ltr hi1, ?_⟩)⟩
        refine ⟨_, rfl, _, rfl, .inr (.inr ⟨r, _, _, rfl, rfl, rl, at_ltr hj1, ?_⟩)⟩
        refine ⟨rfl, .inr ⟨_, rfl, ?_⟩⟩
        have ed := edD_ss (A := ltr l) (B := ltr r) (i := i') (j := j)
        generalize hx1 : edD (ltr l) (ltr r) i' j = e1 at ta ed ⊢
        generalize hx2 : edD (ltr l) (ltr r) i' (j + 1) = e2 at tb ed ⊢
        generalize hx3 : edD (ltr l) (ltr r) (i' + 1) j = e3 at tc ed ⊢
        have en3 : ((e1 : Nat) : Int) + (if (!decide (V.str ⟨#[ltr l i']⟩ = V.str ⟨#[ltr r j]⟩)) = true then 1 else 0) = ((e1 + neq (ltr l i') (ltr r j) : Nat) : Int) := by
          have q := ones_eq (ltr l i') (ltr r j)
          rw [show decide (V.str ⟨#[ltr l i']⟩ = V.str ⟨#[ltr r j]⟩) = decide (ltr l i' = ltr r j) from q]
          unfold neq
          by_cases h : ltr l i' = ltr r j
          · rw [decide_eq_true h, if_pos h]; simp
          · rw [decide_eq_false h, if_neg h]; simp
        have q3 : nuMin3 (.int (((e1 : Nat) : Int) + (if (!decide (V.str ⟨#[ltr l i']⟩ = V.str ⟨#[ltr r j]⟩)) = true then 1 else 0))) (.int ((e2 : Nat) + 1)) (.int ((e3 : Nat) + 1)) = some (.int ((min (min (e1 + neq (ltr l i') (ltr r j)) (e2 + 1)) (e3 + 1) : Nat) : Int)) := by
          rw [en3]
          exact nuMin3_nat _ (e2 + 1) (e3 + 1)
        refine ⟨_, _, rfl, rfl, ?_⟩
        refine ⟨_, rfl, .inl ⟨rfl, _, SqL.of hq3⟩, _, rfl, _, rfl, _, rfl, a, _, _, _, rfl, rfl, SqL.of (s3 _ _ ha2), atI_nat hv, _, rfl, _, _, rfl, rfl, t, _, _, _, rfl, rfl, SqL.of (s3 _ _ ht), tb, _, _, rfl, rfl, ?_⟩
        refine ⟨_, rfl, _, rfl, q, _, _, _, rfl, rfl, SqL.of hq3, tc, _, _, rfl, rfl, _, _, _, _, rfl, q3, ?_⟩
        refine ⟨q, _, _, rfl, rfl, hq3, fewL (by rw [rowN_len]; omega), _, _, rfl, ?_, upd_out hq s3⟩
        rw [upd_same, ← ed, rowN_snoc]
      · rintro σ H3 ⟨o5, o6, rfl, hq3, s3⟩
        rw [Int.toNat_natCast] at hq3
        have ha3 := s3 _ _ ha2
        refine ⟨_, rfl, .inl ⟨rfl, _, SqL.of ha3⟩, _, rfl, a, _, _, rfl, rfl, ha3, fewL (by omega), _, _, _, _, refs ++ [.ref q], rfl, upd_same, ?_, upd_out haH (s2.trans s3), ?_⟩
        · have nqa : q ≠ a := fun e => by rw [e, ha2] at hq; cases hq
          rw [List.range_succ (n := i' + 1)]
          refine Paired.snoc ((rw2.keep s3).upd hne) ⟨q, rfl, ?_⟩
          rw [upd_ne nqa]
          exact hq3
        · intro v hv e
          rcases List.mem_append.mp hv with hv | hv
          · exact hne v hv e
          · rw [List.mem_singleton.mp hv] at e
            cases e
            rw [ha2] at hq
            cases hq
    · rintro σ H2 ⟨o3, o4, o5, o6, refs, rfl, ha2, rw2, s2, hne⟩
      rw [Int.toNat_natCast] at rw2
      exact ⟨_, rfl, k a refs H2 haH ha2 rw2 s2⟩

abbrev s_lnapart : Stmt := top 29
theorem sc_lnapart : FnScope ["_law_left", "_law_right"] ["_law_left", "_law_right"] (defScope s_lnapart) := ⟨rfl, rfl, rfl, by decide +kernel, rfl, by decide +kernel, by decide +kernel⟩
theorem b_lnapart {f : Addr} {fd : FuncData} (F : Fun K "_law_napart" "_law_napart" s_lnapart f fd) (T : Txt mg) (c_lnrows : CalG P w K mg base CX0 1 "_law_nrows" spRows) : FnG P w K mg base CX0 2 f fd ["_law_left", "_law_right"] spApart := by
  refine okG0 F sc_lnapart (fun vs H Q E h => ?_) (fun cdv A outer s H vs Q E hg hr h => ?_)
  · obtain ⟨l, r, rfl, _⟩ := h
    rfl
  · have hu := hu_of hr
    have hu64 := hr.units
    obtain ⟨l, r, rfl, hl, hr0, k⟩ := h
    have hr1 : Room 1 _ := hr
    refine ⟨_, (pss_one (ps_ret (pe_ix ix_list (pe_ix ix_list (pe_cG c_lnrows hg hr (by decide) pass0 (pa_cons (pv 0) (pa_cons (pv 1) pa_nil))) (pe_un un_neg pe_int) (fun _ _ => rfl)) (pe_un un_neg pe_int) (fun _ _ => rfl)))), ?_⟩
    refine ⟨_, rfl, _, rfl, l, r, rfl, hl, hr0, fun a refs H1 ha ha1 rw1 s1 => ?_⟩
    have gl := paired_len rw1
    rw [List.length_range] at gl
    obtain ⟨v, hv⟩ : ∃ v, refs[l.length]? = some v := ⟨refs[l.length]'(by omega), List.getElem?_eq_getElem (by omega)⟩
    obtain ⟨i', hi', t, rfl, ht⟩ := paired_at rw1 hv
    have ei : i' = l.length := by
      rw [List.getElem?_range (by omega)] at hi'
      exact (Option.some.inj hi').symm
    subst ei
    refine ⟨_, rfl, a, _, _, _, rfl, rfl, SqL.of ha1, atI_end hv (by omega), _, rfl, t, _, _, _, rfl, rfl, SqL.of ht, atI_end (rowN_at (j := r.length) (by omega)) rowN_len, ?_⟩
    exact k _ s1

end
end Vk
set_option Elab.async false
set_option maxRecDepth 100000
set_option maxHeartbeats 4000000
set_option linter.all false
namespace Vk
open PySem PySem.Spec PyProof.Rows L2
/-! ## x[::-1], x a text -/
end Vk
set_option Elab.async false
set_option maxRecDepth 100000
set_option maxHeartbeats 4000000
set_option linter.all false
namespace Vk
open L2 PySem PySem.Spec PyProof.Rows PySem.VkX LamX NdefX
/-! ## a lambda of one parameter that raises nothing -/
structure LamK1 (P : Program) (w : World) (K : PySem.W.Frag) (mg : Str → Option Value) (base : Heap) (k : Nat) (F : LF) (sp : V → Hp → VK → Prop) : Prop where
  run : ∀ (A : Around) (outer : List Env) (s : Shared) (H : Hp) (f : Addr) (v : V) (u : Value) (Q : VK), A.guards = some [] → Room k A → Env0 P w K mg base A outer s H → H f = some (LamO f F) → H F.c = some (CodeO F.c F.qual) → L2.RelV v u → sp v H Q →
    codeAny (model P w) A (.call (.ref f) ⟨[u], []⟩) (CR CX0 outer P w H s Q E0) s
section
variable {P : Program} {w : World} {K : PySem.W.Frag} {mg : Str → Option Value} {base : Heap} {N : List Str} {F : LF} {k : Nat} {sp : V → Hp → VK → Prop} {p : Str}
end
/-! ## the first of those whose number is least -/
/-! ## min(xs, key=f) -/
end Vk
set_option Elab.async false
set_option maxRecDepth 100000
set_option maxHeartbeats 4000000
set_option linter.all false
namespace Vk
open L2 PySem PySem.Spec PyProof.Rows
/-! ## min of a list of tuples -/
theorem dpAll_len {K : PySem.W.Frag} {H : Hp} : ∀ {xs : List V} {ds : List PyData}, DpAll K H xs ds → xs.length = ds.length
  | _, _, .nil => rfl
  | _, _, .cons _ t => congrArg (· + 1) (dpAll_len t)
end Vk
set_option Elab.async false
set_option maxRecDepth 100000
set_option maxHeartbeats 4000000
set_option linter.all false
namespace Vk
open L2 PySem PySem.Spec PyProof.Rows
/-! ## max of a list of tuples, by a number that goes with their order -/
theorem argBest_top {bt : Nat → Nat → Bool} {g : Nat → Int} : ∀ m, (∀ i j, i ≤ m → j ≤ m → bt i j = true → g j ≤ g i) → (∀ i j, i ≤ m → j ≤ m → bt i j = false → g i ≤ g j) → argBest bt m ≤ m ∧ ∀ i, i ≤ m → g i ≤ g (argBest bt m)
  | 0, _, _ => ⟨Nat.le_refl _, fun i hi => by rw [Nat.le_zero.mp hi]; exact Int.le_refl _⟩
  | m + 1, h1, h2 => by
    obtain ⟨a, b⟩ := argBest_top m (fun i j hi hj => h1 i j (by omega) (by omega)) (fun i j hi hj => h2 i j (by omega) (by omega))
    rw [argBest]
    cases c : bt (m + 1) (argBest bt m) with
    | true =>
      have := h1 _ _ (Nat.le_refl _) (by omega) c
      refine ⟨Nat.le_refl _, fun i hi => ?_⟩
      by_cases e : i = m + 1
      · rw [e]; exact Int.le_refl _
      · exact Int.le_trans (b i (by omega)) this
    | false =>
      have := h2 _ _ (Nat.le_refl _) (by omega) c
      refine ⟨Nat.le_succ_of_le a, fun i hi => ?_⟩
      by_cases e : i = m + 1
      · rw [e]; exact this
      · exact b i (by omega)
def rMaxD (K : PySem.W.Frag) : List V → Hp → VK → Prop := fun vs H Q => ∃ (a : Addr) (xs : List V) (ds : List PyData) (g : Nat → Int), vs = [V.ref a] ∧ SqL K H a xs ∧ DpAll K H xs ds ∧ PySem.W.AlikeAll ds ∧ PyData.depthAll ds ≤ 20 ∧ 0 < ds.length ∧
  (∀ i j, i < ds.length → j < ds.length → (PySem.W.dataLt (ds.getD j .none) (ds.getD i .none) = true → g j ≤ g i) ∧ (PySem.W.dataLt (ds.getD j .none) (ds.getD i .none) = false → g i ≤ g j)) ∧ ∀ (i : Nat) v, xs[i]? = some v → (∀ j, j < ds.length → g j ≤ g i) → Q v H
theorem cr_maxD {X : Cx} (hca : X.calm = true) (hu : X.A.units + 64 < cLine) : CallR X (.builtin "max") (rMaxD X.K) := by
  intro pins s σ H vs us Q I r h
  obtain ⟨a, xs, ds, g, rfl, hS, hd, ha, hdep, hpos, hlt, hQ⟩ := h
  obtain ⟨u, rfl, ru⟩ := r.one
  cases ru
  obtain ⟨its, rv, pl, _⟩ := I.list hS
  have rlen := rv.length
  have dlen := dpAll_len hd
  obtain ⟨as, hr⟩ := Dp.readsAll I ds xs its hd rv
  have hr2 : ReadsAll s.heap its.toArray.toList ds as := by simpa using hr
  refine call_max_walkH (PySem.W.iter_listW (A := X.A.in1) (I.ok.hd hca) pl.isList fun s2 e W st hfp hw hk => ?_)
  have hn : 0 < its.toArray.size := by rw [List.size_toArray]; omega
  refine ⟨_, _, _, _, _, _, _, s.heap, _, rfl, W, st, hfp, hn, hw, hk, PySem.W.cmpIn_gt (A := X.A.in1) hr2 ha (by show X.A.units + 1 + _ < _; omega), fun v s' hP m => ?_⟩
  obtain ⟨h', tk, rfl, hk'⟩ := PySem.W.moved_old e rfl m
  have I2 : Inv X pins σ H { s with heap := h', toks := tk } := I.kept hk'
  have es : its.toArray.size - 1 = ds.length - 1 := by rw [List.size_toArray]; omega
  rw [es] at hP
  obtain ⟨le, a2⟩ := argBest_top (g := g) (bt := fun i j => PySem.W.dataLt (ds.getD j .none) (ds.getD i .none)) (ds.length - 1) (fun i j hi hj => (hlt i j (by omega) (by omega)).1) (fun i j hi hj => (hlt i j (by omega) (by omega)).2)
  generalize argBest (fun i j => PySem.W.dataLt (ds.getD j .none) (ds.getD i .none)) (ds.length - 1) = m0 at hP a2 le
  have hml : m0 < xs.length := by omega
  obtain ⟨u, hu, ru⟩ := rv.get (List.getElem?_eq_getElem hml)
  have eu : u = v := by
    rw [List.getElem?_toArray] at hP
    exact Option.some.inj (hu.symm.trans hP)
  subst eu
  exact ⟨xs[m0], H, I2, ru, hQ m0 _ (List.getElem?_eq_getElem hml) fun j hj => a2 j (by omega)⟩
/-- pairs of a number and a text -/
def nsD (p : Int × Str) : PyData := .tuple [.int p.1, .str p.2]
theorem ns_lt {p q : Int × Str} : (PySem.W.dataLt (nsD p) (nsD q) = true → p.1 ≤ q.1) ∧ (PySem.W.dataLt (nsD p) (nsD q) = false → q.1 ≤ p.1) := by
  obtain ⟨a, w⟩ := p
  obtain ⟨b, z⟩ := q
  by_cases e : a = b
  · subst e
    exact ⟨fun _ => Int.le_refl _, fun _ => Int.le_refl _⟩
  · have one : ∀ x y : Int, PyProof.Rows.lexLt itemOrd [Sum.inl x] [Sum.inl y] = decide (x < y) := fun x y => by
      show (decide (x < y) || (!decide (y < x) && false)) = _
      simp
    have q : PySem.W.dataLt (nsD (a, w)) (nsD (b, z)) = decide (a < b) := by
      unfold PySem.W.dataLt nsD
      simp only [PySem.W.keyToks, PySem.W.keyToksAll, List.cons_append, List.nil_append, List.append_nil]
      refine (PySem.W.lex_pre [Sum.inl 1] (Sum.inl a :: _) (Sum.inl b :: _)).trans ?_
      rw [PySem.W.lex_atom (fun z => e (Sum.inl.inj z)), one]
    rw [q]
    refine ⟨fun h => ?_, fun h => ?_⟩
    · have := of_decide_eq_true h
      show a ≤ b
      omega
    · have := of_decide_eq_false h
      show b ≤ a
      omega
end Vk
set_option Elab.async false
set_option maxRecDepth 100000
set_option maxHeartbeats 4000000
set_option linter.all false
namespace Vk
open L2 PySem PySem.Spec PyProof.Rows PySem.VkX
/-! ## several except clauses, two classes in one among them -/
inductive Cly
  | only (c : Value) (ts : Sui)
  | named (c : Value) (i : Nat) (ts : Sui)
  | pair (c1 c2 : Value) (ts : Sui)
inductive ClyOk (X : Cx) : List ExceptHandler → List Cly → Prop
  | nil : ClyOk X [] []
  | only {x : Str} {c : Value} {ts : Sui} {s0 : Stmt} {ss : List Stmt} {p1 p2 : Pos} {hs : List ExceptHandler} {l : List Cly} (hc : Names X x c) (su : SuiOk X (s0 :: ss) ts) (r : ClyOk X hs l) : ClyOk X (.ExceptHandler (some (.Name x p1)) none (s0 :: ss) p2 :: hs) (.only c ts :: l)
  | named {x n : Str} {c : Value} {i : Nat} {ts : Sui} {s0 : Stmt} {ss : List Stmt} {p1 p2 : Pos} {hs : List ExceptHandler} {l : List Cly} (hi : X.N[i]? = some n) (hl : X.env.kindOf n = some .local) (hc : Names X x c) (su : SuiOk X (s0 :: ss) ts) (r : ClyOk X hs l) :
      ClyOk X (.ExceptHandler (some (.Name x p1)) (some n) (s0 :: ss) p2 :: hs) (.named c i ts :: l)
  | pair {x y : Str} {c1 c2 : Value} {ts : Sui} {s0 : Stmt} {ss : List Stmt} {p1 p2 p3 pt : Pos} {kk : Nat} {hs : List ExceptHandler} {l : List Cly} (hx : Names X x c1) (hy : Names X y c2) (su : SuiOk X (s0 :: ss) ts) (r : ClyOk X hs l) :
      ClyOk X (.ExceptHandler (some (.Tuple [.Name x p1, .Name y p3] kk pt)) none (s0 :: ss) p2 :: hs) (.pair c1 c2 ts :: l)
section
variable {X : Cx} {body : List Stmt} {e0 : ExceptHandler} {es : List ExceptHandler} {l : List Cly} {pos : Pos} {tb : WX → TS} {W0 : WX}
end
end Vk
set_option Elab.async false
set_option maxRecDepth 100000
set_option maxHeartbeats 4000000
set_option linter.all false
namespace Vk
open PySem PySem.Spec PyProof.Rows L2 HT
/-! ## t[::-1], t a tuple -/
section
variable {prog : Program} {w : World} {A : Around} {E : Value → Shared → Prop} {s : Shared}
end
end Vk
set_option Elab.async false
set_option maxRecDepth 100000
set_option maxHeartbeats 4000000
set_option linter.all false
namespace Vk
open PySem PySem.Spec PyProof.Rows L2 LamX
/-! ## things: a value, or a list or a tuple of values -/
inductive Tg (H : Hp) : V → PyData → Prop
  | one {v : V} {d : PyData} : Th H v d → (∀ ds, d ≠ .tuple ds) → Tg H v d
  | lst {a : Addr} {vs : List V} {ds : List PyData} : H a = some (.lst vs) → Paired (Th H) vs ds → Tg H (.ref a) (.list ds)
  | tup {a : Addr} {vs : List V} {ds : List PyData} : H a = some (.tup vs) → Paired (Th H) vs ds → Tg H (.ref a) (.tuple ds)
theorem atms_ths {H : Hp} : ∀ {vs : List V} {ds : List PyData}, Paired Atm vs ds → Paired (Th H) vs ds
  | _, _, .nil => .nil
  | _, _, .cons a t => .cons (.atm a) (atms_ths t)
theorem Th.tg {H : Hp} {v : V} {d : PyData} (h : Th H v d) : Tg H v d := by
  cases h with
  | atm a => exact .one (.atm a) (fun ds z => by cases a <;> cases z)
  | lst e n p => exact .one (.lst e n p) (fun ds z => by cases z)
  | tup e p => exact .tup e (atms_ths p)
  | dct e => exact .one (.dct e) (fun ds z => by cases z)
theorem Tg.keep {H H' : Hp} {v : V} {d : PyData} (h : Tg H v d) (s : Same H H') : Tg H' v d := by
  cases h with
  | one th n => exact .one (th.keep s) n
  | lst e p => exact .lst (s _ _ e) (ths_keep s p)
  | tup e p => exact .tup (s _ _ e) (ths_keep s p)
theorem ths_ext {H H' : Hp} {p c : Addr} {T : Nat} (hp : Pen H p c T) (x : Ext p H H') : ∀ {vs : List V} {ds : List PyData}, Paired (Th H) vs ds → Paired (Th H') vs ds
  | _, _, .nil => .nil
  | _, _, .cons a t => .cons (a.ext hp x) (ths_ext hp x t)
theorem Tg.ext {H H' : Hp} {p c : Addr} {T : Nat} {v : V} {d : PyData} (h : Tg H v d) (hp : Pen H p c T) (x : Ext p H H') : Tg H' v d := by
  have ne : ∀ {a o}, H a = some o → (∀ k, o ≠ .dK k) → H' a = some o := fun {a o} e n => x _ _ e fun z => by
    obtain ⟨t, l, hl⟩ := hp.is
    rw [z, hl] at e
    exact n _ (Option.some.inj e).symm
  cases h with
  | one th n => exact .one (th.ext hp x) n
  | lst e p => exact .lst (ne e fun _ z => nomatch z) (ths_ext hp x p)
  | tup e p => exact .tup (ne e fun _ z => nomatch z) (ths_ext hp x p)
theorem call_reprG {X : Cx} (sm : SM X.base) (hg : X.A.guards = some []) (hu : X.A.units + 64 < cLine) : CallR X (.builtin "repr") (fun xs H Q => ∃ x d, xs = [x] ∧ Tg H x d ∧ Shn d ∧ Q (.str d.shown) H) := by
  intro pins s σ H xs us Q I r h
  obtain ⟨x, d, rfl, tg, sh, k⟩ := h
  cases tg with
  | one th n => exact call_reprT hg hu pins s σ H _ us Q I r ⟨x, d, rfl, .inl th, sh.1, sh.2.1, sh.2.2, k⟩
  | lst e p => exact call_reprM sm hg hu pins s σ H _ us Q I r ⟨_, _, rfl, ⟨_, _, _, rfl, p, .inl ⟨e, rfl⟩⟩, sh, k⟩
  | tup e p => exact call_reprM sm hg hu pins s σ H _ us Q I r ⟨_, _, rfl, ⟨_, _, _, rfl, p, .inr ⟨e, rfl⟩⟩, sh, k⟩
/-- the thing's kind -/
def isTupB : PyData → Bool
  | .tuple _ => true
  | _ => false
end Vk
set_option Elab.async false
set_option maxRecDepth 100000
set_option maxHeartbeats 4000000
set_option linter.all false
namespace Vk
open PySem PySem.Spec PyProof.Rows L2
/-! ## {k: v for x in l}, l a list that stays -/
end Vk
set_option Elab.async false
set_option maxRecDepth 100000
set_option linter.all false
set_option maxHeartbeats 4000000
namespace Vk
open PySem PySem.Spec PyProof.Rows L2
section
variable {P : Program} {w : World} {K : PySem.W.Frag} {mg : Str → Option Value} {base : Heap}
/-- the letters -/
abbrev ll (x : Str) : List Nat := x.cps.toList
theorem ll_len (x : Str) : (ll x).length = x.length := Array.length_toList
theorem ll_at {x : Str} {i : Nat} (h : i < x.length) : x.cps[i]? = some (fnL (ll x) i) := by
  have h2 : i < (ll x).length := by rw [ll_len]; exact h
  have e : (ll x)[i]? = some (fnL (ll x) i) := by
    unfold fnL
    rw [List.getD_eq_getElem?_getD, List.getElem?_eq_getElem h2]
    rfl
  rwa [Array.getElem?_toList] at e
theorem atI_ll {x : Str} {i : Nat} (h : i < x.length) : atI x.cps.toList ((i : Nat) : Int) = some (fnL (ll x) i) := by
  refine atI_nat ?_
  rw [Array.getElem?_toList]
  exact ll_at h
def spRun : Sp := fun vs H Q _ => ∃ x y i d, vs = [.str x, .str y, .int (i : Nat), .int d] ∧ x.length ≤ 200 ∧ y.length ≤ 200 ∧ On (ll x) (ll y) i d ∧ Q (.int (goM (ll x) (ll y) i d : Nat)) H
abbrev s_run_on : Stmt := top 11
theorem sc_run_on : FnScope ["one", "other", "index", "diagonal"] ["one", "other", "index", "diagonal"] (defScope s_run_on) := ⟨rfl, rfl, rfl, by decide +kernel, rfl, by decide +kernel, by decide +kernel⟩
theorem b_run_on {f : Addr} {fd : FuncData} (F : Fun K "run_on" "run_on" s_run_on f fd) (T : Txt mg) : FnG P w K mg base CX0 1 f fd ["one", "other", "index", "diagonal"] spRun := by
  refine okG0 F sc_run_on (fun vs H Q E h => ?_) (fun cdv A outer s H vs Q E hg hr h => ?_)
  · obtain ⟨x, y, i, d, rfl, _⟩ := h
    rfl
  · have hu := hu_of hr
    have hu64 := hr.units
    obtain ⟨x, y, i, d, rfl, hx, hy, on, k⟩ := h
    have xl : x.length ≤ sizeLine := Nat.le_trans hx (by decide)
    have yl : y.length ≤ sizeLine := Nat.le_trans hy (by decide)
    have lx := ll_len x
    have ly := ll_len y
    refine ⟨_, (pss_cons (ps_while PassesOwn.never (PW.pt (pw_and (pt_cmpR op_lt (pv 2) (pe_callB call_len (by rfl) T.len (by decide +kernel) (pa_cons (pv 0) pa_nil)) (nomark _)) (pw_and (pt_cmpR op_lt (pe_op op_add (pv 2) (pv 3)) (pe_callB call_len (by rfl) T.len (by decide +kernel) (pa_cons (pv 1) pa_nil)) (nomark _)) (pw_and1 (pt_cmpR op_eq (pe_ix ix_str (pv 0) (pv 2) (fun _ _ => rfl)) (pe_ix ix_str (pv 1) (pe_op op_add (pv 2) (pv 3)) (fun _ _ => rfl)) (nomark _)))))) (pss_one (ps_aug (i := 2) sc_run_on.nd rfl (Or.inl rfl) pe_int ip_add)))
      (pss_one (ps_ret (pv 2)))), ?_⟩
    refine ⟨fun m σ H' => ∃ e : Nat, σ = [some (.str x), some (.str y), some (.int (e : Nat)), some (.int d)] ∧ H' = H ∧ On (ll x) (ll y) e d ∧ goM (ll x) (ll y) e d = goM (ll x) (ll y) i d ∧ m = x.length - e, ⟨_, i, rfl, rfl, on, rfl, rfl⟩, ?_⟩
    rintro m σ H2 ⟨e, rfl, rfl, ⟨o1, o2, o3⟩, ge, rfl⟩
    have stop : (x.length ≤ e ∨ (y.length : Int) ≤ e + d) → goM (ll x) (ll y) e d = e := fun h => by
      unfold goM
      rw [com_end (by omega)]
      rfl
    refine ⟨_, rfl, _, rfl, _, _, rfl, ⟨xl, rfl⟩, _, _, rfl, rfl, _, rfl, ?_⟩
    by_cases c1 : e < x.length
    · rw [decide_eq_true (show ((e : Nat) : Int) < ((x.length : Nat) : Int) by omega)]
      refine iteT ⟨_, rfl, _, rfl, _, _, rfl, rfl, _, rfl, _, _, rfl, ⟨yl, rfl⟩, _, _, rfl, rfl, _, rfl, ?_⟩
      by_cases c2 : (e : Int) + d < y.length
      · rw [decide_eq_true (show (e : Int) + d < ((y.length : Nat) : Int) by omega)]
        obtain ⟨j, hj⟩ : ∃ j : Nat, (e : Int) + d = (j : Nat) := ⟨((e : Int) + d).toNat, by omega⟩
        refine iteT ⟨_, rfl, _, rfl, x, _, _, rfl, rfl, xl, atI_ll c1, ?_⟩
        refine ⟨_, rfl, _, rfl, _, rfl, _, _, rfl, rfl, y, _, fnL (ll y) j, rfl, rfl, yl, ?_, ?_⟩
        · rw [hj]
          exact atI_ll (by omega)
        refine ⟨rfl, _, rfl, ?_⟩
        rw [show decide (V.str ⟨#[fnL (ll x) e]⟩ = V.str ⟨#[fnL (ll y) j]⟩) = decide (fnL (ll x) e = fnL (ll y) j) from ones_eq _ _]
        by_cases c3 : fnL (ll x) e = fnL (ll y) j
        · rw [decide_eq_true c3]
          refine iteT ⟨fun σ' H' => σ' = [some (.str x), some (.str y), some (.int ((e : Nat) + 1)), some (.int d)] ∧ H' = H2, ?_, ?_⟩
          · rintro σ' H' ⟨rfl, rfl⟩
            refine ⟨_, (by omega : x.length - (e + 1) < x.length - e), e + 1, rfl, rfl, ⟨by omega, by omega, by omega⟩, ?_, rfl⟩
            rw [← ge]
            unfold goM
            rw [show ((e : Int) + d).toNat = j by omega, com_pos (i := e) (j := j) (by omega) (by omega), if_pos c3, show (((e + 1 : Nat) : Int) + d).toNat = j + 1 by omega]
            omega
          · exact ⟨_, rfl, _, _, rfl, rfl, rfl, rfl⟩
        · rw [decide_eq_false c3]
          refine iteF ⟨_, rfl, ?_⟩
          have : goM (ll x) (ll y) e d = e := by
            unfold goM
            rw [show ((e : Int) + d).toNat = j by omega, com_pos (i := e) (j := j) (by omega) (by omega), if_neg c3]
            rfl
          rw [← ge, this] at k
          exact k
      · rw [decide_eq_false (show ¬ (e : Int) + d < ((y.length : Nat) : Int) by omega)]
        refine iteF ⟨_, rfl, ?_⟩
        rw [← ge, stop (.inr (by omega))] at k
        exact k
    · rw [decide_eq_false (show ¬ ((e : Nat) : Int) < ((x.length : Nat) : Int) by omega)]
      refine iteF ⟨_, rfl, ?_⟩
      rw [← ge, stop (.inl (by omega))] at k
      exact k
end
end Vk
set_option Elab.async false
set_option maxRecDepth 100000
set_option linter.all false
set_option maxHeartbeats 4000000
namespace Vk
open PySem PySem.Spec PyProof.Rows L2
section
variable {P : Program} {w : World} {K : PySem.W.Frag} {mg : Str → Option Value} {base : Heap}
theorem seq_mid {A B : TS} {D : Ends} {σ : L2.St} {H : Hp} (Mid : L2.St → Hp → Prop) (h1 : ∀ D', (∀ σ H, Mid σ H → D'.nx σ H) → A D' σ H) (h2 : ∀ σ H, Mid σ H → B D σ H) : tSeq A B D σ H := h1 _ h2
theorem name_go {i : Nat} {v : V} {σ : L2.St} {H : Hp} {Q : L2.St → Hp → Prop} (h : Q (σ.set i (some v)) H) : gName i v σ H Q := h
/-- a level: how far one has come on each diagonal -/
def LvD (H : Hp) (r : Addr) (f : Int → Option Nat) : Prop := ∃ kvs : List (Key × V), H r = some (.dK kvs) ∧ (∀ d : Int, valV kvs (Sum.inl d) = (f d).map fun i => V.int (i : Nat)) ∧ (∀ kv ∈ kvs, ∃ d : Int, kv.1 = Sum.inl d) ∧ kvs.length ≤ 1000
theorem LvD.keep {H H1 : Hp} {r : Addr} {f : Int → Option Nat} (h : LvD H r f) (s : Same H H1) : LvD H1 r f := by
  obtain ⟨kvs, h1, h2⟩ := h
  exact ⟨kvs, s _ _ h1, h2⟩
theorem LvD.list {H : Hp} {r l : Addr} {f : Int → Option Nat} {xs : List V} {o : HO} (h : LvD H r f) (hl : H l = some (.lst xs)) : LvD (upd H l o) r f := by
  obtain ⟨kvs, h1, h2⟩ := h
  exact ⟨kvs, by rw [upd_ne (fun e => by rw [e, hl] at h1; cases h1)]; exact h1, h2⟩
theorem LvD.get {H : Hp} {r : Addr} {f : Int → Option Nat} (h : LvD H r f) (d : Int) : DGet H r (.int d) ((f d).map fun i => V.int (i : Nat)) := by
  obtain ⟨kvs, h1, h2, _⟩ := h
  have := DGet.k (k := Sum.inl d) h1
  rw [h2] at this
  exact this
def wS : Wd → Str
  | .put => "put"
  | .drop => "drop"
  | .set => "set"
/-- pairs of a number and a word -/
def NsR (H : Hp) : List V → List (Nat × Wd) → Prop := Paired fun v (p : Nat × Wd) => ∃ t, v = V.ref t ∧ H t = some (.tup [.int (p.1 : Nat), .str (wS p.2)])
theorem NsR.keep {H H1 : Hp} {xs : List V} {ps : List (Nat × Wd)} (h : NsR H xs ps) (s : Same H H1) : NsR H1 xs ps := pair_mono (fun v p ⟨t, e, ht⟩ => ⟨t, e, s _ _ ht⟩) h
theorem NsR.keepT {H H1 : Hp} {xs : List V} {ps : List (Nat × Wd)} (h : NsR H xs ps) (s : ∀ u ws, H u = some (.tup ws) → H1 u = some (.tup ws)) : NsR H1 xs ps := pair_mono (fun v p ⟨t, e, ht⟩ => ⟨t, e, s _ _ ht⟩) h
/-- one more -/
theorem NsR.more {H : Hp} {l t : Addr} {xs : List V} {ps : List (Nat × Wd)} {p : Nat × Wd} (h : NsR H xs ps) (hl : H l = some (.lst xs)) (ht : H t = none) : NsR (upd (upd H t (.tup [.int (p.1 : Nat), .str (wS p.2)])) l (.lst (xs ++ [.ref t]))) (xs ++ [.ref t]) (ps ++ [p]) := by
  have st := same_new (o := .tup [.int (p.1 : Nat), .str (wS p.2)]) ht
  have hl2 := st _ _ hl
  exact Paired.snoc ((h.keep st).keepT (upd_list hl2)) ⟨t, rfl, upd_list hl2 _ _ upd_same⟩
theorem stP_len {m : Nat} {f : Int → Option Nat} {d : Int} : (stP m f d).length ≤ 1 := by
  unfold stP
  split
  · split
    · exact Nat.le_refl _
    · exact Nat.zero_le _
  · exact Nat.zero_le _
theorem stD_len {n : Nat} {f : Int → Option Nat} {d : Int} : (stD n f d).length ≤ 1 := by
  unfold stD
  split
  · split
    · exact Nat.le_refl _
    · exact Nat.zero_le _
  · exact Nat.zero_le _
def spStarts : Sp := fun vs H Q _ => ∃ x y r d f, vs = [.str x, .str y, .ref r, .int d] ∧ x.length ≤ 200 ∧ y.length ≤ 200 ∧ LvD H r f ∧ ∀ l xs H', H l = none → H' l = some (.lst xs) → NsR H' xs (stM (ll x).length (ll y).length f d) → Same H H' → Q (.ref l) H'
abbrev s_starts_behind : Stmt := top 12
theorem sc_starts_behind : FnScope ["one", "other", "level", "diagonal", "told"] ["one", "other", "level", "diagonal"] (defScope s_starts_behind) := ⟨rfl, rfl, rfl, by decide +kernel, rfl, by decide +kernel, by decide +kernel⟩
theorem b_starts_behind {f : Addr} {fd : FuncData} (F : Fun K "starts_behind" "starts_behind" s_starts_behind f fd) (T : Txt mg) : FnG P w K mg base CX0 1 f fd ["one", "other", "level", "diagonal"] spStarts := by
  refine okG0 F sc_starts_behind (fun vs H Q E h => ?_) (fun cdv A outer s H vs Q E hg hr h => ?_)
  · obtain ⟨x, y, r, d, f, rfl, _⟩ := h
    rfl
  · have hu := hu_of hr
    have hu64 := hr.units
    obtain ⟨x, y, r, d, f, rfl, hx, hy, lv, k⟩ := h
    have xl : x.length ≤ sizeLine := Nat.le_trans hx (by decide)
    have yl : y.length ≤ sizeLine := Nat.le_trans hy (by decide)
    have lx := ll_len x
    have ly := ll_len y
    refine ⟨_, (pss_cons (ps_set (i := 4) sc_starts_behind.nd rfl (Or.inl rfl) (pe_lst pa_nil))
      (pss_cons (ps_if (PW.pt (pw_and (pt_cmp (pc_din hu (pe_op op_sub (pv 3) pe_int) (pv 2))) (pw_and1 (pt_cmpR op_le (pe_op op_add (pe_dget hu (pv 2) (pe_op op_sub (pv 3) pe_int) (fun _ _ => rfl)) (pv 3)) (pe_callB call_len (by rfl) T.len (by decide +kernel) (pa_cons (pv 1) pa_nil)) (nomark _))))) (pss_one (ps_expr (pe_bm PySem.F.plainAttrs_list PySem.F.slot_list_append PySem.F.type_list_append mt_append (pv 4) (pa_cons (pe_tup (pa_cons (pe_dget hu (pv 2) (pe_op op_sub (pv 3) pe_int) (fun _ _ => rfl)) (pa_cons pe_str pa_nil))) pa_nil)))) pss_nil)
      (pss_cons (ps_if (PW.pt (pw_and (pt_cmp (pc_din hu (pe_op op_add (pv 3) pe_int) (pv 2))) (pw_and1 (pt_cmpR op_lt (pe_dget hu (pv 2) (pe_op op_add (pv 3) pe_int) (fun _ _ => rfl)) (pe_callB call_len (by rfl) T.len (by decide +kernel) (pa_cons (pv 0) pa_nil)) (nomark _))))) (pss_one (ps_expr (pe_bm PySem.F.plainAttrs_list PySem.F.slot_list_append PySem.F.type_list_append mt_append (pv 4) (pa_cons (pe_tup (pa_cons (pe_op op_add (pe_dget hu (pv 2) (pe_op op_add (pv 3) pe_int) (fun _ _ => rfl)) pe_int) (pa_cons pe_str pa_nil))) pa_nil)))) pss_nil)
      (pss_cons (ps_if (PW.pt (pw_and (pt_cmp (pc_din hu (pv 3) (pv 2))) (pw_and1 (pt_cmpR op_lt (pe_dget hu (pv 2) (pv 3) (fun _ _ => rfl)) (pe_callB (call_min2 rfl) (by rfl) T.min (by decide +kernel) (pa_cons (pe_callB call_len (by rfl) T.len (by decide +kernel) (pa_cons (pv 0) pa_nil)) (pa_cons (pe_op op_sub (pe_callB call_len (by rfl) T.len (by decide +kernel) (pa_cons (pv 1) pa_nil)) (pv 3)) pa_nil))) (nomark _))))) (pss_one (ps_expr (pe_bm PySem.F.plainAttrs_list PySem.F.slot_list_append PySem.F.type_list_append mt_append (pv 4) (pa_cons (pe_tup (pa_cons (pe_op op_add (pe_dget hu (pv 2) (pv 3) (fun _ _ => rfl)) pe_int) (pa_cons pe_str pa_nil))) pa_nil)))) pss_nil)
      (pss_one (ps_ret (pv 4))))))), ?_⟩
    refine ⟨by show 0 ≤ sizeLine; decide, fun l hl => ?_⟩
    have sl := same_new (o := .lst []) hl
    refine name_go ?_
    dsimp only
    refine seq_mid (fun σ H' => ∃ xs, σ = [some (.str x), some (.str y), some (.ref r), some (.int d), some (.ref l)] ∧ H' l = some (.lst xs) ∧ Same H H' ∧ NsR H' xs (stP (ll y).length f d)) (fun D' hD' => ?_) (fun σ H1 hm => ?_)
    · have lv1 := lv.keep sl
      refine ⟨_, rfl, _, _, rfl, rfl, _, rfl, r, _, rfl, lv1.get _, _, rfl, ?_⟩
      unfold stP at hD'
      cases hf : f (d - 1) with
      | none =>
        rw [hf] at hD'
        exact iteF (hD' _ _ ⟨[], rfl, upd_same, sl, .nil⟩)
      | some i =>
        have g1 := lv1.get (d - 1)
        rw [hf] at g1 hD'
        simp only at hD'
        refine iteT ⟨_, rfl, _, rfl, _, _, rfl, rfl, r, _, rfl, g1, ?_⟩
        refine ⟨_, rfl, _, _, rfl, rfl, _, rfl, _, _, rfl, ⟨yl, rfl⟩, _, _, rfl, rfl, _, rfl, ?_⟩
        by_cases c : (i : Int) + d ≤ (ll y).length
        · rw [decide_eq_true (show (i : Int) + d ≤ ((y.length : Nat) : Int) by omega)]
          rw [if_pos c] at hD'
          refine iteT ⟨_, rfl, .inl ⟨rfl, _, SqL.of upd_same⟩, _, rfl, _, rfl, _, _, rfl, rfl, r, _, rfl, g1, by show 2 ≤ sizeLine; decide, fun t ht => ?_⟩
          have st := same_new (o := .tup [.int (i : Nat), .str (wS .put)]) ht
          refine ⟨l, _, _, rfl, rfl, st _ _ upd_same, fewL (by decide), hD' _ _ ⟨_, rfl, upd_same, upd_out hl (sl.trans st), NsR.more (p := (i, .put)) .nil upd_same ht⟩⟩
        · rw [decide_eq_false (show ¬ (i : Int) + d ≤ ((y.length : Nat) : Int) by omega)]
          rw [if_neg c] at hD'
          exact iteF (hD' _ _ ⟨[], rfl, upd_same, sl, .nil⟩)
    obtain ⟨xs, rfl, hl1, s1, ns1⟩ := hm
    have n1 := paired_len ns1
    have m1 := stP_len (m := (ll y).length) (f := f) (d := d)
    refine seq_mid (fun σ H' => ∃ xs, σ = [some (.str x), some (.str y), some (.ref r), some (.int d), some (.ref l)] ∧ H' l = some (.lst xs) ∧ Same H H' ∧ NsR H' xs (stP (ll y).length f d ++ stD (ll x).length f d)) (fun D' hD' => ?_) (fun σ H2 hm => ?_)
    · have lv1 := lv.keep s1
      refine ⟨_, rfl, _, _, rfl, rfl, _, rfl, r, _, rfl, lv1.get _, _, rfl, ?_⟩
      unfold stD at hD'
      cases hf : f (d + 1) with
      | none =>
        rw [hf] at hD'
        exact iteF (hD' _ _ ⟨xs, rfl, hl1, s1, by rw [List.append_nil]; exact ns1⟩)
      | some i =>
        have g1 := lv1.get (d + 1)
        rw [hf] at g1 hD'
        simp only at hD'
        refine iteT ⟨_, rfl, _, rfl, _, _, rfl, rfl, r, _, rfl, g1, ?_⟩
        refine ⟨_, rfl, _, _, rfl, ⟨xl, rfl⟩, _, _, rfl, rfl, _, rfl, ?_⟩
        by_cases c : i < (ll x).length
        · rw [decide_eq_true (show ((i : Nat) : Int) < ((x.length : Nat) : Int) by omega)]
          rw [if_pos c] at hD'
          refine iteT ⟨_, rfl, .inl ⟨rfl, _, SqL.of hl1⟩, _, rfl, _, rfl, _, _, rfl, rfl, r, _, rfl, g1, _, _, rfl, rfl, by show 2 ≤ sizeLine; decide, fun t ht => ?_⟩
          have st := same_new (o := .tup [.int ((i + 1 : Nat) : Int), .str (wS .drop)]) ht
          refine ⟨l, _, _, rfl, rfl, st _ _ hl1, fewL (by omega), hD' _ _ ⟨_, rfl, upd_same, upd_out hl (s1.trans st), NsR.more (p := (i + 1, .drop)) ns1 hl1 ht⟩⟩
        · rw [decide_eq_false (show ¬ ((i : Nat) : Int) < ((x.length : Nat) : Int) by omega)]
          rw [if_neg c] at hD'
          exact iteF (hD' _ _ ⟨xs, rfl, hl1, s1, by rw [List.append_nil]; exact ns1⟩)
    clear hl1 s1 ns1 n1 xs
    obtain ⟨xs, rfl, hl1, s1, ns1⟩ := hm
    have n1 := paired_len ns1
    have m2 := stD_len (n := (ll x).length) (f := f) (d := d)
    rw [List.length_append] at n1
    refine seq_mid (fun σ H' => ∃ xs, σ = [some (.str x), some (.str y), some (.ref r), some (.int d), some (.ref l)] ∧ H' l = some (.lst xs) ∧ Same H H' ∧ NsR H' xs (stM (ll x).length (ll y).length f d)) (fun D' hD' => ?_) (fun σ H3 hm => ?_)
    · have lv1 := lv.keep s1
      refine ⟨_, rfl, _, rfl, r, _, rfl, lv1.get _, _, rfl, ?_⟩
      unfold stM stS at hD'
      cases hf : f d with
      | none =>
        rw [hf] at hD'
        exact iteF (hD' _ _ ⟨xs, rfl, hl1, s1, by rw [List.append_nil]; exact ns1⟩)
      | some i =>
        have g1 := lv1.get d
        rw [hf] at g1 hD'
        simp only at hD'
        refine iteT ⟨_, rfl, _, rfl, r, _, rfl, g1, ?_⟩
        refine ⟨_, rfl, _, _, rfl, ⟨xl, rfl⟩, _, rfl, _, _, rfl, ⟨yl, rfl⟩, _, rfl, _, _, rfl, rfl, _, _, rfl, ?_⟩
        refine ⟨_, _, rfl, rfl, _, rfl, ?_⟩
        have em : (if ((y.length : Nat) : Int) - d < ((x.length : Nat) : Int) then ((y.length : Nat) : Int) - d else ((x.length : Nat) : Int)) = min (((ll x).length : Nat) : Int) (((ll y).length : Nat) - d) := by rw [lx, ly]; split <;> omega
        rw [em]
        by_cases c : (i : Int) < min (((ll x).length : Nat) : Int) (((ll y).length : Nat) - d)
        · rw [decide_eq_true c]
          rw [if_pos c] at hD'
          refine iteT ⟨_, rfl, .inl ⟨rfl, _, SqL.of hl1⟩, _, rfl, _, rfl, r, _, rfl, g1, _, _, rfl, rfl, by show 2 ≤ sizeLine; decide, fun t ht => ?_⟩
          have st := same_new (o := .tup [.int ((i + 1 : Nat) : Int), .str (wS .set)]) ht
          refine ⟨l, _, _, rfl, rfl, st _ _ hl1, fewL (by omega), hD' _ _ ⟨_, rfl, upd_same, upd_out hl (s1.trans st), NsR.more (p := (i + 1, .set)) ns1 hl1 ht⟩⟩
        · rw [decide_eq_false c]
          rw [if_neg c] at hD'
          exact iteF (hD' _ _ ⟨xs, rfl, hl1, s1, by rw [List.append_nil]; exact ns1⟩)
    obtain ⟨xs, rfl, hl3, s3, ns3⟩ := hm
    exact ⟨_, rfl, k l xs H3 hl hl3 ns3 s3⟩
end
end Vk
set_option Elab.async false
set_option maxRecDepth 100000
set_option linter.all false
set_option maxHeartbeats 4000000
namespace Vk
open PySem PySem.Spec PyProof.Rows L2
section
variable {P : Program} {w : World} {K : PySem.W.Frag} {mg : Str → Option Value} {base : Heap}
/-- the levels up to a number -/
def LvsR (H : Hp) (x y : Str) : List V → List Nat → Prop := Paired fun v e => ∃ r, v = V.ref r ∧ LvD H r (lvM (ll x) (ll y) e)
theorem LvsR.keep {H H1 : Hp} {x y : Str} {xs : List V} {ps : List Nat} (h : LvsR H x y xs ps) (s : Same H H1) : LvsR H1 x y xs ps := pair_mono (fun v p ⟨t, e, ht⟩ => ⟨t, e, ht.keep s⟩) h
theorem LvsR.list {H : Hp} {l : Addr} {x y : Str} {xs ys : List V} {o : HO} {ps : List Nat} (h : LvsR H x y xs ps) (hl : H l = some (.lst ys)) : LvsR (upd H l o) x y xs ps := pair_mono (fun v p ⟨t, e, ht⟩ => ⟨t, e, ht.list hl⟩) h
def keyI (kv : Key × V) : Int := match kv.1 with | .inl d => d | .inr _ => 0
theorem keys_int {kvs : List (Key × V)} (h : ∀ kv ∈ kvs, ∃ d : Int, kv.1 = Sum.inl d) : (kvs.map fun kv => kV kv.1) = (kvs.map keyI).map V.int := by
  rw [List.map_map]
  refine List.map_congr_left fun kv hk => ?_
  obtain ⟨d, e⟩ := h kv hk
  show kV kv.1 = V.int (keyI kv)
  unfold keyI
  rw [e]
  rfl
theorem key_mem {kvs : List (Key × V)} {f : Int → Option Nat} (hv : ∀ d : Int, valV kvs (Sum.inl d) = (f d).map fun i => V.int (i : Nat)) (h : ∀ kv ∈ kvs, ∃ d : Int, kv.1 = Sum.inl d) {d : Int} : d ∈ kvs.map keyI ↔ ∃ i, f d = some i := by
  have e := valV_any (Sum.inl d : Key) kvs
  rw [hv] at e
  constructor
  · intro m
    obtain ⟨kv, hk, hd⟩ := List.mem_map.mp m
    obtain ⟨d2, e2⟩ := h kv hk
    have : d2 = d := by
      unfold keyI at hd
      rw [e2] at hd
      exact hd
    subst this
    have t : (kvs.any fun kv => decide (kv.1 = Sum.inl d2)) = true := List.any_eq_true.mpr ⟨kv, hk, decide_eq_true e2⟩
    rw [t] at e
    cases q : f d2 with
    | none => rw [q] at e; cases e
    | some i => exact ⟨i, rfl⟩
  · rintro ⟨i, hi⟩
    rw [hi] at e
    obtain ⟨kv, hk, hd⟩ := List.any_eq_true.mp e
    refine List.mem_map.mpr ⟨kv, hk, ?_⟩
    unfold keyI
    rw [of_decide_eq_true hd]
theorem st_none {n m : Nat} {f : Int → Option Nat} {d : Int} (h1 : f (d - 1) = none) (h2 : f (d + 1) = none) (h3 : f d = none) : stM n m f d = [] := by
  unfold stM stP stD stS
  rw [h1, h2, h3]
  rfl
theorem nx_none {a b : List Nat} {f : Int → Option Nat} {d : Int} (h1 : f (d - 1) = none) (h2 : f (d + 1) = none) (h3 : f d = none) : nxM a b f d = none := by
  unfold nxM
  rw [if_pos (st_none h1 h2 h3)]
theorem put_key {kvs : List (Key × V)} {k : Key} {v : V} {kv : Key × V} (h : kv ∈ putK kvs k v) : kv.1 = k ∨ ∃ kv2 ∈ kvs, kv2.1 = kv.1 := by
  unfold putK at h
  split at h
  · obtain ⟨kv2, h2, e⟩ := List.mem_map.mp h
    refine .inr ⟨kv2, h2, ?_⟩
    rw [← e]
    split <;> rfl
  · rcases List.mem_append.mp h with h | h
    · exact .inr ⟨kv, h, rfl⟩
    · rw [List.mem_singleton.mp h]
      exact .inl rfl
theorem dst_up (a b : List Nat) : dst a b ≤ a.length + b.length := edD_up _ _
/-- pairs as data -/
def nwD (p : Nat × Wd) : PyData := nsD ((p.1 : Int), wS p.2)
theorem ns_dp {H : Hp} : ∀ {xs : List V} {ps : List (Nat × Wd)}, NsR H xs ps → DpAll K H xs (ps.map nwD)
  | _, _, .nil => .nil
  | _, _, .cons a t => .cons (by
      obtain ⟨u, rfl, h⟩ := a
      exact .tup (SqT.of h) (.cons (.int _) (.cons (.str _) .nil))) (ns_dp t)
def nwG (ps : List (Nat × Wd)) (i : Nat) : Int := ((ps[i]?).map fun p => (p.1 : Int)).getD 0
/-- max of what may be a start -/
theorem max_st {H : Hp} {xs : List V} {ps : List (Nat × Wd)} (ns : NsR H xs ps) (hne : ps ≠ []) : PySem.W.AlikeAll (ps.map nwD) ∧ PyData.depthAll (ps.map nwD) ≤ 20 ∧ 0 < (ps.map nwD).length ∧
    (∀ i j, i < (ps.map nwD).length → j < (ps.map nwD).length → (PySem.W.dataLt ((ps.map nwD).getD j .none) ((ps.map nwD).getD i .none) = true → nwG ps j ≤ nwG ps i) ∧ (PySem.W.dataLt ((ps.map nwD).getD j .none) ((ps.map nwD).getD i .none) = false → nwG ps i ≤ nwG ps j)) ∧
    ∀ (i : Nat) v, xs[i]? = some v → (∀ j, j < (ps.map nwD).length → nwG ps j ≤ nwG ps i) → ∃ p t, v = V.ref t ∧ p ∈ ps ∧ topM ps = p.1 ∧ H t = some (.tup [.int (p.1 : Nat), .str (wS p.2)]) := by
  have len := paired_len ns
  refine ⟨⟨fun a ha b hb => ?_, fun a ha => ?_⟩, ?_, ?_, fun i j hi hj => ?_, fun i v hv hm => ?_⟩
  · obtain ⟨p, _, rfl⟩ := List.mem_map.mp ha
    obtain ⟨q, _, rfl⟩ := List.mem_map.mp hb
    rfl
  · obtain ⟨p, _, rfl⟩ := List.mem_map.mp ha
    intro z
    cases z
  · refine Nat.le_trans (depthAll_const _ 1 fun d hd => ?_) (by decide)
    obtain ⟨p, _, rfl⟩ := List.mem_map.mp hd
    exact Nat.le_of_eq rfl
  · rw [List.length_map]
    exact List.length_pos_iff.mpr hne
  · rw [List.length_map] at hi hj
    have gd : ∀ i, i < ps.length → (ps.map nwD).getD i .none = nwD (ps.getD i (0, .put)) ∧ nwG ps i = ((ps.getD i (0, .put)).1 : Int) := fun i hi => by
      unfold nwG
      rw [List.getD_eq_getElem?_getD, List.getD_eq_getElem?_getD, List.getElem?_map, List.getElem?_eq_getElem hi]
      exact ⟨rfl, rfl⟩
    rw [(gd i hi).1, (gd j hj).1, (gd i hi).2, (gd j hj).2]
    exact ns_lt
  · obtain ⟨p, hp, t, rfl, ht⟩ := paired_at ns hv
    refine ⟨p, t, rfl, List.mem_of_getElem? hp, topM_of (List.mem_of_getElem? hp) fun q hq => ?_, ht⟩
    obtain ⟨j, hj⟩ := List.mem_iff_getElem?.mp hq
    have := hm j (by rw [List.length_map]; exact (List.getElem?_eq_some_iff.mp hj).1)
    unfold nwG at this
    simp only [hp, hj, Option.map_some, Option.getD_some] at this
    omega
def spLevels : Sp := fun vs H Q _ => ∃ x y, vs = [.str x, .str y] ∧ x.length ≤ 200 ∧ y.length ≤ 200 ∧ ∀ l refs H', H l = none → H' l = some (.lst refs) → LvsR H' x y refs (List.range (dst (ll x) (ll y) + 1)) → Same H H' → Q (.ref l) H'
abbrev s_levels_to : Stmt := top 13
theorem sc_levels_to : FnScope ["one", "other", "goal", "levels", "last", "level", "diagonal", "starts"] ["one", "other"] (defScope s_levels_to) := ⟨rfl, rfl, rfl, by decide +kernel, rfl, by decide +kernel, by decide +kernel⟩
theorem b_levels_to {f : Addr} {fd : FuncData} (F : Fun K "levels_to" "levels_to" s_levels_to f fd) (T : Txt mg) (c_run_on : CalG P w K mg base CX0 1 "run_on" spRun) (c_starts_behind : CalG P w K mg base CX0 1 "starts_behind" spStarts) : FnG P w K mg base CX0 2 f fd ["one", "other"] spLevels := by
  refine okG0 F sc_levels_to (fun vs H Q E h => ?_) (fun cdv A outer s H vs Q E hg hr h => ?_)
  · obtain ⟨x, y, rfl, _⟩ := h
    rfl
  · have hu := hu_of hr
    have hu64 := hr.units
    obtain ⟨x, y, rfl, hx, hy, k⟩ := h
    have xl : x.length ≤ sizeLine := Nat.le_trans hx (by decide)
    have yl : y.length ≤ sizeLine := Nat.le_trans hy (by decide)
    have lx := ll_len x
    have ly := ll_len y
    refine ⟨_, (pss_cons (ps_set (i := 2) sc_levels_to.nd rfl (Or.inl rfl) (pe_op op_sub (pe_callB call_len (by rfl) T.len (by decide +kernel) (pa_cons (pv 1) pa_nil)) (pe_callB call_len (by rfl) T.len (by decide +kernel) (pa_cons (pv 0) pa_nil))))
      (pss_cons (ps_set (i := 3) sc_levels_to.nd rfl (Or.inl rfl) (pe_lst (pa_cons (pe_disp (pps_cons pe_int (pe_cG c_run_on hg hr (by decide) pass0 (pa_cons (pv 0) (pa_cons (pv 1) (pa_cons pe_int (pa_cons pe_int pa_nil))))) pps_nil) (by rfl) (by rfl) (fun z => by cases z) (by decide)) pa_nil)))
      (pss_cons (ps_while PassesOwn.never (pt_cmpR op_ne (pe_dget1 hu (pe_ix ix_list (pv 3) (pe_un un_neg pe_int) (fun _ _ => rfl)) (pv 2) ⟨rfl, rfl, rfl, rfl⟩) (pe_callB call_len (by rfl) T.len (by decide +kernel) (pa_cons (pv 0) pa_nil)) (nomark _)) (pss_cons (ps_set (i := 4) sc_levels_to.nd rfl (Or.inl rfl) (pe_ix ix_list (pv 3) (pe_un un_neg pe_int) (fun _ _ => rfl)))
      (pss_cons (ps_set (i := 5) sc_levels_to.nd rfl (Or.inl rfl) pe_dnewK)
      (pss_cons (ps_for PassesOwn.never rfl (pi_range2 rfl T.range (pa_cons (pe_op op_sub (pe_callB (cr_min rfl) (by rfl) T.min (by decide +kernel) (pa_cons (pe_callTy (call_listD rfl) (by rfl) T.list (by decide +kernel) (pa_cons (pv 4) pa_nil)) pa_nil)) pe_int) (pa_cons (pe_op op_add (pe_callB (cr_max rfl) (by rfl) T.max (by decide +kernel) (pa_cons (pe_callTy (call_listD rfl) (by rfl) T.list (by decide +kernel) (pa_cons (pv 4) pa_nil)) pa_nil)) pe_int) pa_nil))) (pg_name (i := 6) sc_levels_to.nd rfl (Or.inl rfl)) (pss_cons (ps_set (i := 7) sc_levels_to.nd rfl (Or.inl rfl) (pe_cG c_starts_behind hg hr (by decide) pass0 (pa_cons (pv 0) (pa_cons (pv 1) (pa_cons (pv 4) (pa_cons (pv 6) pa_nil))))))
      (pss_one (ps_if (pt_truthK (K := K) rfl (pv 7)) (pss_one (ps_dput hu (pv 5) (pv 6) (pe_cG c_run_on hg hr (by decide) pass0 (pa_cons (pv 0) (pa_cons (pv 1) (pa_cons (pe_ix ix_tup (pe_callB (Vk.cr_maxD rfl hu64) (by rfl) T.max (by decide +kernel) (pa_cons (pv 7) pa_nil)) pe_int (fun _ _ => rfl)) (pa_cons (pv 6) pa_nil))))) rfl)) pss_nil))))
      (pss_one (ps_expr (pe_bm PySem.F.plainAttrs_list PySem.F.slot_list_append PySem.F.type_list_append mt_append (pv 3) (pa_cons (pv 5) pa_nil))))))))
      (pss_one (ps_ret (pv 3)))))), ?_⟩
    refine ⟨_, rfl, _, _, rfl, ⟨yl, rfl⟩, _, rfl, _, _, rfl, ⟨xl, rfl⟩, _, _, rfl, rfl, ?_⟩
    have on0 : On (ll x) (ll y) 0 0 := ⟨Nat.zero_le _, by omega, by omega⟩
    intro p hp
    refine ⟨_, rfl, _, rfl, x, y, 0, 0, rfl, hx, hy, on0, upd_same, [((Sum.inl 0 : Key), V.int (goM (ll x) (ll y) 0 0 : Nat))], rfl, (by show 1 ≤ 15; decide), by show 1 ≤ sizeLine; decide, fun l hl => ?_⟩
    rw [upd_twice] at hl ⊢
    have sp := same_new (o := .dK (mergeK [] [((Sum.inl 0 : Key), V.int (goM (ll x) (ll y) 0 0 : Nat))])) hp
    have hlH := none_up sp hl
    have sl := same_new (o := .lst [.ref p]) hl
    have lv0 : LvD (upd H p (.dK (mergeK [] [((Sum.inl 0 : Key), V.int (goM (ll x) (ll y) 0 0 : Nat))]))) p (lvM (ll x) (ll y) 0) := by
      refine ⟨_, upd_same, fun d => ?_, fun kv hk => ?_, by show 1 ≤ 1000; decide⟩
      · show valV [((Sum.inl 0 : Key), V.int (goM (ll x) (ll y) 0 0 : Nat))] (Sum.inl d) = (if d = 0 then some (goM (ll x) (ll y) 0 0) else none).map _
        by_cases h : d = 0
        · rw [h, if_pos rfl]
          exact valV_pos rfl
        · rw [if_neg h]
          exact (valV_neg (fun e => h (Sum.inl.inj e).symm)).trans valV_nil
      · rw [List.mem_singleton.mp (show kv ∈ [((Sum.inl 0 : Key), V.int (goM (ll x) (ll y) 0 0 : Nat))] from hk)]
        exact ⟨0, rfl⟩
    generalize mergeK [] [((Sum.inl 0 : Key), V.int (goM (ll x) (ll y) 0 0 : Nat))] = kv0 at lv0 sp sl hl ⊢
    refine ⟨fun m σ H' => ∃ (e : Nat) (refs : List V) (o4 o5 o6 o7 : Option V), σ = [some (.str x), some (.str y), some (.int ((y.length : Int) - x.length)), some (.ref l), o4, o5, o6, o7] ∧ e ≤ dst (ll x) (ll y) ∧ H' l = some (.lst refs) ∧ LvsR H' x y refs (List.range (e + 1)) ∧ Same H H' ∧ m = dst (ll x) (ll y) - e, ⟨_, 0, [.ref p], none, none, none, none, rfl, Nat.zero_le _, upd_same, .cons ⟨p, rfl, lv0.keep sl⟩ .nil, sp.trans sl, rfl⟩, ?_⟩
    rintro m σ H1 ⟨e, refs, o4, o5, o6, o7, rfl, he, hl1, lvs, s1, rfl⟩
    have rl := paired_len lvs
    rw [List.length_range] at rl
    obtain ⟨v, hv⟩ : ∃ v, refs[e]? = some v := ⟨refs[e]'(by omega), List.getElem?_eq_getElem (by omega)⟩
    obtain ⟨e', he', r, rfl, lv⟩ := paired_at lvs hv
    have : e' = e := by
      rw [List.getElem?_range (by omega)] at he'
      exact (Option.some.inj he').symm
    subst this
    have atl : atI refs (-1) = some (.ref r) := atI_end hv (by omega)
    have isd : IsD H1 r := by
      obtain ⟨kvs, h1, _⟩ := lv
      exact .inl ⟨kvs, .inl h1⟩
    refine ⟨_, rfl, _, rfl, l, refs, _, .ref r, rfl, rfl, SqL.of hl1, atl, r, rfl, isd, _, rfl, _, lv.get _, ?_⟩
    have hlc : lvM (ll x) (ll y) e' (((y.length : Nat) : Int) - x.length) = some x.length ↔ e' = dst (ll x) (ll y) := by
      have := lv_goal (a := ll x) (b := ll y) he
      rwa [lx, ly] at this
    have ok := lv_ok (ll x) (ll y) e'
    refine ⟨_, rfl, _, _, rfl, ⟨xl, rfl⟩, ?_⟩
    have val : ∃ v, ((lvM (ll x) (ll y) e' (((y.length : Nat) : Int) - x.length)).map fun i => V.int (i : Nat)).getD .non = v ∧ scal v (V.int (x.length : Nat)) = true ∧ (decide (v = V.int (x.length : Nat)) = decide (e' = dst (ll x) (ll y))) := by
      cases q : lvM (ll x) (ll y) e' (((y.length : Nat) : Int) - x.length) with
      | none =>
        refine ⟨_, rfl, rfl, decide_eq_decide.mpr ⟨fun z => (nomatch z), fun z => ?_⟩⟩
        rw [q] at hlc
        exact (nomatch hlc.mpr z)
      | some i =>
        refine ⟨_, rfl, rfl, decide_eq_decide.mpr ⟨fun z => hlc.mp ?_, fun z => ?_⟩⟩
        · have := V.int.inj z
          rw [q, show i = x.length by omega]
        · have := hlc.mpr z
          rw [q] at this
          cases this
          rfl
    obtain ⟨v, ev, fv, dv⟩ := val
    rw [ev]
    refine ⟨fv, _, rfl, ?_⟩
    rw [dv]
    clear dv fv ev v
    by_cases ee : e' = dst (ll x) (ll y)
    · rw [decide_eq_true ee]
      rw [ee] at lvs
      exact iteF ⟨_, rfl, k l refs H1 hlH hl1 lvs s1⟩
    rw [decide_eq_false ee]
    have elt : e' < dst (ll x) (ll y) := by omega
    refine iteT ⟨fun σ' H' => ∃ (refs : List V) (o4 o5 o6 o7 : Option V), σ' = [some (.str x), some (.str y), some (.int ((y.length : Int) - x.length)), some (.ref l), o4, o5, o6, o7] ∧ H' l = some (.lst refs) ∧ LvsR H' x y refs (List.range (e' + 1 + 1)) ∧ Same H H', ?_, ?_⟩
    · rintro σ' H' ⟨refs, o4, o5, o6, o7, rfl, h1, h2, h3⟩
      exact ⟨_, (by omega : dst (ll x) (ll y) - (e' + 1) < dst (ll x) (ll y) - e'), e' + 1, refs, o4, o5, o6, o7, rfl, by omega, h1, h2, h3, rfl⟩
    refine ⟨_, rfl, _, rfl, l, refs, _, .ref r, rfl, rfl, SqL.of hl1, atl, ?_⟩
    refine name_go ?_
    intro r5 hr5
    have s5 := same_new (o := .dK []) hr5
    have lv5 := lv.keep s5
    have hr5H := none_up s1 hr5
    have h5 : (upd H1 r5 (.dK [])) r5 = some (.dK []) := upd_same
    generalize upd H1 r5 (.dK []) = H5 at lv5 s5 h5 ⊢
    refine name_go ?_
    dsimp only
    obtain ⟨kvs, hk, hv, hkey, hlen⟩ := lv5
    obtain ⟨d0, i0, f0, _⟩ := lv_has (ll x) (ll y) e' he
    have mem : ∀ {d : Int}, d ∈ kvs.map keyI ↔ ∃ i, lvM (ll x) (ll y) e' d = some i := key_mem hv hkey
    have d0m := mem.mpr ⟨i0, f0⟩
    have npos : 0 < (kvs.map keyI).length := List.length_pos_of_mem d0m
    refine ⟨_, rfl, r, kvs, rfl, .inl hk, fun q1 hq1 => ?_⟩
    have sq1 := same_new (o := .lst (kvs.map fun kv => kV kv.1)) hq1
    refine ⟨q1, _, rfl, SqL.of (by rw [upd_same, keys_int hkey]), npos, fun lo hlo hmin => ⟨_, _, rfl, rfl, _, rfl, r, kvs, rfl, .inl (sq1 _ _ hk), fun q2 hq2 => ?_⟩⟩
    have sq2 := same_new (o := .lst (kvs.map fun kv => kV kv.1)) hq2
    refine ⟨q2, _, rfl, SqL.of (by rw [upd_same, keys_int hkey]), npos, fun hi hhi hmax => ⟨_, _, rfl, rfl, ?_⟩⟩
    have s7 := sq1.trans sq2
    generalize upd (upd H5 q1 (.lst (kvs.map fun kv => kV kv.1))) q2 (.lst (kvs.map fun kv => kV kv.1)) = H7 at s7 ⊢
    obtain ⟨il, fl⟩ := mem.mp hlo
    obtain ⟨ih, fh⟩ := mem.mp hhi
    obtain ⟨ol1, ol2, ol3⟩ := ok.on _ _ fl
    obtain ⟨oh1, oh2, oh3⟩ := ok.on _ _ fh
    have none_lo : ∀ d, d < lo → lvM (ll x) (ll y) e' d = none := fun d hd => by
      cases q : lvM (ll x) (ll y) e' d with
      | none => rfl
      | some i =>
        have := hmin d (mem.mpr ⟨i, q⟩)
        omega
    have none_hi : ∀ d, hi < d → lvM (ll x) (ll y) e' d = none := fun d hd => by
      cases q : lvM (ll x) (ll y) e' d with
      | none => rfl
      | some i =>
        have := hmax d (mem.mpr ⟨i, q⟩)
        omega
    have lohi := hmin _ hhi
    refine ⟨_, _, rfl, ⟨by omega, by omega, by omega, by omega⟩, ?_⟩
    have s57 := s5.trans s7
    have h7 := s7 _ _ h5
    clear h5 s5 hk s7 sq1 sq2 hq1 hq2
    refine for_range (lo := lo - 1) (n := (hi + 2 - (lo - 1)).toNat) (fun t σ H' => ∃ (o6 o7 : Option V) (kv5 : List (Key × V)), σ = [some (.str x), some (.str y), some (.int ((y.length : Int) - x.length)), some (.ref l), some (.ref r), some (.ref r5), o6, o7] ∧ Same H1 H' ∧ H' r5 = some (.dK kv5) ∧ (∀ d : Int, valV kv5 (Sum.inl d) = if d < lo - 1 + t then (nxM (ll x) (ll y) (lvM (ll x) (ll y) e') d).map (fun i => V.int (i : Nat)) else none) ∧ (∀ kv ∈ kv5, ∃ d : Int, kv.1 = Sum.inl d) ∧ kv5.length ≤ t) ?_ ?_ ?_
    · refine ⟨_, _, [], rfl, s57, h7, fun d => ?_, fun kv hk => absurd hk List.not_mem_nil, Nat.le_refl _⟩
      rw [valV_nil]
      by_cases hd : d < lo - 1 + (0 : Nat)
      · rw [if_pos hd, nx_none (none_lo _ (by omega)) (none_lo _ (by omega)) (none_lo _ (by omega))]
        rfl
      · rw [if_neg hd]
    · rintro t σ H8 ht ⟨o6, o7, kv5, rfl, s8, h8, v8, k8, l8⟩
      have lv8 := lv.keep s8
      refine ⟨_, rfl, _, rfl, _, rfl, _, rfl, x, y, r, _, _, rfl, hx, hy, lv8, fun l7 xs7 H9 hl7 hl7' ns s9 => ?_⟩
      refine name_go ?_
      have h9 := s9 _ _ h8
      have s19 := s8.trans s9
      have nl := paired_len ns
      refine ⟨_, rfl, !xs7.isEmpty, .inl ⟨_, SqL.of hl7', rfl⟩, ?_⟩
      by_cases hne : stM (ll x).length (ll y).length (lvM (ll x) (ll y) e') (lo - 1 + t) = []
      · have nz : nxM (ll x) (ll y) (lvM (ll x) (ll y) e') (lo - 1 + t) = none := by unfold nxM; rw [if_pos hne]
        rw [hne] at nl
        rw [List.eq_nil_of_length_eq_zero nl]
        refine iteF ⟨_, _, kv5, rfl, s19, h9, fun d => ?_, k8, by omega⟩
        rw [v8]
        by_cases h1 : d < lo - 1 + t
        · rw [if_pos h1, if_pos (by omega)]
        · rw [if_neg h1]
          by_cases h2 : d < lo - 1 + ((t + 1 : Nat) : Int)
          · rw [if_pos h2, show d = lo - 1 + t by omega, nz]
            rfl
          · rw [if_neg h2]
      · have tr : (!xs7.isEmpty) = true := by
          cases xs7 with
          | nil => exact absurd (List.eq_nil_of_length_eq_zero nl.symm) hne
          | cons a b => rfl
        rw [tr]
        obtain ⟨m1, m2, m3, m4, m5⟩ := max_st ns hne
        refine iteT ⟨_, rfl, _, rfl, _, rfl, l7, xs7, _, _, rfl, SqL.of hl7', ns_dp ns, m1, m2, m3, m4, fun iv v hv hm => ?_⟩
        obtain ⟨p, u, rfl, hp, htop, hu⟩ := m5 iv v hv hm
        have on := (st_on ok hp).1
        refine ⟨u, _, _, _, rfl, rfl, SqT.of hu, rfl, _, rfl, x, y, p.1, _, rfl, hx, hy, on, _, rfl, _, rfl, r5, _, rfl, DPut.k (k := Sum.inl (lo - 1 + t)) h9 (fewL (by omega)), ?_⟩
        have nz : nxM (ll x) (ll y) (lvM (ll x) (ll y) e') (lo - 1 + t) = some (goM (ll x) (ll y) p.1 (lo - 1 + t)) := by unfold nxM; rw [if_neg hne, htop]
        refine ⟨_, _, _, rfl, fun b o hb => ?_, upd_same, fun d => ?_, fun kv hk => ?_, ?_⟩
        · rw [upd_ne (fun z => by rw [z, hr5] at hb; cases hb)]
          exact s19 _ _ hb
        · rw [valV_put, v8]
          by_cases h0 : d = lo - 1 + t
          · subst h0
            rw [if_pos rfl, if_pos (by omega), nz]
            rfl
          · rw [if_neg (fun z => h0 (Sum.inl.inj z))]
            by_cases h1 : d < lo - 1 + t
            · rw [if_pos h1, if_pos (by omega)]
            · rw [if_neg h1, if_neg (by omega)]
        · rcases put_key hk with e | ⟨kv2, hk2, e⟩
          · exact ⟨_, e⟩
          · obtain ⟨d, ed⟩ := k8 kv2 hk2
            exact ⟨d, by rw [← e]; exact ed⟩
        · have := length_putK kv5 (Sum.inl (lo - 1 + t) : Key) (V.int (goM (ll x) (ll y) p.1 (lo - 1 + t) : Nat))
          omega
    · rintro σ H8 ⟨o6, o7, kv5, rfl, s8, h8, v8, k8, l8⟩
      have hl8 := s8 _ _ hl1
      have du := dst_up (ll x) (ll y)
      refine ⟨_, rfl, .inl ⟨rfl, _, SqL.of hl8⟩, _, rfl, l, _, _, rfl, rfl, hl8, fewL (by omega), ?_⟩
      refine ⟨_, _, _, _, _, rfl, upd_same, ?_, upd_out hlH (s1.trans s8)⟩
      rw [List.range_succ]
      refine Paired.snoc ((lvs.keep s8).list hl8) ⟨r5, rfl, LvD.list ⟨kv5, h8, fun d => ?_, k8, by omega⟩ hl8⟩
      rw [v8]
      show _ = (nxM (ll x) (ll y) (lvM (ll x) (ll y) e') d).map _
      by_cases h1 : d < lo - 1 + (((hi + 2 - (lo - 1)).toNat : Nat) : Int)
      · rw [if_pos h1]
      · rw [if_neg h1, nx_none (none_hi _ (by omega)) (none_hi _ (by omega)) (none_hi _ (by omega))]
        rfl
end
end Vk
set_option Elab.async false
set_option maxRecDepth 100000
set_option linter.all false
set_option maxHeartbeats 4000000
namespace Vk
open PySem PySem.Spec PyProof.Rows L2
section
variable {P : Program} {w : World} {K : PySem.W.Frag} {mg : Str → Option Value} {base : Heap}
def spDist : Sp := fun vs H Q _ => ∃ x y, vs = [.str x, .str y] ∧ x.length ≤ 200 ∧ y.length ≤ 200 ∧ ∀ H', Same H H' → Q (.int (dst (ll x) (ll y) : Nat)) H'
abbrev s_distance : Stmt := top 14
theorem sc_distance : FnScope ["one", "other"] ["one", "other"] (defScope s_distance) := ⟨rfl, rfl, rfl, by decide +kernel, rfl, by decide +kernel, by decide +kernel⟩
theorem b_distance {f : Addr} {fd : FuncData} (F : Fun K "distance" "distance" s_distance f fd) (T : Txt mg) (c_levels_to : CalG P w K mg base CX0 2 "levels_to" spLevels) : FnG P w K mg base CX0 3 f fd ["one", "other"] spDist := by
  refine okG0 F sc_distance (fun vs H Q E h => ?_) (fun cdv A outer s H vs Q E hg hr h => ?_)
  · obtain ⟨x, y, rfl, _⟩ := h
    rfl
  · have hu := hu_of hr
    have hu64 := hr.units
    obtain ⟨x, y, rfl, hx, hy, k⟩ := h
    refine ⟨_, (pss_one (ps_ret (pe_op op_sub (pe_callB call_len (by rfl) T.len (by decide +kernel) (pa_cons (pe_cG c_levels_to hg hr (by decide) pass0 (pa_cons (pv 0) (pa_cons (pv 1) pa_nil))) pa_nil)) pe_int))), ?_⟩
    refine ⟨_, rfl, _, rfl, x, y, rfl, hx, hy, fun l refs H' hl hl' lvs s => ?_⟩
    have rl := paired_len lvs
    rw [List.length_range] at rl
    have du := dst_up (ll x) (ll y)
    have lx := ll_len x
    have ly := ll_len y
    refine ⟨_, _, rfl, .inl ⟨_, SqL.of hl', rfl⟩, _, _, rfl, rfl, ?_⟩
    rw [rl]
    show Q (.int (((dst (ll x) (ll y) + 1 : Nat) : Int) - 1)) H'
    rw [show (((dst (ll x) (ll y) + 1 : Nat) : Int) - 1) = (dst (ll x) (ll y) : Nat) by omega]
    exact k H' s
/-! ## changes -/
def opV : Op → List V
  | .put i c => [.str "put", .int (i : Nat), .str ⟨#[c]⟩]
  | .drop i => [.str "drop", .int (i : Nat)]
  | .set i c => [.str "set", .int (i : Nat), .str ⟨#[c]⟩]
def OpsR (H : Hp) : List V → List Op → Prop := Paired fun v o => ∃ t, v = V.ref t ∧ H t = some (.tup (opV o))
theorem OpsR.keep {H H1 : Hp} {xs : List V} {ps : List Op} (h : OpsR H xs ps) (s : Same H H1) : OpsR H1 xs ps := pair_mono (fun v p ⟨t, e, ht⟩ => ⟨t, e, s _ _ ht⟩) h
theorem OpsR.keepT {H H1 : Hp} {xs : List V} {ps : List Op} (h : OpsR H xs ps) (s : ∀ u ws, H u = some (.tup ws) → H1 u = some (.tup ws)) : OpsR H1 xs ps := pair_mono (fun v p ⟨t, e, ht⟩ => ⟨t, e, s _ _ ht⟩) h
theorem OpsR.more {H : Hp} {l t : Addr} {xs : List V} {ps : List Op} {o : Op} (h : OpsR H xs ps) (hl : H l = some (.lst xs)) (ht : H t = none) : OpsR (upd (upd H t (.tup (opV o))) l (.lst (xs ++ [.ref t]))) (xs ++ [.ref t]) (ps ++ [o]) := by
  have st := same_new (o := .tup (opV o)) ht
  have hl2 := st _ _ hl
  exact Paired.snoc ((h.keep st).keepT (upd_list hl2)) ⟨t, rfl, upd_list hl2 _ _ upd_same⟩
theorem OpsR.moreE {H : Hp} {l t : Addr} {xs ws : List V} {ps : List Op} {o : Op} (h : OpsR H xs ps) (hl : H l = some (.lst xs)) (ht : H t = none) (e : ws = opV o) : OpsR (upd (upd H t (.tup ws)) l (.lst (xs ++ [.ref t]))) (xs ++ [.ref t]) (ps ++ [o]) := by
  subst e
  exact h.more hl ht
theorem cutV_but {xs : List V} {n : Nat} (h : xs.length = n + 1) : cutV xs none (some (-1)) = xs.take n := by
  unfold cutV
  rw [HT.sIx_none, List.drop_zero, Nat.sub_zero]
  refine congrArg (fun k => xs.take k) ?_
  show (if (-1 : Int) < 0 then (-1 + (xs.length : Int)).toNat else min (-1 : Int).toNat xs.length) = n
  rw [if_pos (by decide)]
  omega
def spChanges : Sp := fun vs H Q _ => ∃ x y, vs = [.str x, .str y] ∧ x.length ≤ 200 ∧ y.length ≤ 200 ∧ ∀ l xs cs H', H l = none → H' l = some (.lst xs) → OpsR H' xs cs → cs.length = dst (ll x) (ll y) → ToM (ll x) cs (ll y) → (∀ c ∈ cs, opL (ll y) c) → Same H H' → Q (.ref l) H'
abbrev s_changes : Stmt := top 15
theorem sc_changes : FnScope ["one", "other", "levels", "diagonal", "told", "level", "index", "word"] ["one", "other"] (defScope s_changes) := ⟨rfl, rfl, rfl, by decide +kernel, rfl, by decide +kernel, by decide +kernel⟩
theorem b_changes {f : Addr} {fd : FuncData} (F : Fun K "changes" "changes" s_changes f fd) (T : Txt mg) (c_levels_to : CalG P w K mg base CX0 2 "levels_to" spLevels) (c_starts_behind : CalG P w K mg base CX0 1 "starts_behind" spStarts) : FnG P w K mg base CX0 3 f fd ["one", "other"] spChanges := by
  refine okG0 F sc_changes (fun vs H Q E h => ?_) (fun cdv A outer s H vs Q E hg hr h => ?_)
  · obtain ⟨x, y, rfl, _⟩ := h
    rfl
  · have hu := hu_of hr
    have hu64 := hr.units
    obtain ⟨x, y, rfl, hx, hy, k⟩ := h
    have xl : x.length ≤ sizeLine := Nat.le_trans hx (by decide)
    have yl : y.length ≤ sizeLine := Nat.le_trans hy (by decide)
    have lx := ll_len x
    have ly := ll_len y
    have du := dst_up (ll x) (ll y)
    refine ⟨_, (pss_cons (ps_set (i := 2) sc_changes.nd rfl (Or.inl rfl) (pe_cG c_levels_to hg hr (by decide) pass0 (pa_cons (pv 0) (pa_cons (pv 1) pa_nil))))
      (pss_cons (ps_set (i := 3) sc_changes.nd rfl (Or.inl rfl) (pe_op op_sub (pe_callB call_len (by rfl) T.len (by decide +kernel) (pa_cons (pv 1) pa_nil)) (pe_callB call_len (by rfl) T.len (by decide +kernel) (pa_cons (pv 0) pa_nil))))
      (pss_cons (ps_set (i := 4) sc_changes.nd rfl (Or.inl rfl) (pe_lst pa_nil))
      (pss_cons (ps_for PassesOwn.never rfl (pi_reversed (by rfl) T.reversed (pa_cons (pe_slice sl_list (pv 2) po_none (po_some (pe_un un_neg pe_int))) pa_nil)) (pg_name (i := 5) sc_changes.nd rfl (Or.inl rfl)) (pss_cons (ps_asg (pe_callB (Vk.cr_maxD rfl hu64) (by rfl) T.max (by decide +kernel) (pa_cons (pe_cG c_starts_behind hg hr (by decide) pass0 (pa_cons (pv 0) (pa_cons (pv 1) (pa_cons (pv 5) (pa_cons (pv 3) pa_nil))))) pa_nil)) (pg_tup rfl (pgs_cons (pg_name (i := 6) sc_changes.nd rfl (Or.inl rfl)) (pgs_cons (pg_name (i := 7) sc_changes.nd rfl (Or.inl rfl)) pgs_nil))))
      (pss_one (ps_if (pt_cmpR op_eq (pv 7) pe_str (nomark _)) (pss_cons (ps_expr (pe_bm PySem.F.plainAttrs_list PySem.F.slot_list_append PySem.F.type_list_append mt_append (pv 4) (pa_cons (pe_tup (pa_cons pe_str (pa_cons (pv 6) (pa_cons (pe_ix ix_str (pv 1) (pe_op op_sub (pe_op op_add (pv 6) (pv 3)) pe_int) (fun _ _ => rfl)) pa_nil)))) pa_nil)))
      (pss_one (ps_aug (i := 3) sc_changes.nd rfl (Or.inl rfl) pe_int ip_sub))) (pss_one (ps_if (pt_cmpR op_eq (pv 7) pe_str (nomark _)) (pss_cons (ps_expr (pe_bm PySem.F.plainAttrs_list PySem.F.slot_list_append PySem.F.type_list_append mt_append (pv 4) (pa_cons (pe_tup (pa_cons pe_str (pa_cons (pe_op op_sub (pv 6) pe_int) pa_nil))) pa_nil)))
      (pss_one (ps_aug (i := 3) sc_changes.nd rfl (Or.inl rfl) pe_int ip_add))) (pss_one (ps_expr (pe_bm PySem.F.plainAttrs_list PySem.F.slot_list_append PySem.F.type_list_append mt_append (pv 4) (pa_cons (pe_tup (pa_cons pe_str (pa_cons (pe_op op_sub (pv 6) pe_int) (pa_cons (pe_ix ix_str (pv 1) (pe_op op_sub (pe_op op_add (pv 6) (pv 3)) pe_int) (fun _ _ => rfl)) pa_nil)))) pa_nil))))))))))
      (pss_one (ps_ret (pv 4))))))), ?_⟩
    refine ⟨_, rfl, _, rfl, x, y, rfl, hx, hy, fun ls refs H1 hls hls' lvs s1 => ?_⟩
    have rl := paired_len lvs
    rw [List.length_range] at rl
    refine name_go ⟨_, rfl, _, _, rfl, ⟨yl, rfl⟩, _, rfl, _, _, rfl, ⟨xl, rfl⟩, _, _, rfl, rfl, ?_⟩
    refine ⟨by show 0 ≤ sizeLine; decide, fun l hl => ?_⟩
    have sl := same_new (o := .lst []) hl
    have hlH := none_up s1 hl
    refine ⟨_, rfl, _, rfl, _, rfl, ls, refs, rfl, SqL.of (sl _ _ hls'), fun q hq => ?_⟩
    rw [cutV_but rl]
    have nq : l ≠ q := ne_of_none upd_same hq
    have sq := same_new (o := .lst (refs.take (dst (ll x) (ll y)))) hq
    have s2 := sl.trans sq
    have hl2 := sq _ _ (upd_same (H := H1) (a := l) (o := .lst []))
    have hq2 : (upd (upd H1 l (.lst [])) q (.lst (refs.take (dst (ll x) (ll y))))) q = some (.lst (refs.take (dst (ll x) (ll y)))) := upd_same
    have lvs2 := lvs.keep s2
    generalize upd (upd H1 l (.lst [])) q (.lst (refs.take (dst (ll x) (ll y)))) = H2 at s2 hl2 hq2 lvs2 ⊢
    have xD : (refs.take (dst (ll x) (ll y))).length = dst (ll x) (ll y) := by rw [List.length_take]; omega
    refine ⟨q, _, rfl, SqL.of hq2, ?_⟩
    refine RT.for_Itv (fun t σ H' => ∃ (d : Int) (o5 o6 o7 : Option V) (got : List V) (cs : List Op), σ = [some (.str x), some (.str y), some (.ref ls), some (.int d), some (.ref l), o5, o6, o7] ∧ BackM (ll x) (ll y) t d cs ∧ H' l = some (.lst got) ∧ OpsR H' got cs ∧ Same H1 H' ∧ H' q = some (.lst (refs.take (dst (ll x) (ll y))))) ?_ ?_ ?_ ?_
    · refine ⟨_, _, _, _, [], [], rfl, ?_, hl2, .nil, s2, hq2⟩
      have := back_0 (ll x) (ll y)
      rwa [lx, ly] at this
    · rintro i σ H' ⟨d, o5, o6, o7, got, cs, rfl, _, _, _, _, h⟩
      exact SqL.of h
    · rintro t v σ H3 ht hv ⟨d, o5, o6, o7, got, cs, rfl, bk, hl3, ops, s3, hq3⟩
      rw [xD] at ht hv
      obtain ⟨hne, step⟩ := back_1 bk ht
      rw [List.getElem?_take, if_pos (by omega)] at hv
      obtain ⟨e', he', r, rfl, lv⟩ := paired_at lvs hv
      have ee : e' = dst (ll x) (ll y) - 1 - t := by
        rw [List.getElem?_range (by omega)] at he'
        exact (Option.some.inj he').symm
      subst ee
      have gl := paired_len ops
      have gl2 := bk.len
      refine ⟨_, rfl, _, rfl, _, rfl, _, rfl, x, y, r, d, _, rfl, hx, hy, lv.keep s3, fun l7 xs7 H4 hl7 hl7' ns s4 => ?_⟩
      obtain ⟨m1, m2, m3, m4, m5⟩ := max_st ns hne
      refine ⟨l7, xs7, _, _, rfl, SqL.of hl7', ns_dp ns, m1, m2, m3, m4, fun iv v hv2 hm => ?_⟩
      obtain ⟨p, u, rfl, hp, htop, hu4⟩ := m5 iv v hv2 hm
      obtain ⟨bk2, b1, b2, b3⟩ := step p hp htop
      have hl4 := s4 _ _ hl3
      have ops4 := ops.keep s4
      have s14 := s3.trans s4
      have hq4 := s4 _ _ hq3
      obtain ⟨i0, wd⟩ := p
      have lt : got.length < sizeLine := fewL (by omega)
      cases wd with
      | put =>
        refine ⟨u, _, rfl, SqT.of hu4, rfl, _, _, rfl, _, _, rfl, rfl, _, rfl, rfl, _, rfl, ?_⟩
        rw [show decide (V.str (wS Wd.put) = V.str "put") = true from by decide]
        obtain ⟨c1, c2⟩ := b2 (fun z => nomatch z)
        simp only at b1 c1 c2
        have ej : (i0 : Int) + d - 1 = (((i0 : Int) + d - 1).toNat : Nat) := by omega
        refine iteT ⟨_, rfl, .inl ⟨rfl, _, SqL.of hl4⟩, _, rfl, _, rfl, _, rfl, _, rfl, _, _, rfl, rfl, _, _, rfl, rfl, y, _, fnL (ll y) ((i0 : Int) + d - 1).toNat, rfl, rfl, yl, ?_, by show 3 ≤ sizeLine; decide, fun t ht => ?_⟩
        · rw [ej]
          exact atI_ll (by omega)
        have st := same_new (o := .tup [V.str "put", V.int ((i0 : Nat) : Int), V.str ⟨#[fnL (ll y) ((i0 : Int) + d - 1).toNat]⟩]) ht
        refine ⟨l, _, _, rfl, rfl, st _ _ hl4, lt, _, rfl, _, _, rfl, rfl, _, _, _, _, _, _, rfl, bk2, upd_same, OpsR.moreE ops4 hl4 ht rfl, upd_out hl (s14.trans st), ?_⟩
        rw [upd_ne (Ne.symm nq)]
        exact st _ _ hq4
      | drop =>
        refine ⟨u, _, rfl, SqT.of hu4, rfl, _, _, rfl, _, _, rfl, rfl, _, rfl, rfl, _, rfl, ?_⟩
        rw [show decide (V.str (wS Wd.drop) = V.str "put") = false from by decide]
        refine iteF ⟨_, rfl, rfl, _, rfl, ?_⟩
        rw [show decide (V.str (wS Wd.drop) = V.str "drop") = true from by decide]
        have c3 := b3 (fun z => nomatch z)
        simp only at b1 c3
        have eo : [V.str "drop", V.int (((i0 : Nat) : Int) - 1)] = opV (opOf (ll y) (i0, .drop) d) := by
          show _ = [V.str "drop", V.int ((i0 - 1 : Nat) : Int)]
          rw [show (((i0 : Nat) : Int) - 1) = ((i0 - 1 : Nat) : Int) by omega]
        refine iteT ⟨_, rfl, .inl ⟨rfl, _, SqL.of hl4⟩, _, rfl, _, _, rfl, rfl, by show 2 ≤ sizeLine; decide, fun t ht => ?_⟩
        have st := same_new (o := .tup [V.str "drop", V.int (((i0 : Nat) : Int) - 1)]) ht
        refine ⟨l, _, _, rfl, rfl, st _ _ hl4, lt, _, rfl, _, _, rfl, rfl, _, _, _, _, _, _, rfl, bk2, upd_same, OpsR.moreE ops4 hl4 ht eo, upd_out hl (s14.trans st), ?_⟩
        rw [upd_ne (Ne.symm nq)]
        exact st _ _ hq4
      | set =>
        refine ⟨u, _, rfl, SqT.of hu4, rfl, _, _, rfl, _, _, rfl, rfl, _, rfl, rfl, _, rfl, ?_⟩
        rw [show decide (V.str (wS Wd.set) = V.str "put") = false from by decide]
        refine iteF ⟨_, rfl, rfl, _, rfl, ?_⟩
        rw [show decide (V.str (wS Wd.set) = V.str "drop") = false from by decide]
        obtain ⟨c1, c2⟩ := b2 (fun z => nomatch z)
        have c3 := b3 (fun z => nomatch z)
        simp only at b1 c1 c2 c3
        have ej : (i0 : Int) + d - 1 = (((i0 : Int) + d - 1).toNat : Nat) := by omega
        have eo : [V.str "set", V.int (((i0 : Nat) : Int) - 1), V.str ⟨#[fnL (ll y) ((i0 : Int) + d - 1).toNat]⟩] = opV (opOf (ll y) (i0, .set) d) := by
          show _ = [V.str "set", V.int ((i0 - 1 : Nat) : Int), V.str ⟨#[fnL (ll y) ((i0 : Int) + d - 1).toNat]⟩]
          rw [show (((i0 : Nat) : Int) - 1) = ((i0 - 1 : Nat) : Int) by omega]
        refine iteF ⟨_, rfl, .inl ⟨rfl, _, SqL.of hl4⟩, _, rfl, _, _, rfl, rfl, _, rfl, _, rfl, _, rfl, _, _, rfl, rfl, _, _, rfl, rfl, y, _, fnL (ll y) ((i0 : Int) + d - 1).toNat, rfl, rfl, yl, ?_, by show 3 ≤ sizeLine; decide, fun t ht => ?_⟩
        · rw [ej]
          exact atI_ll (by omega)
        have st := same_new (o := .tup [V.str "set", V.int (((i0 : Nat) : Int) - 1), V.str ⟨#[fnL (ll y) ((i0 : Int) + d - 1).toNat]⟩]) ht
        refine ⟨l, _, _, rfl, rfl, st _ _ hl4, lt, _, _, _, _, _, _, rfl, bk2, upd_same, OpsR.moreE ops4 hl4 ht eo, upd_out hl (s14.trans st), ?_⟩
        rw [upd_ne (Ne.symm nq)]
        exact st _ _ hq4
    · rintro σ H3 ⟨d, o5, o6, o7, got, cs, rfl, bk, hl3, ops, s3, hq3⟩
      rw [xD] at bk
      exact ⟨_, rfl, k l got cs H3 hlH hl3 ops bk.len (back_end bk) bk.let_ (s1.trans s3)⟩
end
end Vk
set_option Elab.async false
set_option maxRecDepth 100000
set_option linter.all false
namespace Vk
open PySem PySem.Spec PyProof.Rows L2
section
variable {P : Program} {w : World} {K : PySem.W.Frag} {mg : Str → Option Value} {base : Heap}
def srtB : PyData → Bool
  | .str z => decide (z.length ≤ 1000) && PyData.strOk z
  | _ => true
def elB : PyData → Bool
  | .tuple l => l.all srtB && decide (l.length ≤ 100)
  | _ => true
def okC (d : PyData) : Bool := okB d && srtB d && PyData.strOk d.shown && elB d
/-- the strings within a tuple are short -/
def El (d : PyData) : Prop := ∀ l, d = .tuple l → ∀ x ∈ l, Srt x
theorem srtB_srt {d : PyData} (h : srtB d = true) : Srt d := by
  cases d with
  | str z =>
    unfold srtB at h
    rw [Bool.and_eq_true, decide_eq_true_eq] at h
    exact h
  | _ => trivial
theorem okC_el {d : PyData} (h : okC d = true) : El d := by
  unfold okC at h
  rw [Bool.and_eq_true] at h
  rintro l rfl x hx
  exact srtB_srt (List.all_eq_true.mp (Bool.and_eq_true_iff.mp h.2).1 x hx)
def spAny : Sp := fun vs H Q _ => ∃ (p c : Addr) (T : Nat), vs = [.ref p] ∧ Pen H p c T ∧ T < 1000000000 ∧ ∀ (v : V) (d : PyData) (H' : Hp), Th H' v d → okC d = true → New H v → Pen H' p c (T + 1) → Ext p H H' → Q v H'
abbrev ds1 : List PyData := [.none, .bool true, .bool false, .int 0, .int 1, .int (-1), .int (10 ^ (59 : Int).toNat), .str "", .str "a", .str "\t", .str "a\t", .str "ab", .tuple [], .tuple [.str "a"], .tuple [.str "a", .str "b"], .list [.str "a", .str "b"], .dict (kvD [])]
abbrev ds2 : List PyData := [.list [.int 1], .tuple [.str "a", .int 1], .tuple [.str "", .str "a"], .tuple [.str "a", .str "\t"], .tuple [.str "a", .str "b", .str "c"], .dict (kvD [("a", "b")]), .str "once", .tuple [.str (Txt.mul "a" 41), .str ""]]
abbrev ds3 : List PyData := [.tuple [.str "a", .str (Txt.mul "b" 41)], .str (Txt.mul "a" 41), .str (Txt.mul "b" 50), .tuple [.int 0, .int 1], .list [], .tuple [.str "a", .none]]
abbrev s_lany_value : Stmt := top 25
theorem sc_lany_value : FnScope ["_law_pen_here", "_law_some"] ["_law_pen_here"] (defScope s_lany_value) := ⟨rfl, rfl, rfl, by decide +kernel, rfl, by decide +kernel, by decide +kernel⟩
theorem b_lany_value {f : Addr} {fd : FuncData} (F : Fun K "_law_any_value" "_law_any_value" s_lany_value f fd) (T : Txt mg) (c_lpick : CalG P w K mg base CX0 2 "_law_pick" (spPick K)) : FnG P w K mg base CX0 3 f fd ["_law_pen_here"] spAny := by
  refine okG0 F sc_lany_value (fun vs H Q E h => ?_) (fun cdv A outer s H vs Q E hg hr h => ?_)
  · obtain ⟨p, c, T0, rfl, _⟩ := h
    rfl
  · have hu := hu_of hr
    have hu64 := hr.units
    obtain ⟨p, c, T0, rfl, hpen, hT, k⟩ := h
    have hr2 : Room 2 _ := hr
    refine ⟨_, (pss_cons (ps_set (i := 1) sc_lany_value.nd rfl (Or.inl rfl) (pe_lst (pa_cons pe_non (pa_cons pe_bl (pa_cons pe_bl (pa_cons pe_int (pa_cons pe_int (pa_cons (pe_un un_neg pe_int) (pa_cons (pe_op op_pow pe_int pe_int) (pa_cons pe_str (pa_cons pe_str (pa_cons pe_str (pa_cons pe_str (pa_cons pe_str (pa_cons (pe_tup pa_nil) (pa_cons (pe_tup (pa_cons pe_str pa_nil)) (pa_cons (pe_tup (pa_cons pe_str (pa_cons pe_str pa_nil))) (pa_cons (pe_ls1 (pa_cons pe_str (pa_cons pe_str pa_nil))) (pa_cons pe_dnewK pa_nil)))))))))))))))))))
      (pss_cons (ps_set (i := 1) sc_lany_value.nd rfl (Or.inl rfl) (pe_op op_cat (pv 1) (pe_lst (pa_cons (pe_ls1 (pa_cons pe_int pa_nil)) (pa_cons (pe_tup (pa_cons pe_str (pa_cons pe_int pa_nil))) (pa_cons (pe_tup (pa_cons pe_str (pa_cons pe_str pa_nil))) (pa_cons (pe_tup (pa_cons pe_str (pa_cons pe_str pa_nil))) (pa_cons (pe_tup (pa_cons pe_str (pa_cons pe_str (pa_cons pe_str pa_nil)))) (pa_cons (pe_disp (pps_cons pe_str pe_str pps_nil) (by rfl) (by rfl) (fun z => by cases z) (by decide)) (pa_cons pe_str (pa_cons (pe_tup (pa_cons (pe_op op_mulS pe_str pe_int) (pa_cons pe_str pa_nil))) pa_nil)))))))))))
      (pss_one (ps_ret (pe_cG c_lpick hg hr (by decide) pass0 (pa_cons (pv 0) (pa_cons (pe_op op_cat (pv 1) (pe_lst (pa_cons (pe_tup (pa_cons pe_str (pa_cons (pe_op op_mulS pe_str pe_int) pa_nil))) (pa_cons (pe_op op_mulS pe_str pe_int) (pa_cons (pe_op op_mulS pe_str pe_int) (pa_cons (pe_tup (pa_cons pe_int (pa_cons pe_int pa_nil))) (pa_cons (pe_ls1 pa_nil) (pa_cons (pe_tup (pa_cons pe_str (pa_cons pe_non pa_nil))) pa_nil)))))))) pa_nil))))))), ?_⟩
    refine seq_asg (mk2_many (ds := ds1) ?m1 ?l1 fun q1 xs1 H1 s1 hq1 t1 n1 => ?_)
    case m1 => repeat' (first | exact mks2_nil | refine mks2_cons ?_ ?_ | exact mk2_dnew | exact mk2_disp | refine mk2_tup ?_ (Nat.le_of_ble_eq_true rfl) | refine mk2_lst ?_ (Nat.le_of_ble_eq_true rfl) | exact mas_nil | refine mas_cons ?_ ?_ | exact ma_non | exact ma_bl | exact ma_int | exact ma_str | exact ma_neg | exact ma_pow ⟨by decide, by decide, by decide⟩ | exact ma_mul ⟨by decide, by decide, by decide, by decide +kernel⟩ | refine mk2_atm ?_)
    case l1 => exact Nat.le_of_ble_eq_true rfl
    refine seq_asg ⟨_, rfl, mk2_many (ds := ds2) ?m2 ?l2 fun q2 xs2 H2 s2 hq2 t2 n2 => ?_⟩
    case m2 => repeat' (first | exact mks2_nil | refine mks2_cons ?_ ?_ | exact mk2_dnew | exact mk2_disp | refine mk2_tup ?_ (Nat.le_of_ble_eq_true rfl) | refine mk2_lst ?_ (Nat.le_of_ble_eq_true rfl) | exact mas_nil | refine mas_cons ?_ ?_ | exact ma_non | exact ma_bl | exact ma_int | exact ma_str | exact ma_neg | exact ma_pow ⟨by decide, by decide, by decide⟩ | exact ma_mul ⟨by decide, by decide, by decide, by decide +kernel⟩ | refine mk2_atm ?_)
    case l2 => exact Nat.le_of_ble_eq_true rfl
    refine ⟨q1, q2, xs1, xs2, rfl, rfl, s2 _ _ hq1, hq2, few_len (by rw [paired_len t1, paired_len t2]; exact Nat.le_of_ble_eq_true rfl), fun q3 hq3 => ?_⟩
    refine ⟨_, rfl, _, rfl, mk2_many (ds := ds3) ?m3 ?l3 fun q4 xs4 H4 s4 hq4 t4 n4 => ?_⟩
    case m3 => repeat' (first | exact mks2_nil | refine mks2_cons ?_ ?_ | exact mk2_dnew | exact mk2_disp | refine mk2_tup ?_ (Nat.le_of_ble_eq_true rfl) | refine mk2_lst ?_ (Nat.le_of_ble_eq_true rfl) | exact mas_nil | refine mas_cons ?_ ?_ | exact ma_non | exact ma_bl | exact ma_int | exact ma_str | exact ma_neg | exact ma_pow ⟨by decide, by decide, by decide⟩ | exact ma_mul ⟨by decide, by decide, by decide, by decide +kernel⟩ | refine mk2_atm ?_)
    case l3 => exact Nat.le_of_ble_eq_true rfl
    refine ⟨q3, q4, _, xs4, rfl, rfl, s4 _ _ upd_same, hq4, few_len (by rw [List.length_append, paired_len t1, paired_len t2, paired_len t4]; exact Nat.le_of_ble_eq_true rfl), fun q5 hq5 => ?_⟩
    have g5 : Same H (upd H4 q5 (.lst (xs1 ++ xs2 ++ xs4))) := (((s1.trans s2).trans (same_new hq3)).trans s4).trans (same_new hq5)
    have a5 : Paired (Th (upd H4 q5 (.lst (xs1 ++ xs2 ++ xs4)))) (xs1 ++ xs2 ++ xs4) (ds1 ++ ds2 ++ ds3) := paired_app (paired_app (ths_keep (((s2.trans (same_new hq3)).trans s4).trans (same_new hq5)) t1) (ths_keep (((same_new hq3).trans s4).trans (same_new hq5)) t2)) (ths_keep (same_new hq5) t4)
    refine ⟨p, c, .ref q5, _, T0, rfl, .lst (SqL.of upd_same), ?_, ?_, hpen.stay g5, hT, fun v H6 m6 P6 x6 => ?_⟩
    · exact fun z => nomatch (congrArg List.length z).symm.trans (paired_len a5)
    · rw [paired_len a5]; exact Nat.le_of_ble_eq_true rfl
    · obtain ⟨d, hd, td⟩ := paired_mem a5 m6
      have nv : New H v := by
        rcases List.mem_append.mp m6 with m6 | m6
        · rcases List.mem_append.mp m6 with m6 | m6
          · exact n1 v m6
          · exact (n2 v m6).same s1
        · exact (n4 v m6).same ((s1.trans s2).trans (same_new hq3))
      refine k v d H6 (td.ext (hpen.stay g5) x6) ?_ nv P6 ((Ext.same g5).trans x6)
      exact List.all_eq_true.mp (by decide +kernel) d hd

end
end Vk
set_option Elab.async false
set_option maxRecDepth 100000
set_option linter.all false
set_option maxHeartbeats 4000000
namespace Vk
open PySem PySem.Spec PyProof.Rows L2
theorem nodup_le : ∀ {l m : List Nat}, l.Nodup → (∀ a ∈ l, a ∈ m) → l.length ≤ m.length
  | [], m, _, _ => Nat.zero_le _
  | a :: l, m, nd, h => by
    obtain ⟨n1, n2⟩ := List.nodup_cons.mp nd
    have ha := h a List.mem_cons_self
    have := nodup_le (m := m.erase a) n2 fun b hb => (List.mem_erase_of_ne (show b ≠ a from fun e => n1 (by rw [← e]; exact hb))).mpr (h b (List.mem_cons_of_mem _ hb))
    rw [List.length_erase_of_mem ha] at this
    have : 0 < m.length := List.length_pos_of_mem ha
    rw [List.length_cons]
    omega
theorem letS_nodup : letS.cps.toList.Nodup := by decide +kernel
theorem letS_len : letS.cps.toList.length = 95 := by decide +kernel
def outL (x : Str) (l : List Nat) : List Nat := l.filter fun c => !decide (c ∈ x.cps.toList)
theorem outL_some {x : Str} (h : x.length ≤ 50) : ∃ c r, outL x letS.cps.toList = c :: r ∧ c ∈ letS.cps.toList ∧ c ∉ x.cps.toList := by
  match q : outL x letS.cps.toList with
  | c :: r =>
    have m : c ∈ outL x letS.cps.toList := by rw [q]; exact List.mem_cons_self
    obtain ⟨m1, m2⟩ := List.mem_filter.mp m
    exact ⟨c, r, rfl, m1, by simpa using m2⟩
  | [] =>
    have all : ∀ c ∈ letS.cps.toList, c ∈ x.cps.toList := fun c hc => by
      have := List.filter_eq_nil_iff.mp q c hc
      simpa using this
    have le := nodup_le letS_nodup all
    have e : x.cps.toList.length = x.length := Array.length_toList
    rw [letS_len, e] at le
    omega
section
variable {P : Program} {w : World} {K : PySem.W.Frag} {mg : Str → Option Value} {base : Heap}
/-- a letter that is not in the text -/
def spNother : Sp := fun vs H Q _ => ∃ x : Str, vs = [.str x] ∧ x.length ≤ 50 ∧ ∀ c H', c ∈ letS.cps.toList → c ∉ x.cps.toList → Same H H' → Q (.str ⟨#[c]⟩) H'
abbrev s_lnother : Stmt := top 27
theorem sc_lnother : FnScope ["_law_signs_here", "_law_sign"] ["_law_signs_here"] (defScope s_lnother) := ⟨rfl, rfl, rfl, by decide +kernel, rfl, by decide +kernel, by decide +kernel⟩
theorem b_lnother {f : Addr} {fd : FuncData} (F : Fun K "_law_nother" "_law_nother" s_lnother f fd) (T : Txt mg) (c_lsigns : CalG P w K mg base CX0 1 "_law_signs" spSigns) : FnG P w K mg base CX0 2 f fd ["_law_signs_here"] spNother := by
  refine okG0 F sc_lnother (fun vs H Q E h => ?_) (fun cdv A outer s H vs Q E hg hr h => ?_)
  · obtain ⟨x, rfl, _⟩ := h
    rfl
  · have hu := hu_of hr
    obtain ⟨x, rfl, hx, k⟩ := h
    refine ⟨_, (pss_one (ps_ret (pe_ix ix_seq (pe_lc (own := [("_law_sign", 1)]) (g := gName 1) rfl sc_lnother.nd (pi_str (pe_cG0 c_lsigns hg hr (by decide) pass0)) (blkOk_by (own := [("_law_sign", 1)]) (N := ["_law_signs_here", "_law_sign"]) (sc := defScope s_lnother) (by decide +kernel)) (fun _ _ _ _ _ => (pg_name (i := 1) sc_lnother.nd rfl (Or.inl rfl))) (fun _ _ _ _ _ => (pts_one (pt_cmpR op_notIn_sign (pv 1) (pv 0) (by rfl)))) (fun _ _ _ _ _ => (pv 1))) pe_int (fun _ _ => rfl)))), ?_⟩
    refine ⟨rfl, letS, rfl, fun D hD => ?_⟩
    refine lc_str (fun i H2 => Same H H2 ∧ H2 D = some (.lst ((outL x (letS.cps.toList.take i)).map fun c => V.str ⟨#[c]⟩))) ⟨same_new hD, upd_same⟩ (fun i c H2 hc p => ?_) (fun H2 p => ?_)
    · obtain ⟨sm, hd⟩ := p
      have hc2 : letS.cps.toList[i]? = some c := by rw [Array.getElem?_toList]; exact hc
      have fl : (outL x (letS.cps.toList.take i)).length ≤ 95 := Nat.le_trans (List.length_filter_le _ _) (by rw [List.length_take, letS_len]; omega)
      have nx : outL x (letS.cps.toList.take (i + 1)) = outL x (letS.cps.toList.take i) ++ (if (!decide (c ∈ x.cps.toList)) = true then [c] else []) := by
        unfold outL
        rw [List.take_add_one, hc2, Option.toList_some, List.filter_append]
        congr 1
        cases q : (!decide (c ∈ x.cps.toList)) with
        | true => rw [List.filter_cons_of_pos (p := fun c => !decide (c ∈ x.cps.toList)) q]; rfl
        | false => rw [List.filter_cons_of_neg (p := fun c => !decide (c ∈ x.cps.toList)) (by rw [q]; decide)]; rfl
      refine ⟨rfl, ?_⟩
      refine ⟨_, rfl, _, rfl, c, x, rfl, rfl, _, rfl, ?_⟩
      cases q : (!decide (c ∈ x.cps.toList)) with
      | false =>
        rw [q] at nx
        refine iteF ⟨sm, ?_⟩
        rw [nx]
        exact hd.trans (congrArg (fun z => some (HO.lst (List.map _ z))) (List.append_nil _).symm)
      | true =>
        rw [q] at nx
        refine iteT ⟨_, rfl, _, hd, fewL (by rw [List.length_map]; omega), upd_out hD sm, ?_⟩
        rw [nx, upd_same, List.map_append]
        rfl
    · obtain ⟨sm, hd⟩ := p
      rw [List.take_of_length_le (by rw [Array.length_toList]; exact Nat.le_refl _)] at hd
      obtain ⟨c, r, e, c1, c2⟩ := outL_some hx
      rw [e] at hd
      exact .inl ⟨D, _, 0, .str ⟨#[c]⟩, rfl, rfl, SqL.of hd, atI_nat (j := 0) rfl, k c H2 c1 c2 sm⟩
end
end Vk
set_option Elab.async false
set_option maxRecDepth 100000
set_option linter.all false
set_option maxHeartbeats 4000000
namespace Vk
open PySem PySem.Spec PyProof.Rows L2
section
variable {P : Program} {w : World} {K : PySem.W.Frag} {mg : Str → Option Value} {base : Heap}
def spNum : Sp := fun vs H Q _ => ∃ v d lo hi, vs = [v, .int lo, .int hi] ∧ Th H v d ∧ Q (.bl (inI d lo hi)) H
abbrev s_lis_number : Stmt := top 22
theorem sc_lis_number : FnScope ["_law_thing", "_law_least", "_law_greatest"] ["_law_thing", "_law_least", "_law_greatest"] (defScope s_lis_number) := ⟨rfl, rfl, rfl, by decide +kernel, rfl, by decide +kernel, by decide +kernel⟩
theorem b_lis_number {f : Addr} {fd : FuncData} (F : Fun K "_law_is_number" "_law_is_number" s_lis_number f fd) (T : Txt mg) : FnG P w K mg base CX0 1 f fd ["_law_thing", "_law_least", "_law_greatest"] spNum := by
  refine okG0 F sc_lis_number (fun vs H Q E h => ?_) (fun cdv A outer s H vs Q E hg hr h => ?_)
  · obtain ⟨v, d, lo, hi, rfl, _⟩ := h
    rfl
  · have hu := hu_of hr
    have hu64 := hr.units
    obtain ⟨v, d, lo, hi, rfl, th, k⟩ := h
    obtain ⟨t, b, c, ty, kt, kc, hb, hno⟩ := kit_int (K := K) th
    refine ⟨_, (pss_one (ps_ret (pe_and (pe_callB call_isi (by rfl) T.isinstance (by decide +kernel) (pa_cons (pv 0) (pa_cons (pe_bltn (v := .ty "int") (by rfl) T.int rfl rfl) pa_nil))) (pe_and (pe_not (pe_callB call_isi (by rfl) T.isinstance (by decide +kernel) (pa_cons (pv 0) (pa_cons (pe_bltn (v := .ty "bool") (by rfl) T.bool rfl rfl) pa_nil)))) (pe_one (pe_chain op_le op_le (pv 1) (pv 0) (pv 2))))))), ?_⟩
    refine ⟨_, rfl, v, .ty "int", t, .type "int", b, rfl, .ty "int", ty, kt, _, rfl, ?_⟩
    cases hI : isIntB d with
    | false =>
      rw [inI_no hI] at k
      cases b with
      | false => exact iteF k
      | true =>
        have ec : c = true := hno hI rfl
        subst ec
        exact iteT ⟨_, rfl, v, .ty "bool", t, .type "bool", true, rfl, .ty "bool", ty, kc, _, rfl, _, rfl, iteF k⟩
    | true =>
      rw [hI, Bool.and_eq_true] at hb
      obtain ⟨rfl, hc⟩ := hb
      have ec : c = false := by
        cases c with
        | false => rfl
        | true => cases hc
      subst ec
      obtain ⟨i, rfl, rfl⟩ := int_th th hI
      have k : Q (.bl (decide (lo ≤ i) && decide (i ≤ hi))) H := k
      refine iteT ⟨_, rfl, .int i, .ty "bool", t, .type "bool", false, rfl, .ty "bool", ty, kc, _, rfl, _, rfl, ?_⟩
      refine iteT ⟨_, rfl, _, rfl, _, _, rfl, rfl, _, rfl, ?_⟩
      cases h1 : decide (lo ≤ i) with
      | false =>
        rw [h1, Bool.false_and] at k
        exact iteF k
      | true =>
        rw [h1, Bool.true_and] at k
        exact iteT ⟨_, rfl, _, _, rfl, rfl, k⟩

end
end Vk
set_option Elab.async false
set_option maxRecDepth 100000
set_option linter.all false
set_option maxHeartbeats 4000000
namespace Vk
open PySem PySem.Spec PyProof.Rows L2
/-! ## an iteration of one of two kinds; enumerate over a tuple -/
def iOr (a b : TI) : TI := fun σ H R => a σ H R ∨ b σ H R
theorem pi_or {X : Cx} {tg e : Expr} {a b : TI} (h1 : PI X tg e a) (h2 : PI X tg e b) : PI X tg e (iOr a b) :=
  ⟨fun pins s σ H R I h => h.elim (h1.run pins s σ H R I) (h2.run pins s σ H R I)⟩
theorem for_enumT {a : Addr} {xs : List V} {g : TG} {tb : TS} {D : Ends} {σ : L2.St} {H : Hp} (Pv : Nat → L2.St → Hp → Prop) (h0 : Pv 0 σ H) (hl : ∀ i σ H, i ≤ xs.length → Pv i σ H → H a = some (.tup xs))
    (hs : ∀ i v σ H T, xs[i]? = some v → H T = none → Pv i σ H → g (.ref T) σ (upd H T (.tup [.int (i : Nat), v])) fun σ2 H2 => tb { D with nx := Pv (i + 1), ct := Pv (i + 1), bk := D.nx } σ2 H2) (hd : ∀ σ H, Pv xs.length σ H → D.nx σ H) :
    ∃ W : Nat → Nat → L2.St → Hp → Prop, (∃ m, W 0 m σ H) ∧ ∀ i m σ H, W i m σ H →
      ((Itet a).stop i H ∧ D.nx σ H) ∨ ((Itet a).go i H ∧ ∃ N : L2.St → Hp → Prop, (∀ σ' H', N σ' H' → ∃ m', m' < m ∧ W (i + 1) m' σ' H') ∧ ∀ x1 H', (Itet a).yld i H x1 H' → g x1 σ H' fun σ2 H2 => tb { D with nx := N, ct := N, bk := D.nx } σ2 H2) := by
  refine ⟨fun i m σ H => m = xs.length - i ∧ i ≤ xs.length ∧ Pv i σ H, ⟨xs.length, by simp, Nat.zero_le _, h0⟩, ?_⟩
  rintro i m σ H ⟨rfl, hi, p⟩
  have q := hl i σ H hi p
  by_cases hlt : i < xs.length
  · refine .inr ⟨⟨xs, xs[i], q, by simp [hlt]⟩, Pv (i + 1), fun σ' H' p' => ⟨xs.length - (i + 1), by omega, rfl, hlt, p'⟩, ?_⟩
    rintro x1 H' ⟨T, v, xs', rfl, hT, rfl, hq, hv⟩
    rw [q] at hq
    cases hq
    exact hs i v σ H T hv hT p
  · have e : i = xs.length := by omega
    subst e
    exact .inl ⟨⟨xs, q, rfl⟩, hd σ H p⟩
end Vk
set_option Elab.async false
set_option maxRecDepth 100000
set_option linter.all false
set_option maxHeartbeats 4000000
namespace Vk
open PySem PySem.Spec PyProof.Rows L2
/-! ## what is a change -/
def vOf : PyData → V
  | .none => .non
  | .bool b => .bl b
  | .int i => .int i
  | .str x => .str x
  | _ => .non
theorem Atm.vOf {v : V} {d : PyData} (a : Atm v d) : v = vOf d := by cases a <;> rfl
theorem iteDF {c A B : Prop} [Decidable c] (hc : ¬ c) (h : B) : if decide c = true then A else B := by
  rw [if_neg (by simpa using hc)]
  exact h
theorem iteDT {c A B : Prop} [Decidable c] (hc : c) (h : A) : if decide c = true then A else B := by
  rw [if_pos (by simpa using hc)]
  exact h
theorem at0 {a : V} {l : List V} : atI (a :: l) (0 : Int) = some a := atI_nat (j := 0) rfl
theorem at1 {a b : V} {l : List V} : atI (a :: b :: l) (1 : Int) = some b := atI_nat (j := 1) rfl
theorem scal_atm {v : V} {d : PyData} {z : Str} (a : Atm v d) : scal v (.str z) = true := by cases a <;> rfl
def lenB : PyData → Bool
  | .str z => decide (z.length = 1)
  | _ => false
def difB (x : List Nat) : PyData → PyData → Bool
  | .int i, .str z => !decide (V.str z = V.str ⟨#[fnL x i.toNat]⟩)
  | _, _ => false
def isCh (x : List Nat) : List PyData → Bool
  | a :: b :: r => if vOf a = .str "drop" then r.isEmpty && inI b 0 ((x.length : Int) - 1) else
    match r with
    | [c] => (isT c && lenB c) && (if vOf a = .str "put" then inI b 0 x.length else decide (vOf a = .str "set") && (inI b 0 ((x.length : Int) - 1) && difB x b c))
    | _ => false
  | _ => false
def okD (x : List Nat) : PyData → Bool
  | .tuple ds => isCh x ds
  | _ => false
section
variable {P : Program} {w : World} {K : PySem.W.Frag} {mg : Str → Option Value} {base : Heap}
def spIsCh : Sp := fun vs H Q _ => ∃ v x d, vs = [v, .str x] ∧ Th H v d ∧ El d ∧ x.length ≤ 1000 ∧ Q (.bl (okD (ll x) d)) H
theorem inI_some {d : PyData} {lo hi : Int} (h : inI d lo hi = true) : ∃ i, d = .int i ∧ lo ≤ i ∧ i ≤ hi := by
  cases d with
  | int i =>
    have h : (decide (lo ≤ i) && decide (i ≤ hi)) = true := h
    rw [Bool.and_eq_true, decide_eq_true_eq, decide_eq_true_eq] at h
    exact ⟨i, rfl, h.1, h.2⟩
  | _ => cases h
abbrev s_is_change : Stmt := top 9
theorem sc_is_change : FnScope ["value", "text"] ["value", "text"] (defScope s_is_change) := ⟨rfl, rfl, rfl, by decide +kernel, rfl, by decide +kernel, by decide +kernel⟩
theorem b_is_change {f : Addr} {fd : FuncData} (F : Fun K "is_change" "is_change" s_is_change f fd) (T : Txt mg) (c_is_integer_in : CalG P w K mg base CX0 2 "is_integer_in" spInI) (c_is_text : CalG P w K mg base CX0 1 "is_text" (spTest isT)) : FnG P w K mg base CX0 3 f fd ["value", "text"] spIsCh := by
  refine okG0 F sc_is_change (fun vs H Q E h => ?_) (fun cdv A outer s H vs Q E hg hr h => ?_)
  · obtain ⟨v, x, d, rfl, _⟩ := h
    rfl
  · have hu := hu_of hr
    have hu64 := hr.units
    obtain ⟨v, x, d, rfl, th, el, hx, k⟩ := h
    have xl : x.length ≤ sizeLine := Nat.le_trans hx (by decide)
    have lx := ll_len x
    refine ⟨_, (pss_cons (ps_if (PW.pt (pw_or (pt_not (pt_val (pe_callB call_isi (by rfl) T.isinstance (by decide +kernel) (pa_cons (pv 0) (pa_cons (pe_bltn (v := .ty "tuple") (by rfl) T.tuple rfl rfl) pa_nil))))) (pw_or1 (pt_cmpR op_lt (pe_callB call_len (by rfl) T.len (by decide +kernel) (pa_cons (pv 0) pa_nil)) pe_int (nomark _))))) (pss_one (ps_ret pe_bl)) pss_nil)
      (pss_cons (ps_if (pt_cmpR op_eq (pe_ix ix_tup (pv 0) pe_int (fun _ _ => rfl)) pe_str (nomark _)) (pss_one (ps_ret (pe_and (pe_cmpR op_eq (pe_callB call_len (by rfl) T.len (by decide +kernel) (pa_cons (pv 0) pa_nil)) pe_int (nomark _)) (pe_one (pe_cG c_is_integer_in hg hr (by decide) pass0 (pa_cons (pe_ix ix_tup (pv 0) pe_int (fun _ _ => rfl)) (pa_cons pe_int (pa_cons (pe_op op_sub (pe_callB call_len (by rfl) T.len (by decide +kernel) (pa_cons (pv 1) pa_nil)) pe_int) pa_nil)))))))) pss_nil)
      (pss_cons (ps_if (PW.pt (pw_or (pt_cmpR op_ne (pe_callB call_len (by rfl) T.len (by decide +kernel) (pa_cons (pv 0) pa_nil)) pe_int (nomark _)) (pw_or (pt_not (pt_val (pe_cG c_is_text hg hr (by decide) pass0 (pa_cons (pe_ix ix_tup (pv 0) pe_int (fun _ _ => rfl)) pa_nil)))) (pw_or1 (pt_cmpR op_ne (pe_callB call_len (by rfl) T.len (by decide +kernel) (pa_cons (pe_ix ix_tup (pv 0) pe_int (fun _ _ => rfl)) pa_nil)) pe_int (nomark _)))))) (pss_one (ps_ret pe_bl)) pss_nil)
      (pss_cons (ps_if (pt_cmpR op_eq (pe_ix ix_tup (pv 0) pe_int (fun _ _ => rfl)) pe_str (nomark _)) (pss_one (ps_ret (pe_cG c_is_integer_in hg hr (by decide) pass0 (pa_cons (pe_ix ix_tup (pv 0) pe_int (fun _ _ => rfl)) (pa_cons pe_int (pa_cons (pe_callB call_len (by rfl) T.len (by decide +kernel) (pa_cons (pv 1) pa_nil)) pa_nil)))))) pss_nil)
      (pss_one (ps_ret (pe_and (pe_cmpR op_eq (pe_ix ix_tup (pv 0) pe_int (fun _ _ => rfl)) pe_str (nomark _)) (pe_and (pe_cG c_is_integer_in hg hr (by decide) pass0 (pa_cons (pe_ix ix_tup (pv 0) pe_int (fun _ _ => rfl)) (pa_cons pe_int (pa_cons (pe_op op_sub (pe_callB call_len (by rfl) T.len (by decide +kernel) (pa_cons (pv 1) pa_nil)) pe_int) pa_nil)))) (pe_one (pe_cmpR op_ne (pe_ix ix_tup (pv 0) pe_int (fun _ _ => rfl)) (pe_ix ix_str (pv 1) (pe_ix ix_tup (pv 0) pe_int (fun _ _ => rfl)) (fun _ _ => rfl)) (nomark _))))))))))), ?_⟩
    obtain ⟨ty, b, tyx, kt, hb⟩ := kit_tup (K := K) th
    refine ⟨_, rfl, v, .ty "tuple", ty, .type "tuple", b, rfl, .ty "tuple", tyx, kt, ?_⟩
    cases th with
    | atm a => cases a <;> (subst hb; exact ⟨false, rfl, iteT k⟩)
    | lst e1 e2 e3 => subst hb; exact ⟨false, rfl, iteT k⟩
    | dct e1 => subst hb; exact ⟨false, rfl, iteT k⟩
    | @tup t xs ds ht pr =>
      subst hb
      refine ⟨true, rfl, iteF ?_⟩
      have k : Q (.bl (isCh (ll x) ds)) H := k
      refine ⟨_, rfl, _, _, rfl, .inr ⟨_, SqT.of ht, rfl⟩, _, _, rfl, rfl, _, rfl, ?_⟩
      match xs, ds, pr with
      | [], [], .nil => exact iteT k
      | [va], [da], .cons a .nil => exact iteT k
      | va :: vb :: vr, da :: db :: dr, .cons a (.cons b pr) =>
        refine iteDF (by rw [List.length_cons, List.length_cons]; omega) ?_
        refine ⟨_, rfl, t, _, _, _, rfl, rfl, SqT.of ht, at0, scal_atm a, _, rfl, ?_⟩
        rw [a.vOf]
        have elb : Srt db := el _ rfl db (by simp)
        by_cases c1 : vOf da = .str "drop"
        · refine iteDT c1 ⟨_, rfl, _, _, rfl, .inr ⟨_, SqT.of ht, rfl⟩, rfl, _, rfl, ?_⟩
          match vr, dr, pr with
          | [], [], .nil =>
            refine iteDT rfl ?_
            refine ⟨_, rfl, t, _, _, _, rfl, rfl, SqT.of ht, rfl, _, rfl, _, _, rfl, ⟨xl, rfl⟩, _, _, rfl, rfl, _, _, _, _, rfl, .atm b, ?_⟩
            have e : isCh (ll x) [da, db] = inI db 0 ((x.length : Int) - 1) := by
              show (if vOf da = .str "drop" then _ else _) = _
              rw [if_pos c1, lx]
              rfl
            rw [e] at k
            exact k
          | v3 :: vr, d3 :: dr, .cons c pr =>
            refine iteDF (fun z => ?_) ?_
            · have := V.int.inj z
              rw [List.length_cons, List.length_cons, List.length_cons] at this
              omega
            have e : isCh (ll x) (da :: db :: d3 :: dr) = false := by
              show (if vOf da = .str "drop" then _ else _) = _
              rw [if_pos c1]
              rfl
            rw [e] at k
            exact k
        · refine iteDF c1 ?_
          match vr, dr, pr with
          | [], [], .nil =>
            have e : isCh (ll x) [da, db] = false := by
              show (if vOf da = .str "drop" then _ else _) = _
              rw [if_neg c1]
            rw [e] at k
            exact ⟨_, rfl, _, _, rfl, .inr ⟨_, SqT.of ht, rfl⟩, rfl, _, rfl, iteT k⟩
          | v3 :: v4 :: vr, d3 :: d4 :: dr, .cons c (.cons c4 pr) =>
            have e : isCh (ll x) (da :: db :: d3 :: d4 :: dr) = false := by
              show (if vOf da = .str "drop" then _ else _) = _
              rw [if_neg c1]
            rw [e] at k
            refine ⟨_, rfl, _, _, rfl, .inr ⟨_, SqT.of ht, rfl⟩, rfl, _, rfl, ?_⟩
            rw [show decide (V.int (((va :: vb :: v3 :: v4 :: vr).length : Nat) : Int) = V.int 3) = false from decide_eq_false fun z => by
              have := V.int.inj z
              simp only [List.length_cons] at this
              omega]
            exact iteT k
          | [v3], [d3], .cons c .nil =>
            have e : isCh (ll x) [da, db, d3] = ((isT d3 && lenB d3) && (if vOf da = .str "put" then inI db 0 x.length else decide (vOf da = .str "set") && (inI db 0 ((x.length : Int) - 1) && difB (ll x) db d3))) := by
              show (if vOf da = .str "drop" then _ else _) = _
              rw [if_neg c1, lx]
            rw [e] at k
            have elc : Srt d3 := el _ rfl d3 (by simp)
            refine ⟨_, rfl, _, _, rfl, .inr ⟨_, SqT.of ht, rfl⟩, rfl, _, rfl, iteF ?_⟩
            refine ⟨_, rfl, t, _, _, _, rfl, rfl, SqT.of ht, rfl, _, _, rfl, .atm c, elc, isT d3, rfl, ?_⟩
            cases ct : isT d3 with
            | false =>
              rw [ct] at k
              exact iteT k
            | true =>
              obtain ⟨z, rfl⟩ := isT_str ct
              cases c
              rw [ct] at k
              have zl : z.length ≤ sizeLine := Nat.le_trans elc.1 (by decide)
              refine iteF ⟨_, rfl, t, _, _, _, rfl, rfl, SqT.of ht, rfl, _, _, rfl, ⟨zl, rfl⟩, rfl, _, rfl, ?_⟩
              by_cases cz : z.length = 1
              · refine iteNS (by rw [cz]; rfl) ?_
                have el1 : lenB (.str z) = true := decide_eq_true cz
                rw [el1] at k
                refine ⟨_, rfl, t, _, _, _, rfl, rfl, SqT.of ht, rfl, scal_atm a, _, rfl, ?_⟩
                rw [a.vOf]
                by_cases c2 : vOf da = .str "put"
                · refine iteDT c2 ⟨_, rfl, t, _, _, _, rfl, rfl, SqT.of ht, rfl, _, rfl, _, _, rfl, ⟨xl, rfl⟩, _, _, _, _, rfl, .atm b, ?_⟩
                  rw [if_pos c2] at k
                  exact k
                · refine iteDF c2 ⟨_, rfl, t, _, _, _, rfl, rfl, SqT.of ht, rfl, scal_atm a, _, rfl, ?_⟩
                  rw [if_neg c2] at k
                  rw [a.vOf]
                  by_cases c3 : vOf da = .str "set"
                  · rw [decide_eq_true c3] at k ⊢
                    refine iteT ⟨_, rfl, t, _, _, _, rfl, rfl, SqT.of ht, rfl, _, rfl, _, _, rfl, ⟨xl, rfl⟩, _, _, rfl, rfl, _, _, _, _, rfl, .atm b, _, rfl, ?_⟩
                    cases ci : inI db 0 ((x.length : Int) - 1) with
                    | false =>
                      rw [ci] at k
                      exact iteF k
                    | true =>
                      rw [ci] at k
                      obtain ⟨i, rfl, i0, i1⟩ := inI_some ci
                      cases b
                      obtain ⟨n, rfl⟩ : ∃ n : Nat, i = (n : Nat) := ⟨i.toNat, by omega⟩
                      refine iteT ⟨_, rfl, t, _, _, _, rfl, rfl, SqT.of ht, rfl, _, rfl, _, rfl, t, _, _, _, rfl, rfl, SqT.of ht, rfl, x, _, _, rfl, rfl, xl, atI_ll (by omega), rfl, ?_⟩
                      exact k
                  · rw [decide_eq_false c3] at k ⊢
                    exact iteF k
              · have el1 : lenB (.str z) = false := decide_eq_false cz
                rw [el1] at k
                rw [show decide (V.int ((z.length : Nat) : Int) = V.int 1) = false from decide_eq_false fun q => cz (by have := V.int.inj q; omega)]
                exact iteT k
end
end Vk
set_option Elab.async false
set_option maxRecDepth 100000
set_option linter.all false
set_option maxHeartbeats 4000000
namespace Vk
open PySem PySem.Spec PyProof.Rows L2
section
variable {P : Program} {w : World} {K : PySem.W.Frag} {mg : Str → Option Value} {base : Heap}
def spNis : Sp := fun vs H Q _ => ∃ v x d, vs = [.str x, v] ∧ Th H v d ∧ El d ∧ x.length ≤ 1000 ∧ ∀ H', Same H H' → Q (.bl (okD (ll x) d)) H'
theorem iteNF {c A B : Prop} [Decidable c] (hc : ¬ c) (h : A) : if (!decide c) = true then A else B := by
  rw [if_pos (by simpa using hc)]
  exact h
theorem one_pair {vs : List V} {ds : List PyData} (h : Paired Atm vs ds) (l : ds.length = 1) : ∃ v d, vs = [v] ∧ ds = [d] ∧ Atm v d := by
  cases h with
  | nil => cases l
  | cons a t =>
    cases t with
    | nil => exact ⟨_, _, rfl, rfl, a⟩
    | cons b u => cases l
theorem eq_strV (z w : Str) : eqV (.str z) (.str w) = decide (V.str w = V.str z) := by
  show (z == w) = _
  rw [Bool.eq_iff_iff, beq_iff_eq, decide_eq_true_eq]
  exact ⟨fun e => by rw [e], fun e => (V.str.inj e).symm⟩
theorem in_three {v : V} {d : PyData} (a : Atm v d) : inV v [.str "put", .str "drop", .str "set"] = (decide (v = .str "put") || (decide (v = .str "drop") || decide (v = .str "set"))) := by
  cases a with
  | str w =>
    show (eqV (.str "put") (.str w) || (eqV (.str "drop") (.str w) || (eqV (.str "set") (.str w) || false))) = _
    rw [eq_strV, eq_strV, eq_strV, Bool.or_false]
  | _ => rfl
theorem isCh_odd {x : List Nat} {da db : PyData} {dr : List PyData} (c1 : vOf da ≠ .str "drop") (c2 : vOf da ≠ .str "put") (c3 : vOf da ≠ .str "set") : isCh x (da :: db :: dr) = false := by
  show (if vOf da = .str "drop" then _ else _) = _
  rw [if_neg c1]
  match dr with
  | [] => rfl
  | _ :: _ :: _ => rfl
  | [c] =>
    show ((isT c && lenB c) && (if vOf da = .str "put" then _ else decide (vOf da = .str "set") && _)) = _
    rw [if_neg c2, decide_eq_false c3, Bool.false_and, Bool.and_false]
theorem isCh_drop {x : List Nat} {da db : PyData} {dr : List PyData} (c1 : vOf da = .str "drop") : isCh x (da :: db :: dr) = (dr.isEmpty && inI db 0 ((x.length : Int) - 1)) := by
  show (if vOf da = .str "drop" then _ else _) = _
  rw [if_pos c1]
theorem isCh_long {x : List Nat} {da db : PyData} {dr : List PyData} (c1 : vOf da ≠ .str "drop") (h : dr.length ≠ 1) : isCh x (da :: db :: dr) = false := by
  show (if vOf da = .str "drop" then _ else _) = _
  rw [if_neg c1]
  match dr, h with
  | [], _ => rfl
  | _ :: _ :: _, _ => rfl
  | [c], h => exact absurd rfl h
theorem isCh_put {x : List Nat} {da db dc : PyData} (c2 : vOf da = .str "put") : isCh x [da, db, dc] = ((isT dc && lenB dc) && inI db 0 x.length) := by
  show (if vOf da = .str "drop" then _ else _) = _
  rw [if_neg (by rw [c2]; decide)]
  show ((isT dc && lenB dc) && (if vOf da = .str "put" then _ else _)) = _
  rw [if_pos c2]
theorem isCh_set {x : List Nat} {da db dc : PyData} (c3 : vOf da = .str "set") : isCh x [da, db, dc] = ((isT dc && lenB dc) && (inI db 0 ((x.length : Int) - 1) && difB x db dc)) := by
  show (if vOf da = .str "drop" then _ else _) = _
  rw [if_neg (by rw [c3]; decide)]
  show ((isT dc && lenB dc) && (if vOf da = .str "put" then _ else decide (vOf da = .str "set") && _)) = _
  rw [if_neg (by rw [c3]; decide), decide_eq_true c3, Bool.true_and]
abbrev s_lnis_change : Stmt := top 30
theorem sc_lnis_change : FnScope ["_law_here", "_law_thing"] ["_law_here", "_law_thing"] (defScope s_lnis_change) := ⟨rfl, rfl, rfl, by decide +kernel, rfl, by decide +kernel, by decide +kernel⟩
theorem b_lnis_change {f : Addr} {fd : FuncData} (F : Fun K "_law_nis_change" "_law_nis_change" s_lnis_change f fd) (T : Txt mg) (c_lis_number : CalG P w K mg base CX0 1 "_law_is_number" spNum) (c_lis_text : CalG P w K mg base CX0 2 "_law_is_text" (spSays isT)) : FnG P w K mg base CX0 3 f fd ["_law_here", "_law_thing"] spNis := by
  refine okG0 F sc_lnis_change (fun vs H Q E h => ?_) (fun cdv A outer s H vs Q E hg hr h => ?_)
  · obtain ⟨v, x, d, rfl, _⟩ := h
    rfl
  · have hu := hu_of hr
    have hu64 := hr.units
    obtain ⟨v, x, d, rfl, th, el, hx, k⟩ := h
    have xl : x.length ≤ sizeLine := Nat.le_trans hx (by decide)
    have lx := ll_len x
    refine ⟨_, (pss_cons (ps_if (PW.pt (pw_or (pt_not (pt_val (pe_callB call_isi (by rfl) T.isinstance (by decide +kernel) (pa_cons (pv 1) (pa_cons (pe_bltn (v := .ty "tuple") (by rfl) T.tuple rfl rfl) pa_nil))))) (pw_or (pt_cmpR op_lt (pe_callB call_len (by rfl) T.len (by decide +kernel) (pa_cons (pv 1) pa_nil)) pe_int (nomark _)) (pw_or1 (pt_cmpR op_notIn_seq (pe_ix ix_tup (pv 1) pe_int (fun _ _ => rfl)) (pe_tup (pa_cons pe_str (pa_cons pe_str (pa_cons pe_str pa_nil)))) (by rfl)))))) (pss_one (ps_ret pe_bl)) pss_nil)
      (pss_cons (ps_if (PW.pt (pw_or (pt_not (pt_val (pe_cG c_lis_number hg hr (by decide) pass0 (pa_cons (pe_ix ix_tup (pv 1) pe_int (fun _ _ => rfl)) (pa_cons pe_int (pa_cons (pe_op op_sub (pe_callB call_len (by rfl) T.len (by decide +kernel) (pa_cons (pv 0) pa_nil)) (pe_callTy call_int1 (by rfl) T.int (by decide +kernel) (pa_cons (pe_cmpR op_ne (pe_ix ix_tup (pv 1) pe_int (fun _ _ => rfl)) pe_str (nomark _)) pa_nil))) pa_nil)))))) (pw_or1 (pt_cmpR op_ne (pe_callB call_len (by rfl) T.len (by decide +kernel) (pa_cons (pv 1) pa_nil)) (pe_op op_sub pe_int (pe_callTy call_int1 (by rfl) T.int (by decide +kernel) (pa_cons (pe_cmpR op_eq (pe_ix ix_tup (pv 1) pe_int (fun _ _ => rfl)) pe_str (nomark _)) pa_nil))) (nomark _))))) (pss_one (ps_ret pe_bl)) pss_nil)
      (pss_cons (ps_if (pt_cmpR op_eq (pe_ix ix_tup (pv 1) pe_int (fun _ _ => rfl)) pe_str (nomark _)) (pss_one (ps_ret pe_bl)) pss_nil)
      (pss_cons (ps_if (PW.pt (pw_or (pt_not (pt_val (pe_cG c_lis_text hg hr (by decide) pass0 (pa_cons (pe_ix ix_tup (pv 1) pe_int (fun _ _ => rfl)) pa_nil)))) (pw_or1 (pt_cmpR op_ne (pe_callB call_len (by rfl) T.len (by decide +kernel) (pa_cons (pe_ix ix_tup (pv 1) pe_int (fun _ _ => rfl)) pa_nil)) pe_int (nomark _))))) (pss_one (ps_ret pe_bl)) pss_nil)
      (pss_one (ps_ret (pe_or (pe_cmpR op_eq (pe_ix ix_tup (pv 1) pe_int (fun _ _ => rfl)) pe_str (nomark _)) (pe_one (pe_cmpR op_ne (pe_ix ix_str (pv 0) (pe_ix ix_tup (pv 1) pe_int (fun _ _ => rfl)) (fun _ _ => rfl)) (pe_ix ix_tup (pv 1) pe_int (fun _ _ => rfl)) (nomark _)))))))))), ?_⟩
    obtain ⟨ty, b, tyx, kt, hb⟩ := kit_tup (K := K) th
    refine ⟨_, rfl, v, .ty "tuple", ty, .type "tuple", b, rfl, .ty "tuple", tyx, kt, ?_⟩
    cases th with
    | atm a => cases a <;> (subst hb; exact ⟨false, rfl, iteT (k H Same.rfl)⟩)
    | lst e1 e2 e3 => subst hb; exact ⟨false, rfl, iteT (k H Same.rfl)⟩
    | dct e1 => subst hb; exact ⟨false, rfl, iteT (k H Same.rfl)⟩
    | @tup t xs ds ht pr =>
      subst hb
      refine ⟨true, rfl, iteF ?_⟩
      have k : ∀ H', Same H H' → Q (.bl (isCh (ll x) ds)) H' := k
      refine ⟨_, rfl, _, _, rfl, .inr ⟨_, SqT.of ht, rfl⟩, _, _, rfl, rfl, _, rfl, ?_⟩
      match xs, ds, pr with
      | [], [], .nil => exact iteT (k H Same.rfl)
      | [va], [da], .cons a .nil => exact iteT (k H Same.rfl)
      | va :: vb :: vr, da :: db :: dr, .cons a (.cons b pr) =>
        refine iteDF (by rw [List.length_cons, List.length_cons]; omega) ?_
        refine ⟨_, rfl, t, _, _, _, rfl, rfl, SqT.of ht, at0, by show 3 ≤ sizeLine; decide, fun q hq => ?_⟩
        have sq := same_new (o := .tup [.str "put", .str "drop", .str "set"]) hq
        have ht2 := sq _ _ ht
        replace k : ∀ H', Same (upd H q (.tup [.str "put", .str "drop", .str "set"])) H' → Q (.bl (isCh (ll x) (da :: db :: dr))) H' := fun H' s => k H' (sq.trans s)
        refine ⟨q, _, rfl, .inr (SqT.of upd_same), ?_⟩
        generalize upd H q (.tup [.str "put", .str "drop", .str "set"]) = H2 at ht2 k ⊢
        refine ⟨by cases a <;> rfl, rfl, ?_⟩
        rw [in_three a, a.vOf]
        by_cases c1 : vOf da = .str "drop"
        · have n2 : vOf da ≠ .str "put" := by rw [c1]; decide
          rw [decide_eq_true c1, decide_eq_false n2]
          refine ⟨_, rfl, iteF ?_⟩
          refine ⟨_, rfl, t, _, _, _, rfl, rfl, SqT.of ht2, at1, ?_⟩
          refine ⟨_, rfl, _, _, rfl, ⟨xl, rfl⟩, _, rfl, t, _, _, _, rfl, rfl, SqT.of ht2, at0, scal_atm a, ?_⟩
          rw [a.vOf, decide_eq_false n2]
          refine .inr ⟨_, rfl, _, _, rfl, rfl, _, _, _, _, rfl, .atm b, ?_⟩
          rw [isCh_drop c1] at k
          rw [show ((x.length : Nat) : Int) - (if (!false) = true then 1 else 0) = (((ll x).length : Nat) : Int) - 1 by rw [lx]; rfl]
          cases ci : inI db 0 ((((ll x).length : Nat) : Int) - 1) with
          | false =>
            rw [ci, Bool.and_false] at k
            exact ⟨_, rfl, iteT (k _ Same.rfl)⟩
          | true =>
            rw [ci, Bool.and_true] at k
            refine ⟨_, rfl, iteF ⟨_, rfl, _, _, rfl, .inr ⟨_, SqT.of ht2, rfl⟩, _, rfl, t, _, _, _, rfl, rfl, SqT.of ht2, at0, scal_atm a, ?_⟩⟩
            rw [a.vOf, decide_eq_true c1]
            refine .inr ⟨_, rfl, _, _, rfl, rfl, rfl, _, rfl, ?_⟩
            match vr, dr, pr with
            | [], [], .nil => 
              refine iteNS rfl ?_
              refine ⟨_, rfl, t, _, _, _, rfl, rfl, SqT.of ht2, at0, scal_atm a, _, rfl, ?_⟩
              rw [a.vOf]
              exact iteDT c1 (k _ Same.rfl)
            | v3 :: vr, d3 :: dr, .cons c pr =>
              refine iteNF (fun z => ?_) (k _ Same.rfl)
              have := V.int.inj z
              simp only [List.length_cons] at this
              simp at this
              omega
        · by_cases c2 : vOf da = .str "put"
          · rw [decide_eq_true c2]
            refine ⟨_, rfl, iteF ?_⟩
            refine ⟨_, rfl, t, _, _, _, rfl, rfl, SqT.of ht2, at1, ?_⟩
            refine ⟨_, rfl, _, _, rfl, ⟨xl, rfl⟩, _, rfl, t, _, _, _, rfl, rfl, SqT.of ht2, at0, scal_atm a, ?_⟩
            rw [a.vOf, decide_eq_true c2]
            refine .inr ⟨_, rfl, _, _, rfl, rfl, _, _, _, _, rfl, .atm b, ?_⟩
            rw [show ((x.length : Nat) : Int) - (if (!true) = true then 1 else 0) = (((ll x).length : Nat) : Int) by rw [lx]; exact Int.sub_zero _]
            cases ci : inI db 0 (((ll x).length : Nat) : Int) with
            | false =>
              have e : isCh (ll x) (da :: db :: dr) = false := by
                by_cases l1 : dr.length = 1
                · match dr, l1 with
                  | [dc], _ => rw [isCh_put c2, ci]; simp
                · exact isCh_long c1 l1
              rw [e] at k
              exact ⟨_, rfl, iteT (k _ Same.rfl)⟩
            | true =>
              refine ⟨_, rfl, iteF ⟨_, rfl, _, _, rfl, .inr ⟨_, SqT.of ht2, rfl⟩, _, rfl, t, _, _, _, rfl, rfl, SqT.of ht2, at0, scal_atm a, ?_⟩⟩
              rw [a.vOf, decide_eq_false c1]
              refine .inr ⟨_, rfl, _, _, rfl, rfl, rfl, _, rfl, ?_⟩
              have pl := paired_len pr
              by_cases l1 : dr.length = 1
              · obtain ⟨vc, dc, rfl, rfl, cc⟩ := one_pair pr l1
                refine iteNS rfl ?_
                refine ⟨_, rfl, t, _, _, _, rfl, rfl, SqT.of ht2, rfl, scal_atm a, _, rfl, ?_⟩
                rw [a.vOf]
                refine iteDF c1 ?_
                rw [isCh_put c2] at k
                have elc : Srt dc := el _ rfl dc (by simp)
                refine ⟨_, rfl, t, _, _, _, rfl, rfl, SqT.of ht2, rfl, _, _, rfl, .atm cc, elc, fun H3 s3 => ⟨isT dc, rfl, ?_⟩⟩
                cases ct : isT dc with
                | false =>
                  rw [ct] at k
                  exact iteT (k _ s3)
                | true =>
                  obtain ⟨z, rfl⟩ := isT_str ct
                  cases cc
                  rw [ct] at k
                  have zl : z.length ≤ sizeLine := Nat.le_trans elc.1 (by decide)
                  refine iteF ⟨_, rfl, t, _, _, _, rfl, rfl, SqT.of (s3 _ _ ht2), rfl, _, _, rfl, ⟨zl, rfl⟩, rfl, _, rfl, ?_⟩
                  by_cases cz : z.length = 1
                  · refine iteNS (by rw [cz]; rfl) ?_
                    have el1 : lenB (.str z) = true := decide_eq_true cz
                    rw [el1, ci] at k
                    refine ⟨_, rfl, t, _, _, _, rfl, rfl, SqT.of (s3 _ _ ht2), rfl, scal_atm a, _, rfl, ?_⟩
                    rw [a.vOf, decide_eq_true c2]
                    exact iteT (k _ s3)
                  · have el1 : lenB (.str z) = false := decide_eq_false cz
                    rw [el1] at k
                    refine iteNF (fun q => cz (by have := V.int.inj q; omega)) (k _ s3)
              · rw [isCh_long c1 l1] at k
                refine iteNF (fun z => l1 ?_) (k _ Same.rfl)
                have := V.int.inj z
                simp only [List.length_cons] at this
                simp at this
                omega
          · by_cases c3 : vOf da = .str "set"
            · rw [decide_eq_false c1, decide_eq_false c2, decide_eq_true c3]
              refine ⟨_, rfl, iteF ?_⟩
              refine ⟨_, rfl, t, _, _, _, rfl, rfl, SqT.of ht2, at1, ?_⟩
              refine ⟨_, rfl, _, _, rfl, ⟨xl, rfl⟩, _, rfl, t, _, _, _, rfl, rfl, SqT.of ht2, at0, scal_atm a, ?_⟩
              rw [a.vOf, decide_eq_false c2]
              refine .inr ⟨_, rfl, _, _, rfl, rfl, _, _, _, _, rfl, .atm b, ?_⟩
              rw [show ((x.length : Nat) : Int) - (if (!false) = true then 1 else 0) = (((ll x).length : Nat) : Int) - 1 by rw [lx]; rfl]
              cases ci : inI db 0 ((((ll x).length : Nat) : Int) - 1) with
              | false =>
                have e : isCh (ll x) (da :: db :: dr) = false := by
                  by_cases l1 : dr.length = 1
                  · match dr, l1 with
                    | [dc], _ => rw [isCh_set c3, ci]; simp
                  · exact isCh_long c1 l1
                rw [e] at k
                exact ⟨_, rfl, iteT (k _ Same.rfl)⟩
              | true =>
                refine ⟨_, rfl, iteF ⟨_, rfl, _, _, rfl, .inr ⟨_, SqT.of ht2, rfl⟩, _, rfl, t, _, _, _, rfl, rfl, SqT.of ht2, at0, scal_atm a, ?_⟩⟩
                rw [a.vOf, decide_eq_false c1]
                refine .inr ⟨_, rfl, _, _, rfl, rfl, rfl, _, rfl, ?_⟩
                have pl := paired_len pr
                by_cases l1 : dr.length = 1
                · obtain ⟨vc, dc, rfl, rfl, cc⟩ := one_pair pr l1
                  refine iteNS rfl ?_
                  refine ⟨_, rfl, t, _, _, _, rfl, rfl, SqT.of ht2, rfl, scal_atm a, _, rfl, ?_⟩
                  rw [a.vOf]
                  refine iteDF c1 ?_
                  rw [isCh_set c3] at k
                  have elc : Srt dc := el _ rfl dc (by simp)
                  refine ⟨_, rfl, t, _, _, _, rfl, rfl, SqT.of ht2, rfl, _, _, rfl, .atm cc, elc, fun H3 s3 => ⟨isT dc, rfl, ?_⟩⟩
                  cases ct : isT dc with
                  | false =>
                    rw [ct] at k
                    exact iteT (k _ s3)
                  | true =>
                    obtain ⟨z, rfl⟩ := isT_str ct
                    cases cc
                    rw [ct] at k
                    have zl : z.length ≤ sizeLine := Nat.le_trans elc.1 (by decide)
                    refine iteF ⟨_, rfl, t, _, _, _, rfl, rfl, SqT.of (s3 _ _ ht2), rfl, _, _, rfl, ⟨zl, rfl⟩, rfl, _, rfl, ?_⟩
                    by_cases cz : z.length = 1
                    · refine iteNS (by rw [cz]; rfl) ?_
                      have el1 : lenB (.str z) = true := decide_eq_true cz
                      rw [el1, ci, Bool.true_and, Bool.true_and, Bool.true_and] at k
                      obtain ⟨i, rfl, i0, i1⟩ := inI_some ci
                      cases b
                      obtain ⟨n, rfl⟩ : ∃ n : Nat, i = (n : Nat) := ⟨i.toNat, by omega⟩
                      refine ⟨_, rfl, t, _, _, _, rfl, rfl, SqT.of (s3 _ _ ht2), rfl, scal_atm a, _, rfl, ?_⟩
                      rw [a.vOf, decide_eq_false c2]
                      refine iteF ⟨_, rfl, _, rfl, t, _, _, _, rfl, rfl, SqT.of (s3 _ _ ht2), rfl, x, _, _, rfl, rfl, xl, atI_ll (by omega), _, rfl, t, _, _, _, rfl, rfl, SqT.of (s3 _ _ ht2), rfl, rfl, ?_⟩
                      have e : difB (ll x) (.int ((n : Nat) : Int)) (.str z) = !decide (V.str ⟨#[fnL (ll x) n]⟩ = V.str z) := by
                        show (!decide (V.str z = V.str ⟨#[fnL (ll x) n]⟩)) = _
                        rw [decide_eq_decide.mpr ⟨fun e => e.symm, fun e => e.symm⟩]
                      rw [e] at k
                      exact k _ s3
                    · have el1 : lenB (.str z) = false := decide_eq_false cz
                      rw [el1] at k
                      refine iteNF (fun q => cz (by have := V.int.inj q; omega)) (k _ s3)
                · rw [isCh_long c1 l1] at k
                  refine iteNF (fun z => l1 ?_) (k _ Same.rfl)
                  have := V.int.inj z
                  simp only [List.length_cons] at this
                  simp at this
                  omega
            · rw [decide_eq_false c1, decide_eq_false c2, decide_eq_false c3]
              rw [isCh_odd c1 c2 c3] at k
              exact ⟨_, rfl, iteT (k _ Same.rfl)⟩
end
end Vk
set_option Elab.async false
set_option maxRecDepth 100000
set_option linter.all false
set_option maxHeartbeats 4000000
namespace Vk
open PySem PySem.Spec PyProof.Rows L2
/-! ## changes as data -/
def opD : PyData → Op
  | .tuple [.str _, .int i] => .drop i.toNat
  | .tuple [.str w, .int i, .str z] => if V.str w = .str "put" then .put i.toNat (fnL (ll z) 0) else .set i.toNat (fnL (ll z) 0)
  | _ => .drop 0
def chgR : Nat → List Nat → List PyData → Nat ⊕ List Nat
  | _, x, [] => .inr x
  | k, x, d :: ds => if okD x d = true then chgR (k + 1) (doOp x (opD d)) ds else .inl k
theorem one_str {z : Str} (h : z.length = 1) : z = ⟨#[fnL (ll z) 0]⟩ := by
  refine str_ext ?_
  have l1 : z.cps.toList.length = 1 := by rw [ll_len]; exact h
  show z.cps.toList = [fnL z.cps.toList 0]
  match e : z.cps.toList, l1 with
  | [c], _ => rfl
theorem vOf_str {d : PyData} {z : Str} (h : vOf d = .str z) : d = .str z := by
  cases d <;> cases h
  rfl
theorem and3 {a b c : Bool} (h : (a && b && c) = true) : a = true ∧ b = true ∧ c = true := by
  cases a <;> cases b <;> cases c <;> first | exact ⟨rfl, rfl, rfl⟩ | cases h
/-- what is right is a change -/
theorem ch_op {H : Hp} {x : List Nat} {v : V} {d : PyData} (th : Th H v d) (h : okD x d = true) : ∃ t, v = .ref t ∧ H t = some (.tup (opV (opD d))) ∧ okOp x (opD d) := by
  cases th with
  | atm a => cases a <;> cases h
  | lst e1 e2 e3 => cases h
  | dct e1 => cases h
  | @tup t xs ds ht pr =>
    refine ⟨t, rfl, ?_⟩
    have h : isCh x ds = true := h
    match xs, ds, pr with
    | [], [], .nil => cases h
    | [va], [da], .cons a .nil => cases h
    | va :: vb :: vr, da :: db :: dr, .cons a (.cons b pr) =>
      by_cases c1 : vOf da = .str "drop"
      · rw [isCh_drop c1, Bool.and_eq_true] at h
        obtain ⟨h1, h2⟩ := h
        obtain ⟨i, rfl, i0, i1⟩ := inI_some h2
        cases vOf_str c1
        match vr, dr, pr with
        | [], [], .nil =>
          cases a
          cases b
          refine ⟨?_, ?_⟩
          · rw [ht]
            show some (HO.tup [V.str "drop", V.int i]) = some (.tup [V.str "drop", V.int (i.toNat : Nat)])
            rw [Int.toNat_of_nonneg i0]
          · show i.toNat < x.length
            omega
        | _ :: _, _ :: _, .cons _ _ => cases h1
      · by_cases l1 : dr.length = 1
        · obtain ⟨vc, dc, rfl, rfl, cc⟩ := one_pair pr l1
          by_cases c2 : vOf da = .str "put"
          · rw [isCh_put c2] at h
            obtain ⟨h1, h2, h3⟩ := and3 h
            obtain ⟨i, rfl, i0, i1⟩ := inI_some h3
            obtain ⟨z, rfl⟩ := isT_str h1
            have zl : z.length = 1 := of_decide_eq_true h2
            cases vOf_str c2
            cases a
            cases b
            cases cc
            refine ⟨?_, ?_⟩
            · rw [ht]
              show some (HO.tup [V.str "put", V.int i, V.str z]) = some (.tup [V.str "put", V.int (i.toNat : Nat), V.str ⟨#[fnL (ll z) 0]⟩])
              rw [Int.toNat_of_nonneg i0, ← one_str zl]
            · show i.toNat ≤ x.length
              omega
          · by_cases c3 : vOf da = .str "set"
            · rw [isCh_set c3] at h
              obtain ⟨h1, h2, h3⟩ := and3 h
              rw [Bool.and_eq_true] at h3
              obtain ⟨h3, h4⟩ := h3
              obtain ⟨i, rfl, i0, i1⟩ := inI_some h3
              obtain ⟨z, rfl⟩ := isT_str h1
              have zl : z.length = 1 := of_decide_eq_true h2
              cases vOf_str c3
              cases a
              cases b
              cases cc
              refine ⟨?_, ?_, ?_⟩
              · rw [ht]
                show some (HO.tup [V.str "set", V.int i, V.str z]) = some (.tup [V.str "set", V.int (i.toNat : Nat), V.str ⟨#[fnL (ll z) 0]⟩])
                rw [Int.toNat_of_nonneg i0, ← one_str zl]
              · show i.toNat < x.length
                omega
              · intro e
                have h4 : (!decide (V.str z = V.str ⟨#[fnL x i.toNat]⟩)) = true := h4
                rw [e, ← one_str zl, decide_eq_true rfl] at h4
                cases h4
            · rw [isCh_odd c1 c2 c3] at h
              cases h
        · rw [isCh_long c1 l1] at h
          cases h
theorem do_len {x : List Nat} {o : Op} (h : okOp x o) : (doOp x o).length ≤ x.length + 1 := by
  cases o with
  | put i c =>
    show (x.take i ++ c :: x.drop i).length ≤ _
    rw [List.length_append, List.length_cons, List.length_take, List.length_drop]
    omega
  | drop i =>
    show (x.take i ++ x.drop (i + 1)).length ≤ _
    rw [List.length_append, List.length_take, List.length_drop]
    omega
  | set i c =>
    show (x.take i ++ c :: x.drop (i + 1)).length ≤ _
    rw [List.length_append, List.length_cons, List.length_take, List.length_drop]
    omega
section
variable {P : Program} {w : World} {K : PySem.W.Frag} {mg : Str → Option Value} {base : Heap}
def Things (H : Hp) : List V → List PyData → Prop := Paired (Th H)
theorem Things.keep {H H1 : Hp} {xs : List V} {ds : List PyData} (h : Things H xs ds) (s : Same H H1) : Things H1 xs ds := pair_mono (fun v d th => th.keep s) h
/-- the changes of a list or a tuple, done one after another -/
def spChgd (CI : Addr) : Sp := fun vs H Q E => ∃ x l xs ds, vs = [.str x, .ref l] ∧ (H l = some (.lst xs) ∨ H l = some (.tup xs)) ∧ Things H xs ds ∧ (∀ d ∈ ds, El d) ∧ x.length + ds.length ≤ 1000 ∧
  (∀ j, chgR 0 (ll x) ds = .inl j → ∀ H1 dd, Same H H1 → H1 dd = none → E (.ref CI) (some dd) (upd H1 dd (.xd [(("index" : Str), .int (j : Nat))]))) ∧ (∀ z H', chgR 0 (ll x) ds = .inr (ll z) → Same H H' → Q (.str z) H')
abbrev s_changed : Stmt := top 10
theorem sc_changed : FnScope ["text", "changes", "number", "change", "index", "letter"] ["text", "changes"] (defScope s_changed) := ⟨rfl, rfl, rfl, by decide +kernel, rfl, by decide +kernel, by decide +kernel⟩
theorem b_changed {f C_InvalidChange : Addr} {fd : FuncData} (F : Fun K "changed" "changed" s_changed f fd) (T : Txt mg) (c_is_change : CalG P w K mg base CX0 3 "is_change" spIsCh) (c_InvalidChange : ClsI P w K mg base 1 "InvalidChange" C_InvalidChange ["index"]) : FnG P w K mg base (L2.CX P w) 4 f fd ["text", "changes"] (spChgd C_InvalidChange) := by
  refine okG F sc_changed (fun vs H Q E h => ?_) (fun cdv A outer s H vs Q E hg hr h => ?_)
  · obtain ⟨x, l, xs, ds, rfl, _⟩ := h
    rfl
  · have hu := hu_of hr
    have hu64 := hr.units
    obtain ⟨x, l, xs, ds, rfl, hl, tg, el, hlen, k1, k2⟩ := h
    have xlen := paired_len tg
    refine ⟨_, (pss_cons (ps_for (passes_of rfl) rfl (pi_or (pi_enum (by rfl) T.enumerate (pa_cons (pv 1) pa_nil)) (pi_enumT (by rfl) T.enumerate (pa_cons (pv 1) pa_nil))) (pg_tup rfl (pgs_cons (pg_name (i := 2) sc_changed.nd rfl (Or.inl rfl)) (pgs_cons (pg_name (i := 3) sc_changed.nd rfl (Or.inl rfl)) pgs_nil))) (pss_cons (ps_if (pt_not (pt_val (pe_cG c_is_change hg hr (by decide) pass0 (pa_cons (pv 3) (pa_cons (pv 0) pa_nil))))) (pss_one (ps_raise rfl (takes_of rfl rfl rfl rfl) (pmk_k c_InvalidChange hg hr (by decide) pass0 (pa_cons (pv 2) pa_nil)))) pss_nil)
      (pss_cons (ps_set (i := 4) sc_changed.nd rfl (Or.inl rfl) (pe_ix ix_tup (pv 3) pe_int (fun _ _ => rfl)))
      (pss_cons (ps_set (i := 5) sc_changed.nd rfl (Or.inl rfl) (pe_ifExp (pt_cmpR op_eq (pe_ix ix_tup (pv 3) pe_int (fun _ _ => rfl)) pe_str (nomark _)) pe_str (pe_ix ix_tup (pv 3) pe_int (fun _ _ => rfl))))
      (pss_one (ps_set (i := 0) sc_changed.nd rfl (Or.inl rfl) (pe_op op_add_str (pe_op op_add_str (pe_slice sl_str (pv 0) po_none (po_some (pv 4))) (pv 5)) (pe_slice sl_str (pv 0) (po_some (pe_ifExp (pt_cmpR op_eq (pe_ix ix_tup (pv 3) pe_int (fun _ _ => rfl)) pe_str (nomark _)) (pv 4) (pe_op op_add (pv 4) pe_int))) po_none))))))))
      (pss_one (ps_ret (pv 0)))), ?_⟩
    rcases hl with hl | hl
    · refine .inl ⟨_, rfl, l, xs, rfl, SqL.of hl, ?_⟩
      refine for_enumL (xs := xs) (fun i σ H' => ∃ (z : Str) (o2 o3 o4 o5 : Option V), σ = [some (.str z), some (.ref l), o2, o3, o4, o5] ∧ Same H H' ∧ chgR 0 (ll x) ds = chgR i (ll z) (ds.drop i) ∧ z.length ≤ x.length + i) ?_ ?_ ?_ ?_
      · exact ⟨x, _, _, _, _, rfl, fun _ _ h => h, rfl, Nat.le_refl _⟩
      · rintro i σ H' _ ⟨z, o2, o3, o4, o5, rfl, s1, _⟩
        exact SqL.of (s1 _ _ hl)
      · rintro i v σ H1 T hv hT ⟨z, o2, o3, o4, o5, rfl, s1, tz, zl⟩
        obtain ⟨d, hd, th⟩ := paired_at tg hv
        have hi := (List.getElem?_eq_some_iff.mp hd).1
        rw [drop_at hd] at tz
        have sT := same_new (o := .tup [.int (i : Nat), v]) hT
        have s2 := s1.trans sT
        have zsl : z.length ≤ sizeLine := Nat.le_trans (show z.length ≤ 2000 by omega) (by decide)
        refine ⟨T, _, rfl, SqT.of upd_same, rfl, _, _, rfl, _, _, rfl, rfl, ?_⟩
        refine ⟨_, rfl, _, rfl, v, z, d, rfl, th.keep s2, el d (List.mem_of_getElem? hd), by omega, ?_⟩
        cases ok : okD (ll z) d with
        | false =>
          have e : chgR 0 (ll x) ds = .inl i := by
            rw [tz]
            show (if okD (ll z) d = true then _ else _) = _
            rw [ok]
            rfl
          exact ⟨false, rfl, iteT ⟨_, rfl, rfl, fun dd hdd => k1 i e _ dd s2 hdd⟩⟩
        | true =>
          obtain ⟨t, rfl, ht, oko⟩ := ch_op th ok
          have tz2 : chgR 0 (ll x) ds = chgR (i + 1) (doOp (ll z) (opD d)) (ds.drop (i + 1)) := by
            rw [tz]
            show (if okD (ll z) d = true then _ else _) = _
            rw [ok]
            rfl
          refine ⟨true, rfl, iteF ?_⟩
          have ht2 := s2 _ _ ht
          have dl := do_len oko
          rw [ll_len] at dl
          have cl : ∀ a b, (cutS z a b).length ≤ 1001 := fun a b => Nat.le_trans (cutS_length z a b) (by omega)
          have sz : ∀ n, n ≤ 3000 → n ≤ sizeLine := fun n h => Nat.le_trans h (by decide)
          generalize opD d = o at ht2 ht oko tz2 dl
          have fin : ∀ z2 : Str, (ll z2) = doOp (ll z) o → chgR 0 (ll x) ds = chgR (i + 1) (ll z2) (ds.drop (i + 1)) ∧ z2.length ≤ x.length + (i + 1) := fun z2 e => by
            rw [e]
            refine ⟨tz2, ?_⟩
            rw [← ll_len z2, e]
            omega
          cases o with
          | put p c =>
            refine ⟨_, rfl, t, _, _, _, rfl, rfl, SqT.of ht2, rfl, ?_⟩
            refine name_go ⟨_, rfl, t, _, _, _, rfl, rfl, SqT.of ht2, rfl, rfl, _, rfl, iteF ?_⟩
            refine ⟨_, rfl, t, _, _, _, rfl, rfl, SqT.of ht2, rfl, ?_⟩
            have l1 : (cutS z none (some ((p : Nat) : Int)) ++ (⟨#[c]⟩ : Str)).length ≤ 1002 := by
              rw [strLen_append]
              have := cl none (some ((p : Nat) : Int))
              have : (⟨#[c]⟩ : Str).length = 1 := rfl
              omega
            refine name_go ⟨_, rfl, _, rfl, _, rfl, z, rfl, zsl, _, rfl, _, _, rfl, rfl, sz _ (by have := cl none (some ((p : Nat) : Int)); have : (⟨#[c]⟩ : Str).length = 1 := rfl; omega), ?_⟩
            refine ⟨_, rfl, _, rfl, t, _, _, _, rfl, rfl, SqT.of ht2, rfl, rfl, _, rfl, iteT ⟨_, rfl, _, rfl, z, rfl, zsl, _, _, rfl, rfl, sz _ (by have := cl (some ((p : Nat) : Int)) none; omega), ?_⟩⟩
            refine ⟨_, _, _, _, _, rfl, s2, fin _ ?_⟩
            show (cutS z none (some ((p : Nat) : Int)) ++ (⟨#[c]⟩ : Str) ++ cutS z (some ((p : Nat) : Int)) none).cps.toList = (ll z).take p ++ c :: (ll z).drop p
            rw [app_list, app_list, cut_to, cut_from, List.append_assoc]
            rfl
          | drop p =>
            refine ⟨_, rfl, t, _, _, _, rfl, rfl, SqT.of ht2, rfl, ?_⟩
            refine name_go ⟨_, rfl, t, _, _, _, rfl, rfl, SqT.of ht2, rfl, rfl, _, rfl, iteT ?_⟩
            have l1 : (cutS z none (some ((p : Nat) : Int)) ++ ("" : Str)).length ≤ 1002 := by
              rw [strLen_append]
              have := cl none (some ((p : Nat) : Int))
              have : ("" : Str).length = 0 := rfl
              omega
            refine name_go ⟨_, rfl, _, rfl, _, rfl, z, rfl, zsl, _, rfl, _, _, rfl, rfl, sz _ (by have := cl none (some ((p : Nat) : Int)); have : ("" : Str).length = 0 := rfl; omega), ?_⟩
            refine ⟨_, rfl, _, rfl, t, _, _, _, rfl, rfl, SqT.of ht2, rfl, rfl, _, rfl, iteF ⟨_, rfl, _, _, rfl, rfl, _, rfl, z, rfl, zsl, _, _, rfl, rfl, sz _ (by have := cl (some (((p : Nat) : Int) + 1)) none; omega), ?_⟩⟩
            refine ⟨_, _, _, _, _, rfl, s2, fin _ ?_⟩
            show (cutS z none (some ((p : Nat) : Int)) ++ ("" : Str) ++ cutS z (some (((p + 1 : Nat) : Int))) none).cps.toList = (ll z).take p ++ (ll z).drop (p + 1)
            rw [app_list, app_list, cut_to, cut_from]
            exact congrArg (fun l => l ++ (ll z).drop (p + 1)) (List.append_nil _)
          | set p c =>
            refine ⟨_, rfl, t, _, _, _, rfl, rfl, SqT.of ht2, rfl, ?_⟩
            refine name_go ⟨_, rfl, t, _, _, _, rfl, rfl, SqT.of ht2, rfl, rfl, _, rfl, iteF ?_⟩
            refine ⟨_, rfl, t, _, _, _, rfl, rfl, SqT.of ht2, rfl, ?_⟩
            have l1 : (cutS z none (some ((p : Nat) : Int)) ++ (⟨#[c]⟩ : Str)).length ≤ 1002 := by
              rw [strLen_append]
              have := cl none (some ((p : Nat) : Int))
              have : (⟨#[c]⟩ : Str).length = 1 := rfl
              omega
            refine name_go ⟨_, rfl, _, rfl, _, rfl, z, rfl, zsl, _, rfl, _, _, rfl, rfl, sz _ (by have := cl none (some ((p : Nat) : Int)); have : (⟨#[c]⟩ : Str).length = 1 := rfl; omega), ?_⟩
            refine ⟨_, rfl, _, rfl, t, _, _, _, rfl, rfl, SqT.of ht2, rfl, rfl, _, rfl, iteF ⟨_, rfl, _, _, rfl, rfl, _, rfl, z, rfl, zsl, _, _, rfl, rfl, sz _ (by have := cl (some (((p : Nat) : Int) + 1)) none; omega), ?_⟩⟩
            refine ⟨_, _, _, _, _, rfl, s2, fin _ ?_⟩
            show (cutS z none (some ((p : Nat) : Int)) ++ (⟨#[c]⟩ : Str) ++ cutS z (some (((p + 1 : Nat) : Int))) none).cps.toList = (ll z).take p ++ c :: (ll z).drop (p + 1)
            rw [app_list, app_list, cut_to, cut_from, List.append_assoc]
            rfl
      · rintro σ H1 ⟨z, o2, o3, o4, o5, rfl, s1, tz, zl⟩
        rw [List.drop_of_length_le (by omega)] at tz
        exact ⟨_, rfl, k2 z H1 tz s1⟩
    · refine .inr ⟨_, rfl, l, xs, rfl, hl, ?_⟩
      refine for_enumT (xs := xs) (fun i σ H' => ∃ (z : Str) (o2 o3 o4 o5 : Option V), σ = [some (.str z), some (.ref l), o2, o3, o4, o5] ∧ Same H H' ∧ chgR 0 (ll x) ds = chgR i (ll z) (ds.drop i) ∧ z.length ≤ x.length + i) ?_ ?_ ?_ ?_
      · exact ⟨x, _, _, _, _, rfl, fun _ _ h => h, rfl, Nat.le_refl _⟩
      · rintro i σ H' _ ⟨z, o2, o3, o4, o5, rfl, s1, _⟩
        exact s1 _ _ hl
      · rintro i v σ H1 T hv hT ⟨z, o2, o3, o4, o5, rfl, s1, tz, zl⟩
        obtain ⟨d, hd, th⟩ := paired_at tg hv
        have hi := (List.getElem?_eq_some_iff.mp hd).1
        rw [drop_at hd] at tz
        have sT := same_new (o := .tup [.int (i : Nat), v]) hT
        have s2 := s1.trans sT
        have zsl : z.length ≤ sizeLine := Nat.le_trans (show z.length ≤ 2000 by omega) (by decide)
        refine ⟨T, _, rfl, SqT.of upd_same, rfl, _, _, rfl, _, _, rfl, rfl, ?_⟩
        refine ⟨_, rfl, _, rfl, v, z, d, rfl, th.keep s2, el d (List.mem_of_getElem? hd), by omega, ?_⟩
        cases ok : okD (ll z) d with
        | false =>
          have e : chgR 0 (ll x) ds = .inl i := by
            rw [tz]
            show (if okD (ll z) d = true then _ else _) = _
            rw [ok]
            rfl
          exact ⟨false, rfl, iteT ⟨_, rfl, rfl, fun dd hdd => k1 i e _ dd s2 hdd⟩⟩
        | true =>
          obtain ⟨t, rfl, ht, oko⟩ := ch_op th ok
          have tz2 : chgR 0 (ll x) ds = chgR (i + 1) (doOp (ll z) (opD d)) (ds.drop (i + 1)) := by
            rw [tz]
            show (if okD (ll z) d = true then _ else _) = _
            rw [ok]
            rfl
          refine ⟨true, rfl, iteF ?_⟩
          have ht2 := s2 _ _ ht
          have dl := do_len oko
          rw [ll_len] at dl
          have cl : ∀ a b, (cutS z a b).length ≤ 1001 := fun a b => Nat.le_trans (cutS_length z a b) (by omega)
          have sz : ∀ n, n ≤ 3000 → n ≤ sizeLine := fun n h => Nat.le_trans h (by decide)
          generalize opD d = o at ht2 ht oko tz2 dl
          have fin : ∀ z2 : Str, (ll z2) = doOp (ll z) o → chgR 0 (ll x) ds = chgR (i + 1) (ll z2) (ds.drop (i + 1)) ∧ z2.length ≤ x.length + (i + 1) := fun z2 e => by
            rw [e]
            refine ⟨tz2, ?_⟩
            rw [← ll_len z2, e]
            omega
          cases o with
          | put p c =>
            refine ⟨_, rfl, t, _, _, _, rfl, rfl, SqT.of ht2, rfl, ?_⟩
            refine name_go ⟨_, rfl, t, _, _, _, rfl, rfl, SqT.of ht2, rfl, rfl, _, rfl, iteF ?_⟩
            refine ⟨_, rfl, t, _, _, _, rfl, rfl, SqT.of ht2, rfl, ?_⟩
            have l1 : (cutS z none (some ((p : Nat) : Int)) ++ (⟨#[c]⟩ : Str)).length ≤ 1002 := by
              rw [strLen_append]
              have := cl none (some ((p : Nat) : Int))
              have : (⟨#[c]⟩ : Str).length = 1 := rfl
              omega
            refine name_go ⟨_, rfl, _, rfl, _, rfl, z, rfl, zsl, _, rfl, _, _, rfl, rfl, sz _ (by have := cl none (some ((p : Nat) : Int)); have : (⟨#[c]⟩ : Str).length = 1 := rfl; omega), ?_⟩
            refine ⟨_, rfl, _, rfl, t, _, _, _, rfl, rfl, SqT.of ht2, rfl, rfl, _, rfl, iteT ⟨_, rfl, _, rfl, z, rfl, zsl, _, _, rfl, rfl, sz _ (by have := cl (some ((p : Nat) : Int)) none; omega), ?_⟩⟩
            refine ⟨_, _, _, _, _, rfl, s2, fin _ ?_⟩
            show (cutS z none (some ((p : Nat) : Int)) ++ (⟨#[c]⟩ : Str) ++ cutS z (some ((p : Nat) : Int)) none).cps.toList = (ll z).take p ++ c :: (ll z).drop p
            rw [app_list, app_list, cut_to, cut_from, List.append_assoc]
            rfl
          | drop p =>
            refine ⟨_, rfl, t, _, _, _, rfl, rfl, SqT.of ht2, rfl, ?_⟩
            refine name_go ⟨_, rfl, t, _, _, _, rfl, rfl, SqT.of ht2, rfl, rfl, _, rfl, iteT ?_⟩
            have l1 : (cutS z none (some ((p : Nat) : Int)) ++ ("" : Str)).length ≤ 1002 := by
              rw [strLen_append]
              have := cl none (some ((p : Nat) : Int))
              have : ("" : Str).length = 0 := rfl
              omega
            refine name_go ⟨_, rfl, _, rfl, _, rfl, z, rfl, zsl, _, rfl, _, _, rfl, rfl, sz _ (by have := cl none (some ((p : Nat) : Int)); have : ("" : Str).length = 0 := rfl; omega), ?_⟩
            refine ⟨_, rfl, _, rfl, t, _, _, _, rfl, rfl, SqT.of ht2, rfl, rfl, _, rfl, iteF ⟨_, rfl, _, _, rfl, rfl, _, rfl, z, rfl, zsl, _, _, rfl, rfl, sz _ (by have := cl (some (((p : Nat) : Int) + 1)) none; omega), ?_⟩⟩
            refine ⟨_, _, _, _, _, rfl, s2, fin _ ?_⟩
            show (cutS z none (some ((p : Nat) : Int)) ++ ("" : Str) ++ cutS z (some (((p + 1 : Nat) : Int))) none).cps.toList = (ll z).take p ++ (ll z).drop (p + 1)
            rw [app_list, app_list, cut_to, cut_from]
            exact congrArg (fun l => l ++ (ll z).drop (p + 1)) (List.append_nil _)
          | set p c =>
            refine ⟨_, rfl, t, _, _, _, rfl, rfl, SqT.of ht2, rfl, ?_⟩
            refine name_go ⟨_, rfl, t, _, _, _, rfl, rfl, SqT.of ht2, rfl, rfl, _, rfl, iteF ?_⟩
            refine ⟨_, rfl, t, _, _, _, rfl, rfl, SqT.of ht2, rfl, ?_⟩
            have l1 : (cutS z none (some ((p : Nat) : Int)) ++ (⟨#[c]⟩ : Str)).length ≤ 1002 := by
              rw [strLen_append]
              have := cl none (some ((p : Nat) : Int))
              have : (⟨#[c]⟩ : Str).length = 1 := rfl
              omega
            refine name_go ⟨_, rfl, _, rfl, _, rfl, z, rfl, zsl, _, rfl, _, _, rfl, rfl, sz _ (by have := cl none (some ((p : Nat) : Int)); have : (⟨#[c]⟩ : Str).length = 1 := rfl; omega), ?_⟩
            refine ⟨_, rfl, _, rfl, t, _, _, _, rfl, rfl, SqT.of ht2, rfl, rfl, _, rfl, iteF ⟨_, rfl, _, _, rfl, rfl, _, rfl, z, rfl, zsl, _, _, rfl, rfl, sz _ (by have := cl (some (((p : Nat) : Int) + 1)) none; omega), ?_⟩⟩
            refine ⟨_, _, _, _, _, rfl, s2, fin _ ?_⟩
            show (cutS z none (some ((p : Nat) : Int)) ++ (⟨#[c]⟩ : Str) ++ cutS z (some (((p + 1 : Nat) : Int))) none).cps.toList = (ll z).take p ++ c :: (ll z).drop (p + 1)
            rw [app_list, app_list, cut_to, cut_from, List.append_assoc]
            rfl
      · rintro σ H1 ⟨z, o2, o3, o4, o5, rfl, s1, tz, zl⟩
        rw [List.drop_of_length_le (by omega)] at tz
        exact ⟨_, rfl, k2 z H1 tz s1⟩
end
end Vk
set_option Elab.async false
set_option maxRecDepth 100000
set_option linter.all false
set_option maxHeartbeats 4000000
namespace Vk
open PySem PySem.Spec PyProof.Rows L2
/-! ## things made where names stand -/
theorem New.ext2 {H H1 : Hp} {v : V} {p c : Addr} {T : Nat} (n : New H1 v) (x : Ext p H H1) (P : Pen H1 p c T) : New H v := fun b e => by
  have h1 := n b e
  by_cases z : b = p
  · obtain ⟨t, l, hl⟩ := P.is
    rw [z, hl] at h1
    cases h1
  · exact x.none_of z h1
theorem next_go {B : TS} {D : Ends} {σ : L2.St} {H : Hp} (h : D.nx σ H) : tNext D σ H := h
theorem Th.ne {H : Hp} {v : V} {d : PyData} {D : Addr} (h : Th H v d) (n : H D = none) : v ≠ .ref D := fun z => by
  cases h with
  | atm a => cases a <;> cases z
  | lst e _ _ => cases z; rw [e] at n; cases n
  | tup e _ => cases z; rw [e] at n; cases n
  | dct e => cases z; rw [e] at n; cases n
theorem ths_at {H : Hp} {D : Addr} {o : HO} (n : H D = none) {H1 : Hp} (s : Same H H1) : ∀ {vs : List V} {ds : List PyData}, Paired (Th H) vs ds → Paired (Th (upd H1 D o)) vs ds
  | _, _, .nil => .nil
  | _, _, .cons a t => .cons ((a.keep s).at (a.ne n)) (ths_at n s t)
def MA (σ : L2.St) (t : TE) (d : PyData) : Prop := ∃ v, Atm v d ∧ ∀ H Q, Q v H → t σ H Q
def MAs (σ : L2.St) (t : TA) (ds : List PyData) : Prop := ∃ vs, Paired Atm vs ds ∧ ∀ H Q, Q vs H → t σ H Q
section
variable {σ : L2.St} {t te : TE} {ta : TA} {d : PyData} {ds : List PyData}
theorem na_of (a : MkA te d) : MA σ te d := by
  obtain ⟨v, h1, h2⟩ := a
  exact ⟨v, h1, h2 σ⟩
theorem na_var {i : Nat} {v : V} (h : σ[i]? = some (some v)) (a : Atm v d) : MA σ (tVar i) d := ⟨v, a, fun H Q q => ⟨v, h, q⟩⟩
theorem nas_nil : MAs σ tNil [] := ⟨[], .nil, fun _ _ q => q⟩
theorem nas_cons (a : MA σ te d) (b : MAs σ ta ds) : MAs σ (tCons te ta) (d :: ds) := by
  obtain ⟨v, h1, h2⟩ := a
  obtain ⟨vs, g1, g2⟩ := b
  exact ⟨v :: vs, .cons h1 g1, fun H Q q => h2 H _ (g2 H _ q)⟩
end
/-! ## what may be shown -/
def GoodD (d : PyData) : Prop := d.showable = true ∧ d.depth ≤ 59 ∧ d.shown.length ≤ 1000 ∧ El d
theorem okC_good {d : PyData} (h : okC d = true) : GoodD d := by
  have el := okC_el h
  unfold okC okB at h
  simp only [Bool.and_eq_true, decide_eq_true_eq] at h
  obtain ⟨⟨⟨⟨⟨⟨⟨⟨h1, h2⟩, h3⟩, h4⟩, h5⟩, h6⟩, _⟩, _⟩, _⟩ := h
  refine ⟨h1, ?_, h3, el⟩
  have : (PyData.list [d, d]).depth = max d.depth (max d.depth 0) + 1 := rfl
  rw [this] at h5
  omega
theorem good_list {ds : List PyData} (h : ∀ d ∈ ds, GoodD d) (hl : ds.length ≤ 20) : Shn (.list ds) := by
  refine ⟨showableAll_iff fun d hd => (h d hd).1, Nat.succ_le_succ (depthAll_le fun d hd => (h d hd).2.1), ?_⟩
  show (listText (PyData.shownAll ds)).length ≤ _
  rw [shownAll_map]
  have h1 := listText_le (ds.map PyData.shown)
  have h2 := piled_le (ts := ds.map PyData.shown) (n := 1000) fun t ht => by
    obtain ⟨d, hd, rfl⟩ := List.mem_map.mp ht
    exact (h d hd).2.2.1
  rw [List.length_map] at h2
  refine Nat.le_of_lt (fewL ?_)
  have : ds.length * (1000 + 2) ≤ 20 * 1002 := Nat.mul_le_mul_right _ hl
  omega
theorem showy_c : ∀ c ∈ letS.cps.toList, (PyData.str ⟨#[c]⟩).showable = true ∧ (PyData.str ⟨#[c]⟩).shown.length ≤ 101 ∧ (PyData.str (Txt.mul ⟨#[c]⟩ 2)).showable = true ∧ (PyData.str (Txt.mul ⟨#[c]⟩ 2)).shown.length ≤ 101 ∧ PyData.strOk (Txt.mul ⟨#[c]⟩ 2) = true ∧ (Txt.mul ⟨#[c]⟩ 2).length ≤ 1000 := by decide +kernel
/-- an atom of a change -/
def AtD (d : PyData) : Prop := Showy d 0 101 ∧ Srt d
theorem good_tup {ds : List PyData} (h : ∀ d ∈ ds, AtD d) (hl : ds.length ≤ 5) : GoodD (.tuple ds) := by
  have s := Showy.tuple (k := 0) (n := 101) fun d hd => (h d hd).1
  refine ⟨s.sh, Nat.le_trans s.dp (by decide), Nat.le_trans s.ln ?_, fun l e x hx => ?_⟩
  · have : ds.length * (101 + 2) ≤ 5 * 103 := Nat.mul_le_mul_right _ hl
    omega
  · cases e
    exact (h x hx).2
theorem good_lst {ds : List PyData} (h : ∀ d ∈ ds, AtD d) (hl : ds.length ≤ 5) : GoodD (.list ds) := by
  have s := Showy.list (k := 0) (n := 101) fun d hd => (h d hd).1
  refine ⟨s.sh, Nat.le_trans s.dp (by decide), Nat.le_trans s.ln ?_, fun l e x hx => by cases e⟩
  have : ds.length * (101 + 2) ≤ 5 * 103 := Nat.mul_le_mul_right _ hl
  omega
theorem atD_nat {n : Nat} (h : n ≤ 1000) : AtD (.int (n : Nat)) := ⟨Showy.int (by
  have : (n : Int).natAbs < 10 ^ 100 := by
    rw [Int.natAbs_natCast]
    exact Nat.lt_of_le_of_lt h (by decide +kernel)
  exact this), trivial⟩
theorem atD_c {c : Nat} (h : c ∈ letS.cps.toList) : AtD (.str ⟨#[c]⟩) := ⟨⟨(showy_c c h).1, rfl, Nat.le_refl _, (showy_c c h).2.1⟩, (by decide : 1 ≤ 1000), ok_letters fun d hd => by
  have e : d ∈ [c] := hd
  rw [List.mem_singleton.mp e]
  exact h⟩
theorem atD_cc {c : Nat} (h : c ∈ letS.cps.toList) : AtD (.str (Txt.mul ⟨#[c]⟩ 2)) := ⟨⟨(showy_c c h).2.2.1, rfl, Nat.le_refl _, (showy_c c h).2.2.2.1⟩, (showy_c c h).2.2.2.2.2, (showy_c c h).2.2.2.2.1⟩
def atDB (d : PyData) : Bool := d.showable && !d.hasDict && decide (d.depth ≤ 0) && decide (d.shown.length ≤ 101) && srtB d
theorem atD_of {d : PyData} (h : atDB d = true) : AtD d := by
  unfold atDB at h
  simp only [Bool.and_eq_true, decide_eq_true_eq, Bool.not_eq_true'] at h
  obtain ⟨⟨⟨⟨h1, h2⟩, h3⟩, h4⟩, h5⟩ := h
  exact ⟨⟨h1, h2, h3, h4⟩, srtB_srt h5⟩
def MG (σ : L2.St) (t : TE) : Prop := ∀ H Q, (∀ v d H', Same H H' → Th H' v d → GoodD d → New H v → Q v H') → t σ H Q
def MGs (σ : L2.St) (t : TA) (n : Nat) : Prop := ∀ H Q, (∀ vs ds H', Same H H' → Paired (Th H') vs ds → (∀ d ∈ ds, GoodD d) → (∀ v ∈ vs, New H v) → vs.length = n → Q vs H') → t σ H Q
section
variable {σ : L2.St} {t te : TE} {ta : TA} {d : PyData} {ds : List PyData} {n : Nat}
theorem mg_tup (a : MAs σ ta ds) (g : ∀ d ∈ ds, AtD d) (hl : ds.length ≤ 5) : MG σ (tTup ta) := by
  obtain ⟨vs, g1, g2⟩ := a
  exact fun H Q q => g2 H _ ⟨few_len (by rw [paired_len g1]; omega), fun p hp => q _ _ _ (same_new hp) (.tup upd_same g1) (good_tup g hl) fun b e => by cases e; exact hp⟩
theorem mg_lst (a : MAs σ ta ds) (g : ∀ d ∈ ds, AtD d) (hl : ds.length ≤ 5) : MG σ (tLs1 ta) := by
  obtain ⟨vs, g1, g2⟩ := a
  exact fun H Q q => g2 H _ ⟨few_len (by rw [paired_len g1]; omega), fun p hp np => q _ _ _ (same_new hp) (.lst upd_same np g1) (good_lst g hl) fun b e => by cases e; exact hp⟩
theorem mgs_nil : MGs σ tNil 0 := fun H Q q => q [] [] H Same.rfl .nil (fun d hd => absurd hd List.not_mem_nil) (fun v hv => absurd hv List.not_mem_nil) rfl
theorem mgs_cons (a : MG σ te) (b : MGs σ ta n) : MGs σ (tCons te ta) (n + 1) := fun H Q q => a H _ fun v d H1 s1 t1 g1 n1 => b H1 _ fun vs ds H2 s2 t2 g2 n2 l2 => q _ _ _ (s1.trans s2) (.cons (t1.keep s2) t2) (fun e he => by
    rcases List.mem_cons.mp he with rfl | he
    · exact g1
    · exact g2 e he) (fun x hx => by
    rcases List.mem_cons.mp hx with rfl | hx
    · exact n1
    · exact (n2 x hx).same s1) (by rw [List.length_cons, l2])
theorem mg_many (a : MGs σ ta n) (hl : n ≤ 1000) {H : Hp} {Q : VK} (q : ∀ p xs ds H', Same H H' → H p = none → H' p = some (.lst xs) → Paired (Th H') xs ds → (∀ d ∈ ds, GoodD d) → (∀ v ∈ xs, New H v) → xs.length = n → Q (.ref p) H') : tLst ta σ H Q :=
  a H _ fun vs ds H1 s1 t1 g1 n1 l1 => ⟨few_len (by rw [l1]; exact hl), fun p hp => q p vs ds _ (s1.trans (same_new hp)) (none_up s1 hp) upd_same (ths_keep (same_new hp) t1) g1 n1 l1⟩
end
section
variable {P : Program} {w : World} {K : PySem.W.Frag} {mg : Str → Option Value} {base : Heap}
def spNsome : Sp := fun vs H Q _ => ∃ (p c : Addr) (x z : Str) (T : Nat), vs = [.ref p, .str x, .str z] ∧ x.length ≤ 100 ∧ Few z ∧ Pen H p c T ∧ T + 100 < 1000000000 ∧ ∀ v d H', Th H' v d → GoodD d → New H v → Pen H' p c (T + 10) → Ext p H H' → Q v H'
abbrev s_lnsome : Stmt := top 32
theorem sc_lnsome : FnScope ["_law_pen_here", "_law_here", "_law_signs_here", "_law_at", "_law_sign", "_law_some", "_law_odd"] ["_law_pen_here", "_law_here", "_law_signs_here"] (defScope s_lnsome) := ⟨rfl, rfl, rfl, by decide +kernel, rfl, by decide +kernel, by decide +kernel⟩
theorem b_lnsome {f : Addr} {fd : FuncData} (F : Fun K "_law_nsome" "_law_nsome" s_lnsome f fd) (T : Txt mg) (c_ldraw : CalG P w K mg base CX0 1 "_law_draw" spDraw) (c_lpick : CalG P w K mg base CX0 2 "_law_pick" (spPick K)) (c_lnother : CalG P w K mg base CX0 2 "_law_nother" spNother) (c_lany_value : CalG P w K mg base CX0 3 "_law_any_value" spAny) : FnG P w K mg base CX0 4 f fd ["_law_pen_here", "_law_here", "_law_signs_here"] spNsome := by
  refine okG0 F sc_lnsome (fun vs H Q E h => ?_) (fun cdv A outer s H vs Q E hg hr h => ?_)
  · obtain ⟨p, pc, x, z, T0, rfl, _⟩ := h
    rfl
  · have hu := hu_of hr
    have hu64 := hr.units
    obtain ⟨p, pc, x, z, T0, rfl, hx, fz, hpen, hT, k⟩ := h
    have xl : x.length ≤ sizeLine := Nat.le_trans hx (by decide)
    have z100 : z.length ≤ 1000 := Nat.le_trans fz.2.1 (by decide)
    refine ⟨_, (pss_cons (ps_set (i := 3) sc_lnsome.nd rfl (Or.inl rfl) (pe_cG c_ldraw hg hr (by decide) pass0 (pa_cons (pv 0) (pa_cons (pe_op op_add (pe_callB call_len (by rfl) T.len (by decide +kernel) (pa_cons (pv 1) pa_nil)) pe_int) pa_nil))))
      (pss_cons (ps_set (i := 4) sc_lnsome.nd rfl (Or.inl rfl) (pe_cG c_lpick hg hr (by decide) pass0 (pa_cons (pv 0) (pa_cons (pv 2) pa_nil))))
      (pss_cons (ps_set (i := 5) sc_lnsome.nd rfl (Or.inl rfl) (pe_lst (pa_cons (pe_tup (pa_cons pe_str (pa_cons (pv 3) (pa_cons (pv 4) pa_nil)))) (pa_cons (pe_tup (pa_cons pe_str (pa_cons (pv 3) (pa_cons (pv 4) pa_nil)))) (pa_cons (pe_tup (pa_cons pe_str (pa_cons (pv 3) pa_nil))) (pa_cons (pe_tup (pa_cons pe_str (pa_cons (pv 3) (pa_cons (pv 4) pa_nil)))) (pa_cons (pe_tup (pa_cons pe_str (pa_cons (pv 3) (pa_cons (pe_cG c_lnother hg hr (by decide) pass0 (pa_cons (pv 2) pa_nil)) pa_nil)))) pa_nil)))))))
      (pss_cons (ps_if (pt_cmpR op_gt (pe_cG c_ldraw hg hr (by decide) pass0 (pa_cons (pv 0) (pa_cons pe_int pa_nil))) pe_int (nomark _)) (pss_one (ps_ret (pe_cG c_lpick hg hr (by decide) pass0 (pa_cons (pv 0) (pa_cons (pv 5) pa_nil))))) pss_nil)
      (pss_cons (ps_set (i := 6) sc_lnsome.nd rfl (Or.inl rfl) (pe_lst (pa_cons (pe_tup (pa_cons pe_str (pa_cons (pv 3) (pa_cons pe_str pa_nil)))) (pa_cons (pe_tup (pa_cons pe_str (pa_cons (pv 3) (pa_cons (pe_op op_mulS (pv 4) pe_int) pa_nil)))) (pa_cons (pe_tup (pa_cons pe_str (pa_cons (pv 3) (pa_cons pe_str pa_nil)))) (pa_cons (pe_tup (pa_cons pe_str (pa_cons (pv 3) (pa_cons (pv 4) pa_nil)))) (pa_cons (pe_tup (pa_cons pe_str (pa_cons (pe_un un_neg pe_int) pa_nil))) (pa_cons (pe_tup (pa_cons pe_str (pa_cons (pv 3) pa_nil))) pa_nil))))))))
      (pss_cons (ps_set (i := 6) sc_lnsome.nd rfl (Or.inl rfl) (pe_op op_cat (pv 6) (pe_lst (pa_cons (pe_tup (pa_cons pe_str (pa_cons pe_bl (pa_cons (pv 4) pa_nil)))) (pa_cons (pe_ls1 (pa_cons pe_str (pa_cons (pv 3) pa_nil))) (pa_cons (pe_tup (pa_cons pe_str (pa_cons (pe_op op_add (pe_callB call_len (by rfl) T.len (by decide +kernel) (pa_cons (pv 1) pa_nil)) pe_int) (pa_cons (pv 4) pa_nil)))) (pa_cons (pe_tup (pa_cons pe_str (pa_cons (pe_callB call_len (by rfl) T.len (by decide +kernel) (pa_cons (pv 1) pa_nil)) pa_nil))) pa_nil)))))))
      (pss_cons (ps_expr (pe_bm PySem.F.plainAttrs_list PySem.F.slot_list_append PySem.F.type_list_append mt_append (pv 6) (pa_cons (pe_tup (pa_cons pe_str (pa_cons (pv 3) (pa_cons (pv 4) pa_nil)))) pa_nil)))
      (pss_one (ps_ret (pe_cG c_lpick hg hr (by decide) pass0 (pa_cons (pv 0) (pa_cons (pe_op op_cat (pv 6) (pe_lst (pa_cons (pe_cG c_lany_value hg hr (by decide) pass0 (pa_cons (pv 0) pa_nil)) (pa_cons (pe_tup (pa_cons pe_str (pa_cons (pv 3) (pa_cons pe_int pa_nil)))) (pa_cons (pe_tup (pa_cons pe_non (pa_cons (pv 3) pa_nil))) (pa_cons (pe_tup (pa_cons pe_int (pa_cons pe_int pa_nil))) (pa_cons (pe_tup (pa_cons pe_str pa_nil)) (pa_cons pe_str pa_nil)))))))) pa_nil)))))))))))), ?_⟩
    refine ⟨_, rfl, _, rfl, _, _, rfl, ⟨xl, rfl⟩, _, _, rfl, rfl, p, pc, _, _, rfl, by omega, by omega, hpen, by omega, fun at0 H1 a0 a1 P1 x1 => ?_⟩
    obtain ⟨n, rfl⟩ : ∃ n : Nat, at0 = (n : Nat) := ⟨at0.toNat, by omega⟩
    refine name_go ⟨_, rfl, _, rfl, p, pc, _, _, _, rfl, .str z z100, opts_ne fz.1, opts_le z100, P1, by omega, fun v H2 hv P2 x2 => ?_⟩
    obtain ⟨c, rfl, hc⟩ := ones_of hv
    have hcl : c ∈ letS.cps.toList := fz.2.2 c hc
    have an : AtD (.int ((n : Nat) : Int)) := atD_nat (by omega)
    have ac : AtD (.str ⟨#[c]⟩) := atD_c hcl
    have acc : AtD (.str (Txt.mul ⟨#[c]⟩ 2)) := atD_cc hcl
    have ap : AtD (.str "put") := atD_of (by decide +kernel)
    have ad : AtD (.str "drop") := atD_of (by decide +kernel)
    have as : AtD (.str "set") := atD_of (by decide +kernel)
    have all1 : ∀ {a : PyData}, AtD a → ∀ d ∈ [a], AtD d := fun ha d hd => by rw [List.mem_singleton.mp hd]; exact ha
    have allc : ∀ {a : PyData} {l : List PyData}, AtD a → (∀ d ∈ l, AtD d) → ∀ d ∈ a :: l, AtD d := fun ha hl d hd => by
      rcases List.mem_cons.mp hd with rfl | hd
      · exact ha
      · exact hl d hd
    refine name_go ?_
    have hv3 : ∀ o5 o6 : Option V, ([some (.ref p), some (.str x), some (.str z), some (.int ((n : Nat) : Int)), some (.str ⟨#[c]⟩), o5, o6] : L2.St)[3]? = some (some (.int ((n : Nat) : Int))) := fun _ _ => rfl
    dsimp only
    refine seq_asg ?_
    refine mg_many (n := 5) (mgs_cons ?_ (mgs_cons ?_ (mgs_cons ?_ (mgs_cons ?_ (mgs_cons ?_ mgs_nil))))) (by decide) (fun q1 xs1 ds1 H3 s3 nq1 hq1 t1 g1 n1 l1 => ?_)
    · exact mg_tup (nas_cons (na_of ma_str) (nas_cons (na_var rfl (.int _)) (nas_cons (na_var rfl (.str _)) nas_nil))) (allc ap (allc an (all1 ac))) (Nat.le_of_ble_eq_true rfl)
    · exact mg_tup (nas_cons (na_of ma_str) (nas_cons (na_var rfl (.int _)) (nas_cons (na_var rfl (.str _)) nas_nil))) (allc ap (allc an (all1 ac))) (Nat.le_of_ble_eq_true rfl)
    · exact mg_tup (nas_cons (na_of ma_str) (nas_cons (na_var rfl (.int _)) nas_nil)) (allc ad (all1 an)) (Nat.le_of_ble_eq_true rfl)
    · exact mg_tup (nas_cons (na_of ma_str) (nas_cons (na_var rfl (.int _)) (nas_cons (na_var rfl (.str _)) nas_nil))) (allc as (allc an (all1 ac))) (Nat.le_of_ble_eq_true rfl)
    · intro H9 Q9 q9
      refine ⟨_, rfl, _, rfl, z, rfl, Nat.le_trans fz.2.1 (by decide), fun e H10 he _ s10 => ⟨by show 3 ≤ sizeLine; decide, fun u hu => ?_⟩⟩
      exact q9 _ _ _ (s10.trans (same_new hu)) (.tup upd_same (.cons (.str _) (.cons (.int _) (.cons (.str _) .nil)))) (good_tup (allc as (allc an (all1 (atD_c he)))) (Nat.le_of_ble_eq_true rfl)) fun b e => by cases e; exact none_up s10 hu
    have P3 := P2.stay s3
    have x3 : Ext p H H3 := (x1.trans x2).trans (Ext.same s3)
    refine name_go ?_
    refine ⟨_, rfl, p, pc, 6, _, rfl, by decide, by decide, P3, by omega, fun m H4 _ _ P4 x4 => ⟨_, _, rfl, rfl, _, rfl, ?_⟩⟩
    by_cases hm : m > 0
    · refine iteDT hm ⟨_, rfl, _, rfl, p, pc, _, _, _, rfl, .lst (SqL.of (P3.keepI x4 hq1)), (fun z => by rw [z] at l1; cases l1), by omega, P4, by omega, fun v H5 hv P5 x5 => ?_⟩
      obtain ⟨d, hd, td⟩ := paired_mem t1 hv
      exact k v d H5 ((td.ext P3 x4).ext P4 x5) (g1 d hd) ((n1 v hv).ext2 (x1.trans x2) P2) (P5.mono (by omega)) ((x3.trans x4).trans x5)
    · refine iteDF hm ?_
      refine next_go (B := tNext) ?_
      dsimp only
      refine seq_asg ?_
      refine mg_many (n := 6) (mgs_cons ?_ (mgs_cons ?_ (mgs_cons ?_ (mgs_cons ?_ (mgs_cons ?_ (mgs_cons ?_ mgs_nil)))))) (by decide) (fun q2 xs2 ds2 H5 s5 nq2 hq2 t2 g2 n2 l2 => ?_)
      · exact mg_tup (nas_cons (na_of ma_str) (nas_cons (na_var rfl (.int _)) (nas_cons (na_of ma_str) nas_nil))) (allc ap (allc an (all1 (atD_of (by decide +kernel))))) (Nat.le_of_ble_eq_true rfl)
      · exact mg_tup (nas_cons (na_of ma_str) (nas_cons (na_var rfl (.int _)) (nas_cons ⟨_, .str _, fun H Q q => ⟨_, rfl, _, _, rfl, rfl, ⟨by decide, by decide, by show 1 * 2 ≤ 10000000; decide, by show 1 ≤ 10000000; decide⟩, q⟩⟩ nas_nil))) (allc ap (allc an (all1 acc))) (Nat.le_of_ble_eq_true rfl)
      · exact mg_tup (nas_cons (na_of ma_str) (nas_cons (na_var rfl (.int _)) (nas_cons (na_of ma_str) nas_nil))) (allc ap (allc an (all1 (atD_of (by decide +kernel))))) (Nat.le_of_ble_eq_true rfl)
      · exact mg_tup (nas_cons (na_of ma_str) (nas_cons (na_var rfl (.int _)) (nas_cons (na_var rfl (.str _)) nas_nil))) (allc ad (allc an (all1 ac))) (Nat.le_of_ble_eq_true rfl)
      · exact mg_tup (nas_cons (na_of ma_str) (nas_cons (na_of ma_neg) nas_nil)) (allc ad (all1 (atD_of (by decide +kernel)))) (Nat.le_of_ble_eq_true rfl)
      · exact mg_tup (nas_cons (na_of ma_str) (nas_cons (na_var rfl (.int _)) nas_nil)) (allc as (all1 an)) (Nat.le_of_ble_eq_true rfl)
      have P5 := P4.stay s5
      refine name_go ⟨_, rfl, ?_⟩
      refine mg_many (n := 4) (mgs_cons ?_ (mgs_cons ?_ (mgs_cons ?_ (mgs_cons ?_ mgs_nil)))) (by decide) (fun q3 xs3 ds3 H6 s6 nq3 hq3 t3 g3 n3 l3 => ?_)
      · exact mg_tup (nas_cons (na_of ma_str) (nas_cons (na_of ma_bl) (nas_cons (na_var rfl (.str _)) nas_nil))) (allc ap (allc (atD_of (by decide +kernel)) (all1 ac))) (Nat.le_of_ble_eq_true rfl)
      · exact mg_lst (nas_cons (na_of ma_str) (nas_cons (na_var rfl (.int _)) nas_nil)) (allc ad (all1 an)) (Nat.le_of_ble_eq_true rfl)
      · exact mg_tup (nas_cons (na_of ma_str) (nas_cons ⟨_, .int _, fun H Q q => ⟨_, rfl, _, _, rfl, ⟨xl, rfl⟩, _, _, rfl, rfl, q⟩⟩ (nas_cons (na_var rfl (.str _)) nas_nil))) (allc ap (allc (atD_nat (n := x.length + 1) (by omega)) (all1 ac))) (Nat.le_of_ble_eq_true rfl)
      · exact mg_tup (nas_cons (na_of ma_str) (nas_cons ⟨_, .int _, fun H Q q => ⟨_, rfl, _, _, rfl, ⟨xl, rfl⟩, q⟩⟩ nas_nil)) (allc ad (all1 (atD_nat (n := x.length) (by omega)))) (Nat.le_of_ble_eq_true rfl)
      have P6 := P5.stay s6
      refine ⟨q2, q3, xs2, xs3, rfl, rfl, s6 _ _ hq2, hq3, few_len (by omega), fun q4 hq4 => ?_⟩
      have s7 := same_new (o := .lst (xs2 ++ xs3)) hq4
      have P7 := P6.stay s7
      have ap4 := P6.apart hq4
      refine name_go ⟨_, rfl, .inl ⟨rfl, _, SqL.of upd_same⟩, _, rfl, _, rfl, by show 3 ≤ sizeLine; decide, fun tt htt => ?_⟩
      have s8 := same_new (o := .tup [.str "swap", .int ((n : Nat) : Int), OneS c]) htt
      have P8 := P7.stay s8
      have tsw : Th (upd (upd H6 q4 (.lst (xs2 ++ xs3))) tt (.tup [.str "swap", .int ((n : Nat) : Int), OneS c])) (.ref tt) (.tuple [.str "swap", .int ((n : Nat) : Int), .str ⟨#[c]⟩]) := .tup upd_same (.cons (.str _) (.cons (.int _) (.cons (.str _) .nil)))
      have gsw : GoodD (.tuple [.str "swap", .int ((n : Nat) : Int), .str ⟨#[c]⟩]) := good_tup (allc (atD_of (by decide +kernel)) (allc an (all1 ac))) (Nat.le_of_ble_eq_true rfl)
      have ntt : tt ≠ q4 := fun z => by rw [z, upd_same] at htt; cases htt
      refine ⟨q4, _, _, rfl, rfl, s8 _ _ upd_same, few_len (by rw [List.length_append]; omega), ?_⟩
      have P9 := P8.set (o := .lst (xs2 ++ xs3 ++ [.ref tt])) ap4.1 ap4.2
      have tsw9 := tsw.at (o := .lst (xs2 ++ xs3 ++ [.ref tt])) (D := q4) (fun z => ntt (V.ref.inj z))
      have t29 := ths_at (o := .lst (xs2 ++ xs3 ++ [.ref tt])) hq4 (s7.trans s8) (ths_keep s6 t2)
      have t39 := ths_at (o := .lst (xs2 ++ xs3 ++ [.ref tt])) hq4 (s7.trans s8) t3
      have x9 : Ext p H4 (upd (upd (upd H6 q4 (.lst (xs2 ++ xs3))) tt (.tup [.str "swap", .int ((n : Nat) : Int), OneS c])) q4 (.lst (xs2 ++ xs3 ++ [.ref tt]))) := Ext.set (Ext.same (((s5.trans s6).trans s7).trans s8)) (none_up (s5.trans s6) hq4)
      have h49 : (upd (upd (upd H6 q4 (.lst (xs2 ++ xs3))) tt (.tup [.str "swap", .int ((n : Nat) : Int), OneS c])) q4 (.lst (xs2 ++ xs3 ++ [.ref tt]))) q4 = some (.lst (xs2 ++ xs3 ++ [.ref tt])) := upd_same
      have nsw : New H4 (.ref tt) := fun b e => by
        cases e
        exact none_up ((s5.trans s6).trans s7) htt
      generalize upd (upd (upd H6 q4 (.lst (xs2 ++ xs3))) tt (.tup [.str "swap", .int ((n : Nat) : Int), OneS c])) q4 (.lst (xs2 ++ xs3 ++ [.ref tt])) = H9 at P9 tsw9 t29 t39 x9 h49 ⊢
      refine ⟨_, rfl, _, rfl, _, rfl, p, pc, _, rfl, P9, by omega, fun va da Ha tha oka na Pa xa => ?_⟩
      have ha4 := P9.keepI xa h49
      refine (mgs_cons ?_ (mgs_cons ?_ (mgs_cons ?_ (mgs_cons ?_ (mgs_cons ?_ mgs_nil)))) : MGs _ _ 5) Ha _ (fun vs4 ds4 Hb sb t4 g4 n4 l4 => ⟨few_len (by rw [List.length_cons]; omega), fun q5 hq5 => ?_⟩)
      · exact mg_tup (nas_cons (na_of ma_str) (nas_cons (na_var rfl (.int _)) (nas_cons (na_of ma_int) nas_nil))) (allc ap (allc an (all1 (atD_of (by decide +kernel))))) (Nat.le_of_ble_eq_true rfl)
      · exact mg_tup (nas_cons (na_of ma_non) (nas_cons (na_var rfl (.int _)) nas_nil)) (allc (atD_of (by decide +kernel)) (all1 an)) (Nat.le_of_ble_eq_true rfl)
      · exact mg_tup (nas_cons (na_of ma_int) (nas_cons (na_of ma_int) nas_nil)) (allc (atD_of (by decide +kernel)) (all1 (atD_of (by decide +kernel)))) (Nat.le_of_ble_eq_true rfl)
      · exact mg_tup (nas_cons (na_of ma_str) nas_nil) (all1 ap) (Nat.le_of_ble_eq_true rfl)
      · intro H9 Q9 q9
        exact q9 _ (.str "drop") H9 Same.rfl (.atm (.str _)) (okC_good (by decide +kernel)) (fun b e => nomatch e)
      have s11 := same_new (o := .lst (va :: vs4)) hq5
      refine ⟨q4, q5, _, _, rfl, rfl, s11 _ _ (sb _ _ ha4), upd_same, few_len (by simp only [List.length_append, List.length_cons, List.length_nil]; omega), fun q6 hq6 => ?_⟩
      have s12 := same_new (o := .lst (xs2 ++ xs3 ++ [.ref tt] ++ (va :: vs4))) hq6
      have sc := (sb.trans s11).trans s12
      have Pc := Pa.stay sc
      refine ⟨p, pc, _, _, _, rfl, .lst (SqL.of upd_same), (fun z => by simp at z), by simp only [List.length_append, List.length_cons, List.length_nil]; omega, Pc, by omega, fun v Hd hv Pd xd => ?_⟩
      have xall : Ext p H4 Hd := ((x9.trans xa).trans (Ext.same sc)).trans xd
      have fin : ∀ d, Th (upd (upd Hb q5 (.lst (va :: vs4))) q6 (.lst (xs2 ++ xs3 ++ [.ref tt] ++ (va :: vs4)))) v d → GoodD d → New H4 v → Q v Hd := fun d th g nw => k v d Hd (th.ext Pc xd) g (nw.ext2 (x3.trans x4) P4) (Pd.mono (by omega)) ((x3.trans x4).trans xall)
      rcases List.mem_append.mp hv with hv | hv
      · rcases List.mem_append.mp hv with hv | hv
        · rcases List.mem_append.mp hv with hv | hv
          · obtain ⟨d, hd, td⟩ := paired_mem t29 hv
            exact fin d ((td.ext P9 xa).keep sc) (g2 d hd) (n2 v hv)
          · obtain ⟨d, hd, td⟩ := paired_mem t39 hv
            exact fin d ((td.ext P9 xa).keep sc) (g3 d hd) ((n3 v hv).same s5)
        · rw [List.mem_singleton.mp hv] at fin
          rw [List.mem_singleton.mp hv]
          exact fin _ ((tsw9.ext P9 xa).keep sc) gsw nsw
      · rcases List.mem_cons.mp hv with rfl | hv
        · exact fin da (tha.keep sc) (okC_good oka) (na.ext2 x9 P9)
        · obtain ⟨d, hd, td⟩ := paired_mem t4 hv
          exact fin d (td.keep (s11.trans s12)) (g4 d hd) (((n4 v hv).ext2 xa Pa).ext2 x9 P9)
end
end Vk
set_option Elab.async false
set_option maxRecDepth 100000
set_option linter.all false
set_option maxHeartbeats 4000000
namespace Vk
open PySem PySem.Spec PyProof.Rows L2 LamX NdefX StX
section
variable {P : Program} {w : World} {K : PySem.W.Frag} {mg : Str → Option Value} {base : Heap}
def forB : Stmt → List Stmt
  | .For _ _ b _ _ => b
  | _ => []
def ifT : Stmt → Expr
  | .If c _ _ _ => c
  | _ => .Constant .none 0 ⟨0, 0, 0, 0⟩
def cmpL : Expr → Expr
  | .Compare l _ _ _ => l
  | e => e
def or1 : Expr → Expr
  | .BoolOp _ (e :: _) _ => e
  | e => e
def arg0 : Expr → Expr
  | .Call _ (e :: _) _ _ => e
  | e => e
def lamPs : Expr → Arguments
  | .Lambda p _ _ _ => p
  | _ => defArgs (top 0)
def lamB : Expr → Expr
  | .Lambda _ b _ _ => b
  | e => e
def lamSc : Expr → Scope
  | .Lambda _ _ s _ => s
  | _ => defScope (top 0)
def lam (e : Expr) (q : Str) (cl : List (Str × Addr)) (c : Addr) : LF := ⟨q, lamPs e, lamB e, lamSc e, cl, c⟩
abbrev nopS : Stmt := .Pass ⟨0, 0, 0, 0⟩
abbrev s_law : Stmt := top 34
abbrev outF : List Stmt := forB ((defBody s_law).getD 1 nopS)
abbrev e_l0 : Expr := arg0 (cmpL (or1 (ifT (outF.getD 6 nopS))))
abbrev e_l1 : Expr := arg0 (cmpL (ifT (outF.getD 7 nopS)))
/-- a change done -/
def spNdone : Sp := fun vs H Q _ => ∃ x t o, vs = [.str x, .ref t] ∧ H t = some (.tup (opV o)) ∧ x.length ≤ 1000 ∧ ∀ z : Str, ll z = doOp (ll x) o → Q (.str z) H
abbrev s_lndone : Stmt := top 31
theorem sc_lndone : FnScope ["_law_here", "_law_thing", "_law_at"] ["_law_here", "_law_thing"] (defScope s_lndone) := ⟨rfl, rfl, rfl, by decide +kernel, rfl, by decide +kernel, by decide +kernel⟩
theorem b_lndone {f : Addr} {fd : FuncData} (F : Fun K "_law_ndone" "_law_ndone" s_lndone f fd) (T : Txt mg) : FnG P w K mg base CX0 1 f fd ["_law_here", "_law_thing"] spNdone := by
  refine okG0 F sc_lndone (fun vs H Q E h => ?_) (fun cdv A outer s H vs Q E hg hr h => ?_)
  · obtain ⟨x, t, o, rfl, _⟩ := h
    rfl
  · have hu := hu_of hr
    have hu64 := hr.units
    obtain ⟨x, t, o, rfl, ht, hx, k⟩ := h
    have xl : x.length ≤ sizeLine := Nat.le_trans hx (by decide)
    have cl : ∀ a b, (cutS x a b).length ≤ 1000 := fun a b => Nat.le_trans (cutS_length x a b) hx
    have sz : ∀ n, n ≤ 3000 → n ≤ sizeLine := fun n h => Nat.le_trans h (by decide)
    refine ⟨_, (pss_cons (ps_set (i := 2) sc_lndone.nd rfl (Or.inl rfl) (pe_ix ix_tup (pv 1) pe_int (fun _ _ => rfl)))
      (pss_cons (ps_if (pt_cmpR op_eq (pe_ix ix_tup (pv 1) pe_int (fun _ _ => rfl)) pe_str (nomark _)) (pss_one (ps_ret (pe_op op_add_str (pe_op op_add_str (pe_slice sl_str (pv 0) po_none (po_some (pv 2))) (pe_ix ix_tup (pv 1) pe_int (fun _ _ => rfl))) (pe_slice sl_str (pv 0) (po_some (pv 2)) po_none)))) pss_nil)
      (pss_one (ps_ret (pe_op op_add_str (pe_op op_add_str (pe_slice sl_str (pv 0) po_none (po_some (pv 2))) (pe_ifExp (pt_cmpR op_eq (pe_ix ix_tup (pv 1) pe_int (fun _ _ => rfl)) pe_str (nomark _)) (pe_ix ix_tup (pv 1) pe_int (fun _ _ => rfl)) pe_str)) (pe_slice sl_str (pv 0) (po_some (pe_op op_add (pv 2) pe_int)) po_none)))))), ?_⟩
    cases o with
    | put p c =>
      refine ⟨_, rfl, t, _, _, _, rfl, rfl, SqT.of ht, rfl, ?_⟩
      refine name_go ⟨_, rfl, t, _, _, _, rfl, rfl, SqT.of ht, rfl, rfl, _, rfl, iteT ?_⟩
      have l1 : (cutS x none (some ((p : Nat) : Int)) ++ (⟨#[c]⟩ : Str)).length ≤ 1002 := by
        rw [strLen_append]
        have := cl none (some ((p : Nat) : Int))
        have : (⟨#[c]⟩ : Str).length = 1 := rfl
        omega
      refine ⟨_, rfl, _, rfl, _, rfl, x, rfl, xl, _, rfl, t, _, _, _, rfl, rfl, SqT.of ht, rfl, _, _, rfl, rfl, sz _ (by have := cl none (some ((p : Nat) : Int)); have : (⟨#[c]⟩ : Str).length = 1 := rfl; omega), ?_⟩
      refine ⟨_, rfl, _, rfl, _, rfl, x, rfl, xl, _, _, rfl, rfl, sz _ (by have := cl (some ((p : Nat) : Int)) none; omega), k _ ?_⟩
      show (cutS x none (some ((p : Nat) : Int)) ++ (⟨#[c]⟩ : Str) ++ cutS x (some ((p : Nat) : Int)) none).cps.toList = (ll x).take p ++ c :: (ll x).drop p
      rw [app_list, app_list, cut_to, cut_from, List.append_assoc]
      rfl
    | drop p =>
      refine ⟨_, rfl, t, _, _, _, rfl, rfl, SqT.of ht, rfl, ?_⟩
      refine name_go ⟨_, rfl, t, _, _, _, rfl, rfl, SqT.of ht, rfl, rfl, _, rfl, iteF ?_⟩
      have l1 : (cutS x none (some ((p : Nat) : Int)) ++ ("" : Str)).length ≤ 1002 := by
        rw [strLen_append]
        have := cl none (some ((p : Nat) : Int))
        have : ("" : Str).length = 0 := rfl
        omega
      refine ⟨_, rfl, _, rfl, _, rfl, x, rfl, xl, _, rfl, t, _, _, _, rfl, rfl, SqT.of ht, rfl, rfl, _, rfl, iteF ⟨_, _, rfl, rfl, sz _ (by have := cl none (some ((p : Nat) : Int)); have : ("" : Str).length = 0 := rfl; omega), ?_⟩⟩
      refine ⟨_, rfl, _, rfl, _, _, rfl, rfl, _, rfl, x, rfl, xl, _, _, rfl, rfl, sz _ (by have := cl (some (((p : Nat) : Int) + 1)) none; omega), k _ ?_⟩
      show (cutS x none (some ((p : Nat) : Int)) ++ ("" : Str) ++ cutS x (some (((p + 1 : Nat) : Int))) none).cps.toList = (ll x).take p ++ (ll x).drop (p + 1)
      rw [app_list, app_list, cut_to, cut_from]
      exact congrArg (fun l => l ++ (ll x).drop (p + 1)) (List.append_nil _)
    | set p c =>
      refine ⟨_, rfl, t, _, _, _, rfl, rfl, SqT.of ht, rfl, ?_⟩
      refine name_go ⟨_, rfl, t, _, _, _, rfl, rfl, SqT.of ht, rfl, rfl, _, rfl, iteF ?_⟩
      have l1 : (cutS x none (some ((p : Nat) : Int)) ++ (⟨#[c]⟩ : Str)).length ≤ 1002 := by
        rw [strLen_append]
        have := cl none (some ((p : Nat) : Int))
        have : (⟨#[c]⟩ : Str).length = 1 := rfl
        omega
      refine ⟨_, rfl, _, rfl, _, rfl, x, rfl, xl, _, rfl, t, _, _, _, rfl, rfl, SqT.of ht, rfl, rfl, _, rfl, iteT ⟨_, rfl, t, _, _, _, rfl, rfl, SqT.of ht, rfl, _, _, rfl, rfl, sz _ (by have := cl none (some ((p : Nat) : Int)); have : (⟨#[c]⟩ : Str).length = 1 := rfl; omega), ?_⟩⟩
      refine ⟨_, rfl, _, rfl, _, _, rfl, rfl, _, rfl, x, rfl, xl, _, _, rfl, rfl, sz _ (by have := cl (some (((p : Nat) : Int) + 1)) none; omega), k _ ?_⟩
      show (cutS x none (some ((p : Nat) : Int)) ++ (⟨#[c]⟩ : Str) ++ cutS x (some (((p + 1 : Nat) : Int))) none).cps.toList = (ll x).take p ++ c :: (ll x).drop (p + 1)
      rw [app_list, app_list, cut_to, cut_from, List.append_assoc]
      rfl
/-- what the lambdas do -/
def spL (CN : Addr) : SpL := fun ws H Q E => ∃ v1 v2, ws = [some v1, some v2] ∧ spChgd CN [v1, v2] H Q E
theorem lk0 {CN : Addr} (k_changed : CalK P w K mg base (L2.CX P w) 4 "changed" (spChgd CN) ["changes", "text"] List.reverse) (q : Str) (cl : List (Str × Addr)) (c : Addr) : LamK P w K mg base 5 (lam e_l0 q cl c) ["_law_here", "_law_rows"] (spL CN) := by
  refine lamk_of (N := ["_law_here", "_law_rows"]) (nscope_by (show nscB _ _ _ (lamSc e_l0) = true by decide +kernel)) (fun _ _ => rfl) (fun A outer s H f ws Q E hg hr hl h => ?_)
  obtain ⟨v1, v2, rfl, k⟩ := h
  exact ⟨_, pe_kw k_changed hg hr (by decide) (passes_call (takes_of rfl rfl rfl rfl) (fun _ _ _ _ h => h)) (pk_cons (pv 1) (pk_cons (pv 0) pk_nil)), _, rfl, _, rfl, rfl, k⟩
def spL1 (CN : Addr) : SpL := fun ws H Q E => ∃ x l xs, ws = [some (.str x), some (.ref l)] ∧ H l = some (.lst xs) ∧ ∀ t, H t = none → spChgd CN [.str x, .ref t] (upd H t (.tup xs)) Q E
theorem lk1 {CN : Addr} (T : Txt mg) (c_changed : CalG P w K mg base (L2.CX P w) 4 "changed" (spChgd CN)) (q : Str) (cl : List (Str × Addr)) (c : Addr) : LamK P w K mg base 5 (lam e_l1 q cl c) ["_law_here", "_law_rows"] (spL1 CN) := by
  refine lamk_of (N := ["_law_here", "_law_rows"]) (nscope_by (show nscB _ _ _ (lamSc e_l1) = true by decide +kernel)) (fun _ _ => rfl) (fun A outer s H f ws Q E hg hr hl h => ?_)
  obtain ⟨x, l, xs, rfl, hl, k⟩ := h
  exact ⟨_, pe_cG c_changed hg hr (by decide) (passes_call (takes_of rfl rfl rfl rfl) (fun _ _ _ _ h => h)) (pa_cons (pv 0) (pa_cons (pe_callTy call_tuple_of (by rfl) T.tuple (by decide +kernel) (pa_cons (pv 1) pa_nil)) pa_nil)), _, rfl, _, rfl, l, xs, rfl, .inl ⟨SqL.of hl, fun t ht => k t ht⟩⟩
/-- try: return ("..", x()) of a lambda that x holds -/
def tTryLamT (z : Str) (f : Addr) (F : LF) (ws : List (Option V)) (sp : SpL) (n : Nat) : WX → TS := fun W D σ H => ∃ E : XK, (∀ cls d (σ' : L2.St) H', σ'.length = n → E cls d H' → W cls d σ' H') ∧ σ[0]? = some (some (.ref f)) ∧ H f = some (LamO f F) ∧ H F.c = some (CodeO F.c F.qual) ∧ sp ws H (fun v H1 => 2 ≤ sizeLine ∧ ∀ t, H1 t = none → D.rt (.ref t) (upd H1 t (.tup [.str z, v]))) E
theorem pss_tryLamT {X : Cx} {W : WX} {pn : List (Addr × Obj)} {xe : Value → Shared → Prop} {f : Addr} {F : LF} {fr : List Str} {ws : List (Option V)} {sp : SpL} {j k n : Nat} {x z : Str} {kk : Nat} {p0 p1 p2 p3 p4 : Pos} (tk : Takes (X.tr pn xe) W) (C : CellsAt F.cl fr ws X.s_0.heap X.H_0) (hx0 : X.ex = [])
    (L : LamK X.prog X.w X.K X.mg X.base k F fr sp) (hg : X.A.guards = some []) (hr : Room j X.A) (hk : k ≤ j) (hl : X.N.length = n) (hN : X.N[0]? = some x) (hv : Vis X.env.scope x) (hd : (x == ("__debug__" : Str)) = false := by decide) (hcd : (x == ("__classdict__" : Str)) = false := by decide) :
    PSs (X.tr pn xe) [.Return (some (.Tuple [.Constant (.str z) 0 p0, .Call (.Name x p1) [] [] p2] kk p4)) p3] (tTryLamT z f F ws sp n W) := by
  refine ⟨fun pins s σ H D I h => ?_⟩
  obtain ⟨E, hW, h1, h2, h3, h4⟩ := h
  exact (pss_one (ps_ret (pe_tup (pa_cons pe_str (pa_cons (pe_lamact (X := X.tr pn xe) (f0 := f) C hx0 L hg hr hk (passes_len tk fun cls d σ' H' le => hW cls d σ' H' (le.trans hl)) hN hv hd hcd) pa_nil))))).run pins s σ H D I ⟨h1, h2, h3, h4⟩
def Enex (CN : Addr) (Q : VK) : XK := fun cls d H => cls = .ref CN ∧ ∃ dd, ∃ i : Nat, d = some dd ∧ H dd = some (.xd [(("index" : Str), .int i)]) ∧ ∀ t, H t = none → Q (.ref t) (upd H t (.tup [.str "no", .int i, .bl true]))
def spNex (P : Program) (w : World) (K : PySem.W.Frag) (mg : Str → Option Value) (base : Heap) (CN : Addr) : Heap → Sp := fun h vs H Q _ => ∃ f F fr ws spl, vs = [.ref f] ∧ LamK P w K mg base 5 F fr spl ∧ H f = some (LamO f F) ∧ H F.c = some (CodeO F.c F.qual) ∧ CellsAt F.cl fr ws h H ∧ spl ws H (fun v H1 => 2 ≤ sizeLine ∧ ∀ t, H1 t = none → Q (.ref t) (upd H1 t (.tup [.str "told", v]))) (Enex CN Q)
abbrev s_lnchanged : Stmt := top 33
theorem sc_lnchanged : FnScope ["_law_call", "e"] ["_law_call"] (defScope s_lnchanged) := ⟨rfl, rfl, rfl, by decide +kernel, rfl, by decide +kernel, by decide +kernel⟩
theorem b_lnchanged {f CN : Addr} {fd : FuncData} (F : Fun K "_law_nchanged" "_law_nchanged" s_lnchanged f fd) (T : Txt mg) (c_InvalidChange : ClsI P w K mg base 1 "InvalidChange" CN ["index"]) (oo : PySem.W.exmOne K (.ref CN) (.ref CN) = some true) (vo : PySem.W.kitOne K (.ref CN) (.type "ValueError") = some true) :
    FnH P w K mg base CX0 6 f fd ["_law_call"] (spNex P w K mg base CN) := by
  refine okH F sc_lnchanged (fun h0 vs H Q E h => ?_) (fun cdv A outer s H vs Q E hg hr h => ?_)
  · obtain ⟨f1, F1, fr, ws, spl, rfl, _⟩ := h
    rfl
  · have hu := hu_of hr
    have hu64 := hr.units
    obtain ⟨f1, F1, fr, ws, spl, rfl, L, hf1, hc1, C1, k⟩ := h
    refine ⟨_, PSs.nox (pss_one (ps_try_each (W0 := fun _ _ _ _ => False) (tb := tTryLamT "told" f1 F1 ws spl 2) rfl rfl sc_lnchanged.nd takes0 (fun W pn xe tk _ => pss_tryLamT tk C1 rfl L hg hr (by decide) rfl rfl (Or.inl rfl))
      (.named (c := .ref CN) (i := 1) rfl rfl ⟨by rfl, by decide, .inl c_InvalidChange.hm⟩ (fun a oe cls d pn hz hf => pss_one (ps_ret (pe_tup (pa_cons pe_str (pa_cons (pe_xf c_InvalidChange.T.xf (c_InvalidChange.no _ (by simp)) hz hf (pv 1)) (pa_cons (pe_callB (call_isEd c_InvalidChange.T hz hf) (by rfl) T.isinstance (by decide +kernel) (pa_cons (pv 1) (pa_cons (pe_bltn (v := .ty "ValueError") (by rfl) T.ValueError rfl rfl) pa_nil))) pa_nil)))))) .nil))), ?_⟩
    refine ⟨Enex CN Q, fun cls d σ2 H2 le hE => ?_, rfl, hf1, hc1, k⟩
    · obtain ⟨rfl, dd, i, rfl, hd, q⟩ := hE
      have s1 : ∀ a : Addr, (σ2.set 1 (some (V.ref a)))[1]? = some (some (V.ref a)) := fun a => by rw [List.getElem?_set_self (by omega)]
      refine ⟨true, oo, fun _ a na => ?_, fun z => nomatch z⟩
      exact ⟨.ref a, s1 a, rfl, rfl, dd, _, _, rfl, hd, rfl, .ref a, s1 a, .ty "ValueError", .type "ValueError", true, dd, _, rfl, rfl, rfl, hd, (fun u r => r), vo, few_len (Nat.le_of_ble_eq_true rfl), fun t ht => q t ht⟩
end
end Vk
set_option Elab.async false
set_option maxRecDepth 100000
set_option linter.all false
set_option maxHeartbeats 4000000
namespace Vk
open PySem PySem.Spec PyProof.Rows L2 LamX NdefX StX
section
variable {P : Program} {w : World} {K : PySem.W.Frag} {mg : Str → Option Value} {base : Heap}
variable {CN P0 c : Addr}
abbrev qLaw : Str := (envOfC "law" (defScope s_law) 0 0 .none).qual ++ "<lambda>"
theorem free_l0 : ndefB (defScope s_law) (lamSc e_l0) ["_law_here", "_law_rows"] = true := by decide +kernel
theorem free_l1 : ndefB (defScope s_law) (lamSc e_l1) ["_law_here", "_law_rows"] = true := by decide +kernel
def spLaw (P0 : Addr) (K : PySem.W.Frag) : Sp := fun vs H Q _ => ∃ (a : Addr) (ns : List Int), vs = [.ref a] ∧ SqL K H a (ns.map V.int) ∧ ns.length ≤ 63 ∧ H P0 = some (.tbl #[]) ∧ ∀ H', Q (.bl true) H'
theorem Th.keepN {H H' : Hp} {v : V} {d : PyData} (h : Th H v d) (k : ExtN H H') : Th H' v d := by
  cases h with
  | atm h => exact .atm h
  | lst e n h => exact .lst (k _ _ e (fun _ z => nomatch z)) n h
  | tup e h => exact .tup (k _ _ e (fun _ z => nomatch z)) h
  | dct e => exact .dct (k _ _ e (fun _ z => nomatch z))
theorem ths_keepN {H H' : Hp} (k : ExtN H H') : ∀ {vs : List V} {ds : List PyData}, Paired (Th H) vs ds → Paired (Th H') vs ds
  | _, _, .nil => .nil
  | _, _, .cons a t => .cons (a.keepN k) (ths_keepN k t)
theorem Tg.keepN {H H' : Hp} {v : V} {d : PyData} (h : Tg H v d) (k : ExtN H H') : Tg H' v d := by
  cases h with
  | one th n => exact .one (th.keepN k) n
  | lst e p => exact .lst (k _ _ e (fun _ z => nomatch z)) (ths_keepN k p)
  | tup e p => exact .tup (k _ _ e (fun _ z => nomatch z)) (ths_keepN k p)
theorem tabs_pen {T : List (Addr × Str)} {H H' : Hp} {p c : Addr} {U : Nat} (t : Tabs T H) (q : Pen H p c U) (x : Ext p H H') : Tabs T H' := fun r hr => by
  obtain ⟨tn, l, hp⟩ := q.is
  have nl : ∀ g u, H g = some u → (∀ k, u ≠ .dK k) → H' g = some u := fun g u e n => x _ _ e (fun z => by
    rw [z, hp] at e
    exact n _ (Option.some.inj e).symm)
  obtain ⟨ps, h1, h2, h3⟩ := t r hr
  refine ⟨ps, nl _ _ h1 (fun _ z => nomatch z), h2, fun pos cv e => ?_⟩
  obtain ⟨c, e1, e2⟩ := h3 pos cv e
  exact ⟨c, e1, nl _ _ e2 (fun xs z => by unfold CodeO at z; cases z)⟩
theorem pen_extN {H H' : Hp} {p c : Addr} {U : Nat} (q : Pen H p c U) (x : ExtN H H') : Pen H' p c U := by
  obtain ⟨ns, t, l, h1, h2, r⟩ := q.ex
  exact ⟨ns, t, l, x _ _ h1 (fun _ z => nomatch z), x _ _ h2 (fun _ z => nomatch z), r⟩
theorem shaped_tup {ds : List PyData} {n : Nat} (h1 : ∀ d ∈ ds, PyData.canLay0 d = true) (h2 : ∀ d ∈ ds, d.depth ≤ n) (hn : n ≤ 20) : SeqAt.shaped (.tuple ds) = true := by
  unfold SeqAt.shaped
  have e1 : PyData.canLay0 (.tuple ds) = true := canAll_of ds h1
  have e2 : PyData.depth (.tuple ds) ≤ 21 := Nat.succ_le_succ (Nat.le_trans (depthAll_const ds n h2) hn)
  rw [e1]
  simp
  omega
theorem told_shaped {z : Str} (h : PyData.strOk z = true) : SeqAt.shaped (.tuple [.str "told", .str z]) = true := by
  refine shaped_tup (n := 0) (fun d hd => ?_) (fun d hd => ?_) (by decide)
  · simp only [List.mem_cons, List.not_mem_nil, or_false] at hd
    rcases hd with rfl | rfl
    · decide +kernel
    · exact h
  · simp only [List.mem_cons, List.not_mem_nil, or_false] at hd
    rcases hd with rfl | rfl <;> exact Nat.le_refl _
theorem no_shaped {i : Int} : SeqAt.shaped (.tuple [.str "no", .int i, .bool true]) = true := by
  refine shaped_tup (n := 0) (fun d hd => ?_) (fun d hd => ?_) (by decide)
  · simp only [List.mem_cons, List.not_mem_nil, or_false] at hd
    rcases hd with rfl | rfl | rfl
    · decide +kernel
    · rfl
    · rfl
  · simp only [List.mem_cons, List.not_mem_nil, or_false] at hd
    rcases hd with rfl | rfl | rfl <;> exact Nat.le_refl _
theorem isT_lt {z : Str} (h : isT (.str z) = true) : Ltr z := by
  rw [isT_all] at h
  intro c hc
  simpa using List.all_eq_true.mp h c hc
/-! ## runs of changes -/
theorem chgR_snoc : ∀ {ds : List PyData} {k : Nat} {x : List Nat} {d : PyData}, chgR k x (ds ++ [d]) = match chgR k x ds with | .inl j => .inl j | .inr z => if okD z d = true then .inr (doOp z (opD d)) else .inl (k + ds.length)
  | [], k, x, d => by
    show (if okD x d = true then chgR (k + 1) (doOp x (opD d)) [] else .inl k) = (if okD x d = true then _ else _)
    rfl
  | e :: ds, k, x, d => by
    show (if okD x e = true then chgR (k + 1) (doOp x (opD e)) (ds ++ [d]) else .inl k) = match (if okD x e = true then chgR (k + 1) (doOp x (opD e)) ds else .inl k) with | .inl j => .inl j | .inr z => if okD z d = true then .inr (doOp z (opD d)) else .inl (k + (e :: ds).length)
    cases okD x e with
    | false => rfl
    | true =>
      rw [if_pos rfl, if_pos rfl, chgR_snoc, List.length_cons, show k + 1 + ds.length = k + (ds.length + 1) by omega]
def opT : Op → Prop
  | .put _ c => c ∈ letS.cps.toList
  | .drop _ => True
  | .set _ c => c ∈ letS.cps.toList
theorem isCh_lt {x : List Nat} {ds : List PyData} (h : isCh x ds = true) : opT (opD (.tuple ds)) := by
  match ds with
  | [] => cases h
  | [a] => cases h
  | [.str w, .int i] => trivial
  | [a, b, c] =>
    cases a with
    | str w =>
      cases b with
      | int i =>
        by_cases c1 : vOf (.str w) = .str "drop"
        · rw [isCh_drop c1] at h
          cases h
        · have ht : isT c = true ∧ lenB c = true := by
            have e : isCh x [.str w, .int i, c] = ((isT c && lenB c) && (if vOf (.str w) = .str "put" then inI (.int i) 0 x.length else decide (vOf (.str w) = .str "set") && (inI (.int i) 0 ((x.length : Int) - 1) && difB x (.int i) c))) := by
              show (if vOf (.str w) = .str "drop" then _ else _) = _
              rw [if_neg c1]
            rw [e, Bool.and_eq_true, Bool.and_eq_true] at h
            exact h.1
          obtain ⟨z, rfl⟩ := isT_str ht.1
          have zl : z.length = 1 := of_decide_eq_true ht.2
          have lz := isT_lt ht.1
          have m : fnL (ll z) 0 ∈ letS.cps.toList := lz _ (fn_mem (by rw [ll_len]; omega))
          show opT (if V.str w = .str "put" then .put i.toNat (fnL (ll z) 0) else .set i.toNat (fnL (ll z) 0))
          split
          · exact m
          · exact m
      | _ => trivial
    | _ => trivial
  | a :: b :: c :: d :: r =>
    by_cases c1 : vOf a = .str "drop"
    · rw [isCh_drop c1] at h
      cases h
    · rw [isCh_long c1 (by rw [List.length_cons, List.length_cons]; omega)] at h
      cases h
  | [.none, _] => trivial
  | [.bool _, _] => trivial
  | [.int _, _] => trivial
  | [.list _, _] => trivial
  | [.tuple _, _] => trivial
  | [.dict _, _] => trivial
  | [.str w, .none] => trivial
  | [.str w, .bool _] => trivial
  | [.str w, .str _] => trivial
  | [.str w, .list _] => trivial
  | [.str w, .tuple _] => trivial
  | [.str w, .dict _] => trivial
theorem okD_lt {x : List Nat} {d : PyData} (h : okD x d = true) : opT (opD d) := by
  cases d with
  | tuple ds => exact isCh_lt h
  | _ => trivial
theorem do_lt {x : List Nat} {o : Op} (hx : ∀ c ∈ x, c ∈ letS.cps.toList) (ho : opT o) : ∀ c ∈ doOp x o, c ∈ letS.cps.toList := fun c hc => by
  cases o with
  | put i e =>
    rcases List.mem_append.mp (show c ∈ x.take i ++ e :: x.drop i from hc) with h | h
    · exact hx c (List.mem_of_mem_take h)
    · rcases List.mem_cons.mp h with rfl | h
      · exact ho
      · exact hx c (List.mem_of_mem_drop h)
  | drop i =>
    rcases List.mem_append.mp (show c ∈ x.take i ++ x.drop (i + 1) from hc) with h | h
    · exact hx c (List.mem_of_mem_take h)
    · exact hx c (List.mem_of_mem_drop h)
  | set i e =>
    rcases List.mem_append.mp (show c ∈ x.take i ++ e :: x.drop (i + 1) from hc) with h | h
    · exact hx c (List.mem_of_mem_take h)
    · rcases List.mem_cons.mp h with rfl | h
      · exact ho
      · exact hx c (List.mem_of_mem_drop h)
/-! ## changes of the program as data -/
def dOp : Op → PyData
  | .put i c => .tuple [.str "put", .int (i : Nat), .str ⟨#[c]⟩]
  | .drop i => .tuple [.str "drop", .int (i : Nat)]
  | .set i c => .tuple [.str "set", .int (i : Nat), .str ⟨#[c]⟩]
theorem opD_dOp (o : Op) : opD (dOp o) = o := by
  cases o with
  | put i c =>
    show (if V.str "put" = V.str "put" then Op.put (i : Int).toNat (fnL (ll ⟨#[c]⟩) 0) else Op.set (i : Int).toNat (fnL (ll ⟨#[c]⟩) 0)) = _
    rw [if_pos rfl, Int.toNat_natCast]
    rfl
  | drop i => 
    show Op.drop (i : Int).toNat = _
    rw [Int.toNat_natCast]
  | set i c =>
    show (if V.str "set" = V.str "put" then Op.put (i : Int).toNat (fnL (ll ⟨#[c]⟩) 0) else Op.set (i : Int).toNat (fnL (ll ⟨#[c]⟩) 0)) = _
    rw [if_neg (by decide), Int.toNat_natCast]
    rfl
theorem inI_nat {n : Nat} {hi : Int} (h : (n : Int) ≤ hi) : inI (.int (n : Nat)) 0 hi = true := by
  show (decide ((0 : Int) ≤ (n : Nat)) && decide (((n : Nat) : Int) ≤ hi)) = true
  rw [decide_eq_true (by omega), decide_eq_true h]
  rfl
theorem isT_c {c : Nat} (h : c ∈ letS.cps.toList) : isT (.str ⟨#[c]⟩) = true := lt_isT fun d hd => by
  have e : d ∈ [c] := hd
  rw [List.mem_singleton.mp e]
  exact h
theorem okD_dOp {x : List Nat} {o : Op} (h : okOp x o) (t : opT o) : okD x (dOp o) = true := by
  cases o with
  | put i c =>
    show isCh x [.str "put", .int (i : Nat), .str ⟨#[c]⟩] = true
    rw [isCh_put rfl, isT_c t, inI_nat (by have : i ≤ x.length := h; omega)]
    rfl
  | drop i =>
    show isCh x [.str "drop", .int (i : Nat)] = true
    rw [isCh_drop rfl, inI_nat (by have : i < x.length := h; omega)]
    rfl
  | set i c =>
    show isCh x [.str "set", .int (i : Nat), .str ⟨#[c]⟩] = true
    rw [isCh_set rfl, isT_c t, inI_nat (by have : i < x.length := h.1; omega)]
    show (true && (!decide (V.str ⟨#[c]⟩ = V.str ⟨#[fnL x (i : Int).toNat]⟩))) = true
    rw [Int.toNat_natCast, show decide (V.str ⟨#[c]⟩ = V.str ⟨#[fnL x i]⟩) = decide (c = fnL x i) from ones_eq _ _, decide_eq_false fun e => h.2 e.symm]
    rfl
theorem chgR_ops : ∀ {cs : List Op} {x y : List Nat} {k : Nat}, ToM x cs y → (∀ c ∈ cs, opT c) → chgR k x (cs.map dOp) = .inr y
  | [], x, y, k, h, _ => by
    cases (show x = y from h)
    rfl
  | o :: cs, x, y, k, h, t => by
    show (if okD x (dOp o) = true then chgR (k + 1) (doOp x (opD (dOp o))) (cs.map dOp) else .inl k) = _
    rw [if_pos (okD_dOp h.1 (t o List.mem_cons_self)), opD_dOp]
    exact chgR_ops h.2 fun c hc => t c (List.mem_cons_of_mem _ hc)
theorem ops_things {H : Hp} : ∀ {xs : List V} {cs : List Op}, OpsR H xs cs → Things H xs (cs.map dOp)
  | _, _, .nil => .nil
  | _, _, .cons (b := o) a t => .cons (by
      obtain ⟨u, rfl, h⟩ := a
      cases o with
      | put i c => exact .tup h (.cons (.str _) (.cons (.int _) (.cons (.str _) .nil)))
      | drop i => exact .tup h (.cons (.str _) (.cons (.int _) .nil))
      | set i c => exact .tup h (.cons (.str _) (.cons (.int _) (.cons (.str _) .nil)))) (ops_things t)
theorem dOp_el {o : Op} (t : opT o) : El (dOp o) := fun l e d hd => by
  have sc : ∀ {c : Nat}, c ∈ letS.cps.toList → Srt (.str ⟨#[c]⟩) := fun h => (atD_c h).2
  cases o with
  | put i c =>
    cases e
    simp only [List.mem_cons, List.not_mem_nil, or_false] at hd
    rcases hd with rfl | rfl | rfl
    · exact (atD_of (by decide +kernel)).2
    · trivial
    · exact sc t
  | drop i =>
    cases e
    simp only [List.mem_cons, List.not_mem_nil, or_false] at hd
    rcases hd with rfl | rfl
    · exact (atD_of (by decide +kernel)).2
    · trivial
  | set i c =>
    cases e
    simp only [List.mem_cons, List.not_mem_nil, or_false] at hd
    rcases hd with rfl | rfl | rfl
    · exact (atD_of (by decide +kernel)).2
    · trivial
    · exact sc t
theorem dst_tab (x y : Str) : dst (ll x) (ll y) = edD (ltr x) (ltr y) x.length y.length := by
  unfold dst
  rw [ll_len, ll_len]
  rfl
theorem op_letters {y : Str} (yt : Ltr y) {o : Op} (h : opL (ll y) o) : opT o := by
  cases o with
  | put i c => exact yt c h
  | drop i => trivial
  | set i c => exact yt c h
end
end Vk
set_option Elab.async false
set_option maxRecDepth 100000
set_option linter.all false
set_option maxHeartbeats 4000000
namespace Vk
open PySem PySem.Spec PyProof.Rows L2 LamX NdefX StX
section
variable {P : Program} {w : World} {K : PySem.W.Frag} {mg : Str → Option Value} {base : Heap}
variable {CN P0 c : Addr}
def Due (x : Str) (ds : List PyData) (tip : Str) (v : V) (H : Hp) : Prop := (v = .non ∧ chgR 0 (ll x) ds = .inr (ll tip)) ∨ ∃ (j : Nat) (u : Addr), v = .ref u ∧ H u = some (.tup [.str "no", .int (j : Nat), .bl true]) ∧ chgR 0 (ll x) ds = .inl j
theorem Due.same {x : Str} {ds : List PyData} {tip : Str} {v : V} {H H1 : Hp} (h : Due x ds tip v H) (s : ∀ u ws, H u = some (.tup ws) → H1 u = some (.tup ws)) : Due x ds tip v H1 := by
  rcases h with h | ⟨j, u, e, hu, q⟩
  · exact .inl h
  · exact .inr ⟨j, u, e, s _ _ hu, q⟩
theorem tups_ext {H H1 : Hp} {p c : Addr} {T : Nat} (P : Pen H p c T) (x : Ext p H H1) : ∀ u ws, H u = some (.tup ws) → H1 u = some (.tup ws) := fun u ws h => x _ _ h fun z => by
  obtain ⟨t, l, hl⟩ := P.is
  rw [z, hl] at h
  cases h
theorem Things.ext {H H1 : Hp} {p c : Addr} {T : Nat} {xs : List V} {ds : List PyData} (h : Things H xs ds) (P : Pen H p c T) (x : Ext p H H1) : Things H1 xs ds := pair_mono (fun v d th => th.ext P x) h
theorem tabs_at {T : List (Addr × Str)} {H : Hp} {l : Addr} {xs : List V} {o : HO} (t : Tabs T H) (h : H l = some (.lst xs)) : Tabs T (upd H l o) := fun r hr => by
  obtain ⟨ps, h1, h2, h3⟩ := t r hr
  have ne : ∀ {b u}, H b = some u → (∀ ys, u ≠ .lst ys) → (upd H l o) b = some u := fun {b u} e n => by
    rw [upd_ne (fun z => by rw [z, h] at e; exact n _ (Option.some.inj e).symm)]
    exact e
  refine ⟨ps, ne h1 (fun _ z => nomatch z), h2, fun pos cv e => ?_⟩
  obtain ⟨c, e1, e2⟩ := h3 pos cv e
  exact ⟨c, e1, ne e2 (fun xs z => by unfold CodeO at z; cases z)⟩
theorem things_at {H : Hp} {l : Addr} {o : HO} : ∀ {xs : List V} {ds : List PyData}, Things H xs ds → (∀ u ∈ xs, u ≠ V.ref l) → Things (upd H l o) xs ds
  | _, _, .nil, _ => .nil
  | _, _, .cons a t, n => .cons (a.at (n _ List.mem_cons_self)) (things_at t fun u hu => n u (List.mem_cons_of_mem _ hu))
theorem okD_not {x : List Nat} {d : PyData} (h : isTupB d = false) : okD x d = false := by
  cases d <;> first | rfl | cases h
theorem kit_tupB {H : Hp} {v : V} {d : PyData} (h : Th H v d) : ∃ t b, TyX K H v t ∧ PySem.W.kitOne K t (.type "tuple") = some b ∧ b = isTupB d := by
  cases h with
  | atm a => cases a with
    | non => exact ⟨.type "NoneType", false, .base .non, kit_ty (by decide +kernel), rfl⟩
    | bl b => exact ⟨.type "bool", false, .base (.bl b), kit_ty (by decide +kernel), rfl⟩
    | int i => exact ⟨.type "int", false, .base (.int i), kit_ty (by decide +kernel), rfl⟩
    | str x => exact ⟨.type "str", false, .base (.str x), kit_ty (by decide +kernel), rfl⟩
  | lst e _ _ => exact ⟨.type "list", false, .base (.lst e), kit_ty (by decide +kernel), rfl⟩
  | tup e _ => exact ⟨.type "tuple", true, .base (.tup e), kit_ty (by decide +kernel), rfl⟩
  | dct e => exact ⟨.type "dict", false, .base (.dK e), kit_ty (by decide +kernel), rfl⟩
theorem sc_law : FnScope ["_law_script", "_law_pen_here", "_law_turn", "_law_signs_here", "_law_here", "_law_away", "_law_tip", "_law_rows", "_law_due", "_law_k", "_law_thing", "_law_fits", "_law_kept", "_law_few_here"] ["_law_script"] (defScope s_law) := ⟨rfl, rfl, rfl, by decide +kernel, rfl, by decide +kernel, by decide +kernel⟩
theorem b_law {f : Addr} {fd : FuncData} (F : FunC K "law" "law" s_law f fd c) (T : Txt mg) (c_lpen : CalG P w K mg base CX0 1 "_law_pen" (spPen K)) (c_lfew : CalG P w K mg base CX0 3 "_law_few" spFew) (c_ldraw : CalG P w K mg base CX0 1 "_law_draw" spDraw) (c_lntext : CalG P w K mg base CX0 4 "_law_ntext" spNtext) (c_lnsome : CalG P w K mg base CX0 4 "_law_nsome" spNsome) (c_lnis_change : CalG P w K mg base CX0 3 "_law_nis_change" spNis) (c_lndone : CalG P w K mg base CX0 1 "_law_ndone" spNdone) (c_lnapart : CalG P w K mg base CX0 2 "_law_napart" spApart) (tb : TabB base mg c P0) (sm : SM base) (c_lnchanged : CalH P w K mg base CX0 6 "_law_nchanged" (spNex P w K mg base CN))
    (c_changed : CalG P w K mg base (L2.CX P w) 4 "changed" (spChgd CN)) (k_changed : CalK P w K mg base (L2.CX P w) 4 "changed" (spChgd CN) ["changes", "text"] List.reverse) (c_changes : CalG P w K mg base CX0 3 "changes" spChanges) (k_changes : CalK P w K mg base CX0 3 "changes" spChanges ["other", "one"] List.reverse) (c_distance : CalG P w K mg base CX0 3 "distance" spDist) : FnG P w K mg base CX0 7 f fd ["_law_script"] (spLaw P0 K) := by
  refine okC0 F sc_law (fun vs H Q E h => ?_) (fun A outer s H vs Q E hg hr h => ?_)
  · obtain ⟨a, ns, rfl, _⟩ := h
    rfl
  · have hu := hu_of hr
    have hu64 := hr.units
    obtain ⟨a, ns, rfl, hS, hlen, hP0, k⟩ := h
    let cells := (envOfC "law" (defScope s_law) s.heap.objs.size f (.ref c)).cells
    let rd0 : L2.St → List V → Hp → VK → Prop := fun σ vs H Q => ∃ f2 c2, vs = [.ref f2] ∧ H f2 = some (LamO f2 (lam e_l0 qLaw (cloFrom cells (lamSc e_l0).names []) c2)) ∧ H c2 = some (CodeO c2 qLaw) ∧ spL CN ([4, 7].map (slotAt σ)) H (fun v H1 => 2 ≤ sizeLine ∧ ∀ t, H1 t = none → Q (.ref t) (upd H1 t (.tup [.str "told", v]))) (Enex CN Q)
    let rd1 : L2.St → List V → Hp → VK → Prop := fun σ vs H Q => ∃ f2 c2, vs = [.ref f2] ∧ H f2 = some (LamO f2 (lam e_l1 qLaw (cloFrom cells (lamSc e_l1).names []) c2)) ∧ H c2 = some (CodeO c2 qLaw) ∧ spL1 CN ([4, 7].map (slotAt σ)) H (fun v H1 => 2 ≤ sizeLine ∧ ∀ t, H1 t = none → Q (.ref t) (upd H1 t (.tup [.str "told", v]))) (Enex CN Q)
    have asks0 : ∀ (pins : List (Addr × Obj)) (s2 : Shared) (σ : L2.St) (H2 : Hp) (vs : List V) (Q : VK), Inv (cxOf CX0 P w K mg base ["_law_script", "_law_pen_here", "_law_turn", "_law_signs_here", "_law_here", "_law_away", "_law_tip", "_law_rows", "_law_due", "_law_k", "_law_thing", "_law_fits", "_law_kept", "_law_few_here"] "law" (defScope s_law) f (.ref c) A outer s H E).nox pins σ H2 s2 → rd0 σ vs H2 Q → spNex P w K mg base CN s2.heap vs H2 Q E0 := by
      intro pins s2 σ H2 vs Q I h
      obtain ⟨f2, c2, rfl, hf, hc, q⟩ := h
      exact ⟨f2, _, _, _, _, rfl, lk0 k_changed qLaw _ c2, hf, hc, cells_of I (Caps.made I.ok (ndef_free free_l0) (ndef_fr free_l0) rfl), q⟩
    have asks1 : ∀ (pins : List (Addr × Obj)) (s2 : Shared) (σ : L2.St) (H2 : Hp) (vs : List V) (Q : VK), Inv (cxOf CX0 P w K mg base ["_law_script", "_law_pen_here", "_law_turn", "_law_signs_here", "_law_here", "_law_away", "_law_tip", "_law_rows", "_law_due", "_law_k", "_law_thing", "_law_fits", "_law_kept", "_law_few_here"] "law" (defScope s_law) f (.ref c) A outer s H E).nox pins σ H2 s2 → rd1 σ vs H2 Q → spNex P w K mg base CN s2.heap vs H2 Q E0 := by
      intro pins s2 σ H2 vs Q I h
      obtain ⟨f2, c2, rfl, hf, hc, q⟩ := h
      exact ⟨f2, _, _, _, _, rfl, lk1 T c_changed qLaw _ c2, hf, hc, cells_of I (Caps.made I.ok (ndef_free free_l1) (ndef_fr free_l1) rfl), q⟩
    refine ⟨_, (pss_cons (ps_set (i := 1) sc_law.nd rfl (Or.inl rfl) (pe_cG c_lpen hg hr (by decide) pass0 (pa_cons (pv 0) pa_nil)))
      (pss_cons (ps_for PassesOwn.never rfl (pi_range1 rfl T.range (pa_cons (pe_op op_add pe_int (pe_callB (call_min2 rfl) (by rfl) T.min (by decide +kernel) (pa_cons pe_int (pa_cons (pe_callB call_len (by rfl) T.len (by decide +kernel) (pa_cons (pv 0) pa_nil)) pa_nil)))) pa_nil)) (pg_name (i := 2) sc_law.nd rfl (Or.inl rfl)) (pss_cons (ps_set (i := 3) sc_law.nd rfl (Or.inl rfl) (pe_cG c_lfew hg hr (by decide) pass0 (pa_cons (pv 1) pa_nil)))
      (pss_cons (ps_asg (pe_tup (pa_cons (pe_cG c_lntext hg hr (by decide) pass0 (pa_cons (pv 1) (pa_cons (pv 3) (pa_cons pe_int pa_nil)))) (pa_cons (pe_cG c_lntext hg hr (by decide) pass0 (pa_cons (pv 1) (pa_cons (pv 3) (pa_cons pe_int pa_nil)))) pa_nil))) (pg_tup rfl (pgs_cons (pg_name (i := 4) sc_law.nd rfl (Or.inr rfl)) (pgs_cons (pg_name (i := 5) sc_law.nd rfl (Or.inl rfl)) pgs_nil))))
      (pss_cons (ps_asg (pe_tup (pa_cons (pv 4) (pa_cons (pe_lst pa_nil) (pa_cons pe_non pa_nil)))) (pg_tup rfl (pgs_cons (pg_name (i := 6) sc_law.nd rfl (Or.inl rfl)) (pgs_cons (pg_name (i := 7) sc_law.nd rfl (Or.inr rfl)) (pgs_cons (pg_name (i := 8) sc_law.nd rfl (Or.inl rfl)) pgs_nil)))))
      (pss_cons (ps_for PassesOwn.never rfl (pi_range1 rfl T.range (pa_cons (pe_cG c_ldraw hg hr (by decide) pass0 (pa_cons (pv 1) (pa_cons pe_int pa_nil))) pa_nil)) (pg_name (i := 9) sc_law.nd rfl (Or.inl rfl)) (pss_cons (ps_set (i := 10) sc_law.nd rfl (Or.inl rfl) (pe_cG c_lnsome hg hr (by decide) pass0 (pa_cons (pv 1) (pa_cons (pv 6) (pa_cons (pv 3) pa_nil)))))
      (pss_cons (ps_set (i := 11) sc_law.nd rfl (Or.inl rfl) (pe_and (pe_callB call_isi (by rfl) T.isinstance (by decide +kernel) (pa_cons (pv 10) (pa_cons (pe_bltn (v := .ty "tuple") (by rfl) T.tuple rfl rfl) pa_nil))) (pe_one (pe_cG c_lnis_change hg hr (by decide) pass0 (pa_cons (pv 6) (pa_cons (pv 10) pa_nil))))))
      (pss_cons (ps_if (PW.pt (pw_and (pt_not (pt_val (pv 11))) (pw_and1 (pt_cmpR op_isN (pv 8) pe_non (nomark _))))) (pss_one (ps_set (i := 8) sc_law.nd rfl (Or.inl rfl) (pe_tup (pa_cons pe_str (pa_cons (pv 9) (pa_cons pe_bl pa_nil)))))) pss_nil)
      (pss_cons (ps_set (i := 6) sc_law.nd rfl (Or.inl rfl) (pe_ifExp (pt_val (pv 11)) (pe_cG c_lndone hg hr (by decide) pass0 (pa_cons (pv 6) (pa_cons (pv 10) pa_nil))) (pv 6)))
      (pss_one (ps_expr (pe_bm PySem.F.plainAttrs_list PySem.F.slot_list_append PySem.F.type_list_append mt_append (pv 7) (pa_cons (pv 10) pa_nil)))))))))
      (pss_cons (ps_set (i := 8) sc_law.nd rfl (Or.inl rfl) (pe_ifExp (pt_cmpR op_isN (pv 8) pe_non (nomark _)) (pe_tup (pa_cons pe_str (pa_cons (pv 6) pa_nil))) (pv 8)))
      (pss_cons (ps_set (i := 12) sc_law.nd rfl (Or.inl rfl) (pe_callB (Vk.call_reprG sm hg hu64) (by rfl) T.repr (by decide +kernel) (pa_cons (pv 7) pa_nil)))
      (pss_cons (ps_if (PW.pt (pw_or (pt_cmpR (op_neD hu64) (pe_cH (rd := rd0) c_lnchanged hg hr (by decide) pass0 (pa_cons (pe_lamv (T := [(P0, qLaw)]) tb rfl List.mem_cons_self (fun p hp _ => by rw [List.mem_singleton.mp hp]; rfl) rfl (ndef_free free_l0)) pa_nil) asks0) (pv 8) (nomark _)) (pw_or1 (pt_cmpR op_ne (pe_callB (Vk.call_reprG sm hg hu64) (by rfl) T.repr (by decide +kernel) (pa_cons (pv 7) pa_nil)) (pv 12) (nomark _))))) (pss_one (ps_ret pe_bl)) pss_nil)
      (pss_cons (ps_if (pt_cmpR (op_neD hu64) (pe_cH (rd := rd1) c_lnchanged hg hr (by decide) pass0 (pa_cons (pe_lamv (T := [(P0, qLaw)]) tb rfl List.mem_cons_self (fun p hp _ => by rw [List.mem_singleton.mp hp]; rfl) rfl (ndef_free free_l1)) pa_nil) asks1) (pv 8) (nomark _)) (pss_one (ps_ret pe_bl)) pss_nil)
      (pss_cons (ps_set (i := 13) sc_law.nd rfl (Or.inl rfl) (pe_kw k_changes hg hr (by decide) pass0 (pk_cons (pv 5) (pk_cons (pv 4) pk_nil))))
      (pss_cons (ps_if (PW.pt (pw_or (pt_not (pt_val (pe_callB call_isi (by rfl) T.isinstance (by decide +kernel) (pa_cons (pv 13) (pa_cons (pe_bltn (v := .ty "list") (by rfl) T.list rfl rfl) pa_nil))))) (pw_or (pt_cmpR op_ne (pe_callB call_len (by rfl) T.len (by decide +kernel) (pa_cons (pv 13) pa_nil)) (pe_cG c_lnapart hg hr (by decide) pass0 (pa_cons (pv 4) (pa_cons (pv 5) pa_nil))) (nomark _)) (pw_or1 (pt_cmpR op_ne (pe_cG c_changed hg hr (by decide) passesF (pa_cons (pv 4) (pa_cons (pv 13) pa_nil))) (pv 5) (nomark _)))))) (pss_one (ps_ret pe_bl)) pss_nil)
      (pss_cons (ps_expr (pe_bm PySem.F.plainAttrs_list PySem.F.slot_list_append PySem.F.type_list_append mt_append (pv 13) (pa_cons pe_non pa_nil)))
      (pss_one (ps_if (pt_cmpR op_ne (pe_callB call_len (by rfl) T.len (by decide +kernel) (pa_cons (pe_cG c_changes hg hr (by decide) pass0 (pa_cons (pv 4) (pa_cons (pv 5) pa_nil))) pa_nil)) (pe_cG c_distance hg hr (by decide) pass0 (pa_cons (pv 4) (pa_cons (pv 5) pa_nil))) (nomark _)) (pss_one (ps_ret pe_bl)) pss_nil))))))))))))))
      (pss_one (ps_ret (pe_cmpR (op_eqD hu64) (pe_cG c_changes hg hr (by decide) pass0 (pa_cons pe_str (pa_cons pe_str pa_nil))) (pe_lst pa_nil) (nomark _)))))), ?_⟩
    refine ⟨_, rfl, a, ns, rfl, hS, fun p pc H1 hp0 Pn0 s1 => ?_⟩
    have T1 : Tabs [(P0, qLaw)] H1 := fun r hr => by
      rw [List.mem_singleton.mp hr]
      exact TabS.nil (s1 _ _ hP0)
    refine ⟨_, rfl, _, _, rfl, .inl ⟨_, s1.seq hS, rfl⟩, _, _, rfl, _, _, rfl, rfl, _, rfl, ?_, ?_, ?_⟩
    · split <;> omega
    · split <;> omega
    refine for_range (lo := 0) (fun i σ H' => ∃ o2 o3 o4 o5 o6 o7 o8 o9 o10 o11 o12 o13 : Option V, σ = [some (.ref a), some (.ref p), o2, o3, o4, o5, o6, o7, o8, o9, o10, o11, o12, o13] ∧ Pen H' p pc (2000 * i) ∧ Tabs [(P0, qLaw)] H') ?_ ?_ ?_
    · exact ⟨_, _, _, _, _, _, _, _, _, _, _, _, rfl, Pn0, T1⟩
    · rintro i σ H2 hi ⟨o2, o3, o4, o5, o6, o7, o8, o9, o10, o11, o12, o13, rfl, P2, T2⟩
      have hi16 : i ≤ 30 := by
        have : i < 31 := by
          revert hi
          split <;> omega
        omega
      refine ⟨_, rfl, p, pc, 2000 * i, rfl, P2, by omega, fun sg H3 fsg P3 x3 => ?_⟩
      have T3 := tabs_pen T2 P2 x3
      refine ⟨_, rfl, _, rfl, p, pc, sg, 8, _, rfl, fsg, by decide, P3, by omega, fun x H4 hx xt P4 x4 => ?_⟩
      have T4 := tabs_pen T3 P3 x4
      refine ⟨_, rfl, _, rfl, p, pc, sg, 8, _, rfl, fsg, by decide, P4, by omega, fun y H5 hy yt P5 x5 => ⟨by show 2 ≤ sizeLine; decide, fun t0 ht0 => ?_⟩⟩
      have T5 := tabs_pen T4 P4 x5
      have st0 := same_new (o := .tup [.str x, .str y]) ht0
      refine ⟨t0, _, rfl, SqT.of upd_same, rfl, _, _, rfl, _, _, rfl, rfl, ?_⟩
      have P6 := P5.stay st0
      have T6 := T5.ext st0
      generalize upd H5 t0 (.tup [.str x, .str y]) = H6 at P6 T6 ⊢
      clear P2 T2 x3 P3 T3 x4 P4 T4 x5 P5 T5 st0 ht0
      have xl : x.length ≤ sizeLine := Nat.le_trans hx (by decide)
      have yl : y.length ≤ sizeLine := Nat.le_trans hy (by decide)
      refine ⟨_, rfl, by show 0 ≤ sizeLine; decide, fun rw0 hrw => ⟨by show 3 ≤ sizeLine; decide, fun t1 ht1 => ?_⟩⟩
      have srw := same_new (o := .lst []) hrw
      have st1 := same_new (o := .tup [.str x, .ref rw0, .non]) ht1
      have ap := P6.apart hrw
      refine ⟨t1, _, rfl, SqT.of upd_same, rfl, _, _, rfl, _, _, rfl, _, _, rfl, rfl, ?_⟩
      have P7 := (P6.stay srw).stay st1
      have T7 := (T6.ext srw).ext st1
      have h7 := st1 _ _ (upd_same (H := H6) (a := rw0) (o := .lst []))
      generalize upd (upd H6 rw0 (.lst [])) t1 (.tup [.str x, .ref rw0, .non]) = H7 at P7 T7 h7 ⊢
      clear P6 T6 srw st1 hrw ht1
      dsimp only
      refine ⟨_, rfl, p, pc, 7, _, rfl, by decide, by decide, P7, by omega, fun m H8 m0 m1 P8 x8 => ⟨m, rfl, by omega, by omega, ?_⟩⟩
      have T8 := tabs_pen T7 P7 x8
      have h8 := P7.keepI x8 h7
      refine for_range (lo := 0) (n := m.toNat) (fun t σ H' => ∃ (o9 o10 o11 : Option V) (tip : Str) (due : V) (xs : List V) (ds : List PyData), σ = [some (.ref a), some (.ref p), some (.int (0 + (i : Int))), some (.str sg), some (.str x), some (.str y), some (.str tip), some (.ref rw0), some due, o9, o10, o11, o12, o13] ∧ H' rw0 = some (.lst xs) ∧ Things H' xs ds ∧ (∀ d ∈ ds, GoodD d) ∧ (∀ u ∈ xs, u ≠ V.ref rw0) ∧ ds.length = t ∧ Due x ds tip due H' ∧ tip.length ≤ 8 + t ∧ Ltr tip ∧ Pen H' p pc (2000 * i + 400 + 20 * t) ∧ Tabs [(P0, qLaw)] H') ?_ ?_ ?_
      · exact ⟨_, _, _, x, .non, [], [], rfl, h8, .nil, (fun d hd => absurd hd List.not_mem_nil), (fun d hd => absurd hd List.not_mem_nil), rfl, .inl ⟨rfl, rfl⟩, by omega, xt, P8.mono (by omega), T8⟩
      · clear P7 T7 h7 P8 x8 T8 h8
        rintro t σ H2 ht ⟨o9, o10, o11, tip, due, xs, ds, rfl, hrw, tg, gd, nrw, dl, hdue, tipl, tipt, P2, T2⟩
        have t7 : t < 7 := by omega
        refine ⟨_, rfl, _, rfl, _, rfl, p, pc, tip, sg, _, rfl, by omega, fsg, P2, by omega, fun v d H3 th g3 nw P3 x3 => ?_⟩
        have T3 := tabs_pen T2 P2 x3
        have hrw3 := P2.keepI x3 hrw
        have tg3 := tg.ext P2 x3
        have hdue3 := hdue.same (tups_ext P2 x3)
        have nv : v ≠ .ref rw0 := fun z => by
          have := nw rw0 z
          rw [hrw] at this
          cases this
        clear P2 T2 tg hdue
        refine name_go ?_
        obtain ⟨ty, b, tyx, kt, hb⟩ := kit_tupB (K := K) th
        dsimp only
        refine seq_mid (fun σ H' => σ = [some (.ref a), some (.ref p), some (.int (0 + (i : Int))), some (.str sg), some (.str x), some (.str y), some (.str tip), some (.ref rw0), some due, some (.int (0 + (t : Int))), some v, some (.bl (okD (ll tip) d)), o12, o13] ∧ Same H3 H') (fun D' hD' => ?_) (fun σ H4 hm => ?_)
        · refine ⟨_, rfl, v, .ty "tuple", ty, .type "tuple", b, rfl, .ty "tuple", tyx, kt, _, rfl, ?_⟩
          cases b with
          | false =>
            rw [okD_not hb.symm] at hD'
            exact iteF (hD' _ _ ⟨rfl, Same.rfl⟩)
          | true => exact iteT ⟨_, rfl, _, rfl, v, tip, d, rfl, th, g3.2.2.2, by omega, fun H4 s4 => hD' _ _ ⟨rfl, s4⟩⟩
        obtain ⟨rfl, s4⟩ := hm
        have P4 := P3.stay s4
        have T4 := T3.ext s4
        have hrw4 := s4 _ _ hrw3
        have tg4 := tg3.keep s4
        have hdue4 := hdue3.same fun u ws h => s4 _ _ h
        have th4 := th.keep s4
        clear P3 T3 x3 s4 tg3 hdue3 hb tyx th hrw3
        have sn := chgR_snoc (ds := ds) (k := 0) (x := ll x) (d := d)
        refine seq_mid (fun σ H' => ∃ due2 : V, σ = [some (.ref a), some (.ref p), some (.int (0 + (i : Int))), some (.str sg), some (.str x), some (.str y), some (.str tip), some (.ref rw0), some due2, some (.int (0 + (t : Int))), some v, some (.bl (okD (ll tip) d)), o12, o13] ∧ Same H4 H' ∧ ((due2 = .non ∧ okD (ll tip) d = true ∧ chgR 0 (ll x) (ds ++ [d]) = .inr (doOp (ll tip) (opD d))) ∨ ∃ (j : Nat) (u : Addr), due2 = .ref u ∧ H' u = some (.tup [.str "no", .int (j : Nat), .bl true]) ∧ chgR 0 (ll x) (ds ++ [d]) = .inl j)) (fun D' hD' => ?_) (fun σ H5 hm => ?_)
        · refine ⟨_, rfl, okD (ll tip) d, rfl, ?_⟩
          rcases hdue4 with ⟨rfl, hq⟩ | ⟨j, u, rfl, hu4, hq⟩
          · rw [hq] at sn
            dsimp only at sn
            cases ok : okD (ll tip) d with
            | true =>
              rw [ok] at hD' sn
              exact iteF (hD' _ _ ⟨_, rfl, Same.rfl, .inl ⟨rfl, rfl, sn⟩⟩)
            | false =>
              rw [ok] at hD' sn
              refine iteT ⟨_, rfl, rfl, _, rfl, iteDT rfl ⟨_, rfl, by show 3 ≤ sizeLine; decide, fun u hu => ?_⟩⟩
              refine hD' _ _ ⟨_, rfl, same_new hu, .inr ⟨t, u, rfl, ?_, ?_⟩⟩
              · rw [upd_same, Int.zero_add]
              · rw [sn, Nat.zero_add, dl]
                rfl
          · rw [hq] at sn
            dsimp only at sn
            cases ok : okD (ll tip) d with
            | true =>
              rw [ok] at hD'
              exact iteF (hD' _ _ ⟨_, rfl, Same.rfl, .inr ⟨j, u, rfl, hu4, sn⟩⟩)
            | false =>
              rw [ok] at hD'
              exact iteT ⟨_, rfl, rfl, _, rfl, iteDF (fun z => nomatch z) (hD' _ _ ⟨_, rfl, Same.rfl, .inr ⟨j, u, rfl, hu4, sn⟩⟩)⟩
        obtain ⟨due2, rfl, s5, hdue5⟩ := hm
        have P5 := P4.stay s5
        have T5 := T4.ext s5
        have hrw5 := s5 _ _ hrw4
        have tg5 := tg4.keep s5
        have th5 := th4.keep s5
        clear P4 T4 hrw4 tg4 th4 hdue4 s5 sn
        refine seq_mid (fun σ H' => ∃ tip2 : Str, σ = [some (.ref a), some (.ref p), some (.int (0 + (i : Int))), some (.str sg), some (.str x), some (.str y), some (.str tip2), some (.ref rw0), some due2, some (.int (0 + (t : Int))), some v, some (.bl (okD (ll tip) d)), o12, o13] ∧ H' = H5 ∧ tip2.length ≤ 8 + (t + 1) ∧ Ltr tip2 ∧ (okD (ll tip) d = true → ll tip2 = doOp (ll tip) (opD d))) (fun D' hD' => ?_) (fun σ H6 hm => ?_)
        · refine ⟨_, rfl, okD (ll tip) d, rfl, ?_⟩
          cases ok : okD (ll tip) d with
          | false =>
            rw [ok] at hD'
            exact iteF ⟨_, rfl, hD' _ _ ⟨tip, rfl, rfl, by omega, tipt, fun z => nomatch z⟩⟩
          | true =>
            obtain ⟨u, rfl, hu5, oko⟩ := ch_op th5 ok
            have dln := do_len oko
            rw [ok] at hD'
            refine iteT ⟨_, rfl, _, rfl, tip, u, opD d, rfl, hu5, by omega, fun z hz => hD' _ _ ⟨z, rfl, rfl, ?_, ?_, fun _ => hz⟩⟩
            · rw [← ll_len z, hz]
              rw [ll_len] at dln
              omega
            · intro e he
              exact do_lt (x := ll tip) tipt (okD_lt ok) e (by rw [← hz]; exact he)
        obtain ⟨tip2, rfl, rfl, l2, t2, e2⟩ := hm
        have xln := paired_len tg5
        refine ⟨_, rfl, .inl ⟨rfl, _, SqL.of hrw5⟩, _, rfl, rw0, _, _, rfl, rfl, hrw5, fewL (by omega), ?_⟩
        refine ⟨_, _, _, tip2, due2, xs ++ [v], ds ++ [d], rfl, upd_same, ?_, ?_, ?_, by rw [List.length_append, dl]; rfl, ?_, l2, t2, (P5.set ap.1 ap.2).mono (by omega), tabs_at T5 hrw5⟩
        · exact Paired.snoc (things_at tg5 nrw) (th5.at nv)
        · intro e he
          rcases List.mem_append.mp he with he | he
          · exact gd e he
          · rw [List.mem_singleton.mp he]
            exact g3
        · intro u hu9
          rcases List.mem_append.mp hu9 with h | h
          · exact nrw u h
          · rw [List.mem_singleton.mp h]
            exact nv
        · rcases hdue5 with ⟨rfl, ok, q⟩ | ⟨j, u, rfl, hu5, q⟩
          · exact .inl ⟨rfl, by rw [q, e2 ok]⟩
          · exact .inr ⟨j, u, rfl, upd_list hrw5 _ _ hu5, q⟩
      · rintro σ H2 ⟨o9, o10, o11, tip, due, xs, ds, rfl, hrw, tg, gd, nrw, dl, hdue, tipl, tipt, P2, T2⟩
        have ds7 : ds.length ≤ 7 := by omega
        have x1000 : x.length + ds.length ≤ 1000 := by omega
        have P2 := P2.mono (show 2000 * i + 400 + 20 * m.toNat ≤ 2000 * i + 600 by omega)
        dsimp only
        refine seq_mid (fun σ H' => ∃ (u : Addr) (dueL : List V), σ = [some (.ref a), some (.ref p), some (.int (0 + (i : Int))), some (.str sg), some (.str x), some (.str y), some (.str tip), some (.ref rw0), some (.ref u), o9, o10, o11, o12, o13] ∧ Same H2 H' ∧ H' u = some (.tup dueL) ∧ ((dueL = [.str "told", .str tip] ∧ chgR 0 (ll x) ds = .inr (ll tip)) ∨ ∃ j : Nat, dueL = [.str "no", .int (j : Nat), .bl true] ∧ chgR 0 (ll x) ds = .inl j)) (fun D' hD' => ?_) (fun σ H3 hm => ?_)
        · rcases hdue with ⟨rfl, hq⟩ | ⟨j, u, rfl, hu2, hq⟩
          · exact ⟨_, rfl, rfl, _, rfl, iteDT rfl ⟨_, rfl, by show 2 ≤ sizeLine; decide, fun u hu9 => hD' _ _ ⟨u, _, rfl, same_new hu9, upd_same, .inl ⟨rfl, hq⟩⟩⟩⟩
          · exact ⟨_, rfl, rfl, _, rfl, iteDF (fun z => nomatch z) ⟨_, rfl, hD' _ _ ⟨u, _, rfl, Same.rfl, hu2, .inr ⟨j, rfl, hq⟩⟩⟩⟩
        obtain ⟨u, dueL, rfl, s3, hu3, hdl⟩ := hm
        have P3 := P2.stay s3
        have T3 := T2.ext s3
        have hrw3 := s3 _ _ hrw
        have tg3 := tg.keep s3
        clear P2 T2 hrw tg s3 hdue
        refine ⟨_, rfl, .ref rw0, .list ds, rfl, .lst hrw3 tg3, good_list gd (by omega), ?_⟩
        refine name_go ?_
        dsimp only
        refine seq_mid (fun σ H' => σ = [some (.ref a), some (.ref p), some (.int (0 + (i : Int))), some (.str sg), some (.str x), some (.str y), some (.str tip), some (.ref rw0), some (.ref u), o9, o10, o11, some (.str (PyData.list ds).shown), o13] ∧ H' rw0 = some (.lst xs) ∧ Things H' xs ds ∧ H' u = some (.tup dueL) ∧ Pen H' p pc (2000 * i + 600) ∧ Tabs [(P0, qLaw)] H') (fun D' hD' => ?_) (fun σ H4 hm => ?_)
        · rcases hdl with ⟨rfl, hq⟩ | ⟨j, rfl, hq⟩
          · have okgs := lt_ok tipt
            refine ⟨T3, fun f0 c0 H7 xe be tbe n0 l0 o0 => ⟨f0, c0, rfl, l0, o0, _, _, rfl, x, rw0, xs, ds, rfl, .inl (xe _ _ hrw3 (fun _ z => nomatch z)), ths_keepN xe tg3, (fun d hd => (gd d hd).2.2.2), by omega, (fun j hj => nomatch hq.symm.trans hj), fun z H8 hz s8 => ⟨by decide, fun t ht => ?_⟩⟩⟩
            have ez : tip = z := str_ext (Sum.inr.inj (hq.symm.trans hz))
            subst ez
            have st := same_new (o := .tup [.str "told", .str tip]) ht
            have sT := s8.trans st
            have hu9 := sT _ _ (xe _ _ hu3 (fun _ z => nomatch z))
            refine ⟨_, rfl, .tuple [.str "told", .str tip], .tuple [.str "told", .str tip], .tup (SqT.of upd_same) (.cons (.str _) (.cons (.str _) .nil)), .tup (SqT.of hu9) (.cons (.str _) (.cons (.str _) .nil)), told_shaped okgs, told_shaped okgs, _, rfl, ?_⟩
            rw [SeqAt.eqv_refl _ (SeqAt.canLay_of_shaped (told_shaped okgs))]
            refine iteF ?_
            have P9 := (pen_extN P3 xe).stay sT
            have T9 := tbe.ext sT
            have hrw9 := sT _ _ (xe _ _ hrw3 (fun _ z => nomatch z))
            have tg9 := Things.keep (ths_keepN xe tg3) sT
            refine ⟨_, rfl, .ref rw0, .list ds, rfl, .lst hrw9 tg9, good_list gd (by omega), _, rfl, rfl, _, rfl, iteNS rfl (hD' _ _ ⟨rfl, hrw9, tg9, hu9, P9, T9⟩)⟩
          · refine ⟨T3, fun f0 c0 H7 xe be tbe n0 l0 o0 => ⟨f0, c0, rfl, l0, o0, _, _, rfl, x, rw0, xs, ds, rfl, .inl (xe _ _ hrw3 (fun _ z => nomatch z)), ths_keepN xe tg3, (fun d hd => (gd d hd).2.2.2), by omega, (fun j2 hj H8 dd s8 hdd => ⟨rfl, dd, j, rfl, ?_, fun t ht => ?_⟩), fun z H8 hz s8 => nomatch hq.symm.trans hz⟩⟩
            · cases (Sum.inl.inj (hq.symm.trans hj))
              exact upd_same
            have sd := same_new (o := .xd [(("index" : Str), .int (j2 : Nat))]) hdd
            have st := same_new (o := .tup [.str "no", .int (j : Nat), .bl true]) ht
            have sT := (s8.trans sd).trans st
            have hu9 := sT _ _ (xe _ _ hu3 (fun _ z => nomatch z))
            refine ⟨_, rfl, .tuple [.str "no", .int (j : Nat), .bool true], .tuple [.str "no", .int (j : Nat), .bool true], .tup (SqT.of upd_same) (.cons (.str _) (.cons (.int _) (.cons (.bl _) .nil))), .tup (SqT.of hu9) (.cons (.str _) (.cons (.int _) (.cons (.bl _) .nil))), no_shaped, no_shaped, _, rfl, ?_⟩
            rw [SeqAt.eqv_refl _ (SeqAt.canLay_of_shaped no_shaped)]
            refine iteF ?_
            have P9 := (pen_extN P3 xe).stay sT
            have T9 := tbe.ext sT
            have hrw9 := sT _ _ (xe _ _ hrw3 (fun _ z => nomatch z))
            have tg9 := Things.keep (ths_keepN xe tg3) sT
            refine ⟨_, rfl, .ref rw0, .list ds, rfl, .lst hrw9 tg9, good_list gd (by omega), _, rfl, rfl, _, rfl, iteNS rfl (hD' _ _ ⟨rfl, hrw9, tg9, hu9, P9, T9⟩)⟩
        obtain ⟨rfl, hrw4, tg4, hu4, P4, T4⟩ := hm
        replace hrw3 := hrw4
        replace tg3 := tg4
        replace hu3 := hu4
        replace P3 := P4
        replace T3 := T4
        refine seq_mid (fun σ H' => σ = [some (.ref a), some (.ref p), some (.int (0 + (i : Int))), some (.str sg), some (.str x), some (.str y), some (.str tip), some (.ref rw0), some (.ref u), o9, o10, o11, some (.str (PyData.list ds).shown), o13] ∧ Pen H' p pc (2000 * i + 600) ∧ Tabs [(P0, qLaw)] H') (fun D' hD' => ?_) (fun σ H5 hm => ?_)
        · rcases hdl with ⟨rfl, hq⟩ | ⟨j, rfl, hq⟩
          · have okgs := lt_ok tipt
            refine ⟨T3, fun f0 c0 H7 xe be tbe n0 l0 o0 => ⟨f0, c0, rfl, l0, o0, x, rw0, xs, rfl, xe _ _ hrw3 (fun _ z => nomatch z), fun tq htq => ⟨x, tq, xs, ds, rfl, .inr upd_same, Things.keep (ths_keepN xe tg3) (same_new htq), (fun d hd => (gd d hd).2.2.2), by omega, (fun j hj => nomatch hq.symm.trans hj), fun z H8 hz s8 => ⟨by decide, fun t ht => ?_⟩⟩⟩⟩
            have ez : tip = z := str_ext (Sum.inr.inj (hq.symm.trans hz))
            subst ez
            have st := same_new (o := .tup [.str "told", .str tip]) ht
            have sT := ((same_new (o := .tup xs) htq).trans s8).trans st
            have hu9 := sT _ _ (xe _ _ hu3 (fun _ z => nomatch z))
            refine ⟨_, rfl, .tuple [.str "told", .str tip], .tuple [.str "told", .str tip], .tup (SqT.of upd_same) (.cons (.str _) (.cons (.str _) .nil)), .tup (SqT.of hu9) (.cons (.str _) (.cons (.str _) .nil)), told_shaped okgs, told_shaped okgs, _, rfl, ?_⟩
            rw [SeqAt.eqv_refl _ (SeqAt.canLay_of_shaped (told_shaped okgs))]
            refine iteF ?_
            have P9 := (pen_extN P3 xe).stay sT
            have T9 := tbe.ext sT
            exact hD' _ _ ⟨rfl, P9, T9⟩
          · refine ⟨T3, fun f0 c0 H7 xe be tbe n0 l0 o0 => ⟨f0, c0, rfl, l0, o0, x, rw0, xs, rfl, xe _ _ hrw3 (fun _ z => nomatch z), fun tq htq => ⟨x, tq, xs, ds, rfl, .inr upd_same, Things.keep (ths_keepN xe tg3) (same_new htq), (fun d hd => (gd d hd).2.2.2), by omega, (fun j2 hj H8 dd s8 hdd => ⟨rfl, dd, j, rfl, ?_, fun t ht => ?_⟩), fun z H8 hz s8 => nomatch hq.symm.trans hz⟩⟩⟩
            · cases (Sum.inl.inj (hq.symm.trans hj))
              exact upd_same
            have sd := same_new (o := .xd [(("index" : Str), .int (j2 : Nat))]) hdd
            have st := same_new (o := .tup [.str "no", .int (j : Nat), .bl true]) ht
            have sT := (((same_new (o := .tup xs) htq).trans s8).trans sd).trans st
            have hu9 := sT _ _ (xe _ _ hu3 (fun _ z => nomatch z))
            refine ⟨_, rfl, .tuple [.str "no", .int (j : Nat), .bool true], .tuple [.str "no", .int (j : Nat), .bool true], .tup (SqT.of upd_same) (.cons (.str _) (.cons (.int _) (.cons (.bl _) .nil))), .tup (SqT.of hu9) (.cons (.str _) (.cons (.int _) (.cons (.bl _) .nil))), no_shaped, no_shaped, _, rfl, ?_⟩
            rw [SeqAt.eqv_refl _ (SeqAt.canLay_of_shaped no_shaped)]
            refine iteF ?_
            have P9 := (pen_extN P3 xe).stay sT
            have T9 := tbe.ext sT
            exact hD' _ _ ⟨rfl, P9, T9⟩
        obtain ⟨rfl, P5, T5⟩ := hm
        have du := dst_up (ll x) (ll y)
        rw [ll_len, ll_len] at du
        refine ⟨_, rfl, _, rfl, rfl, x, y, rfl, by omega, by omega, fun lc xs2 cs H6 hlc hlc2 ops cl to opl s6 => ?_⟩
        have xcl := paired_len ops
        have opt : ∀ c ∈ cs, opT c := fun c hc => op_letters yt (opl c hc)
        have P6 := P5.stay s6
        have T6 := T5.ext s6
        have ap6 := P5.apart hlc
        refine name_go ?_
        refine ⟨_, rfl, .ref lc, .ty "list", .type "list", .type "list", true, rfl, .ty "list", .base (.lst hlc2), kit_ty (by decide +kernel), true, rfl, iteF ?_⟩
        refine ⟨_, rfl, _, _, rfl, .inl ⟨_, SqL.of hlc2, rfl⟩, _, rfl, _, rfl, x, y, rfl, by omega, by omega, fun H7 s7 => ⟨rfl, _, rfl, iteNS (by rw [xcl, cl, dst_tab]) ?_⟩⟩
        have hq : chgR 0 (ll x) (cs.map dOp) = .inr (ll y) := chgR_ops to opt
        refine ⟨_, rfl, _, rfl, x, lc, xs2, cs.map dOp, rfl, .inl (s7 _ _ hlc2), (ops_things ops).keep s7, (fun d hd => ?_), by rw [List.length_map]; omega, (fun j hj => nomatch hq.symm.trans hj), fun z H8 hz s8 => ?_⟩
        · obtain ⟨o, ho, rfl⟩ := List.mem_map.mp hd
          exact dOp_el (opt o ho)
        have ez : y = z := str_ext (Sum.inr.inj (hq.symm.trans hz))
        subst ez
        refine ⟨_, rfl, rfl, _, rfl, iteNS rfl ?_⟩
        have s78 := s7.trans s8
        have h8 := s78 _ _ hlc2
        have P8 := P6.stay s78
        have T8 := T6.ext s78
        refine ⟨_, rfl, .inl ⟨rfl, _, SqL.of h8⟩, lc, _, _, rfl, rfl, h8, fewL (by omega), ?_⟩
        have P9 := P8.set (o := .lst (xs2 ++ [.non])) ap6.1 ap6.2
        have T9 := tabs_at (o := .lst (xs2 ++ [.non])) T8 h8
        refine ⟨_, rfl, _, rfl, x, y, rfl, by omega, by omega, fun lc2 xs3 cs3 H10 hl3 hl32 ops3 cl3 to3 opl3 s10 => ?_⟩
        have xcl3 := paired_len ops3
        refine ⟨_, _, rfl, .inl ⟨_, SqL.of hl32, rfl⟩, _, rfl, _, rfl, x, y, rfl, by omega, by omega, fun H11 s11 => ⟨rfl, _, rfl, iteNS (by rw [xcl3, cl3]) ?_⟩⟩
        exact ⟨_, _, _, _, _, _, _, _, _, _, _, _, rfl, ((P9.stay s10).stay s11).mono (by omega), (T9.ext s10).ext s11⟩
    · rintro σ H2 ⟨o2, o3, o4, o5, o6, o7, o8, o9, o10, o11, o12, o13, rfl, P2, T2⟩
      refine ⟨"", "", rfl, by decide, by decide, fun lc xs cs H3 hlc hlc2 ops cl to opl s3 => ⟨by show 0 ≤ sizeLine; decide, fun q hq => ?_⟩⟩
      have cz : cs = [] := List.eq_nil_of_length_eq_zero (cl.trans (dst_self _))
      subst cz
      have xz : xs = [] := List.eq_nil_of_length_eq_zero (paired_len ops)
      subst xz
      refine ⟨.list [], .list [], .lst (SqL.of ((same_new hq) _ _ hlc2)) .nil, .lst (SqL.of upd_same) .nil, by decide +kernel, by decide +kernel, ?_⟩
      exact k _
end
end Vk
set_option Elab.async false
set_option maxRecDepth 100000
set_option maxHeartbeats 4000000
set_option linter.all false
namespace Vk
open PySem PySem.Spec PyProof.Rows L2 PySem.W
end Vk
set_option Elab.async false
set_option maxRecDepth 100000
set_option linter.all false
set_option maxHeartbeats 4000000
namespace Vk
open PySem PySem.Spec PyProof.Rows L2 LamX NdefX StX PySem.VkX
theorem makC_mk {K : PySem.W.Frag} {x qual : Str} {st : Stmt} {f c : Addr} {oc : Value} {od an : Option Addr} {sl : Array (Option Value)} {kV doc pm ct : Value}
    (l : K.lookup f = some ⟨oc, od, .func (PySem.W.fnOf x qual (defArgs st) (defBody st) (defScope st) .none kV doc pm an (.ref c) ct), sl⟩) (h : PySem.W.codeIn K (.ref c) qual = true) (k : PySem.W.keepIn K (.ref f) = true) :
    FunC K x qual st f (PySem.W.fnOf x qual (defArgs st) (defBody st) (defScope st) .none kV doc pm an (.ref c) ct) c := ⟨⟨oc, od, kV, doc, pm, an, ct, sl, rfl, l, h⟩, k⟩
theorem tab_mk {K : PySem.W.Frag} {x : Str} {f c P : Addr} {oc o2 v0 v1 v2 v3 v4 v5 v6 v7 v8 v9 v10 : Value} {od d2 : Option Addr} {fd : FuncData} {sl s2 : Array (Option Value)} {rest : List Value} (a : PySem.W.nsIn K mainGlobals x = some (some (.ref f))) (l : K.lookup f = some ⟨oc, od, .func fd, sl⟩) (hc : fd.code = .ref c)
    (l2 : K.lookup c = some ⟨o2, d2, .fields (List.toArray (v0 :: v1 :: v2 :: v3 :: v4 :: v5 :: v6 :: v7 :: v8 :: v9 :: v10 :: .ref P :: rest)), s2⟩) : PySem.W.tabIn K x = some (c, P) := by
  unfold PySem.W.tabIn
  rw [a]
  dsimp only
  rw [l]
  dsimp only
  rw [hc]
  dsimp only
  rw [l2]
  rfl
theorem sub_one {K : PySem.W.Frag} {C D : Addr} {x y : Str} {tl tl2 : List Value} (c : One K C x tl) (d : One K D y tl2) : PySem.W.subIn K (.ref C) (.ref D) = some (x == y) := by
  obtain ⟨cd, h1, h2, h3, h4⟩ := c.cn.cls
  show PySem.W.mroIn K C (.ref D) = some (x == y)
  unfold PySem.W.mroIn
  rw [h1, Option.bind_some, h3, if_neg (by simp), List.contains_cons, notIn_types c.rf, Bool.or_false]
  by_cases e : C = D
  · subst e
    have exy : x = y := c.cn.inj d.cn (by simp)
    rw [exy]
    simp
  · have nxy : (x == y) = false := by
      rw [beq_eq_false_iff_ne]
      rintro rfl
      have z := c.ns.symm.trans d.ns
      cases z
      exact e rfl
    rw [nxy]
    exact congrArg some (beq_eq_false_iff_ne.mpr fun z => e (Value.ref.inj z).symm)
theorem all {l : PySem.W.OpenLaw} {w : World} {K : PySem.W.Frag} {h : Heap} {mg : Str → Option Value} {fa : Addr} (X : K.In h) (G : h.Ns mainGlobals mg) (hfa : mg "law" = some (.ref fa))
    (e_InvalidChange : ∃ (C f : Addr) (fd : FuncData), ExcTxt K "InvalidChange" "InvalidChange.__init__" m_InvalidChange C f fd ["index"] tlV)
    (d_lsigns : ∃ (f : Addr) (fd : FuncData), At K "_law_signs" s_lsigns f fd)
    (d_ldraw : ∃ (f : Addr) (fd : FuncData), At K "_law_draw" s_ldraw f fd)
    (d_lpen : ∃ (f : Addr) (fd : FuncData), At K "_law_pen" s_lpen f fd)
    (d_lpick : ∃ (f : Addr) (fd : FuncData), At K "_law_pick" s_lpick f fd)
    (d_lis_text : ∃ (f : Addr) (fd : FuncData), At K "_law_is_text" s_lis_text f fd)
    (d_lis_number : ∃ (f : Addr) (fd : FuncData), At K "_law_is_number" s_lis_number f fd)
    (d_lfew : ∃ (f : Addr) (fd : FuncData), At K "_law_few" s_lfew f fd)
    (d_lword : ∃ (f : Addr) (fd : FuncData), At K "_law_word" s_lword f fd)
    (d_lany_value : ∃ (f : Addr) (fd : FuncData), At K "_law_any_value" s_lany_value f fd)
    (d_lntext : ∃ (f : Addr) (fd : FuncData), At K "_law_ntext" s_lntext f fd)
    (d_lnother : ∃ (f : Addr) (fd : FuncData), At K "_law_nother" s_lnother f fd)
    (d_lnrows : ∃ (f : Addr) (fd : FuncData), At K "_law_nrows" s_lnrows f fd)
    (d_lnapart : ∃ (f : Addr) (fd : FuncData), At K "_law_napart" s_lnapart f fd)
    (d_lnis_change : ∃ (f : Addr) (fd : FuncData), At K "_law_nis_change" s_lnis_change f fd)
    (d_lndone : ∃ (f : Addr) (fd : FuncData), At K "_law_ndone" s_lndone f fd)
    (d_lnsome : ∃ (f : Addr) (fd : FuncData), At K "_law_nsome" s_lnsome f fd)
    (d_lnchanged : ∃ (f : Addr) (fd : FuncData), At K "_law_nchanged" s_lnchanged f fd)
    (d_is_text : ∃ (f : Addr) (fd : FuncData), At K "is_text" s_is_text f fd)
    (d_is_integer : ∃ (f : Addr) (fd : FuncData), At K "is_integer" s_is_integer f fd)
    (d_is_integer_in : ∃ (f : Addr) (fd : FuncData), At K "is_integer_in" s_is_integer_in f fd)
    (d_is_change : ∃ (f : Addr) (fd : FuncData), At K "is_change" s_is_change f fd)
    (d_changed : ∃ (f : Addr) (fd : FuncData), At K "changed" s_changed f fd)
    (d_run_on : ∃ (f : Addr) (fd : FuncData), At K "run_on" s_run_on f fd)
    (d_starts_behind : ∃ (f : Addr) (fd : FuncData), At K "starts_behind" s_starts_behind f fd)
    (d_levels_to : ∃ (f : Addr) (fd : FuncData), At K "levels_to" s_levels_to f fd)
    (d_distance : ∃ (f : Addr) (fd : FuncData), At K "distance" s_distance f fd)
    (d_changes : ∃ (f : Addr) (fd : FuncData), At K "changes" s_changes f fd)
    (d_law : ∃ (f c tP : Addr) (fd : FuncData), PySem.W.nsIn K mainGlobals "law" = some (some (.ref f)) ∧ FunC K "law" "law" s_law f fd c ∧ PySem.W.tabIn K "law" = some (c, tP))
    (z_str : PySem.W.nsIn K mainGlobals "str" = some none)
    (z_tuple : PySem.W.nsIn K mainGlobals "tuple" = some none)
    (z_enumerate : PySem.W.nsIn K mainGlobals "enumerate" = some none)
    (z_bool : PySem.W.nsIn K mainGlobals "bool" = some none)
    (z_sum : PySem.W.nsIn K mainGlobals "sum" = some none)
    (z_max : PySem.W.nsIn K mainGlobals "max" = some none)
    (z_ValueError : PySem.W.nsIn K mainGlobals "ValueError" = some none)
    (z_len : PySem.W.nsIn K mainGlobals "len" = some none)
    (z_list : PySem.W.nsIn K mainGlobals "list" = some none)
    (z_int : PySem.W.nsIn K mainGlobals "int" = some none)
    (z_abs : PySem.W.nsIn K mainGlobals "abs" = some none)
    (z_range : PySem.W.nsIn K mainGlobals "range" = some none)
    (z_min : PySem.W.nsIn K mainGlobals "min" = some none)
    (z_repr : PySem.W.nsIn K mainGlobals "repr" = some none)
    (z_isinstance : PySem.W.nsIn K mainGlobals "isinstance" = some none)
    (z_reversed : PySem.W.nsIn K mainGlobals "reversed" = some none)
    (g_LETTERS : ∃ u, mg "LETTERS" = some u ∧ RelV (.str letS) u)
    (tb : ∀ c tP : Addr, PySem.W.tabIn K "law" = some (c, tP) → h.get? tP = some { cls := .none, data := .fields #[] } ∧ K.lookup tP = none ∧ PySem.W.CodeHd h c tP)
    : ∃ (fd : FuncData) (c tP : Addr), h.get? tP = some { cls := .none, data := .fields #[] } ∧ K.lookup tP = none ∧ PySem.W.CodeHd h c tP ∧ (∀ (s : Shared) (v : Value), BindsTo s fd ⟨[v], []⟩ [("_law_script", v)]) ∧ ∀ base : Heap, K.In base → base.Ns mainGlobals mg → TabB base mg c tP → SM base → FnG l.prog w K mg base CX0 7 fa fd ["_law_script"] (spLaw tP K) := by
  obtain ⟨C_InvalidChange, i_InvalidChange, fd_InvalidChange, E_InvalidChange⟩ := e_InvalidChange
  have o_InvalidChange : One K C_InvalidChange "InvalidChange" tlV := ⟨E_InvalidChange.cn, E_InvalidChange.ns, rfl⟩
  obtain ⟨f_lsigns, fd_lsigns, A_lsigns⟩ := d_lsigns
  have m_lsigns := PySem.W.mg_of X G A_lsigns.ns
  obtain ⟨f_ldraw, fd_ldraw, A_ldraw⟩ := d_ldraw
  have m_ldraw := PySem.W.mg_of X G A_ldraw.ns
  obtain ⟨f_lpen, fd_lpen, A_lpen⟩ := d_lpen
  have m_lpen := PySem.W.mg_of X G A_lpen.ns
  obtain ⟨f_lpick, fd_lpick, A_lpick⟩ := d_lpick
  have m_lpick := PySem.W.mg_of X G A_lpick.ns
  obtain ⟨f_lis_text, fd_lis_text, A_lis_text⟩ := d_lis_text
  have m_lis_text := PySem.W.mg_of X G A_lis_text.ns
  obtain ⟨f_lis_number, fd_lis_number, A_lis_number⟩ := d_lis_number
  have m_lis_number := PySem.W.mg_of X G A_lis_number.ns
  obtain ⟨f_lfew, fd_lfew, A_lfew⟩ := d_lfew
  have m_lfew := PySem.W.mg_of X G A_lfew.ns
  obtain ⟨f_lword, fd_lword, A_lword⟩ := d_lword
  have m_lword := PySem.W.mg_of X G A_lword.ns
  obtain ⟨f_lany_value, fd_lany_value, A_lany_value⟩ := d_lany_value
  have m_lany_value := PySem.W.mg_of X G A_lany_value.ns
  obtain ⟨f_lntext, fd_lntext, A_lntext⟩ := d_lntext
  have m_lntext := PySem.W.mg_of X G A_lntext.ns
  obtain ⟨f_lnother, fd_lnother, A_lnother⟩ := d_lnother
  have m_lnother := PySem.W.mg_of X G A_lnother.ns
  obtain ⟨f_lnrows, fd_lnrows, A_lnrows⟩ := d_lnrows
  have m_lnrows := PySem.W.mg_of X G A_lnrows.ns
  obtain ⟨f_lnapart, fd_lnapart, A_lnapart⟩ := d_lnapart
  have m_lnapart := PySem.W.mg_of X G A_lnapart.ns
  obtain ⟨f_lnis_change, fd_lnis_change, A_lnis_change⟩ := d_lnis_change
  have m_lnis_change := PySem.W.mg_of X G A_lnis_change.ns
  obtain ⟨f_lndone, fd_lndone, A_lndone⟩ := d_lndone
  have m_lndone := PySem.W.mg_of X G A_lndone.ns
  obtain ⟨f_lnsome, fd_lnsome, A_lnsome⟩ := d_lnsome
  have m_lnsome := PySem.W.mg_of X G A_lnsome.ns
  obtain ⟨f_lnchanged, fd_lnchanged, A_lnchanged⟩ := d_lnchanged
  have m_lnchanged := PySem.W.mg_of X G A_lnchanged.ns
  obtain ⟨f_is_text, fd_is_text, A_is_text⟩ := d_is_text
  have m_is_text := PySem.W.mg_of X G A_is_text.ns
  obtain ⟨f_is_integer, fd_is_integer, A_is_integer⟩ := d_is_integer
  have m_is_integer := PySem.W.mg_of X G A_is_integer.ns
  obtain ⟨f_is_integer_in, fd_is_integer_in, A_is_integer_in⟩ := d_is_integer_in
  have m_is_integer_in := PySem.W.mg_of X G A_is_integer_in.ns
  obtain ⟨f_is_change, fd_is_change, A_is_change⟩ := d_is_change
  have m_is_change := PySem.W.mg_of X G A_is_change.ns
  obtain ⟨f_changed, fd_changed, A_changed⟩ := d_changed
  have m_changed := PySem.W.mg_of X G A_changed.ns
  obtain ⟨f_run_on, fd_run_on, A_run_on⟩ := d_run_on
  have m_run_on := PySem.W.mg_of X G A_run_on.ns
  obtain ⟨f_starts_behind, fd_starts_behind, A_starts_behind⟩ := d_starts_behind
  have m_starts_behind := PySem.W.mg_of X G A_starts_behind.ns
  obtain ⟨f_levels_to, fd_levels_to, A_levels_to⟩ := d_levels_to
  have m_levels_to := PySem.W.mg_of X G A_levels_to.ns
  obtain ⟨f_distance, fd_distance, A_distance⟩ := d_distance
  have m_distance := PySem.W.mg_of X G A_distance.ns
  obtain ⟨f_changes, fd_changes, A_changes⟩ := d_changes
  have m_changes := PySem.W.mg_of X G A_changes.ns
  obtain ⟨f_law, c_law, tP, fd_law, q_law, F_law, w_law⟩ := d_law
  have m_law := PySem.W.mg_of X G q_law
  have e := hfa.symm.trans m_law
  cases e
  have T : Txt mg := ⟨PySem.W.mg_none_of X G z_str, PySem.W.mg_none_of X G z_tuple, PySem.W.mg_none_of X G z_enumerate, PySem.W.mg_none_of X G z_bool, PySem.W.mg_none_of X G z_sum, PySem.W.mg_none_of X G z_max, PySem.W.mg_none_of X G z_ValueError, PySem.W.mg_none_of X G z_len, PySem.W.mg_none_of X G z_list, PySem.W.mg_none_of X G z_int, PySem.W.mg_none_of X G z_abs, PySem.W.mg_none_of X G z_range, PySem.W.mg_none_of X G z_min, PySem.W.mg_none_of X G z_repr, PySem.W.mg_none_of X G z_isinstance, PySem.W.mg_none_of X G z_reversed⟩
  have bd_lsigns : Binds K fd_lsigns [] [] := A_lsigns.fn.binds (ps := []) fun _ _ _ _ _ _ us hl => match us, hl with | [], _ => rfl
  have bd_ldraw : Binds K fd_ldraw ["_law_pen_here", "_law_many"] [] := A_ldraw.fn.binds (ps := ["_law_pen_here", "_law_many"]) fun _ _ _ _ _ _ us hl => match us, hl with | [_, _], _ => rfl
  have bd_lpen : Binds K fd_lpen ["_law_script"] [] := A_lpen.fn.binds (ps := ["_law_script"]) fun _ _ _ _ _ _ us hl => match us, hl with | [_], _ => rfl
  have bd_lpick : Binds K fd_lpick ["_law_pen_here", "_law_options"] [] := A_lpick.fn.binds (ps := ["_law_pen_here", "_law_options"]) fun _ _ _ _ _ _ us hl => match us, hl with | [_, _], _ => rfl
  have bd_lis_text : Binds K fd_lis_text ["_law_thing"] [] := A_lis_text.fn.binds (ps := ["_law_thing"]) fun _ _ _ _ _ _ us hl => match us, hl with | [_], _ => rfl
  have bd_lis_number : Binds K fd_lis_number ["_law_thing", "_law_least", "_law_greatest"] [] := A_lis_number.fn.binds (ps := ["_law_thing", "_law_least", "_law_greatest"]) fun _ _ _ _ _ _ us hl => match us, hl with | [_, _, _], _ => rfl
  have bd_lfew : Binds K fd_lfew ["_law_pen_here"] [] := A_lfew.fn.binds (ps := ["_law_pen_here"]) fun _ _ _ _ _ _ us hl => match us, hl with | [_], _ => rfl
  have bd_lword : Binds K fd_lword ["_law_pen_here", "_law_signs_here", "_law_least", "_law_most_letters"] [] := A_lword.fn.binds (ps := ["_law_pen_here", "_law_signs_here", "_law_least", "_law_most_letters"]) fun _ _ _ _ _ _ us hl => match us, hl with | [_, _, _, _], _ => rfl
  have bd_lany_value : Binds K fd_lany_value ["_law_pen_here"] [] := A_lany_value.fn.binds (ps := ["_law_pen_here"]) fun _ _ _ _ _ _ us hl => match us, hl with | [_], _ => rfl
  have bd_lntext : Binds K fd_lntext ["_law_pen_here", "_law_signs_here", "_law_most_letters"] [] := A_lntext.fn.binds (ps := ["_law_pen_here", "_law_signs_here", "_law_most_letters"]) fun _ _ _ _ _ _ us hl => match us, hl with | [_, _, _], _ => rfl
  have bd_lnother : Binds K fd_lnother ["_law_signs_here"] [] := A_lnother.fn.binds (ps := ["_law_signs_here"]) fun _ _ _ _ _ _ us hl => match us, hl with | [_], _ => rfl
  have bd_lnrows : Binds K fd_lnrows ["_law_left", "_law_right"] [] := A_lnrows.fn.binds (ps := ["_law_left", "_law_right"]) fun _ _ _ _ _ _ us hl => match us, hl with | [_, _], _ => rfl
  have bd_lnapart : Binds K fd_lnapart ["_law_left", "_law_right"] [] := A_lnapart.fn.binds (ps := ["_law_left", "_law_right"]) fun _ _ _ _ _ _ us hl => match us, hl with | [_, _], _ => rfl
  have bd_lnis_change : Binds K fd_lnis_change ["_law_here", "_law_thing"] [] := A_lnis_change.fn.binds (ps := ["_law_here", "_law_thing"]) fun _ _ _ _ _ _ us hl => match us, hl with | [_, _], _ => rfl
  have bd_lndone : Binds K fd_lndone ["_law_here", "_law_thing"] [] := A_lndone.fn.binds (ps := ["_law_here", "_law_thing"]) fun _ _ _ _ _ _ us hl => match us, hl with | [_, _], _ => rfl
  have bd_lnsome : Binds K fd_lnsome ["_law_pen_here", "_law_here", "_law_signs_here"] [] := A_lnsome.fn.binds (ps := ["_law_pen_here", "_law_here", "_law_signs_here"]) fun _ _ _ _ _ _ us hl => match us, hl with | [_, _, _], _ => rfl
  have bd_lnchanged : Binds K fd_lnchanged ["_law_call"] [] := A_lnchanged.fn.binds (ps := ["_law_call"]) fun _ _ _ _ _ _ us hl => match us, hl with | [_], _ => rfl
  have bd_is_text : Binds K fd_is_text ["value"] [] := A_is_text.fn.binds (ps := ["value"]) fun _ _ _ _ _ _ us hl => match us, hl with | [_], _ => rfl
  have bd_is_integer : Binds K fd_is_integer ["value"] [] := A_is_integer.fn.binds (ps := ["value"]) fun _ _ _ _ _ _ us hl => match us, hl with | [_], _ => rfl
  have bd_is_integer_in : Binds K fd_is_integer_in ["value", "low", "high"] [] := A_is_integer_in.fn.binds (ps := ["value", "low", "high"]) fun _ _ _ _ _ _ us hl => match us, hl with | [_, _, _], _ => rfl
  have bd_is_change : Binds K fd_is_change ["value", "text"] [] := A_is_change.fn.binds (ps := ["value", "text"]) fun _ _ _ _ _ _ us hl => match us, hl with | [_, _], _ => rfl
  have bd_changed : Binds K fd_changed ["text", "changes"] [] := A_changed.fn.binds (ps := ["text", "changes"]) fun _ _ _ _ _ _ us hl => match us, hl with | [_, _], _ => rfl
  have bd_run_on : Binds K fd_run_on ["one", "other", "index", "diagonal"] [] := A_run_on.fn.binds (ps := ["one", "other", "index", "diagonal"]) fun _ _ _ _ _ _ us hl => match us, hl with | [_, _, _, _], _ => rfl
  have bd_starts_behind : Binds K fd_starts_behind ["one", "other", "level", "diagonal"] [] := A_starts_behind.fn.binds (ps := ["one", "other", "level", "diagonal"]) fun _ _ _ _ _ _ us hl => match us, hl with | [_, _, _, _], _ => rfl
  have bd_levels_to : Binds K fd_levels_to ["one", "other"] [] := A_levels_to.fn.binds (ps := ["one", "other"]) fun _ _ _ _ _ _ us hl => match us, hl with | [_, _], _ => rfl
  have bd_distance : Binds K fd_distance ["one", "other"] [] := A_distance.fn.binds (ps := ["one", "other"]) fun _ _ _ _ _ _ us hl => match us, hl with | [_, _], _ => rfl
  have bd_changes : Binds K fd_changes ["one", "other"] [] := A_changes.fn.binds (ps := ["one", "other"]) fun _ _ _ _ _ _ us hl => match us, hl with | [_, _], _ => rfl
  obtain ⟨tb1, tb2, tb3⟩ := tb _ _ w_law
  refine ⟨fd_law, c_law, tP, tb1, tb2, tb3, fun s v => F_law.fn.binds1 rfl s v, fun base _ _ tab sm => ?_⟩
  have k_InvalidChange : ClsI l.prog w K mg base 1 "InvalidChange" C_InvalidChange ["index"] := c_InvalidChange X G E_InvalidChange
  have t_signs : FnT l.prog w K mg base 1 "_law_signs" letS := okT A_lsigns.fn sc_lsigns m_lsigns bd_lsigns rfl
  have c_is_text : CalG l.prog w K mg base CX0 1 "is_text" (spTest isT) := ⟨f_is_text, fd_is_text, _, b_is_text A_is_text.fn T g_LETTERS, m_is_text, A_is_text.fn.kp, bd_is_text⟩
  have c_is_integer : CalG l.prog w K mg base CX0 1 "is_integer" spIsInt := ⟨f_is_integer, fd_is_integer, _, b_is_integer A_is_integer.fn T, m_is_integer, A_is_integer.fn.kp, bd_is_integer⟩
  have c_is_integer_in : CalG l.prog w K mg base CX0 2 "is_integer_in" spInI := ⟨f_is_integer_in, fd_is_integer_in, _, b_is_integer_in A_is_integer_in.fn T c_is_integer, m_is_integer_in, A_is_integer_in.fn.kp, bd_is_integer_in⟩
  have c_is_change : CalG l.prog w K mg base CX0 3 "is_change" spIsCh := ⟨f_is_change, fd_is_change, _, b_is_change A_is_change.fn T c_is_integer_in c_is_text, m_is_change, A_is_change.fn.kp, bd_is_change⟩
  have c_changed : CalG l.prog w K mg base (L2.CX l.prog w) 4 "changed" (spChgd C_InvalidChange) := ⟨f_changed, fd_changed, _, b_changed A_changed.fn T c_is_change k_InvalidChange, m_changed, A_changed.fn.kp, bd_changed⟩
  have c_run_on : CalG l.prog w K mg base CX0 1 "run_on" spRun := ⟨f_run_on, fd_run_on, _, b_run_on A_run_on.fn T, m_run_on, A_run_on.fn.kp, bd_run_on⟩
  have c_starts_behind : CalG l.prog w K mg base CX0 1 "starts_behind" spStarts := ⟨f_starts_behind, fd_starts_behind, _, b_starts_behind A_starts_behind.fn T, m_starts_behind, A_starts_behind.fn.kp, bd_starts_behind⟩
  have c_levels_to : CalG l.prog w K mg base CX0 2 "levels_to" spLevels := ⟨f_levels_to, fd_levels_to, _, b_levels_to A_levels_to.fn T c_run_on c_starts_behind, m_levels_to, A_levels_to.fn.kp, bd_levels_to⟩
  have c_distance : CalG l.prog w K mg base CX0 3 "distance" spDist := ⟨f_distance, fd_distance, _, b_distance A_distance.fn T c_levels_to, m_distance, A_distance.fn.kp, bd_distance⟩
  have c_changes : CalG l.prog w K mg base CX0 3 "changes" spChanges := ⟨f_changes, fd_changes, _, b_changes A_changes.fn T c_levels_to c_starts_behind, m_changes, A_changes.fn.kp, bd_changes⟩
  have k_changed : CalK l.prog w K mg base (L2.CX l.prog w) 4 "changed" (spChgd C_InvalidChange) ["changes", "text"] List.reverse := ⟨f_changed, fd_changed, ["text", "changes"], b_changed A_changed.fn T c_is_change k_InvalidChange, m_changed, A_changed.fn.kp, A_changed.fn.kwb fun _ _ _ _ _ _ us hl => match us, hl with | [_, _], _ => rfl, fun _ _ r _ => vals_rev r⟩
  have k_changes : CalK l.prog w K mg base CX0 3 "changes" spChanges ["other", "one"] List.reverse := ⟨f_changes, fd_changes, ["one", "other"], b_changes A_changes.fn T c_levels_to c_starts_behind, m_changes, A_changes.fn.kp, A_changes.fn.kwb fun _ _ _ _ _ _ us hl => match us, hl with | [_, _], _ => rfl, fun _ _ r _ => vals_rev r⟩
  have c_lsigns : CalG l.prog w K mg base CX0 1 "_law_signs" spSigns := ⟨f_lsigns, fd_lsigns, _, b_lsigns A_lsigns.fn T, m_lsigns, A_lsigns.fn.kp, bd_lsigns⟩
  have c_ldraw : CalG l.prog w K mg base CX0 1 "_law_draw" spDraw := ⟨f_ldraw, fd_ldraw, _, b_ldraw A_ldraw.fn T, m_ldraw, A_ldraw.fn.kp, bd_ldraw⟩
  have c_lpen : CalG l.prog w K mg base CX0 1 "_law_pen" (spPen K) := ⟨f_lpen, fd_lpen, _, b_lpen A_lpen.fn T, m_lpen, A_lpen.fn.kp, bd_lpen⟩
  have c_lpick : CalG l.prog w K mg base CX0 2 "_law_pick" (spPick K) := ⟨f_lpick, fd_lpick, _, b_lpick A_lpick.fn T c_ldraw, m_lpick, A_lpick.fn.kp, bd_lpick⟩
  have c_lis_text : CalG l.prog w K mg base CX0 2 "_law_is_text" (spSays isT) := ⟨f_lis_text, fd_lis_text, _, b_lis_text A_lis_text.fn T c_lsigns, m_lis_text, A_lis_text.fn.kp, bd_lis_text⟩
  have c_lis_number : CalG l.prog w K mg base CX0 1 "_law_is_number" spNum := ⟨f_lis_number, fd_lis_number, _, b_lis_number A_lis_number.fn T, m_lis_number, A_lis_number.fn.kp, bd_lis_number⟩
  have c_lfew : CalG l.prog w K mg base CX0 3 "_law_few" spFew := ⟨f_lfew, fd_lfew, _, b_lfew A_lfew.fn T c_lpick t_signs, m_lfew, A_lfew.fn.kp, bd_lfew⟩
  have c_lword : CalG l.prog w K mg base CX0 3 "_law_word" spWord := ⟨f_lword, fd_lword, _, b_lword A_lword.fn T c_ldraw c_lpick, m_lword, A_lword.fn.kp, bd_lword⟩
  have c_lany_value : CalG l.prog w K mg base CX0 3 "_law_any_value" spAny := ⟨f_lany_value, fd_lany_value, _, b_lany_value A_lany_value.fn T c_lpick, m_lany_value, A_lany_value.fn.kp, bd_lany_value⟩
  have c_lntext : CalG l.prog w K mg base CX0 4 "_law_ntext" spNtext := ⟨f_lntext, fd_lntext, _, b_lntext A_lntext.fn T c_ldraw c_lpick c_lword, m_lntext, A_lntext.fn.kp, bd_lntext⟩
  have c_lnother : CalG l.prog w K mg base CX0 2 "_law_nother" spNother := ⟨f_lnother, fd_lnother, _, b_lnother A_lnother.fn T c_lsigns, m_lnother, A_lnother.fn.kp, bd_lnother⟩
  have c_lnrows : CalG l.prog w K mg base CX0 1 "_law_nrows" spRows := ⟨f_lnrows, fd_lnrows, _, b_lnrows A_lnrows.fn T, m_lnrows, A_lnrows.fn.kp, bd_lnrows⟩
  have c_lnapart : CalG l.prog w K mg base CX0 2 "_law_napart" spApart := ⟨f_lnapart, fd_lnapart, _, b_lnapart A_lnapart.fn T c_lnrows, m_lnapart, A_lnapart.fn.kp, bd_lnapart⟩
  have c_lnis_change : CalG l.prog w K mg base CX0 3 "_law_nis_change" spNis := ⟨f_lnis_change, fd_lnis_change, _, b_lnis_change A_lnis_change.fn T c_lis_number c_lis_text, m_lnis_change, A_lnis_change.fn.kp, bd_lnis_change⟩
  have c_lndone : CalG l.prog w K mg base CX0 1 "_law_ndone" spNdone := ⟨f_lndone, fd_lndone, _, b_lndone A_lndone.fn T, m_lndone, A_lndone.fn.kp, bd_lndone⟩
  have c_lnsome : CalG l.prog w K mg base CX0 4 "_law_nsome" spNsome := ⟨f_lnsome, fd_lnsome, _, b_lnsome A_lnsome.fn T c_ldraw c_lpick c_lnother c_lany_value, m_lnsome, A_lnsome.fn.kp, bd_lnsome⟩
  have c_lnchanged : CalH l.prog w K mg base CX0 6 "_law_nchanged" (spNex l.prog w K mg base C_InvalidChange) := ⟨f_lnchanged, fd_lnchanged, _, b_lnchanged A_lnchanged.fn T k_InvalidChange (exm_own E_InvalidChange.T (sub_one o_InvalidChange o_InvalidChange)) (kit_type o_InvalidChange (by decide +kernel)), m_lnchanged, A_lnchanged.fn.kp, bd_lnchanged⟩
  exact b_law F_law T c_lpen c_lfew c_ldraw c_lntext c_lnsome c_lnis_change c_lndone c_lnapart tab sm c_lnchanged c_changed k_changed c_changes k_changes c_distance
end Vk
set_option Elab.async false
set_option maxRecDepth 100000
set_option linter.all false
open PySem PySem.W PyProof.Rows
set_option maxRecDepth 100000 in
set_option maxHeartbeats 0 in
theorem PySem.Challenge.cw_anchoredits_k57_changes_one_after_anothe_holds : PySem.Challenge.rw_anchoredits_k57_changes_one_after_anothe.Holds := by
  w_on; o_law; k_headL; (case hw => w_witness2)
  k_fill
  refine Vk.walkXS (l := PySem.Challenge.rw_anchoredits_k57_changes_one_after_anothe) (n := 63) (k := 7) (x := "_law_script") (CX := L2.CX0) (sp := Vk.spLaw) ?hi rfl (by decide) rfl ⟨rfl, by decide, by decide⟩ (fun w h Y => PySem.W.kIn_of Y) ?F (fun P0 K H a ns hl hP hS => ⟨a, ns, rfl, hS, hl, hP, fun _ => rfl⟩) (fun _ _ _ _ z => z)
  case hi => first | kernel_rfl | decide +kernel
  case F =>
    intro w mg fa h KX Gr hmg
    obtain ⟨s0, mb, Gr⟩ := Gr
    refine' Vk.all KX Gr.T.g hmg ?e_InvalidChange ?d_lsigns ?d_ldraw ?d_lpen ?d_lpick ?d_lis_text ?d_lis_number ?d_lfew ?d_lword ?d_lany_value ?d_lntext ?d_lnother ?d_lnrows ?d_lnapart ?d_lnis_change ?d_lndone ?d_lnsome ?d_lnchanged ?d_is_text ?d_is_integer ?d_is_integer_in ?d_is_change ?d_changed ?d_run_on ?d_starts_behind ?d_levels_to ?d_distance ?d_changes ?d_law ?z_str ?z_tuple ?z_enumerate ?z_bool ?z_sum ?z_max ?z_ValueError ?z_len ?z_list ?z_int ?z_abs ?z_range ?z_min ?z_repr ?z_isinstance ?z_reversed ?g_LETTERS ?tb
    (case e_InvalidChange => as_aux_lemma => (refine' ⟨_, _, _, Vk.exc_mk PySem.VkX.exB_value ?ns ?iC ?cls ?sa ?kC ?ga ?gg ?ex ?hd ?ha ?hn ?ht ?hm ?tI ?kI (Vk.no1 ?n1) ?l ?c⟩; (case ns => k_is); (case iC => k_is); (case cls => k_is); (case sa => k_is); (case kC => k_is); (case ga => k_is); (case gg => k_is); (case ex => k_is); (case hd => k_is); (case ha => k_is); (case hn => k_is); (case ht => k_is); (case hm => k_is); (case tI => k_is); (case kI => k_is); (case n1 => k_is); (case l => k_is); (case c => k_is)))
    (case d_lsigns => as_aux_lemma => (refine' ⟨_, _, Vk.at_mk ?a ?l ?c ?k⟩; (case a => k_is); (case l => k_is); (case c => k_is); (case k => k_is)))
    (case d_ldraw => as_aux_lemma => (refine' ⟨_, _, Vk.at_mk ?a ?l ?c ?k⟩; (case a => k_is); (case l => k_is); (case c => k_is); (case k => k_is)))
    (case d_lpen => as_aux_lemma => (refine' ⟨_, _, Vk.at_mk ?a ?l ?c ?k⟩; (case a => k_is); (case l => k_is); (case c => k_is); (case k => k_is)))
    (case d_lpick => as_aux_lemma => (refine' ⟨_, _, Vk.at_mk ?a ?l ?c ?k⟩; (case a => k_is); (case l => k_is); (case c => k_is); (case k => k_is)))
    (case d_lis_text => as_aux_lemma => (refine' ⟨_, _, Vk.at_mk ?a ?l ?c ?k⟩; (case a => k_is); (case l => k_is); (case c => k_is); (case k => k_is)))
    (case d_lis_number => as_aux_lemma => (refine' ⟨_, _, Vk.at_mk ?a ?l ?c ?k⟩; (case a => k_is); (case l => k_is); (case c => k_is); (case k => k_is)))
    (case d_lfew => as_aux_lemma => (refine' ⟨_, _, Vk.at_mk ?a ?l ?c ?k⟩; (case a => k_is); (case l => k_is); (case c => k_is); (case k => k_is)))
    (case d_lword => as_aux_lemma => (refine' ⟨_, _, Vk.at_mk ?a ?l ?c ?k⟩; (case a => k_is); (case l => k_is); (case c => k_is); (case k => k_is)))
    (case d_lany_value => as_aux_lemma => (refine' ⟨_, _, Vk.at_mk ?a ?l ?c ?k⟩; (case a => k_is); (case l => k_is); (case c => k_is); (case k => k_is)))
    (case d_lntext => as_aux_lemma => (refine' ⟨_, _, Vk.at_mk ?a ?l ?c ?k⟩; (case a => k_is); (case l => k_is); (case c => k_is); (case k => k_is)))
    (case d_lnother => as_aux_lemma => (refine' ⟨_, _, Vk.at_mk ?a ?l ?c ?k⟩; (case a => k_is); (case l => k_is); (case c => k_is); (case k => k_is)))
    (case d_lnrows => as_aux_lemma => (refine' ⟨_, _, Vk.at_mk ?a ?l ?c ?k⟩; (case a => k_is); (case l => k_is); (case c => k_is); (case k => k_is)))
    (case d_lnapart => as_aux_lemma => (refine' ⟨_, _, Vk.at_mk ?a ?l ?c ?k⟩; (case a => k_is); (case l => k_is); (case c => k_is); (case k => k_is)))
    (case d_lnis_change => as_aux_lemma => (refine' ⟨_, _, Vk.at_mk ?a ?l ?c ?k⟩; (case a => k_is); (case l => k_is); (case c => k_is); (case k => k_is)))
    (case d_lndone => as_aux_lemma => (refine' ⟨_, _, Vk.at_mk ?a ?l ?c ?k⟩; (case a => k_is); (case l => k_is); (case c => k_is); (case k => k_is)))
    (case d_lnsome => as_aux_lemma => (refine' ⟨_, _, Vk.at_mk ?a ?l ?c ?k⟩; (case a => k_is); (case l => k_is); (case c => k_is); (case k => k_is)))
    (case d_lnchanged => as_aux_lemma => (refine' ⟨_, _, Vk.at_mk ?a ?l ?c ?k⟩; (case a => k_is); (case l => k_is); (case c => k_is); (case k => k_is)))
    (case d_is_text => as_aux_lemma => (refine' ⟨_, _, Vk.at_mk ?a ?l ?c ?k⟩; (case a => k_is); (case l => k_is); (case c => k_is); (case k => k_is)))
    (case d_is_integer => as_aux_lemma => (refine' ⟨_, _, Vk.at_mk ?a ?l ?c ?k⟩; (case a => k_is); (case l => k_is); (case c => k_is); (case k => k_is)))
    (case d_is_integer_in => as_aux_lemma => (refine' ⟨_, _, Vk.at_mk ?a ?l ?c ?k⟩; (case a => k_is); (case l => k_is); (case c => k_is); (case k => k_is)))
    (case d_is_change => as_aux_lemma => (refine' ⟨_, _, Vk.at_mk ?a ?l ?c ?k⟩; (case a => k_is); (case l => k_is); (case c => k_is); (case k => k_is)))
    (case d_changed => as_aux_lemma => (refine' ⟨_, _, Vk.at_mk ?a ?l ?c ?k⟩; (case a => k_is); (case l => k_is); (case c => k_is); (case k => k_is)))
    (case d_run_on => as_aux_lemma => (refine' ⟨_, _, Vk.at_mk ?a ?l ?c ?k⟩; (case a => k_is); (case l => k_is); (case c => k_is); (case k => k_is)))
    (case d_starts_behind => as_aux_lemma => (refine' ⟨_, _, Vk.at_mk ?a ?l ?c ?k⟩; (case a => k_is); (case l => k_is); (case c => k_is); (case k => k_is)))
    (case d_levels_to => as_aux_lemma => (refine' ⟨_, _, Vk.at_mk ?a ?l ?c ?k⟩; (case a => k_is); (case l => k_is); (case c => k_is); (case k => k_is)))
    (case d_distance => as_aux_lemma => (refine' ⟨_, _, Vk.at_mk ?a ?l ?c ?k⟩; (case a => k_is); (case l => k_is); (case c => k_is); (case k => k_is)))
    (case d_changes => as_aux_lemma => (refine' ⟨_, _, Vk.at_mk ?a ?l ?c ?k⟩; (case a => k_is); (case l => k_is); (case c => k_is); (case k => k_is)))
    (case d_law => as_aux_lemma => (refine' ⟨_, _, _, _, ?a, Vk.makC_mk ?l ?c ?k, Vk.tab_mk ?a2 ?l2 ?zq ?t⟩; (case a => k_is); (case l => k_is); (case c => k_is); (case k => k_is); (case a2 => k_is); (case l2 => k_is); (case zq => exact rfl); (case t => k_is)))
    (case z_str => as_aux_lemma => k_is)
    (case z_tuple => as_aux_lemma => k_is)
    (case z_enumerate => as_aux_lemma => k_is)
    (case z_bool => as_aux_lemma => k_is)
    (case z_sum => as_aux_lemma => k_is)
    (case z_max => as_aux_lemma => k_is)
    (case z_ValueError => as_aux_lemma => k_is)
    (case z_len => as_aux_lemma => k_is)
    (case z_list => as_aux_lemma => k_is)
    (case z_int => as_aux_lemma => k_is)
    (case z_abs => as_aux_lemma => k_is)
    (case z_range => as_aux_lemma => k_is)
    (case z_min => as_aux_lemma => k_is)
    (case z_repr => as_aux_lemma => k_is)
    (case z_isinstance => as_aux_lemma => k_is)
    (case z_reversed => as_aux_lemma => k_is)
    (case g_LETTERS => as_aux_lemma => exact Vk.const_s Gr.T (by first | kernel_rfl | decide +kernel))
    (case tb => (intro c tP ht; refine' Vk.tab_at Gr.T KX ?i ht ?n; (case i => first | kernel_rfl | decide +kernel); (case n => first | kernel_rfl | k_is)))
#print axioms PySem.Challenge.cw_anchoredits_k57_changes_one_after_anothe_holds
