import PyProof.Rows.All
import Wide.All
import OpenK.AllK
import Wide.FinOn
import HandS.Base
import HandS.Call
import HandS.List
import HandS.Comp
import HandS.Ends
import HandS.Text
import HandS.Words
import HandS.StrMore
import HandS.ForMost
import HandS.Codes
import HandS.Replace
import HandS.FStrTup
import PyProof.StrBlock2
import HandS.Exc
import HandS.ExcInit
import HandS.ExcIs
import HandS.ExcField
import KE.KExcIs
import HandS.IsInst
import HandS.Zip
import HandS.Nested
import HandS.OwnEq
import HandS.More
import HandS.Star
import HandS.ClsMeth
import HandS.Property
import HandS.Iter
import HandS.Zip0
import KE.GoesMore
import KE.GoesEnum
import HandS.NoneIn
import PyProof.StrLawsRepr
import HandS.EndTab
import HandS.ListEq
import KE.LtData
import PySem.Challenge.RW_anchoredits_k62_cheapest_exchanges
import KE.KTryMore
import KE.KRevSl
import HandS.Style
import HandS.TupAny
import HandS.Conv
import HandS.FltList
import PyProof.EnumMake
import HandS.Rev
import HandS.DictComp
import HandS.RevRange
import HandS.Defaults
import KE.OsRunLaw
set_option Elab.async false
set_option maxRecDepth 100000
set_option linter.all false
namespace Vk
open PySem PySem.Spec PyProof.Rows L2
/-! ## defs that may show values: no guard is under way -/
structure FnG (P : Program) (w : World) (K : PySem.W.Frag) (mg : Str → Option Value) (base : Heap) (CX : CXT) (k : Nat) (f : Addr) (fd : FuncData) (ps : List Str) (sp : Sp) : Prop where
  len : ∀ vs H Q E, sp vs H Q E → vs.length = ps.length
  run : ∀ (A : Around) (outer : List Env) (s : Shared) (H : Hp) (args : Args) (us : List Value) (vs : List V) (Q : VK) (E : XK), A.guards = some [] → Room k A → Env0 P w K mg base A outer s H → BindsTo s fd args (ps.zip us) → Vals vs us → sp vs H Q E →
    codeAny (model P w) A (.call (.ref f) args) (CR CX outer P w H s Q E) s
theorem FnG.of {P : Program} {w : World} {K : PySem.W.Frag} {mg : Str → Option Value} {base : Heap} {CX : CXT} {k : Nat} {f : Addr} {fd : FuncData} {ps : List Str} {sp : Sp} (F : FnOk P w K mg base CX k f fd ps sp) : FnG P w K mg base CX k f fd ps sp :=
  ⟨F.len, fun A outer s H args us vs Q E _ => F.run A outer s H args us vs Q E⟩
section
variable {P : Program} {w : World} {K : PySem.W.Frag} {mg : Str → Option Value} {base : Heap}
theorem okG {CX : CXT} {x qual : Str} {st : Stmt} {f : Addr} {fd : FuncData} {N ps : List Str} {k : Nat} {sp : Sp} (F : Fun K x qual st f fd) (S : FnScope N ps (defScope st)) (hlen : ∀ vs H Q E, sp vs H Q E → vs.length = ps.length)
    (hbody : ∀ (cdv : Value) (A : Around) (outer : List Env) (s : Shared) (H : Hp) (vs : List V) (Q : VK) (E : XK), A.guards = some [] → Room k (A.deeper (envOfC qual (defScope st) s.heap.objs.size f cdv)) → sp vs H Q E →
      ∃ t, PSs (cxOf CX P w K mg base N qual (defScope st) f cdv A outer s H E) (defBody st) t ∧ t { nx := fun _ H' => Q .non H', rt := Q } (start N vs) H) : FnG P w K mg base CX (k + 1) f fd ps sp := by
  obtain ⟨oc, od, kV, doc, pm, an, cdv, ct, osl, rfl, lk, hcd⟩ := F.ex
  refine ⟨hlen, fun A outer s H args us vs Q E hg hr e0 hb r hsp => ?_⟩
  have hvl := hlen _ _ _ _ hsp
  have KX := e0.mod.kin.keeps (fun b o e => (e0.bs b o e).1 : ∀ b o, base.get? b = some o → s.heap.get? b = some o)
  have noLim := e0.mod.nolimit.keeps (fun b o e => (e0.bs b o e).1 : ∀ b o, base.get? b = some o → s.heap.get? b = some o)
  have kinds : ∀ y ∈ ps.zip us, (defScope st).names.lookup y.1 = some .local ∨ ((defScope st).names.lookup y.1 = some .cell ∧ ((cellsFrom (s.heap.objs.size + 1) (defScope st).names []).lookup y.1).isSome = true) := by
    rintro ⟨n, v⟩ hy
    have hy1 := (List.of_mem_zip hy).1
    cases S.par n hy1 with
    | inl q => exact Or.inl q
    | inr q => exact Or.inr (And.intro q (PySem.W.cellsFrom_some _ _ _ (Or.inl q)))
  refine codeAny_call_function hr.depth (KX f _ lk) rfl S.co S.gen rfl (PySem.W.codeRec_of KX hcd) (hb _ _ _ _ (wpAny_newFunctionEnv_cells S.kind kinds fun env he s1 x => ?_))
  cases he
  refine And.intro (noLim.keeps x.toInCall.keep) (codeAny_func ?_)
  obtain ⟨t, ht, hq⟩ := hbody cdv A outer s H vs Q E hg (hr.deeper _) hsp
  have I0 := inv_start (CX := CX) (E := E) S hr.hd e0 hvl r x
  refine wpAny_mono (ht.run [] s1 (start N vs) H _ I0 hq) (fun fl s2 hs => ?_) (fun e s2 hs => hs)
  have close : ∀ {σ2 : L2.St} {H2 : Hp} {v : V} {u : Value}, Inv (cxOf CX P w K mg base N qual (defScope st) f cdv A outer s H E) [] σ2 H2 s2 → RelV v u → Q v H2 → CE outer P w H s Q u s2 := by
    intro σ2 H2 v u J rv q
    exact ⟨v, H2, And.intro J.os (And.intro J.bare (And.intro J.base (And.intro J.hok (And.intro rv q))))⟩
  match fl, hs with
  | .ret u, ⟨v, σ2, H2, J, rv, q⟩ => exact close J rv q
  | .next, ⟨σ2, H2, J, q⟩ => exact close (v := V.non) (u := Value.none) J rfl q
  | .brk, ⟨_, _, _, q⟩ => exact q.elim
  | .cont, ⟨_, _, _, q⟩ => exact q.elim
end
section
variable {P : Program} {w : World} {K : PySem.W.Frag} {mg : Str → Option Value} {base : Heap}
theorem okG0 {x qual : Str} {st : Stmt} {f : Addr} {fd : FuncData} {N ps : List Str} {k : Nat} {sp : Sp} (F : Fun K x qual st f fd) (S : FnScope N ps (defScope st)) (hlen : ∀ vs H Q E, sp vs H Q E → vs.length = ps.length)
    (hbody : ∀ (cdv : Value) (A : Around) (outer : List Env) (s : Shared) (H : Hp) (vs : List V) (Q : VK) (E : XK), A.guards = some [] → Room k (A.deeper (envOfC qual (defScope st) s.heap.objs.size f cdv)) → sp vs H Q E →
      ∃ t, PSs (cxOf CX0 P w K mg base N qual (defScope st) f cdv A outer s H E).nox (defBody st) t ∧ t { nx := fun _ H' => Q .non H', rt := Q } (start N vs) H) : FnG P w K mg base CX0 (k + 1) f fd ps sp :=
  okG F S hlen fun cdv A outer s H vs Q E hg hr hsp => match hbody cdv A outer s H vs Q E hg hr hsp with | ⟨t, h, q⟩ => ⟨t, h.nox, q⟩
end
/-- a def of the module by its name -/
structure CalG (P : Program) (w : World) (K : PySem.W.Frag) (mg : Str → Option Value) (base : Heap) (CX : CXT) (k : Nat) (x : Str) (sp : Sp) : Prop where
  ex : ∃ (f : Addr) (fd : FuncData) (ps : List Str), FnG P w K mg base CX k f fd ps sp ∧ mg x = some (.ref f) ∧ PySem.W.keepIn K (.ref f) = true ∧ Binds K fd ps []
section
variable {X : Cx} {CX : CXT} {j k : Nat} {f : Addr} {fd : FuncData} {ps : List Str} {sp : Sp} {E : XK} {x : Str} {p pos : Pos} {e : Expr} {es : List Expr} {t : TA}
theorem run_fnG {pins : List (Addr × Obj)} {σ : L2.St} {H : Hp} {s : Shared} {Q : VK} {us : List Value} {vs : List V} (F : FnG X.prog X.w X.K X.mg X.base CX k f fd ps sp) (hg : X.A.guards = some []) (hr : Room k X.A) (hb : Binds X.K fd ps []) (hx : Passes CX X E)
    (I : Inv X pins σ H s) (r : Vals vs us) (h : sp vs H Q E) : wpAny (model X.prog X.w) X.A (call (.ref f) us) (EP X pins σ Q) X.xe s := by
  have hl : us.length = ps.length := r.length.symm.trans (F.len _ _ _ _ h)
  have b := hb s us I.kIn ((congrArg List.length (List.append_nil us)).trans hl)
  rw [List.append_nil] at b
  refine wpAny_call (codeAny_mono (F.run X.A X.stack s H ⟨us, []⟩ us vs Q E hg hr I.env0 b r h) (fun res s2 hq => ?_))
  match res, hq with
  | .error e, hq => exact hx pins σ H s e s2 I hq
  | .ok (.ret u), hq => exact I.after hq
  | .ok .next, hq => exact hq.elim
  | .ok .brk, hq => exact hq.elim
  | .ok .cont, hq => exact hq.elim
theorem pe_cG (c : CalG X.prog X.w X.K X.mg X.base CX k x sp) (hg : X.A.guards = some []) (hr : Room j X.A) (hk : k ≤ j) (hx : Passes CX X E) (ha : PA X (e :: es) t) (gl : Gl X x := by rfl)
    (hdb : (x == ("__debug__" : Str)) = false := by decide) (he : starEach (e :: es) X.env = (false, eval e X.env) :: starEach es X.env := by rfl) (hpl : (backTo pos (starEach es X.env)).any (·.1) = false := by rfl) :
    PE X (.Call (.Name x p) (e :: es) [] pos) (tCall sp [] E t) := by
  obtain ⟨f, fd, ps, F, hm, kp, hb⟩ := c.ex
  refine ⟨fun pins s σ H Q I h => wpAny_Call_Name_kw (ld_glob I gl hm (PySem.W.callWith_K (h₀ := X.base) I.ok.mod.kin kp (thn (ha.run pos pins s σ H _ I h) fun us s1 hh => ?_) he hpl) hdb)⟩
  obtain ⟨vs, H1, I1, r, q⟩ := hh
  rw [List.append_nil] at q
  exact ⟨I1.kIn, run_fnG F hg (hr.mono hk) hb hx I1 r q⟩
theorem pe_cG0 (c : CalG X.prog X.w X.K X.mg X.base CX k x sp) (hg : X.A.guards = some []) (hr : Room j X.A) (hk : k ≤ j) (hx : Passes CX X E) (gl : Gl X x := by rfl)
    (hdb : (x == ("__debug__" : Str)) = false := by decide) : PE X (.Call (.Name x p) [] [] pos) (tCall sp [] E tNil) := by
  obtain ⟨f, fd, ps, F, hm, kp, hb⟩ := c.ex
  exact ⟨fun pins s σ H Q I h => wpAny_Call_Name_kw (ld_glob I gl hm (PySem.W.callWith_K0 I.kIn kp (run_fnG (us := []) F hg (hr.mono hk) hb hx I .nil h)) hdb)⟩
end
/-! ## repr -/
section
variable {X : Cx}
theorem call_reprD (hg : X.A.guards = some []) (hu : X.A.units + 64 < cLine) : CallR X (.builtin "repr") (fun xs H Q => ∃ x d, xs = [x] ∧ Dp X.K H x d ∧ d.showable = true ∧ d.hasDict = false ∧ d.depth ≤ 60 ∧ d.shown.length ≤ sizeLine ∧ Q (.str d.shown) H) := by
  intro pins s σ H xs us Q I r h
  obtain ⟨x, d, rfl, hd, hs, hn, hdp, hz, q⟩ := h
  cases r with
  | cons r1 r2 =>
  cases r2
  obtain ⟨as, rd⟩ := Dp.reads I d x _ hd r1
  cases hd with
  | non => cases r1; exact PySem.P.repr_of_none ⟨V.str _, H, I.tok _, ⟨_, rfl⟩, q⟩
  | bl b => cases r1; exact PySem.P.repr_of_bool ⟨V.str _, H, I.tok _, ⟨_, rfl⟩, q⟩
  | int i =>
    obtain ⟨t, rfl⟩ := r1
    exact PySem.P.repr_of_int (of_decide_eq_true hs) ⟨V.str _, H, I.tok _, ⟨_, rfl⟩, q⟩
  | str z =>
    obtain ⟨t, rfl⟩ := r1
    exact PySem.P.repr_of_str ⟨V.str _, H, I.tok _, ⟨_, rfl⟩, q⟩ hz
  | lst h1 h2 =>
    cases r1
    exact repr_of_reads' rd hs (PyData.noDict_hsm hn) hg (by omega) (fun _ _ e => e) (fun h' u tk hk => ⟨V.str _, H, I.kept hk, ⟨u, rfl⟩, q⟩) hz
  | tup h1 h2 =>
    cases r1
    exact repr_of_reads' rd hs (PyData.noDict_hsm hn) hg (by omega) (fun _ _ e => e) (fun h' u tk hk => ⟨V.str _, H, I.kept hk, ⟨u, rfl⟩, q⟩) hz
end
/-! ## the law's own call -/
theorem lawG {P : Program} {w : World} {K : PySem.W.Frag} {mg mb : Str → Option Value} {CX : CXT} {k : Nat} {fa a : Addr} {fd : FuncData} {x : Str} {sp : Sp} {s1 : Shared} {vs : List Value} {ns : List Int}
    (KX : K.In s1.heap) (gns : s1.heap.Ns mainGlobals mg) (bns : s1.heap.Ns builtinsNs mb) (bbt : ∀ x : Str, x ≠ "__name__" → mb x = bootBuiltins x) (nolim : s1.heap.NoLimit) (gens0 : s1.gens = #[])
    (scr : s1.heap.get? a = some { cls := .type "list", data := .seq vs.toArray }) (hints : IntsAre vs ns) (short : ns.length ≤ sizeLine) (room : Room k callerA)
    (F : ∀ base : Heap, K.In base → base.Ns mainGlobals mg → FnG P w K mg base CX k fa fd [x] sp) (bind1 : ∀ (s : Shared) (u : Value), BindsTo s fd ⟨[u], []⟩ [(x, u)])
    (prom : ∀ H : Hp, Only H → SqL K H a (ns.map V.int) → sp [.ref a] H (fun v _ => v = .bl true) fun _ _ _ => False)
    (noX : ∀ H e s2, CX [] H s1 (fun _ _ _ => False) e s2 → False) :
    codeAny (model P w) callerA (.call (.ref fa) ⟨[.ref a], []⟩) (fun r s2 => r = .ok (.ret (.bool true)) ∧ OldK s1.heap s2.heap ∧ s2.os = s1.os ∧ AllBare s2.gens) s1 := by
  have rel := vals_ints hints
  have main : ∀ H : Hp, Only H → SqL K H a (ns.map V.int) → HOk P w H s1.heap → (∀ b u, H b = some u → b = a) → (∀ u, H a = some u → K.lookup a = none) →
      codeAny (model P w) callerA (.call (.ref fa) ⟨[.ref a], []⟩) (fun r s2 => r = .ok (.ret (.bool true)) ∧ OldK s1.heap s2.heap ∧ s2.os = s1.os ∧ AllBare s2.gens) s1 := by
    intro H only seq ok at1 un1
    have dictFree : ∀ {b : Addr} {o : Obj} {es : Array DictEntry} {ep : Nat}, s1.heap.get? b = some o → o.data = .dict es ep → H b = none := by
      intro b o es ep e d
      match q : H b with
      | none => rfl
      | some u =>
        have eb := at1 b u q
        subst eb
        rw [scr] at e
        cases e
        exact nomatch (show Data.seq vs.toArray _ = Data.dict es ep from d)
    have nsAt : ∀ {b : Addr} {m : Str → Option Value}, s1.heap.Ns b m → (hidT s1.heap H).Ns b m := by
      rintro b m ⟨o, es, ep, e, d, r⟩
      exact ⟨o, es, ep, hidT_get e (dictFree e d), d, r⟩
    have inK : K.In (hidT s1.heap H) := by
      intro b o e
      refine hidT_get (KX b o e) ?_
      match q : H b with
      | none => rfl
      | some u =>
        have eb := at1 b u q
        subst eb
        exact nomatch (un1 u q).symm.trans e
    have limAt : (hidT s1.heap H).NoLimit := match nolim with | ⟨mc, h1, h2⟩ => ⟨mc, nsAt h1, h2⟩
    have mod1 : Mod K mg (hidT s1.heap H) := ⟨inK, nsAt gns, ⟨mb, nsAt bns, bbt⟩, limAt⟩
    have start0 : Env0 P w K mg (hidT s1.heap H) callerA [] s1 H := ⟨rfl, mod1, fun b o => of_hidT, Nat.le_of_eq (hidT_size s1.heap H), trivial, (fun b hb => absurd hb (List.not_mem_nil (a := b))), ok, AllBare.of_eq gens0⟩
    refine codeAny_mono ((F _ inK (nsAt gns)).run callerA [] s1 H ⟨[.ref a], []⟩ [.ref a] [.ref a] _ _ rfl room start0 (bind1 s1 (.ref a)) (.cons rfl .nil) (prom H only seq)) ?_
    intro res s2 h
    match res, h with
    | .error e, h => exact (noX H e s2 h).elim
    | .ok .next, h => exact h.elim
    | .ok .brk, h => exact h.elim
    | .ok .cont, h => exact h.elim
    | .ok (.ret u), ⟨v, H2, os, bare, un, ok2, r2, (hv : v = .bl true)⟩ =>
      cases hv
      have hu : u = Value.bool true := r2
      cases hu
      refine ⟨rfl, OldK.of_keep ?_, os, bare⟩
      intro b o e
      match q : H b with
      | none => exact un.keep b o e q (fun z => nomatch z) (fun z => nomatch z)
      | some u =>
        cases only b with
        | inl z => exact nomatch z.symm.trans q
        | inr z =>
          obtain ⟨ob, xs, z⟩ := z
          have c1 := (ok b _ z).1
          have c2 := (ok2 b _ (un.frzs b ob _ z)).1
          exact c2.trans (c1.symm.trans e)
  match hk : K.lookup a with
  | some o =>
    have e := (KX a o hk).symm.trans scr
    cases e
    refine main (fun _ => none) (fun _ => Or.inl rfl) (Or.inr ⟨_, vs.toArray, _, hk, rfl, rfl, rfl, ?_, ?_⟩) (fun b u z => nomatch (show (none : Option HO) = some u from z)) (fun b u z => nomatch (show (none : Option HO) = some u from z)) (fun u z => nomatch (show (none : Option HO) = some u from z))
    · rw [List.size_toArray, hints.length]
      exact short
    · simpa using rel
  | none =>
    refine main (fun b => if b = a then some (.frz { cls := .type "list", data := .seq vs.toArray } (.lst (ns.map V.int))) else none) ?_ (Or.inl (Or.inr ⟨_, if_pos rfl⟩)) ?_ ?_ (fun _ _ => hk)
    · intro b
      by_cases hb : b = a
      · exact Or.inr ⟨_, _, if_pos hb⟩
      · exact Or.inl (if_neg hb)
    · intro b u z
      by_cases hb : b = a
      · subst hb
        have z1 := (if_pos rfl).symm.trans z
        cases z1
        exact ⟨scr, (by rw [List.length_map]; exact short), vs, _, rel, scr⟩
      · exact nomatch (if_neg hb).symm.trans z
    · intro b u z
      by_cases hb : b = a
      · exact hb
      · exact nomatch (if_neg hb).symm.trans z
end Vk
set_option Elab.async false
set_option maxRecDepth 100000
set_option linter.all false
namespace Vk
open PySem PySem.Spec PyProof.Rows L2
/-! ## what stays -/
/-- all that was tracked stays, but what stands at p -/
def Ext (p : Addr) (H H' : Hp) : Prop := ∀ b o, H b = some o → b ≠ p → H' b = some o
theorem Ext.rfl {p : Addr} {H : Hp} : Ext p H H := fun _ _ h _ => h
theorem Ext.trans {p : Addr} {H H1 H2 : Hp} (a : Ext p H H1) (b : Ext p H1 H2) : Ext p H H2 := fun c o h n => b c o (a c o h n) n
theorem Ext.same {p : Addr} {H H1 : Hp} (a : Same H H1) : Ext p H H1 := fun c o h _ => a c o h
theorem Ext.at {p : Addr} {H : Hp} {o : HO} : Ext p H (upd H p o) := fun c u h n => (upd_ne n).trans h
theorem same_new {H : Hp} {a : Addr} {o : HO} (h : H a = none) : Same H (upd H a o) := fun c u e => (upd_ne (ne_of_none e h)).trans e
theorem Ext.new {p a : Addr} {H : Hp} {o : HO} (h : H a = none) : Ext p H (upd H a o) := .same (same_new h)
theorem Ext.set {p a : Addr} {H H1 : Hp} {o : HO} (x : Ext p H H1) (h : H a = none) : Ext p H (upd H1 a o) := fun c u e n => (upd_ne (ne_of_none e h)).trans (x c u e n)
theorem Ext.none_of {p a : Addr} {H H1 : Hp} (x : Ext p H H1) (hp : a ≠ p) (h : H1 a = none) : H a = none := by
  match q : H a with
  | none => rfl
  | some o => exact nomatch (x a o q hp).symm.trans h
theorem up_new {H : Hp} {a b : Addr} {o u : HO} (h : H a = some o) (hb : H b = none) : upd H b u a = some o := same_new hb a o h
/-! ## the pen -/
def penL (c : Addr) (t l : Int) : List (Key × V) := [(.inr "cells", .ref c), (.inr "turn", .int t), (.inr "left", .int l)]
theorem k_ct : ¬ ((Str.ofString "cells") = Str.ofString "turn") := by decide +kernel
theorem k_cl : ¬ ((Str.ofString "cells") = Str.ofString "left") := by decide +kernel
theorem k_tl : ¬ ((Str.ofString "turn") = Str.ofString "left") := by decide +kernel
theorem k_lt : ¬ ((Str.ofString "left") = Str.ofString "turn") := by decide +kernel
theorem pen_cells (c : Addr) (t l : Int) : valV (penL c t l) (Sum.inr "cells" : Key) = some (.ref c) := valV_pos rfl
theorem pen_turn (c : Addr) (t l : Int) : valV (penL c t l) (Sum.inr "turn" : Key) = some (.int t) := (valV_neg (fun e => k_ct (Sum.inr.inj e))).trans (valV_pos rfl)
theorem pen_left (c : Addr) (t l : Int) : valV (penL c t l) (Sum.inr "left" : Key) = some (.int l) := (valV_neg (fun e => k_cl (Sum.inr.inj e))).trans ((valV_neg (fun e => k_tl (Sum.inr.inj e))).trans (valV_pos rfl))
theorem pen_put_turn (c : Addr) (t l u : Int) : putK (penL c t l) (Sum.inr "turn" : Key) (.int u) = penL c u l := by
  unfold putK
  rw [valV_any, pen_turn]
  simp [penL, k_ct, k_lt]
theorem pen_put_left (c : Addr) (t l u : Int) : putK (penL c t l) (Sum.inr "left" : Key) (.int u) = penL c t u := by
  unfold putK
  rw [valV_any, pen_left]
  simp [penL, k_cl, k_tl]
theorem pen_made (c : Addr) (t l : Int) : mergeK [] (penL c t l) = penL c t l := by
  simp [mergeK, penL, putK, k_ct, k_cl, k_tl]
structure Pen (H : Hp) (p c : Addr) (T : Nat) : Prop where
  ex : ∃ (ns : List Int) (t l : Int), H p = some (.dK (penL c t l)) ∧ H c = some (.lst (ns.map V.int)) ∧ ns.length ≤ 63 ∧ 0 ≤ t ∧ t ≤ T ∧ 0 ≤ l
section
variable {H H1 : Hp} {p c a : Addr} {T U : Nat} {o : HO} {xs : List V}
theorem Pen.mono (x : Pen H p c T) (h : T ≤ U) : Pen H p c U := by
  obtain ⟨ns, t, l, h1, h2, h3, h4, h5, h6⟩ := x.ex
  exact ⟨ns, t, l, h1, h2, h3, h4, by omega, h6⟩
theorem Pen.stay (x : Pen H p c T) (s : Same H H1) : Pen H1 p c T := by
  obtain ⟨ns, t, l, h1, h2, r⟩ := x.ex
  exact ⟨ns, t, l, s _ _ h1, s _ _ h2, r⟩
theorem Pen.new (x : Pen H p c T) (h : H a = none) : Pen (upd H a o) p c T := x.stay (same_new h)
theorem Pen.is (x : Pen H p c T) : ∃ t l, H p = some (.dK (penL c t l)) := by
  obtain ⟨ns, t, l, h1, _⟩ := x.ex
  exact ⟨t, l, h1⟩
theorem Pen.ne (x : Pen H p c T) (h : H a = some (.lst xs)) : a ≠ p := by
  obtain ⟨t, l, h1⟩ := x.is
  exact ne_of h h1 (by intro z; cases z)
/-- another thing is changed -/
theorem Pen.set (x : Pen H p c T) (h1 : a ≠ p) (h2 : a ≠ c) : Pen (upd H a o) p c T := by
  obtain ⟨ns, t, l, g1, g2, r⟩ := x.ex
  exact ⟨ns, t, l, (upd_ne h1.symm).trans g1, (upd_ne h2.symm).trans g2, r⟩
/-- a thing that was not there when the pen stood is neither the pen nor its cells -/
theorem Pen.apart (x : Pen H p c T) (h : H a = none) : a ≠ p ∧ a ≠ c := by
  obtain ⟨ns, t, l, g1, g2, r⟩ := x.ex
  exact ⟨(ne_of_none g1 h).symm, (ne_of_none g2 h).symm⟩
end
/-- draw's promise -/
def spDraw : Sp := fun vs H Q _ => ∃ (p c : Addr) (m : Int) (T : Nat), vs = [.ref p, .int m] ∧ 0 < m ∧ m < 1073741824 ∧ Pen H p c T ∧ T < 1000000000 ∧
  ∀ (d : Int) (H' : Hp), 0 ≤ d → d < m → Pen H' p c (T + 1) → Ext p H H' → Q (.int d) H'
def spPen (K : PySem.W.Frag) : Sp := fun vs H Q _ => ∃ (a : Addr) (ns : List Int), vs = [.ref a] ∧ SqL K H a (ns.map V.int) ∧
  ∀ (p c : Addr) (H' : Hp), H p = none → Pen H' p c 0 → Same H H' → Q (.ref p) H'
/-! ## draws' small facts -/
theorem ints_dp {K : PySem.W.Frag} {H : Hp} : ∀ ns : List Int, DpAll K H (ns.map V.int) (ns.map PyData.int)
  | [] => .nil
  | n :: ns => .cons (.int n) (ints_dp ns)
theorem ints_canLay : ∀ ns : List Int, PyData.canLayAll0 (ns.map PyData.int) = true
  | [] => rfl
  | n :: ns => by
    show (PyData.canLay0 (.int n) && PyData.canLayAll0 (ns.map PyData.int)) = true
    rw [ints_canLay ns]
    rfl
theorem ints_depth : ∀ ns : List Int, PyData.depthAll (ns.map PyData.int) = 0
  | [] => rfl
  | n :: ns => by
    show max (PyData.depth (.int n)) (PyData.depthAll (ns.map PyData.int)) = 0
    rw [ints_depth ns]
    rfl
theorem ints_shaped (ns : List Int) : SeqAt.shaped (.list (ns.map PyData.int)) = true := by
  have h1 : PyData.canLay0 (.list (ns.map PyData.int)) = true := ints_canLay ns
  have h2 : PyData.depth (.list (ns.map PyData.int)) = 1 := by
    show PyData.depthAll (ns.map PyData.int) + 1 = 1
    rw [ints_depth]
  unfold SeqAt.shaped
  rw [h1, h2]
  rfl
theorem ints_ne_nil (ns : List Int) : PyData.eqv (.list (ns.map PyData.int)) (.list []) = ns.isEmpty := by
  match ns with
  | [] => rfl
  | n :: r => rfl
theorem get_left {H : Hp} {p c : Addr} {t l : Int} (h : H p = some (.dK (penL c t l))) : DGet H p (.str "left") (some (.int l)) := pen_left c t l ▸ DGet.k (k := Sum.inr "left") h
theorem get_turn {H : Hp} {p c : Addr} {t l : Int} (h : H p = some (.dK (penL c t l))) : DGet H p (.str "turn") (some (.int t)) := pen_turn c t l ▸ DGet.k (k := Sum.inr "turn") h
theorem get_cells {H : Hp} {p c : Addr} {t l : Int} (h : H p = some (.dK (penL c t l))) : DGet H p (.str "cells") (some (.ref c)) := pen_cells c t l ▸ DGet.k (k := Sum.inr "cells") h
theorem put_left {H : Hp} {p c : Addr} {t l u : Int} (h : H p = some (.dK (penL c t l))) : DPut H p (.str "left") (.int u) (upd H p (.dK (penL c t u))) := pen_put_left c t l u ▸ DPut.k (k := Sum.inr "left") h (by show 3 < sizeLine; decide)
theorem put_turn {H : Hp} {p c : Addr} {t l u : Int} (h : H p = some (.dK (penL c t l))) : DPut H p (.str "turn") (.int u) (upd H p (.dK (penL c u l))) := pen_put_turn c t l u ▸ DPut.k (k := Sum.inr "turn") h (by show 3 < sizeLine; decide)
theorem at_mod {α : Type} {xs : List α} {i : Int} (h0 : 0 ≤ i) (h : i < (xs.length : Int)) : ∃ v, atI xs i = some v ∧ v ∈ xs := by
  have hj : i.toNat < xs.length := by omega
  refine ⟨xs[i.toNat], ?_, List.getElem_mem hj⟩
  have e : i = (i.toNat : Int) := by omega
  have q := atI_nat (List.getElem?_eq_getElem hj)
  rw [← e] at q
  exact q
def primes : List Int := [2147483629, 2147483647, 2147483587, 2147483563, 2147483579]
theorem primes_in {v : V} (h : v ∈ primes.map V.int) : ∃ i : Int, v = .int i ∧ 0 < i ∧ i < 2147483648 := by
  obtain ⟨i, hi, e⟩ := List.mem_map.mp h
  refine ⟨i, e.symm, ?_⟩
  have q : ∀ j ∈ primes, 0 < j ∧ j < 2147483648 := by decide
  exact q i hi
end Vk
set_option Elab.async false
set_option maxRecDepth 100000
set_option linter.all false
namespace Vk
open PySem PySem.Spec PyProof.Rows L2
/-! ## a def that returns one written text, and a replace of what it returns (a token is out behind it) -/
structure FnT (P : Program) (w : World) (K : PySem.W.Frag) (mg : Str → Option Value) (base : Heap) (k : Nat) (x : Str) (z : Str) : Prop where
  ex : ∃ f : Addr, mg x = some (.ref f) ∧ PySem.W.keepIn K (.ref f) = true ∧ ∀ (A : Around) (outer : List Env) (s : Shared) (H : Hp) (Q : VK), Room k A → Env0 P w K mg base A outer s H → Q (.str z) H →
    codeAny (model P w) A (.call (.ref f) ⟨[], []⟩) (fun r s2 => 1 ≤ s2.toks ∧ CR CX0 outer P w H s Q E0 r s2) s
section
variable {P : Program} {w : World} {K : PySem.W.Frag} {mg : Str → Option Value} {base : Heap}
theorem okT {x : Str} {st : Stmt} {f : Addr} {fd : FuncData} {z : Str} {j : Nat} {p1 p2 : Pos} (F : Fun K x x st f fd) (S : FnScope [] [] (defScope st)) (hm : mg x = some (.ref f)) (hb : Binds K fd [] [])
    (body : defBody st = [.Return (some (.Constant (.str z) j p1)) p2]) : FnT P w K mg base 1 x z := by
  refine ⟨f, hm, F.kp, ?_⟩
  obtain ⟨oc, od, kV, doc, pm, an, cdv, ct, osl, rfl, lk, hcd⟩ := F.ex
  intro A outer s H Q hr e0 hsp
  have KX := e0.mod.kin.keeps (fun b o e => (e0.bs b o e).1 : ∀ b o, base.get? b = some o → s.heap.get? b = some o)
  have noLim := e0.mod.nolimit.keeps (fun b o e => (e0.bs b o e).1 : ∀ b o, base.get? b = some o → s.heap.get? b = some o)
  refine codeAny_call_function hr.depth (KX f _ lk) rfl S.co S.gen rfl (PySem.W.codeRec_of KX hcd) (hb s [] KX rfl _ _ _ _ (wpAny_newFunctionEnv_cells S.kind (fun y hy => absurd hy (List.not_mem_nil (a := y))) fun env he s1 x0 => ?_))
  cases he
  refine And.intro (noLim.keeps x0.toInCall.keep) (codeAny_func ?_)
  have I0 := inv_start (P := P) (CX := CX0) (E := E0) (us := []) (vs := []) S hr.hd e0 rfl .nil x0
  show wpAny _ _ (execs (defBody st) _) _ _ s1
  rw [body]
  refine wpAny_execs_cons (wpAny_Return_some (Calls.Constant_str ?_))
  exact ⟨Nat.succ_pos _, .str z, H, I0.os, I0.bare, (I0.tok (s1.toks + 1)).base, (I0.tok (s1.toks + 1)).hok, ⟨_, rfl⟩, hsp⟩
end
section
variable {X : Cx} {j k : Nat} {x z y v : Str} {q q2 apos pos c0 c1 : Pos} {j0 j1 : Nat}
theorem pe_replT (c : FnT X.prog X.w X.K X.mg X.base k x z) (hr : Room j X.A) (hk : k ≤ j) (hz : z.length + (z.length + 1) * v.length ≤ 16777216) (hyz : (y == v) = false) (gl : Gl X x := by rfl) (hdb : (x == ("__debug__" : Str)) = false := by decide)
    (hst : starEach [.Constant (.str y) j0 c0, .Constant (.str v) j1 c1] X.env = [(false, eval (.Constant (.str y) j0 c0) X.env), (false, eval (.Constant (.str v) j1 c1) X.env)] := by rfl)
    (hbase : attributeBase (.Call (.Name x q) [] [] q2) "replace" X.env (eval (.Call (.Name x q) [] [] q2) X.env) = eval (.Call (.Name x q) [] [] q2) X.env := by rfl) (hline : (apos.endLine == pos.line) = true := by rfl) :
    PE X (.Call (.Attribute (.Call (.Name x q) [] [] q2) "replace" apos) [.Constant (.str y) j0 c0, .Constant (.str v) j1 c1] [] pos) (fun σ H Q => Q (.str (Txt.replace z y v)) H) := by
  obtain ⟨f, hm, kp, run⟩ := c.ex
  refine ⟨fun pins s σ H Q I h => PySem.Call_method2 (Q := EP X pins σ Q) hbase hst hline (wpAny_mono (Q := fun u s1 => 1 ≤ s1.toks ∧ EP X pins σ (fun w H1 => w = .str z ∧ H1 = H) u s1) ?_ ?_ (fun _ _ e => e))⟩
  · refine wpAny_Call_Name_kw (ld_glob I gl hm (PySem.W.callWith_K0 I.kIn kp (wpAny_call (codeAny_mono (run X.A X.stack s H (fun w H1 => w = .str z ∧ H1 = H) (hr.mono hk) I.env0 ⟨rfl, rfl⟩) fun res s2 hq => ?_))) hdb)
    match res, hq with
    | .error e, hq => exact hq.2.elim
    | .ok (.ret u), hq => exact ⟨hq.1, I.after hq.2⟩
    | .ok .next, hq => exact hq.2.elim
    | .ok .brk, hq => exact hq.2.elim
    | .ok .cont, hq => exact hq.2.elim
  · rintro u s1 ⟨ht, w, H1, I1, r1, rfl, rfl⟩
    obtain ⟨tx, rfl⟩ := r1
    refine ⟨"str", _, PySem.F.plainAttrs_str, PySem.F.slot_str_replace, PySem.F.type_str_replace, typeIs_str _ _ _, (fun _ e => nomatch e), Calls.callWith_builtin rfl (Calls.evalArgs_plain (Calls.spliced_cons (Calls.Constant_str (Calls.spliced_cons (Calls.Constant_str (Calls.spliced_nil ?_))))))⟩
    exact PySem.SC.replace (Nat.ne_of_gt ht) (Nat.succ_ne_zero _) (by show s1.toks ≠ s1.toks + 1; omega) hyz hz fun t' kk => ⟨V.str _, _, I1.tok kk, ⟨t', rfl⟩, h⟩
end
/-! ## options to pick from -/
def OneS (c : Nat) : V := .str ⟨#[c]⟩
inductive Opts (K : PySem.W.Frag) (H : Hp) : V → List V → Prop
  | str (z : Str) (h : z.length ≤ 1000) : Opts K H (.str z) (z.cps.toList.map OneS)
  | lst {a : Addr} {xs : List V} (h : SqL K H a xs) : Opts K H (.ref a) xs
  | tup {a : Addr} {xs : List V} (h : SqT K H a xs) : Opts K H (.ref a) xs
theorem Ext.sqL {K : PySem.W.Frag} {p a : Addr} {H H1 : Hp} {xs : List V} {kvs : List (Key × V)} (x : Ext p H H1) (hp : H p = some (.dK kvs)) (h : SqL K H a xs) : SqL K H1 a xs := by
  match h with
  | .inl (.inl e) => exact .inl (.inl (x _ _ e (ne_of e hp (by intro z; cases z))))
  | .inl (.inr ⟨o, e⟩) => exact .inl (.inr ⟨o, x _ _ e (ne_of e hp (by intro z; cases z))⟩)
  | .inr e => exact .inr e
theorem Ext.sqT {K : PySem.W.Frag} {p a : Addr} {H H1 : Hp} {xs : List V} {kvs : List (Key × V)} (x : Ext p H H1) (hp : H p = some (.dK kvs)) (h : SqT K H a xs) : SqT K H1 a xs := by
  match h with
  | .inl (.inl e) => exact .inl (.inl (x _ _ e (ne_of e hp (by intro z; cases z))))
  | .inl (.inr ⟨o, e⟩) => exact .inl (.inr ⟨o, x _ _ e (ne_of e hp (by intro z; cases z))⟩)
  | .inr e => exact .inr e
theorem Ext.is {p a : Addr} {H H1 : Hp} {xs : List V} {kvs : List (Key × V)} (x : Ext p H H1) (hp : H p = some (.dK kvs)) (h : H a = some (.lst xs)) : H1 a = some (.lst xs) := x _ _ h (ne_of h hp (by intro z; cases z))
theorem Ext.isT {p a : Addr} {H H1 : Hp} {xs : List V} {kvs : List (Key × V)} (x : Ext p H H1) (hp : H p = some (.dK kvs)) (h : H a = some (.tup xs)) : H1 a = some (.tup xs) := x _ _ h (ne_of h hp (by intro z; cases z))
theorem Pen.keepL {K : PySem.W.Frag} {p c a : Addr} {T : Nat} {H H1 : Hp} {xs : List V} (q : Pen H p c T) (x : Ext p H H1) (h : SqL K H a xs) : SqL K H1 a xs := by
  obtain ⟨t, l, hp⟩ := q.is
  exact x.sqL hp h
theorem Pen.keepT {K : PySem.W.Frag} {p c a : Addr} {T : Nat} {H H1 : Hp} {xs : List V} (q : Pen H p c T) (x : Ext p H H1) (h : SqT K H a xs) : SqT K H1 a xs := by
  obtain ⟨t, l, hp⟩ := q.is
  exact x.sqT hp h
theorem Pen.keepI {p c a : Addr} {T : Nat} {H H1 : Hp} {xs : List V} (q : Pen H p c T) (x : Ext p H H1) (h : H a = some (.lst xs)) : H1 a = some (.lst xs) := by
  obtain ⟨t, l, hp⟩ := q.is
  exact x.is hp h
def spPick (K : PySem.W.Frag) : Sp := fun vs H Q _ => ∃ (p c : Addr) (o : V) (xs : List V) (T : Nat), vs = [.ref p, o] ∧ Opts K H o xs ∧ xs ≠ [] ∧ xs.length ≤ 1000 ∧ Pen H p c T ∧ T < 1000000000 ∧
  ∀ (v : V) (H' : Hp), v ∈ xs → Pen H' p c (T + 1) → Ext p H H' → Q v H'
def letS : Str := "\n !\"#$&'()*+,-./0123456789:;<=>?@ABCDEFGHIJKLMNOPQRSTUVWXYZ[\\]^_`abcdefghijklmnopqrstuvwxyz{|}~"
def spSigns : Sp := fun vs H Q _ => vs = [] ∧ Q (.str letS) H
/-- what few gives: one to three letters -/
def Few (z : Str) : Prop := 1 ≤ z.length ∧ z.length ≤ 3 ∧ ∀ c ∈ z.cps.toList, c ∈ letS.cps.toList
def spFew : Sp := fun vs H Q _ => ∃ (p c : Addr) (T : Nat), vs = [.ref p] ∧ Pen H p c T ∧ T + 4 < 1000000000 ∧ ∀ (z : Str) (H' : Hp), Few z → Pen H' p c (T + 4) → Ext p H H' → Q (.str z) H'
/-- a word of the letters of z, a to b of them -/
def Word (z : Str) (a b : Nat) (x : Str) : Prop := a ≤ x.length ∧ x.length ≤ b ∧ ∀ c ∈ x.cps.toList, c ∈ z.cps.toList
def spWord : Sp := fun vs H Q _ => ∃ (p c : Addr) (z : Str) (a b T : Nat), vs = [.ref p, .str z, .int a, .int b] ∧ a ≤ b ∧ b ≤ 100 ∧ 1 ≤ z.length ∧ z.length ≤ 1000 ∧ Pen H p c T ∧ T + 200 < 1000000000 ∧
  ∀ (x : Str) (H' : Hp), Word z a b x → Pen H' p c (T + b + 1) → Ext p H H' → Q (.str x) H'
theorem cut63 (ns : List Int) : ∃ ms : List Int, cutV (ns.map V.int) none (some 63) = ms.map V.int ∧ ms.length ≤ 63 := by
  refine ⟨ns.take 63, ?_, List.length_take_le _ _⟩
  unfold cutV
  rw [HT.sIx_none, show (63 : Int) = ((63 : Nat) : Int) from rfl, HT.sIx_nat, List.drop_zero, Nat.sub_zero, List.map_take, Nat.min_comm, ← List.take_take]
  exact List.take_of_length_le (by rw [List.length_take]; omega)
theorem one_len (z : Str) : (z.cps.toList.map OneS).length = z.length := by
  rw [List.length_map]
  exact Array.length_toList
theorem join_nil : ∀ ls : List (List Nat), TL.joinL [] ls = ls.flatten
  | [] => rfl
  | [p] => by simp [TL.joinL]
  | p :: q :: r => by
    show p ++ ([] ++ TL.joinL [] (q :: r)) = _
    rw [List.nil_append, join_nil (q :: r)]
    rfl
theorem join_ones (cs : List Nat) : Txt.join "" (cs.map fun c => (⟨#[c]⟩ : Str)) = ⟨cs.toArray⟩ := by
  rw [TL.join_eq]
  refine TL.ext_tl ?_
  rw [TL.tl_join]
  refine (join_nil _).trans ?_
  show (List.map TL.tl (cs.map fun c => (⟨#[c]⟩ : Str))).flatten = cs
  rw [List.map_map]
  induction cs with
  | nil => rfl
  | cons c r ih => exact congrArg (c :: ·) ih
theorem ones_len (cs : List Nat) : ((cs.map fun c => (⟨#[c]⟩ : Str)).map (·.length)).sum = cs.length := by
  induction cs with
  | nil => rfl
  | cons c r ih =>
    rw [List.map_cons, List.map_cons, List.sum_cons, ih, List.length_cons]
    show 1 + r.length = r.length + 1
    omega
theorem ones_map (cs : List Nat) : (cs.map fun c => (⟨#[c]⟩ : Str)).map V.str = cs.map OneS := List.map_map
theorem noq_list : (Txt.replace letS "q" "").cps.toList = letS.cps.toList.filter (· != 113) := replace_strikes letS 113
theorem noq_len : (Txt.replace letS "q" "").length = 94 := by
  rw [show (Txt.replace letS "q" "").length = (Txt.replace letS "q" "").cps.toList.length from Array.length_toList.symm, noq_list]
  decide +kernel
theorem noq_in {c : Nat} (h : c ∈ (Txt.replace letS "q" "").cps.toList) : c ∈ letS.cps.toList := by
  rw [noq_list] at h
  exact (List.mem_filter.mp h).1
theorem ones_of {z : Str} {v : V} (h : v ∈ z.cps.toList.map OneS) : ∃ c, v = OneS c ∧ c ∈ z.cps.toList := by
  obtain ⟨c, hc, e⟩ := List.mem_map.mp h
  exact ⟨c, e.symm, hc⟩
theorem opts_ne {z : Str} (h : 1 ≤ z.length) : z.cps.toList.map OneS ≠ [] := fun e => by
  have q := one_len z
  rw [e] at q
  simp at q
  omega
theorem opts_le {z : Str} {n : Nat} (h : z.length ≤ n) : (z.cps.toList.map OneS).length ≤ n := by
  rw [one_len]
  exact h
/-- the fixed choices of few are few -/
theorem few_of {z : Str} (h : (decide (1 ≤ z.length) && decide (z.length ≤ 3) && z.cps.toList.all fun c => decide (c ∈ letS.cps.toList)) = true) : Few z := by
  simp only [Bool.and_eq_true, decide_eq_true_eq, List.all_eq_true] at h
  exact ⟨h.1.1, h.1.2, h.2⟩
theorem few_ones {cs : List Nat} (h1 : 1 ≤ cs.length) (h3 : cs.length ≤ 3) (h : ∀ c ∈ cs, c ∈ letS.cps.toList) : Few ⟨cs.toArray⟩ := ⟨by simpa [Str.length] using h1, by simpa [Str.length] using h3, by simpa using h⟩
/-! ## rules whose written part is named (within a comprehension's block) -/
section
variable {X : Cx} {K : PySem.W.Frag}
theorem ix_seqK (h : X.K = K) : IxR X (rIx K) := h ▸ ix_seq
theorem ix_listK (h : X.K = K) : IxR X (rIxL K) := h ▸ ix_list
theorem op_notIn_seqK (h : X.K = K) : OpR X (compareOp .NotIn) (rIn K true) := h ▸ op_notIn_seq
theorem sl_listK (h : X.K = K) : SlR X (rSlL K) := h ▸ sl_list
theorem call_lenK (h : X.K = K) : CallR X (.builtin "len") (fun xs H Q => ∃ x n, xs = [x] ∧ LenV K x H n ∧ Q (.int n) H) := h ▸ call_len
end
theorem cutV_mem {xs : List V} {lo hi : Option Int} {v : V} (h : v ∈ cutV xs lo hi) : v ∈ xs := List.mem_of_mem_drop (List.mem_of_mem_take h)
theorem cutV_all {xs : List V} {lo hi : Option Int} {f : V → Bool} (h : xs.all f = true) : (cutV xs lo hi).all f = true := List.all_eq_true.mpr fun v hv => List.all_eq_true.mp h v (cutV_mem hv)
theorem ones_flat (cs : List Nat) : (cs.map OneS).all flatV = true := List.all_eq_true.mpr fun v hv => by
  obtain ⟨c, _, rfl⟩ := List.mem_map.mp hv
  rfl
theorem cutV_zero (xs : List V) : cutV xs none (some 0) = [] := by
  unfold cutV
  rw [HT.sIx_none, show (0 : Int) = ((0 : Nat) : Int) from rfl, HT.sIx_nat]
  simp
theorem one_mem {cs : List Nat} {v : V} (h : v ∈ cs.map OneS) : ∃ c, v = OneS c ∧ c ∈ cs := by
  obtain ⟨c, hc, e⟩ := List.mem_map.mp h
  exact ⟨c, e.symm, hc⟩
end Vk
set_option Elab.async false
set_option maxRecDepth 100000
set_option linter.all false
namespace Vk
open PySem PySem.Spec PyProof.Rows L2
/-! ## how long what is shown may be -/
theorem listText_le : ∀ ts : List Str, (listText ts).length ≤ piled ts + 2
  | [] => by decide +kernel
  | t :: r => by
    have h := textFrom_length_pos r 1 (("[" : Str) ++ (if (0 : Nat) > 0 then ", " else "" : String) ++ t) (Nat.succ_pos 0)
    have e : (listText (t :: r)).length = (textFrom 1 (("[" : Str) ++ (if (0 : Nat) > 0 then ", " else "" : String) ++ t) r).length + 1 := strLen_append _ _
    rw [e, h, strLen_append, strLen_append, piled_cons]
    show 1 + 0 + t.length + piled r + 1 ≤ _
    omega
theorem piled_le {ts : List Str} {n : Nat} (h : ∀ t ∈ ts, t.length ≤ n) : piled ts ≤ ts.length * (n + 2) := by
  induction ts with
  | nil => exact Nat.zero_le _
  | cons t r ih =>
    have h1 := h t List.mem_cons_self
    have h2 := ih fun u hu => h u (List.mem_cons_of_mem _ hu)
    rw [piled_cons, List.length_cons, Nat.succ_mul]
    omega
theorem shownAll_map : ∀ ds : List PyData, PyData.shownAll ds = ds.map PyData.shown
  | [] => rfl
  | d :: r => congrArg (d.shown :: ·) (shownAll_map r)
theorem showableAll_iff : ∀ {ds : List PyData}, (∀ d ∈ ds, d.showable = true) → PyData.showableAll ds = true
  | [], _ => rfl
  | d :: r, h => by
    show (d.showable && PyData.showableAll r) = true
    rw [h d List.mem_cons_self, showableAll_iff fun e he => h e (List.mem_cons_of_mem _ he)]
    rfl
theorem hasDictAll_of : ∀ {ds : List PyData}, (∀ d ∈ ds, d.hasDict = false) → PyData.hasDictAll ds = false
  | [], _ => rfl
  | d :: r, h => by
    show (d.hasDict || PyData.hasDictAll r) = false
    rw [h d List.mem_cons_self, hasDictAll_of fun e he => h e (List.mem_cons_of_mem _ he)]
    rfl
theorem depthAll_le : ∀ {ds : List PyData} {n : Nat}, (∀ d ∈ ds, d.depth ≤ n) → PyData.depthAll ds ≤ n
  | [], _, _ => Nat.zero_le _
  | d :: r, n, h => Nat.max_le.mpr ⟨h d List.mem_cons_self, depthAll_le fun e he => h e (List.mem_cons_of_mem _ he)⟩
/-- d may be shown, in at most n signs, at most k deep -/
structure Showy (d : PyData) (k n : Nat) : Prop where
  sh : d.showable = true
  nd : d.hasDict = false
  dp : d.depth ≤ k
  ln : d.shown.length ≤ n
theorem Showy.list {ds : List PyData} {k n : Nat} (h : ∀ d ∈ ds, Showy d k n) : Showy (.list ds) (k + 1) (ds.length * (n + 2) + 2) := by
  refine ⟨showableAll_iff fun d hd => (h d hd).sh, hasDictAll_of fun d hd => (h d hd).nd, Nat.succ_le_succ (depthAll_le fun d hd => (h d hd).dp), ?_⟩
  show (listText (PyData.shownAll ds)).length ≤ _
  rw [shownAll_map]
  have h1 := listText_le (ds.map PyData.shown)
  have h2 := piled_le (ts := ds.map PyData.shown) (n := n) fun t ht => by
    obtain ⟨d, hd, rfl⟩ := List.mem_map.mp ht
    exact (h d hd).ln
  rw [List.length_map] at h2
  omega
theorem Showy.tuple {ds : List PyData} {k n : Nat} (h : ∀ d ∈ ds, Showy d k n) : Showy (.tuple ds) (k + 1) (ds.length * (n + 2) + 2) := by
  refine ⟨showableAll_iff fun d hd => (h d hd).sh, hasDictAll_of fun d hd => (h d hd).nd, Nat.succ_le_succ (depthAll_le fun d hd => (h d hd).dp), ?_⟩
  show (tupleText (PyData.shownAll ds)).length ≤ _
  rw [shownAll_map]
  have h1 := fmt_text (ds.map PyData.shown)
  have h2 := piled_le (ts := ds.map PyData.shown) (n := n) fun t ht => by
    obtain ⟨d, hd, rfl⟩ := List.mem_map.mp ht
    exact (h d hd).ln
  rw [List.length_map] at h2
  omega
theorem Showy.int {i : Int} (h : i.natAbs < 10 ^ 100) : Showy (.int i) 0 101 := by
  have hl : i.natAbs.log2 < 1920 := by
    by_cases h0 : i.natAbs = 0
    · rw [h0]; decide
    · exact (Nat.log2_lt h0).mpr (Nat.lt_of_lt_of_le h (by decide +kernel))
  refine ⟨decide_eq_true hl, rfl, Nat.le_refl _, ?_⟩
  show (Str.ofString (toString i)).length ≤ 101
  rw [PySem.ofString_length]
  exact int_text_length_le10 (k := 100) (by decide) h
theorem Showy.mono {d : PyData} {k k' n n' : Nat} (h : Showy d k n) (h1 : k ≤ k') (h2 : n ≤ n') : Showy d k' n' := ⟨h.sh, h.nd, Nat.le_trans h.dp h1, Nat.le_trans h.ln h2⟩
/-! ## places of words -/
open StrLaws in
theorem find_from (x y : Str) (lo : Nat) (hlo : lo ≤ x.length + 1) :
    ((match Builtin.Str.occurrences x y lo x.length 1 with | i :: _ => (i : Int) | [] => -1) = -1 ∧ ∀ i, lo ≤ i → ¬ At x y x.length i) ∨
    ∃ i : Nat, (match Builtin.Str.occurrences x y lo x.length 1 with | i :: _ => (i : Int) | [] => -1) = (i : Int) ∧ lo ≤ i ∧ At x y x.length i ∧ ∀ k, lo ≤ k → k < i → ¬ At x y x.length k := by
  rw [occ_eq]
  have inr : ∀ i, lo ≤ i → i ≤ x.length → i ∈ List.range' lo (x.length + 1 - lo) := fun i h1 h2 => by
    simp only [List.mem_range'_1]
    omega
  rcases occ_first x y x.length 1 (Nat.le_refl _) (List.range' lo (x.length + 1 - lo)) lo (fun i hi => (List.mem_range'_1.mp hi).1) with ⟨h0, hn⟩ | ⟨pre, a, post, e, h0, ha, hn⟩
  · refine .inl ⟨by rw [h0], fun i hi hA => hn i (inr i hi (Nat.le_trans (Nat.le_add_right _ _) hA.1)) hA⟩
  · refine .inr ⟨a, ?_, ?_, ha, fun k h1 h2 => ?_⟩
    · generalize (forIn (List.range' lo (x.length + 1 - lo)) ((#[] : Array Nat), lo) (occBody x y x.length 1)).run.fst = arr at h0
      have h1 : arr.toList[0]? = some a := by simpa using h0
      match hL : arr.toList with
      | [] => rw [hL] at h1; cases h1
      | b :: t => rw [hL] at h1; simp at h1; rw [h1]
    · exact (List.mem_range'_1.mp (by rw [e]; exact List.mem_append_right _ List.mem_cons_self : a ∈ List.range' lo (x.length + 1 - lo))).1
    · refine hn k ?_
      have hk : k ∈ pre ++ a :: post := by
        rw [← e]
        refine inr k h1 ?_
        have q := ha.1
        omega
      have pw : (pre ++ a :: post).Pairwise (· < ·) := by rw [← e]; exact List.pairwise_lt_range'
      rcases List.mem_append.mp hk with hk | hk
      · exact hk
      · rcases List.mem_cons.mp hk with rfl | hk
        · exact absurd h2 (Nat.lt_irrefl _)
        · have q := (List.pairwise_cons.mp (List.pairwise_append.mp pw).2.1).1 k hk
          omega
def atB (x w : Str) (i : Nat) : Bool := decide (i + w.length ≤ x.length) && Builtin.Str.subAt x w i
theorem atB_iff (x w : Str) (i : Nat) : atB x w i = true ↔ StrLaws.At x w x.length i := by
  unfold atB StrLaws.At
  simp
/-- all places of a word in a text -/
def plc (x w : Str) : List Nat := (List.range (x.length + 1)).filter (atB x w)
theorem filter_more {P : Nat → Bool} {lo m : Nat} (h : lo ≤ m) (hn : ∀ i, lo ≤ i → i < m → P i = false) : (List.range m).filter P = (List.range lo).filter P := by
  induction m with
  | zero => rw [Nat.le_zero.mp h]
  | succ m ih =>
    by_cases e : lo = m + 1
    · rw [e]
    · rw [List.range_succ, List.filter_append, ih (by omega) fun i h1 h2 => hn i h1 (by omega)]
      have q := hn m (by omega) (Nat.lt_succ_self _)
      simp [q]
theorem filter_snoc {P : Nat → Bool} {m : Nat} (h : P m = true) : (List.range (m + 1)).filter P = (List.range m).filter P ++ [m] := by
  rw [List.range_succ, List.filter_append]
  simp [h]
def plcI (x w : Str) : List Int := (plc x w).map Int.ofNat
def spPlaces (K : PySem.W.Frag) : Sp := fun vs H Q _ => ∃ (x w : Str), vs = [.str x, .str w] ∧ x.length ≤ 10000 ∧ w.length ≤ 10000 ∧
  ∀ (a : Addr) (H' : Hp), H a = none → H' a = some (.lst ((plcI x w).map V.int)) → Same H H' → Q (.ref a) H'
/-- the slice of a text at a place -/
theorem cut_at (x w : Str) (k : Nat) (h : k + w.length ≤ x.length) : decide (V.str (cutS x (some (k : Int)) (some ((k : Int) + (w.length : Int)))) = V.str w) = atB x w k := by
  have e : cutS x (some (k : Int)) (some ((k : Int) + (w.length : Int))) = ⟨((x.cps.toList.drop k).take w.length).toArray⟩ := by
    unfold cutS
    rw [show (k : Int) + (w.length : Int) = ((k + w.length : Nat) : Int) by omega, HT.sIx_nat, HT.sIx_nat, Nat.min_eq_left h, Nat.min_eq_left (show k ≤ x.length by omega), show k + w.length - k = w.length by omega]
  rw [e]
  unfold atB
  rw [StrLaws.subAt_eq, decide_eq_true h, Bool.true_and, Bool.eq_iff_iff, decide_eq_true_eq, beq_iff_eq]
  constructor
  · intro q
    have q2 := V.str.inj q
    exact congrArg (fun z : Str => z.cps.toList) q2
  · intro q
    rw [q]
end Vk
set_option Elab.async false
set_option maxRecDepth 100000
set_option linter.all false
namespace Vk
open PySem PySem.Spec PyProof.Rows L2
/-! ## a text some times -/
section
variable {X : Cx}
end
/-! ## a def called by keywords alone -/
structure CalK (P : Program) (w : World) (K : PySem.W.Frag) (mg : Str → Option Value) (base : Heap) (CX : CXT) (k : Nat) (x : Str) (sp : Sp) (ks : List Str) (g : {α : Type} → List α → List α) : Prop where
  ex : ∃ (f : Addr) (fd : FuncData) (ps : List Str), FnG P w K mg base CX k f fd ps sp ∧ mg x = some (.ref f) ∧ PySem.W.keepIn K (.ref f) = true ∧
    (∀ (s : Shared) (ws : List Value), K.In s.heap → ws.length = ks.length → BindsTo s fd ⟨[], ks.zip ws⟩ (ps.zip (g ws))) ∧ ∀ (vs : List V) (ws : List Value), Vals vs ws → vs.length = ks.length → Vals (g vs) (g ws)
def tCallW (n : Nat) (sp : Sp) (g : {α : Type} → List α → List α) (E : XK) (t : TA) : TE := fun σ H Q => t σ H fun vs H1 => vs.length = n ∧ sp (g vs) H1 Q E
section
variable {X : Cx} {CX : CXT} {j k : Nat} {sp : Sp} {E : XK} {x : Str} {p pos : Pos} {kws : List Keyword} {tk : TA} {ks : List Str} {g : {α : Type} → List α → List α}
theorem pe_kw (c : CalK X.prog X.w X.K X.mg X.base CX k x sp ks g) (hg : X.A.guards = some []) (hr : Room j X.A) (hk : k ≤ j) (hx : Passes CX X E) (hkw : PK X kws tk) (gl : Gl X x := by rfl)
    (hall : (backToKw pos (keywordEach kws X.env)).all (·.1.isSome) = true := by rfl) (hks : (backToKw pos (keywordEach kws X.env)).filterMap (·.1) = ks := by rfl) (hdb : (x == ("__debug__" : Str)) = false := by decide)
    (hpl : ((backTo pos (starEach [] X.env)).any (·.1) || (backToKw pos (keywordEach kws X.env)).any (·.1.isNone)) = false := by rfl) :
    PE X (.Call (.Name x p) [] kws pos) (tCallW ks.length sp g E tk) := by
  obtain ⟨f, fd, ps, F, hm, kp, hb, hv⟩ := c.ex
  refine ⟨fun pins s σ H Q I h => wpAny_Call_Name_kw (ld_glob I gl hm (PySem.W.callWith_KW0 (h₀ := X.base) I.ok.mod.kin kp hall (thn (hkw.run pos pins s σ H _ I h) fun ws s2 hh => ?_) hpl) hdb)⟩
  obtain ⟨vs, H2, I2, rz, l2, q2⟩ := hh
  refine ⟨I2.kIn, ?_⟩
  rw [hks]
  refine wpAny_call (codeAny_mono (F.run X.A X.stack s2 H2 ⟨[], ks.zip ws⟩ (g ws) (g vs) Q E hg (hr.mono hk) I2.env0 (hb s2 ws I2.kIn (rz.length.symm.trans l2)) (hv vs ws rz l2) q2) (fun res s3 hq => ?_))
  match res, hq with
  | .error e, hq => exact hx pins σ H2 s2 e s3 I2 hq
  | .ok (.ret u), hq => exact I2.after hq
  | .ok .next, hq => exact hq.elim
  | .ok .brk, hq => exact hq.elim
  | .ok .cont, hq => exact hq.elim
end
theorem vals_rev : ∀ {vs : List V} {ws : List Value}, Vals vs ws → Vals vs.reverse ws.reverse
  | _, _, .nil => .nil
  | _, _, .cons r t => by
    rw [List.reverse_cons, List.reverse_cons]
    exact (vals_rev t).append (.cons r .nil)
/-! ## a def of the text as the head leaves it -/
structure At (K : PySem.W.Frag) (x : Str) (st : Stmt) (f : Addr) (fd : FuncData) : Prop where
  ns : PySem.W.nsIn K mainGlobals x = some (some (.ref f))
  fn : Fun K x x st f fd
theorem at_mk {K : PySem.W.Frag} {x : Str} {st : Stmt} {f : Addr} {oc : Value} {od an : Option Addr} {sl : Array (Option Value)} {kV doc pm cd ct : Value} (a : PySem.W.nsIn K mainGlobals x = some (some (.ref f)))
    (l : K.lookup f = some ⟨oc, od, .func (PySem.W.fnOf x x (defArgs st) (defBody st) (defScope st) .none kV doc pm an cd ct), sl⟩) (c : PySem.W.codeIn K cd x = true) (k : PySem.W.keepIn K (.ref f) = true) :
    At K x st f (PySem.W.fnOf x x (defArgs st) (defBody st) (defScope st) .none kV doc pm an cd ct) := ⟨a, fun_mk l c k⟩
section
variable {K : PySem.W.Frag} {x y qual : Str} {st : Stmt} {f : Addr} {fd : FuncData} {ps ks : List Str} {g : List Value → List Value}
theorem _root_.L2.Fun.kwb (F : Fun K x qual st f fd)
    (h : ∀ (kV doc pm : Value) (an : Option Addr) (cdv ct : Value) (ws : List Value), ws.length = ks.length → bindArgs (PySem.W.fnOf x qual (defArgs st) (defBody st) (defScope st) .none kV doc pm an cdv ct) ⟨[], ks.zip ws⟩ = pure (ps.zip (g ws))) :
    ∀ (s : Shared) (ws : List Value), K.In s.heap → ws.length = ks.length → BindsTo s fd ⟨[], ks.zip ws⟩ (ps.zip (g ws)) := by
  obtain ⟨oc, od, kV, doc, pm, an, cdv, ct, osl, rfl, lk, hcd⟩ := F.ex
  exact fun s ws _ hl => .of_eq (h kV doc pm an cdv ct ws hl)
theorem _root_.L2.Fun.binds1 (F : Fun K x qual st f fd)
    (h : ∀ {kV doc pm : Value} {an : Option Addr} {cdv ct : Value} {v : Value}, bindArgs (PySem.W.fnOf x qual (defArgs st) (defBody st) (defScope st) .none kV doc pm an cdv ct) ⟨[v], []⟩ = pure [(y, v)]) :
    ∀ (s : Shared) (v : Value), BindsTo s fd ⟨[v], []⟩ [(y, v)] := by
  obtain ⟨oc, od, kV, doc, pm, an, cdv, ct, osl, rfl, lk, hcd⟩ := F.ex
  exact fun s v => .of_eq h
end
end Vk
set_option Elab.async false
set_option maxRecDepth 100000
set_option maxHeartbeats 4000000
set_option linter.all false
namespace PySem
namespace VkX
open PySem.W PySem.Calls PyProof.Rows Builtin Builtin.ObjectAttr PySem.HandSPX
/-! ## own exception classes straight below one of the four -/
structure ExB (B newId initId : String) (tl : List Value) : Prop where
  F : ExcBaseFacts B newId initId tl
  pass : ∀ self : Value, refuseLoop self "__setattr__" tl = pure ()
  obj : tl.contains (.type "object") = true
  refs : tl.all (fun v => match v with | .type _ => true | _ => false) = true
section
variable {M : Model} {A : Around} {E : Value → Shared → Prop} {h : Heap} {g : Array GenState} {d : Drawn} {t : Nat} {os : OsState}
variable {nm q : Str} {C N : Addr} {bs bm : List Value} {hdct : Bool} {sn : List Str} {sub : List Value} {ab : Bool} {col : Option Bool} {dd : Option Addr} {k0 k1 k2 k3 k5 : Option Value} {B newId initId : String}
end
section
variable {prog : Program} {w : World} {A : Around} {E : Value → Shared → Prop} {R : Result → Shared → Prop} {h : Heap} {g : Array GenState} {d : Drawn} {t : Nat} {os : OsState}
variable {nm q : Str} {C N : Addr} {bs bm : List Value} {hdct : Bool} {sn : List Str} {sub : List Value} {ab : Bool} {col : Option Bool} {dd : Option Addr} {k0 k1 k2 k3 k5 : Option Value} {B newId initId : String}
end
end VkX
end PySem
set_option Elab.async false
set_option maxRecDepth 100000
set_option maxHeartbeats 4000000
set_option linter.all false
namespace PySem
namespace VkX
open PySem.W PySem.Calls PyProof.Rows Builtin Builtin.ObjectAttr PySem.HandSPX
section
variable {prog : Program} {w : World} {A : Around} {E : Value → Shared → Prop} {R : Result → Shared → Prop} {hp : Heap} {g : Array GenState} {d : Drawn} {t : Nat} {os : OsState}
end
end VkX
end PySem
namespace Vk
open L2 PySem PySem.Spec PyProof.Rows PySem.VkX
/-- what the written part says of an own exception class over one of the four -/
structure OexK (K : PySem.W.Frag) (C : Addr) : Prop where
  cls : ∃ B newId initId tl nm q N bs sn sub ab col dd k0 k1 k2 k3 k5, ExB B newId initId tl ∧ K.lookup C = some (excClassObj nm q C N bs tl true sn sub ab col dd k0 k1 k2 k3 k5 newId)
  sa : PySem.W.findIn K (.ref C) "__setattr__" = some (some (.builtin "object.__setattr__"))
  kC : PySem.W.keepIn K (.ref C) = true
  xf : XfC K C
  ic : ExcC K C
section
variable {X : Cx} {pins : List (Addr × Obj)} {σ : L2.St} {H : Hp} {s : Shared} {a C dx : Addr} {f : Str} {y : V} {u : Value} {fs : List (Str × V)} {Q : Unit → Shared → Prop} {E : Value → Shared → Prop} {A : Around}
end
section
variable {X : Cx} {o e : Expr} {es : List Expr} {to te : TE} {ta : TA} {f : Str} {p p' p1 p2 pos : Pos}
end
end Vk
set_option Elab.async false
set_option maxRecDepth 100000
set_option maxHeartbeats 4000000
set_option linter.all false
namespace Vk
open L2 PySem PySem.Spec PyProof.Rows PySem.VkX
/-! ## making one -/
/-- __init__(self, f1, ..): the fields stored in their order -/
def spIni (C : Addr) (fsn : List Str) : Sp := fun vs H Q E => ∃ a ws, vs = .ref a :: ws ∧ ws.length = fsn.length ∧ H a = some (exo a C none) ∧
  (fsn = [] → Q .non H) ∧ (fsn ≠ [] → ∀ d, H d = none → d ≠ a → Q .non (upd (upd H d (exd d (fsn.zip ws).reverse)) a (exo a C (some d))))
structure ClsI (P : Program) (w : World) (K : PySem.W.Frag) (mg : Str → Option Value) (base : Heap) (k : Nat) (x : Str) (C : Addr) (fsn : List Str) : Prop where
  T : OexK K C
  hm : mg x = some (.ref C)
  no : ∀ f ∈ fsn, PySem.W.findIn K (.ref C) f = some none
  ex : ∃ (fI : Addr) (fd : FuncData), PySem.W.findIn K (.ref C) "__init__" = some (some (.ref fI)) ∧ PySem.W.typeIn K (.ref fI) = some (.type "function") ∧ FnG P w K mg base CX0 k fI fd (("self" : Str) :: fsn) (spIni C fsn) ∧ Binds K fd (("self" : Str) :: fsn) [] ∧
    (∀ (s : Shared) (v : Value) (ws : List Value), K.In s.heap → ws.length = fsn.length → BindsTo s fd ⟨[v], fsn.reverse.zip ws⟩ ((("self" : Str) :: fsn).zip (v :: ws.reverse)))
/-- the exception that was made of H: at a, and its dict -/
def Made (C : Addr) (fsn : List Str) (vs : List V) (H : Hp) (Q : VK) : Prop := ∀ a, H a = none → (fsn = [] → Q (.ref a) (upd H a (exo a C none))) ∧
  (fsn ≠ [] → ∀ d, H d = none → d ≠ a → Q (.ref a) (upd (upd H d (exd d (fsn.zip vs).reverse)) a (exo a C (some d))))
section
variable {X : Cx} {j k : Nat} {x : Str} {C : Addr} {fsn : List Str} {p pos : Pos} {e : Expr} {es : List Expr} {t : TA}
theorem few_len {n : Nat} (h : n ≤ 1000) : n ≤ sizeLine := Nat.le_trans h (by rw [sizeLine_eq]; decide)
end
end Vk
set_option Elab.async false
set_option maxRecDepth 100000
set_option maxHeartbeats 4000000
set_option linter.all false
namespace Vk
open L2 PySem PySem.Spec PyProof.Rows PySem.VkX
theorem no1 {P : Str → Prop} {a : Str} (h : P a) : ∀ f ∈ ([a] : List Str), P f := fun f z => by
  rw [List.mem_singleton] at z
  exact z ▸ h
theorem no2 {P : Str → Prop} {a b : Str} (h : P a) (h2 : P b) : ∀ f ∈ ([a, b] : List Str), P f := fun f z => by
  rcases List.mem_cons.mp z with z | z
  · exact z ▸ h
  · rw [List.mem_singleton] at z
    exact z ▸ h2
/-- the class at C has the name x and these classes behind it -/
def ClsN (K : PySem.W.Frag) (C : Addr) (x : Str) (tl : List Value) : Prop := ∃ newId q N bs sn sub ab col dd k0 k1 k2 k3 k5, K.lookup C = some (excClassObj x q C N bs tl true sn sub ab col dd k0 k1 k2 k3 k5 newId)
structure ExcTxt (K : PySem.W.Frag) (x qual : Str) (st : Stmt) (C fI : Addr) (fd : FuncData) (fsn : List Str) (tl : List Value) : Prop where
  cn : ClsN K C x tl
  ns : PySem.W.nsIn K mainGlobals x = some (some (.ref C))
  T : OexK K C
  iC : PySem.W.findIn K (.ref C) "__init__" = some (some (.ref fI))
  tI : PySem.W.typeIn K (.ref fI) = some (.type "function")
  no : ∀ f ∈ fsn, PySem.W.findIn K (.ref C) f = some none
  fn : Fun K "__init__" qual st fI fd
section
variable {P : Program} {w : World} {K : PySem.W.Frag} {mg : Str → Option Value} {base h : Heap} {x qual f f2 : Str} {st : Stmt} {C fI : Addr} {fd : FuncData} {p1 p2 p3 p4 q1 q2 q3 q4 : Pos}
end
end Vk
namespace Vk
open L2 PySem PySem.Spec PyProof.Rows PySem.VkX
end Vk
set_option Elab.async false
set_option maxRecDepth 100000
set_option maxHeartbeats 4000000
set_option linter.all false
namespace Vk
open L2 PySem PySem.Spec PyProof.Rows PySem.VkX
/-! ## values that are shown, dicts among them -/
inductive Atm : V → PyData → Prop
  | non : Atm .non .none
  | bl (b : Bool) : Atm (.bl b) (.bool b)
  | int (i : Int) : Atm (.int i) (.int i)
  | str (x : Str) : Atm (.str x) (.str x)
def kvS (ps : List (Str × Str)) : List (Key × V) := ps.map fun p => (Sum.inr p.1, V.str p.2)
def kvD (ps : List (Str × Str)) : List (PyData × PyData) := ps.map fun p => (.str p.1, .str p.2)
/-- one level deep -/
inductive Th (H : Hp) : V → PyData → Prop
  | atm {v : V} {d : PyData} : Atm v d → Th H v d
  | lst {a : Addr} {xs : List V} {ds : List PyData} : H a = some (.lst xs) → a ≠ sysModules → Paired Atm xs ds → Th H (.ref a) (.list ds)
  | tup {a : Addr} {xs : List V} {ds : List PyData} : H a = some (.tup xs) → Paired Atm xs ds → Th H (.ref a) (.tuple ds)
  | dct {a : Addr} {ps : List (Str × Str)} : H a = some (.dK (kvS ps)) → Th H (.ref a) (.dict (kvD ps))
theorem Th.keep {H H' : Hp} {v : V} {d : PyData} (h : Th H v d) (k : ∀ a o, H a = some o → H' a = some o) : Th H' v d := by
  cases h with
  | atm h => exact .atm h
  | lst e n h => exact .lst (k _ _ e) n h
  | tup e h => exact .tup (k _ _ e) h
  | dct e => exact .dct (k _ _ e)
section
variable {X : Cx} {pins : List (Addr × Obj)} {σ : L2.St} {H : Hp} {s : Shared}
theorem Atm.reads {h : Heap} {v : V} {u : Value} {d : PyData} (a : Atm v d) (r : RelV v u) : Reads h u d [] ∧ d.hasDict = false := by
  cases a with
  | non => cases r; exact ⟨Reads.none, by simp only [PyData.hasDict]⟩
  | bl b => cases r; exact ⟨Reads.bool b, by simp only [PyData.hasDict]⟩
  | int i => obtain ⟨t, rfl⟩ := r; exact ⟨Reads.int i t, by simp only [PyData.hasDict]⟩
  | str x => obtain ⟨t, rfl⟩ := r; exact ⟨Reads.str x t, by simp only [PyData.hasDict]⟩
theorem atms_reads {h : Heap} : ∀ {vs : List V} {ds : List PyData} {us : List Value}, Paired Atm vs ds → Vals vs us → ReadsAll h us ds [] ∧ PyData.hasDictAll ds = false
  | _, _, _, .nil, .nil => ⟨ReadsAll.nil, by simp only [PyData.hasDictAll]⟩
  | _, _, _, .cons a t, .cons r rs => by
    obtain ⟨h1, n1⟩ := a.reads (h := h) r
    obtain ⟨h2, n2⟩ := atms_reads (h := h) t rs
    exact ⟨ReadsAll.cons h1 h2, by simp only [PyData.hasDictAll, n1, n2, Bool.or_false]⟩
theorem strs_read {P : Program} {w : World} {h : Heap} : ∀ {ps : List (Str × Str)} {vs : List (Key × Value)} {es : List DictEntry}, KV (kvS ps) vs → Pairs (mixKind P w) es vs →
    ReadsAll h (es.map (·.key)) ((kvD ps).map (·.1)) [] ∧ ReadsAll h (es.map (·.val)) ((kvD ps).map (·.2)) []
  | [], _, _, .nil, .nil => ⟨ReadsAll.nil, ReadsAll.nil⟩
  | p :: ps, _, _, .cons a t, .cons k v r => by
    obtain ⟨h1, h2⟩ := strs_read (P := P) (w := w) (h := h) (ps := ps) t r
    obtain ⟨e1, e2⟩ := a
    rw [mixKind_is, ← e1] at k
    obtain ⟨y, ey⟩ := (show ∃ y, _ = Value.str p.2 y from e2)
    rcases keyIs_shape k with ⟨i, t, z, _⟩ | ⟨x, t, z, z2⟩
    · cases z
    · cases z
      refine ⟨?_, ?_⟩
      · have q := ReadsAll.cons (Reads.str (h := h) p.1 t) h1
        rw [← z2] at q
        exact q
      · have q := ReadsAll.cons (Reads.str (h := h) p.2 y) h2
        rw [← ey, ← v] at q
        exact q
theorem Th.reads (I : Inv X pins σ H s) {v : V} {u : Value} {d : PyData} (h : Th H v d) (r : RelV v u) : ∃ as, Reads s.heap u d as ∧ sysModules ∉ as := by
  cases h with
  | atm a =>
    obtain ⟨h1, n⟩ := a.reads (h := s.heap) r
    exact ⟨_, h1, List.not_mem_nil⟩
  | lst e ne a =>
    cases r
    obtain ⟨its, rv, ⟨o, n, ho, hc, _, hd⟩, _⟩ := I.list (SqL.of e)
    obtain ⟨h1, n1⟩ := atms_reads (h := s.heap) a rv
    exact ⟨_, Reads.list ho hc hd h1, fun z => by simp at z; exact ne z.symm⟩
  | tup e a =>
    cases r
    obtain ⟨its, rv, ⟨o, ho, hc, n, hd⟩, _⟩ := I.tuple (SqT.of e)
    obtain ⟨h1, n1⟩ := atms_reads (h := s.heap) a rv
    exact ⟨_, Reads.tuple ho hc hd h1, List.not_mem_nil⟩
  | @dct a ps e =>
    cases r
    obtain ⟨_, ne, vs, kv, o, es, ep, ho, ex, hd, _, pr, _⟩ := (show ObjOk X.prog X.w H s.heap a (.dK (kvS ps)) from I.hok a _ e)
    obtain ⟨h1, h2⟩ := strs_read (h := s.heap) kv pr
    refine ⟨_, Reads.dict ho ex.1 hd h1 h2, fun hm => ?_⟩
    have z : sysModules = a := by simpa using hm
    rw [← z] at ne
    exact absurd ne (by decide)
/-- what is handed to repr -/
def Shw (H : Hp) (x : V) (d : PyData) : Prop := Th H x d ∨ ∃ q y e, x = .ref q ∧ H q = some (.lst [y, y]) ∧ q ≠ sysModules ∧ Th H y e ∧ d = .list [e, e]
theorem Shw.reads (I : Inv X pins σ H s) {v : V} {u : Value} {d : PyData} (h : Shw H v d) (r : RelV v u) : ∃ as, Reads s.heap u d as ∧ (d.hasDict = true → sysModules ∉ as) := by
  rcases h with h | ⟨q, y, d, rfl, e, ne, t, rfl⟩
  · obtain ⟨as, h1, n1⟩ := h.reads I r
    exact ⟨as, h1, fun _ => n1⟩
  · cases r
    obtain ⟨its, rv, ⟨o, n, ho, hc, _, hd⟩, _⟩ := I.list (SqL.of e)
    cases rv with
    | cons r1 rv =>
      cases rv with
      | cons r2 rv =>
        cases rv
        obtain ⟨as, h1, n1⟩ := t.reads I r1
        obtain ⟨bs, h2, n2⟩ := t.reads I r2
        refine ⟨_, Reads.list ho hc hd (ReadsAll.cons h1 (ReadsAll.cons h2 ReadsAll.nil)), fun z => ?_⟩
        simp only [PyData.hasDict, PyData.hasDictAll, Bool.or_false, Bool.or_self] at z
        have m1 := n1
        have m2 := n2
        simp only [List.append_nil, List.mem_cons, List.mem_append, not_or]
        exact ⟨fun w => ne w.symm, m1, m2⟩
end
section
variable {X : Cx} {es : List Expr} {pos : Pos} {t : TA}
end
end Vk
set_option Elab.async false
set_option maxRecDepth 100000
set_option maxHeartbeats 4000000
set_option linter.all false
namespace Vk
open L2 PySem PySem.Spec PyProof.Rows PySem.VkX
/-! ## isinstance among own exception classes -/
section
variable {K : PySem.W.Frag} {C D : Addr} {x y : Str} {tl tl2 : List Value}
theorem ClsN.cls (c : ClsN K C x tl) : ∃ cd, PySem.W.clsIn K C = some cd ∧ cd.name = x ∧ cd.mro = .ref C :: tl ∧ PySem.W.typeIn K (.ref C) = some (.type "type") := by
  obtain ⟨newId, q, N, bs, sn, sub, ab, col, dd, k0, k1, k2, k3, k5, e⟩ := c
  refine ⟨{ name := x, bases := bs, mro := .ref C :: tl, ns := N, qualname := q, hasDict := true, slotNames := sn, subclasses := sub, abstract := ab, collection := col, hasDel := false }, ?_, rfl, rfl, ?_⟩
  · unfold PySem.W.clsIn; rw [e] <;> rfl
  · show (K.lookup C).map (·.cls) = _
    rw [e] <;> rfl
theorem ClsN.inj (c : ClsN K C x tl) (d : ClsN K D y tl2) : (C == D) = true → x = y := by
  intro h
  have e : C = D := by simpa using h
  subst e
  obtain ⟨cd, h1, h2, _⟩ := c.cls
  obtain ⟨ce, g1, g2, _⟩ := d.cls
  cases h1.symm.trans g1
  exact h2.symm.trans g2
/-- what stands at a name is one class -/
structure One (K : PySem.W.Frag) (C : Addr) (x : Str) (tl : List Value) : Prop where
  cn : ClsN K C x tl
  ns : PySem.W.nsIn K mainGlobals x = some (some (.ref C))
  rf : tl.all (fun v => match v with | .type _ => true | _ => false) = true
end
/-! ## list.count -/
/-! ## a comprehension over zip of two lists of one length -/
end Vk
set_option Elab.async false
set_option maxRecDepth 100000
set_option maxHeartbeats 4000000
set_option linter.all false
namespace Vk
open L2 PySem PySem.Spec PyProof.Rows PySem.VkX
/-! ## what is laid, told by what it shows -/
theorem Same.rfl {H : Hp} : Same H H := fun _ _ h => h
theorem Same.trans {H H1 H2 : Hp} (a : Same H H1) (b : Same H1 H2) : Same H H2 := fun c o h => b c o (a c o h)
def Mk (t : TE) (d : PyData) : Prop := ∀ σ H Q, (∀ v H', Same H H' → Th H' v d → Q v H') → t σ H Q
section
variable {t te : TE} {ta : TA} {d : PyData} {ds : List PyData}
theorem paired_len {α β : Type} {R : α → β → Prop} : ∀ {xs : List α} {ys : List β}, Paired R xs ys → xs.length = ys.length
  | _, _, .nil => rfl
  | _, _, .cons _ t => congrArg (· + 1) (paired_len t)
theorem ths_keep {H H' : Hp} (k : Same H H') : ∀ {vs : List V} {ds : List PyData}, Paired (Th H) vs ds → Paired (Th H') vs ds
  | _, _, .nil => .nil
  | _, _, .cons a t => .cons (a.keep k) (ths_keep k t)
end
/-- nothing of such a value is the pen -/
theorem Th.ext {H H' : Hp} {p c : Addr} {T : Nat} {v : V} {d : PyData} (h : Th H v d) (hp : Pen H p c T) (x : Ext p H H') : Th H' v d := by
  obtain ⟨ns, t, l, hpp, _⟩ := hp.ex
  cases h with
  | atm a => exact .atm a
  | lst e n a => exact .lst (x _ _ e (fun z => by rw [z, hpp] at e; cases e)) n a
  | tup e a => exact .tup (x _ _ e (fun z => by rw [z, hpp] at e; cases e)) a
  | @dct a ps e =>
    refine .dct (x _ _ e (fun z => ?_))
    rw [z, hpp] at e
    have e2 : penL c t l = kvS ps := HO.dK.inj (Option.some.inj e)
    match ps, e2 with
    | [], e2 => cases e2
    | q :: r, e2 =>
      have z := congrArg (fun l => (l.head?).map (·.2)) e2
      cases z
end Vk
namespace Vk
open L2 PySem PySem.Spec PyProof.Rows PySem.VkX
end Vk
namespace Vk
open L2 PySem PySem.Spec PyProof.Rows PySem.VkX
end Vk
set_option Elab.async false
set_option maxRecDepth 100000
set_option maxHeartbeats 4000000
set_option linter.all false
namespace Vk
open L2 PySem PySem.Spec PyProof.Rows PySem.VkX
/-! ## several except clauses, with a name or without -/
abbrev Sui := Addr → Value → Option Addr → TS
inductive Clz
  | only (c : Value) (ts : Sui)
  | named (c : Value) (i : Nat) (ts : Sui)
def SuiOk (X : Cx) (ss : List Stmt) (ts : Sui) : Prop := ∀ (a : Addr) (oe : Obj) (cls : Value) (d : Option Addr) (pn : List (Addr × Obj)), Zc cls d oe → (∃ vs, oe.data = .fields vs) → PSs (X.suite a ((a, oe) :: pn)) ss (ts a cls d)
inductive ClzOk (X : Cx) : List ExceptHandler → List Clz → Prop
  | nil : ClzOk X [] []
  | only {x : Str} {c : Value} {ts : Sui} {s0 : Stmt} {ss : List Stmt} {p1 p2 : Pos} {hs : List ExceptHandler} {l : List Clz} (hc : Names X x c) (su : SuiOk X (s0 :: ss) ts) (r : ClzOk X hs l) : ClzOk X (.ExceptHandler (some (.Name x p1)) none (s0 :: ss) p2 :: hs) (.only c ts :: l)
  | named {x n : Str} {c : Value} {i : Nat} {ts : Sui} {s0 : Stmt} {ss : List Stmt} {p1 p2 : Pos} {hs : List ExceptHandler} {l : List Clz} (hi : X.N[i]? = some n) (hl : X.env.kindOf n = some .local) (hc : Names X x c) (su : SuiOk X (s0 :: ss) ts) (r : ClzOk X hs l) :
      ClzOk X (.ExceptHandler (some (.Name x p1)) (some n) (s0 :: ss) p2 :: hs) (.named c i ts :: l)
section
variable {X : Cx} {body : List Stmt} {e0 : ExceptHandler} {es : List ExceptHandler} {l : List Clz} {pos : Pos} {tb : WX → TS} {W0 : WX}
end
end Vk
set_option Elab.async false
set_option maxRecDepth 100000
set_option maxHeartbeats 4000000
set_option linter.all false
namespace Vk
open L2 PySem PySem.Spec PyProof.Rows PySem.VkX
/-! ## C(e, ..) to be raised -/
section
variable {X : Cx} {j k : Nat} {x : Str} {C : Addr} {fsn : List Str} {p pos : Pos} {e : Expr} {es : List Expr} {t : TA}
end
end Vk
set_option Elab.async false
set_option maxRecDepth 100000
set_option maxHeartbeats 4000000
set_option linter.all false
namespace Vk
open L2 PySem PySem.Spec PyProof.Rows PySem.VkX
/-! ## instances of own classes whose __init__ may raise, made by position and by all keywords in the other order -/
structure MakI (P : Program) (w : World) (K : PySem.W.Frag) (mg : Str → Option Value) (base : Heap) (CX : CXT) (k : Nat) (x : Str) (C : Addr) (fsn : List Str) (sp : Sp) : Prop where
  hm : mg x = some (.ref C)
  ex : ∃ (fI : Addr) (fd : FuncData), L2.Mk K C fI ∧ FnG P w K mg base CX k fI fd (("self" : Str) :: fsn) sp ∧ Binds K fd (("self" : Str) :: fsn) [] ∧
    (∀ (s : Shared) (v : Value) (ws : List Value), K.In s.heap → ws.length = fsn.length → BindsTo s fd ⟨[v], fsn.reverse.zip ws⟩ ((("self" : Str) :: fsn).zip (v :: ws.reverse)))
section
variable {X : Cx} {CX : CXT} {E : XK} {j k : Nat} {x : Str} {C : Addr} {fsn : List Str} {sp : Sp} {p pos : Pos} {e : Expr} {es : List Expr} {t : TA}
end
end Vk
set_option Elab.async false
set_option maxRecDepth 100000
set_option maxHeartbeats 4000000
set_option linter.all false
namespace Vk
open L2 PySem PySem.Spec PyProof.Rows PySem.VkX LamX NdefX
/-! ## a lambda as a value: made in a def, kept in lists, handed to a def that calls it -/
structure LF where
  qual : Str
  params : Arguments
  body : Expr
  scope : Scope
  cl : List (Str × Addr)
  c : Addr
def LamO (f : Addr) (F : LF) : HO := .ext fun h => ∃ pm ctv : Value, h.get? f = some (PySem.W.kla_obj "<lambda>" F.qual F.params F.body F.scope F.cl pm F.c ctv)
section
variable {X : Cx} {pins : List (Addr × Obj)} {σ : L2.St} {H : Hp} {s : Shared}
end
section
variable {X : Cx}
end
/-! ### what it does -/
abbrev SpL := List (Option V) → Hp → VK → XK → Prop
structure LamK (P : Program) (w : World) (K : PySem.W.Frag) (mg : Str → Option Value) (base : Heap) (k : Nat) (F : LF) (fr : List Str) (sp : SpL) : Prop where
  run : ∀ (A : Around) (outer : List Env) (s : Shared) (H : Hp) (f : Addr) (ws : List (Option V)) (Q : VK) (E : XK), A.guards = some [] → Room k A → Env0 P w K mg base A outer s H → H f = some (LamO f F) → H F.c = some (CodeO F.c F.qual) → CellsAt F.cl fr ws s.heap H → sp ws H Q E →
    codeAny (model P w) A (.call (.ref f) ⟨[], []⟩) (CR (L2.CX P w) outer P w H s Q E) s
section
variable {P : Program} {w : World} {K : PySem.W.Frag} {mg : Str → Option Value} {base : Heap} {N fr : List Str} {F : LF} {k j : Nat} {sp : SpL}
theorem LamK.mono (l : LamK P w K mg base j F fr sp) (h : j ≤ k) : LamK P w K mg base k F fr sp := ⟨fun A outer s H f ws Q E hg hr => l.run A outer s H f ws Q E hg (hr.mono h)⟩
end
/-! ### called by the def that got it -/
section
variable {X : Cx} {F : LF} {fr : List Str} {ws : List (Option V)} {i j k : Nat} {x : Str} {sp : SpL} {E : XK} {p pos : Pos} {f0 : Addr}
end
/-! ### defs whose promise speaks of the cells that the heap holds -/
structure FnH (P : Program) (w : World) (K : PySem.W.Frag) (mg : Str → Option Value) (base : Heap) (CX : CXT) (k : Nat) (f : Addr) (fd : FuncData) (ps : List Str) (sp : Heap → Sp) : Prop where
  len : ∀ h vs H Q E, sp h vs H Q E → vs.length = ps.length
  run : ∀ (A : Around) (outer : List Env) (s : Shared) (H : Hp) (args : Args) (us : List Value) (vs : List V) (Q : VK) (E : XK), A.guards = some [] → Room k A → Env0 P w K mg base A outer s H → BindsTo s fd args (ps.zip us) → Vals vs us → sp s.heap vs H Q E →
    codeAny (model P w) A (.call (.ref f) args) (CR CX outer P w H s Q E) s
structure CalH (P : Program) (w : World) (K : PySem.W.Frag) (mg : Str → Option Value) (base : Heap) (CX : CXT) (k : Nat) (x : Str) (sp : Heap → Sp) : Prop where
  ex : ∃ (f : Addr) (fd : FuncData) (ps : List Str), FnH P w K mg base CX k f fd ps sp ∧ mg x = some (.ref f) ∧ PySem.W.keepIn K (.ref f) = true ∧ Binds K fd ps []
section
variable {X : Cx} {CX : CXT} {j k : Nat} {x : Str} {sp : Heap → Sp} {E : XK} {p pos : Pos} {e : Expr} {es : List Expr} {t : TA} {rd : L2.St → List V → Hp → VK → Prop}
end
/-! ### isinstance(e, T) of a caught exception that has fields -/
/-! ### a def whose code object is known -/
structure FunC (K : PySem.W.Frag) (x qual : Str) (st : Stmt) (f : Addr) (fd : FuncData) (c : Addr) : Prop where
  ex : ∃ (oc : Value) (od : Option Addr) (kV doc pm : Value) (an : Option Addr) (ct : Value) (sl : Array (Option Value)), fd = PySem.W.fnOf x qual (defArgs st) (defBody st) (defScope st) .none kV doc pm an (.ref c) ct ∧ K.lookup f = some ⟨oc, od, .func fd, sl⟩ ∧ PySem.W.codeIn K (.ref c) qual = true
  kp : PySem.W.keepIn K (.ref f) = true
theorem FunC.fn {K : PySem.W.Frag} {x qual : Str} {st : Stmt} {f c : Addr} {fd : FuncData} (F : FunC K x qual st f fd c) : Fun K x qual st f fd := by
  obtain ⟨oc, od, kV, doc, pm, an, ct, sl, e, l, hc⟩ := F.ex
  exact ⟨⟨oc, od, kV, doc, pm, an, .ref c, ct, sl, e, l, hc⟩, F.kp⟩
end Vk
set_option Elab.async false
set_option maxRecDepth 100000
set_option maxHeartbeats 4000000
set_option linter.all false
namespace Vk
open PySem PySem.Spec PyProof.Rows PySem.SeqAt L2
open Builtin
section
variable {prog : Program} {w : World} {A : Around} {E : Value → Shared → Prop} {s : Shared} {K : PySem.W.Frag} {x C : Addr} {ox : Obj} {od : Option Obj}
end
end Vk
set_option Elab.async false
set_option maxRecDepth 100000
set_option maxHeartbeats 4000000
set_option linter.all false
namespace Vk
open PySem PySem.Spec PyProof.Rows PySem.SeqAt L2
open Builtin
/-! ## == and != and in, on the left an instance of an own class with its own == -/
inductive TyE (H : Hp) : V → Value → Prop
  | non : TyE H .non (.type "NoneType")
  | bl (b : Bool) : TyE H (.bl b) (.type "bool")
  | int (i : Int) : TyE H (.int i) (.type "int")
  | str (z : Str) : TyE H (.str z) (.type "str")
  | tup {a : Addr} {xs : List V} (e : H a = some (.tup xs)) : TyE H (.ref a) (.type "tuple")
  | lst {a : Addr} {xs : List V} (e : H a = some (.lst xs)) : TyE H (.ref a) (.type "list")
  | ins {a C dx : Addr} {fs : List (Str × V)} (e : H a = some (.ins C dx fs)) : TyE H (.ref a) (.ref C)
section
variable {X : Cx} {pins : List (Addr × Obj)} {σ : L2.St} {H : Hp} {s : Shared}
end
/-- the own == of the class at C -/
structure EqI (P : Program) (w : World) (K : PySem.W.Frag) (mg : Str → Option Value) (base : Heap) (k : Nat) (C : Addr) (sp : Sp) : Prop where
  ex : ∃ (f : Addr) (fd : FuncData), PySem.W.findIn K (.ref C) "__eq__" = some (some (.ref f)) ∧ PySem.W.isFn K (.ref f) = true ∧ FnOk P w K mg base CX0 k f fd ["self", "other"] sp ∧ Binds K fd ["self", "other"] []
  ne : PySem.W.findIn K (.ref C) "__ne__" = some (some (.builtin "object.__ne__"))
  obj : PySem.W.mroIn K C (.type "object") = some true
  no1 : PySem.W.mroIn K C (.type "tuple") = some false
  no2 : PySem.W.mroIn K C (.type "list") = some false
  no3 : PySem.W.mroIn K C (.type "str") = some false
  no4 : PySem.W.mroIn K C (.type "NoneType") = some false
section
variable {X : Cx} {k j : Nat} {C : Addr} {sp : Sp}
/-- the items that give way to the instance's own == -/
inductive Dec (H : Hp) : V → Prop
  | non : Dec H .non
  | str (z : Str) : Dec H (.str z)
  | tup {a : Addr} {xs : List V} (e : H a = some (.tup xs)) : Dec H (.ref a)
  | lst {a : Addr} {xs : List V} (e : H a = some (.lst xs)) : Dec H (.ref a)
end
end Vk
set_option Elab.async false
set_option maxRecDepth 100000
set_option maxHeartbeats 4000000
set_option linter.all false
namespace Vk
open PySem PySem.Spec PyProof.Rows L2 StX
/-! ## def f(self, *parts), with nothing under way -/
section
variable {CX : CXT} {P : Program} {w : World} {K : PySem.W.Frag} {mg : Str → Option Value} {base : Heap} {k : Nat} {x qual : Str} {st : Stmt} {f : Addr} {fd : FuncData} {N ps : List Str} {sp : Sp}
end
section
variable {X : Cx} {CX : CXT} {k j : Nat} {C f : Addr} {sp : Sp} {E : XK} {x : Str} {p pos : Pos} {e : Expr} {es : List Expr} {t : TA}
end
theorem pg_tupK {X : Cx} {K : PySem.W.Frag} {es : List Expr} {k : Nat} {t : TGs} {n : Nat} {pos : Pos} (hK : X.K = K) (hc : X.calm = true) (h : PGs X es t)
    (hn : (assignEach es X.env).length = n := by rfl) (hst : (assignEach es X.env).findIdx? (·.1) = none := by rfl) : PG X (.Tuple es k pos) (gTup K n t) := hK ▸ pg_tup hc h hn hst
end Vk
set_option Elab.async false
set_option maxRecDepth 100000
set_option maxHeartbeats 4000000
set_option linter.all false
namespace Vk
open PySem PySem.Spec PyProof.Rows L2
/-! ## for i, x in enumerate(t), t a tuple -/
theorem enum_new1 (t : Addr) (items : Array Value) : Meets (Builtin.«enumerate.__new__» ⟨[.type "enumerate", .ref t], []⟩) (fun _ R s => s.heap.IsTuple t items ∧
    R (.ok (.ret (.ref (s.heap.push { cls := .type "tuple_iterator", data := .fields #[.ref t, .int 0 0] }).objs.size)))
      { s with heap := (s.heap.push { cls := .type "tuple_iterator", data := .fields #[.ref t, .int 0 0] }).push { cls := .type "enumerate", data := .fields #[.none, .bool false, .ref s.heap.objs.size, rawInt 0, .none, .none] } }) :=
  .of_wp fun prog w A R s h => by
    obtain ⟨hp, g, d, tk, os⟩ := s
    obtain ⟨isT, k⟩ := h
    have sub := sub_enumerate
    have it1 : ∀ {A1 : Around} {E1 : Value → Shared → Prop} {Q1 : Value → Shared → Prop}, Q1 (.ref hp.objs.size) ⟨hp.push { cls := .type "tuple_iterator", data := .fields #[.ref t, .int 0 0] }, g, d, tk, os⟩ → wpAny (model prog w) A1 (pyIter (.ref t)) Q1 E1 ⟨hp, g, d, tk, os⟩ := fun q => wpAny_pyIter_tuple isT q
    wp_walk
    refine wpAny_stack_any fun st => wpAny_pure ?_
    split
    · rename_i c _ _ _ _ _
      cases (c == Value.type "enumerate")
      · wp_walk using it1
        exact ⟨_, rfl, k⟩
      · wp_walk using it1
        exact ⟨_, rfl, k⟩
    · wp_walk using it1
      exact ⟨_, rfl, k⟩
section
variable {prog : Program} {w : World} {A : Around} {E : Value → Shared → Prop} {s : Shared}
theorem call_enumT {t : Addr} {items : Array Value} {Q : Value → Shared → Prop} (isT : s.heap.IsTuple t items)
    (h : ∀ h2, IsEnum h2 (s.heap.objs.size + 1) s.heap.objs.size 0 .none → h2.IsTupleIter s.heap.objs.size t 0 → (∀ b o, s.heap.get? b = some o → h2.get? b = some o) → Q (.ref (s.heap.objs.size + 1)) { s with heap := h2 }) :
    wpAny (model prog w) A (call (.type "enumerate") [.ref t]) Q E s := by
  refine callType_new F.called_enumerate (by decide) (F.typeCall_enumerate_1 _) (F.newCall_enumerate_1 _) (fun obj => F.args_object_init_2 obj _) F.entry_enumerate_new (enum_new1 t items) ⟨isT, ?_⟩
  have one : (s.heap.push { cls := .type "tuple_iterator", data := .fields #[.ref t, .int 0 0] }).objs.size = s.heap.objs.size + 1 := Heap.size_push ..
  show _ ∧ _
  rw [one]
  have at1 : IsEnum ((s.heap.push { cls := .type "tuple_iterator", data := .fields #[.ref t, .int 0 0] }).push
      { cls := .type "enumerate", data := .fields #[.none, .bool false, .ref s.heap.objs.size, rawInt 0, .none, .none] }) (s.heap.objs.size + 1) s.heap.objs.size 0 .none := by
    have z := Heap.get?_push_size (s.heap.push { cls := .type "tuple_iterator", data := .fields #[.ref t, .int 0 0] })
      (o := { cls := .type "enumerate", data := .fields #[.none, .bool false, .ref s.heap.objs.size, rawInt 0, .none, .none] }) rfl
    rw [one] at z
    exact z
  exact ⟨⟨_, at1, rfl⟩, h _ at1 ⟨_, Heap.get?_push_of_some _ (Heap.get?_push_size _ rfl), rfl, rfl⟩ fun b o z => Heap.get?_push_of_some _ (Heap.get?_push_of_some _ z)⟩
end
/-- the tuple at a, each item in a new pair -/
def Itet (a : Addr) : It :=
  ⟨fun i H => ∃ (xs : List V) (x : V), H a = some (.tup xs) ∧ xs[i]? = some x, fun i H v H' => ∃ T x xs, v = .ref T ∧ H T = none ∧ H' = upd H T (.tup [.int (i : Nat), x]) ∧ H a = some (.tup xs) ∧ xs[i]? = some x, fun i H => ∃ xs : List V, H a = some (.tup xs) ∧ xs.length = i⟩
theorem turn_enumT {P : Program} {w : World} {K : PySem.W.Frag} {elts : List Expr} {kk : Nat} {tpos : Pos} (a e it : Addr) :
    Turn P w K (.Tuple elts kk tpos) (Itet a) [e, it] e (fun i h => (∃ old, IsEnum h e it ((i : Nat) : Int) old) ∧ h.IsTupleIter it a i ∧ e ≠ it ∧ a ≠ it ∧ e ≠ a) where
  mem := by simp
  obj := fun i h st b hb => by
    obtain ⟨⟨old, he⟩, ⟨o, ho, hc, hd⟩, _⟩ := st
    rcases List.mem_cons.mp hb with z | z
    · exact z ▸ ⟨_, he, fun v q => nomatch q⟩
    · rw [List.mem_singleton] at z
      exact z ▸ ⟨o, ho, fun v q => by rw [hd] at q; cases q⟩
  keep := fun i h h' st k => by
    obtain ⟨⟨old, he⟩, hi, rest⟩ := st
    exact ⟨⟨old, k e List.mem_cons_self _ he⟩, hi.at fun o q => k it (List.mem_cons_of_mem _ List.mem_cons_self) o q, rest⟩
  item := by
    intro X hP hw hK hc i pins s σ H E I hf st hg
    subst hP hw hK
    obtain ⟨⟨old, he⟩, hit, hne, hat, hea⟩ := st
    obtain ⟨xs, x, hq, hx⟩ := hg
    obtain ⟨its, rv, isT, hz⟩ := I.tuple (SqT.of hq)
    obtain ⟨u, hu, ru⟩ := rv.get hx
    have lt : i < its.toArray.size := by
      have := (List.getElem?_eq_some_iff.mp hu).1
      simpa using this
    have big1 : e < s.heap.objs.size := Heap.lt_size he
    have big2 : it < s.heap.objs.size := by obtain ⟨_, q, _⟩ := hit; exact Heap.lt_size q
    refine wpAny_pyNext_enum_itemD (Draws.tuple (A := X.A.in1) (I.ok.hd hc) it a hat its.toArray) he ⟨hit, isT⟩ lt hne (by simp [hne, hea]) fun u2 h2 tk hu2 ho st2 hT hsz hk => ?_
    obtain ⟨hit2, _⟩ := st2
    have eu : u2 = u := by
      have q := hu2
      simp only [List.getElem?_toArray] at q
      rw [hu] at q
      exact (Option.some.inj q).symm
    subst eu
    refine ⟨_, rfl, wpAny_letOwnedTupleGo_enum (s := { s with heap := h2, toks := tk + 1 }) ho fun h3 he3 sb => ?_⟩
    have hT3 : h3.get? s.heap.objs.size = some { cls := .type "tuple", data := .seq #[.int i tk, u2] } := (sb.2 _ (Nat.ne_of_gt big1)).trans hT
    have laid : ObjOk X.prog X.w (upd H s.heap.objs.size (.tup [.int (i : Nat), x])) h3 s.heap.objs.size (.tup [.int (i : Nat), x]) := ⟨few_len (Nat.le_of_ble_eq_true rfl), [.int i tk, u2], .cons ⟨_, rfl⟩ (.cons ru .nil), ⟨_, hT3, rfl, _, rfl⟩⟩
    have I1 : Inv X pins σ (upd H s.heap.objs.size (.tup [.int (i : Nat), x])) { s with heap := h3, toks := tk + 1 } :=
      I.turnedNew (ch := [e, it]) (fun b ob hb q => (sb.2 b (fun z => hb (by simp [z]))).trans (hk b ob (fun z => hb (by simp [z])) (fun z => hb (by simp [z])) q)) hf (Nat.le_refl _) laid
    refine ⟨.ref s.heap.objs.size, _, I1, rfl, ⟨_, x, xs, rfl, I.hok.fresh (Nat.le_refl _), rfl, hq, hx⟩, ⟨⟨u2, ?_⟩, hit2.at fun o q => (sb.2 it (Ne.symm hne)).trans q, hne, hat, hea⟩, fun b hb => ?_⟩
    · rw [show ((i + 1 : Nat) : Int) = (i : Int) + 1 by omega]
      exact he3
    · have old1 : b < s.heap.objs.size := by
        rcases List.mem_cons.mp hb with z | z
        · exact z ▸ big1
        · rw [List.mem_singleton] at z
          exact z ▸ big2
      exact (upd_ne (Nat.ne_of_lt old1)).trans (hf b hb).1
  done := by
    intro X hP hw hK hc i pins s σ H E I hf st hg
    subst hP hw hK
    obtain ⟨⟨old, he⟩, hit, hne, hat, hea⟩ := st
    obtain ⟨xs, hq, hx⟩ := hg
    obtain ⟨its, rv, isT, hz⟩ := I.tuple (SqT.of hq)
    obtain ⟨f0, f1, f2, f3, f4, f5⟩ := hf it (List.mem_cons_of_mem _ List.mem_cons_self)
    have le : i = its.toArray.size := by rw [← hx, rv.length, List.size_toArray]
    exact wpAny_pyNext_enum_endD (Draws.tuple (A := X.A.in1) (I.ok.hd hc) it a hat its.toArray) he ⟨le ▸ hit, isT⟩ fun h' eb => ⟨rfl, I.turned (t' := s.toks) (fun b o hb q => eb b o hb q) f0 f1 f3 f4 f5⟩
  self := fun A i s Q E st h => let ⟨⟨_, he⟩, _⟩ := st; wpAny_pyIter_enum he h
def iEnumT (ta : TA) : TI := fun σ H R => ta σ H fun vs H1 => ∃ a xs, vs = [.ref a] ∧ H1 a = some (.tup xs) ∧ R (Itet a) H1
theorem pi_enumT {X : Cx} {e : Expr} {ta : TA} {p pos tpos : Pos} {elts : List Expr} {kk : Nat} (gl : Gl X "enumerate") (hm : X.mg "enumerate" = none) (ha : PA X [e] ta) (hs : starEach [e] X.env = [(false, eval e X.env)] := by rfl) :
    PI X (.Tuple elts kk tpos) (.Call (.Name "enumerate" p) [e] [] pos) (iEnumT ta) := by
  refine ⟨fun pins s σ H R I h => Call_ (ld_blt I gl hm boot_enumerate (PyProof.Rows.callWith_type1 (thn (ha.run pos pins s σ H _ I h) fun us s1 hh => ?_) hs rfl))⟩
  obtain ⟨vs, H1, I1, r1, a, xs, rfl, hq, q⟩ := hh
  obtain ⟨u, rfl, ru⟩ := r1.one
  cases (show u = Value.ref a from ru)
  obtain ⟨its, rv, isT, hz⟩ := I1.tuple (SqT.of hq)
  have lta : a < s1.heap.objs.size := by obtain ⟨o, ho, _⟩ := isT; exact Heap.lt_size ho
  refine call_enumT isT fun h2 he hit hk => wpAny_pyIter_enum he ?_
  have I2 : Inv X pins σ H1 { s1 with heap := h2 } := I1.kept (t' := s1.toks) hk
  refine ⟨s1.heap.objs.size + 1, [s1.heap.objs.size + 1, s1.heap.objs.size], _, _, H1, rfl, I2, turn_enumT a (s1.heap.objs.size + 1) s1.heap.objs.size, ⟨⟨.none, he⟩, hit, Nat.succ_ne_self _, Nat.ne_of_lt lta, Nat.ne_of_gt (Nat.lt_succ_of_lt lta)⟩, fun b hb => ?_, q⟩
  have le : s1.heap.objs.size ≤ b := by
    rcases List.mem_cons.mp hb with z | z
    · rw [z]; exact Nat.le_succ _
    · rw [List.mem_singleton.mp z]; exact Nat.le_refl _
  exact I1.fpOk le (I1.hok.fresh le)
end Vk
set_option Elab.async false
set_option maxRecDepth 100000
set_option maxHeartbeats 4000000
set_option linter.all false
namespace Vk
open PySem PySem.Spec PyProof.Rows L2
section
variable {X : Cx}
/-- e.f, a property, e an instance of one of some classes -/
structure PrI (P : Program) (w : World) (K : PySem.W.Frag) (mg : Str → Option Value) (base : Heap) (k : Nat) (C : Addr) (f fa : Str) : Prop where
  ex : ∃ (p g : Addr) (fd : FuncData), Cls K C ∧ PropOf K C f p g ∧ FnOk P w K mg base CX0 k g fd ["self"] (getSp C fa) ∧ Binds K fd ["self"] []
end
end Vk
set_option Elab.async false
set_option maxRecDepth 100000
set_option maxHeartbeats 4000000
set_option linter.all false
namespace Vk
open L2 PySem PySem.Spec PyProof.Rows
/-! ## lstrip leaves nothing of a string exactly if all its signs are to be stripped -/
theorem take_all {α : Type} (g : α → Bool) : ∀ l : List α, (l.takeWhile g).length = l.length ↔ l.all g = true
  | [] => by simp
  | a :: r => by
    rw [List.takeWhile_cons, List.all_cons]
    cases h : g a with
    | true =>
      rw [if_pos rfl, List.length_cons, List.length_cons, Bool.true_and]
      exact ⟨fun z => (take_all g r).mp (Nat.succ.inj z), fun z => congrArg Nat.succ ((take_all g r).mpr z)⟩
    | false =>
      rw [if_neg (by decide)]
      simp
theorem take_le {α : Type} (g : α → Bool) : ∀ l : List α, (l.takeWhile g).length ≤ l.length
  | [] => Nat.le_refl _
  | a :: r => by
    rw [List.takeWhile_cons]
    split
    · exact Nat.succ_le_succ (take_le g r)
    · exact Nat.zero_le _
theorem str_empty {z : Str} : z = "" ↔ z.cps.toList = [] := by
  constructor
  · rintro rfl
    rfl
  · intro h
    cases z with
    | mk c =>
      have e : c = #[] := by simpa using h
      subst e
      rfl
theorem lstrip_all {z y : Str} : Txt.lstripChars z y = "" ↔ z.cps.toList.all y.cps.contains = true := by
  unfold Txt.lstripChars Txt.stripBy
  have len : z.length = z.cps.toList.length := by simp [Str.length]
  have lo : stripLo y.cps.contains true z = (z.cps.toList.takeWhile y.cps.contains).length := rfl
  have hi : ∀ n, stripHi y.cps.contains false z n = z.length := fun n => rfl
  rw [← take_all]
  by_cases h0 : (z.cps.toList.takeWhile y.cps.contains).length = 0
  · have same : stripSame y.cps.contains true false z = true := by
      unfold stripSame
      rw [hi, lo, h0]
      simp
    rw [if_pos same, str_empty, h0]
    exact ⟨fun e => by rw [e]; rfl, fun e => List.length_eq_zero_iff.mp e.symm⟩
  · have same : ¬ (stripSame y.cps.contains true false z = true) := by
      unfold stripSame
      rw [hi, lo]
      simpa using fun e => absurd (by simpa using e) h0
    rw [if_neg same, str_empty]
    have sub : (stripped y.cps.contains true false z).cps.toList = z.cps.toList.drop (z.cps.toList.takeWhile y.cps.contains).length := by
      unfold stripped
      rw [hi, lo]
      show ((z.cps.extract _ z.length).toList) = _
      rw [Array.toList_extract, List.extract_eq_drop_take, len]
      rw [List.take_of_length_le (by rw [List.length_drop]; exact Nat.le_refl _)]
    rw [sub, List.drop_eq_nil_iff]
    have le := take_le y.cps.contains z.cps.toList
    exact ⟨fun e => Nat.le_antisymm le e, fun e => Nat.le_of_eq e.symm⟩
end Vk
namespace Vk
open L2 PySem PySem.Spec PyProof.Rows
/-- a comprehension over the signs of a string -/
theorem lc_str {z : Str} {g : TG} {tt : TT} {te : TE} {vs : List Nat} {σ : L2.St} {H1 : Hp} {D : Addr} {Qd : Hp → Prop} (Pv : Nat → Hp → Prop) (h0 : Pv 0 (upd H1 D (.lst [])))
    (hs : ∀ i c H, z.cps[i]? = some c → Pv i H → g (.str ⟨#[c]⟩) (wipe σ vs) H fun σ2 H2 => wipe σ2 vs = wipe σ vs ∧ tt σ2 H2 fun b H3 =>
      if b = true then te σ2 H3 fun y H4 => ∃ acc, H4 D = some (.lst acc) ∧ acc.length < sizeLine ∧ Pv (i + 1) (upd H4 D (.lst (acc ++ [y]))) else Pv (i + 1) H3) (hd : ∀ H, Pv z.cps.size H → Qd H) :
    ∃ W : Nat → Nat → Hp → Prop, (∃ m, W 0 m (upd H1 D (.lst []))) ∧ ∀ i m H, W i m H →
      ((Its z).stop i H ∧ Qd H) ∨ ((Its z).go i H ∧ ∃ Nx : Hp → Prop, (∀ H', Nx H' → ∃ m', m' < m ∧ W (i + 1) m' H') ∧ ∀ x H', (Its z).yld i H x H' → g x (wipe σ vs) H' fun σ2 H2 => wipe σ2 vs = wipe σ vs ∧ tt σ2 H2 fun b H3 =>
        if b = true then te σ2 H3 fun y H4 => ∃ acc, H4 D = some (.lst acc) ∧ acc.length < sizeLine ∧ Nx (upd H4 D (.lst (acc ++ [y]))) else Nx H3) := by
  refine ⟨fun i m H => m = z.cps.size - i ∧ i ≤ z.cps.size ∧ Pv i H, ⟨z.cps.size, rfl, Nat.zero_le _, h0⟩, ?_⟩
  rintro i m H ⟨rfl, hi, p⟩
  by_cases lt : i < z.cps.size
  · refine .inr ⟨lt, Pv (i + 1), fun H2 p2 => ⟨z.cps.size - (i + 1), by omega, rfl, lt, p2⟩, fun v H2 w => ?_⟩
    obtain ⟨rfl, c, hc, rfl⟩ := w
    exact hs i c _ hc p
  · have e : i = z.cps.size := by omega
    subst e
    exact .inl ⟨Nat.le_refl _, hd H p⟩
end Vk
set_option Elab.async false
set_option maxRecDepth 100000
set_option maxHeartbeats 4000000
set_option linter.all false
namespace Vk
open PySem PySem.Spec PyProof.Rows L2 LamX
/-! ## the law's own call, one def of the text makes lambdas (its code object c, its table P) -/
theorem const_s {p : Program} {loose : List Str} {mean : ExcName → Option Value} {mg mb : Str → Option Value} {h : Heap} (T : PyProof.Rows.Top p loose mean mg mb h) {x z : Str} (e : PyProof.Rows.valOf p x = some (.str z)) : ∃ u, mg x = some u ∧ RelV (.str z) u := by
  obtain ⟨v, hv, r⟩ := T.const x _ e
  cases r h with
  | str i t => exact ⟨_, hv, ⟨t, rfl⟩⟩
end Vk
set_option Elab.async false
set_option maxRecDepth 100000
set_option maxHeartbeats 4000000
set_option linter.all false
namespace Vk
open PySem PySem.Spec PyProof.Rows L2 LamX
/-! ## where the modules are told lies a dict -/
section
variable {X : Cx} {pins : List (Addr × Obj)} {σ : L2.St} {H : Hp} {s : Shared}
end
/-! ## == of a list and the empty list -/
section
open Builtin
end
/-! ## the law's own call, one def of the text makes lambdas (its code object c, its table P) -/
end Vk
set_option Elab.async false
set_option maxRecDepth 100000
set_option maxHeartbeats 4000000
set_option linter.all false
namespace Vk
open L2 PySem PySem.Spec PyProof.Rows PySem.VkX
/-! ## what is made is new -/
def New (H : Hp) (v : V) : Prop := ∀ b, v = .ref b → H b = none
theorem New.same {H H1 : Hp} {v : V} (n : New H1 v) (s : Same H H1) : New H v := fun b e => by
  match q : H b with
  | none => rfl
  | some o => exact nomatch (s b o q).symm.trans (n b e)
theorem New.ext {H H1 : Hp} {v : V} {p c : Addr} {T : Nat} (n : New H1 v) (x : Ext p H H1) (P : Pen H1 p c T) : New H v := fun b e => by
  match q : H b with
  | none => rfl
  | some o =>
    obtain ⟨t, l, hp⟩ := P.is
    by_cases hb : b = p
    · rw [hb] at e
      exact nomatch hp.symm.trans (n p e)
    · exact nomatch (x b o q hb).symm.trans (n b e)
theorem Atm.new {H : Hp} {v : V} {d : PyData} (a : Atm v d) : New H v := fun b e => by
  subst e
  cases a
theorem New.ne {H : Hp} {v : V} {D : Addr} {o : HO} (n : New H v) (h : H D = some o) : v ≠ .ref D := fun e => nomatch h.symm.trans (n D e)
theorem Th.at {H : Hp} {v : V} {d : PyData} {D : Addr} {o : HO} (h : Th H v d) (n : v ≠ .ref D) : Th (upd H D o) v d := by
  cases h with
  | atm a => exact .atm a
  | @lst a xs ds e ne p => exact .lst ((upd_ne fun z => n (congrArg V.ref z)).trans e) ne p
  | @tup a xs ds e p => exact .tup ((upd_ne fun z => n (congrArg V.ref z)).trans e) p
  | @dct a ps e => exact .dct ((upd_ne fun z => n (congrArg V.ref z)).trans e)
section
variable {t te : TE} {ta : TA} {d : PyData} {ds : List PyData}
end
end Vk
set_option Elab.async false
set_option maxRecDepth 100000
set_option linter.all false
namespace Vk
open PySem PySem.Spec PyProof.Rows L2
/-! ## lists whose items stand for items of another list -/
theorem paired_at {α β : Type} {R : α → β → Prop} : ∀ {xs : List α} {ys : List β} {i : Nat} {x : α}, Paired R xs ys → xs[i]? = some x → ∃ y, ys[i]? = some y ∧ R x y
  | _, _, 0, _, .cons a t, h => by cases h; exact ⟨_, rfl, a⟩
  | _, _, i + 1, _, .cons a t, h => paired_at (i := i) t h
theorem drop_at {α : Type} : ∀ {l : List α} {i : Nat} {x : α}, l[i]? = some x → l.drop i = x :: l.drop (i + 1)
  | a :: l, 0, x, h => by cases h; rfl
  | a :: l, i + 1, x, h => by simpa using drop_at (l := l) (i := i) (x := x) (by simpa using h)
end Vk
set_option Elab.async false
set_option maxRecDepth 100000
set_option maxHeartbeats 4000000
set_option linter.all false
namespace Vk
open PySem PySem.Spec PyProof.Rows L2
theorem fewL {n : Nat} (h : n ≤ 100000) : n < sizeLine := Nat.lt_of_le_of_lt h (by rw [sizeLine_eq]; decide)
theorem pair_mono {α β : Type} {R S : α → β → Prop} (h : ∀ a b, R a b → S a b) : ∀ {xs : List α} {ys : List β}, Paired R xs ys → Paired S xs ys
  | _, _, .nil => .nil
  | _, _, .cons a t => .cons (h _ _ a) (pair_mono h t)
theorem none_up {H H1 : Hp} {a : Addr} (s : Same H H1) (h : H1 a = none) : H a = none := by
  match e : H a with
  | none => rfl
  | some o => exact nomatch (s _ _ e).symm.trans h
theorem upd_out {H H1 : Hp} {l : Addr} {o : HO} (hl : H l = none) (s : Same H H1) : Same H (upd H1 l o) := fun b o2 h => by
  rw [upd_ne (ne_of_none h hl)]
  exact s _ _ h
/-- letter i of x -/
def ltr (x : Str) (i : Nat) : Nat := x.cps.toList.getD i 0
theorem cut_ab {x : Str} {a b : Nat} (h1 : a ≤ b) (h2 : b ≤ x.length) : cutS x (some (a : Int)) (some (b : Int)) = ⟨((x.cps.toList.drop a).take (b - a)).toArray⟩ := by
  unfold cutS
  rw [HT.sIx_nat, HT.sIx_nat, Nat.min_eq_left h2, Nat.min_eq_left (Nat.le_trans h1 h2)]
theorem cut_len {x : Str} {a b : Nat} (h1 : a ≤ b) (h2 : b ≤ x.length) : (cutS x (some (a : Int)) (some (b : Int))).length = b - a := by
  rw [cut_ab h1 h2]
  show (List.toArray _).size = _
  have : x.cps.toList.length = x.length := Array.length_toList
  rw [List.size_toArray, List.length_take, List.length_drop]
  omega
theorem cut_ltr {x : Str} {a b t : Nat} (h1 : a ≤ b) (h2 : b ≤ x.length) (ht : t < b - a) : ltr (cutS x (some (a : Int)) (some (b : Int))) t = ltr x (a + t) := by
  rw [cut_ab h1 h2]
  unfold ltr
  show (List.getD (List.take _ _) t 0) = _
  rw [List.getD_eq_getElem?_getD, List.getD_eq_getElem?_getD, List.getElem?_take, if_pos ht, List.getElem?_drop]
theorem depthAll_const : ∀ (ds : List PyData) (n : Nat), (∀ d ∈ ds, d.depth ≤ n) → PyData.depthAll ds ≤ n
  | [], _, _ => Nat.zero_le _
  | d :: r, n, h => Nat.max_le.mpr ⟨h d List.mem_cons_self, depthAll_const r n fun e he => h e (List.mem_cons_of_mem _ he)⟩
theorem canAll_of : ∀ (ds : List PyData), (∀ d ∈ ds, PyData.canLay0 d = true) → PyData.canLayAll0 ds = true
  | [], _ => rfl
  | d :: r, h => by
    show (PyData.canLay0 d && PyData.canLayAll0 r) = true
    rw [h d List.mem_cons_self, canAll_of r fun e he => h e (List.mem_cons_of_mem _ he)]
    rfl
theorem or_both {c : Bool} {T B R : Prop} (h1 : c = true → R → T) (h2 : c = false → R → B) (h : R) : if c = true then T else B := by
  cases c with
  | true => exact h1 rfl h
  | false => exact h2 rfl h
theorem plc_asc (x w : Str) : (plc x w).Pairwise (· < ·) := List.pairwise_lt_range.filter _
theorem plc_ltr {x w : Str} {k : Nat} : k ∈ plc x w ↔ k + w.length ≤ x.length ∧ ∀ t, t < w.length → ltr x (k + t) = ltr w t := by
  unfold plc atB
  rw [List.mem_filter, List.mem_range, Bool.and_eq_true, decide_eq_true_eq, StrLaws.subAt_eq, beq_iff_eq]
  constructor
  · rintro ⟨_, h1, h2⟩
    refine ⟨h1, fun t ht => ?_⟩
    unfold ltr
    rw [← h2, List.getD_eq_getElem?_getD, List.getD_eq_getElem?_getD, List.getElem?_take, if_pos ht, List.getElem?_drop]
  · rintro ⟨h1, h2⟩
    refine ⟨by omega, h1, List.ext_getElem? fun t => ?_⟩
    have lw : w.cps.toList.length = w.length := Array.length_toList
    have lx : x.cps.toList.length = x.length := Array.length_toList
    by_cases ht : t < w.length
    · have q := h2 t ht
      unfold ltr at q
      rw [List.getD_eq_getElem?_getD, List.getD_eq_getElem?_getD, List.getElem?_eq_getElem (by omega : k + t < x.cps.toList.length), List.getElem?_eq_getElem (by omega : t < w.cps.toList.length)] at q
      rw [List.getElem?_take, if_pos ht, List.getElem?_drop, List.getElem?_eq_getElem (by omega : k + t < x.cps.toList.length), List.getElem?_eq_getElem (by omega : t < w.cps.toList.length)]
      exact congrArg some q
    · rw [List.getElem?_take, if_neg ht, List.getElem?_eq_none (by omega)]
/-- pairs of numbers -/
def PrN (H : Hp) : List V → List (Nat × Nat) → Prop := Paired (fun v (p : Nat × Nat) => ∃ t, v = V.ref t ∧ H t = some (.tup [.int (p.1 : Nat), .int (p.2 : Nat)]))
theorem PrN.keep {H H1 : Hp} {xs : List V} {ps : List (Nat × Nat)} (h : PrN H xs ps) (s : Same H H1) : PrN H1 xs ps := pair_mono (fun v p ⟨t, e, ht⟩ => ⟨t, e, s _ _ ht⟩) h
theorem PrN.keepT {H H1 : Hp} {xs : List V} {ps : List (Nat × Nat)} (h : PrN H xs ps) (s : ∀ u ws, H u = some (.tup ws) → H1 u = some (.tup ws)) : PrN H1 xs ps := pair_mono (fun v p ⟨t, e, ht⟩ => ⟨t, e, s _ _ ht⟩) h
/-! ## windows -/
/-- the letters from a to b stand at another place, too -/
def Tw (X : Nat → Nat) (n a b : Nat) : Prop := ∃ k, k ≠ a ∧ k + (b - a) ≤ n ∧ ∀ t, t < b - a → X (k + t) = X (a + t)
theorem Tw.less {X : Nat → Nat} {n a b a' b' : Nat} (h : Tw X n a b) (h1 : a ≤ a') (h2 : a' ≤ b') (h3 : b' ≤ b) : Tw X n a' b' := by
  obtain ⟨k, k1, k2, k3⟩ := h
  refine ⟨k + (a' - a), by omega, by omega, fun t ht => ?_⟩
  have := k3 (a' - a + t) (by omega)
  rw [show k + (a' - a) + t = k + (a' - a + t) by omega, this, show a + (a' - a + t) = a' + t by omega]
def twB (x : Str) (a b : Nat) : Bool := decide (2 ≤ (plc x (cutS x (some (a : Int)) (some (b : Int)))).length)
theorem plc_own {x : Str} {a b : Nat} (h1 : a ≤ b) (h2 : b ≤ x.length) : a ∈ plc x (cutS x (some (a : Int)) (some (b : Int))) :=
  plc_ltr.mpr ⟨by rw [cut_len h1 h2]; omega, fun t ht => by
    rw [cut_len h1 h2] at ht
    exact (cut_ltr h1 h2 ht).symm⟩
theorem two_of {l : List Nat} {a : Nat} (nd : l.Pairwise (· < ·)) (ha : a ∈ l) : 2 ≤ l.length ↔ ∃ k ∈ l, k ≠ a := by
  constructor
  · intro h
    match l, nd, h with
    | x :: y :: r, nd, _ =>
      have lt := (List.pairwise_cons.mp nd).1 y List.mem_cons_self
      by_cases e : x = a
      · exact ⟨y, List.mem_cons_of_mem _ List.mem_cons_self, by omega⟩
      · exact ⟨x, List.mem_cons_self, e⟩
  · rintro ⟨k, hk, hne⟩
    match l, ha, hk with
    | [x], ha, hk => exact absurd ((List.mem_singleton.mp hk).trans (List.mem_singleton.mp ha).symm) hne
    | x :: y :: r, _, _ => show 2 ≤ r.length + 1 + 1; omega
theorem twB_iff {x : Str} {a b : Nat} (h1 : a ≤ b) (h2 : b ≤ x.length) : twB x a b = true ↔ Tw (ltr x) x.length a b := by
  unfold twB
  rw [decide_eq_true_eq, two_of (plc_asc _ _) (plc_own h1 h2)]
  constructor
  · rintro ⟨k, hk, hne⟩
    obtain ⟨k1, k2⟩ := plc_ltr.mp hk
    rw [cut_len h1 h2] at k1 k2
    exact ⟨k, hne, k1, fun t ht => (k2 t ht).trans (cut_ltr h1 h2 ht)⟩
  · rintro ⟨k, hne, k1, k2⟩
    refine ⟨k, plc_ltr.mpr ⟨by rw [cut_len h1 h2]; exact k1, fun t ht => ?_⟩, hne⟩
    rw [cut_len h1 h2] at ht
    rw [k2 t ht, cut_ltr h1 h2 ht]
theorem plc_one {x : Str} {a b : Nat} (h1 : a ≤ b) (h2 : b ≤ x.length) : (plc x (cutS x (some (a : Int)) (some (b : Int)))).length = 1 ↔ twB x a b = false := by
  have h := plc_own h1 h2
  have : 0 < (plc x (cutS x (some (a : Int)) (some (b : Int)))).length := List.length_pos_of_mem h
  unfold twB
  rw [decide_eq_false_iff_not]
  omega
/-- parts, one behind the other -/
def OkR (n : Nat) : Nat → List (Nat × Nat × Str) → Prop
  | _, [] => True
  | p, r :: rs => p ≤ r.1 ∧ r.1 < r.2.1 ∧ r.2.1 ≤ n ∧ OkR n r.2.1 rs
theorem okR_all {n : Nat} : ∀ {p : Nat} {rs : List (Nat × Nat × Str)}, OkR n p rs → ∀ r ∈ rs, p ≤ r.1 ∧ r.1 < r.2.1 ∧ r.2.1 ≤ n
  | p, s :: rs, h, r, hr => by
    rcases List.mem_cons.mp hr with rfl | hr
    · exact ⟨h.1, h.2.1, h.2.2.1⟩
    · have := okR_all h.2.2.2 r hr
      have := h.1
      have := h.2.1
      omega
theorem cut_from {x : Str} {a : Nat} : (cutS x (some (a : Int)) none).cps.toList = x.cps.toList.drop a := by
  show ((x.cps.toList.drop (HT.sIx x.length 0 (some (a : Int)))).take (HT.sIx x.length x.length none - HT.sIx x.length 0 (some (a : Int)))).toArray.toList = _
  have lx : x.cps.toList.length = x.length := Array.length_toList
  rw [HT.sIx_none, HT.sIx_nat, List.toList_toArray]
  by_cases h : a ≤ x.length
  · rw [Nat.min_eq_left h, List.take_of_length_le (by rw [List.length_drop]; omega)]
  · rw [Nat.min_eq_right (by omega), Nat.sub_self, List.take_zero, List.drop_of_length_le (by omega)]
theorem cut_mid {x : Str} {a b : Nat} (h1 : a ≤ b) (h2 : b ≤ x.length) : (cutS x (some (a : Int)) (some (b : Int))).cps.toList = (x.cps.toList.drop a).take (b - a) := by
  rw [cut_ab h1 h2]
theorem app_list (x y : Str) : (x ++ y).cps.toList = x.cps.toList ++ y.cps.toList := by
  show (x.cps ++ y.cps).toList = _
  exact Array.toList_append
theorem str_ext {x y : Str} (h : x.cps.toList = y.cps.toList) : x = y := PySem.W.str_of_cps h
theorem ok_letters {x : Str} (h : ∀ c ∈ x.cps.toList, c ∈ letS.cps.toList) : PyData.strOk x = true := by
  have all : ∀ c ∈ letS.cps.toList, c < 0x110000 := by decide +kernel
  show x.cps.all (· < 0x110000) = true
  rw [Array.all_eq_true_iff_forall_mem]
  intro c hc
  simpa using all c (h c (by simpa using hc))
theorem more_list {z y : Str} : (z ++ y).cps.toList = z.cps.toList ++ y.cps.toList := by
  show (z.cps ++ y.cps).toList = _
  simp
end Vk
set_option Elab.async false
set_option maxRecDepth 100000
set_option linter.all false
namespace Vk
open PySem PySem.Spec PyProof.Rows L2
def top (i : Nat) : Stmt := PySem.Challenge.pw_anchoredits_k62_cheapest_exchanges.main.body.getD i (.Pass ⟨0, 0, 0, 0⟩)
structure Txt (mg : Str → Option Value) : Prop where
  str : mg "str" = none
  tuple : mg "tuple" = none
  enumerate : mg "enumerate" = none
  bool : mg "bool" = none
  sum : mg "sum" = none
  max : mg "max" = none
  ValueError : mg "ValueError" = none
  len : mg "len" = none
  list : mg "list" = none
  int : mg "int" = none
  abs : mg "abs" = none
  range : mg "range" = none
  min : mg "min" = none
  repr : mg "repr" = none
  reversed : mg "reversed" = none
  isinstance : mg "isinstance" = none
section
variable {P : Program} {w : World} {K : PySem.W.Frag} {mg : Str → Option Value} {base : Heap}
def isStr : PyData → Bool
  | .str _ => true
  | _ => false
theorem kit_str {H : Hp} {v : V} {d : PyData} (h : Th H v d) : ∃ t b, TyX K H v t ∧ PySem.W.kitOne K t (.type "str") = some b ∧ b = isStr d := by
  cases h with
  | atm a => cases a with
    | non => exact ⟨.type "NoneType", false, .base .non, kit_ty (by decide +kernel), rfl⟩
    | bl b => exact ⟨.type "bool", false, .base (.bl b), kit_ty (by decide +kernel), rfl⟩
    | int i => exact ⟨.type "int", false, .base (.int i), kit_ty (by decide +kernel), rfl⟩
    | str x => exact ⟨.type "str", true, .base (.str x), kit_ty (by decide +kernel), rfl⟩
  | lst e _ _ => exact ⟨.type "list", false, .base (.lst e), kit_ty (by decide +kernel), rfl⟩
  | tup e _ => exact ⟨.type "tuple", false, .base (.tup e), kit_ty (by decide +kernel), rfl⟩
  | dct e => exact ⟨.type "dict", false, .base (.dK e), kit_ty (by decide +kernel), rfl⟩
/-- a text: a string of letters -/
def isT : PyData → Bool
  | .str z => decide (V.str (Txt.lstripChars z letS) = V.str "")
  | _ => false
/-- strings of values are short -/
def Srt (d : PyData) : Prop := match d with | .str z => z.length ≤ 1000 ∧ PyData.strOk z = true | _ => True
def spTest (f : PyData → Bool) : Sp := fun vs H Q _ => ∃ v d, vs = [v] ∧ Th H v d ∧ Srt d ∧ Q (.bl (f d)) H
abbrev s_is_text : Stmt := top 2
theorem sc_is_text : FnScope ["value"] ["value"] (defScope s_is_text) := ⟨rfl, rfl, rfl, by decide +kernel, rfl, by decide +kernel, by decide +kernel⟩
theorem b_is_text {f : Addr} {fd : FuncData} (F : Fun K "is_text" "is_text" s_is_text f fd) (T : Txt mg) (g_LETTERS : ∃ u, mg "LETTERS" = some u ∧ RelV (.str letS) u) : FnG P w K mg base CX0 1 f fd ["value"] (spTest isT) := by
  refine okG0 F sc_is_text (fun vs H Q E h => ?_) (fun cdv A outer s H vs Q E hg hr h => ?_)
  · obtain ⟨v, d, rfl, _⟩ := h
    rfl
  · have hu := hu_of hr
    have hu64 := hr.units
    obtain ⟨v, d, rfl, th, sr, k⟩ := h
    obtain ⟨t, b, ty, kt, hb⟩ := kit_str (K := K) th
    refine ⟨_, (pss_one (ps_ret (pe_and (pe_callB call_isi (by rfl) T.isinstance (by decide +kernel) (pa_cons (pv 0) (pa_cons (pe_bltn (v := .ty "str") (by rfl) T.str rfl rfl) pa_nil))) (pe_one (pe_cmpR op_eq (pe_bm PySem.F.plainAttrs_str PySem.F.slot_str_lstrip PySem.F.type_str_lstrip mt_lstripChars (pv 0) (pa_cons (C8.pe_gc (by rfl) g_LETTERS) pa_nil)) pe_str (nomark _)))))), ?_⟩
    refine ⟨_, rfl, v, .ty "str", t, .type "str", b, rfl, .ty "str", ty, kt, _, rfl, ?_⟩
    cases th with
    | atm a =>
      cases a with
      | str x =>
        subst hb
        refine iteT ⟨_, rfl, rfl, x, _, rfl, rfl, few_len sr.1, rfl, ?_⟩
        exact k
      | _ => subst hb; exact iteF k
    | _ => subst hb; exact iteF k

theorem isT_str {d : PyData} (h : isT d = true) : ∃ z, d = .str z := by
  cases d with
  | str z => exact ⟨z, rfl⟩
  | _ => cases h
theorem th_str {H : Hp} {v : V} {z : Str} (h : Th H v (.str z)) : v = .str z := by
  cases h with
  | atm a => cases a; rfl
theorem isT_all {z : Str} : isT (.str z) = z.cps.toList.all letS.cps.contains := by
  unfold isT
  rw [Bool.eq_iff_iff, ← lstrip_all]
  simp
/-- the signs of z that are no letters, among the first i -/
def odd (z : Str) (i : Nat) : List Nat := (z.cps.toList.take i).filter fun c => !decide (c ∈ letS.cps.toList)
theorem odd_next {z : Str} {i c : Nat} (h : z.cps[i]? = some c) : odd z (i + 1) = if (!decide (c ∈ letS.cps.toList)) = true then odd z i ++ [c] else odd z i := by
  unfold odd
  have e : z.cps.toList[i]? = some c := by rw [Array.getElem?_toList]; exact h
  rw [List.take_add_one, e, List.filter_append]
  cases m : decide (c ∈ letS.cps.toList) with
  | true => simp only [Option.toList_some, List.filter_cons, m, Bool.not_true, Bool.false_eq_true, if_false, List.filter_nil, List.append_nil]
  | false => simp only [Option.toList_some, List.filter_cons, m, Bool.not_false, if_true, List.filter_nil]
theorem odd_len {z : Str} {i : Nat} : (odd z i).length ≤ z.length := by
  unfold odd
  refine Nat.le_trans (List.length_filter_le _ _) ?_
  rw [List.length_take]
  exact Nat.le_trans (Nat.min_le_right _ _) (by simp [Str.length])
theorem odd_all {z : Str} : PyData.eqv (.list ((odd z z.cps.size).map fun c => .str ⟨#[c]⟩)) (.list []) = isT (.str z) := by
  rw [isT_all]
  have e : odd z z.cps.size = z.cps.toList.filter fun c => !decide (c ∈ letS.cps.toList) := by
    unfold odd
    rw [List.take_of_length_le (by simp)]
  rw [e]
  cases h : z.cps.toList.all letS.cps.contains with
  | true =>
    have n : (z.cps.toList.filter fun c => !decide (c ∈ letS.cps.toList)) = [] := by
      rw [List.filter_eq_nil_iff]
      intro c hc
      have q := List.all_eq_true.mp h c hc
      have m : c ∈ letS.cps.toList := by simpa using q
      simp [m]
    rw [n]
    simp [PyData.eqv, PyData.eqvAll]
  | false =>
    have n : (z.cps.toList.filter fun c => !decide (c ∈ letS.cps.toList)) ≠ [] := by
      intro n
      rw [List.filter_eq_nil_iff] at n
      have q : z.cps.toList.all letS.cps.contains = true := by
        rw [List.all_eq_true]
        intro c hc
        have m := n c hc
        simpa using m
      rw [q] at h
      cases h
    revert n
    cases z.cps.toList.filter fun c => !decide (c ∈ letS.cps.toList) with
    | nil => exact fun n => absurd rfl n
    | cons a r => exact fun _ => by simp [PyData.eqv, PyData.eqvAll]
theorem odd_ok {z : Str} (h : PyData.strOk z = true) (i : Nat) : SeqAt.shaped (.list ((odd z i).map fun c => .str ⟨#[c]⟩)) = true := by
  have all : ∀ l : List Nat, (∀ c ∈ l, c < 0x110000) → PyData.canLayAll0 (l.map fun c => PyData.str ⟨#[c]⟩) = true ∧ PyData.depthAll (l.map fun c => PyData.str ⟨#[c]⟩) ≤ 1 := by
    intro l
    induction l with
    | nil => intro _; exact ⟨rfl, by simp [PyData.depthAll]⟩
    | cons a r ih =>
      intro m
      obtain ⟨i1, i2⟩ := ih fun c hc => m c (List.mem_cons_of_mem _ hc)
      have m1 := m a List.mem_cons_self
      refine ⟨?_, ?_⟩
      · rw [List.map_cons]
        simp only [PyData.canLayAll0, PyData.canLay0, i1, Bool.and_true]
        simp [PyData.strOk, m1]
      · rw [List.map_cons]
        simp only [PyData.depthAll, PyData.depth]
        omega
  obtain ⟨a1, a2⟩ := all (odd z i) fun c hc => by
    unfold odd at hc
    have m := List.mem_of_mem_take (List.mem_filter.mp hc).1
    have h2 : z.cps.all (· < 0x110000) = true := h
    rw [Array.all_eq_true_iff_forall_mem] at h2
    have := h2 c (by simpa using m)
    simpa using this
  unfold SeqAt.shaped
  rw [Bool.and_eq_true, decide_eq_true_eq]
  refine ⟨by simpa [PyData.canLay0] using a1, ?_⟩
  simp only [PyData.depth]
  omega
/-- as spTest, new things may be laid -/
def spSays (f : PyData → Bool) : Sp := fun vs H Q _ => ∃ v d, vs = [v] ∧ Th H v d ∧ Srt d ∧ ∀ H', Same H H' → Q (.bl (f d)) H'
theorem dp_signs {H : Hp} : ∀ l : List Nat, DpAll K H (l.map fun c => V.str ⟨#[c]⟩) (l.map fun c => PyData.str ⟨#[c]⟩)
  | [] => .nil
  | c :: r => .cons (.str _) (dp_signs r)
abbrev s_lsigns : Stmt := top 27
theorem sc_lsigns : FnScope [] [] (defScope s_lsigns) := ⟨rfl, rfl, rfl, by decide +kernel, rfl, by decide +kernel, by decide +kernel⟩
theorem b_lsigns {f : Addr} {fd : FuncData} (F : Fun K "_law_signs" "_law_signs" s_lsigns f fd) (T : Txt mg) : FnG P w K mg base CX0 1 f fd [] spSigns := by
  refine okG0 F sc_lsigns (fun vs H Q E h => ?_) (fun cdv A outer s H vs Q E hg hr h => ?_)
  · obtain ⟨rfl, _⟩ := h
    rfl
  · have hu := hu_of hr
    have hu64 := hr.units
    obtain ⟨rfl, k⟩ := h
    exact ⟨_, (pss_one (ps_ret pe_str)), k⟩

abbrev s_lis_text : Stmt := top 28
theorem sc_lis_text : FnScope ["_law_thing", "_law_sign"] ["_law_thing"] (defScope s_lis_text) := ⟨rfl, rfl, rfl, by decide +kernel, rfl, by decide +kernel, by decide +kernel⟩
theorem b_lis_text {f : Addr} {fd : FuncData} (F : Fun K "_law_is_text" "_law_is_text" s_lis_text f fd) (T : Txt mg) (c_lsigns : CalG P w K mg base CX0 1 "_law_signs" spSigns) : FnG P w K mg base CX0 2 f fd ["_law_thing"] (spSays isT) := by
  refine okG0 F sc_lis_text (fun vs H Q E h => ?_) (fun cdv A outer s H vs Q E hg hr h => ?_)
  · obtain ⟨v, d, rfl, _⟩ := h
    rfl
  · have hu := hu_of hr
    have hu64 := hr.units
    obtain ⟨v, d, rfl, th, sr, k⟩ := h
    obtain ⟨t, b, ty, kt, hb⟩ := kit_str (K := K) th
    have hr1 : Room 1 _ := hr
    refine ⟨_, (pss_one (ps_ret (pe_and (pe_callB call_isi (by rfl) T.isinstance (by decide +kernel) (pa_cons (pv 0) (pa_cons (pe_bltn (v := .ty "str") (by rfl) T.str rfl rfl) pa_nil))) (pe_one (pe_cmpR (op_eqD hu64) (pe_lc (own := [("_law_sign", 1)]) (g := gName 1) rfl sc_lis_text.nd (pi_str (pv 0)) (blkOk_by (own := [("_law_sign", 1)]) (N := ["_law_thing", "_law_sign"]) (sc := defScope s_lis_text) (by decide +kernel)) (fun _ _ _ _ _ => (pg_name (i := 1) sc_lis_text.nd rfl (Or.inl rfl))) (fun _ _ _ _ _ => (pts_one (pt_cmpR op_notIn_sign (pv 1) (pe_cG0 c_lsigns hg hr (by decide) pass0) (by rfl)))) (fun _ _ _ _ _ => (pv 1))) (pe_lst pa_nil) (nomark _)))))), ?_⟩
    refine ⟨_, rfl, v, .ty "str", t, .type "str", b, rfl, .ty "str", ty, kt, _, rfl, ?_⟩
    have other : isStr d = false → Q (.bl false) H := fun z => by
      have e : isT d = false := by cases d <;> first | rfl | cases z
      rw [e] at k
      exact k H Same.rfl
    rw [hb]
    match hd : isStr d with
    | false => exact iteF (other hd)
    | true =>
      obtain ⟨z, rfl⟩ : ∃ z, d = .str z := by
        cases d with
        | str z => exact ⟨z, rfl⟩
        | _ => cases hd
      cases th_str th
      refine iteT ⟨_, rfl, z, rfl, fun D hD => ?_⟩
      refine lc_str (fun i H2 => (∀ a o, H a = some o → H2 a = some o) ∧ H2 D = some (.lst ((odd z i).map fun c => V.str ⟨#[c]⟩))) ⟨same_new hD, upd_same⟩ (fun i c H2 hc p => ?_) (fun H2 p => ?_)
      · have nx := odd_next hc
        refine ⟨rfl, _, rfl, ⟨rfl, c, letS, rfl, rfl, _, rfl, ?_⟩⟩
        show (if (!decide (c ∈ letS.cps.toList)) = true then _ else _)
        cases m : (!decide (c ∈ letS.cps.toList)) with
        | true =>
          rw [m, if_pos rfl] at nx
          rw [if_pos rfl]
          refine ⟨_, rfl, _, p.2, Nat.lt_of_le_of_lt (Nat.le_trans (by rw [List.length_map]; exact odd_len) sr.1) (by rw [sizeLine_eq]; decide), fun a o h => ?_, ?_⟩
          · rw [upd_ne (ne_of_none h hD)]
            exact p.1 _ _ h
          · rw [nx, List.map_append]
            exact upd_same
        | false =>
          rw [m, if_neg (by decide)] at nx
          rw [if_neg (by decide), nx]
          exact p
      · refine ⟨few_len (Nat.zero_le _), fun q hq => ⟨_, _, .lst (SqL.of ((same_new hq) _ _ p.2)) (dp_signs _), .lst (SqL.of upd_same) .nil, odd_ok sr.2 _, by decide +kernel, ?_⟩⟩
        rw [odd_all]
        exact k _ (Same.trans p.1 (same_new hq))

def isIntB : PyData → Bool
  | .int _ => true
  | _ => false
theorem kit_int {H : Hp} {v : V} {d : PyData} (h : Th H v d) : ∃ t b c, TyX K H v t ∧ PySem.W.kitOne K t (.type "int") = some b ∧ PySem.W.kitOne K t (.type "bool") = some c ∧ (b && !c) = isIntB d ∧ (isIntB d = false → b = true → c = true) := by
  cases h with
  | atm a => cases a with
    | non => exact ⟨.type "NoneType", false, false, .base .non, kit_ty (by decide +kernel), kit_ty (by decide +kernel), rfl, fun _ z => nomatch z⟩
    | bl b => exact ⟨.type "bool", true, true, .base (.bl b), kit_ty (by decide +kernel), kit_ty (by decide +kernel), rfl, fun _ _ => rfl⟩
    | int i => exact ⟨.type "int", true, false, .base (.int i), kit_ty (by decide +kernel), kit_ty (by decide +kernel), rfl, fun z => nomatch z⟩
    | str x => exact ⟨.type "str", false, false, .base (.str x), kit_ty (by decide +kernel), kit_ty (by decide +kernel), rfl, fun _ z => nomatch z⟩
  | lst e _ _ => exact ⟨.type "list", false, false, .base (.lst e), kit_ty (by decide +kernel), kit_ty (by decide +kernel), rfl, fun _ z => nomatch z⟩
  | tup e _ => exact ⟨.type "tuple", false, false, .base (.tup e), kit_ty (by decide +kernel), kit_ty (by decide +kernel), rfl, fun _ z => nomatch z⟩
  | dct e => exact ⟨.type "dict", false, false, .base (.dK e), kit_ty (by decide +kernel), kit_ty (by decide +kernel), rfl, fun _ z => nomatch z⟩
theorem kit_tup {H : Hp} {v : V} {d : PyData} (h : Th H v d) : ∃ t b, TyX K H v t ∧ PySem.W.kitOne K t (.type "tuple") = some b ∧ b = (match d with | .tuple _ => true | _ => false) := by
  cases h with
  | atm a => cases a with
    | non => exact ⟨.type "NoneType", false, .base .non, kit_ty (by decide +kernel), rfl⟩
    | bl b => exact ⟨.type "bool", false, .base (.bl b), kit_ty (by decide +kernel), rfl⟩
    | int i => exact ⟨.type "int", false, .base (.int i), kit_ty (by decide +kernel), rfl⟩
    | str x => exact ⟨.type "str", false, .base (.str x), kit_ty (by decide +kernel), rfl⟩
  | lst e _ _ => exact ⟨.type "list", false, .base (.lst e), kit_ty (by decide +kernel), rfl⟩
  | tup e _ => exact ⟨.type "tuple", true, .base (.tup e), kit_ty (by decide +kernel), rfl⟩
  | dct e => exact ⟨.type "dict", false, .base (.dK e), kit_ty (by decide +kernel), rfl⟩
def inI (d : PyData) (lo hi : Int) : Bool := match d with | .int i => decide (lo ≤ i) && decide (i ≤ hi) | _ => false
def spIsInt : Sp := fun vs H Q _ => ∃ v d, vs = [v] ∧ Th H v d ∧ Q (.bl (isIntB d)) H
def spInI : Sp := fun vs H Q _ => ∃ v d lo hi, vs = [v, .int lo, .int hi] ∧ Th H v d ∧ Q (.bl (inI d lo hi)) H
theorem int_th {H : Hp} {v : V} {d : PyData} (h : Th H v d) (z : isIntB d = true) : ∃ i, d = .int i ∧ v = .int i := by
  cases h with
  | atm a => cases a with
    | int i => exact ⟨i, rfl, rfl⟩
    | _ => cases z
  | _ => cases z
theorem inI_no {d : PyData} {lo hi : Int} (z : isIntB d = false) : inI d lo hi = false := by
  cases d with
  | int i => cases z
  | _ => rfl
abbrev s_is_integer : Stmt := top 4
theorem sc_is_integer : FnScope ["value"] ["value"] (defScope s_is_integer) := ⟨rfl, rfl, rfl, by decide +kernel, rfl, by decide +kernel, by decide +kernel⟩
theorem b_is_integer {f : Addr} {fd : FuncData} (F : Fun K "is_integer" "is_integer" s_is_integer f fd) (T : Txt mg) : FnG P w K mg base CX0 1 f fd ["value"] spIsInt := by
  refine okG0 F sc_is_integer (fun vs H Q E h => ?_) (fun cdv A outer s H vs Q E hg hr h => ?_)
  · obtain ⟨v, d, rfl, _⟩ := h
    rfl
  · have hu := hu_of hr
    have hu64 := hr.units
    obtain ⟨v, d, rfl, th, k⟩ := h
    obtain ⟨t, b, c, ty, kt, kc, hb, _⟩ := kit_int (K := K) th
    refine ⟨_, (pss_one (ps_ret (pe_and (pe_callB call_isi (by rfl) T.isinstance (by decide +kernel) (pa_cons (pv 0) (pa_cons (pe_bltn (v := .ty "int") (by rfl) T.int rfl rfl) pa_nil))) (pe_one (pe_not (pe_callB call_isi (by rfl) T.isinstance (by decide +kernel) (pa_cons (pv 0) (pa_cons (pe_bltn (v := .ty "bool") (by rfl) T.bool rfl rfl) pa_nil)))))))), ?_⟩
    refine ⟨_, rfl, v, .ty "int", t, .type "int", b, rfl, .ty "int", ty, kt, _, rfl, ?_⟩
    rw [← hb] at k
    cases b with
    | false => exact iteF k
    | true => exact iteT ⟨_, rfl, v, .ty "bool", t, .type "bool", c, rfl, .ty "bool", ty, kc, _, rfl, k⟩

abbrev s_is_integer_in : Stmt := top 5
theorem sc_is_integer_in : FnScope ["value", "low", "high"] ["value", "low", "high"] (defScope s_is_integer_in) := ⟨rfl, rfl, rfl, by decide +kernel, rfl, by decide +kernel, by decide +kernel⟩
theorem b_is_integer_in {f : Addr} {fd : FuncData} (F : Fun K "is_integer_in" "is_integer_in" s_is_integer_in f fd) (T : Txt mg) (c_is_integer : CalG P w K mg base CX0 1 "is_integer" spIsInt) : FnG P w K mg base CX0 2 f fd ["value", "low", "high"] spInI := by
  refine okG0 F sc_is_integer_in (fun vs H Q E h => ?_) (fun cdv A outer s H vs Q E hg hr h => ?_)
  · obtain ⟨v, d, lo, hi, rfl, _⟩ := h
    rfl
  · have hu := hu_of hr
    have hu64 := hr.units
    obtain ⟨v, d, lo, hi, rfl, th, k⟩ := h
    refine ⟨_, (pss_one (ps_ret (pe_and (pe_cG c_is_integer hg hr (by decide) pass0 (pa_cons (pv 0) pa_nil)) (pe_one (pe_chain op_le op_le (pv 1) (pv 0) (pv 2)))))), ?_⟩
    refine ⟨_, rfl, v, d, rfl, th, _, rfl, ?_⟩
    cases hI : isIntB d with
    | false =>
      rw [inI_no hI] at k
      exact iteF k
    | true =>
      obtain ⟨i, rfl, rfl⟩ := int_th th hI
      have k : Q (.bl (decide (lo ≤ i) && decide (i ≤ hi))) H := k
      refine iteT ⟨_, rfl, _, rfl, ?_⟩
      refine ⟨_, _, rfl, rfl, _, rfl, ?_⟩
      cases h1 : decide (lo ≤ i) with
      | false =>
        rw [h1, Bool.false_and] at k
        exact iteF k
      | true =>
        rw [h1, Bool.true_and] at k
        exact iteT ⟨_, rfl, _, _, rfl, rfl, k⟩

end
end Vk
set_option Elab.async false
set_option maxRecDepth 100000
set_option maxHeartbeats 4000000
set_option linter.all false
namespace Vk
open L2 PySem PySem.Spec PyProof.Rows PySem.VkX
/-! ## several except clauses, two classes in one among them -/
inductive Cly
  | only (c : Value) (ts : Sui)
  | named (c : Value) (i : Nat) (ts : Sui)
  | pair (c1 c2 : Value) (ts : Sui)
inductive ClyOk (X : Cx) : List ExceptHandler → List Cly → Prop
  | nil : ClyOk X [] []
  | only {x : Str} {c : Value} {ts : Sui} {s0 : Stmt} {ss : List Stmt} {p1 p2 : Pos} {hs : List ExceptHandler} {l : List Cly} (hc : Names X x c) (su : SuiOk X (s0 :: ss) ts) (r : ClyOk X hs l) : ClyOk X (.ExceptHandler (some (.Name x p1)) none (s0 :: ss) p2 :: hs) (.only c ts :: l)
  | named {x n : Str} {c : Value} {i : Nat} {ts : Sui} {s0 : Stmt} {ss : List Stmt} {p1 p2 : Pos} {hs : List ExceptHandler} {l : List Cly} (hi : X.N[i]? = some n) (hl : X.env.kindOf n = some .local) (hc : Names X x c) (su : SuiOk X (s0 :: ss) ts) (r : ClyOk X hs l) :
      ClyOk X (.ExceptHandler (some (.Name x p1)) (some n) (s0 :: ss) p2 :: hs) (.named c i ts :: l)
  | pair {x y : Str} {c1 c2 : Value} {ts : Sui} {s0 : Stmt} {ss : List Stmt} {p1 p2 p3 pt : Pos} {kk : Nat} {hs : List ExceptHandler} {l : List Cly} (hx : Names X x c1) (hy : Names X y c2) (su : SuiOk X (s0 :: ss) ts) (r : ClyOk X hs l) :
      ClyOk X (.ExceptHandler (some (.Tuple [.Name x p1, .Name y p3] kk pt)) none (s0 :: ss) p2 :: hs) (.pair c1 c2 ts :: l)
section
variable {X : Cx} {body : List Stmt} {e0 : ExceptHandler} {es : List ExceptHandler} {l : List Cly} {pos : Pos} {tb : WX → TS} {W0 : WX}
end
end Vk
set_option Elab.async false
set_option maxRecDepth 100000
set_option maxHeartbeats 4000000
set_option linter.all false
namespace Vk
open PySem PySem.Spec PyProof.Rows L2
/-! ## x[::-1], x a text -/
theorem back_idx (n : Nat) : Builtin.Str.strSliceIndices none none (-1) n = (List.range n).reverse := by
  rw [← PySem.W.krv_range, ← PySem.W.krv_sliceRange]
  rfl
/-- read from the end -/
def backS (z : Str) : Str := ⟨z.cps.toList.reverse.toArray⟩
def tRevS (te : TE) : TE := fun σ H Q => te σ H fun x H1 => ∃ z, x = .str z ∧ z.length ≤ sizeLine ∧ Q (.str (backS z)) H1
theorem pe_revS {X : Cx} {e : Expr} {te : TE} {k : Nat} {p1 p2 p3 pos : Pos} (he : PE X e te) : PE X (.Subscript e (.Slice none none (some (.UnaryOp .USub (.Constant (.int 1) k p1) p2)) p3) pos) (tRevS te) := by
  refine ⟨fun pins s σ H Q I h => ?_⟩
  refine Subscript_ (thn (he.run pins s σ H _ I h) fun v s1 ⟨x, H1, I1, r1, q1⟩ => ?_)
  obtain ⟨z, rfl, hz, q⟩ := q1
  obtain ⟨t, rfl⟩ := r1
  have step : PO X (some (.UnaryOp .USub (.Constant (.int 1) k p1) p2)) (tPart (tUn (rU fun i => .int (-i)) (tC (.int 1)))) := po_some (pe_un un_neg pe_int)
  refine wpAny_Slice (thn (po_none.run pins s1 σ H1 (fun o H2 => o = none ∧ H2 = H1) I1 ⟨rfl, rfl⟩) fun vl s2 ⟨l, H2, I2, pl, el, e2⟩ => ?_)
  subst el e2
  refine thn (po_none.run pins s2 σ H2 (fun o H3 => o = none ∧ H3 = H2) I2 ⟨rfl, rfl⟩) fun vu s3 ⟨u, H3, I3, pu, eu, e3⟩ => ?_
  subst eu e3
  refine thn (step.run pins s3 σ H3 (fun o H4 => o = some (-1) ∧ H4 = H3) I3 ⟨1, rfl, -1, rfl, rfl, rfl⟩) fun vs s4 ⟨o, H4, I4, ps, eo, e4⟩ => ?_
  subst eo e4
  have I5 : Inv X pins σ H4 { s4 with heap := s4.heap.push { cls := .type "slice", data := .fields #[vl, vu, vs] } } := I4.kept (t' := s4.toks) fun b ob q => Heap.get?_push_of_some _ q
  obtain ⟨pl1, rfl, el⟩ := IsPart.raw pl
  obtain ⟨pu1, rfl, eu⟩ := IsPart.raw pu
  obtain ⟨ps1, rfl, es⟩ := IsPart.raw ps
  match pl1, pu1, ps1, el, eu, es with
  | none, none, some (m, tm), _, _, es =>
    have em : m = -1 := Option.some.inj es
    subst em
    refine tail_any (ops := [.str z t, .ref s4.heap.objs.size]) (typeIs_str _ _ _) F.slot_str_getitem.lookup ?_ (by with_unfolding_all rfl)
    refine wpAny_getItem_str_slice (l := none) (u := none) (st := some (-1, tm)) ⟨_, Heap.get?_push_size _ rfl, rfl, rfl⟩ rfl ?_
    have e : (⟨((Builtin.Str.strSliceIndices none none (-1) z.length).filterMap (z.cps[·]?)).toArray⟩ : Str) = backS z := by
      rw [back_idx, List.filterMap_reverse]
      unfold backS
      exact congrArg (fun l : List Nat => (⟨l.reverse.toArray⟩ : Str)) (PySem.W.krv_all z.cps)
    show Made.post (Made.str ⟨((Builtin.Str.strSliceIndices none none (-1) z.length).filterMap (z.cps[·]?)).toArray⟩) (EP X pins σ Q) _
    rw [e]
    have hl : (backS z).length ≤ sizeLine := by
      show (z.cps.toList.reverse.toArray).size ≤ sizeLine
      rw [List.size_toArray, List.length_reverse, Array.length_toList]
      exact hz
    exact ⟨hl, .str _, H4, I5.tok _, ⟨_, rfl⟩, q⟩
end Vk
set_option Elab.async false
set_option maxRecDepth 100000
set_option maxHeartbeats 4000000
set_option linter.all false
namespace Vk
open PySem PySem.Spec PyProof.Rows L2 HT
/-! ## t[::-1], t a tuple -/
section
variable {prog : Program} {w : World} {A : Around} {E : Value → Shared → Prop} {s : Shared}
end
end Vk
set_option Elab.async false
set_option maxRecDepth 100000
set_option maxHeartbeats 4000000
set_option linter.all false
namespace Vk
open PySem PySem.Spec PyProof.Rows L2 LamX
/-! ## things: a value, or a list or a tuple of values -/
inductive Tg (H : Hp) : V → PyData → Prop
  | one {v : V} {d : PyData} : Th H v d → (∀ ds, d ≠ .tuple ds) → Tg H v d
  | lst {a : Addr} {vs : List V} {ds : List PyData} : H a = some (.lst vs) → Paired (Th H) vs ds → Tg H (.ref a) (.list ds)
  | tup {a : Addr} {vs : List V} {ds : List PyData} : H a = some (.tup vs) → Paired (Th H) vs ds → Tg H (.ref a) (.tuple ds)
theorem atms_ths {H : Hp} : ∀ {vs : List V} {ds : List PyData}, Paired Atm vs ds → Paired (Th H) vs ds
  | _, _, .nil => .nil
  | _, _, .cons a t => .cons (.atm a) (atms_ths t)
theorem Th.tg {H : Hp} {v : V} {d : PyData} (h : Th H v d) : Tg H v d := by
  cases h with
  | atm a => exact .one (.atm a) (fun ds z => by cases a <;> cases z)
  | lst e n p => exact .one (.lst e n p) (fun ds z => by cases z)
  | tup e p => exact .tup e (atms_ths p)
  | dct e => exact .one (.dct e) (fun ds z => by cases z)
theorem Tg.keep {H H' : Hp} {v : V} {d : PyData} (h : Tg H v d) (s : Same H H') : Tg H' v d := by
  cases h with
  | one th n => exact .one (th.keep s) n
  | lst e p => exact .lst (s _ _ e) (ths_keep s p)
  | tup e p => exact .tup (s _ _ e) (ths_keep s p)
theorem ths_ext {H H' : Hp} {p c : Addr} {T : Nat} (hp : Pen H p c T) (x : Ext p H H') : ∀ {vs : List V} {ds : List PyData}, Paired (Th H) vs ds → Paired (Th H') vs ds
  | _, _, .nil => .nil
  | _, _, .cons a t => .cons (a.ext hp x) (ths_ext hp x t)
theorem Tg.ext {H H' : Hp} {p c : Addr} {T : Nat} {v : V} {d : PyData} (h : Tg H v d) (hp : Pen H p c T) (x : Ext p H H') : Tg H' v d := by
  have ne : ∀ {a o}, H a = some o → (∀ k, o ≠ .dK k) → H' a = some o := fun {a o} e n => x _ _ e fun z => by
    obtain ⟨t, l, hl⟩ := hp.is
    rw [z, hl] at e
    exact n _ (Option.some.inj e).symm
  cases h with
  | one th n => exact .one (th.ext hp x) n
  | lst e p => exact .lst (ne e fun _ z => nomatch z) (ths_ext hp x p)
  | tup e p => exact .tup (ne e fun _ z => nomatch z) (ths_ext hp x p)
/-- the thing's kind -/
def isTupB : PyData → Bool
  | .tuple _ => true
  | _ => false
end Vk
set_option Elab.async false
set_option maxRecDepth 100000
set_option linter.all false
set_option maxHeartbeats 4000000
namespace Vk
open PySem PySem.Spec PyProof.Rows L2
section
variable {P : Program} {w : World} {K : PySem.W.Frag} {mg : Str → Option Value} {base : Heap}
theorem find_two {x w : Str} : (∃ z : Int, Txt.find x w = z ∧ ∃ y : Int, Txt.find3 x w (z + 1) = y ∧ (decide (0 ≤ y) = decide (2 ≤ (plc x w).length))) := by
  have nd := plc_asc x w
  have mem : ∀ i, StrLaws.At x w x.length i ↔ i ∈ plc x w := fun i => by
    unfold plc
    rw [List.mem_filter, List.mem_range, atB_iff]
    exact ⟨fun h => ⟨by have := h.1; omega, h⟩, fun h => h.2⟩
  have ef : ∀ i : Nat, Txt.find3 x w ((i : Nat) : Int) = (match Builtin.Str.occurrences x w i x.length 1 with | i :: _ => (i : Int) | [] => -1) := fun i => by
    unfold Txt.find3
    rw [show fromIndex x.length ((i : Nat) : Int) = i by unfold fromIndex; rw [if_neg (by omega)]; omega]
    cases Builtin.Str.occurrences x w i x.length 1 <;> rfl
  have key : ∀ i : Nat, i ≤ x.length + 1 → (Txt.find3 x w ((i : Nat) : Int) = -1 ∧ ∀ k, i ≤ k → ¬ StrLaws.At x w x.length k) ∨ ∃ j : Nat, Txt.find3 x w ((i : Nat) : Int) = (j : Int) ∧ i ≤ j ∧ StrLaws.At x w x.length j ∧ ∀ k, i ≤ k → k < j → ¬ StrLaws.At x w x.length k := fun i hi => by
    rw [ef]
    exact find_from x w i hi
  have f0 : (Txt.find x w = -1 ∧ ∀ k, 0 ≤ k → ¬ StrLaws.At x w x.length k) ∨ ∃ j : Nat, Txt.find x w = (j : Int) ∧ 0 ≤ j ∧ StrLaws.At x w x.length j ∧ ∀ k, 0 ≤ k → k < j → ¬ StrLaws.At x w x.length k := find_from x w 0 (Nat.zero_le _)
  refine ⟨_, rfl, _, rfl, ?_⟩
  rcases f0 with ⟨h1, h2⟩ | ⟨i, h1, h2, h3, h4⟩
  · have en : plc x w = [] := List.eq_nil_iff_forall_not_mem.mpr fun k hk => h2 k (Nat.zero_le _) ((mem k).mpr hk)
    have k0 := key 0 (Nat.zero_le _)
    rw [h1, en]
    rcases k0 with ⟨g1, _⟩ | ⟨j, _, _, g3, _⟩
    · rw [show ((-1 : Int) + 1) = ((0 : Nat) : Int) by rfl, g1]
      decide
    · exact absurd g3 (h2 j (Nat.zero_le _))
  · have il : i ≤ x.length := by have := h3.1; omega
    have hi := (mem i).mp h3
    rw [h1, show ((i : Int) + 1) = ((i + 1 : Nat) : Int) by omega, decide_eq_decide, two_of nd hi]
    rcases key (i + 1) (by omega) with ⟨g1, g2⟩ | ⟨j, g1, g2, g3, g4⟩
    · rw [g1]
      constructor
      · intro h; omega
      · rintro ⟨k, hk, hne⟩
        have hk2 := (mem k).mpr hk
        by_cases lt : k < i
        · exact absurd hk2 (h4 k (Nat.zero_le _) lt)
        · exact absurd hk2 (g2 k (by omega))
    · rw [g1]
      exact ⟨fun _ => ⟨j, (mem j).mp g3, by omega⟩, fun _ => by omega⟩
def spTwice : Sp := fun vs H Q _ => ∃ x w, vs = [.str x, .str w] ∧ Q (.bl (decide (2 ≤ (plc x w).length))) H
abbrev s_stands_twice : Stmt := top 9
theorem sc_stands_twice : FnScope ["text", "word"] ["text", "word"] (defScope s_stands_twice) := ⟨rfl, rfl, rfl, by decide +kernel, rfl, by decide +kernel, by decide +kernel⟩
theorem b_stands_twice {f : Addr} {fd : FuncData} (F : Fun K "stands_twice" "stands_twice" s_stands_twice f fd) (T : Txt mg) : FnG P w K mg base CX0 1 f fd ["text", "word"] spTwice := by
  refine okG0 F sc_stands_twice (fun vs H Q E h => ?_) (fun cdv A outer s H vs Q E hg hr h => ?_)
  · obtain ⟨x, w, rfl, _⟩ := h
    rfl
  · have hu := hu_of hr
    have hu64 := hr.units
    obtain ⟨x, w, rfl, k⟩ := h
    refine ⟨_, (pss_one (ps_ret (pe_cmpR op_ge (pe_bm PySem.F.plainAttrs_str PySem.F.slot_str_find PySem.F.type_str_find mt_find3 (pv 0) (pa_cons (pv 1) (pa_cons (pe_op op_add (pe_bm PySem.F.plainAttrs_str PySem.F.slot_str_find PySem.F.type_str_find mt_find (pv 0) (pa_cons (pv 1) pa_nil)) pe_int) pa_nil))) pe_int (nomark _)))), ?_⟩
    obtain ⟨z, e1, y, e2, e3⟩ := @find_two x w
    refine ⟨_, rfl, rfl, _, rfl, _, rfl, rfl, _, rfl, x, w, rfl, rfl, ?_⟩
    rw [e1]
    refine ⟨_, _, rfl, rfl, x, w, _, rfl, rfl, ?_⟩
    rw [e2]
    refine ⟨_, _, rfl, rfl, ?_⟩
    show Q (V.bl (decide (0 ≤ y))) H
    rw [e3]
    exact k

def spOnce : Sp := fun vs H Q _ => ∃ x w, vs = [.str x, .str w] ∧ Q (.bl (decide ((plc x w).length = 1))) H
theorem in_plc {x w : Str} : (!(Builtin.Str.occurrences x w 0 x.length 1).isEmpty) = decide (1 ≤ (plc x w).length) := by
  rw [Bool.eq_iff_iff, PySem.StrLaws.found_iff, decide_eq_true_eq]
  constructor
  · rintro ⟨i, h1, h2⟩
    refine List.length_pos_of_mem (a := i) ?_
    unfold plc atB
    rw [List.mem_filter, List.mem_range, Bool.and_eq_true, decide_eq_true_eq]
    exact ⟨by omega, h1, h2⟩
  · intro h
    obtain ⟨i, hi⟩ := List.exists_mem_of_length_pos h
    unfold plc atB at hi
    rw [List.mem_filter, List.mem_range, Bool.and_eq_true, decide_eq_true_eq] at hi
    exact ⟨i, hi.2.1, hi.2.2⟩
abbrev s_stands_once : Stmt := top 10
theorem sc_stands_once : FnScope ["text", "word"] ["text", "word"] (defScope s_stands_once) := ⟨rfl, rfl, rfl, by decide +kernel, rfl, by decide +kernel, by decide +kernel⟩
theorem b_stands_once {f : Addr} {fd : FuncData} (F : Fun K "stands_once" "stands_once" s_stands_once f fd) (T : Txt mg) (c_stands_twice : CalG P w K mg base CX0 1 "stands_twice" spTwice) : FnG P w K mg base CX0 2 f fd ["text", "word"] spOnce := by
  refine okG0 F sc_stands_once (fun vs H Q E h => ?_) (fun cdv A outer s H vs Q E hg hr h => ?_)
  · obtain ⟨x, w, rfl, _⟩ := h
    rfl
  · have hu := hu_of hr
    have hu64 := hr.units
    obtain ⟨x, w, rfl, k⟩ := h
    have hr1 : Room 1 _ := hr
    refine ⟨_, (pss_one (ps_ret (pe_and (pe_cmpR op_in_str (pv 1) (pv 0) (by rfl)) (pe_one (pe_not (pe_cG c_stands_twice hg hr (by decide) pass0 (pa_cons (pv 0) (pa_cons (pv 1) pa_nil)))))))), ?_⟩
    refine ⟨_, rfl, _, rfl, w, x, rfl, rfl, _, rfl, ?_⟩
    rw [in_plc]
    by_cases c : 1 ≤ (plc x w).length
    · rw [decide_eq_true c]
      refine iteT ?_
      refine ⟨_, rfl, _, rfl, x, w, rfl, _, rfl, ?_⟩
      have e : (!decide (2 ≤ (plc x w).length)) = decide ((plc x w).length = 1) := by
        rw [← decide_not]
        exact decide_eq_decide.mpr (by omega)
      rw [e]
      exact k
    · rw [decide_eq_false c]
      refine iteF ?_
      rw [decide_eq_false (show ¬ (plc x w).length = 1 by omega)] at k
      exact k

/-- parts -/
def Rw3 (H : Hp) : List V → List (Nat × Nat × Str) → Prop := Paired (fun v (r : Nat × Nat × Str) => ∃ t, v = V.ref t ∧ H t = some (.tup [.int (r.1 : Nat), .int (r.2.1 : Nat), .str r.2.2]))
theorem Rw3.keep {H H1 : Hp} {xs : List V} {rs : List (Nat × Nat × Str)} (h : Rw3 H xs rs) (s : Same H H1) : Rw3 H1 xs rs := pair_mono (fun v p ⟨t, e, ht⟩ => ⟨t, e, s _ _ ht⟩) h
theorem Rw3.keepT {H H1 : Hp} {xs : List V} {rs : List (Nat × Nat × Str)} (h : Rw3 H xs rs) (s : ∀ u ws, H u = some (.tup ws) → H1 u = some (.tup ws)) : Rw3 H1 xs rs := pair_mono (fun v p ⟨t, e, ht⟩ => ⟨t, e, s _ _ ht⟩) h
def costE (e : Int) (r : Nat × Nat × Str) : Int := (r.2.1 : Int) - (r.1 : Int) + (r.2.2.length : Nat) + e
def spCost : Sp := fun vs H Q _ => ∃ (q : Addr) (e : Int) (xs : List V) (rs : List (Nat × Nat × Str)), vs = [.ref q, .int e] ∧ H q = some (.tup xs) ∧ Rw3 H xs rs ∧ rs.length ≤ 100 ∧ (∀ r ∈ rs, r.2.2.length ≤ 100) ∧ ∀ H', Same H H' → Q (.int ((rs.map (costE e)).sum)) H'
abbrev s_cost_of : Stmt := top 17
theorem sc_cost_of : FnScope ["exchange", "each", "begin", "end", "new"] ["exchange", "each"] (defScope s_cost_of) := ⟨rfl, rfl, rfl, by decide +kernel, rfl, by decide +kernel, by decide +kernel⟩
theorem b_cost_of {f : Addr} {fd : FuncData} (F : Fun K "cost_of" "cost_of" s_cost_of f fd) (T : Txt mg) : FnG P w K mg base CX0 1 f fd ["exchange", "each"] spCost := by
  refine okG0 F sc_cost_of (fun vs H Q E h => ?_) (fun cdv A outer s H vs Q E hg hr h => ?_)
  · obtain ⟨q, e0, xs, rs, rfl, _⟩ := h
    rfl
  · have hu := hu_of hr
    have hu64 := hr.units
    obtain ⟨q, e0, xs, rs, rfl, hq, rw0, hl, hz, k⟩ := h
    have glen := paired_len rw0
    refine ⟨_, (pss_one (ps_ret (pe_callB (cr_sum rfl) (by rfl) T.sum (by decide +kernel) (pa_cons (pe_lc (own := [("begin", 2), ("end", 3), ("new", 4)]) (g := (gTup K 3 (gCons (gName 2) (gCons (gName 3) (gCons (gName 4) gNil))))) (tt := tYes) rfl sc_cost_of.nd (pi_tup (pv 0)) (blkOk_by (own := [("begin", 2), ("end", 3), ("new", 4)]) (N := ["exchange", "each", "begin", "end", "new"]) (sc := defScope s_cost_of) (by decide +kernel)) (fun _ _ _ _ _ => (pg_tupK (K := K) rfl rfl (pgs_cons (pg_name (i := 2) sc_cost_of.nd rfl (Or.inl rfl)) (pgs_cons (pg_name (i := 3) sc_cost_of.nd rfl (Or.inl rfl)) (pgs_cons (pg_name (i := 4) sc_cost_of.nd rfl (Or.inl rfl)) pgs_nil))))) (fun _ _ _ _ _ => pts_nil) (fun _ _ _ _ _ => (pe_op op_add (pe_op op_add (pe_op op_sub (pv 3) (pv 2)) (pe_callB (call_lenK (K := K) rfl) (by rfl) T.len (by decide +kernel) (pa_cons (pv 4) pa_nil))) (pv 1)))) pa_nil)))), ?_⟩
    refine ⟨_, rfl, q, rfl, ⟨_, SqT.of hq⟩, fun D hD => ?_⟩
    have sD := same_new (o := .lst []) hD
    refine lc_tup (K := K) (a := q) (xs := xs) (fun n H' => H' D = some (.lst ((rs.take n).map fun r => V.int (costE e0 r))) ∧ Same H H') ?_ ?_ ?_ ?_
    · exact ⟨upd_same, sD⟩
    · rintro n H' _ ⟨_, sm⟩
      exact SqT.of (sm _ _ hq)
    · rintro n v H' hv ⟨hDz, sm⟩
      obtain ⟨r, hr1, t, rfl, ht⟩ := paired_at rw0 hv
      have zl : r.2.2.length ≤ sizeLine := Nat.le_of_lt (fewL (by have := hz r (List.mem_of_getElem? hr1); omega))
      refine ⟨t, _, rfl, SqT.of (sm _ _ ht), rfl, _, _, rfl, _, _, rfl, _, _, rfl, rfl, ?_⟩
      refine ⟨rfl, _, rfl, _, rfl, _, _, rfl, rfl, _, rfl, _, _, rfl, ⟨zl, rfl⟩, _, _, rfl, rfl, _, rfl, _, _, rfl, rfl, ?_⟩
      refine ⟨_, hDz, fewL (by rw [List.length_map, List.length_take]; omega), ?_, upd_out hD sm⟩
      rw [upd_same, List.take_add_one, hr1, Option.toList_some, List.map_append]
      rfl
    · rintro H2 ⟨hD2, s2⟩
      rw [List.take_of_length_le (by omega)] at hD2
      refine ⟨D, rs.map (costE e0), rfl, SqL.of ?_, k _ s2⟩
      rw [hD2, List.map_map]
      rfl

/-- what stands when the parts are put -/
def putH (x : Str) : Nat → List (Nat × Nat × Str) → Str → Str
  | p, [], acc => acc ++ cutS x (some (p : Int)) none
  | p, r :: rs, acc => putH x r.2.1 rs (acc ++ cutS x (some (p : Int)) (some (r.1 : Int)) ++ r.2.2)
theorem tl_flat (ps : List Str) : TL.tl (Txt.join "" ps) = (ps.map TL.tl).flatten := by
  rw [TL.join_eq, TL.tl_join]
  exact join_nil _
theorem join_snoc {ps : List Str} {y : Str} : Txt.join "" (ps ++ [y]) = Txt.join "" ps ++ y := by
  refine TL.ext_tl ?_
  rw [tl_flat, List.map_append, List.flatten_append]
  have e : TL.tl (Txt.join "" ps ++ y) = TL.tl (Txt.join "" ps) ++ TL.tl y := more_list
  rw [e, tl_flat]
  simp
def texs (ss : List Str) : List V := ss.map V.str
theorem nowhole3 {a b c : V} : (HT.sIx [a, b, c].length 0 none = 0 ∧ HT.sIx [a, b, c].length [a, b, c].length (some 3) = [a, b, c].length) := ⟨rfl, rfl⟩
theorem few_lt2 {n : Nat} (h : n ≤ 3000) : n < sizeLine := Nat.lt_of_le_of_lt h (by rw [sizeLine_eq]; decide)
theorem upd_twice3 {H : Hp} {a : Addr} {o1 o2 : HO} : upd (upd H a o1) a o2 = upd H a o2 := by
  funext b
  by_cases h : b = a
  · rw [h, upd_same, upd_same]
  · rw [upd_ne h, upd_ne h, upd_ne h]
theorem putH_cons {x : Str} {p : Nat} {r : Nat × Nat × Str} {rs : List (Nat × Nat × Str)} {acc : Str} : putH x p (r :: rs) acc = putH x r.2.1 rs (acc ++ cutS x (some (p : Int)) (some (r.1 : Int)) ++ r.2.2) := rfl
theorem putH_nil {x : Str} {p : Nat} {acc : Str} : putH x p [] acc = acc ++ cutS x (some (p : Int)) none := rfl
def spBehind : Sp := fun vs H Q _ => ∃ (x : Str) (q : Addr) (xs : List V) (rs : List (Nat × Nat × Str)), vs = [.str x, .ref q] ∧ x.length ≤ 100 ∧ H q = some (.tup xs) ∧ Rw3 H xs rs ∧ rs.length ≤ 100 ∧ (∀ r ∈ rs, r.2.2.length ≤ 1000) ∧ ∀ H', Same H H' → Q (.str (putH x 0 rs "")) H'
abbrev s_text_behind : Stmt := top 7
theorem sc_text_behind : FnScope ["text", "puts", "pieces", "kept", "put", "begin", "end", "new"] ["text", "puts"] (defScope s_text_behind) := ⟨rfl, rfl, rfl, by decide +kernel, rfl, by decide +kernel, by decide +kernel⟩
theorem b_text_behind {f : Addr} {fd : FuncData} (F : Fun K "text_behind" "text_behind" s_text_behind f fd) (T : Txt mg) : FnG P w K mg base CX0 1 f fd ["text", "puts"] spBehind := by
  refine okG0 F sc_text_behind (fun vs H Q E h => ?_) (fun cdv A outer s H vs Q E hg hr h => ?_)
  · obtain ⟨x, q, xs, rs, rfl, _⟩ := h
    rfl
  · have hu := hu_of hr
    have hu64 := hr.units
    obtain ⟨x, q, xs, rs, rfl, hx, hq, rw0, hl, hz, k⟩ := h
    have hxs := paired_len rw0
    have xl : x.length ≤ sizeLine := Nat.le_of_lt (fewL (by omega))
    refine ⟨_, (pss_cons (ps_set (i := 2) sc_text_behind.nd rfl (Or.inl rfl) (pe_lst pa_nil))
      (pss_cons (ps_set (i := 3) sc_text_behind.nd rfl (Or.inl rfl) pe_int)
      (pss_cons (ps_for PassesOwn.never rfl (pi_tup (pv 1)) (pg_name (i := 4) sc_text_behind.nd rfl (Or.inl rfl)) (pss_cons (ps_asg (pe_slice sl_tupA (pv 4) po_none (po_some pe_int)) (pg_tup rfl (pgs_cons (pg_name (i := 5) sc_text_behind.nd rfl (Or.inl rfl)) (pgs_cons (pg_name (i := 6) sc_text_behind.nd rfl (Or.inl rfl)) (pgs_cons (pg_name (i := 7) sc_text_behind.nd rfl (Or.inl rfl)) pgs_nil)))))
      (pss_cons (ps_expr (pe_bm PySem.F.plainAttrs_list PySem.F.slot_list_append PySem.F.type_list_append mt_append (pv 2) (pa_cons (pe_slice sl_str (pv 0) (po_some (pv 3)) (po_some (pv 5))) pa_nil)))
      (pss_cons (ps_expr (pe_bm PySem.F.plainAttrs_list PySem.F.slot_list_append PySem.F.type_list_append mt_append (pv 2) (pa_cons (pv 7) pa_nil)))
      (pss_one (ps_set (i := 3) sc_text_behind.nd rfl (Or.inl rfl) (pv 6)))))))
      (pss_cons (ps_expr (pe_bm PySem.F.plainAttrs_list PySem.F.slot_list_append PySem.F.type_list_append mt_append (pv 2) (pa_cons (pe_slice sl_str (pv 0) (po_some (pv 3)) po_none) pa_nil)))
      (pss_one (ps_ret (pe_join pe_str (pv 2)))))))), ?_⟩
    refine ⟨few_len (Nat.zero_le _), fun lo hlo => ?_⟩
    have s0 := same_new (o := .lst []) hlo
    refine ⟨_, rfl, q, rfl, ⟨_, SqT.of (s0 _ _ hq)⟩, ?_⟩
    refine for_tup (xs := xs) (fun i σ H2 => ∃ (o4 o5 o6 o7 : Option V) (e : Nat) (got : List Str), σ = [some (.str x), some (.ref q), some (.ref lo), some (.int (e : Nat)), o4, o5, o6, o7] ∧ Same H H2 ∧ H2 lo = some (.lst (texs got)) ∧ got.length = 2 * i ∧ (got.map (·.length)).sum ≤ i * 1100 ∧ putH x 0 rs "" = putH x e (rs.drop i) (Txt.join "" got)) ?_ ?_ ?_ ?_
    · exact ⟨_, _, _, _, 0, [], rfl, s0, upd_same, rfl, Nat.zero_le _, rfl⟩
    · rintro i σ H2 _ ⟨o4, o5, o6, o7, e, got, rfl, s2, _⟩
      exact SqT.of (s2 _ _ hq)
    · rintro i v σ H2 hv ⟨o4, o5, o6, o7, e, got, rfl, s2, hg, gl, gs, ge⟩
      obtain ⟨r, hpp, t, rfl, ht0⟩ := paired_at rw0 hv
      have il : i < xs.length := (List.getElem?_eq_some_iff.mp hv).1
      have hz1 := hz r (List.mem_of_getElem? hpp)
      rw [drop_at hpp, putH_cons] at ge
      have ht := s2 _ _ ht0
      refine ⟨_, rfl, 3, rfl, t, _, rfl, SqT.of ht, fun _ => ?_, fun n => absurd nowhole3 n⟩
      refine ⟨t, _, rfl, SqT.of ht, rfl, _, _, rfl, _, _, rfl, _, _, rfl, rfl, ?_⟩
      refine ⟨_, rfl, .inl ⟨rfl, _, SqL.of hg⟩, _, rfl, _, rfl, _, rfl, _, rfl, _, rfl, x, rfl, xl, lo, _, _, rfl, rfl, hg, few_lt2 (by unfold texs; rw [List.length_map]; omega), ?_⟩
      refine ⟨_, rfl, .inl ⟨rfl, _, SqL.of upd_same⟩, _, rfl, lo, _, _, rfl, rfl, upd_same, few_lt2 (by unfold texs; rw [List.length_append, List.length_map, List.length_singleton]; omega), ?_⟩
      rw [upd_twice3]
      refine ⟨_, rfl, _, _, _, _, r.2.1, got ++ [cutS x (some (e : Int)) (some (r.1 : Int))] ++ [r.2.2], rfl, fun b o h2 => ?_, ?_, ?_, ?_, ?_⟩
      · rw [upd_ne (ne_of_none h2 hlo)]
        exact s2 _ _ h2
      · rw [upd_same]
        unfold texs
        rw [List.map_append, List.map_append]
        rfl
      · rw [List.length_append, List.length_append, gl]
        simp only [List.length_singleton]
        omega
      · have := cutS_length x (some (e : Int)) (some (r.1 : Int))
        simp only [List.map_append, List.map_cons, List.map_nil, List.sum_append, List.sum_cons, List.sum_nil]
        omega
      · rw [join_snoc, join_snoc]
        exact ge
    · rintro σ H2 ⟨o4, o5, o6, o7, e, got, rfl, s2, hg, gl, gs, ge⟩
      rw [List.drop_of_length_le (by omega), putH_nil] at ge
      refine ⟨_, rfl, .inl ⟨rfl, _, SqL.of hg⟩, _, rfl, _, rfl, _, rfl, x, rfl, xl, lo, _, _, rfl, rfl, hg, few_lt2 (by unfold texs; rw [List.length_map]; omega), ?_⟩
      have cl := cutS_length x (some (e : Int)) none
      refine ⟨⟨_, rfl⟩, _, rfl, "", lo, got ++ [cutS x (some (e : Int)) none], rfl, rfl, .inl (SqL.of ?_), ?_, ?_⟩
      · rw [upd_same]
        unfold texs
        rw [List.map_append]
        rfl
      · have e0 : (Str.ofString "").length = 0 := by decide +kernel
        rw [e0]
        simp only [List.map_append, List.map_cons, List.map_nil, List.sum_append, List.sum_cons, List.sum_nil]
        omega
      · rw [join_snoc, ← ge]
        refine k _ fun b o h2 => ?_
        rw [upd_ne (ne_of_none h2 hlo)]
        exact s2 _ _ h2

end
end Vk
set_option Elab.async false
set_option maxRecDepth 100000
set_option linter.all false
set_option maxHeartbeats 4000000
namespace Vk
open PySem PySem.Spec PyProof.Rows L2
section
variable {P : Program} {w : World} {K : PySem.W.Frag} {mg : Str → Option Value} {base : Heap}
abbrev Ltr (x : Str) : Prop := ∀ c ∈ x.cps.toList, c ∈ letS.cps.toList
theorem lt_ok {x : Str} (h : Ltr x) : PyData.strOk x = true := ok_letters h
theorem lt_word {z x : Str} {a b : Nat} (fz : Few z) (w : Word z a b x) : Ltr x := fun c hc => fz.2.2 c (w.2.2 c hc)
theorem lt_one {z : Str} {c : Nat} (fz : Few z) (h : c ∈ z.cps.toList) : Ltr (⟨#[c]⟩ : Str) := fun d hd => by
  have e : d ∈ [c] := hd
  rw [List.mem_singleton.mp e]
  exact fz.2.2 c h
theorem cutS_lt {x : Str} (h : Ltr x) (a b : Option Int) : Ltr (cutS x a b) := fun c hc => by
  have hc2 : c ∈ (List.toArray ((x.cps.toList.drop (HT.sIx x.length 0 a)).take (HT.sIx x.length x.length b - HT.sIx x.length 0 a))).toList := hc
  rw [List.toList_toArray] at hc2
  exact h c (List.mem_of_mem_drop (List.mem_of_mem_take hc2))
theorem lt_more {z y : Str} (h1 : Ltr z) (h2 : Ltr y) : Ltr (z ++ y) := fun c hc => by
  rw [more_list] at hc
  rcases List.mem_append.mp hc with h | h
  · exact h1 c h
  · exact h2 c h
theorem lt_none : Ltr "" := by decide +kernel
theorem lt_isT {z : Str} (h : Ltr z) : isT (.str z) = true := by
  rw [isT_all]
  exact List.all_eq_true.mpr fun c hc => by simpa using h c hc
abbrev s_ldraw : Stmt := top 25
theorem sc_ldraw : FnScope ["_law_pen_here", "_law_many", "_law_digit", "_law_turn", "_law_cell", "_law_primes", "_law_prime", "_law_drawn"] ["_law_pen_here", "_law_many"] (defScope s_ldraw) := ⟨rfl, rfl, rfl, by decide +kernel, rfl, by decide +kernel, by decide +kernel⟩
theorem b_ldraw {f : Addr} {fd : FuncData} (F : Fun K "_law_draw" "_law_draw" s_ldraw f fd) (T : Txt mg) : FnG P w K mg base CX0 1 f fd ["_law_pen_here", "_law_many"] spDraw := by
  refine okG0 F sc_ldraw (fun vs H Q E h => ?_) (fun cdv A outer s H vs Q E hg hr h => ?_)
  · obtain ⟨p, c, m, T0, rfl, _⟩ := h
    rfl
  · have hu := hu_of hr
    have hu64 := hr.units
    obtain ⟨p, c, m, T0, rfl, m0, m1, ⟨ns, t, l, hp, hc, hn, t0, tT, l0⟩, hT, k⟩ := h
    have ncp : c ≠ p := ne_of hc hp (by intro z; cases z)
    have lenns : (ns.map V.int).length = ns.length := List.length_map _
    refine ⟨_, (pss_cons (ps_if (pt_cmpR op_gt (pe_dget hu (pv 0) pe_str (fun _ _ => rfl)) pe_int (nomark _)) (pss_cons (ps_set (i := 2) sc_ldraw.nd rfl (Or.inl rfl) (pe_op op_mod (pe_callTy call_int1 (by rfl) T.int (by decide +kernel) (pa_cons (pe_dget hu (pv 0) pe_str (fun _ _ => rfl)) pa_nil)) (pv 1)))
      (pss_cons (ps_dput hu (pv 0) pe_str (pe_op op_fdiv (pe_dget hu (pv 0) pe_str (fun _ _ => rfl)) (pv 1)) rfl)
      (pss_one (ps_ret (pv 2))))) pss_nil)
      (pss_cons (ps_set (i := 3) sc_ldraw.nd rfl (Or.inl rfl) (pe_dget hu (pv 0) pe_str (fun _ _ => rfl)))
      (pss_cons (ps_dput hu (pv 0) pe_str (pe_op op_add (pv 3) pe_int) rfl)
      (pss_cons (ps_set (i := 4) sc_ldraw.nd rfl (Or.inl rfl) (pe_op op_add (pe_op op_mul pe_int (pv 3)) pe_int))
      (C8.pss_cut (ps_if (pt_cmpR (op_neD hu64) (pe_dget hu (pv 0) pe_str (fun _ _ => rfl)) (pe_lst pa_nil) (nomark _)) (pss_one (ps_set (i := 4) sc_ldraw.nd rfl (Or.inl rfl) (pe_ix ix_seq (pe_dget hu (pv 0) pe_str (fun _ _ => rfl)) (pe_op op_mod (pe_callTy call_int1 (by rfl) T.int (by decide +kernel) (pa_cons (pv 3) pa_nil)) (pe_callB call_len (by rfl) T.len (by decide +kernel) (pa_cons (pe_dget hu (pv 0) pe_str (fun _ _ => rfl)) pa_nil))) (fun _ _ => rfl)))) pss_nil)
      (C8.pss_cut (ps_if (PW.pt (pw_and (pt_cmpR op_lt (pv 3) (pe_callB call_len (by rfl) T.len (by decide +kernel) (pa_cons (pe_dget hu (pv 0) pe_str (fun _ _ => rfl)) pa_nil)) (nomark _)) (pw_and1 (pt_cmpR op_ge (pe_callB call_abs (by rfl) T.abs (by decide +kernel) (pa_cons (pv 4) pa_nil)) (pe_op op_pow pe_int pe_int) (nomark _))))) (pss_cons (ps_dput hu (pv 0) pe_str (pe_op op_fdiv (pe_op op_sub (pe_callB call_abs (by rfl) T.abs (by decide +kernel) (pa_cons (pv 4) pa_nil)) (pe_op op_pow pe_int pe_int)) (pv 1)) rfl)
      (pss_one (ps_ret (pe_op op_mod (pe_op op_sub (pe_callB call_abs (by rfl) T.abs (by decide +kernel) (pa_cons (pv 4) pa_nil)) (pe_op op_pow pe_int pe_int)) (pv 1))))) pss_nil)
      (pss_cons (ps_set (i := 5) sc_ldraw.nd rfl (Or.inl rfl) (pe_lst (pa_cons pe_int (pa_cons pe_int (pa_cons pe_int (pa_cons pe_int (pa_cons pe_int pa_nil)))))))
      (pss_cons (ps_set (i := 6) sc_ldraw.nd rfl (Or.inl rfl) (pe_ix ix_seq (pv 5) (pe_op op_mod (pe_callTy call_int1 (by rfl) T.int (by decide +kernel) (pa_cons (pv 3) pa_nil)) pe_int) (fun _ _ => rfl)))
      (pss_cons (ps_set (i := 7) sc_ldraw.nd rfl (Or.inl rfl) (pe_op op_mod (pe_callTy call_int1 (by rfl) T.int (by decide +kernel) (pa_cons (pe_op op_add (pe_op op_add (pe_op op_mul (pe_op op_mod (pe_callTy call_int1 (by rfl) T.int (by decide +kernel) (pa_cons (pv 4) pa_nil)) (pv 6)) pe_int) (pe_op op_mul (pv 3) (pe_op op_add (pe_op op_mul pe_int (pv 3)) pe_int))) pe_int) pa_nil)) (pv 6)))
      (pss_cons (ps_set (i := 7) sc_ldraw.nd rfl (Or.inl rfl) (pe_op op_mod (pe_callTy call_int1 (by rfl) T.int (by decide +kernel) (pa_cons (pe_op op_mul (pv 7) (pe_op op_add (pv 7) pe_int)) pa_nil)) (pe_ix ix_seq (pv 5) (pe_op op_mod (pe_callTy call_int1 (by rfl) T.int (by decide +kernel) (pa_cons (pe_op op_add (pv 3) pe_int) pa_nil)) pe_int) (fun _ _ => rfl))))
      (pss_one (ps_ret (pe_op op_mod (pe_callTy call_int1 (by rfl) T.int (by decide +kernel) (pa_cons (pe_op op_fdiv (pe_op op_mod (pe_callTy call_int1 (by rfl) T.int (by decide +kernel) (pa_cons (pe_op op_add (pe_op op_add (pe_op op_mul (pv 7) (pv 7)) (pe_op op_mul pe_int (pv 7))) (pv 3)) pa_nil)) pe_int) pe_int) pa_nil)) (pv 1)))))))))))))), ?_⟩
    refine ⟨_, rfl, p, _, rfl, get_left hp, _, _, rfl, rfl, _, rfl, ?_⟩
    refine ite2 (fun hl => ?_) (fun hl => ?_)
    · refine ⟨_, rfl, p, _, rfl, get_left hp, .inl ⟨_, rfl, ?_⟩⟩
      refine ⟨_, rfl, _, _, rfl, rfl, m0, ?_⟩
      refine ⟨_, rfl, p, _, rfl, get_left hp, _, rfl, _, _, rfl, rfl, ⟨by omega, by omega⟩, ?_⟩
      refine ⟨_, rfl, p, _, rfl, put_left hp, _, rfl, ?_⟩
      refine k _ _ (Int.emod_nonneg _ (by omega)) (Int.emod_lt_of_pos _ m0) ⟨ns, t, _, upd_same, (upd_ne ncp).trans hc, hn, t0, by omega, Int.ediv_nonneg l0 (by omega)⟩ Ext.at
    · refine ⟨_, rfl, p, _, rfl, get_turn hp, ?_⟩
      refine ⟨_, rfl, _, _, rfl, rfl, _, rfl, p, _, rfl, put_turn hp, ?_⟩
      generalize hH1 : upd H p (.dK (penL c (t + 1) l)) = H1
      have hp1 : H1 p = some (.dK (penL c (t + 1) l)) := by rw [← hH1]; exact upd_same
      have hc1 : H1 c = some (.lst (ns.map V.int)) := by rw [← hH1]; exact (upd_ne ncp).trans hc
      have e1 : Ext p H H1 := by rw [← hH1]; exact Ext.at
      refine ⟨_, rfl, _, _, rfl, rfl, .inl ⟨by decide, by decide⟩, _, _, rfl, rfl, ?_⟩
      refine ⟨fun σ' H2 => ∃ z : Int, σ' = [some (.ref p), some (.int m), none, some (.int t), some (.int z), none, none, none] ∧ H2 p = some (.dK (penL c (t + 1) l)) ∧ H2 c = some (.lst (ns.map V.int)) ∧ Ext p H H2, ?_, ?_⟩
      · refine ⟨_, rfl, p, _, rfl, get_cells hp1, by decide, fun b hb => ?_⟩
        have hp2 := up_new (u := .lst []) hp1 hb
        have hc2 := up_new (u := .lst []) hc1 hb
        refine ⟨.list (ns.map .int), .list [], .lst (SqL.of hc2) (ints_dp ns), .lst (SqL.of upd_same) .nil, ints_shaped ns, by decide +kernel, _, rfl, ?_⟩
        rw [ints_ne_nil]
        refine ite2 (fun hne => ?_) (fun _ => ?_)
        · have hpos : 0 < ns.length := by
            cases ns with
            | nil => simp at hne
            | cons a r => exact Nat.succ_pos _
          refine ⟨_, rfl, p, _, rfl, get_cells hp2, _, rfl, .inl ⟨_, rfl, _, rfl, p, _, rfl, get_cells hp2, _, _, rfl, .inl ⟨_, SqL.of hc2, rfl⟩, _, _, rfl, rfl, ?_, ?_⟩⟩
          · rw [lenns]; omega
          · obtain ⟨v, hv, hm⟩ := at_mod (xs := ns.map V.int) (i := t % ((ns.map V.int).length : Int)) (Int.emod_nonneg _ (by rw [lenns]; omega)) (Int.emod_lt_of_pos _ (by rw [lenns]; omega))
            obtain ⟨z, _, rfl⟩ := List.mem_map.mp hm
            refine .inl ⟨_, _, _, _, rfl, rfl, SqL.of hc2, hv, z, rfl, hp2, hc2, e1.set (e1.none_of ?_ hb)⟩
            exact (ne_of_none hp1 hb).symm
        · exact ⟨_, rfl, hp2, hc2, e1.set (e1.none_of (ne_of_none hp1 hb).symm hb)⟩
      · rintro σ2 H2 ⟨z, rfl, hp2, hc2, e2⟩
        refine ⟨fun σ' H3 => σ' = [some (.ref p), some (.int m), none, some (.int t), some (.int z), none, none, none] ∧ H3 = H2, ?_, ?_⟩
        · refine ⟨_, rfl, _, rfl, p, _, rfl, get_cells hp2, _, _, rfl, .inl ⟨_, SqL.of hc2, rfl⟩, _, _, rfl, rfl, _, rfl, ?_⟩
          refine ite2 (fun _ => ?_) (fun _ => ?_)
          · refine ⟨_, rfl, _, rfl, _, _, rfl, rfl, ⟨by decide, by decide, by decide⟩, _, _, rfl, rfl, _, rfl, ?_⟩
            refine ite2 (fun hbig => ?_) (fun _ => ?_)
            · have big := of_decide_eq_true hbig
              refine ⟨_, rfl, _, rfl, _, _, rfl, rfl, ⟨by decide, by decide, by decide⟩, _, _, rfl, rfl, _, rfl, _, _, rfl, rfl, ⟨by omega, by omega⟩, ?_⟩
              refine ⟨_, rfl, p, _, rfl, put_left hp2, ?_⟩
              refine ⟨_, rfl, _, rfl, _, _, rfl, rfl, ⟨by decide, by decide, by decide⟩, _, _, rfl, rfl, _, rfl, _, _, rfl, rfl, m0, ?_⟩
              refine k _ _ (Int.emod_nonneg _ (by omega)) (Int.emod_lt_of_pos _ m0) ⟨ns, t + 1, _, upd_same, (upd_ne ncp).trans hc2, hn, by omega, by omega, Int.ediv_nonneg (by omega) (by omega)⟩ (e2.trans Ext.at)
            · exact ⟨rfl, rfl⟩
          · exact ⟨rfl, rfl⟩
        · rintro σ3 H3 ⟨rfl, rfl⟩
          refine ⟨by decide, fun q hq => ?_⟩
          have hp3 := up_new (u := .lst (primes.map V.int)) hp2 hq
          have hc3 := up_new (u := .lst (primes.map V.int)) hc2 hq
          have e3 : Ext p H (upd H3 q (.lst (primes.map V.int))) := e2.set (e2.none_of (ne_of_none hp2 hq).symm hq)
          have hq3 : (upd H3 q (.lst (primes.map V.int))) q = some (.lst (primes.map V.int)) := upd_same
          have pick : ∀ i : Int, 0 ≤ i → i < 5 → ∃ z : Int, atI (primes.map V.int) i = some (.int z) ∧ 0 < z ∧ z < 2147483648 := fun i h0 h5 => by
            obtain ⟨v, hv, hm⟩ := at_mod (xs := primes.map V.int) h0 h5
            obtain ⟨z, rfl, hz⟩ := primes_in hm
            exact ⟨z, hv, hz⟩
          obtain ⟨a1, ha1, a1p, a1b⟩ := pick (t % 5) (Int.emod_nonneg _ (by decide)) (Int.emod_lt_of_pos _ (by decide))
          obtain ⟨a2, ha2, a2p, a2b⟩ := pick ((t + 2) % 5) (Int.emod_nonneg _ (by decide)) (Int.emod_lt_of_pos _ (by decide))
          refine ⟨_, rfl, _, rfl, .inl ⟨_, rfl, _, _, rfl, rfl, (by show (0 : Int) < 5; decide), .inl ⟨_, _, _, _, rfl, rfl, SqL.of hq3, ha1, ?_⟩⟩⟩
          have b1 := Int.emod_nonneg z (show a1 ≠ 0 by omega)
          have b2 := Int.emod_lt_of_pos z a1p
          refine ⟨_, rfl, .inl ⟨_, rfl, _, rfl, _, _, rfl, rfl, a1p, _, _, rfl, rfl, .inr ⟨by decide, by decide⟩, ?_⟩⟩
          refine ⟨_, rfl, _, rfl, _, _, rfl, rfl, .inl ⟨by decide, by decide⟩, _, _, rfl, rfl, _, _, rfl, rfl, .inl ⟨by omega, by omega⟩, _, _, rfl, rfl, _, _, rfl, rfl, .inl ⟨_, rfl, _, rfl, _, _, rfl, rfl, a1p, ?_⟩⟩
          have d1 := Int.emod_nonneg (z % a1 * 39373 + t * (30011 * t + 8117) + 23) (show a1 ≠ 0 by omega)
          have d2 := Int.emod_lt_of_pos (z % a1 * 39373 + t * (30011 * t + 8117) + 23) a1p
          refine ⟨_, rfl, _, rfl, _, _, rfl, rfl, _, _, rfl, rfl, .inl ⟨by omega, by omega⟩, .inl ⟨_, rfl, _, rfl, _, rfl, _, _, rfl, rfl, .inl ⟨_, rfl, _, _, rfl, rfl, (by show (0 : Int) < 5; decide), .inl ⟨_, _, _, _, rfl, rfl, SqL.of hq3, ha2, _, _, rfl, rfl, a2p, ?_⟩⟩⟩⟩
          have f1 := Int.emod_nonneg (((z % a1 * 39373 + t * (30011 * t + 8117) + 23) % a1) * (((z % a1 * 39373 + t * (30011 * t + 8117) + 23) % a1) + 69621)) (show a2 ≠ 0 by omega)
          have f2 := Int.emod_lt_of_pos (((z % a1 * 39373 + t * (30011 * t + 8117) + 23) % a1) * (((z % a1 * 39373 + t * (30011 * t + 8117) + 23) % a1) + 69621)) a2p
          refine ⟨_, rfl, _, rfl, _, _, rfl, rfl, .inl ⟨by omega, by omega⟩, _, rfl, _, _, rfl, rfl, .inl ⟨by decide, by decide⟩, _, _, rfl, rfl, _, rfl, _, _, rfl, rfl, .inl ⟨_, rfl, _, _, rfl, rfl, (by show (0 : Int) < 2147483549; decide), _, _, rfl, rfl, ⟨by decide, by decide⟩, .inl ⟨_, rfl, _, rfl, _, _, rfl, rfl, m0, ?_⟩⟩⟩
          exact k _ _ (Int.emod_nonneg _ (by omega)) (Int.emod_lt_of_pos _ m0) ⟨ns, t + 1, l, hp3, hc3, hn, by omega, by omega, l0⟩ e3

abbrev s_lpen : Stmt := top 24
theorem sc_lpen : FnScope ["_law_script"] ["_law_script"] (defScope s_lpen) := ⟨rfl, rfl, rfl, by decide +kernel, rfl, by decide +kernel, by decide +kernel⟩
theorem b_lpen {f : Addr} {fd : FuncData} (F : Fun K "_law_pen" "_law_pen" s_lpen f fd) (T : Txt mg) : FnG P w K mg base CX0 1 f fd ["_law_script"] (spPen K) := by
  refine okG0 F sc_lpen (fun vs H Q E h => ?_) (fun cdv A outer s H vs Q E hg hr h => ?_)
  · obtain ⟨a, ns, rfl, _⟩ := h
    rfl
  · have hu := hu_of hr
    have hu64 := hr.units
    obtain ⟨a, ns, rfl, hs, k⟩ := h
    refine ⟨_, (pss_one (ps_ret (pe_disp (pps_cons pe_str (pe_callTy call_list_of (by rfl) T.list (by decide +kernel) (pa_cons (pe_slice sl_list (pv 0) po_none (po_some pe_int)) pa_nil)) (pps_cons pe_str pe_int (pps_cons pe_str pe_int pps_nil))) (by rfl) (by rfl) (fun z => by cases z) (by decide)))), ?_⟩
    intro p hp
    obtain ⟨ms, hms, hml⟩ := cut63 ns
    refine ⟨_, rfl, 63, rfl, a, _, rfl, (same_new hp).seq hs, fun q hq => ?_⟩
    refine ⟨q, _, rfl, .inl (SqL.of upd_same), fun c hc => ?_⟩
    rw [hms] at hc ⊢
    have nqp : p ≠ q := fun e => by rw [← e, upd_same] at hq; cases hq
    have ncp : p ≠ c := fun e => by rw [← e, upd_ne nqp, upd_same] at hc; cases hc
    have hp2 : (upd (upd (upd H p (.dK [])) q (.lst (ms.map V.int))) c (.lst (ms.map V.int))) p = some (.dK []) := by rw [upd_ne ncp, upd_ne nqp, upd_same]
    refine ⟨hp2, penL c 0 0, rfl, (by show 3 ≤ 15; decide), ?_⟩
    rw [pen_made]
    refine k p c _ hp ⟨ms, 0, 0, upd_same, by rw [upd_ne ncp.symm, upd_same], hml, Int.le_refl _, Int.le_refl _, Int.le_refl _⟩ fun b o e => ?_
    rw [upd_ne (ne_of_none e hp), upd_ne ?_, upd_ne ?_, upd_ne (ne_of_none e hp)]
    · exact e
    · rintro rfl
      rw [upd_ne (ne_of_none e hp)] at hq
      rw [hq] at e
      cases e
    · rintro rfl
      by_cases ebq : b = q
      · subst ebq
        rw [upd_ne nqp.symm] at hq
        rw [hq] at e
        cases e
      · rw [upd_ne ebq, upd_ne (ne_of_none e hp)] at hc
        rw [hc] at e
        cases e

abbrev s_lpick : Stmt := top 26
theorem sc_lpick : FnScope ["_law_pen_here", "_law_options"] ["_law_pen_here", "_law_options"] (defScope s_lpick) := ⟨rfl, rfl, rfl, by decide +kernel, rfl, by decide +kernel, by decide +kernel⟩
theorem b_lpick {f : Addr} {fd : FuncData} (F : Fun K "_law_pick" "_law_pick" s_lpick f fd) (T : Txt mg) (c_ldraw : CalG P w K mg base CX0 1 "_law_draw" spDraw) : FnG P w K mg base CX0 2 f fd ["_law_pen_here", "_law_options"] (spPick K) := by
  refine okG0 F sc_lpick (fun vs H Q E h => ?_) (fun cdv A outer s H vs Q E hg hr h => ?_)
  · obtain ⟨p, c, o, xs, T0, rfl, _⟩ := h
    rfl
  · have hu := hu_of hr
    have hu64 := hr.units
    obtain ⟨p, c, o, xs, T0, rfl, ho, hne, hlen, hpen, hT, k⟩ := h
    have hpos : 0 < xs.length := List.length_pos_iff.mpr hne
    have hr1 : Room 1 _ := hr
    refine ⟨_, (pss_one (ps_ret (pe_ix ix_seq (pv 1) (pe_cG c_ldraw hg hr (by decide) pass0 (pa_cons (pv 0) (pa_cons (pe_callB call_len (by rfl) T.len (by decide +kernel) (pa_cons (pv 1) pa_nil)) pa_nil))) (fun _ _ => rfl)))), ?_⟩

    cases ho with
    | str z hz =>
      have e := one_len z
      have hz24 : z.length ≤ sizeLine := Nat.le_trans hz (by decide)
      refine ⟨_, rfl, _, rfl, _, rfl, _, _, rfl, ⟨hz24, rfl⟩, p, c, _, T0, rfl, by omega, by omega, hpen, hT, fun d H' d0 d1 hpen' x => ?_⟩
      obtain ⟨e1, hc, hm⟩ := at_mod (xs := z.cps.toList) d0 (by rw [show (z.cps.toList.length : Int) = (z.length : Int) from congrArg Nat.cast Array.length_toList]; exact d1)
      exact .inr (.inr ⟨z, d, e1, rfl, rfl, hz24, hc, k _ _ (List.mem_map_of_mem (f := OneS) hm) hpen' x⟩)
    | lst hs =>
      refine ⟨_, rfl, _, rfl, _, rfl, _, _, rfl, .inl ⟨_, hs, rfl⟩, p, c, _, T0, rfl, by omega, by omega, hpen, hT, fun d H' d0 d1 hpen' x => ?_⟩
      obtain ⟨v, hv, hm⟩ := at_mod d0 d1
      exact .inl ⟨_, xs, d, v, rfl, rfl, hpen.keepL x hs, hv, k _ _ hm hpen' x⟩
    | tup hs =>
      refine ⟨_, rfl, _, rfl, _, rfl, _, _, rfl, .inr ⟨_, hs, rfl⟩, p, c, _, T0, rfl, by omega, by omega, hpen, hT, fun d H' d0 d1 hpen' x => ?_⟩
      obtain ⟨v, hv, hm⟩ := at_mod d0 d1
      exact .inr (.inl ⟨_, xs, d, v, rfl, rfl, hpen.keepT x hs, hv, k _ _ hm hpen' x⟩)

abbrev s_lfew : Stmt := top 30
theorem sc_lfew : FnScope ["_law_pen_here", "_law_some", "_law_rare", "_law_k"] ["_law_pen_here"] (defScope s_lfew) := ⟨rfl, rfl, rfl, by decide +kernel, rfl, by decide +kernel, by decide +kernel⟩
theorem b_lfew {f : Addr} {fd : FuncData} (F : Fun K "_law_few" "_law_few" s_lfew f fd) (T : Txt mg) (c_lpick : CalG P w K mg base CX0 2 "_law_pick" (spPick K)) (t_signs : FnT P w K mg base 1 "_law_signs" letS) : FnG P w K mg base CX0 3 f fd ["_law_pen_here"] spFew := by
  refine okG0 F sc_lfew (fun vs H Q E h => ?_) (fun cdv A outer s H vs Q E hg hr h => ?_)
  · obtain ⟨p, pc, T0, rfl, _⟩ := h
    rfl
  · have hu := hu_of hr
    have hu64 := hr.units
    obtain ⟨p, pc, T0, rfl, hpen, hT, k⟩ := h
    have hr2 : Room 2 _ := hr
    refine ⟨_, (pss_cons (ps_set (i := 1) sc_lfew.nd rfl (Or.inr rfl) (pe_lst (pa_cons (pe_cG c_lpick hg hr (by decide) pass0 (pa_cons (pv 0) (pa_cons (pe_replT t_signs hr (by decide) (by decide +kernel) (by decide +kernel)) pa_nil))) (pa_cons (pe_cG c_lpick hg hr (by decide) pass0 (pa_cons (pv 0) (pa_cons pe_str pa_nil))) (pa_cons (pe_cG c_lpick hg hr (by decide) pass0 (pa_cons (pv 0) (pa_cons pe_str pa_nil))) pa_nil)))))
      (pss_cons (ps_set (i := 2) sc_lfew.nd rfl (Or.inl rfl) (pe_join pe_str (pe_lc (own := [("_law_k", 3)]) (g := gName 3) rfl sc_lfew.nd (pi_range1 rfl T.range (pa_cons pe_int pa_nil)) (blkOk_by (own := [("_law_k", 3)]) (N := ["_law_pen_here", "_law_some", "_law_rare", "_law_k"]) (sc := defScope s_lfew) (by decide +kernel)) (fun _ _ _ _ _ => (pg_name (i := 3) sc_lfew.nd rfl (Or.inl rfl))) (fun _ _ _ _ _ => (pts_one (pt_cmpR (op_notIn_seqK (K := K) rfl) (pe_ix (ix_seqK (K := K) rfl) (pv 1) (pv 3) (fun _ _ => rfl)) (pe_slice (sl_listK (K := K) rfl) (pv 1) po_none (po_some (pv 3))) (by rfl)))) (fun _ _ _ _ _ => (pe_ix (ix_seqK (K := K) rfl) (pv 1) (pv 3) (fun _ _ => rfl))))))
      (pss_one (ps_ret (pe_cG c_lpick hg hr (by decide) pass0 (pa_cons (pv 0) (pa_cons (pe_lst (pa_cons pe_str (pa_cons pe_str (pa_cons pe_str (pa_cons pe_str (pa_cons pe_str (pa_cons pe_str (pa_cons pe_str (pa_cons pe_str (pa_cons pe_str (pa_cons (pv 2) pa_nil))))))))))) pa_nil))))))), ?_⟩
    refine ⟨_, rfl, p, pc, _, _, T0, rfl, .str _ (by rw [noq_len]; decide), opts_ne (by rw [noq_len]; decide), opts_le (by rw [noq_len]; decide), hpen, by omega, fun v1 H1 m1 P1 x1 => ?_⟩
    obtain ⟨c1, rfl, k1⟩ := ones_of m1
    refine ⟨_, rfl, p, pc, _, _, T0 + 1, rfl, .str _ (by decide), opts_ne (by decide), opts_le (by decide), P1, by omega, fun v2 H2 m2 P2 x2 => ?_⟩
    obtain ⟨c2, rfl, k2⟩ := ones_of m2
    refine ⟨_, rfl, p, pc, _, _, T0 + 2, rfl, .str _ (by decide), opts_ne (by decide), opts_le (by decide), P2, by omega, fun v3 H3 m3 P3 x3 => ?_⟩
    obtain ⟨c3, rfl, k3⟩ := ones_of m3
    refine ⟨by show 3 ≤ sizeLine; decide, fun a ha => ?_⟩
    have hin : ∀ c ∈ [c1, c2, c3], c ∈ letS.cps.toList := by
      intro c hc
      simp only [List.mem_cons, List.not_mem_nil, or_false] at hc
      rcases hc with rfl | rfl | rfl
      · exact noq_in k1
      · exact (by decide +kernel : ∀ c ∈ (Str.ofString "yz").cps.toList, c ∈ letS.cps.toList) _ k2
      · exact (by decide +kernel : ∀ c ∈ (Str.ofString "(\n").cps.toList, c ∈ letS.cps.toList) _ k3
    have P4 := P3.new (o := .lst ([c1, c2, c3].map OneS)) ha
    have x4 : Ext p H (upd H3 a (.lst ([c1, c2, c3].map OneS))) := (x1.trans (x2.trans x3)).trans (Ext.new ha)
    have ha4 : (upd H3 a (.lst ([c1, c2, c3].map OneS))) a = some (.lst ([c1, c2, c3].map OneS)) := upd_same
    generalize hxs : ([c1, c2, c3].map OneS : List V) = xs at ha4 P4 x4
    have hxl : xs.length = 3 := by rw [← hxs]; rfl
    have hxf : xs.all flatV = true := by rw [← hxs]; exact ones_flat _
    have hxm : ∀ v ∈ xs, ∃ c, v = OneS c ∧ c ∈ [c1, c2, c3] := by rw [← hxs]; exact fun v hv => one_mem hv
    have ha5 : (upd H3 a (.lst ([c1, c2, c3].map OneS))) = upd H3 a (.lst xs) := by rw [hxs]
    generalize hH4 : upd H3 a (.lst xs) = H4 at ha4 P4 x4 ha5
    refine ⟨⟨_, rfl⟩, ?_⟩
    show (iRng1 (tCons (tC (V.int 3)) tNil)) _ (upd H3 a (.lst ([c1, c2, c3].map OneS))) _
    rw [ha5]
    refine ⟨3, rfl, by decide, by decide, fun D hD => lc_range (lo := 0) (n := 3) (fun i H' => ∃ cs : List Nat, H' D = some (.lst (cs.map OneS)) ∧ cs.length ≤ i ∧ (1 ≤ i → 1 ≤ cs.length) ∧ (∀ c ∈ cs, c ∈ letS.cps.toList) ∧ Same H4 H') ?_ ?_ ?_⟩
    · exact ⟨[], upd_same, Nat.le_refl _, fun h => by omega, fun c hc => absurd hc List.not_mem_nil, same_new hD⟩
    · rintro i H5 hi ⟨cs, hDc, hcl, hc1, hcm, sm⟩
      obtain ⟨v, hv, hvm⟩ := at_mod (xs := xs) (i := 0 + (i : Int)) (by omega) (by rw [hxl]; omega)
      obtain ⟨c, rfl, hcc⟩ := hxm v hvm
      have sa : SqL K H5 a xs := sm.seq (SqL.of ha4)
      refine ⟨rfl, _, rfl, _, rfl, .inl ⟨a, xs, _, _, rfl, rfl, sa, hv, _, rfl, _, rfl, _, rfl, a, xs, rfl, sa, fun q hq => ⟨q, _, rfl, .inl (SqL.of upd_same), rfl, cutV_all hxf, _, rfl, ?_⟩⟩⟩
      have sq : Same H4 (upd H5 q (.lst (cutV xs none (some (0 + (i : Int)))))) := sm.trans (same_new hq)
      have dq := up_new (u := .lst (cutV xs none (some (0 + (i : Int))))) hDc hq
      refine ite2 (fun hb => ?_) (fun hb => ?_)
      · refine ⟨_, rfl, _, rfl, .inl ⟨a, xs, _, _, rfl, rfl, sq.seq (SqL.of ha4), hv, _, dq, by rw [List.length_map]; exact Nat.lt_of_le_of_lt hcl (Nat.lt_trans hi (by decide)), cs ++ [c], ?_, ?_, fun _ => ?_, ?_, ?_⟩⟩
        · rw [upd_same, List.map_append]
          rfl
        · rw [List.length_append]; exact Nat.add_le_add_right hcl 1
        · rw [List.length_append]; exact Nat.le_add_left _ _
        · intro d hd
          rcases List.mem_append.mp hd with hd | hd
          · exact hcm d hd
          · rw [List.mem_singleton.mp hd]
            exact hin c hcc
        · intro b o e
          by_cases hbD : b = D
          · rw [hbD, hD] at e
            cases e
          · exact (upd_ne hbD).trans (sq b o e)
      · refine ⟨cs, dq, Nat.le_succ_of_le hcl, fun _ => ?_, hcm, sq⟩
        by_cases h0 : i = 0
        · subst h0
          refine absurd ?_ hb
          show (if true = true then !inV (OneS c) (cutV xs none (some (0 + ((0 : Nat) : Int)))) else inV (OneS c) (cutV xs none (some (0 + ((0 : Nat) : Int))))) = true
          rw [show (0 : Int) + ((0 : Nat) : Int) = 0 from rfl, cutV_zero]
          rfl
        · exact hc1 (by omega)
    · rintro H5 ⟨cs, hDc, hcl, hc1, hcm, sm⟩
      refine ⟨_, D, cs.map fun c => ⟨#[c]⟩, rfl, rfl, .inl (SqL.of (by rw [ones_map]; exact hDc)), ?_, ?_⟩
      · rw [ones_len]
        show cs.length + _ * 0 ≤ _
        omega
      · rw [join_ones]
        have fz : Few ⟨cs.toArray⟩ := few_ones (hc1 (by decide)) hcl hcm
        have x5 : Ext p H H5 := x4.trans (Ext.same sm)
        have P5 := P4.stay sm
        refine ⟨_, rfl, _, rfl, by show 10 ≤ sizeLine; decide, fun q hq => ?_⟩
        refine ⟨p, pc, _, _, T0 + 3, rfl, .lst (SqL.of upd_same), by simp, by show 10 ≤ 1000; decide, P5.new hq, by omega, fun v H6 hm P6 x6 => ?_⟩
        have fin : ∃ z, v = .str z ∧ Few z := by
          simp only [List.mem_cons, List.not_mem_nil, or_false] at hm
          rcases hm with rfl | rfl | rfl | rfl | rfl | rfl | rfl | rfl | rfl | rfl
          all_goals first
            | exact ⟨_, rfl, fz⟩
            | exact ⟨_, rfl, few_of (by decide +kernel)⟩
        obtain ⟨z, rfl, hz⟩ := fin
        exact k z H6 hz P6 (x5.trans ((Ext.new hq).trans x6))

abbrev s_lword : Stmt := top 31
theorem sc_lword : FnScope ["_law_pen_here", "_law_signs_here", "_law_least", "_law_most_letters", "_law_many", "_law_k"] ["_law_pen_here", "_law_signs_here", "_law_least", "_law_most_letters"] (defScope s_lword) := ⟨rfl, rfl, rfl, by decide +kernel, rfl, by decide +kernel, by decide +kernel⟩
theorem b_lword {f : Addr} {fd : FuncData} (F : Fun K "_law_word" "_law_word" s_lword f fd) (T : Txt mg) (c_ldraw : CalG P w K mg base CX0 1 "_law_draw" spDraw) (c_lpick : CalG P w K mg base CX0 2 "_law_pick" (spPick K)) : FnG P w K mg base CX0 3 f fd ["_law_pen_here", "_law_signs_here", "_law_least", "_law_most_letters"] spWord := by
  refine okG0 F sc_lword (fun vs H Q E h => ?_) (fun cdv A outer s H vs Q E hg hr h => ?_)
  · obtain ⟨p, pc, z, a, b, T0, rfl, _⟩ := h
    rfl
  · have hu := hu_of hr
    have hu64 := hr.units
    obtain ⟨p, pc, z, a, b, T0, rfl, hab, hb, hz1, hz, hpen, hT, k⟩ := h
    have hr2 : Room 2 _ := hr
    refine ⟨_, (pss_cons (ps_set (i := 4) sc_lword.nd rfl (Or.inl rfl) (pe_op op_add (pv 2) (pe_cG c_ldraw hg hr (by decide) pass0 (pa_cons (pv 0) (pa_cons (pe_op op_add (pe_op op_sub (pv 3) (pv 2)) pe_int) pa_nil)))))
      (pss_one (ps_ret (pe_join pe_str (pe_lc (own := [("_law_k", 5)]) (g := gName 5) (tt := tYes) rfl sc_lword.nd (pi_range1 rfl T.range (pa_cons (pv 4) pa_nil)) (blkOk_by (own := [("_law_k", 5)]) (N := ["_law_pen_here", "_law_signs_here", "_law_least", "_law_most_letters", "_law_many", "_law_k"]) (sc := defScope s_lword) (by decide +kernel)) (fun _ _ _ _ _ => (pg_name (i := 5) sc_lword.nd rfl (Or.inl rfl))) (fun _ _ _ _ _ => pts_nil) (fun _ _ _ _ _ => (pe_cG c_lpick hg hr (by decide) pass0 (pa_cons (pv 0) (pa_cons (pv 1) pa_nil))))))))), ?_⟩
    refine ⟨_, rfl, _, rfl, _, rfl, _, rfl, _, _, rfl, rfl, _, _, rfl, rfl, p, pc, _, T0, rfl, by omega, by omega, hpen, by omega, fun d H1 d0 d1 P1 x1 => ?_⟩
    refine ⟨_, _, rfl, rfl, ⟨_, rfl⟩, ?_⟩
    obtain ⟨n, rfl⟩ : ∃ n : Nat, d = (n : Int) := ⟨d.toNat, by omega⟩
    refine ⟨_, rfl, _, rfl, by omega, by omega, fun D hD => ?_⟩
    have en : ((a : Int) + (n : Int)).toNat = a + n := by omega
    have hn : a + n ≤ b := by omega
    obtain ⟨nDp, nDc⟩ := P1.apart hD
    refine lc_range (lo := 0) (n := ((a : Int) + (n : Int)).toNat) (fun i H' => ∃ cs : List Nat, H' D = some (.lst (cs.map OneS)) ∧ cs.length = i ∧ (∀ c ∈ cs, c ∈ z.cps.toList) ∧ Pen H' p pc (T0 + 1 + i) ∧ Ext p H H') ?_ ?_ ?_
    · refine ⟨[], upd_same, rfl, fun c hc => absurd hc List.not_mem_nil, P1.new hD, x1.trans (Ext.new hD)⟩
    · rintro i H2 hi ⟨cs, hDc, hcl, hcm, P2, x2⟩
      rw [en] at hi
      refine ⟨rfl, _, rfl, _, rfl, p, pc, _, _, T0 + 1 + i, rfl, .str z hz, opts_ne hz1, opts_le hz, P2, by omega, fun v H3 hm P3 x3 => ?_⟩
      obtain ⟨c, rfl, hc⟩ := ones_of hm
      have d3 := P2.keepI x3 hDc
      refine ⟨_, d3, by rw [List.length_map, hcl]; exact Nat.lt_of_lt_of_le hi (Nat.le_trans hn (Nat.le_trans hb (by decide))), cs ++ [c], ?_, by rw [List.length_append, hcl]; rfl, ?_, ?_, ?_⟩
      · rw [upd_same, List.map_append]
        rfl
      · intro e he
        rcases List.mem_append.mp he with he | he
        · exact hcm e he
        · rw [List.mem_singleton.mp he]
          exact hc
      · exact P3.set nDp nDc
      · exact fun b o e hb => by
          rw [upd_ne (fun q => by rw [q, x1.none_of nDp hD] at e; cases e)]
          exact x3 b o (x2 b o e hb) hb
    · rintro H2 ⟨cs, hDc, hcl, hcm, P2, x2⟩
      refine ⟨_, D, cs.map fun c => ⟨#[c]⟩, rfl, rfl, .inl (SqL.of (by rw [ones_map]; exact hDc)), ?_, ?_⟩
      · rw [ones_len]
        show cs.length + _ * 0 ≤ _
        omega
      · rw [join_ones]
        rw [en] at hcl P2
        exact k _ H2 ⟨by show a ≤ cs.toArray.size; rw [List.size_toArray]; omega, by show cs.toArray.size ≤ b; rw [List.size_toArray]; omega, by simpa using hcm⟩ (P2.mono (by omega)) x2

abbrev s_lplaces : Stmt := top 32
theorem sc_lplaces : FnScope ["_law_text_here", "_law_was", "_law_size", "_law_k"] ["_law_text_here", "_law_was"] (defScope s_lplaces) := ⟨rfl, rfl, rfl, by decide +kernel, rfl, by decide +kernel, by decide +kernel⟩
theorem b_lplaces {f : Addr} {fd : FuncData} (F : Fun K "_law_places" "_law_places" s_lplaces f fd) (T : Txt mg) : FnG P w K mg base CX0 1 f fd ["_law_text_here", "_law_was"] (spPlaces K) := by
  refine okG0 F sc_lplaces (fun vs H Q E h => ?_) (fun cdv A outer s H vs Q E hg hr h => ?_)
  · obtain ⟨x, wd, rfl, _⟩ := h
    rfl
  · have hu := hu_of hr
    have hu64 := hr.units
    obtain ⟨x, wd, rfl, hx, hw, k⟩ := h
    refine ⟨_, (pss_cons (ps_set (i := 2) sc_lplaces.nd rfl (Or.inr rfl) (pe_callB call_len (by rfl) T.len (by decide +kernel) (pa_cons (pv 1) pa_nil)))
      (pss_one (ps_ret (pe_lc (own := [("_law_k", 3)]) (g := gName 3) rfl sc_lplaces.nd (pi_range1 rfl T.range (pa_cons (pe_op op_add (pe_op op_sub (pe_callB call_len (by rfl) T.len (by decide +kernel) (pa_cons (pv 0) pa_nil)) (pv 2)) pe_int) pa_nil)) (blkOk_by (own := [("_law_k", 3)]) (N := ["_law_text_here", "_law_was", "_law_size", "_law_k"]) (sc := defScope s_lplaces) (by decide +kernel)) (fun _ _ _ _ _ => (pg_name (i := 3) sc_lplaces.nd rfl (Or.inl rfl))) (fun _ _ _ _ _ => (pts_one (pt_cmpR op_eq (pe_slice sl_str (pv 0) (po_some (pv 3)) (po_some (pe_op op_add (pv 3) (pv 2)))) (pv 1) (nomark _)))) (fun _ _ _ _ _ => (pv 3)))))), ?_⟩
    have hx24 : x.length ≤ sizeLine := Nat.le_trans hx (by decide)
    have hw24 : wd.length ≤ sizeLine := Nat.le_trans hw (by decide)
    refine ⟨_, rfl, _, _, rfl, ⟨hw24, rfl⟩, ?_⟩
    refine ⟨_, rfl, _, _, rfl, ⟨hx24, rfl⟩, _, rfl, _, _, rfl, rfl, _, _, rfl, rfl, _, rfl, by omega, by omega, fun D hD => ?_⟩
    refine lc_range (lo := 0) (n := ((x.length : Int) - (wd.length : Int) + 1).toNat) (fun i H' => H' D = some (.lst ((((List.range i).filter (atB x wd)).map Int.ofNat).map V.int)) ∧ Same H H') ?_ ?_ ?_
    · exact ⟨upd_same, same_new hD⟩
    · rintro i H2 hi ⟨hd, sm⟩
      have hi2 : i + wd.length ≤ x.length := by omega
      refine ⟨rfl, _, rfl, _, rfl, _, rfl, _, rfl, _, rfl, _, _, rfl, rfl, _, rfl, x, rfl, hx24, ?_⟩
      refine ⟨_, rfl, rfl, _, rfl, ?_⟩
      have ec := cut_at x wd i hi2
      rw [show (0 : Int) + (i : Int) = (i : Int) by omega, ec]
      cases hb : atB x wd i with
      | true =>
        refine iteT ?_
        have fl : ((((List.range i).filter (atB x wd)).map Int.ofNat).map V.int).length ≤ i := by
          rw [List.length_map, List.length_map]
          exact Nat.le_trans (List.length_filter_le _ _) (Nat.le_of_eq List.length_range)
        refine ⟨_, rfl, _, hd, Nat.lt_of_le_of_lt fl (Nat.lt_of_le_of_lt (show i ≤ 10002 by omega) (by decide)), ?_, ?_⟩
        · rw [upd_same, filter_snoc hb, List.map_append, List.map_append]
          rfl
        · intro b o e
          exact (upd_ne (fun q => by rw [q, hD] at e; cases e)).trans (sm b o e)
      | false =>
        refine iteF ⟨?_, sm⟩
        rw [hd, filter_more (Nat.le_succ i) fun j h1 h2 => by rw [show j = i by omega]; exact hb]
    · rintro H2 ⟨hd, sm⟩
      refine k D H2 hD ?_ sm
      rw [hd]
      unfold plcI plc
      rw [← filter_more (lo := ((x.length : Int) - (wd.length : Int) + 1).toNat) (m := x.length + 1) (by omega) fun j h1 h2 => by
        unfold atB
        rw [decide_eq_false (by omega)]
        rfl]

theorem cut_upto (x : Str) (M : Nat) : (cutS x none (some (M : Int))).length ≤ M := by
  unfold cutS
  show (List.toArray _).size ≤ M
  rw [List.size_toArray, HT.sIx_nat, HT.sIx_none]
  refine Nat.le_trans (List.length_take_le _ _) ?_
  have := Nat.min_le_left M x.length
  omega
def spNtext : Sp := fun vs H Q _ => ∃ p c z M T, vs = [.ref p, .str z, .int (M : Nat)] ∧ Few z ∧ M ≤ 100 ∧ Pen H p c T ∧ T + 1000 < 1000000000 ∧ ∀ (x : Str) (H' : Hp), x.length ≤ M → Ltr x → Pen H' p c (T + 100) → Ext p H H' → Q (.str x) H'
abbrev s_lntext : Stmt := top 33
theorem sc_lntext : FnScope ["_law_pen_here", "_law_signs_here", "_law_most_letters", "_law_some", "_law_found", "_law_k"] ["_law_pen_here", "_law_signs_here", "_law_most_letters"] (defScope s_lntext) := ⟨rfl, rfl, rfl, by decide +kernel, rfl, by decide +kernel, by decide +kernel⟩
theorem b_lntext {f : Addr} {fd : FuncData} (F : Fun K "_law_ntext" "_law_ntext" s_lntext f fd) (T : Txt mg) (c_ldraw : CalG P w K mg base CX0 1 "_law_draw" spDraw) (c_lpick : CalG P w K mg base CX0 2 "_law_pick" (spPick K)) (c_lword : CalG P w K mg base CX0 3 "_law_word" spWord) : FnG P w K mg base CX0 4 f fd ["_law_pen_here", "_law_signs_here", "_law_most_letters"] spNtext := by
  refine okG0 F sc_lntext (fun vs H Q E h => ?_) (fun cdv A outer s H vs Q E hg hr h => ?_)
  · obtain ⟨p, pc, z, M, T0, rfl, _⟩ := h
    rfl
  · have hu := hu_of hr
    have hu64 := hr.units
    obtain ⟨p, pc, z, M, T0, rfl, fz, hM, hpen, hT, k⟩ := h
    have hr3 : Room 3 _ := hr
    have z100 : z.length ≤ 1000 := Nat.le_trans fz.2.1 (by decide)
    refine ⟨_, (pss_cons (ps_par (i := 3) (j := 4) (by rfl) sc_lntext.nd rfl rfl (by decide) rfl rfl (pa_cons (pe_lst (pa_cons (pe_cG c_lword hg hr (by decide) pass0 (pa_cons (pv 0) (pa_cons (pv 1) (pa_cons pe_int (pa_cons pe_int pa_nil))))) (pa_cons (pe_cG c_lword hg hr (by decide) pass0 (pa_cons (pv 0) (pa_cons (pv 1) (pa_cons pe_int (pa_cons pe_int pa_nil))))) pa_nil))) (pa_cons pe_str pa_nil)) (by rfl))
      (pss_cons (ps_for PassesOwn.never rfl (pi_range1 rfl T.range (pa_cons (pe_cG c_ldraw hg hr (by decide) pass0 (pa_cons (pv 0) (pa_cons pe_int pa_nil))) pa_nil)) (pg_name (i := 5) sc_lntext.nd rfl (Or.inl rfl)) (pss_one (ps_set (i := 4) sc_lntext.nd rfl (Or.inl rfl) (pe_op op_add_str (pv 4) (pe_cG c_lpick hg hr (by decide) pass0 (pa_cons (pv 0) (pa_cons (pe_op op_cat (pv 3) (pe_lst (pa_cons (pe_cG c_lpick hg hr (by decide) pass0 (pa_cons (pv 0) (pa_cons (pv 1) pa_nil))) pa_nil))) pa_nil)))))))
      (pss_one (ps_ret (pe_slice sl_str (pv 4) po_none (po_some (pv 2))))))), ?_⟩
    refine ⟨_, rfl, _, rfl, p, pc, z, 1, 4, T0, rfl, by decide, by decide, fz.1, z100, hpen, by omega, fun w1 H1 g1 P1 x1 => ?_⟩
    refine ⟨_, rfl, _, rfl, p, pc, z, 1, 3, _, rfl, by decide, by decide, fz.1, z100, P1, by omega, fun w2 H2 g2 P2 x2 => ?_⟩
    refine ⟨by show 2 ≤ sizeLine; decide, fun b hb => ?_⟩
    have sb := same_new (o := .lst [.str w1, .str w2]) hb
    have P3 := P2.stay sb
    have x3 : Ext p H _ := (x1.trans x2).trans (Ext.same sb)
    refine ⟨_, _, rfl, _, rfl, p, pc, 9, _, rfl, by decide, by decide, P3, by omega, fun n H4 n0 n1 P4 x4 => ?_⟩
    have hb4 := P3.keepI x4 upd_same
    refine ⟨_, rfl, by omega, by omega, ?_⟩
    refine for_range (lo := 0) (n := n.toNat) (fun i σ H' => ∃ (o5 : Option V) (f : Str), σ = [some (.ref p), some (.str z), some (.int (M : Nat)), some (.ref b), some (.str f), o5] ∧ (f.length ≤ 100 * i ∧ Ltr f) ∧ Pen H' p pc (T0 + 20 + 2 * i) ∧ Ext p H H' ∧ H' b = some (.lst [.str w1, .str w2])) ?_ ?_ ?_
    · exact ⟨_, "", rfl, ⟨by show 0 ≤ _; omega, lt_none⟩, P4.mono (by omega), x3.trans x4, hb4⟩
    · rintro i σ H5 hi ⟨o5, f, rfl, hf, P5, x5, hb5⟩
      have hf1 := hf.1
      refine ⟨_, rfl, _, rfl, _, rfl, _, rfl, _, rfl, p, pc, _, _, _, rfl, .str z z100, opts_ne fz.1, opts_le z100, P5, by omega, fun v H6 hv P6 x6 => ?_⟩
      obtain ⟨cv, rfl, hcv⟩ := ones_of hv
      have hb6 := P5.keepI x6 hb5
      refine ⟨by show 1 ≤ sizeLine; decide, fun q hq => ?_⟩
      have sq := same_new (o := .lst [OneS cv]) hq
      refine ⟨b, q, _, _, rfl, rfl, sq _ _ hb6, upd_same, by show 3 ≤ sizeLine; decide, fun q2 hq2 => ?_⟩
      have sq2 := same_new (o := .lst [.str w1, .str w2, OneS cv]) hq2
      have P7 := (P6.stay sq).stay sq2
      refine ⟨p, pc, _, _, _, rfl, .lst (SqL.of upd_same), (fun z => by cases z), by show 3 ≤ 1000; decide, P7, by omega, fun v H8 hv2 P8 x8 => ?_⟩
      have hb8 := P7.keepI x8 (sq2 _ _ (sq _ _ hb6))
      have ev : ∃ y : Str, v = .str y ∧ y.length ≤ 100 ∧ Ltr y := by
        simp only [List.mem_append, List.mem_cons, List.not_mem_nil, or_false] at hv2
        rcases hv2 with (rfl | rfl) | rfl
        · exact ⟨w1, rfl, Nat.le_trans g1.2.1 (by decide), lt_word fz g1⟩
        · exact ⟨w2, rfl, Nat.le_trans g2.2.1 (by decide), lt_word fz g2⟩
        · exact ⟨_, rfl, by show 1 ≤ 100; decide, lt_one fz hcv⟩
      obtain ⟨y, rfl, hy, oy⟩ := ev
      refine ⟨_, _, rfl, rfl, Nat.le_of_lt (fewL (by omega)), _, f ++ y, rfl, ⟨?_, lt_more hf.2 oy⟩, P8.mono (by omega), (x5.trans x6).trans (((Ext.same sq).trans (Ext.same sq2)).trans x8), hb8⟩
      rw [strLen_append]
      omega
    · rintro σ H5 ⟨o5, f, rfl, hf, P5, x5, hb5⟩
      have hf1 := hf.1
      refine ⟨_, rfl, _, rfl, _, rfl, f, rfl, Nat.le_of_lt (fewL (by have : n.toNat ≤ 9 := by omega
                                                                     omega)), k _ _ (cut_upto f M) (cutS_lt hf.2 _ _) (P5.mono (by omega)) x5⟩

/-- a window that stands once -/
def spNonce : Sp := fun vs H Q _ => ∃ (x : Str) (a b : Nat), vs = [.str x, .int (a : Nat), .int (b : Nat)] ∧ x.length ≤ 100 ∧ (a < b → b ≤ x.length) ∧ ∀ H', Same H H' → Q (.bl (decide (a < b ∧ twB x a b = false))) H'
abbrev s_lnonce : Stmt := top 34
theorem sc_lnonce : FnScope ["_law_text_here", "_law_a", "_law_b"] ["_law_text_here", "_law_a", "_law_b"] (defScope s_lnonce) := ⟨rfl, rfl, rfl, by decide +kernel, rfl, by decide +kernel, by decide +kernel⟩
theorem b_lnonce {f : Addr} {fd : FuncData} (F : Fun K "_law_nonce" "_law_nonce" s_lnonce f fd) (T : Txt mg) (c_lplaces : CalG P w K mg base CX0 1 "_law_places" (spPlaces K)) : FnG P w K mg base CX0 2 f fd ["_law_text_here", "_law_a", "_law_b"] spNonce := by
  refine okG0 F sc_lnonce (fun vs H Q E h => ?_) (fun cdv A outer s H vs Q E hg hr h => ?_)
  · obtain ⟨x, a, b, rfl, _⟩ := h
    rfl
  · have hu := hu_of hr
    have hu64 := hr.units
    obtain ⟨x, a, b, rfl, hx, hb, k⟩ := h
    have hr1 : Room 1 _ := hr
    have xl : x.length ≤ sizeLine := Nat.le_of_lt (fewL (by omega))
    refine ⟨_, (pss_one (ps_ret (pe_and (pe_cmpR op_lt (pv 1) (pv 2) (nomark _)) (pe_one (pe_cmpR op_eq (pe_callB call_len (by rfl) T.len (by decide +kernel) (pa_cons (pe_cG c_lplaces hg hr (by decide) pass0 (pa_cons (pv 0) (pa_cons (pe_slice sl_str (pv 0) (po_some (pv 1)) (po_some (pv 2))) pa_nil))) pa_nil)) pe_int (nomark _)))))), ?_⟩
    refine ⟨_, rfl, _, rfl, _, _, rfl, rfl, _, rfl, ?_⟩
    by_cases hab : a < b
    · rw [decide_eq_true (show ((a : Nat) : Int) < ((b : Nat) : Int) by omega)]
      refine iteT ⟨_, rfl, _, rfl, _, rfl, _, rfl, _, rfl, _, rfl, x, rfl, xl, x, _, rfl, by omega, ?_⟩
      refine ⟨Nat.le_trans (cutS_length _ _ _) (by omega), fun lp H1 _ hp s1 => ⟨_, _, rfl, .inl ⟨_, SqL.of hp, rfl⟩, rfl, ?_⟩⟩
      have hl : ((plcI x (cutS x (some ((a : Nat) : Int)) (some ((b : Nat) : Int)))).map V.int).length = (plc x (cutS x (some ((a : Nat) : Int)) (some ((b : Nat) : Int)))).length := by
        unfold plcI
        rw [List.length_map, List.length_map]
      have q := k H1 s1
      have e : decide (V.int ((((plcI x (cutS x (some ((a : Nat) : Int)) (some ((b : Nat) : Int)))).map V.int).length : Nat) : Int) = V.int 1) = decide (a < b ∧ twB x a b = false) := by
        rw [hl]
        refine decide_eq_decide.mpr (Iff.trans ⟨fun z => ?_, fun z => ?_⟩ (Iff.trans (plc_one (Nat.le_of_lt hab) (hb hab)) ⟨fun z => ⟨hab, z⟩, fun z => z.2⟩))
        · have := V.int.inj z
          omega
        · rw [z]
          rfl
      rw [← e] at q
      exact q
    · rw [decide_eq_false (show ¬ ((a : Nat) : Int) < ((b : Nat) : Int) by omega)]
      refine iteF ?_
      have q := k H (fun _ _ e => e)
      rw [decide_eq_false (fun z => hab z.1)] at q
      exact q

theorem fewM {n : Nat} (h : n ≤ 1000000) : n < sizeLine := Nat.lt_of_le_of_lt h (by rw [sizeLine_eq]; decide)
def spPut : Sp := fun vs H Q _ => ∃ (x : Str) (q : Addr) (xs : List V) (rs : List (Nat × Nat × Str)), vs = [.str x, .ref q] ∧ x.length ≤ 100 ∧ H q = some (.tup xs) ∧ Rw3 H xs rs ∧ rs.length ≤ 100 ∧ (∀ r ∈ rs, r.2.2.length ≤ 1000) ∧ ∀ H', Same H H' → Q (.str (putH x 0 rs "")) H'
abbrev s_lnput : Stmt := top 35
theorem sc_lnput : FnScope ["_law_text_here", "_law_rows", "_law_found", "_law_behind", "_law_a", "_law_b", "_law_fresh"] ["_law_text_here", "_law_rows"] (defScope s_lnput) := ⟨rfl, rfl, rfl, by decide +kernel, rfl, by decide +kernel, by decide +kernel⟩
theorem b_lnput {f : Addr} {fd : FuncData} (F : Fun K "_law_nput" "_law_nput" s_lnput f fd) (T : Txt mg) : FnG P w K mg base CX0 1 f fd ["_law_text_here", "_law_rows"] spPut := by
  refine okG0 F sc_lnput (fun vs H Q E h => ?_) (fun cdv A outer s H vs Q E hg hr h => ?_)
  · obtain ⟨x, q, xs, rs, rfl, _⟩ := h
    rfl
  · have hu := hu_of hr
    have hu64 := hr.units
    obtain ⟨x, q, xs, rs, rfl, hx, hq, rw0, hl, hz, k⟩ := h
    have xl : x.length ≤ sizeLine := Nat.le_of_lt (fewM (by omega))
    have glen := paired_len rw0
    refine ⟨_, (pss_cons (ps_asg (pe_tup (pa_cons pe_str (pa_cons pe_int pa_nil))) (pg_tup rfl (pgs_cons (pg_name (i := 2) sc_lnput.nd rfl (Or.inl rfl)) (pgs_cons (pg_name (i := 3) sc_lnput.nd rfl (Or.inl rfl)) pgs_nil))))
      (pss_cons (ps_for PassesOwn.never rfl (pi_tup (pv 1)) (pg_tup rfl (pgs_cons (pg_name (i := 4) sc_lnput.nd rfl (Or.inl rfl)) (pgs_cons (pg_name (i := 5) sc_lnput.nd rfl (Or.inl rfl)) (pgs_cons (pg_name (i := 6) sc_lnput.nd rfl (Or.inl rfl)) pgs_nil)))) (pss_cons (ps_set (i := 2) sc_lnput.nd rfl (Or.inl rfl) (pe_op op_add_str (pe_op op_add_str (pv 2) (pe_slice sl_str (pv 0) (po_some (pv 3)) (po_some (pv 4)))) (pv 6)))
      (pss_one (ps_set (i := 3) sc_lnput.nd rfl (Or.inl rfl) (pv 5)))))
      (pss_one (ps_ret (pe_op op_add_str (pv 2) (pe_slice sl_str (pv 0) (po_some (pv 3)) po_none)))))), ?_⟩
    refine ⟨by show 2 ≤ sizeLine; decide, fun t0 ht0 => ?_⟩
    have st0 := same_new (o := .tup [.str "", .int 0]) ht0
    refine ⟨t0, _, rfl, SqT.of upd_same, rfl, _, _, rfl, _, _, rfl, rfl, ?_⟩
    refine ⟨_, rfl, q, rfl, ⟨_, SqT.of (st0 _ _ hq)⟩, ?_⟩
    refine for_tup (xs := xs) (fun i σ H' => ∃ (p : Nat) (acc : Str) (o4 o5 o6 : Option V), σ = [some (.str x), some (.ref q), some (.str acc), some (.int (p : Nat)), o4, o5, o6] ∧ Same H H' ∧ acc.length ≤ 1200 * i ∧ putH x p (rs.drop i) acc = putH x 0 rs "") ?_ ?_ ?_ ?_
    · exact ⟨0, "", _, _, _, rfl, st0, Nat.zero_le _, rfl⟩
    · rintro i σ H2 _ ⟨p, acc, o4, o5, o6, rfl, s2, _, _⟩
      exact SqT.of (s2 _ _ hq)
    · rintro i v σ H2 hv ⟨p, acc, o4, o5, o6, rfl, s2, al, he⟩
      obtain ⟨r, hr1, t, rfl, ht⟩ := paired_at rw0 hv
      have hi := (List.getElem?_eq_some_iff.mp hr1).1
      have hz1 := hz r (List.mem_of_getElem? hr1)
      have c1 : (cutS x (some ((p : Nat) : Int)) (some ((r.1 : Nat) : Int))).length ≤ 100 := Nat.le_trans (cutS_length _ _ _) hx
      rw [drop_at hr1] at he
      refine ⟨t, _, rfl, SqT.of (s2 _ _ ht), rfl, _, _, rfl, _, _, rfl, _, _, rfl, rfl, ?_⟩
      refine ⟨_, rfl, _, rfl, _, rfl, _, rfl, _, rfl, _, rfl, x, rfl, xl, _, _, rfl, rfl, Nat.le_of_lt (fewM (by omega)), _, rfl, _, _, rfl, rfl, Nat.le_of_lt (fewM (by rw [strLen_append]; omega)), _, rfl, ?_⟩
      exact ⟨r.2.1, _, _, _, _, rfl, s2, by rw [strLen_append, strLen_append]; omega, he⟩
    · rintro σ H2 ⟨p, acc, o4, o5, o6, rfl, s2, al, he⟩
      rw [List.drop_of_length_le (by omega)] at he
      have c1 : (cutS x (some ((p : Nat) : Int)) none).length ≤ 100 := Nat.le_trans (cutS_length _ _ _) hx
      refine ⟨_, rfl, _, rfl, _, rfl, _, rfl, x, rfl, xl, _, _, rfl, rfl, Nat.le_of_lt (fewM (by omega)), ?_⟩
      have q := k H2 s2
      rw [← he] at q
      exact q

end
end Vk
set_option Elab.async false
set_option maxRecDepth 100000
set_option linter.all false
set_option maxHeartbeats 4000000
namespace Vk
open PySem PySem.Spec PyProof.Rows L2
section
variable {P : Program} {w : World} {K : PySem.W.Frag} {mg : Str → Option Value} {base : Heap}
end
end Vk
set_option Elab.async false
set_option maxRecDepth 100000
set_option linter.all false
namespace Vk
open PySem PySem.Spec PyProof.Rows L2
section
variable {P : Program} {w : World} {K : PySem.W.Frag} {mg : Str → Option Value} {base : Heap}
/-- the strings within a tuple are short -/
def El (d : PyData) : Prop := ∀ l, d = .tuple l → ∀ x ∈ l, Srt x
end
end Vk
set_option Elab.async false
set_option maxRecDepth 100000
set_option linter.all false
set_option maxHeartbeats 4000000
namespace Vk
open PySem PySem.Spec PyProof.Rows L2
section
variable {P : Program} {w : World} {K : PySem.W.Frag} {mg : Str → Option Value} {base : Heap}
/-- a part of an exchange, as it stands among values -/
def row3 (x : Str) (l : Nat) : PyData → PyData → PyData → Option (Nat × Nat × Str)
  | .int b, .int e, .str n => if (inI (.int b) l ((x.length : Int) - 1) && (inI (.int e) (b + 1) x.length && (isT (.str n) && !twB x b.toNat e.toNat))) = true then some (b.toNat, e.toNat, n) else none
  | _, _, _ => none
def rowG (x : Str) (l : Nat) : PyData → Option (Nat × Nat × Str)
  | .tuple [d1, d2, d3] => row3 x l d1 d2 d3
  | _ => none
theorem rowG_eq {x : Str} {l : Nat} {b e : Int} {n : Str} : rowG x l (.tuple [.int b, .int e, .str n]) = if (inI (.int b) l ((x.length : Int) - 1) && (inI (.int e) (b + 1) x.length && (isT (.str n) && !twB x b.toNat e.toNat))) = true then some (b.toNat, e.toNat, n) else none := rfl
def spPartOk : Sp := fun vs H Q _ => ∃ v d x l, vs = [v, .str x, .int (l : Nat)] ∧ Th H v d ∧ El d ∧ x.length ≤ 100 ∧ Q (.bl (rowG x l d).isSome) H
theorem rowG_int {x : Str} {l : Nat} {d1 d2 d3 : PyData} (h : inI d1 l ((x.length : Int) - 1) = false) : rowG x l (.tuple [d1, d2, d3]) = none := by
  cases d1 with
  | int b =>
    cases d2 with
    | int e =>
      cases d3 with
      | str n =>
        rw [rowG_eq, h, Bool.false_and]
        rfl
      | _ => rfl
    | _ => rfl
  | _ => rfl
theorem rowG_end {x : Str} {l : Nat} {b : Int} {d2 d3 : PyData} (h : inI d2 (b + 1) x.length = false) : rowG x l (.tuple [.int b, d2, d3]) = none := by
  cases d2 with
  | int e =>
    cases d3 with
    | str n =>
      rw [rowG_eq, h, Bool.false_and, Bool.and_false]
      rfl
    | _ => rfl
  | _ => rfl
theorem rowG_new {x : Str} {l : Nat} {b e : Int} {d3 : PyData} (h : isT d3 = false) : rowG x l (.tuple [.int b, .int e, d3]) = none := by
  cases d3 with
  | str n =>
    rw [rowG_eq, h, Bool.false_and, Bool.and_false, Bool.and_false]
    rfl
  | _ => rfl
theorem inI_int {d : PyData} {lo hi : Int} (h : inI d lo hi = true) : ∃ i, d = .int i ∧ lo ≤ i ∧ i ≤ hi := by
  cases d with
  | int i =>
    have h : (decide (lo ≤ i) && decide (i ≤ hi)) = true := h
    rw [Bool.and_eq_true, decide_eq_true_eq, decide_eq_true_eq] at h
    exact ⟨i, rfl, h.1, h.2⟩
  | _ => cases h
theorem at_int {v : V} {i : Int} (a : Atm v (.int i)) : v = .int i := by
  cases a
  rfl
abbrev s_is_exchange_part : Stmt := top 14
theorem sc_is_exchange_part : FnScope ["value", "text", "least", "begin", "end", "new"] ["value", "text", "least"] (defScope s_is_exchange_part) := ⟨rfl, rfl, rfl, by decide +kernel, rfl, by decide +kernel, by decide +kernel⟩
theorem b_is_exchange_part {f : Addr} {fd : FuncData} (F : Fun K "is_exchange_part" "is_exchange_part" s_is_exchange_part f fd) (T : Txt mg) (c_is_text : CalG P w K mg base CX0 1 "is_text" (spTest isT)) (c_is_integer_in : CalG P w K mg base CX0 2 "is_integer_in" spInI) (c_stands_once : CalG P w K mg base CX0 2 "stands_once" spOnce) : FnG P w K mg base CX0 3 f fd ["value", "text", "least"] spPartOk := by
  refine okG0 F sc_is_exchange_part (fun vs H Q E h => ?_) (fun cdv A outer s H vs Q E hg hr h => ?_)
  · obtain ⟨v, d, x, l, rfl, _⟩ := h
    rfl
  · have hu := hu_of hr
    have hu64 := hr.units
    obtain ⟨v, d, x, l, rfl, th, el, hx, k⟩ := h
    have hr2 : Room 2 _ := hr
    have xl : x.length ≤ sizeLine := Nat.le_of_lt (fewL (by omega))
    obtain ⟨t, b, ty, kt, hb⟩ := kit_tup (K := K) th
    refine ⟨_, (pss_cons (ps_if (PW.pt (pw_or (pt_not (pt_val (pe_callB call_isi (by rfl) T.isinstance (by decide +kernel) (pa_cons (pv 0) (pa_cons (pe_bltn (v := .ty "tuple") (by rfl) T.tuple rfl rfl) pa_nil))))) (pw_or1 (pt_cmpR op_ne (pe_callB call_len (by rfl) T.len (by decide +kernel) (pa_cons (pv 0) pa_nil)) pe_int (nomark _))))) (pss_one (ps_ret pe_bl)) pss_nil)
      (pss_cons (ps_asg (pv 0) (pg_tup rfl (pgs_cons (pg_name (i := 3) sc_is_exchange_part.nd rfl (Or.inl rfl)) (pgs_cons (pg_name (i := 4) sc_is_exchange_part.nd rfl (Or.inl rfl)) (pgs_cons (pg_name (i := 5) sc_is_exchange_part.nd rfl (Or.inl rfl)) pgs_nil)))))
      (pss_cons (ps_if (PW.pt (pw_or (pt_not (pt_val (pe_cG c_is_integer_in hg hr (by decide) pass0 (pa_cons (pv 3) (pa_cons (pv 2) (pa_cons (pe_op op_sub (pe_callB call_len (by rfl) T.len (by decide +kernel) (pa_cons (pv 1) pa_nil)) pe_int) pa_nil)))))) (pw_or1 (pt_not (pt_val (pe_cG c_is_integer_in hg hr (by decide) pass0 (pa_cons (pv 4) (pa_cons (pe_op op_add (pv 3) pe_int) (pa_cons (pe_callB call_len (by rfl) T.len (by decide +kernel) (pa_cons (pv 1) pa_nil)) pa_nil))))))))) (pss_one (ps_ret pe_bl)) pss_nil)
      (pss_one (ps_ret (pe_and (pe_cG c_is_text hg hr (by decide) pass0 (pa_cons (pv 5) pa_nil)) (pe_one (pe_cG c_stands_once hg hr (by decide) pass0 (pa_cons (pv 1) (pa_cons (pe_slice sl_str (pv 1) (po_some (pv 3)) (po_some (pv 4))) pa_nil)))))))))), ?_⟩
    refine ⟨_, rfl, v, .ty "tuple", t, .type "tuple", b, rfl, .ty "tuple", ty, kt, _, rfl, ?_⟩
    cases th with
    | atm a => cases a <;> (subst hb; exact iteT (iteT k))
    | lst e n p => subst hb; exact iteT (iteT k)
    | dct e => subst hb; exact iteT (iteT k)
    | @tup a xs ds e pa =>
      subst hb
      refine iteF ⟨_, rfl, .ref a, xs.length, rfl, .inr ⟨_, SqT.of e, rfl⟩, rfl, _, rfl, ?_⟩
      match xs, ds, pa, e, el, k with
      | [], [], _, e, el, k => exact iteT k
      | [x1], [y1], _, e, el, k => exact iteT k
      | [x1, x2], [y1, y2], _, e, el, k => exact iteT k
      | x1 :: x2 :: x3 :: x4 :: xr, y1 :: y2 :: y3 :: y4 :: yr, _, e, el, k =>
        have z : (!decide (V.int ((x1 :: x2 :: x3 :: x4 :: xr).length : Nat) = V.int 3)) = true := by
          rw [decide_eq_false fun z => ?_]
          · rfl
          · have := V.int.inj z
            simp at this
            omega
        rw [z]
        exact iteT k
      | [v1, v2, v3], [d1, d2, d3], .cons p1 (.cons p2 (.cons p3 .nil)), e, el, k =>
        refine iteNS rfl ?_
        refine ⟨_, rfl, a, _, rfl, SqT.of e, rfl, _, _, rfl, _, _, rfl, _, _, rfl, rfl, ?_⟩
        refine ⟨_, rfl, _, rfl, _, rfl, _, _, rfl, ⟨xl, rfl⟩, _, _, rfl, rfl, v1, d1, _, _, rfl, .atm p1, _, rfl, ?_⟩
        cases h1 : inI d1 l ((x.length : Int) - 1) with
        | false =>
          rw [rowG_int h1] at k
          exact iteT (iteT k)
        | true =>
          obtain ⟨i, rfl, i1, i2⟩ := inI_int h1
          cases at_int p1
          refine iteF ⟨_, rfl, _, rfl, _, _, rfl, rfl, _, rfl, _, _, rfl, ⟨xl, rfl⟩, v2, d2, _, _, rfl, .atm p2, _, rfl, ?_⟩
          cases h2 : inI d2 (i + 1) x.length with
          | false =>
            rw [rowG_end h2] at k
            exact iteT k
          | true =>
            obtain ⟨j, rfl, j1, j2⟩ := inI_int h2
            cases at_int p2
            refine iteF ⟨_, rfl, v3, d3, rfl, .atm p3, el _ rfl _ (by simp), _, rfl, ?_⟩
            cases h3 : isT d3 with
            | false =>
              rw [rowG_new h3] at k
              exact iteF k
            | true =>
              obtain ⟨n, rfl⟩ := isT_str h3
              refine iteT ⟨_, rfl, _, rfl, _, rfl, _, rfl, _, rfl, _, rfl, x, rfl, xl, x, _, rfl, ?_⟩
              have eb : i = ((i.toNat : Nat) : Int) := by omega
              have ee : j = ((j.toNat : Nat) : Int) := by omega
              have q : (rowG x l (.tuple [.int i, .int j, .str n])).isSome = decide ((plc x (cutS x (some i) (some j))).length = 1) := by
                rw [rowG_eq, h1, h2, h3, Bool.true_and, Bool.true_and, Bool.true_and]
                have o := plc_one (x := x) (a := i.toNat) (b := j.toNat) (by omega) (by omega)
                rw [← eb, ← ee] at o
                cases w : twB x i.toNat j.toNat with
                | false =>
                  rw [decide_eq_true (o.mpr w)]
                  rfl
                | true =>
                  rw [decide_eq_false fun z => by rw [o.mp z] at w; cases w]
                  rfl
              rw [q] at k
              exact k

end
end Vk
set_option Elab.async false
set_option maxRecDepth 100000
set_option linter.all false
set_option maxHeartbeats 4000000
namespace Vk
open PySem PySem.Spec PyProof.Rows L2
section
variable {P : Program} {w : World} {K : PySem.W.Frag} {mg : Str → Option Value} {base : Heap}
/-- the first wrong part -/
def faultG (x : Str) : List PyData → Nat → Nat → Option Nat
  | [], _, _ => none
  | d :: t, l, i => match rowG x l d with
    | none => some i
    | some r => faultG x t r.2.1 (i + 1)
def faultD (x : Str) : PyData → Option Nat
  | .tuple ds => faultG x ds 0 0
  | _ => some 0
def fV : Option Nat → V
  | none => .non
  | some i => .int (i : Nat)
def ElG (d : PyData) : Prop := ∀ ds, d = .tuple ds → ds.length ≤ 100 ∧ ∀ e ∈ ds, El e
def rowD (r : Nat × Nat × Str) : PyData := .tuple [.int (r.1 : Nat), .int (r.2.1 : Nat), .str r.2.2]
theorem kit_tupG {H : Hp} {v : V} {d : PyData} (h : Tg H v d) : ∃ t b, TyX K H v t ∧ PySem.W.kitOne K t (.type "tuple") = some b ∧ b = isTupB d := by
  cases h with
  | one th n =>
    obtain ⟨t, b, ty, kt, hb⟩ := kit_tup (K := K) th
    refine ⟨t, b, ty, kt, hb.trans ?_⟩
    cases d with
    | tuple ds => exact absurd rfl (n ds)
    | _ => rfl
  | lst e p => exact ⟨.type "list", false, .base (.lst e), kit_ty (by decide +kernel), rfl⟩
  | tup e p => exact ⟨.type "tuple", true, .base (.tup e), kit_ty (by decide +kernel), rfl⟩
theorem rowG_some {x : Str} {l : Nat} {d : PyData} {r : Nat × Nat × Str} (h : rowG x l d = some r) : d = rowD r ∧ l ≤ r.1 ∧ r.1 < r.2.1 ∧ r.2.1 ≤ x.length ∧ isT (.str r.2.2) = true ∧ twB x r.1 r.2.1 = false := by
  unfold rowG at h
  split at h
  · rename_i d1 d2 d3
    unfold row3 at h
    split at h
    · rename_i b e n
      split at h
      · rename_i c
        cases h
        rw [Bool.and_eq_true, Bool.and_eq_true, Bool.and_eq_true] at c
        obtain ⟨c1, c2, c3, c4⟩ := c
        obtain ⟨i, e1, i1, i2⟩ := inI_int c1
        obtain ⟨j, e2, j1, j2⟩ := inI_int c2
        cases e1
        cases e2
        refine ⟨?_, by show l ≤ b.toNat; omega, by show b.toNat < e.toNat; omega, by show e.toNat ≤ x.length; omega, c3, ?_⟩
        · show PyData.tuple [.int b, .int e, .str n] = PyData.tuple [.int ((b.toNat : Nat) : Int), .int ((e.toNat : Nat) : Int), .str n]
          rw [show ((b.toNat : Nat) : Int) = b by omega, show ((e.toNat : Nat) : Int) = e by omega]
        · cases w : twB x b.toNat e.toNat with
          | false => rfl
          | true => rw [w] at c4; cases c4
      · cases h
    · cases h
  · cases h
theorem th_row {H : Hp} {v : V} {r : Nat × Nat × Str} (h : Th H v (rowD r)) : ∃ t, v = .ref t ∧ H t = some (.tup [.int (r.1 : Nat), .int (r.2.1 : Nat), .str r.2.2]) := by
  cases h with
  | atm a => cases a
  | @tup a xs ds e pa =>
    match xs, pa, e with
    | [v1, v2, v3], .cons p1 (.cons p2 (.cons p3 .nil)), e =>
      cases p1
      cases p2
      cases p3
      exact ⟨a, rfl, e⟩
theorem ths_rows {H : Hp} : ∀ {rs : List (Nat × Nat × Str)} {xs : List V}, Paired (Th H) xs (rs.map rowD) → Rw3 H xs rs
  | [], _, .nil => .nil
  | r :: rs, _, .cons a t => .cons (th_row a) (ths_rows t)
theorem rows_ths {H : Hp} : ∀ {rs : List (Nat × Nat × Str)} {xs : List V}, Rw3 H xs rs → Paired (Th H) xs (rs.map rowD)
  | [], _, .nil => .nil
  | r :: rs, _, .cons a t => .cons (by
      obtain ⟨u, rfl, h⟩ := a
      exact .tup h (.cons (.int _) (.cons (.int _) (.cons (.str _) .nil)))) (rows_ths t)
theorem fault_none {x : Str} : ∀ {ds : List PyData} {l i : Nat}, faultG x ds l i = none → ∃ rs : List (Nat × Nat × Str), ds = rs.map rowD ∧ OkR x.length l rs ∧ ∀ r ∈ rs, isT (.str r.2.2) = true ∧ twB x r.1 r.2.1 = false
  | [], l, i, _ => ⟨[], rfl, trivial, fun r hr => absurd hr List.not_mem_nil⟩
  | d :: t, l, i, h => by
    unfold faultG at h
    cases c : rowG x l d with
    | none =>
      rw [c] at h
      cases h
    | some r =>
      rw [c] at h
      obtain ⟨rs, e, ok, q⟩ := fault_none (ds := t) h
      obtain ⟨e1, h1, h2, h3, h4, h5⟩ := rowG_some c
      refine ⟨r :: rs, by rw [e1, e]; rfl, ⟨h1, h2, h3, ok⟩, fun r' hr => ?_⟩
      rcases List.mem_cons.mp hr with rfl | hr
      · exact ⟨h4, h5⟩
      · exact q r' hr
def unrow : PyData → Option (Nat × Nat × Str)
  | .tuple [.int b, .int e, .str n] => some (b.toNat, e.toNat, n)
  | _ => none
theorem unrow_rows (rs : List (Nat × Nat × Str)) : (rs.map rowD).filterMap unrow = rs := by
  induction rs with
  | nil => rfl
  | cons r t ih =>
    rw [List.map_cons, List.filterMap_cons, ih]
    rfl
/-- the text behind an exchange -/
def putX (x : Str) : PyData → Str
  | .tuple ds => putH x 0 (ds.filterMap unrow) ""
  | _ => ""
theorem putX_rows {x : Str} {rs : List (Nat × Nat × Str)} : putX x (.tuple (rs.map rowD)) = putH x 0 rs "" := by
  show putH x 0 ((rs.map rowD).filterMap unrow) "" = _
  rw [unrow_rows]
def spFirst : Sp := fun vs H Q _ => ∃ v d x, vs = [.str x, v] ∧ Tg H v d ∧ ElG d ∧ x.length ≤ 100 ∧ ∀ H', Same H H' → Q (fV (faultD x d)) H'
abbrev s_first_wrong : Stmt := top 15
theorem sc_first_wrong : FnScope ["text", "exchange", "least", "index", "part"] ["text", "exchange"] (defScope s_first_wrong) := ⟨rfl, rfl, rfl, by decide +kernel, rfl, by decide +kernel, by decide +kernel⟩
theorem b_first_wrong {f : Addr} {fd : FuncData} (F : Fun K "first_wrong" "first_wrong" s_first_wrong f fd) (T : Txt mg) (c_is_exchange_part : CalG P w K mg base CX0 3 "is_exchange_part" spPartOk) : FnG P w K mg base CX0 4 f fd ["text", "exchange"] spFirst := by
  refine okG0 F sc_first_wrong (fun vs H Q E h => ?_) (fun cdv A outer s H vs Q E hg hr h => ?_)
  · obtain ⟨v, d, x, rfl, _⟩ := h
    rfl
  · have hu := hu_of hr
    have hu64 := hr.units
    obtain ⟨v, d, x, rfl, tg, el, hx, k⟩ := h
    have hr3 : Room 3 _ := hr
    obtain ⟨t, b, ty, kt, hb⟩ := kit_tupG (K := K) tg
    refine ⟨_, (pss_cons (ps_if (pt_not (pt_val (pe_callB call_isi (by rfl) T.isinstance (by decide +kernel) (pa_cons (pv 1) (pa_cons (pe_bltn (v := .ty "tuple") (by rfl) T.tuple rfl rfl) pa_nil))))) (pss_one (ps_ret pe_int)) pss_nil)
      (pss_cons (ps_set (i := 2) sc_first_wrong.nd rfl (Or.inl rfl) pe_int)
      (pss_cons (ps_for PassesOwn.never rfl (pi_enumT (by rfl) T.enumerate (pa_cons (pv 1) pa_nil)) (pg_tup rfl (pgs_cons (pg_name (i := 3) sc_first_wrong.nd rfl (Or.inl rfl)) (pgs_cons (pg_name (i := 4) sc_first_wrong.nd rfl (Or.inl rfl)) pgs_nil))) (pss_cons (ps_if (pt_not (pt_val (pe_cG c_is_exchange_part hg hr (by decide) pass0 (pa_cons (pv 4) (pa_cons (pv 0) (pa_cons (pv 2) pa_nil)))))) (pss_one (ps_ret (pv 3))) pss_nil)
      (pss_one (ps_set (i := 2) sc_first_wrong.nd rfl (Or.inl rfl) (pe_ix ix_seq (pv 4) pe_int (fun _ _ => rfl))))))
      (pss_one (ps_ret pe_non))))), ?_⟩
    refine ⟨_, rfl, v, .ty "tuple", t, .type "tuple", b, rfl, .ty "tuple", ty, kt, _, rfl, ?_⟩
    cases tg with
    | one th n =>
      have e1 : isTupB d = false := by
        cases d with
        | tuple ds => exact absurd rfl (n ds)
        | _ => rfl
      have e2 : faultD x d = some 0 := by
        cases d with
        | tuple ds => exact absurd rfl (n ds)
        | _ => rfl
      rw [hb, e1]
      rw [e2] at k
      exact iteT (k H Same.rfl)
    | lst e p =>
      subst hb
      exact iteT (k H Same.rfl)
    | @tup a xs ds e pa =>
      subst hb
      have el := (el ds rfl).2
      have hlen := paired_len pa
      refine iteF ?_
      refine ⟨_, rfl, a, _, rfl, e, fun i m σ H2 => m + i = xs.length ∧ (∃ (l : Nat) (o3 o4 : Option V), σ = [some (.str x), some (.ref a), some (.int (l : Nat)), o3, o4] ∧ faultG x ds 0 0 = faultG x (ds.drop i) l i) ∧ Same H H2, ⟨xs.length, rfl, ⟨0, _, _, rfl, rfl⟩, Same.rfl⟩, ?_⟩
      rintro i m σ H2 ⟨hm, ⟨l, o3, o4, rfl, hb⟩, s2⟩
      by_cases hi : i < xs.length
      · obtain ⟨v, hv⟩ : ∃ v, xs[i]? = some v := ⟨xs[i], List.getElem?_eq_getElem hi⟩
        obtain ⟨d, hd, th⟩ := paired_at pa hv
        rw [drop_at hd] at hb
        refine .inr ⟨⟨_, _, s2 _ _ e, hv⟩, fun σ2 H3 => m - 1 + (i + 1) = xs.length ∧ (∃ (l : Nat) (o3 o4 : Option V), σ2 = [some (.str x), some (.ref a), some (.int (l : Nat)), o3, o4] ∧ faultG x ds 0 0 = faultG x (ds.drop (i + 1)) l (i + 1)) ∧ Same H H3, fun σ2 H3 p => ⟨m - 1, by omega, p⟩, ?_⟩
        rintro y H3 ⟨T, y2, xs2, rfl, hT, rfl, hxs, hy⟩
        have e3 := (s2 _ _ e).symm.trans hxs
        cases e3
        cases hv.symm.trans hy
        have s3 := s2.trans (same_new (o := .tup [.int (i : Nat), v]) hT)
        have eld := el d (List.mem_of_getElem? hd)
        have th3 := th.keep s3
        refine ⟨T, _, rfl, SqT.of upd_same, rfl, ?_⟩
        refine ⟨_, _, rfl, _, _, rfl, rfl, _, rfl, _, rfl, _, rfl, v, d, x, l, rfl, th3, eld, hx, _, rfl, ?_⟩
        cases hP : rowG x l d with
        | none =>
          have e1 : faultG x ds 0 0 = some i := hb.trans (by unfold faultG; rw [hP])
          have k : ∀ H', Same H H' → Q (fV (faultG x ds 0 0)) H' := k
          rw [e1] at k
          exact iteT ⟨_, rfl, k _ s3⟩
        | some r =>
          have e1 : faultG x ds 0 0 = faultG x (ds.drop (i + 1)) r.2.1 (i + 1) := hb.trans (by rw [faultG, hP])
          obtain ⟨ed, _⟩ := rowG_some hP
          subst ed
          obtain ⟨t, rfl, ht⟩ := th_row th3
          refine iteF ⟨_, rfl, .inr (.inl ⟨t, _, _, _, rfl, rfl, SqT.of ht, rfl, ?_⟩)⟩
          exact ⟨by omega, ⟨r.2.1, _, _, rfl, e1⟩, s3⟩
      · have e0 : i = xs.length := by omega
        have e1 : faultG x ds 0 0 = none := hb.trans (by rw [List.drop_eq_nil_of_le (by omega)]; rfl)
        refine .inl ⟨⟨_, s2 _ _ e, e0.symm⟩, ?_⟩
        have k : ∀ H', Same H H' → Q (fV (faultG x ds 0 0)) H' := k
        rw [e1] at k
        exact k _ s2

end
end Vk
set_option Elab.async false
set_option maxRecDepth 100000
set_option linter.all false
set_option maxHeartbeats 4000000
namespace Vk
open PySem PySem.Spec PyProof.Rows L2
section
variable {P : Program} {w : World} {K : PySem.W.Frag} {mg : Str → Option Value} {base : Heap}
theorem fault_tup {x : Str} {d : PyData} (h : faultD x d = none) : ∃ rs : List (Nat × Nat × Str), d = .tuple (rs.map rowD) ∧ OkR x.length 0 rs ∧ ∀ r ∈ rs, isT (.str r.2.2) = true ∧ twB x r.1 r.2.1 = false := by
  cases d with
  | tuple ds =>
    obtain ⟨rs, rfl, q⟩ := fault_none (ds := ds) h
    exact ⟨rs, rfl, q⟩
  | _ => cases h
theorem tg_rows {H : Hp} {v : V} {rs : List (Nat × Nat × Str)} (h : Tg H v (.tuple (rs.map rowD))) : ∃ q xs, v = .ref q ∧ H q = some (.tup xs) ∧ Rw3 H xs rs := by
  cases h with
  | one th n => exact absurd rfl (n _)
  | tup e p => exact ⟨_, _, rfl, e, ths_rows p⟩
theorem el_rows {rs : List (Nat × Nat × Str)} (el : ElG (.tuple (rs.map rowD))) : rs.length ≤ 100 ∧ ∀ r ∈ rs, r.2.2.length ≤ 1000 := by
  obtain ⟨h1, h2⟩ := el _ rfl
  rw [List.length_map] at h1
  refine ⟨h1, fun r hr => ?_⟩
  exact (h2 _ (List.mem_map.mpr ⟨r, hr, rfl⟩) _ rfl (.str r.2.2) (by simp)).1
def spIsEx : Sp := fun vs H Q _ => ∃ v d x y, vs = [.str x, .str y, v] ∧ Tg H v d ∧ ElG d ∧ x.length ≤ 100 ∧ ∀ H', Same H H' → Q (.bl ((faultD x d).isNone && decide (putX x d = y))) H'
abbrev s_is_exchange : Stmt := top 16
theorem sc_is_exchange : FnScope ["text", "other", "value"] ["text", "other", "value"] (defScope s_is_exchange) := ⟨rfl, rfl, rfl, by decide +kernel, rfl, by decide +kernel, by decide +kernel⟩
theorem b_is_exchange {f : Addr} {fd : FuncData} (F : Fun K "is_exchange" "is_exchange" s_is_exchange f fd) (T : Txt mg) (c_first_wrong : CalG P w K mg base CX0 4 "first_wrong" spFirst) (c_text_behind : CalG P w K mg base CX0 1 "text_behind" spBehind) : FnG P w K mg base CX0 5 f fd ["text", "other", "value"] spIsEx := by
  refine okG0 F sc_is_exchange (fun vs H Q E h => ?_) (fun cdv A outer s H vs Q E hg hr h => ?_)
  · obtain ⟨v, d, x, y, rfl, _⟩ := h
    rfl
  · have hu := hu_of hr
    have hu64 := hr.units
    obtain ⟨v, d, x, y, rfl, tg, el, hx, k⟩ := h
    have hr4 : Room 4 _ := hr
    refine ⟨_, (pss_one (ps_ret (pe_and (pe_cmpR op_isN (pe_cG c_first_wrong hg hr (by decide) pass0 (pa_cons (pv 0) (pa_cons (pv 2) pa_nil))) pe_non (nomark _)) (pe_one (pe_cmpR op_eq (pe_cG c_text_behind hg hr (by decide) pass0 (pa_cons (pv 0) (pa_cons (pv 2) pa_nil))) (pv 1) (nomark _)))))), ?_⟩
    refine ⟨_, rfl, _, rfl, v, d, x, rfl, tg, el, hx, fun H1 s1 => ?_⟩
    refine ⟨rfl, _, rfl, ?_⟩
    cases hf : faultD x d with
    | some i =>
      rw [hf] at k
      exact iteF (k H1 s1)
    | none =>
      obtain ⟨rs, rfl, ok, _⟩ := fault_tup hf
      obtain ⟨q, xs, rfl, hq, rw0⟩ := tg_rows tg
      obtain ⟨l1, l2⟩ := el_rows el
      refine iteT ⟨_, rfl, _, rfl, x, q, xs, rs, rfl, hx, s1 _ _ hq, rw0.keep s1, l1, l2, fun H2 s2 => ?_⟩
      have z := k H2 (s1.trans s2)
      rw [hf, putX_rows] at z
      refine ⟨_, rfl, rfl, ?_⟩
      rw [show decide (V.str (putH x 0 rs "") = V.str y) = decide (putH x 0 rs "" = y) from decide_eq_decide.mpr ⟨fun e => V.str.inj e, fun e => by rw [e]⟩]
      exact z

end
end Vk
set_option Elab.async false
set_option maxRecDepth 100000
set_option linter.all false
set_option maxHeartbeats 4000000
namespace Vk
open PySem PySem.Spec PyProof.Rows L2
section
variable {P : Program} {w : World} {K : PySem.W.Frag} {mg : Str → Option Value} {base : Heap}
def spNum : Sp := fun vs H Q _ => ∃ v d lo hi, vs = [v, .int lo, .int hi] ∧ Th H v d ∧ Q (.bl (inI d lo hi)) H
abbrev s_lis_number : Stmt := top 29
theorem sc_lis_number : FnScope ["_law_thing", "_law_least", "_law_greatest"] ["_law_thing", "_law_least", "_law_greatest"] (defScope s_lis_number) := ⟨rfl, rfl, rfl, by decide +kernel, rfl, by decide +kernel, by decide +kernel⟩
theorem b_lis_number {f : Addr} {fd : FuncData} (F : Fun K "_law_is_number" "_law_is_number" s_lis_number f fd) (T : Txt mg) : FnG P w K mg base CX0 1 f fd ["_law_thing", "_law_least", "_law_greatest"] spNum := by
  refine okG0 F sc_lis_number (fun vs H Q E h => ?_) (fun cdv A outer s H vs Q E hg hr h => ?_)
  · obtain ⟨v, d, lo, hi, rfl, _⟩ := h
    rfl
  · have hu := hu_of hr
    have hu64 := hr.units
    obtain ⟨v, d, lo, hi, rfl, th, k⟩ := h
    obtain ⟨t, b, c, ty, kt, kc, hb, hno⟩ := kit_int (K := K) th
    refine ⟨_, (pss_one (ps_ret (pe_and (pe_callB call_isi (by rfl) T.isinstance (by decide +kernel) (pa_cons (pv 0) (pa_cons (pe_bltn (v := .ty "int") (by rfl) T.int rfl rfl) pa_nil))) (pe_and (pe_not (pe_callB call_isi (by rfl) T.isinstance (by decide +kernel) (pa_cons (pv 0) (pa_cons (pe_bltn (v := .ty "bool") (by rfl) T.bool rfl rfl) pa_nil)))) (pe_one (pe_chain op_le op_le (pv 1) (pv 0) (pv 2))))))), ?_⟩
    refine ⟨_, rfl, v, .ty "int", t, .type "int", b, rfl, .ty "int", ty, kt, _, rfl, ?_⟩
    cases hI : isIntB d with
    | false =>
      rw [inI_no hI] at k
      cases b with
      | false => exact iteF k
      | true =>
        have ec : c = true := hno hI rfl
        subst ec
        exact iteT ⟨_, rfl, v, .ty "bool", t, .type "bool", true, rfl, .ty "bool", ty, kc, _, rfl, _, rfl, iteF k⟩
    | true =>
      rw [hI, Bool.and_eq_true] at hb
      obtain ⟨rfl, hc⟩ := hb
      have ec : c = false := by
        cases c with
        | false => rfl
        | true => cases hc
      subst ec
      obtain ⟨i, rfl, rfl⟩ := int_th th hI
      have k : Q (.bl (decide (lo ≤ i) && decide (i ≤ hi))) H := k
      refine iteT ⟨_, rfl, .int i, .ty "bool", t, .type "bool", false, rfl, .ty "bool", ty, kc, _, rfl, _, rfl, ?_⟩
      refine iteT ⟨_, rfl, _, rfl, _, _, rfl, rfl, _, rfl, ?_⟩
      cases h1 : decide (lo ≤ i) with
      | false =>
        rw [h1, Bool.false_and] at k
        exact iteF k
      | true =>
        rw [h1, Bool.true_and] at k
        exact iteT ⟨_, rfl, _, _, rfl, rfl, k⟩

end
end Vk
set_option Elab.async false
set_option maxRecDepth 100000
set_option linter.all false
set_option maxHeartbeats 4000000
namespace Vk
open PySem PySem.Spec PyProof.Rows L2
section
variable {P : Program} {w : World} {K : PySem.W.Frag} {mg : Str → Option Value} {base : Heap}
theorem inI_less {d : PyData} {lo hi hi2 : Int} (h : inI d lo hi2 = false) (le : hi ≤ hi2) : inI d lo hi = false := by
  cases d with
  | int i =>
    have h : (decide (lo ≤ i) && decide (i ≤ hi2)) = false := h
    show (decide (lo ≤ i) && decide (i ≤ hi)) = false
    cases a : decide (lo ≤ i) with
    | false => rfl
    | true =>
      rw [a, Bool.true_and] at h
      rw [Bool.true_and]
      have := of_decide_eq_false h
      exact decide_eq_false (by omega)
  | _ => rfl
theorem row3_all {x : Str} {l : Nat} {i j : Int} {n : Str} (h1 : (l : Int) ≤ i) (h2 : i + 1 ≤ j) (h3 : j ≤ x.length) (h4 : isT (.str n) = true) : rowG x l (.tuple [.int i, .int j, .str n]) = if twB x i.toNat j.toNat = false then some (i.toNat, j.toNat, n) else none := by
  have e1 : inI (.int i) l ((x.length : Int) - 1) = true := by
    show (decide ((l : Int) ≤ i) && decide (i ≤ (x.length : Int) - 1)) = true
    rw [decide_eq_true h1, decide_eq_true (by omega)]
    rfl
  have e2 : inI (.int j) (i + 1) x.length = true := by
    show (decide (i + 1 ≤ j) && decide (j ≤ (x.length : Int))) = true
    rw [decide_eq_true h2, decide_eq_true h3]
    rfl
  rw [rowG_eq, e1, e2, h4, Bool.true_and, Bool.true_and, Bool.true_and]
  cases twB x i.toNat j.toNat <;> rfl
abbrev s_lnfault : Stmt := top 36
theorem sc_lnfault : FnScope ["_law_text_here", "_law_thing", "_law_behind", "_law_k", "_law_row"] ["_law_text_here", "_law_thing"] (defScope s_lnfault) := ⟨rfl, rfl, rfl, by decide +kernel, rfl, by decide +kernel, by decide +kernel⟩
theorem b_lnfault {f : Addr} {fd : FuncData} (F : Fun K "_law_nfault" "_law_nfault" s_lnfault f fd) (T : Txt mg) (c_lis_number : CalG P w K mg base CX0 1 "_law_is_number" spNum) (c_lis_text : CalG P w K mg base CX0 2 "_law_is_text" (spSays isT)) (c_lnonce : CalG P w K mg base CX0 2 "_law_nonce" spNonce) : FnG P w K mg base CX0 3 f fd ["_law_text_here", "_law_thing"] spFirst := by
  refine okG0 F sc_lnfault (fun vs H Q E h => ?_) (fun cdv A outer s H vs Q E hg hr h => ?_)
  · obtain ⟨v, d, x, rfl, _⟩ := h
    rfl
  · have hu := hu_of hr
    have hu64 := hr.units
    obtain ⟨v, d, x, rfl, tg, el, hx, k⟩ := h
    have hr2 : Room 2 _ := hr
    have xl : x.length ≤ sizeLine := Nat.le_of_lt (fewL (by omega))
    obtain ⟨t, b, ty, kt, hb⟩ := kit_tupG (K := K) tg
    refine ⟨_, (pss_cons (ps_if (pt_not (pt_val (pe_callB call_isi (by rfl) T.isinstance (by decide +kernel) (pa_cons (pv 1) (pa_cons (pe_bltn (v := .ty "tuple") (by rfl) T.tuple rfl rfl) pa_nil))))) (pss_one (ps_ret pe_int)) pss_nil)
      (pss_cons (ps_set (i := 2) sc_lnfault.nd rfl (Or.inl rfl) pe_int)
      (pss_cons (ps_for PassesOwn.never rfl (pi_range1 rfl T.range (pa_cons (pe_callB call_len (by rfl) T.len (by decide +kernel) (pa_cons (pv 1) pa_nil)) pa_nil)) (pg_name (i := 3) sc_lnfault.nd rfl (Or.inl rfl)) (pss_cons (ps_set (i := 4) sc_lnfault.nd rfl (Or.inl rfl) (pe_ix ix_seq (pv 1) (pv 3) (fun _ _ => rfl)))
      (pss_cons (ps_if (PW.pt (pw_or (pt_not (pt_val (pe_callB call_isi (by rfl) T.isinstance (by decide +kernel) (pa_cons (pv 4) (pa_cons (pe_bltn (v := .ty "tuple") (by rfl) T.tuple rfl rfl) pa_nil))))) (pw_or (pt_cmpR op_ne (pe_callB call_len (by rfl) T.len (by decide +kernel) (pa_cons (pv 4) pa_nil)) pe_int (nomark _)) (pw_or1 (pt_not (pt_val (pe_cG c_lis_number hg hr (by decide) pass0 (pa_cons (pe_ix ix_seq (pv 4) pe_int (fun _ _ => rfl)) (pa_cons (pv 2) (pa_cons (pe_callB call_len (by rfl) T.len (by decide +kernel) (pa_cons (pv 0) pa_nil)) pa_nil)))))))))) (pss_one (ps_ret (pv 3))) pss_nil)
      (pss_cons (ps_if (PW.pt (pw_or (pt_not (pt_val (pe_cG c_lis_number hg hr (by decide) pass0 (pa_cons (pe_ix ix_seq (pv 4) pe_int (fun _ _ => rfl)) (pa_cons (pe_op op_add (pe_ix ix_seq (pv 4) pe_int (fun _ _ => rfl)) pe_int) (pa_cons (pe_callB call_len (by rfl) T.len (by decide +kernel) (pa_cons (pv 0) pa_nil)) pa_nil)))))) (pw_or1 (pt_not (pt_val (pe_cG c_lis_text hg hr (by decide) pass0 (pa_cons (pe_ix ix_seq (pv 4) pe_int (fun _ _ => rfl)) pa_nil))))))) (pss_one (ps_ret (pv 3))) pss_nil)
      (pss_cons (ps_if (pt_not (pt_val (pe_cG c_lnonce hg hr (by decide) pass0 (pa_cons (pv 0) (pa_cons (pe_ix ix_seq (pv 4) pe_int (fun _ _ => rfl)) (pa_cons (pe_ix ix_seq (pv 4) pe_int (fun _ _ => rfl)) pa_nil)))))) (pss_one (ps_ret (pv 3))) pss_nil)
      (pss_one (ps_set (i := 2) sc_lnfault.nd rfl (Or.inl rfl) (pe_ix ix_seq (pv 4) pe_int (fun _ _ => rfl)))))))))
      (pss_one (ps_ret pe_non))))), ?_⟩
    refine ⟨_, rfl, v, .ty "tuple", t, .type "tuple", b, rfl, .ty "tuple", ty, kt, _, rfl, ?_⟩
    cases tg with
    | one th n =>
      have e1 : isTupB d = false := by
        cases d with
        | tuple ds => exact absurd rfl (n ds)
        | _ => rfl
      have e2 : faultD x d = some 0 := by
        cases d with
        | tuple ds => exact absurd rfl (n ds)
        | _ => rfl
      rw [hb, e1]
      rw [e2] at k
      exact iteT (k H Same.rfl)
    | lst e p =>
      subst hb
      exact iteT (k H Same.rfl)
    | @tup a xs ds e pa =>
      subst hb
      have xsl := (el ds rfl).1
      have el := (el ds rfl).2
      have hlen := paired_len pa
      have k : ∀ H', Same H H' → Q (fV (faultG x ds 0 0)) H' := k
      refine iteF ?_
      refine ⟨_, rfl, .ref a, xs.length, rfl, .inr ⟨_, SqT.of e, rfl⟩, _, rfl, by omega, by omega, ?_⟩
      refine for_range (lo := 0) (n := xs.length) (fun i σ H' => ∃ (l : Nat) (o3 o4 : Option V), σ = [some (.str x), some (.ref a), some (.int (l : Nat)), o3, o4] ∧ faultG x ds 0 0 = faultG x (ds.drop i) l i ∧ Same H H') ?_ ?_ ?_
      · exact ⟨0, _, _, rfl, rfl, Same.rfl⟩
      · rintro i σ H2 hi ⟨l, o3, o4, rfl, hb, s2⟩
        obtain ⟨v, hv⟩ : ∃ v, xs[i]? = some v := ⟨xs[i], List.getElem?_eq_getElem hi⟩
        obtain ⟨d, hd, th⟩ := paired_at pa hv
        rw [drop_at hd] at hb
        have eld := el d (List.mem_of_getElem? hd)
        have th3 := th.keep s2
        have ix : atI xs ((i : Nat) : Int) = some v := atI_nat hv
        rw [Int.zero_add]
        have none_k : rowG x l d = none → ∀ H', Same H H' → Q (.int (i : Nat)) H' := fun hn => by
          have e1 : faultG x ds 0 0 = some i := hb.trans (by unfold faultG; rw [hn])
          rw [e1] at k
          exact k
        refine ⟨_, rfl, _, rfl, .inr (.inl ⟨a, _, _, _, rfl, rfl, SqT.of (s2 _ _ e), ix, ?_⟩)⟩
        obtain ⟨t2, b2, ty2, kt2, hb2⟩ := kit_tup (K := K) th3
        refine ⟨_, rfl, v, .ty "tuple", t2, .type "tuple", b2, rfl, .ty "tuple", ty2, kt2, _, rfl, ?_⟩
        cases th3 with
        | atm a => cases a <;> (subst hb2; exact iteT (iteT ⟨_, rfl, none_k rfl _ s2⟩))
        | lst e n p => subst hb2; exact iteT (iteT ⟨_, rfl, none_k rfl _ s2⟩)
        | dct e => subst hb2; exact iteT (iteT ⟨_, rfl, none_k rfl _ s2⟩)
        | @tup a2 ys ys2 e2 pa2 =>
          subst hb2
          refine iteF ⟨_, rfl, .ref a2, ys.length, rfl, .inr ⟨_, SqT.of e2, rfl⟩, rfl, _, rfl, ?_⟩
          match ys, ys2, pa2, e2, eld, none_k, hb with
          | [], [], _, e2, eld, none_k, hb => exact iteT (iteT ⟨_, rfl, none_k rfl _ s2⟩)
          | [x1], [y1], _, e2, eld, none_k, hb => exact iteT (iteT ⟨_, rfl, none_k rfl _ s2⟩)
          | [x1, x2], [y1, y2], _, e2, eld, none_k, hb => exact iteT (iteT ⟨_, rfl, none_k rfl _ s2⟩)
          | x1 :: x2 :: x3 :: x4 :: xr, y1 :: y2 :: y3 :: y4 :: yr, _, e2, eld, none_k, hb =>
            have z : (!decide (V.int ((x1 :: x2 :: x3 :: x4 :: xr).length : Nat) = V.int 3)) = true := by
              rw [decide_eq_false fun z => ?_]
              · rfl
              · have := V.int.inj z
                simp at this
                omega
            rw [z]
            exact iteT (iteT ⟨_, rfl, none_k rfl _ s2⟩)
          | [v1, v2, v3], [d1, d2, d3], .cons p1 (.cons p2 (.cons p3 .nil)), e2, eld, none_k, hb =>
            refine iteNS rfl ?_
            refine ⟨_, rfl, .inr (.inl ⟨a2, _, _, v1, rfl, rfl, SqT.of e2, rfl, _, rfl, _, rfl, _, _, rfl, ⟨xl, rfl⟩, v1, d1, _, _, rfl, .atm p1, _, rfl, ?_⟩)⟩
            cases h1 : inI d1 l (x.length : Int) with
            | false => exact iteT ⟨_, rfl, none_k (rowG_int (inI_less h1 (by omega))) _ s2⟩
            | true =>
              obtain ⟨i0, rfl, i1, i2⟩ := inI_int h1
              cases at_int p1
              refine iteF ?_
              refine ⟨_, rfl, .inr (.inl ⟨a2, _, _, v2, rfl, rfl, SqT.of e2, rfl, _, rfl, .inr (.inl ⟨a2, _, _, _, rfl, rfl, SqT.of e2, rfl, _, _, rfl, rfl, _, rfl, _, _, rfl, ⟨xl, rfl⟩, v2, d2, _, _, rfl, .atm p2, _, rfl, ?_⟩)⟩)⟩
              cases h2 : inI d2 (i0 + 1) (x.length : Int) with
              | false => exact iteT (iteT ⟨_, rfl, none_k (rowG_end h2) _ s2⟩)
              | true =>
                obtain ⟨j0, rfl, j1, j2⟩ := inI_int h2
                cases at_int p2
                refine iteF ?_
                refine ⟨_, rfl, .inr (.inl ⟨a2, _, _, v3, rfl, rfl, SqT.of e2, rfl, v3, d3, rfl, .atm p3, eld _ rfl _ (by simp), fun H4 s4 => ⟨_, rfl, ?_⟩⟩)⟩
                have s24 := s2.trans s4
                have e4 := s4 _ _ e2
                cases h3 : isT d3 with
                | false => exact iteT ⟨_, rfl, none_k (rowG_new h3) _ s24⟩
                | true =>
                  obtain ⟨n, rfl⟩ := isT_str h3
                  cases p3
                  have er := row3_all (x := x) (l := l) i1 j1 j2 h3
                  have eb : i0 = ((i0.toNat : Nat) : Int) := by omega
                  have ee : j0 = ((j0.toNat : Nat) : Int) := by omega
                  refine iteF ?_
                  refine ⟨_, rfl, _, rfl, .inr (.inl ⟨a2, _, _, _, rfl, rfl, SqT.of e4, rfl, _, rfl, .inr (.inl ⟨a2, _, _, _, rfl, rfl, SqT.of e4, rfl, x, i0.toNat, j0.toNat, ?_, hx, (fun _ => by omega), fun H5 s5 => ⟨_, rfl, ?_⟩⟩)⟩)⟩
                  · rw [← eb, ← ee]
                    rfl
                  have s25 := s24.trans s5
                  have e5 := s5 _ _ e4
                  have lt : i0.toNat < j0.toNat := by omega
                  cases w : twB x i0.toNat j0.toNat with
                  | true =>
                    rw [w] at er
                    rw [decide_eq_false (fun z => nomatch z.2)]
                    exact iteT ⟨_, rfl, none_k er _ s25⟩
                  | false =>
                    rw [w] at er
                    rw [decide_eq_true ⟨lt, rfl⟩]
                    refine iteF ?_
                    refine ⟨_, rfl, .inr (.inl ⟨a2, _, _, _, rfl, rfl, SqT.of e5, rfl, ?_⟩)⟩
                    refine ⟨j0.toNat, some (.int (i : Nat)), some (.ref a2), ?_, hb.trans (by rw [faultG, er]; rfl), s25⟩
                    rw [← ee]
                    rfl
      · rintro σ H2 ⟨l, o3, o4, rfl, hb, s2⟩
        have e1 : faultG x ds 0 0 = none := hb.trans (by rw [List.drop_of_length_le (by omega)]; rfl)
        rw [e1] at k
        exact k _ s2

def spNcost : Sp := fun vs H Q _ => ∃ (q : Addr) (e : Int) (xs : List V) (rs : List (Nat × Nat × Str)), vs = [.ref q, .int e] ∧ H q = some (.tup xs) ∧ Rw3 H xs rs ∧ rs.length ≤ 100 ∧ (∀ r ∈ rs, r.2.2.length ≤ 100) ∧ ∀ H', Same H H' → Q (.int ((rs.map (costE e)).sum)) H'
abbrev s_lncost : Stmt := top 37
theorem sc_lncost : FnScope ["_law_rows", "_law_extra", "_law_a", "_law_b", "_law_fresh"] ["_law_rows", "_law_extra"] (defScope s_lncost) := ⟨rfl, rfl, rfl, by decide +kernel, rfl, by decide +kernel, by decide +kernel⟩
theorem b_lncost {f : Addr} {fd : FuncData} (F : Fun K "_law_ncost" "_law_ncost" s_lncost f fd) (T : Txt mg) : FnG P w K mg base CX0 1 f fd ["_law_rows", "_law_extra"] spNcost := by
  refine okG0 F sc_lncost (fun vs H Q E h => ?_) (fun cdv A outer s H vs Q E hg hr h => ?_)
  · obtain ⟨q, e0, xs, rs, rfl, _⟩ := h
    rfl
  · have hu := hu_of hr
    have hu64 := hr.units
    obtain ⟨q, e0, xs, rs, rfl, hq, rw0, hl, hz, k⟩ := h
    have glen := paired_len rw0
    refine ⟨_, (pss_one (ps_ret (pe_callB (cr_sum rfl) (by rfl) T.sum (by decide +kernel) (pa_cons (pe_lc (own := [("_law_a", 2), ("_law_b", 3), ("_law_fresh", 4)]) (g := (gTup K 3 (gCons (gName 2) (gCons (gName 3) (gCons (gName 4) gNil))))) (tt := tYes) rfl sc_lncost.nd (pi_tup (pv 0)) (blkOk_by (own := [("_law_a", 2), ("_law_b", 3), ("_law_fresh", 4)]) (N := ["_law_rows", "_law_extra", "_law_a", "_law_b", "_law_fresh"]) (sc := defScope s_lncost) (by decide +kernel)) (fun _ _ _ _ _ => (pg_tupK (K := K) rfl rfl (pgs_cons (pg_name (i := 2) sc_lncost.nd rfl (Or.inl rfl)) (pgs_cons (pg_name (i := 3) sc_lncost.nd rfl (Or.inl rfl)) (pgs_cons (pg_name (i := 4) sc_lncost.nd rfl (Or.inl rfl)) pgs_nil))))) (fun _ _ _ _ _ => pts_nil) (fun _ _ _ _ _ => (pe_op op_add (pe_op op_add (pe_op op_sub (pv 3) (pv 2)) (pe_callB (call_lenK (K := K) rfl) (by rfl) T.len (by decide +kernel) (pa_cons (pv 4) pa_nil))) (pv 1)))) pa_nil)))), ?_⟩
    refine ⟨_, rfl, q, rfl, ⟨_, SqT.of hq⟩, fun D hD => ?_⟩
    have sD := same_new (o := .lst []) hD
    refine lc_tup (K := K) (a := q) (xs := xs) (fun n H' => H' D = some (.lst ((rs.take n).map fun r => V.int (costE e0 r))) ∧ Same H H') ?_ ?_ ?_ ?_
    · exact ⟨upd_same, sD⟩
    · rintro n H' _ ⟨_, sm⟩
      exact SqT.of (sm _ _ hq)
    · rintro n v H' hv ⟨hDz, sm⟩
      obtain ⟨r, hr1, t, rfl, ht⟩ := paired_at rw0 hv
      have zl : r.2.2.length ≤ sizeLine := Nat.le_of_lt (fewL (by have := hz r (List.mem_of_getElem? hr1); omega))
      refine ⟨t, _, rfl, SqT.of (sm _ _ ht), rfl, _, _, rfl, _, _, rfl, _, _, rfl, rfl, ?_⟩
      refine ⟨rfl, _, rfl, _, rfl, _, _, rfl, rfl, _, rfl, _, _, rfl, ⟨zl, rfl⟩, _, _, rfl, rfl, _, rfl, _, _, rfl, rfl, ?_⟩
      refine ⟨_, hDz, fewL (by rw [List.length_map, List.length_take]; omega), ?_, upd_out hD sm⟩
      rw [upd_same, List.take_add_one, hr1, Option.toList_some, List.map_append]
      rfl
    · rintro H2 ⟨hD2, s2⟩
      rw [List.take_of_length_le (by omega)] at hD2
      refine ⟨D, rs.map (costE e0), rfl, SqL.of ?_, k _ s2⟩
      rw [hD2, List.map_map]
      rfl

end
end Vk
set_option Elab.async false
set_option maxRecDepth 100000
set_option linter.all false
namespace Vk
open PySem PySem.Spec PyProof.Rows L2
/-- the least end of a window from a that stands once; behind the text if there is none -/
def lendF (x : Str) (a : Nat) : Nat → Nat → Nat
  | 0, e => e
  | f + 1, e => if e ≤ x.length ∧ twB x a e = true then lendF x a f (e + 1) else e
theorem lendF_spec {x : Str} {a : Nat} : ∀ (f e : Nat), a < e → x.length + 1 ≤ e + f → (∀ b, a < b → b < e → b ≤ x.length → twB x a b = true) →
    e ≤ lendF x a f e ∧ (∀ b, a < b → b < lendF x a f e → b ≤ x.length → twB x a b = true) ∧ (lendF x a f e ≤ x.length → twB x a (lendF x a f e) = false) ∧ (e ≤ x.length + 1 → lendF x a f e ≤ x.length + 1)
  | 0, e, h0, h1, h2 => ⟨Nat.le_refl _, h2, fun h => by rw [lendF] at h; omega, fun h => h⟩
  | f + 1, e, h0, h1, h2 => by
    rw [lendF]
    split
    · rename_i c
      obtain ⟨s1, s2, s3, s4⟩ := lendF_spec (x := x) (a := a) f (e + 1) (by omega) (by omega) fun b b1 b2 b3 => by
        by_cases be : b = e
        · rw [be]; exact c.2
        · exact h2 b b1 (by omega) b3
      exact ⟨by omega, s2, s3, fun _ => s4 (by omega)⟩
    · rename_i c
      refine ⟨Nat.le_refl _, h2, fun h => ?_, fun h => h⟩
      cases e2 : twB x a e with
      | false => rfl
      | true => exact absurd ⟨h, e2⟩ c
theorem lendF_step {x : Str} {a f e : Nat} (h : e ≤ x.length ∧ twB x a e = true) : lendF x a (f + 1) e = lendF x a f (e + 1) := by rw [lendF, if_pos h]
theorem lendF_stop {x : Str} {a f e : Nat} (h : ¬ (e ≤ x.length ∧ twB x a e = true)) : lendF x a f e = e := by
  cases f with
  | zero => rfl
  | succ f => rw [lendF, if_neg h]
/-- e is the least end from a -/
structure Lend (x : Str) (a e : Nat) : Prop where
  gt : a < e
  le : e ≤ x.length + 1
  twice : ∀ b, a < b → b < e → b ≤ x.length → twB x a b = true
  once : e ≤ x.length → twB x a e = false
theorem Lend.more {x : Str} {a e : Nat} (h : Lend x a e) {b : Nat} (h1 : e ≤ b) (h2 : b ≤ x.length) : twB x a b = false := by
  have g := h.gt
  cases e2 : twB x a b with
  | false => rfl
  | true =>
    have t := (twB_iff (by omega) h2).mp e2
    have := (twB_iff (by omega) (by omega)).mpr (t.less (Nat.le_refl _) (by omega) h1)
    rw [h.once (by omega)] at this
    cases this
theorem Lend.iff {x : Str} {a e : Nat} (h : Lend x a e) {b : Nat} (h1 : a < b) (h2 : b ≤ x.length) : twB x a b = false ↔ e ≤ b := by
  constructor
  · intro z
    refine Nat.le_of_not_lt fun q => ?_
    rw [h.twice b h1 q h2] at z
    cases z
  · intro z
    exact h.more z h2
theorem Lend.next {x : Str} {a e : Nat} (h : Lend x a e) : ∀ b, a + 1 < b → b < max e (a + 2) → b ≤ x.length → twB x (a + 1) b = true := by
  intro b b1 b2 b3
  have t := (twB_iff (by omega) b3).mp (h.twice b (by omega) (by omega) b3)
  exact (twB_iff (by omega) b3).mpr (t.less (by omega) (by omega) (Nat.le_refl _))
end Vk
set_option linter.all false
namespace Vk
/-! ## distances -/
def neq (a b : Nat) : Nat := if a = b then 0 else 1
def edD (A B : Nat → Nat) : Nat → Nat → Nat
  | 0, j => j
  | i + 1, 0 => i + 1
  | i + 1, j + 1 => min (min (edD A B i j + neq (A i) (B j)) (edD A B i (j + 1) + 1)) (edD A B (i + 1) j + 1)
/-! ## windows from a to i -/
def fD (X B : Nat → Nat) (a i j : Nat) : Nat := edD (fun t => X (a + t)) B (i - a) j
structure Best (X B : Nat → Nat) (i j num bits : Nat) : Prop where
  le : ∀ a, a ≤ i → num ≤ fD X B a i j
  bit : ∀ l, bits.testBit l = true ↔ l ≤ i ∧ fD X B (i - l) i j = num
  at_ : ∃ a, a ≤ i ∧ fD X B a i j = num
  up : num ≤ j
/-- the three pairs of next_column -/
def three (ne n1 b1 n2 b2 n3 b3 : Nat) : List (Nat × Nat) := [(n1 + ne, b1 * 2), (n2 + 1, b2 * 2), (n3 + 1, b3)]
/-! ## windows -/
/-! the law's rows -/
/-- what is told and what is due is the same -/
structure Cols (X B : Nat → Nat) (m n : Nat) (es : List (Nat × Nat)) : Prop where
  len : es.length = n
  best : ∀ i e, es[i]? = some e → Best X B (i + 1) m e.1 e.2
/-! an empty old -/
end Vk
set_option linter.all false
namespace Vk
/-! ## edits that make b of a, n of them -/
inductive Ed : List Nat → List Nat → Nat → Prop
  | nil : Ed [] [] 0
  | keep {a b : List Nat} {n : Nat} (x : Nat) : Ed a b n → Ed (x :: a) (x :: b) n
  | drop {a b : List Nat} {n : Nat} (x : Nat) : Ed a b n → Ed (x :: a) b (n + 1)
  | put {a b : List Nat} {n : Nat} (y : Nat) : Ed a b n → Ed a (y :: b) (n + 1)
  | set {a b : List Nat} {n : Nat} (x y : Nat) : Ed a b n → Ed (x :: a) (y :: b) (n + 1)
theorem Ed.symm {a b : List Nat} {n : Nat} (h : Ed a b n) : Ed b a n := by
  induction h with
  | nil => exact .nil
  | keep x _ ih => exact .keep x ih
  | drop x _ ih => exact .put x ih
  | put y _ ih => exact .drop y ih
  | set x y _ ih => exact .set y x ih
theorem Ed.len {a b : List Nat} {n : Nat} (h : Ed a b n) : a.length ≤ b.length + n ∧ b.length ≤ a.length + n := by
  induction h with
  | nil => exact ⟨Nat.le_refl _, Nat.le_refl _⟩
  | _ => simp only [List.length_cons] at *; omega
theorem Ed.zero {a b : List Nat} {n : Nat} (h : Ed a b n) (e : n = 0) : a = b := by
  induction h with
  | nil => rfl
  | keep x _ ih => rw [ih e]
  | _ => cases e
theorem Ed.puts : ∀ b : List Nat, Ed [] b b.length
  | [] => .nil
  | y :: b => .put y (Ed.puts b)
theorem Ed.trans {a b c : List Nat} {n m : Nat} (h : Ed a b n) (g : Ed b c m) : ∃ k, k ≤ n + m ∧ Ed a c k := by
  induction h generalizing c m with
  | nil => exact ⟨m, by omega, g⟩
  | @keep a b n x _ ih =>
    generalize hl : x :: b = l at g
    induction g with
    | nil => cases hl
    | keep y g _ =>
      cases hl
      obtain ⟨k, hk, e⟩ := ih g
      exact ⟨k, hk, .keep _ e⟩
    | drop y g _ =>
      cases hl
      obtain ⟨k, hk, e⟩ := ih g
      exact ⟨k + 1, by omega, .drop _ e⟩
    | put y g ig =>
      obtain ⟨k, hk, e⟩ := ig hl
      exact ⟨k + 1, by omega, .put _ e⟩
    | set y z g _ =>
      cases hl
      obtain ⟨k, hk, e⟩ := ih g
      exact ⟨k + 1, by omega, .set _ _ e⟩
  | @drop a b n x _ ih =>
    obtain ⟨k, hk, e⟩ := ih g
    exact ⟨k + 1, by omega, .drop _ e⟩
  | @put a b n x _ ih =>
    generalize hl : x :: b = l at g
    induction g with
    | nil => cases hl
    | keep y g _ =>
      cases hl
      obtain ⟨k, hk, e⟩ := ih g
      exact ⟨k + 1, by omega, .put _ e⟩
    | drop y g _ =>
      cases hl
      obtain ⟨k, hk, e⟩ := ih g
      exact ⟨k, by omega, e⟩
    | put y g ig =>
      obtain ⟨k, hk, e⟩ := ig hl
      exact ⟨k + 1, by omega, .put _ e⟩
    | set y z g _ =>
      cases hl
      obtain ⟨k, hk, e⟩ := ih g
      exact ⟨k + 1, by omega, .put _ e⟩
  | @set a b n x x2 _ ih =>
    generalize hl : x2 :: b = l at g
    induction g with
    | nil => cases hl
    | keep y g _ =>
      cases hl
      obtain ⟨k, hk, e⟩ := ih g
      exact ⟨k + 1, by omega, .set _ _ e⟩
    | drop y g _ =>
      cases hl
      obtain ⟨k, hk, e⟩ := ih g
      exact ⟨k + 1, by omega, .drop _ e⟩
    | put y g ig =>
      obtain ⟨k, hk, e⟩ := ig hl
      exact ⟨k + 1, by omega, .put _ e⟩
    | set y z g _ =>
      cases hl
      obtain ⟨k, hk, e⟩ := ih g
      exact ⟨k + 1, by omega, .set _ _ e⟩
/-! ## the table's distance -/
end Vk
set_option Elab.async false
set_option maxRecDepth 100000
set_option linter.all false
set_option maxHeartbeats 4000000
namespace Vk
/-! ## the least number that a promise holds for, below a bound -/
structure Least (S : Nat → Prop) (B v : Nat) : Prop where
  is : v < B → S v
  le : ∀ c, S c → v ≤ c
  top : v ≤ B
theorem least_ex (S : Nat → Prop) : ∀ B, ∃ v, Least S B v
  | 0 => ⟨0, fun h => absurd h (Nat.lt_irrefl _), fun _ _ => Nat.zero_le _, Nat.le_refl _⟩
  | B + 1 => by
    obtain ⟨v, h⟩ := least_ex S B
    rcases Nat.lt_or_ge v B with l | l
    · exact ⟨v, fun _ => h.is l, h.le, by omega⟩
    · have e : v = B := Nat.le_antisymm h.top l
      subst e
      rcases Classical.em (S v) with z | z
      · exact ⟨v, fun _ => z, h.le, by omega⟩
      · refine ⟨v + 1, fun q => absurd q (Nat.lt_irrefl _), fun c hc => ?_, Nat.le_refl _⟩
        have := h.le c hc
        rcases Nat.lt_or_ge v c with m | m
        · exact m
        · obtain rfl : c = v := by omega
          exact absurd hc z
noncomputable def lstB (S : Nat → Prop) (B : Nat) : Nat := Classical.choose (least_ex S B)
theorem lstB_least (S : Nat → Prop) (B : Nat) : Least S B (lstB S B) := Classical.choose_spec (least_ex S B)
theorem Least.uniq {S : Nat → Prop} {B v w : Nat} (a : Least S B v) (b : Least S B w) : v = w := by
  rcases Nat.lt_or_ge v B with l | l
  · have h1 := b.le _ (a.is l)
    rcases Nat.lt_or_ge w B with m | m
    · have h2 := a.le _ (b.is m)
      omega
    · omega
  · rcases Nat.lt_or_ge w B with m | m
    · have h2 := a.le _ (b.is m)
      have := b.top
      omega
    · have := a.top
      have := b.top
      omega
theorem Least.eq {S : Nat → Prop} {B v : Nat} (a : Least S B v) : lstB S B = v := (lstB_least S B).uniq a
/-- two bounds, one promise: below both of them the least is one -/
theorem lst_two {S : Nat → Prop} {B C c : Nat} (h : S c) (hB : c < B) (hC : c < C) : lstB S B = lstB S C := by
  have a := lstB_least S B
  have b := lstB_least S C
  have h1 := a.le _ h
  have h2 := b.le _ h
  have h3 := a.le _ (b.is (by omega))
  have h4 := b.le _ (a.is (by omega))
  omega
section
variable (a b : List Nat) (once : Nat → Nat → Prop) (e : Nat)
/-- ways to (i, j), step by step: a letter kept, a window exchanged -/
inductive WayF : Nat → Nat → Nat → Prop
  | start : WayF 0 0 0
  | keep {i j c : Nat} : WayF i j c → i < a.length → a[i]? = b[j]? → WayF (i + 1) (j + 1) c
  | xch {i j c t k : Nat} : WayF i j c → i < t → t ≤ a.length → once i t → j ≤ k → k ≤ b.length → WayF t k (c + e + (t - i) + (k - j))
/-- ways from (i, j) to the end -/
inductive WayB : Nat → Nat → Nat → Prop
  | stop : WayB a.length b.length 0
  | keep {i j c : Nat} : WayB (i + 1) (j + 1) c → i < a.length → a[i]? = b[j]? → WayB i j c
  | xch {i j c t k : Nat} : WayB t k c → i < t → t ≤ a.length → once i t → j ≤ k → k ≤ b.length → WayB i j (c + e + (t - i) + (k - j))
variable {a b once e}
theorem WayB.join {i j c d : Nat} (h : WayB a b once e i j c) (f : WayF a b once e i j d) : WayF a b once e a.length b.length (d + c) := by
  induction h generalizing d with
  | stop => exact f
  | keep _ h1 h2 ih => exact ih (.keep f h1 h2)
  | xch _ h1 h2 h3 h4 h5 ih =>
    have := ih (.xch f h1 h2 h3 h4 h5)
    rw [show ∀ x y z u v : Nat, x + (y + z + u + v) = x + z + u + v + y from by intros; omega]
    exact this
theorem WayF.join {i j c d : Nat} (f : WayF a b once e i j d) (h : WayB a b once e i j c) : WayB a b once e 0 0 (d + c) := by
  induction f generalizing c with
  | start => rw [Nat.zero_add]; exact h
  | keep _ h1 h2 ih => exact ih (.keep h h1 h2)
  | xch _ h1 h2 h3 h4 h5 ih =>
    have := ih (.xch h h1 h2 h3 h4 h5)
    rw [show ∀ x y z u v : Nat, x + y + z + u + v = x + (v + y + z + u) from by intros; omega]
    exact this
theorem way_both {c : Nat} : WayF a b once e a.length b.length c ↔ WayB a b once e 0 0 c := by
  constructor
  · intro h
    have := h.join .stop
    exact this
  · intro h
    have := h.join .start
    rw [Nat.zero_add] at this
    exact this
theorem WayF.in {i j c : Nat} (h : WayF a b once e i j c) : i ≤ a.length ∧ j ≤ b.length := by
  induction h with
  | start => exact ⟨Nat.zero_le _, Nat.zero_le _⟩
  | @keep i j c _ h1 h2 ih =>
    refine ⟨h1, ?_⟩
    rw [List.getElem?_eq_getElem h1] at h2
    exact (List.getElem?_eq_some_iff.mp h2.symm).1
  | xch _ h1 h2 h3 h4 h5 ih => exact ⟨h2, h5⟩
theorem WayB.in {i j c : Nat} (h : WayB a b once e i j c) : i ≤ a.length ∧ j ≤ b.length := by
  induction h with
  | stop => exact ⟨Nat.le_refl _, Nat.le_refl _⟩
  | keep _ h1 h2 ih => exact ⟨by omega, by omega⟩
  | xch _ h1 h2 h3 h4 h5 ih => exact ⟨by omega, by omega⟩
/-- the last step to (i, j) is a window -/
def Beg (a b : List Nat) (once : Nat → Nat → Prop) (e i j c : Nat) : Prop := ∃ g k d, WayF a b once e g k d ∧ g < i ∧ i ≤ a.length ∧ once g i ∧ k ≤ j ∧ j ≤ b.length ∧ c = d + e + (i - g) + (j - k)
theorem way_last {i j c : Nat} : WayF a b once e i j c ↔ (i = 0 ∧ j = 0 ∧ c = 0) ∨ Beg a b once e i j c ∨ ∃ i' j', i = i' + 1 ∧ j = j' + 1 ∧ i' < a.length ∧ a[i']? = b[j']? ∧ WayF a b once e i' j' c := by
  constructor
  · intro h
    cases h with
    | start => exact .inl ⟨rfl, rfl, rfl⟩
    | keep f h1 h2 => exact .inr (.inr ⟨_, _, rfl, rfl, h1, h2, f⟩)
    | xch f h1 h2 h3 h4 h5 => exact .inr (.inl ⟨_, _, _, f, h1, h2, h3, h4, h5, rfl⟩)
  · rintro (⟨rfl, rfl, rfl⟩ | ⟨g, k, d, f, h1, h2, h3, h4, h5, rfl⟩ | ⟨i', j', rfl, rfl, h1, h2, f⟩)
    · exact .start
    · exact .xch f h1 h2 h3 h4 h5
    · exact .keep f h1 h2
/-- no way costs more than this -/
theorem way_cost {i j c : Nat} (h : WayF a b once e i j c) : c ≤ i + j + e * i := by
  induction h with
  | start => exact Nat.zero_le _
  | @keep i j c _ _ _ ih =>
    have : e * i ≤ e * (i + 1) := Nat.mul_le_mul_left _ (Nat.le_succ _)
    omega
  | @xch i j c t k f h1 h2 h3 h4 h5 ih =>
    have : e * (i + 1) ≤ e * t := Nat.mul_le_mul_left _ h1
    rw [Nat.mul_succ] at this
    omega
def beyond (a b : List Nat) (e : Nat) : Nat := (a.length + b.length + 1) * (e + 1)
theorem way_below {i j c : Nat} (h : WayF a b once e i j c) : c < beyond a b e := by
  have h1 := way_cost h
  obtain ⟨h2, h3⟩ := h.in
  have h4 : e * i ≤ e * (a.length + b.length) := Nat.mul_le_mul_left _ (by omega)
  have h5 : beyond a b e = e * (a.length + b.length) + e + (a.length + b.length + 1) := by
    unfold beyond
    rw [Nat.mul_add, Nat.mul_one, Nat.mul_comm, Nat.mul_add, Nat.mul_one]
  omega
noncomputable def kF (a b : List Nat) (once : Nat → Nat → Prop) (e i j : Nat) : Nat := lstB (WayF a b once e i j) (beyond a b e)
noncomputable def gF (a b : List Nat) (once : Nat → Nat → Prop) (e i j : Nat) : Nat := lstB (Beg a b once e i j) (beyond a b e)
theorem kF_least (i j : Nat) : Least (WayF a b once e i j) (beyond a b e) (kF a b once e i j) := lstB_least _ _
theorem gF_least (i j : Nat) : Least (Beg a b once e i j) (beyond a b e) (gF a b once e i j) := lstB_least _ _
theorem kF_00 : kF a b once e 0 0 = 0 := by
  have := (kF_least (a := a) (b := b) (once := once) (e := e) 0 0).le 0 .start
  omega
/-- the row of kept letters: the window's price, or the letter is kept -/
theorem kF_rec {i j : Nat} (h : ¬ (i = 0 ∧ j = 0)) (hi : i ≤ a.length) : Least (WayF a b once e i j) (beyond a b e) (if 0 < i ∧ 0 < j ∧ a[i - 1]? = b[j - 1]? then min (gF a b once e i j) (kF a b once e (i - 1) (j - 1)) else gF a b once e i j) := by
  have g := gF_least (a := a) (b := b) (once := once) (e := e) i j
  have kk := kF_least (a := a) (b := b) (once := once) (e := e) (i - 1) (j - 1)
  by_cases c : 0 < i ∧ 0 < j ∧ a[i - 1]? = b[j - 1]?
  · rw [if_pos c]
    obtain ⟨c1, c2, c3⟩ := c
    refine ⟨fun l => ?_, fun d hd => ?_, Nat.le_trans (Nat.min_le_left _ _) g.top⟩
    · rcases Nat.le_total (gF a b once e i j) (kF a b once e (i - 1) (j - 1)) with m | m
      · rw [Nat.min_eq_left m] at l ⊢
        exact way_last.mpr (.inr (.inl (g.is l)))
      · rw [Nat.min_eq_right m] at l ⊢
        exact way_last.mpr (.inr (.inr ⟨i - 1, j - 1, by omega, by omega, by omega, c3, kk.is l⟩))
    · rcases way_last.mp hd with ⟨z1, z2, _⟩ | z | ⟨i', j', rfl, rfl, _, _, f⟩
      · exact absurd ⟨z1, z2⟩ h
      · exact Nat.le_trans (Nat.min_le_left _ _) (g.le _ z)
      · exact Nat.le_trans (Nat.min_le_right _ _) (kk.le _ f)
  · rw [if_neg c]
    refine ⟨fun l => way_last.mpr (.inr (.inl (g.is l))), fun d hd => ?_, g.top⟩
    rcases way_last.mp hd with ⟨z1, z2, _⟩ | z | ⟨i', j', rfl, rfl, _, z, f⟩
    · exact absurd ⟨z1, z2⟩ h
    · exact g.le _ z
    · exact absurd ⟨by omega, by omega, z⟩ c
theorem kF_eq {i j : Nat} (h : ¬ (i = 0 ∧ j = 0)) (hi : i ≤ a.length) : kF a b once e i j = if 0 < i ∧ 0 < j ∧ a[i - 1]? = b[j - 1]? then min (gF a b once e i j) (kF a b once e (i - 1) (j - 1)) else gF a b once e i j := (kF_rec h hi).eq
/-- once: what holds a window that stands once stands once; the least end from a beginning -/
structure OnceOk (a : List Nat) (once : Nat → Nat → Prop) (le : Nat → Option Nat) : Prop where
  isE : ∀ g t, le g = some t → g < t ∧ t ≤ a.length ∧ once g t
  least : ∀ g t, g < t → t ≤ a.length → once g t → ∃ u, le g = some u ∧ u ≤ t
  more : ∀ g t u, g < t → t ≤ u → u ≤ a.length → once g t → once g u
/-- the row of windows: those that begin to stand once here, or a longer one, or a longer text -/
theorem gF_rec {le : Nat → Option Nat} (ok : OnceOk a once le) {i j v : Nat} (hi : i ≤ a.length) (hj : j ≤ b.length)
    (top : v ≤ beyond a b e)
    (le1 : ∀ g, le g = some i → v ≤ kF a b once e g j + (i - g) + e) (le2 : 0 < i → v ≤ gF a b once e (i - 1) j + 1) (le3 : 0 < j → v ≤ gF a b once e i (j - 1) + 1)
    (is : v < beyond a b e → (∃ g, le g = some i ∧ v = kF a b once e g j + (i - g) + e) ∨ (0 < i ∧ v = gF a b once e (i - 1) j + 1) ∨ (0 < j ∧ v = gF a b once e i (j - 1) + 1)) : gF a b once e i j = v := by
  refine Least.eq ⟨fun l => ?_, fun c hc => ?_, top⟩
  · rcases is l with ⟨g, h1, rfl⟩ | ⟨h1, rfl⟩ | ⟨h1, rfl⟩
    · obtain ⟨q1, q2, q3⟩ := ok.isE _ _ h1
      have w := (kF_least (a := a) (b := b) (once := once) (e := e) g j).is (by omega)
      exact ⟨g, j, _, w, q1, hi, q3, Nat.le_refl _, hj, by omega⟩
    · obtain ⟨g, k, d, w, q1, q2, q3, q4, q5, q6⟩ := (gF_least (a := a) (b := b) (once := once) (e := e) (i - 1) j).is (by omega)
      exact ⟨g, k, d, w, by omega, hi, ok.more _ _ _ q1 (by omega) hi q3, q4, q5, by omega⟩
    · obtain ⟨g, k, d, w, q1, q2, q3, q4, q5, q6⟩ := (gF_least (a := a) (b := b) (once := once) (e := e) i (j - 1)).is (by omega)
      exact ⟨g, k, d, w, q1, hi, q3, by omega, hj, by omega⟩
  · obtain ⟨g, k, d, w, q1, q2, q3, q4, q5, rfl⟩ := hc
    rcases Nat.lt_or_ge k j with h | h
    · have := (gF_least (a := a) (b := b) (once := once) (e := e) i (j - 1)).le _ ⟨g, k, d, w, q1, q2, q3, by omega, by omega, rfl⟩
      have := le3 (by omega)
      omega
    · obtain rfl : k = j := by omega
      obtain ⟨u, hu, ul⟩ := ok.least _ _ q1 q2 q3
      rcases Nat.lt_or_ge u i with h2 | h2
      · obtain ⟨p1, p2, p3⟩ := ok.isE _ _ hu
        have := (gF_least (a := a) (b := b) (once := once) (e := e) (i - 1) k).le _ ⟨g, k, d, w, by omega, by omega, ok.more _ _ _ p1 (by omega) (by omega) p3, Nat.le_refl _, hj, rfl⟩
        have := le2 (by omega)
        omega
      · obtain rfl : u = i := by omega
        have := (kF_least (a := a) (b := b) (once := once) (e := e) g k).le _ w
        have := le1 g hu
        omega
/-- where a window's price comes from -/
theorem gF_from {le : Nat → Option Nat} (ok : OnceOk a once le) {i j : Nat} (l : gF a b once e i j < beyond a b e) : (∃ g, le g = some i ∧ gF a b once e i j = kF a b once e g j + (i - g) + e) ∨ (0 < j ∧ gF a b once e i j = gF a b once e i (j - 1) + 1) ∨ (0 < i ∧ gF a b once e i j = gF a b once e (i - 1) j + 1) := by
  have G := gF_least (a := a) (b := b) (once := once) (e := e) i j
  obtain ⟨g, k, d, w, q1, q2, q3, q4, q5, q6⟩ := G.is l
  rcases Nat.lt_or_ge k j with h | h
  · refine .inr (.inl ⟨by omega, ?_⟩)
    have G2 := gF_least (a := a) (b := b) (once := once) (e := e) i (j - 1)
    have h1 := G2.le _ ⟨g, k, d, w, q1, q2, q3, by omega, by omega, rfl⟩
    obtain ⟨g', k', d', w', p1, p2, p3, p4, p5, p6⟩ := G2.is (by omega)
    have h2 := G.le _ ⟨g', k', d', w', p1, p2, p3, by omega, q5, rfl⟩
    omega
  · obtain rfl : k = j := by omega
    obtain ⟨u, hu, ul⟩ := ok.least _ _ q1 q2 q3
    obtain ⟨p1, p2, p3⟩ := ok.isE _ _ hu
    rcases Nat.lt_or_ge u i with h2 | h2
    · refine .inr (.inr ⟨by omega, ?_⟩)
      have G2 := gF_least (a := a) (b := b) (once := once) (e := e) (i - 1) k
      have h1 := G2.le _ ⟨g, k, d, w, by omega, by omega, ok.more _ _ _ p1 (by omega) (by omega) p3, Nat.le_refl _, q5, rfl⟩
      obtain ⟨g', k', d', w', r1, r2, r3, r4, r5, r6⟩ := G2.is (by omega)
      have h3 := G.le _ ⟨g', k', d', w', by omega, q2, ok.more _ _ _ r1 (by omega) q2 r3, r4, q5, rfl⟩
      omega
    · obtain rfl : u = i := by omega
      refine .inl ⟨g, hu, ?_⟩
      have K := kF_least (a := a) (b := b) (once := once) (e := e) g k
      have h1 := K.le _ w
      have h2 := G.le _ ⟨g, k, _, K.is (by omega), q1, q2, q3, Nat.le_refl _, q5, rfl⟩
      omega
end
end Vk
set_option Elab.async false
set_option maxRecDepth 100000
set_option linter.all false
set_option maxHeartbeats 4000000
namespace Vk
open PySem PySem.Spec PyProof.Rows L2
section
variable {P : Program} {w : World} {K : PySem.W.Frag} {mg : Str → Option Value} {base : Heap}
/-- what stands for an end -/
def endV (x : Str) (e : Nat) : V := if e ≤ x.length then .int (e : Nat) else .non
def spEnds : Sp := fun vs H Q _ => ∃ x, vs = [.str x] ∧ x.length ≤ 100 ∧ ∀ (a : Addr) (es : List Nat) H', H a = none → H' a = some (.lst (es.map (endV x))) → es.length = x.length → (∀ i e, es[i]? = some e → Lend x i e) → Same H H' → Q (.ref a) H'
abbrev s_least_ends : Stmt := top 12
theorem sc_least_ends : FnScope ["text", "told", "end", "begin"] ["text"] (defScope s_least_ends) := ⟨rfl, rfl, rfl, by decide +kernel, rfl, by decide +kernel, by decide +kernel⟩
theorem b_least_ends {f : Addr} {fd : FuncData} (F : Fun K "least_ends" "least_ends" s_least_ends f fd) (T : Txt mg) (c_stands_twice : CalG P w K mg base CX0 1 "stands_twice" spTwice) : FnG P w K mg base CX0 2 f fd ["text"] spEnds := by
  refine okG0 F sc_least_ends (fun vs H Q E h => ?_) (fun cdv A outer s H vs Q E hg hr h => ?_)
  · obtain ⟨x, rfl, _⟩ := h
    rfl
  · have hu := hu_of hr
    have hu64 := hr.units
    obtain ⟨x, rfl, hx, k⟩ := h
    have hr1 : Room 1 _ := hr
    have xl : x.length ≤ sizeLine := Nat.le_of_lt (fewL (by omega))
    refine ⟨_, (pss_cons (ps_set (i := 1) sc_least_ends.nd rfl (Or.inl rfl) (pe_lst pa_nil))
      (pss_cons (ps_set (i := 2) sc_least_ends.nd rfl (Or.inl rfl) pe_int)
      (pss_cons (ps_for PassesOwn.never rfl (pi_range1 rfl T.range (pa_cons (pe_callB call_len (by rfl) T.len (by decide +kernel) (pa_cons (pv 0) pa_nil)) pa_nil)) (pg_name (i := 3) sc_least_ends.nd rfl (Or.inl rfl)) (pss_cons (ps_set (i := 2) sc_least_ends.nd rfl (Or.inl rfl) (pe_callB (call_max2 rfl) (by rfl) T.max (by decide +kernel) (pa_cons (pv 2) (pa_cons (pe_op op_add (pv 3) pe_int) pa_nil))))
      (pss_cons (ps_while PassesOwn.never (PW.pt (pw_and (pt_cmpR op_le (pv 2) (pe_callB call_len (by rfl) T.len (by decide +kernel) (pa_cons (pv 0) pa_nil)) (nomark _)) (pw_and1 (pt_val (pe_cG c_stands_twice hg hr (by decide) pass0 (pa_cons (pv 0) (pa_cons (pe_slice sl_str (pv 0) (po_some (pv 3)) (po_some (pv 2))) pa_nil))))))) (pss_one (ps_aug (i := 2) sc_least_ends.nd rfl (Or.inl rfl) pe_int ip_add)))
      (pss_one (ps_expr (pe_bm PySem.F.plainAttrs_list PySem.F.slot_list_append PySem.F.type_list_append mt_append (pv 1) (pa_cons (pe_ifExp (pt_cmpR op_le (pv 2) (pe_callB call_len (by rfl) T.len (by decide +kernel) (pa_cons (pv 0) pa_nil)) (nomark _)) (pv 2) pe_non) pa_nil)))))))
      (pss_one (ps_ret (pv 1)))))), ?_⟩
    refine ⟨by show 0 ≤ sizeLine; decide, fun a ha => ?_⟩
    have sa := same_new (o := .lst []) ha
    refine ⟨_, rfl, _, _, rfl, ⟨xl, rfl⟩, _, rfl, by omega, by omega, ?_⟩
    refine for_range (lo := 0) (n := ((x.length : Nat) : Int).toNat) (fun i σ H' => ∃ (o3 : Option V) (e0 : Nat) (es : List Nat), σ = [some (.str x), some (.ref a), some (.int (e0 : Nat)), o3] ∧ H' a = some (.lst (es.map (endV x))) ∧ es.length = i ∧ (∀ j e, es[j]? = some e → Lend x j e) ∧ Same H H' ∧ ((i = 0 ∧ e0 = 0) ∨ (1 ≤ i ∧ Lend x (i - 1) e0))) ?_ ?_ ?_
    · exact ⟨_, 0, [], rfl, upd_same, rfl, (fun j e h => by cases h), sa, .inl ⟨rfl, rfl⟩⟩
    · rintro i σ H2 hi ⟨o3, e0, es, rfl, ha2, el, le, s2, h0⟩
      have hi1 : i < x.length := by omega
      rw [Int.zero_add]
      refine ⟨_, rfl, _, rfl, _, _, rfl, rfl, _, _, rfl, ?_⟩
      have em : (if ((i : Nat) : Int) + 1 > ((e0 : Nat) : Int) then ((i : Nat) : Int) + 1 else ((e0 : Nat) : Int)) = ((max e0 (i + 1) : Nat) : Int) := by split <;> omega
      rw [em]
      have hm1 : i < max e0 (i + 1) := by omega
      have hm2 : max e0 (i + 1) ≤ x.length + 1 := by
        rcases h0 with h0 | h0
        · omega
        · have := h0.2.le; omega
      have tw0 : ∀ b, i < b → b < max e0 (i + 1) → b ≤ x.length → twB x i b = true := fun b b1 b2 b3 => by
        rcases h0 with h0 | h0
        · omega
        · have q := h0.2.next b
          rw [show i - 1 + 1 = i by omega, show i - 1 + 2 = i + 1 by omega] at q
          exact q b1 b2 b3
      obtain ⟨r1, r2, r3, r4⟩ := lendF_spec (x := x) (a := i) (x.length + 1) (max e0 (i + 1)) hm1 (by omega) tw0
      have L : Lend x i (lendF x i (x.length + 1) (max e0 (i + 1))) := ⟨by omega, r4 hm2, r2, r3⟩
      generalize hR : lendF x i (x.length + 1) (max e0 (i + 1)) = R at L
      clear r1 r2 r3 r4
      refine ⟨fun m σ H' => ∃ e f, σ = [some (.str x), some (.ref a), some (.int (e : Nat)), some (.int (i : Nat))] ∧ H' = H2 ∧ lendF x i f e = R ∧ x.length + 1 ≤ e + f ∧ i < e ∧ m = x.length + 1 - e, ⟨_, _, _, rfl, rfl, hR, by omega, hm1, rfl⟩, ?_⟩
      rintro m σ H3 ⟨e, f, rfl, rfl, eR, ef, ie, rfl⟩
      refine ⟨_, rfl, _, rfl, _, _, rfl, ⟨xl, rfl⟩, _, _, rfl, rfl, _, rfl, ?_⟩
      by_cases cond : e ≤ x.length ∧ twB x i e = true
      · rw [decide_eq_true (show ((e : Nat) : Int) ≤ ((x.length : Nat) : Int) by omega)]
        refine iteT ⟨_, rfl, _, rfl, _, rfl, _, rfl, _, rfl, _, rfl, x, rfl, xl, x, _, rfl, _, rfl, ?_⟩
        rw [show decide (2 ≤ (plc x (cutS x (some ((i : Nat) : Int)) (some ((e : Nat) : Int)))).length) = twB x i e from rfl, cond.2]
        refine iteT ⟨fun σ' H' => σ' = [some (.str x), some (.ref a), some (.int ((e + 1 : Nat) : Int)), some (.int (i : Nat))] ∧ H' = H3, ?_, ?_⟩
        · rintro σ' H' ⟨rfl, rfl⟩
          cases f with
          | zero => omega
          | succ f => exact ⟨_, (by omega : x.length + 1 - (e + 1) < x.length + 1 - e), e + 1, f, rfl, rfl, (lendF_step cond).symm.trans eR, by omega, by omega, rfl⟩
        · exact ⟨_, rfl, _, _, rfl, rfl, rfl, rfl⟩
      · have eq : e = R := by rw [← eR, lendF_stop cond]
        refine' or_both (R := ?oR) ?oa ?ob ?oc
        case oa =>
          intro hc hR
          refine ⟨_, rfl, _, rfl, _, rfl, _, rfl, _, rfl, _, rfl, x, rfl, xl, x, _, rfl, _, rfl, ?_⟩
          have el2 : e ≤ x.length := Int.ofNat_le.mp (of_decide_eq_true hc)
          rw [show decide (2 ≤ (plc x (cutS x (some ((i : Nat) : Int)) (some ((e : Nat) : Int)))).length) = twB x i e from rfl]
          cases q : twB x i e with
          | true => exact absurd ⟨el2, q⟩ cond
          | false =>
            refine iteF ?_
            exact hR
        case ob =>
          intro hc hR
          exact hR
        case oc =>
          subst eq
          refine ⟨_, rfl, .inl ⟨rfl, _, SqL.of ha2⟩, _, rfl, _, rfl, _, _, rfl, ⟨xl, rfl⟩, _, _, rfl, rfl, _, rfl, ?_⟩
          have snoc : ∀ v, v = endV x e → es.map (endV x) ++ [v] = (es ++ [e]).map (endV x) := fun v hv => by rw [List.map_append, hv]; rfl
          have fin : ∀ j e', (es ++ [e])[j]? = some e' → Lend x j e' := fun j e' h => by
            by_cases hj : j < es.length
            · rw [List.getElem?_append_left hj] at h
              exact le j e' h
            · have ej : j = i := by
                have := (List.getElem?_eq_some_iff.mp h).1
                rw [List.length_append, List.length_singleton] at this
                omega
              subst ej
              rw [List.getElem?_append_right (by omega), el, Nat.sub_self] at h
              cases h
              exact L
          by_cases c : e ≤ x.length
          · rw [decide_eq_true (show ((e : Nat) : Int) ≤ ((x.length : Nat) : Int) by omega)]
            refine iteT ⟨_, rfl, a, _, _, rfl, rfl, ha2, fewL (by rw [List.length_map]; omega), _, e, es ++ [e], rfl, ?_, by rw [List.length_append, el]; rfl, fin, upd_out ha s2, .inr ⟨by omega, L⟩⟩
            rw [upd_same, snoc _ (by unfold endV; rw [if_pos c])]
          · rw [decide_eq_false (show ¬ ((e : Nat) : Int) ≤ ((x.length : Nat) : Int) by omega)]
            refine iteF ⟨a, _, _, rfl, rfl, ha2, fewL (by rw [List.length_map]; omega), _, e, es ++ [e], rfl, ?_, by rw [List.length_append, el]; rfl, fin, upd_out ha s2, .inr ⟨by omega, L⟩⟩
            rw [upd_same, snoc _ (by unfold endV; rw [if_neg c])]
    · rintro σ H2 ⟨o3, e0, es, rfl, ha2, el, le, s2, h0⟩
      rw [Int.toNat_natCast] at el
      exact ⟨_, rfl, k a es H2 ha ha2 el le s2⟩

end
end Vk
set_option Elab.async false
set_option maxRecDepth 100000
set_option maxHeartbeats 4000000
set_option linter.all false
namespace Vk
open PySem PySem.Spec PyProof.Rows L2
/-! ## for i, c in enumerate(x), x a text -/
/-! ## loops over these -/
theorem for_enumL {K : PySem.W.Frag} {a : Addr} {xs : List V} {g : TG} {tb : TS} {D : Ends} {σ : L2.St} {H : Hp} (Pv : Nat → L2.St → Hp → Prop) (h0 : Pv 0 σ H) (hl : ∀ i σ H, i ≤ xs.length → Pv i σ H → SqL K H a xs)
    (hs : ∀ i v σ H T, xs[i]? = some v → H T = none → Pv i σ H → g (.ref T) σ (upd H T (.tup [.int (i : Nat), v])) fun σ2 H2 => tb { D with nx := Pv (i + 1), ct := Pv (i + 1), bk := D.nx } σ2 H2) (hd : ∀ σ H, Pv xs.length σ H → D.nx σ H) :
    ∃ W : Nat → Nat → L2.St → Hp → Prop, (∃ m, W 0 m σ H) ∧ ∀ i m σ H, W i m σ H →
      ((Ite K a).stop i H ∧ D.nx σ H) ∨ ((Ite K a).go i H ∧ ∃ N : L2.St → Hp → Prop, (∀ σ' H', N σ' H' → ∃ m', m' < m ∧ W (i + 1) m' σ' H') ∧ ∀ x1 H', (Ite K a).yld i H x1 H' → g x1 σ H' fun σ2 H2 => tb { D with nx := N, ct := N, bk := D.nx } σ2 H2) := by
  refine ⟨fun i m σ H => m = xs.length - i ∧ i ≤ xs.length ∧ Pv i σ H, ⟨xs.length, by simp, Nat.zero_le _, h0⟩, ?_⟩
  rintro i m σ H ⟨rfl, hi, p⟩
  have q := hl i σ H hi p
  by_cases hlt : i < xs.length
  · refine .inr ⟨⟨xs, xs[i], q, by simp [hlt]⟩, Pv (i + 1), fun σ' H' p' => ⟨xs.length - (i + 1), by omega, rfl, hlt, p'⟩, ?_⟩
    rintro x1 H' ⟨T, v, rfl, hT, rfl, hv⟩
    exact hs i v σ H T (hv xs q) hT p
  · have e : i = xs.length := by omega
    subst e
    exact .inl ⟨⟨xs, q, Nat.le_refl _⟩, hd σ H p⟩
end Vk
set_option Elab.async false
set_option maxRecDepth 100000
set_option linter.all false
set_option maxHeartbeats 4000000
namespace Vk
open PySem PySem.Spec PyProof.Rows L2
def onceX (x : Str) (g t : Nat) : Prop := twB x g t = false
def leE (x : Str) (es : List Nat) (g : Nat) : Option Nat := match es[g]? with | some e => if e ≤ x.length then some e else none | none => none
theorem onceOk_es {x : Str} {es : List Nat} (el : es.length = x.length) (le : ∀ i e, es[i]? = some e → Lend x i e) : OnceOk x.cps.toList (onceX x) (leE x es) := by
  have l : x.cps.toList.length = x.length := Array.length_toList
  refine ⟨fun g t h => ?_, fun g t h1 h2 h3 => ?_, fun g t u h1 h2 h3 h4 => ?_⟩
  · unfold leE at h
    cases q0 : es[g]? with
    | none => rw [q0] at h; cases h
    | some e0 =>
      rw [q0] at h
      dsimp only at h
      by_cases c : e0 ≤ x.length
      · rw [if_pos c] at h
        cases h
        have q := le g _ q0
        exact ⟨q.gt, by omega, q.once c⟩
      · rw [if_neg c] at h
        cases h
  · rw [l] at h2
    have hg : g < es.length := by omega
    have q := le g es[g] (List.getElem?_eq_getElem hg)
    have z : es[g] ≤ t := (q.iff h1 h2).mp h3
    refine ⟨es[g], ?_, z⟩
    unfold leE
    rw [List.getElem?_eq_getElem hg]
    show (if es[g] ≤ x.length then _ else _) = _
    rw [if_pos (by omega)]
  · rw [l] at h3
    unfold onceX at h4 ⊢
    cases e2 : twB x g u with
    | false => rfl
    | true =>
      have t2 := (twB_iff (by omega) h3).mp e2
      have := (twB_iff (by omega) (by omega)).mpr (t2.less (Nat.le_refl _) (by omega) h2)
      rw [h4] at this
      cases this
/-- where windows that end here begin -/
def begs (es : List Nat) (n t : Nat) : List Nat := (List.range n).filter fun g => decide (es[g]? = some t)
theorem begs_snoc {es : List Nat} {n t : Nat} : begs es (n + 1) t = if es[n]? = some t then begs es n t ++ [n] else begs es n t := by
  unfold begs
  rw [List.range_succ, List.filter_append]
  by_cases h : es[n]? = some t
  · rw [if_pos h]; simp [h]
  · rw [if_neg h]; simp [h]
/-- the lists of beginnings -/
structure OpenL (H : Hp) (a : Addr) (es : List Nat) (n k : Nat) : Prop where
  ex : ∃ us : List Addr, H a = some (.lst (us.map V.ref)) ∧ us.length = n + 1 ∧ us.Nodup ∧ a ∉ us ∧ ∀ t u, us[t]? = some u → H u = some (.lst ((begs es k t).map fun g => V.int (g : Nat)))
theorem name_go {i : Nat} {x : V} {σ : L2.St} {H : Hp} {Q : L2.St → Hp → Prop} (h : Q (σ.set i (some x)) H) : gName i x σ H Q := h
section
variable {P : Program} {w : World} {K : PySem.W.Frag} {mg : Str → Option Value} {base : Heap}
def spOpen : Sp := fun vs H Q _ => ∃ x, vs = [.str x] ∧ x.length ≤ 100 ∧ ∀ (a : Addr) (es : List Nat) H', H a = none → es.length = x.length → (∀ i e, es[i]? = some e → Lend x i e) → OpenL H' a es x.length x.length → Same H H' → Q (.ref a) H'
abbrev s_openings : Stmt := top 18
theorem sc_openings : FnScope ["text", "told", "_", "begin", "end"] ["text"] (defScope s_openings) := ⟨rfl, rfl, rfl, by decide +kernel, rfl, by decide +kernel, by decide +kernel⟩
theorem b_openings {f : Addr} {fd : FuncData} (F : Fun K "openings" "openings" s_openings f fd) (T : Txt mg) (c_least_ends : CalG P w K mg base CX0 2 "least_ends" spEnds) : FnG P w K mg base CX0 3 f fd ["text"] spOpen := by
  refine okG0 F sc_openings (fun vs H Q E h => ?_) (fun cdv A outer s H vs Q E hg hr h => ?_)
  · obtain ⟨x, rfl, _⟩ := h
    rfl
  · have hu := hu_of hr
    have hu64 := hr.units
    obtain ⟨x, rfl, hx, k⟩ := h
    have xl : x.length ≤ sizeLine := Nat.le_of_lt (fewL (by omega))
    refine ⟨_, (pss_cons (ps_setLc (i := 1) (own := [("_", 2)]) (g := gName 2) (tt := tYes) rfl sc_openings.nd rfl rfl (sw_true rfl rfl rfl (by decide +kernel)) (pi_range1 rfl T.range (pa_cons (pe_op op_add (pe_callB call_len (by rfl) T.len (by decide +kernel) (pa_cons (pv 0) pa_nil)) pe_int) pa_nil)) (blkOk_by (own := [("_", 2)]) (N := ["text", "told", "_", "begin", "end"]) (sc := defScope s_openings) (by decide +kernel)) (fun _ _ _ _ _ => (pg_name (i := 2) sc_openings.nd rfl (Or.inl rfl))) (fun _ _ _ _ _ => pts_nil) (fun _ _ _ _ _ => (pe_lst pa_nil)))
      (pss_cons (ps_for PassesOwn.never rfl (pi_enum (by rfl) T.enumerate (pa_cons (pe_cG c_least_ends hg hr (by decide) pass0 (pa_cons (pv 0) pa_nil)) pa_nil)) (pg_tup rfl (pgs_cons (pg_name (i := 3) sc_openings.nd rfl (Or.inl rfl)) (pgs_cons (pg_name (i := 4) sc_openings.nd rfl (Or.inl rfl)) pgs_nil))) (pss_one (ps_if (pt_cmpR op_notN (pv 4) pe_non (nomark _)) (pss_one (ps_expr (pe_bm PySem.F.plainAttrs_list PySem.F.slot_list_append PySem.F.type_list_append mt_append (pe_ix ix_list (pv 1) (pv 4) (fun _ _ => rfl)) (pa_cons (pv 3) pa_nil)))) pss_nil)))
      (pss_one (ps_ret (pv 1))))), ?_⟩
    refine ⟨_, rfl, _, _, rfl, ⟨xl, rfl⟩, _, _, rfl, rfl, _, rfl, by omega, by omega, fun a ha => ?_⟩
    refine lc_range (lo := 0) (n := (((x.length : Nat) : Int) + 1).toNat) (fun i H' => ∃ us : List Addr, H' a = some (.lst (us.map V.ref)) ∧ us.length = i ∧ us.Nodup ∧ a ∉ us ∧ (∀ u ∈ us, H' u = some (.lst [])) ∧ (∀ u ∈ us, H u = none) ∧ Same H H') ?_ ?_ ?_
    · exact ⟨[], upd_same, rfl, .nil, List.not_mem_nil, fun u hu => absurd hu List.not_mem_nil, fun u hu => absurd hu List.not_mem_nil, same_new ha⟩
    · rintro i H1 hi ⟨us, h1, h2, h3, h4, h5, h6, s1⟩
      refine ⟨rfl, by show 0 ≤ sizeLine; decide, fun u hu => ?_⟩
      have su := same_new (o := .lst []) hu
      have nu : u ∉ us := fun z => by rw [h5 u z] at hu; cases hu
      have na : u ≠ a := fun z => by rw [z, h1] at hu; cases hu
      refine ⟨_, su _ _ h1, fewL (by rw [List.length_map]; omega), us ++ [u], ?_, by rw [List.length_append, h2]; rfl, ?_, ?_, fun v hv => ?_, fun v hv => ?_, upd_out ha (s1.trans su)⟩
      · rw [upd_same, List.map_append]; rfl
      · rw [List.nodup_append]
        exact ⟨h3, by simp, fun p hp q hq e => by rw [List.mem_singleton.mp hq] at e; rw [e] at hp; exact nu hp⟩
      · intro z
        rcases List.mem_append.mp z with z | z
        · exact h4 z
        · exact na (List.mem_singleton.mp z).symm
      · rcases List.mem_append.mp hv with hv | hv
        · rw [upd_ne (fun z => h4 (by rw [← z]; exact hv))]
          exact su _ _ (h5 v hv)
        · rw [List.mem_singleton.mp hv, upd_ne na]
          exact upd_same
      · rcases List.mem_append.mp hv with hv | hv
        · exact h6 v hv
        · rw [List.mem_singleton.mp hv]
          exact none_up s1 hu
    · rintro H1 ⟨us, h1, h2, h3, h4, h5, h6, s1⟩
      refine name_go ⟨_, rfl, x, rfl, hx, fun b es H3 hb hb3 el le s3 => ⟨b, _, rfl, SqL.of hb3, ?_⟩⟩
      have nb : b ∉ us := fun z => by rw [h5 b z] at hb; cases hb
      have nba : b ≠ a := fun z => by rw [z, h1] at hb; cases hb
      refine for_enumL (K := K) (a := b) (xs := es.map (endV x)) (fun i σ H' => ∃ (o2 o3 o4 : Option V), σ = [some (.str x), some (.ref a), o2, o3, o4] ∧ H' a = some (.lst (us.map V.ref)) ∧ (∀ t u, us[t]? = some u → H' u = some (.lst ((begs es i t).map fun g => V.int (g : Nat)))) ∧ H' b = some (.lst (es.map (endV x))) ∧ Same H H') ?_ ?_ ?_ ?_
      · exact ⟨_, _, _, rfl, s3 _ _ h1, fun t u e => s3 _ _ (h5 u (List.mem_of_getElem? e)), hb3, s1.trans s3⟩
      · rintro i σ H' _ ⟨o2, o3, o4, rfl, _, _, q, _⟩
        exact SqL.of q
      · rintro i v σ H4 U hv hU ⟨o2, o3, o4, rfl, ha4, hu4, hb4, s4⟩
        rw [List.getElem?_map] at hv
        obtain ⟨e, he, rfl⟩ := Option.map_eq_some_iff.mp hv
        have sU := same_new (o := .tup [.int (i : Nat), endV x e]) hU
        refine ⟨U, _, rfl, SqT.of upd_same, rfl, _, _, rfl, _, _, rfl, rfl, ?_⟩
        replace ha4 := sU _ _ ha4
        replace hb4 := sU _ _ hb4
        replace s4 := s4.trans sU
        replace hu4 := fun t u q => sU _ _ (hu4 t u q)
        generalize upd H4 U (.tup [.int (i : Nat), endV x e]) = H5 at ha4 hb4 s4 hu4 ⊢
        have ul : us.length = x.length + 1 := by rw [h2]; omega
        by_cases c : e ≤ x.length
        · rw [show endV x e = .int (e : Nat) from if_pos c]
          refine ⟨_, rfl, rfl, _, rfl, ?_⟩
          rw [show decide (V.int ((e : Nat) : Int) = V.non) = false from decide_eq_false nofun]
          obtain ⟨u, hue⟩ : ∃ u, us[e]? = some u := ⟨us[e]'(by omega), List.getElem?_eq_getElem (by omega)⟩
          have um := List.mem_of_getElem? hue
          have hu := hu4 e u hue
          have at1 : atI (us.map V.ref) ((e : Nat) : Int) = some (.ref u) := atI_nat (by rw [List.getElem?_map, hue]; rfl)
          have bl : (begs es i e).length ≤ i := Nat.le_trans (List.length_filter_le _ _) (Nat.le_of_eq List.length_range)
          have il : i < es.length := (List.getElem?_eq_some_iff.mp he).1
          refine iteT ⟨_, rfl, _, rfl, a, _, _, .ref u, rfl, rfl, SqL.of ha4, at1, .inl ⟨rfl, _, SqL.of hu⟩, _, rfl, u, _, _, rfl, rfl, hu, fewL (by rw [List.length_map]; omega), ?_⟩
          refine ⟨_, _, _, rfl, ?_, fun t u' q => ?_, ?_, upd_out (h6 u um) s4⟩
          · rw [upd_ne (fun z => h4 (by rw [z]; exact um))]
            exact ha4
          · by_cases eu : u' = u
            · subst eu
              have te : t = e := (List.getElem?_inj (by have := (List.getElem?_eq_some_iff.mp q).1; exact this) h3).mp (q.trans hue.symm)
              subst te
              rw [upd_same, begs_snoc, if_pos he, List.map_append]
              rfl
            · rw [upd_ne eu, begs_snoc, if_neg (fun z => eu (by
                rw [he] at z
                cases z
                rw [hue] at q
                exact (Option.some.inj q).symm))]
              exact hu4 t u' q
          · rw [upd_ne (fun z => nb (by rw [z]; exact um))]
            exact hb4
        · rw [show endV x e = .non from if_neg c]
          refine ⟨_, rfl, rfl, _, rfl, ?_⟩
          rw [show decide (V.non = V.non) = true from decide_eq_true rfl]
          refine iteF ⟨_, _, _, rfl, ha4, fun t u q => ?_, hb4, s4⟩
          rw [begs_snoc, if_neg (fun z => c (by
            rw [he] at z
            cases z
            have := (List.getElem?_eq_some_iff.mp q).1
            omega))]
          exact hu4 t u q
      · rintro σ H' ⟨o2, o3, o4, rfl, q1, q2, q3, q4⟩
        rw [List.length_map, el] at q2
        exact ⟨_, rfl, k a es H' ha el le ⟨us, q1, by rw [h2]; omega, h3, h4, q2⟩ q4⟩
end
end Vk
set_option Elab.async false
set_option maxRecDepth 100000
set_option linter.all false
set_option maxHeartbeats 4000000
namespace Vk
open PySem PySem.Spec PyProof.Rows L2
theorem leE_es {x : Str} {es : List Nat} {g i : Nat} : leE x es g = some i ↔ es[g]? = some i ∧ i ≤ x.length := by
  unfold leE
  cases q : es[g]? with
  | none => constructor
            · intro h; cases h
            · rintro ⟨h, _⟩; cases h
  | some w0 =>
    dsimp only
    by_cases c : w0 ≤ x.length
    · rw [if_pos c]
      constructor
      · intro h; cases h; exact ⟨rfl, c⟩
      · rintro ⟨h, _⟩; exact h
    · rw [if_neg c]
      constructor
      · intro h; cases h
      · rintro ⟨h, z⟩; cases h; exact absurd z c
/-- the least of the prices that price_tables lists is the window's price -/
theorem min_g {x y : Str} {es : List Nat} {e i j : Nat} (el : es.length = x.length) (le : ∀ i e, es[i]? = some e → Lend x i e) (hi : i ≤ x.length) (hj : j ≤ y.length) {m : Int}
    (hm : m ∈ ((beyond x.cps.toList y.cps.toList e : Nat) : Int) :: (((begs es x.length i).map fun g => ((kF x.cps.toList y.cps.toList (onceX x) e g j : Nat) : Int) + (0 + ((i : Nat) : Int)) - ((g : Nat) : Int) + ((e : Nat) : Int)) ++ (if 0 < i then [((gF x.cps.toList y.cps.toList (onceX x) e (i - 1) j : Nat) : Int) + 1] else []) ++ (if 0 < j then [((gF x.cps.toList y.cps.toList (onceX x) e i (j - 1) : Nat) : Int) + 1] else [])))
    (hl : ∀ v ∈ ((beyond x.cps.toList y.cps.toList e : Nat) : Int) :: (((begs es x.length i).map fun g => ((kF x.cps.toList y.cps.toList (onceX x) e g j : Nat) : Int) + (0 + ((i : Nat) : Int)) - ((g : Nat) : Int) + ((e : Nat) : Int)) ++ (if 0 < i then [((gF x.cps.toList y.cps.toList (onceX x) e (i - 1) j : Nat) : Int) + 1] else []) ++ (if 0 < j then [((gF x.cps.toList y.cps.toList (onceX x) e i (j - 1) : Nat) : Int) + 1] else [])), m ≤ v) :
    m = ((gF x.cps.toList y.cps.toList (onceX x) e i j : Nat) : Int) := by
  have lx : x.cps.toList.length = x.length := Array.length_toList
  have ly : y.cps.toList.length = y.length := Array.length_toList
  have bg : ∀ g ∈ begs es x.length i, es[g]? = some i ∧ g < i := fun g hg => by
    have q := of_decide_eq_true (List.mem_filter.mp hg).2
    exact ⟨q, (le g i q).gt⟩
  have cs : m = ((beyond x.cps.toList y.cps.toList e : Nat) : Int) ∨ (∃ g, es[g]? = some i ∧ g < i ∧ m = ((kF x.cps.toList y.cps.toList (onceX x) e g j : Nat) : Int) + (0 + ((i : Nat) : Int)) - ((g : Nat) : Int) + ((e : Nat) : Int)) ∨ (0 < i ∧ m = ((gF x.cps.toList y.cps.toList (onceX x) e (i - 1) j : Nat) : Int) + 1) ∨ (0 < j ∧ m = ((gF x.cps.toList y.cps.toList (onceX x) e i (j - 1) : Nat) : Int) + 1) := by
    rcases List.mem_cons.mp hm with h | h
    · exact .inl h
    rcases List.mem_append.mp h with h | h
    · rcases List.mem_append.mp h with h | h
      · obtain ⟨g, hg, rfl⟩ := List.mem_map.mp h
        obtain ⟨q1, q2⟩ := bg g hg
        exact .inr (.inl ⟨g, q1, q2, rfl⟩)
      · by_cases c : 0 < i
        · rw [if_pos c] at h
          exact .inr (.inr (.inl ⟨c, List.mem_singleton.mp h⟩))
        · rw [if_neg c] at h
          cases h
    · by_cases c : 0 < j
      · rw [if_pos c] at h
        exact .inr (.inr (.inr ⟨c, List.mem_singleton.mp h⟩))
      · rw [if_neg c] at h
        cases h
  obtain ⟨v, rfl⟩ : ∃ v : Nat, m = (v : Nat) := ⟨m.toNat, by
    have : 0 ≤ m := by
      rcases cs with rfl | ⟨g, _, q, rfl⟩ | ⟨_, rfl⟩ | ⟨_, rfl⟩ <;> omega
    omega⟩
  have tp := hl _ List.mem_cons_self
  refine congrArg _ (gF_rec (onceOk_es el le) (by omega) (by omega) (by omega) (fun g hg => ?_) (fun h => ?_) (fun h => ?_) (fun h => ?_)).symm
  · obtain ⟨q1, q2⟩ := leE_es.mp hg
    have q3 := (le g i q1).gt
    have q4 := (List.getElem?_eq_some_iff.mp q1).1
    have gm : g ∈ begs es x.length i := List.mem_filter.mpr ⟨List.mem_range.mpr (by omega), decide_eq_true q1⟩
    have := hl _ (List.mem_cons_of_mem _ (List.mem_append_left _ (List.mem_append_left _ (List.mem_map.mpr ⟨g, gm, rfl⟩))))
    omega
  · have := hl _ (List.mem_cons_of_mem _ (List.mem_append_left _ (List.mem_append_right _ (by rw [if_pos h]; exact List.mem_singleton.mpr rfl))))
    omega
  · have := hl _ (List.mem_cons_of_mem _ (List.mem_append_right _ (by rw [if_pos h]; exact List.mem_singleton.mpr rfl)))
    omega
  · rcases cs with q | ⟨g, q1, q2, q3⟩ | ⟨q1, q2⟩ | ⟨q1, q2⟩
    · omega
    · exact .inl ⟨g, leE_es.mpr ⟨q1, hi⟩, by omega⟩
    · exact .inr (.inl ⟨q1, by omega⟩)
    · exact .inr (.inr ⟨q1, by omega⟩)
end Vk
set_option Elab.async false
set_option maxRecDepth 100000
set_option linter.all false
set_option maxHeartbeats 4000000
namespace Vk
open PySem PySem.Spec PyProof.Rows L2 StX
theorem seq_mid {A B : TS} {D : Ends} {σ : L2.St} {H : Hp} (Mid : L2.St → Hp → Prop) (h1 : ∀ D', (∀ σ H, Mid σ H → D'.nx σ H) → A D' σ H) (h2 : ∀ σ H, Mid σ H → B D σ H) : tSeq A B D σ H := h1 _ h2
theorem and_by {A B : TT} {σ : L2.St} {H : Hp} {k : Bool → Hp → Prop} {p q : Prop} [Decidable p] [Decidable q] (ha : ∀ k' : Bool → Hp → Prop, k' (decide p) H → A σ H k') (hb : p → ∀ k' : Bool → Hp → Prop, k' (decide q) H → B σ H k') (h : k (decide (p ∧ q)) H) : tAnd A B σ H k := by
  refine ha _ ?_
  by_cases c : p
  · rw [decide_eq_true c]
    refine iteT (hb c _ ?_)
    rw [show decide (p ∧ q) = decide q by simp [c]] at h
    exact h
  · rw [decide_eq_false c]
    rw [show decide (p ∧ q) = false by simp [c]] at h
    exact iteF h
theorem pos_by {σ : L2.St} {H : Hp} {n : Nat} {i : Nat} (h : σ[n]? = some (some (.int (0 + (i : Int))))) : ∀ k' : Bool → Hp → Prop, k' (decide (0 < i)) H → tTest (tOp (rI0 fun i j => V.bl (decide (j < i))) (tVar n) (tC (.int 0))) σ H k' := fun k' q => ⟨_, h, _, _, rfl, rfl, _, rfl, by
  rw [show decide ((0 : Int) < 0 + ((i : Nat) : Int)) = decide (0 < i) from decide_eq_decide.mpr (by omega)]
  exact q⟩
theorem nul_by {σ : L2.St} {H : Hp} {n : Nat} {i : Nat} (h : σ[n]? = some (some (.int (0 + (i : Int))))) : ∀ k' : Bool → Hp → Prop, k' (decide (i = 0)) H → tTest (tOp rEq (tVar n) (tC (.int 0))) σ H k' := fun k' q => ⟨_, h, rfl, _, rfl, by
  rw [show decide (V.int (0 + ((i : Nat) : Int)) = V.int 0) = decide (i = 0) from decide_eq_decide.mpr ⟨fun z => by have := V.int.inj z; omega, fun z => by rw [z]; rfl⟩]
  exact q⟩
theorem min_k {x y : Str} {e i j : Nat} (hi : i ≤ x.length) {m : Int}
    (hm : m ∈ (if i = 0 ∧ j = 0 then (0 : Int) else ((gF x.cps.toList y.cps.toList (onceX x) e i j : Nat) : Int)) :: (if 0 < i ∧ 0 < j ∧ x.cps.toList[i - 1]? = y.cps.toList[j - 1]? then [((kF x.cps.toList y.cps.toList (onceX x) e (i - 1) (j - 1) : Nat) : Int)] else []))
    (hl : ∀ v ∈ (if i = 0 ∧ j = 0 then (0 : Int) else ((gF x.cps.toList y.cps.toList (onceX x) e i j : Nat) : Int)) :: (if 0 < i ∧ 0 < j ∧ x.cps.toList[i - 1]? = y.cps.toList[j - 1]? then [((kF x.cps.toList y.cps.toList (onceX x) e (i - 1) (j - 1) : Nat) : Int)] else []), m ≤ v) : m = ((kF x.cps.toList y.cps.toList (onceX x) e i j : Nat) : Int) := by
  have lx : x.cps.toList.length = x.length := Array.length_toList
  by_cases z : i = 0 ∧ j = 0
  · obtain ⟨rfl, rfl⟩ := z
    rw [if_pos ⟨rfl, rfl⟩, if_neg (fun h => absurd h.1 (Nat.lt_irrefl _))] at hm
    rw [List.mem_singleton.mp hm, kF_00]
    rfl
  · rw [if_neg z] at hm hl
    rw [kF_eq z (by omega)]
    by_cases c : 0 < i ∧ 0 < j ∧ x.cps.toList[i - 1]? = y.cps.toList[j - 1]?
    · rw [if_pos c] at hm hl ⊢
      have h1 := hl _ List.mem_cons_self
      have h2 := hl _ (List.mem_cons_of_mem _ (List.mem_singleton.mpr rfl))
      rcases List.mem_cons.mp hm with h | h
      · omega
      · have h3 := List.mem_singleton.mp h
        omega
    · rw [if_neg c] at hm ⊢
      exact List.mem_singleton.mp hm
/-- the first n entries of a row of prices -/
def rowF (F : Nat → Nat → Nat) (i n : Nat) : List V := (List.range n).map fun j => V.int (F i j : Nat)
theorem rowF_len {F : Nat → Nat → Nat} {i n : Nat} : (rowF F i n).length = n := by unfold rowF; rw [List.length_map, List.length_range]
theorem rowF_at {F : Nat → Nat → Nat} {i n j : Nat} (h : j < n) : (rowF F i n)[j]? = some (.int (F i j : Nat)) := by
  unfold rowF
  rw [List.getElem?_map, List.getElem?_range h]
  rfl
theorem rowF_snoc {F : Nat → Nat → Nat} {i n : Nat} : rowF F i n ++ [.int (F i n : Nat)] = rowF F i (n + 1) := by
  unfold rowF
  rw [List.range_succ, List.map_append]
  rfl
/-- n rows of prices, m of each -/
structure Tab (H : Hp) (a : Addr) (F : Nat → Nat → Nat) (n m : Nat) : Prop where
  ex : ∃ us : List Addr, H a = some (.lst (us.map V.ref)) ∧ us.length = n ∧ ∀ i u, us[i]? = some u → H u = some (.lst (rowF F i m))
theorem Tab.row {H : Hp} {a : Addr} {F : Nat → Nat → Nat} {n m : Nat} (t : Tab H a F n m) {i : Nat} (h : i < n) : ∃ (us : List Addr) (u : Addr), H a = some (.lst (us.map V.ref)) ∧ atI (us.map V.ref) ((i : Nat) : Int) = some (.ref u) ∧ H u = some (.lst (rowF F i m)) := by
  obtain ⟨us, h1, h2, h3⟩ := t.ex
  have e : us[i]? = some (us[i]'(by omega)) := List.getElem?_eq_getElem (by omega)
  exact ⟨us, _, h1, atI_nat (by rw [List.getElem?_map, e]; rfl), h3 _ _ e⟩
theorem Tab.keep {H H1 : Hp} {a : Addr} {F : Nat → Nat → Nat} {n m : Nat} (t : Tab H a F n m) (s : Same H H1) : Tab H1 a F n m := by
  obtain ⟨us, h1, h2, h3⟩ := t.ex
  exact ⟨us, s _ _ h1, h2, fun i u h => s _ _ (h3 i u h)⟩
/-- another row -/
theorem Tab.snoc {H : Hp} {a u : Addr} {F : Nat → Nat → Nat} {n m : Nat} {us : List Addr} (h1 : H a = some (.lst (us.map V.ref))) (h2 : us.length = n) (h3 : ∀ i u, us[i]? = some u → H u = some (.lst (rowF F i m))) (hu : H u = some (.lst (rowF F n m))) (na : a ≠ u) (nn : a ∉ us) : Tab (upd H a (.lst (us.map V.ref ++ [.ref u]))) a F (n + 1) m := by
  refine ⟨us ++ [u], by rw [upd_same, List.map_append]; rfl, by rw [List.length_append, h2]; rfl, fun i v h => ?_⟩
  rcases Nat.lt_or_ge i us.length with l | l
  · rw [List.getElem?_append_left l] at h
    rw [upd_ne (fun z => nn (by rw [← z]; exact List.mem_of_getElem? h))]
    exact h3 i v h
  · rw [List.getElem?_append_right l] at h
    have e : i = n := by
      have := (List.getElem?_eq_some_iff.mp h).1
      rw [List.length_singleton] at this
      omega
    subst e
    rw [h2, Nat.sub_self] at h
    cases h
    rw [upd_ne na.symm]
    exact hu
theorem OpenL.keep {H H1 : Hp} {a : Addr} {es : List Nat} {n k : Nat} (o : OpenL H a es n k) (s : Same H H1) : OpenL H1 a es n k := by
  obtain ⟨us, h1, h2, h3, h4, h5⟩ := o.ex
  exact ⟨us, s _ _ h1, h2, h3, h4, fun t u h => s _ _ (h5 t u h)⟩
/-- a table under way: its rows are other things than the two tables -/
structure TabW (H : Hp) (a c : Addr) (F : Nat → Nat → Nat) (n m : Nat) (us : List Addr) : Prop where
  at' : H a = some (.lst (us.map V.ref))
  len : us.length = n
  row : ∀ i u, us[i]? = some u → H u = some (.lst (rowF F i m))
  na : a ∉ us
  nc : c ∉ us
theorem TabW.keep {H H1 : Hp} {a c : Addr} {F : Nat → Nat → Nat} {n m : Nat} {us : List Addr} (t : TabW H a c F n m us) (s : Same H H1) : TabW H1 a c F n m us := ⟨s _ _ t.at', t.len, fun i u h => s _ _ (t.row i u h), t.na, t.nc⟩
theorem TabW.tab {H : Hp} {a c : Addr} {F : Nat → Nat → Nat} {n m : Nat} {us : List Addr} (t : TabW H a c F n m us) : Tab H a F n m := ⟨us, t.at', t.len, t.row⟩
theorem TabW.snoc {H : Hp} {a c u : Addr} {F : Nat → Nat → Nat} {n m : Nat} {us : List Addr} (t : TabW H a c F n m us) (hu : H u = some (.lst (rowF F n m))) (na : a ≠ u) (nc : c ≠ u) : TabW (upd H a (.lst (us.map V.ref ++ [.ref u]))) a c F (n + 1) m (us ++ [u]) := by
  refine ⟨by rw [upd_same, List.map_append]; rfl, by rw [List.length_append, t.len]; rfl, fun i v h => ?_, fun h => ?_, fun h => ?_⟩
  · rcases Nat.lt_or_ge i us.length with l | l
    · rw [List.getElem?_append_left l] at h
      rw [upd_ne (fun z => t.na (by rw [← z]; exact List.mem_of_getElem? h))]
      exact t.row i v h
    · rw [List.getElem?_append_right l] at h
      have e : i = n := by
        have := (List.getElem?_eq_some_iff.mp h).1
        have := t.len
        rw [List.length_singleton] at *
        omega
      subst e
      rw [t.len, Nat.sub_self] at h
      cases h
      rw [upd_ne na.symm]
      exact hu
  · rcases List.mem_append.mp h with h | h
    · exact t.na h
    · exact na (List.mem_singleton.mp h)
  · rcases List.mem_append.mp h with h | h
    · exact t.nc h
    · exact nc (List.mem_singleton.mp h)
/-- another table is written: this one stays -/
theorem TabW.other {H : Hp} {a c : Addr} {F : Nat → Nat → Nat} {n m : Nat} {us : List Addr} {o : HO} (t : TabW H a c F n m us) (ac : a ≠ c) : TabW (upd H c o) a c F n m us := ⟨by rw [upd_ne ac]; exact t.at', t.len, fun i u h => by
  rw [upd_ne (fun z => t.nc (by rw [← z]; exact List.mem_of_getElem? h))]
  exact t.row i u h, t.na, t.nc⟩
section
variable {P : Program} {w : World} {K : PySem.W.Frag} {mg : Str → Option Value} {base : Heap}
noncomputable abbrev kX (x y : Str) (e : Nat) : Nat → Nat → Nat := kF x.cps.toList y.cps.toList (onceX x) e
noncomputable abbrev gX (x y : Str) (e : Nat) : Nat → Nat → Nat := gF x.cps.toList y.cps.toList (onceX x) e
def spPrices : Sp := fun vs H Q _ => ∃ (x y : Str) (e : Nat), vs = [.str x, .str y, .int (e : Nat)] ∧ x.length ≤ 100 ∧ y.length ≤ 100 ∧ e ≤ 100000 ∧ ∀ (t ak ab : Addr) (H' : Hp), H' t = some (.tup [.ref ak, .ref ab]) → Tab H' ak (kX x y e) (x.length + 1) (y.length + 1) → Tab H' ab (gX x y e) (x.length + 1) (y.length + 1) → Same H H' → Q (.ref t) H'
abbrev s_price_tables : Stmt := top 19
theorem sc_price_tables : FnScope ["one", "other", "each", "beyond", "begins", "kept", "begun", "i", "kept_row", "begun_row", "j", "told", "begin"] ["one", "other", "each"] (defScope s_price_tables) := ⟨rfl, rfl, rfl, by decide +kernel, rfl, by decide +kernel, by decide +kernel⟩
theorem b_price_tables {f : Addr} {fd : FuncData} (F : Fun K "price_tables" "price_tables" s_price_tables f fd) (T : Txt mg) (c_openings : CalG P w K mg base CX0 3 "openings" spOpen) : FnG P w K mg base CX0 4 f fd ["one", "other", "each"] spPrices := by
  refine okG0 F sc_price_tables (fun vs H Q E h => ?_) (fun cdv A outer s H vs Q E hg hr h => ?_)
  · obtain ⟨x, y, e, rfl, _⟩ := h
    rfl
  · have hu := hu_of hr
    have hu64 := hr.units
    obtain ⟨x, y, e, rfl, hx, hy, he, k⟩ := h
    have xl : x.length ≤ sizeLine := Nat.le_of_lt (fewL (by omega))
    have yl : y.length ≤ sizeLine := Nat.le_of_lt (fewL (by omega))
    have lx : x.cps.toList.length = x.length := Array.length_toList
    have ly : y.cps.toList.length = y.length := Array.length_toList
    refine ⟨_, (pss_cons (ps_set (i := 3) sc_price_tables.nd rfl (Or.inl rfl) (pe_op op_mul (pe_op op_add (pe_op op_add (pe_callB call_len (by rfl) T.len (by decide +kernel) (pa_cons (pv 0) pa_nil)) (pe_callB call_len (by rfl) T.len (by decide +kernel) (pa_cons (pv 1) pa_nil))) pe_int) (pe_op op_add (pv 2) pe_int)))
      (pss_cons (ps_set (i := 4) sc_price_tables.nd rfl (Or.inl rfl) (pe_cG c_openings hg hr (by decide) pass0 (pa_cons (pv 0) pa_nil)))
      (pss_cons (ps_asg (pe_tup (pa_cons (pe_lst pa_nil) (pa_cons (pe_lst pa_nil) pa_nil))) (pg_tup rfl (pgs_cons (pg_name (i := 5) sc_price_tables.nd rfl (Or.inr rfl)) (pgs_cons (pg_name (i := 6) sc_price_tables.nd rfl (Or.inl rfl)) pgs_nil))))
      (pss_cons (ps_for PassesOwn.never rfl (pi_range1 rfl T.range (pa_cons (pe_op op_add (pe_callB call_len (by rfl) T.len (by decide +kernel) (pa_cons (pv 0) pa_nil)) pe_int) pa_nil)) (pg_name (i := 7) sc_price_tables.nd rfl (Or.inr rfl)) (pss_cons (ps_par (i := 8) (j := 9) (by rfl) sc_price_tables.nd rfl rfl (by decide) rfl rfl (pa_cons (pe_lst pa_nil) (pa_cons (pe_lst pa_nil) pa_nil)) (by rfl))
      (pss_cons (ps_for PassesOwn.never rfl (pi_range1 rfl T.range (pa_cons (pe_op op_add (pe_callB call_len (by rfl) T.len (by decide +kernel) (pa_cons (pv 1) pa_nil)) pe_int) pa_nil)) (pg_name (i := 10) sc_price_tables.nd rfl (Or.inr rfl)) (pss_cons (ps_setLc (i := 11) (own := [("begin", 12)]) (g := gName 12) (tt := tYes) rfl sc_price_tables.nd rfl rfl (sw_true rfl rfl rfl (by decide +kernel)) (pi_list (pe_ix ix_list (pv 4) (pv 7) (fun _ _ => rfl))) (blkOk_by (own := [("begin", 12)]) (N := ["one", "other", "each", "beyond", "begins", "kept", "begun", "i", "kept_row", "begun_row", "j", "told", "begin"]) (sc := defScope s_price_tables) (by decide +kernel)) (fun _ _ _ _ _ => (pg_name (i := 12) sc_price_tables.nd rfl (Or.inl rfl))) (fun _ _ _ _ _ => pts_nil) (fun _ _ _ _ _ => (pe_op op_add (pe_op op_sub (pe_op op_add (pe_ix (ix_listK (K := K) rfl) (pe_ix (ix_listK (K := K) rfl) (pv 5) (pv 12) (fun _ _ => rfl)) (pv 10) (fun _ _ => rfl)) (pv 7)) (pv 12)) (pv 2))))
      (pss_cons (ps_if (pt_cmpR op_gt (pv 7) pe_int (nomark _)) (pss_one (ps_expr (pe_bm PySem.F.plainAttrs_list PySem.F.slot_list_append PySem.F.type_list_append mt_append (pv 11) (pa_cons (pe_op op_add (pe_ix ix_list (pe_ix ix_list (pv 6) (pe_op op_sub (pv 7) pe_int) (fun _ _ => rfl)) (pv 10) (fun _ _ => rfl)) pe_int) pa_nil)))) pss_nil)
      (pss_cons (ps_if (pt_cmpR op_gt (pv 10) pe_int (nomark _)) (pss_one (ps_expr (pe_bm PySem.F.plainAttrs_list PySem.F.slot_list_append PySem.F.type_list_append mt_append (pv 11) (pa_cons (pe_op op_add (pe_ix ix_list (pv 9) (pe_op op_sub (pv 10) pe_int) (fun _ _ => rfl)) pe_int) pa_nil)))) pss_nil)
      (pss_cons (ps_expr (pe_bm PySem.F.plainAttrs_list PySem.F.slot_list_append PySem.F.type_list_append mt_append (pv 9) (pa_cons (pe_callB (cr_min rfl) (by rfl) T.min (by decide +kernel) (pa_cons (pe_lst (pa_cons (pv 3) (pa_star (pv 11) pa_nil))) pa_nil)) pa_nil)))
      (pss_cons (ps_set (i := 11) sc_price_tables.nd rfl (Or.inl rfl) (pe_lst (pa_cons (pe_ifExp (PW.pt (pw_and (pt_cmpR op_eq (pv 7) pe_int (nomark _)) (pw_and1 (pt_cmpR op_eq (pv 10) pe_int (nomark _))))) pe_int (pe_ix ix_list (pv 9) (pv 10) (fun _ _ => rfl))) pa_nil)))
      (pss_cons (ps_if (PW.pt (pw_and (pt_cmpR op_gt (pv 7) pe_int (nomark _)) (pw_and (pt_cmpR op_gt (pv 10) pe_int (nomark _)) (pw_and1 (pt_cmpR op_eq (pe_ix ix_str (pv 0) (pe_op op_sub (pv 7) pe_int) (fun _ _ => rfl)) (pe_ix ix_str (pv 1) (pe_op op_sub (pv 10) pe_int) (fun _ _ => rfl)) (nomark _)))))) (pss_one (ps_expr (pe_bm PySem.F.plainAttrs_list PySem.F.slot_list_append PySem.F.type_list_append mt_append (pv 11) (pa_cons (pe_ix ix_list (pe_ix ix_list (pv 5) (pe_op op_sub (pv 7) pe_int) (fun _ _ => rfl)) (pe_op op_sub (pv 10) pe_int) (fun _ _ => rfl)) pa_nil)))) pss_nil)
      (pss_one (ps_expr (pe_bm PySem.F.plainAttrs_list PySem.F.slot_list_append PySem.F.type_list_append mt_append (pv 8) (pa_cons (pe_callB (cr_min rfl) (by rfl) T.min (by decide +kernel) (pa_cons (pv 11) pa_nil)) pa_nil)))))))))))
      (pss_cons (ps_expr (pe_bm PySem.F.plainAttrs_list PySem.F.slot_list_append PySem.F.type_list_append mt_append (pv 5) (pa_cons (pv 8) pa_nil)))
      (pss_one (ps_expr (pe_bm PySem.F.plainAttrs_list PySem.F.slot_list_append PySem.F.type_list_append mt_append (pv 6) (pa_cons (pv 9) pa_nil))))))))
      (pss_one (ps_ret (pe_tup (pa_cons (pv 5) (pa_cons (pv 6) pa_nil))))))))), ?_⟩
    refine ⟨_, rfl, _, _, rfl, ⟨xl, rfl⟩, _, rfl, _, _, rfl, ⟨yl, rfl⟩, _, _, rfl, rfl, _, _, rfl, rfl, _, rfl, _, _, rfl, rfl, ?_⟩
    refine ⟨_, _, rfl, rfl, .inr ⟨by omega, by omega⟩, ?_⟩
    have eb : (((x.length : Nat) : Int) + ((y.length : Nat) : Int) + 1) * (((e : Nat) : Int) + 1) = ((beyond x.cps.toList y.cps.toList e : Nat) : Int) := by
      unfold beyond
      rw [lx, ly, Int.natCast_mul]
      rfl
    refine name_go ⟨_, rfl, x, rfl, hx, fun ao es H1 hao el le op s1 => ?_⟩
    refine name_go ⟨by show 0 ≤ sizeLine; decide, fun ak hak => ⟨by show 0 ≤ sizeLine; decide, fun ab hab => ⟨by show 2 ≤ sizeLine; decide, fun tq htq => ⟨tq, _, rfl, SqT.of upd_same, rfl, _, _, rfl, _, _, rfl, rfl, ?_⟩⟩⟩⟩
    have sk := same_new (o := .lst []) hak
    have sb := same_new (o := .lst []) hab
    have sq := same_new (o := .tup [.ref ak, .ref ab]) htq
    have hak2 := sq _ _ (sb _ _ (upd_same (H := H1) (a := ak) (o := .lst [])))
    have hab2 := sq _ _ (upd_same (H := upd H1 ak (.lst [])) (a := ab) (o := .lst []))
    have kb : ak ≠ ab := fun z => by rw [← z, upd_same] at hab; cases hab
    have hab1 : H1 ab = none := none_up sk hab
    have s2 := (sk.trans sb).trans sq
    generalize upd (upd (upd H1 ak (.lst [])) ab (.lst [])) tq (.tup [.ref ak, .ref ab]) = H2 at hak2 hab2 s2 ⊢
    refine ⟨_, rfl, _, _, rfl, ⟨xl, rfl⟩, _, _, rfl, rfl, _, rfl, by omega, by omega, ?_⟩
    refine for_range (lo := 0) (n := (((x.length : Nat) : Int) + 1).toNat) (fun i σ H' => ∃ (o7 o8 o9 o10 o11 o12 : Option V) (uk ub : List Addr), σ = [some (.str x), some (.str y), some (.int (e : Nat)), some (.int ((((x.length : Nat) : Int) + ((y.length : Nat) : Int) + 1) * (((e : Nat) : Int) + 1))), some (.ref ao), some (.ref ak), some (.ref ab), o7, o8, o9, o10, o11, o12] ∧ TabW H' ak ab (kX x y e) i (y.length + 1) uk ∧ TabW H' ab ak (gX x y e) i (y.length + 1) ub ∧ Same H1 H') ?_ ?_ ?_
    · exact ⟨_, _, _, _, _, _, [], [], rfl, ⟨hak2, rfl, (fun i u h => by cases h), List.not_mem_nil, List.not_mem_nil⟩, ⟨hab2, rfl, (fun i u h => by cases h), List.not_mem_nil, List.not_mem_nil⟩, s2⟩
    · rintro i σ H3 hi ⟨o7, o8, o9, o10, o11, o12, uk, ub, rfl, tk, tb, s3⟩
      have hi1 : i ≤ x.length := by omega
      refine name_go ⟨by show 0 ≤ sizeLine; decide, fun kr hkr => ⟨by show 0 ≤ sizeLine; decide, fun br hbr => ⟨_, _, rfl, ?_⟩⟩⟩
      have s4 := (same_new (o := .lst []) hkr).trans (same_new (o := .lst []) hbr)
      have nkb : kr ≠ br := fun z => by rw [← z, upd_same] at hbr; cases hbr
      have hbr3 : H3 br = none := none_up (same_new (o := .lst []) hkr) hbr
      have k4 : upd (upd H3 kr (.lst [])) br (.lst []) kr = some (.lst []) := by rw [upd_ne nkb]; exact upd_same
      have b4 : upd (upd H3 kr (.lst [])) br (.lst []) br = some (.lst []) := upd_same
      refine ⟨_, rfl, _, _, rfl, ⟨yl, rfl⟩, _, _, rfl, rfl, _, rfl, by omega, by omega, ?_⟩
      refine for_range (lo := 0) (n := (((y.length : Nat) : Int) + 1).toNat) (fun j σ H' => ∃ (o10 o11 o12 : Option V), σ = [some (.str x), some (.str y), some (.int (e : Nat)), some (.int ((((x.length : Nat) : Int) + ((y.length : Nat) : Int) + 1) * (((e : Nat) : Int) + 1))), some (.ref ao), some (.ref ak), some (.ref ab), some (.int (0 + (i : Int))), some (.ref kr), some (.ref br), o10, o11, o12] ∧ H' kr = some (.lst (rowF (kX x y e) i j)) ∧ H' br = some (.lst (rowF (gX x y e) i j)) ∧ Same H3 H') ?_ ?_ ?_
      · exact ⟨_, _, _, rfl, k4, b4, s4⟩
      · rintro j σ H5 hj ⟨o10, o11, o12, rfl, hk5, hb5, s5⟩
        have hj1 : j ≤ y.length := by omega
        have tk5 := tk.keep s5
        have tb5 := tb.keep s5
        obtain ⟨us, q1, q2, q3, q4, q5⟩ := (op.keep (s3.trans s5)).ex
        have ui : us[i]? = some (us[i]'(by omega)) := List.getElem?_eq_getElem (by omega)
        generalize us[i]'(by omega) = u at ui
        have hu5 := q5 i u ui
        have at1 : atI (us.map V.ref) (0 + ((i : Nat) : Int)) = some (.ref u) := by
          rw [Int.zero_add]
          exact atI_nat (by rw [List.getElem?_map, ui]; rfl)
        refine name_go ⟨_, rfl, _, rfl, ao, _, _, .ref u, rfl, rfl, SqL.of q1, at1, ?_⟩
        refine ⟨u, rfl, ⟨_, SqL.of hu5⟩, fun D hD => ?_⟩
        have sD := same_new (o := .lst []) hD
        have bm : ∀ g ∈ begs es x.length i, es[g]? = some i := fun g hg => of_decide_eq_true (List.mem_filter.mp hg).2
        have bl : (begs es x.length i).length ≤ x.length := Nat.le_trans (List.length_filter_le _ _) (Nat.le_of_eq List.length_range)
        refine lc_list (K := K) (a := u) (xs := (begs es x.length i).map fun g => V.int (g : Nat)) (fun t H' => H' D = some (.lst ((((begs es x.length i).take t).map fun g => ((kX x y e g j : Nat) : Int) + (0 + ((i : Nat) : Int)) - ((g : Nat) : Int) + ((e : Nat) : Int)).map V.int)) ∧ Same H5 H') ?_ ?_ ?_ ?_
        · exact ⟨upd_same, sD⟩
        · rintro t H' _ ⟨_, s6⟩
          exact SqL.of (s6 _ _ hu5)
        · rintro t v H6 hv ⟨hD6, s6⟩
          rw [List.getElem?_map] at hv
          obtain ⟨g, hg, rfl⟩ := Option.map_eq_some_iff.mp hv
          have gm := bm g (List.mem_of_getElem? hg)
          have gi := (le g i gm).gt
          have tk6 := tk5.keep s6
          obtain ⟨vs, ur, r1, r2, r3⟩ := tk6.tab.row (i := g) (by omega)
          have at2 : atI (rowF (kX x y e) g (y.length + 1)) (0 + ((j : Nat) : Int)) = some (.int (kX x y e g j : Nat)) := by
            rw [Int.zero_add]
            exact atI_nat (rowF_at (by omega))
          refine ⟨rfl, _, rfl, _, rfl, ak, _, _, .ref ur, rfl, rfl, SqL.of r1, r2, _, rfl, ur, _, _, _, rfl, rfl, SqL.of r3, at2, _, rfl, _, _, rfl, rfl, _, rfl, _, _, rfl, rfl, _, rfl, _, _, rfl, rfl, ?_⟩
          refine ⟨_, hD6, fewL (by rw [List.length_map, List.length_map, List.length_take]; omega), ?_, upd_out hD s6⟩
          rw [upd_same, List.take_add_one, hg, List.map_append, List.map_append]
          rfl
        · rintro H6 ⟨hD6, s6⟩
          rw [List.length_map, List.take_length] at hD6
          generalize hns0 : (begs es x.length i).map (fun g => ((kX x y e g j : Nat) : Int) + (0 + ((i : Nat) : Int)) - ((g : Nat) : Int) + ((e : Nat) : Int)) = ns0 at hD6
          have nl0 : ns0.length ≤ x.length := by rw [← hns0, List.length_map]; exact bl
          have nDk : D ≠ kr := fun z => by rw [z, hk5] at hD; cases hD
          have nDb : D ≠ br := fun z => by rw [z, hb5] at hD; cases hD
          refine name_go ?_
          dsimp only
          refine seq_mid (fun σ H' => σ = [some (.str x), some (.str y), some (.int (e : Nat)), some (.int ((((x.length : Nat) : Int) + ((y.length : Nat) : Int) + 1) * (((e : Nat) : Int) + 1))), some (.ref ao), some (.ref ak), some (.ref ab), some (.int (0 + (i : Int))), some (.ref kr), some (.ref br), some (.int (0 + (j : Int))), some (.ref D), o12] ∧ H' D = some (.lst ((ns0 ++ (if 0 < i then [((gX x y e (i - 1) j : Nat) : Int) + 1] else [])).map V.int)) ∧ Same H5 H') (fun D' hD' => ?_) (fun σ H7 hm => ?_)
          · refine ⟨_, rfl, _, _, rfl, rfl, _, rfl, ?_⟩
            by_cases c : 0 < i
            · rw [show decide ((0 : Int) < 0 + ((i : Nat) : Int)) = true from decide_eq_true (by omega)]
              obtain ⟨vs, ur, r1, r2, r3⟩ := (tb5.keep s6).tab.row (i := i - 1) (by omega)
              have r2' : atI (vs.map V.ref) (0 + ((i : Nat) : Int) - 1) = some (.ref ur) := by
                rw [show 0 + ((i : Nat) : Int) - 1 = ((i - 1 : Nat) : Int) by omega]
                exact r2
              have at2 : atI (rowF (gX x y e) (i - 1) (y.length + 1)) (0 + ((j : Nat) : Int)) = some (.int (gX x y e (i - 1) j : Nat)) := by
                rw [Int.zero_add]
                exact atI_nat (rowF_at (by omega))
              refine iteT ⟨_, rfl, .inl ⟨rfl, _, SqL.of hD6⟩, _, rfl, _, rfl, _, _, rfl, rfl, ab, _, _, .ref ur, rfl, rfl, SqL.of r1, r2', _, rfl, ur, _, _, _, rfl, rfl, SqL.of r3, at2, _, _, rfl, rfl, D, _, _, rfl, rfl, hD6, fewL (by rw [List.length_map]; omega), ?_⟩
              refine hD' _ _ ⟨rfl, ?_, upd_out hD s6⟩
              rw [if_pos c, upd_same, List.map_append]
              rfl
            · rw [show decide ((0 : Int) < 0 + ((i : Nat) : Int)) = false from decide_eq_false (by omega)]
              exact iteF (hD' _ _ ⟨rfl, by rw [if_neg c, List.append_nil]; exact hD6, s6⟩)
          obtain ⟨rfl, hD7, s7⟩ := hm
          generalize hns1 : ns0 ++ (if 0 < i then [((gX x y e (i - 1) j : Nat) : Int) + 1] else []) = ns1 at hD7
          have nl1 : ns1.length ≤ x.length + 1 := by
            rw [← hns1, List.length_append]
            split
            · rw [List.length_singleton]; omega
            · rw [List.length_nil]; omega
          refine seq_mid (fun σ H' => σ = [some (.str x), some (.str y), some (.int (e : Nat)), some (.int ((((x.length : Nat) : Int) + ((y.length : Nat) : Int) + 1) * (((e : Nat) : Int) + 1))), some (.ref ao), some (.ref ak), some (.ref ab), some (.int (0 + (i : Int))), some (.ref kr), some (.ref br), some (.int (0 + (j : Int))), some (.ref D), o12] ∧ H' D = some (.lst ((ns1 ++ (if 0 < j then [((gX x y e i (j - 1) : Nat) : Int) + 1] else [])).map V.int)) ∧ Same H5 H') (fun D' hD' => ?_) (fun σ H8 hm => ?_)
          · refine ⟨_, rfl, _, _, rfl, rfl, _, rfl, ?_⟩
            by_cases c : 0 < j
            · rw [show decide ((0 : Int) < 0 + ((j : Nat) : Int)) = true from decide_eq_true (by omega)]
              have at2 : atI (rowF (gX x y e) i j) (0 + ((j : Nat) : Int) - 1) = some (.int (gX x y e i (j - 1) : Nat)) := by
                rw [show 0 + ((j : Nat) : Int) - 1 = ((j - 1 : Nat) : Int) by omega]
                exact atI_nat (rowF_at (by omega))
              refine iteT ⟨_, rfl, .inl ⟨rfl, _, SqL.of hD7⟩, _, rfl, _, rfl, _, _, rfl, rfl, br, _, _, _, rfl, rfl, SqL.of (s7 _ _ hb5), at2, _, _, rfl, rfl, D, _, _, rfl, rfl, hD7, fewL (by rw [List.length_map]; omega), ?_⟩
              refine hD' _ _ ⟨rfl, ?_, upd_out hD s7⟩
              rw [if_pos c, upd_same, List.map_append]
              rfl
            · rw [show decide ((0 : Int) < 0 + ((j : Nat) : Int)) = false from decide_eq_false (by omega)]
              exact iteF (hD' _ _ ⟨rfl, by rw [if_neg c, List.append_nil]; exact hD7, s7⟩)
          obtain ⟨rfl, hD8, s8⟩ := hm
          generalize hns2 : ns1 ++ (if 0 < j then [((gX x y e i (j - 1) : Nat) : Int) + 1] else []) = ns2 at hD8
          have nl2 : ns2.length ≤ x.length + 2 := by
            rw [← hns2, List.length_append]
            split
            · rw [List.length_singleton]; omega
            · rw [List.length_nil]; omega
          have hb8 := s8 _ _ hb5
          have hk8 := s8 _ _ hk5
          have e102 : 102 < sizeLine := by decide
          refine ⟨_, rfl, .inl ⟨rfl, _, SqL.of hb8⟩, _, rfl, _, rfl, D, _, rfl, .inr (SqL.of hD8), ?_⟩
          refine ⟨by simp only [List.length_append, List.length_map, List.length_cons, List.length_nil]; omega, fun q hq => ?_⟩
          have sq9 := same_new (o := .lst (V.int ((((x.length : Nat) : Int) + ((y.length : Nat) : Int) + 1) * (((e : Nat) : Int) + 1)) :: (ns2.map V.int ++ []))) hq
          refine ⟨q, ((((x.length : Nat) : Int) + ((y.length : Nat) : Int) + 1) * (((e : Nat) : Int) + 1)) :: ns2, rfl, SqL.of (by rw [upd_same, List.append_nil]; rfl), Nat.succ_pos _, fun m hm1 hm2 => ?_⟩
          have em : m = ((gX x y e i j : Nat) : Int) := by
            subst hns2 hns1 hns0
            rw [eb] at hm1 hm2
            exact min_g el le hi1 hj1 hm1 hm2
          subst em
          refine ⟨br, _, _, rfl, rfl, sq9 _ _ hb8, fewL (by rw [rowF_len]; omega), ?_⟩
          have s39 := upd_out (o := .lst (rowF (gX x y e) i j ++ [.int (gX x y e i j : Nat)])) hbr3 ((s5.trans s8).trans sq9)
          have hk9 := (show upd (upd H8 q (.lst (V.int ((((x.length : Nat) : Int) + ((y.length : Nat) : Int) + 1) * (((e : Nat) : Int) + 1)) :: (ns2.map V.int ++ [])))) br (.lst (rowF (gX x y e) i j ++ [.int (gX x y e i j : Nat)])) kr = some (.lst (rowF (kX x y e) i j)) by rw [upd_ne nkb]; exact sq9 _ _ hk8)
          have hb9 := (show upd (upd H8 q (.lst (V.int ((((x.length : Nat) : Int) + ((y.length : Nat) : Int) + 1) * (((e : Nat) : Int) + 1)) :: (ns2.map V.int ++ [])))) br (.lst (rowF (gX x y e) i j ++ [.int (gX x y e i j : Nat)])) br = some (.lst (rowF (gX x y e) i (j + 1))) by rw [upd_same, rowF_snoc])
          generalize upd (upd H8 q (.lst (V.int ((((x.length : Nat) : Int) + ((y.length : Nat) : Int) + 1) * (((e : Nat) : Int) + 1)) :: (ns2.map V.int ++ [])))) br (.lst (rowF (gX x y e) i j ++ [.int (gX x y e i j : Nat)])) = H9 at s39 hk9 hb9 ⊢
          dsimp only
          refine seq_mid (fun σ H' => ∃ D2, σ = [some (.str x), some (.str y), some (.int (e : Nat)), some (.int ((((x.length : Nat) : Int) + ((y.length : Nat) : Int) + 1) * (((e : Nat) : Int) + 1))), some (.ref ao), some (.ref ak), some (.ref ab), some (.int (0 + (i : Int))), some (.ref kr), some (.ref br), some (.int (0 + (j : Int))), some (.ref D2), o12] ∧ H' D2 = some (.lst ([if i = 0 ∧ j = 0 then (0 : Int) else ((gX x y e i j : Nat) : Int)].map V.int)) ∧ H9 D2 = none ∧ Same H9 H') (fun D' hD' => ?_) (fun σ H10 hm => ?_)
          · refine and_by (p := i = 0) (q := j = 0) (nul_by rfl) (fun _ => nul_by rfl) ?_
            by_cases c : i = 0 ∧ j = 0
            · rw [decide_eq_true c]
              refine iteT ⟨by show 1 ≤ sizeLine; decide, fun D2 hD2 => hD' _ _ ⟨D2, rfl, ?_, hD2, same_new hD2⟩⟩
              rw [upd_same, if_pos c]
              rfl
            · rw [decide_eq_false c]
              have at3 : atI (rowF (gX x y e) i (j + 1)) (0 + ((j : Nat) : Int)) = some (.int (gX x y e i j : Nat)) := by
                rw [Int.zero_add]
                exact atI_nat (rowF_at (by omega))
              refine iteF ⟨_, rfl, _, rfl, br, _, _, _, rfl, rfl, SqL.of hb9, at3, by show 1 ≤ sizeLine; decide, fun D2 hD2 => hD' _ _ ⟨D2, rfl, ?_, hD2, same_new hD2⟩⟩
              rw [upd_same, if_neg c]
              rfl
          obtain ⟨D2, rfl, hD10, hD9, s10⟩ := hm
          generalize hw1 : (if i = 0 ∧ j = 0 then (0 : Int) else ((gX x y e i j : Nat) : Int)) = w1 at hD10
          have s310 := s39.trans s10
          have nDk2 : D2 ≠ kr := fun z => by rw [z, hk9] at hD9; cases hD9
          have nDb2 : D2 ≠ br := fun z => by rw [z, hb9] at hD9; cases hD9
          refine seq_mid (fun σ H' => σ = [some (.str x), some (.str y), some (.int (e : Nat)), some (.int ((((x.length : Nat) : Int) + ((y.length : Nat) : Int) + 1) * (((e : Nat) : Int) + 1))), some (.ref ao), some (.ref ak), some (.ref ab), some (.int (0 + (i : Int))), some (.ref kr), some (.ref br), some (.int (0 + (j : Int))), some (.ref D2), o12] ∧ H' D2 = some (.lst ((w1 :: (if 0 < i ∧ 0 < j ∧ x.cps.toList[i - 1]? = y.cps.toList[j - 1]? then [((kX x y e (i - 1) (j - 1) : Nat) : Int)] else [])).map V.int)) ∧ Same H9 H') (fun D' hD' => ?_) (fun σ H11 hm => ?_)
          · refine and_by (p := 0 < i) (q := 0 < j ∧ x.cps.toList[i - 1]? = y.cps.toList[j - 1]?) (pos_by rfl) (fun ci k' q => and_by (p := 0 < j) (q := x.cps.toList[i - 1]? = y.cps.toList[j - 1]?) (pos_by rfl) (fun cj k' q => ?_) q) ?_
            · obtain ⟨c1, g1⟩ : ∃ c, x.cps.toList[i - 1]? = some c := ⟨x.cps.toList[i - 1]'(by omega), List.getElem?_eq_getElem (by omega)⟩
              obtain ⟨c2, g2⟩ : ∃ c, y.cps.toList[j - 1]? = some c := ⟨y.cps.toList[j - 1]'(by omega), List.getElem?_eq_getElem (by omega)⟩
              have a1 : atI x.cps.toList (0 + ((i : Nat) : Int) - 1) = some c1 := by
                rw [show 0 + ((i : Nat) : Int) - 1 = ((i - 1 : Nat) : Int) by omega]
                exact atI_nat g1
              have a2 : atI y.cps.toList (0 + ((j : Nat) : Int) - 1) = some c2 := by
                rw [show 0 + ((j : Nat) : Int) - 1 = ((j - 1 : Nat) : Int) by omega]
                exact atI_nat g2
              refine ⟨_, rfl, _, rfl, _, _, rfl, rfl, x, _, c1, rfl, rfl, xl, a1, _, rfl, _, rfl, _, _, rfl, rfl, y, _, c2, rfl, rfl, yl, a2, rfl, _, rfl, ?_⟩
              rw [show decide (V.str ⟨#[c1]⟩ = V.str ⟨#[c2]⟩) = decide (x.cps.toList[i - 1]? = y.cps.toList[j - 1]?) from decide_eq_decide.mpr ⟨fun z => by rw [g1, g2]; cases z; rfl, fun z => by rw [g1, g2] at z; cases z; rfl⟩]
              exact q
            · by_cases c : 0 < i ∧ 0 < j ∧ x.cps.toList[i - 1]? = y.cps.toList[j - 1]?
              · rw [decide_eq_true c]
                obtain ⟨vs, ur, r1, r2, r3⟩ := (tk.keep s310).tab.row (i := i - 1) (by omega)
                have r2' : atI (vs.map V.ref) (0 + ((i : Nat) : Int) - 1) = some (.ref ur) := by
                  rw [show 0 + ((i : Nat) : Int) - 1 = ((i - 1 : Nat) : Int) by omega]
                  exact r2
                have at2 : atI (rowF (kX x y e) (i - 1) (y.length + 1)) (0 + ((j : Nat) : Int) - 1) = some (.int (kX x y e (i - 1) (j - 1) : Nat)) := by
                  rw [show 0 + ((j : Nat) : Int) - 1 = ((j - 1 : Nat) : Int) by omega]
                  exact atI_nat (rowF_at (by omega))
                refine iteT ⟨_, rfl, .inl ⟨rfl, _, SqL.of hD10⟩, _, rfl, _, rfl, _, _, rfl, rfl, ak, _, _, .ref ur, rfl, rfl, SqL.of r1, r2', _, rfl, _, _, rfl, rfl, ur, _, _, _, rfl, rfl, SqL.of r3, at2, D2, _, _, rfl, rfl, hD10, (by show 1 < sizeLine; decide), ?_⟩
                refine hD' _ _ ⟨rfl, ?_, upd_out hD9 s10⟩
                rw [if_pos c, upd_same]
                rfl
              · rw [decide_eq_false c]
                exact iteF (hD' _ _ ⟨rfl, by rw [if_neg c]; exact hD10, s10⟩)
          obtain ⟨rfl, hD11, s11⟩ := hm
          have hk11 := s11 _ _ hk9
          have hb11 := s11 _ _ hb9
          refine ⟨_, rfl, .inl ⟨rfl, _, SqL.of hk11⟩, _, rfl, D2, _, rfl, SqL.of hD11, Nat.succ_pos _, fun m hm1 hm2 => ?_⟩
          have em : m = ((kX x y e i j : Nat) : Int) := by
            subst hw1
            exact min_k hi1 hm1 hm2
          subst em
          refine ⟨kr, _, _, rfl, rfl, hk11, fewL (by rw [rowF_len]; omega), ?_⟩
          exact ⟨_, _, _, rfl, by rw [upd_same, rowF_snoc], by rw [upd_ne nkb.symm]; exact hb11, upd_out hkr (s39.trans s11)⟩
      · rintro σ H5 ⟨o10, o11, o12, rfl, hk5, hb5, s5⟩
        rw [show (((y.length : Nat) : Int) + 1).toNat = y.length + 1 by omega] at hk5 hb5
        have tk5 := tk.keep s5
        have tb5 := tb.keep s5
        have hkr3 : H3 kr = none := hkr
        have n1 : ak ≠ kr := fun z => by rw [← z, tk.at'] at hkr3; cases hkr3
        have n2 : ab ≠ kr := fun z => by rw [← z, tb.at'] at hkr3; cases hkr3
        have n3 : ak ≠ br := fun z => by rw [← z, tk.at'] at hbr3; cases hbr3
        have n4 : ab ≠ br := fun z => by rw [← z, tb.at'] at hbr3; cases hbr3
        have tk6 := tk5.snoc hk5 n1 n2
        have tb6 := tb5.other (o := .lst (uk.map V.ref ++ [.ref kr])) kb.symm
        refine ⟨_, rfl, .inl ⟨rfl, _, SqL.of tk5.at'⟩, _, rfl, ak, _, _, rfl, rfl, tk5.at', fewL (by rw [List.length_map, tk5.len]; omega), ?_⟩
        have b6 : upd H5 ak (.lst (uk.map V.ref ++ [.ref kr])) br = some (.lst (rowF (gX x y e) i (y.length + 1))) := by rw [upd_ne n3.symm]; exact hb5
        have tb7 := tb6.snoc b6 n4 n3
        have tk7 := tk6.other (o := .lst (ub.map V.ref ++ [.ref br])) kb
        refine ⟨_, rfl, .inl ⟨rfl, _, SqL.of tb6.at'⟩, _, rfl, ab, _, _, rfl, rfl, tb6.at', fewL (by rw [List.length_map, tb6.len]; omega), ?_⟩
        exact ⟨_, _, _, _, _, _, _, _, rfl, tk7, tb7, upd_out hab1 (upd_out hak (s3.trans s5))⟩
    · rintro σ H3 ⟨o7, o8, o9, o10, o11, o12, uk, ub, rfl, tk, tb, s3⟩
      rw [show (((x.length : Nat) : Int) + 1).toNat = x.length + 1 by omega] at tk tb
      refine ⟨_, rfl, _, rfl, by show 2 ≤ sizeLine; decide, fun t ht => ?_⟩
      have st := same_new (o := .tup [.ref ak, .ref ab]) ht
      exact k t ak ab _ upd_same (tk.tab.keep st) (tb.tab.keep st) ((s1.trans s3).trans st)
end
end Vk
set_option Elab.async false
set_option maxRecDepth 100000
set_option linter.all false
set_option maxHeartbeats 4000000
namespace Vk
open PySem PySem.Spec PyProof.Rows L2 StX
section
variable {P : Program} {w : World} {K : PySem.W.Frag} {mg : Str → Option Value} {base : Heap}
inductive WBr (x y : Str) (es : List Nat) (e : Nat) : Nat → Nat → Nat → Nat → Prop
  | here {i j t g : Nat} : (begs es x.length i)[t]? = some g → (∀ g' ∈ (begs es x.length i).take t, gX x y e i j ≠ kX x y e g' j + (i - g') + e) → gX x y e i j = kX x y e g j + (i - g) + e → WBr x y es e i j g j
  | left {i j g k : Nat} : (∀ g' ∈ begs es x.length i, gX x y e i j ≠ kX x y e g' j + (i - g') + e) → (0 < j ∧ gX x y e i j = gX x y e i (j - 1) + 1) → WBr x y es e i (j - 1) g k → WBr x y es e i j g k
  | up {i j g k : Nat} : (∀ g' ∈ begs es x.length i, gX x y e i j ≠ kX x y e g' j + (i - g') + e) → ¬ (0 < j ∧ gX x y e i j = gX x y e i (j - 1) + 1) → WBr x y es e (i - 1) j g k → WBr x y es e i j g k
theorem wbr_uniq {x y : Str} {es : List Nat} {e i j g k g' k' : Nat} (h : WBr x y es e i j g k) (h' : WBr x y es e i j g' k') : g = g' ∧ k = k' := by
  induction h with
  | @here i j t g a1 a2 a3 =>
    cases h' with
    | @here _ _ t' g2 b1 b2 b3 =>
      refine ⟨?_, rfl⟩
      have lt : ∀ {t t' : Nat} {g : Nat}, (begs es x.length i)[t]? = some g → t < t' → g ∈ (begs es x.length i).take t' := fun {t t' g} q l => by
        refine List.mem_of_getElem? (i := t) ?_
        rw [List.getElem?_take, if_pos l]
        exact q
      rcases Nat.lt_trichotomy t t' with l | l | l
      · exact absurd a3 (b2 _ (lt a1 l))
      · subst l
        rw [a1] at b1
        exact Option.some.inj b1
      · exact absurd b3 (a2 _ (lt b1 l))
    | left b1 _ _ => exact absurd a3 (b1 _ (List.mem_of_getElem? a1))
    | up b1 _ _ => exact absurd a3 (b1 _ (List.mem_of_getElem? a1))
  | left a1 a2 _ ih =>
    cases h' with
    | here b1 _ b3 => exact absurd b3 (a1 _ (List.mem_of_getElem? b1))
    | left _ _ b3 => exact ih b3
    | up _ b2 _ => exact absurd a2 b2
  | up a1 a2 _ ih =>
    cases h' with
    | here b1 _ b3 => exact absurd b3 (a1 _ (List.mem_of_getElem? b1))
    | left _ b2 _ => exact absurd b2 a2
    | up _ _ b3 => exact ih b3
def spWB : Sp := fun vs H Q _ => ∃ (ab ao ak : Addr) (x y : Str) (es : List Nat) (e i j : Nat), vs = [.ref ab, .ref ao, .ref ak, .int (i : Nat), .int (j : Nat), .int (e : Nat)] ∧ Tab H ab (gX x y e) (x.length + 1) (y.length + 1) ∧ OpenL H ao es x.length x.length ∧ Tab H ak (kX x y e) (x.length + 1) (y.length + 1) ∧ es.length = x.length ∧ (∀ i e, es[i]? = some e → Lend x i e) ∧ i ≤ x.length ∧ j ≤ y.length ∧ gX x y e i j < beyond x.cps.toList y.cps.toList e ∧
  ∀ (g k : Nat) (t : Addr) (H' : Hp), H' t = some (.tup [.int (g : Nat), .int (k : Nat)]) → g < i → k ≤ j → onceX x g i → gX x y e i j = kX x y e g k + e + (i - g) + (j - k) → WBr x y es e i j g k → Same H H' → Q (.ref t) H'
abbrev s_window_back : Stmt := top 20
theorem sc_window_back : FnScope ["begun", "begins", "kept", "i", "j", "each", "begin"] ["begun", "begins", "kept", "i", "j", "each"] (defScope s_window_back) := ⟨rfl, rfl, rfl, by decide +kernel, rfl, by decide +kernel, by decide +kernel⟩
theorem b_window_back {f : Addr} {fd : FuncData} (F : Fun K "window_back" "window_back" s_window_back f fd) (T : Txt mg) : FnG P w K mg base CX0 1 f fd ["begun", "begins", "kept", "i", "j", "each"] spWB := by
  refine okG0 F sc_window_back (fun vs H Q E h => ?_) (fun cdv A outer s H vs Q E hg hr h => ?_)
  · obtain ⟨ab, ao, ak, x, y, es, e, i, j, rfl, _⟩ := h
    rfl
  · have hu := hu_of hr
    have hu64 := hr.units
    obtain ⟨ab, ao, ak, x, y, es, e, i0, j0, rfl, tb, op, tk, el, le, hi0, hj0, lt0, k⟩ := h
    have lx : x.cps.toList.length = x.length := Array.length_toList
    refine ⟨_, (pss_one (ps_while PassesOwn.never (pt_val pe_bl) (pss_cons (ps_for PassesOwn.never rfl (pi_list (pe_ix ix_list (pv 1) (pv 3) (fun _ _ => rfl))) (pg_name (i := 6) sc_window_back.nd rfl (Or.inl rfl)) (pss_one (ps_if (pt_cmpR op_eq (pe_ix ix_list (pe_ix ix_list (pv 0) (pv 3) (fun _ _ => rfl)) (pv 4) (fun _ _ => rfl)) (pe_op op_add (pe_op op_sub (pe_op op_add (pe_ix ix_list (pe_ix ix_list (pv 2) (pv 6) (fun _ _ => rfl)) (pv 4) (fun _ _ => rfl)) (pv 3)) (pv 6)) (pv 5)) (nomark _)) (pss_one (ps_ret (pe_tup (pa_cons (pv 6) (pa_cons (pv 4) pa_nil))))) pss_nil)))
      (pss_one (ps_if (PW.pt (pw_and (pt_cmpR op_gt (pv 4) pe_int (nomark _)) (pw_and1 (pt_cmpR op_eq (pe_ix ix_list (pe_ix ix_list (pv 0) (pv 3) (fun _ _ => rfl)) (pv 4) (fun _ _ => rfl)) (pe_op op_add (pe_ix ix_list (pe_ix ix_list (pv 0) (pv 3) (fun _ _ => rfl)) (pe_op op_sub (pv 4) pe_int) (fun _ _ => rfl)) pe_int) (nomark _))))) (pss_one (ps_aug (i := 4) sc_window_back.nd rfl (Or.inl rfl) pe_int ip_sub)) (pss_one (ps_aug (i := 3) sc_window_back.nd rfl (Or.inl rfl) pe_int ip_sub))))))), ?_⟩
    refine ⟨fun m σ H' => ∃ (i j : Nat) (o6 : Option V), σ = [some (.ref ab), some (.ref ao), some (.ref ak), some (.int (i : Nat)), some (.int (j : Nat)), some (.int (e : Nat)), o6] ∧ H' = H ∧ i ≤ i0 ∧ j ≤ j0 ∧ gX x y e i0 j0 = gX x y e i j + (i0 - i) + (j0 - j) ∧ (∀ g, g < i → onceX x g i → onceX x g i0) ∧ (∀ g k, WBr x y es e i j g k → WBr x y es e i0 j0 g k) ∧ m = i + j, ⟨_, i0, j0, _, rfl, rfl, Nat.le_refl _, Nat.le_refl _, by omega, fun _ _ h => h, fun _ _ h => h, rfl⟩, ?_⟩
    rintro m σ H1 ⟨i, j, o6, rfl, rfl, hi, hj, hsum, hon, hwb, rfl⟩
    refine ⟨true, rfl, iteT ⟨fun σ' H' => ∃ (i' j' : Nat) (o6' : Option V), σ' = [some (.ref ab), some (.ref ao), some (.ref ak), some (.int (i' : Nat)), some (.int (j' : Nat)), some (.int (e : Nat)), o6'] ∧ H' = H1 ∧ i' ≤ i0 ∧ j' ≤ j0 ∧ gX x y e i0 j0 = gX x y e i' j' + (i0 - i') + (j0 - j') ∧ (∀ g, g < i' → onceX x g i' → onceX x g i0) ∧ (∀ g k, WBr x y es e i' j' g k → WBr x y es e i0 j0 g k) ∧ i' + j' < i + j, ?_, ?_⟩⟩
    · rintro σ' H' ⟨i', j', o6', rfl, rfl, a, b, c, d, d2, f⟩
      exact ⟨_, f, i', j', _, rfl, rfl, a, b, c, d, d2, rfl⟩
    · have lt1 : gX x y e i j < beyond x.cps.toList y.cps.toList e := by omega
      have ok := onceOk_es el le
      obtain ⟨us, q1, q2, q3, q4, q5⟩ := op.ex
      have ui : us[i]? = some (us[i]'(by omega)) := List.getElem?_eq_getElem (by omega)
      generalize us[i]'(by omega) = u at ui
      have hu5 := q5 i u ui
      have at1 : atI (us.map V.ref) ((i : Nat) : Int) = some (.ref u) := atI_nat (by rw [List.getElem?_map, ui]; rfl)
      obtain ⟨vb, rb, b1, b2, b3⟩ := tb.row (i := i) (by omega)
      have bt : atI (rowF (gX x y e) i (y.length + 1)) ((j : Nat) : Int) = some (.int (gX x y e i j : Nat)) := atI_nat (rowF_at (by omega))
      have bm : ∀ g ∈ begs es x.length i, es[g]? = some i := fun g hg => of_decide_eq_true (List.mem_filter.mp hg).2
      refine ⟨_, rfl, _, rfl, ao, _, _, .ref u, rfl, rfl, SqL.of q1, at1, u, rfl, ⟨_, SqL.of hu5⟩, ?_⟩
      refine for_list (K := K) (a := u) (xs := (begs es x.length i).map fun g => V.int (g : Nat)) (fun t σ H' => ∃ (o6 : Option V), σ = [some (.ref ab), some (.ref ao), some (.ref ak), some (.int (i : Nat)), some (.int (j : Nat)), some (.int (e : Nat)), o6] ∧ H' = H1 ∧ ∀ g ∈ (begs es x.length i).take t, gX x y e i j ≠ kX x y e g j + (i - g) + e) ?_ ?_ ?_ ?_
      · exact ⟨_, rfl, rfl, fun g hg => absurd hg List.not_mem_nil⟩
      · rintro t σ H' _ ⟨o6, rfl, rfl, _⟩
        exact SqL.of hu5
      · rintro t v σ H' hv ⟨o6, rfl, rfl, nn⟩
        rw [List.getElem?_map] at hv
        obtain ⟨g, hg, rfl⟩ := Option.map_eq_some_iff.mp hv
        have gm := bm g (List.mem_of_getElem? hg)
        have gl := le g i gm
        have gi := gl.gt
        obtain ⟨vk, rk, k1, k2, k3⟩ := tk.row (i := g) (by omega)
        have ct : atI (rowF (kX x y e) g (y.length + 1)) ((j : Nat) : Int) = some (.int (kX x y e g j : Nat)) := atI_nat (rowF_at (by omega))
        refine ⟨_, rfl, _, rfl, ab, _, _, .ref rb, rfl, rfl, SqL.of b1, b2, _, rfl, rb, _, _, _, rfl, rfl, SqL.of b3, bt, _, rfl, _, rfl, ak, _, _, .ref rk, rfl, rfl, SqL.of k1, k2, _, rfl, rk, _, _, _, rfl, rfl, SqL.of k3, ct, _, rfl, _, _, rfl, rfl, _, rfl, _, _, rfl, rfl, _, rfl, _, _, rfl, rfl, rfl, _, rfl, ?_⟩
        by_cases c : gX x y e i j = kX x y e g j + (i - g) + e
        · rw [show decide (V.int ((gX x y e i j : Nat) : Int) = V.int (((kX x y e g j : Nat) : Int) + ((i : Nat) : Int) - ((g : Nat) : Int) + ((e : Nat) : Int))) = true from decide_eq_true (congrArg V.int (by omega))]
          refine iteT ⟨_, rfl, _, rfl, by show 2 ≤ sizeLine; decide, fun tt htt => ?_⟩
          exact k g j tt _ upd_same (by omega) hj (hon g gi (gl.once (by omega))) (by omega) (hwb _ _ (.here hg nn c)) (same_new htt)
        · rw [show decide (V.int ((gX x y e i j : Nat) : Int) = V.int (((kX x y e g j : Nat) : Int) + ((i : Nat) : Int) - ((g : Nat) : Int) + ((e : Nat) : Int))) = false from decide_eq_false fun z => c (by have := V.int.inj z; omega)]
          refine iteF ⟨_, rfl, rfl, fun g' hg' => ?_⟩
          rw [List.take_add_one, hg] at hg'
          rcases List.mem_append.mp hg' with h | h
          · exact nn g' h
          · rw [List.mem_singleton.mp h]
            exact c
      · rintro σ H' ⟨o6, rfl, rfl, nn⟩
        rw [List.length_map, List.take_length] at nn
        have from3 : (0 < j ∧ gX x y e i j = gX x y e i (j - 1) + 1) ∨ (0 < i ∧ gX x y e i j = gX x y e (i - 1) j + 1) := by
          rcases gF_from ok lt1 with ⟨g, h1, h2⟩ | h | h
          · obtain ⟨z1, z2⟩ := leE_es.mp h1
            have z3 := (List.getElem?_eq_some_iff.mp z1).1
            exact absurd h2 (nn g (List.mem_filter.mpr ⟨List.mem_range.mpr (by omega), decide_eq_true z1⟩))
          · exact .inl h
          · exact .inr h
        dsimp only
        refine and_by (p := 0 < j) (q := gX x y e i j = gX x y e i (j - 1) + 1) (fun k' q => ⟨_, rfl, _, _, rfl, rfl, _, rfl, by
          rw [show decide ((0 : Int) < ((j : Nat) : Int)) = decide (0 < j) from decide_eq_decide.mpr (by omega)]
          exact q⟩) (fun cj k' q => ?_) ?_
        · have bt2 : atI (rowF (gX x y e) i (y.length + 1)) (((j : Nat) : Int) - 1) = some (.int (gX x y e i (j - 1) : Nat)) := by
            rw [show ((j : Nat) : Int) - 1 = ((j - 1 : Nat) : Int) by omega]
            exact atI_nat (rowF_at (by omega))
          refine ⟨_, rfl, _, rfl, ab, _, _, .ref rb, rfl, rfl, SqL.of b1, b2, _, rfl, rb, _, _, _, rfl, rfl, SqL.of b3, bt, _, rfl, _, rfl, ab, _, _, .ref rb, rfl, rfl, SqL.of b1, b2, _, rfl, _, _, rfl, rfl, rb, _, _, _, rfl, rfl, SqL.of b3, bt2, _, _, rfl, rfl, rfl, _, rfl, ?_⟩
          rw [show decide (V.int ((gX x y e i j : Nat) : Int) = V.int (((gX x y e i (j - 1) : Nat) : Int) + 1)) = decide (gX x y e i j = gX x y e i (j - 1) + 1) from decide_eq_decide.mpr ⟨fun z => by have := V.int.inj z; omega, fun z => congrArg V.int (by omega)⟩]
          exact q
        · by_cases c : 0 < j ∧ gX x y e i j = gX x y e i (j - 1) + 1
          · rw [decide_eq_true c]
            have ej : ((j : Nat) : Int) - 1 = ((j - 1 : Nat) : Int) := by omega
            refine iteT ⟨_, rfl, _, _, rfl, rfl, ?_⟩
            exact ⟨i, j - 1, _, by rw [← ej]; rfl, rfl, hi, by omega, by omega, hon, fun g k q => hwb g k (.left nn c q), by omega⟩
          · rw [decide_eq_false c]
            have c2 : 0 < i ∧ gX x y e i j = gX x y e (i - 1) j + 1 := from3.resolve_left c
            have ei : ((i : Nat) : Int) - 1 = ((i - 1 : Nat) : Int) := by omega
            refine iteF ⟨_, rfl, _, _, rfl, rfl, ?_⟩
            exact ⟨i - 1, j, _, by rw [← ei]; rfl, rfl, by omega, hj, by omega, fun g h1 h2 => hon g (by omega) (ok.more g (i - 1) i h1 (by omega) (by omega) h2), fun g k q => hwb g k (.up nn c q), by omega⟩
end
end Vk
set_option Elab.async false
set_option maxRecDepth 100000
set_option linter.all false
set_option maxHeartbeats 4000000
namespace Vk
open PySem PySem.Spec PyProof.Rows L2 StX
section
variable {P : Program} {w : World} {K : PySem.W.Frag} {mg : Str → Option Value} {base : Heap}
def spHas : Sp := fun vs H Q _ => ∃ (x y : Str), vs = [.str x, .str y] ∧ Q (.bl (!decide (V.str x = V.str "") || decide (V.str y = V.str ""))) H
abbrev s_has_exchange : Stmt := top 21
theorem sc_has_exchange : FnScope ["one", "other"] ["one", "other"] (defScope s_has_exchange) := ⟨rfl, rfl, rfl, by decide +kernel, rfl, by decide +kernel, by decide +kernel⟩
theorem b_has_exchange {f : Addr} {fd : FuncData} (F : Fun K "has_exchange" "has_exchange" s_has_exchange f fd) (T : Txt mg) : FnG P w K mg base CX0 1 f fd ["one", "other"] spHas := by
  refine okG0 F sc_has_exchange (fun vs H Q E h => ?_) (fun cdv A outer s H vs Q E hg hr h => ?_)
  · obtain ⟨x, y, rfl, _⟩ := h
    rfl
  · have hu := hu_of hr
    have hu64 := hr.units
    obtain ⟨x, y, rfl, k⟩ := h
    refine ⟨_, (pss_one (ps_ret (pe_or (pe_cmpR op_ne (pv 0) pe_str (nomark _)) (pe_one (pe_cmpR op_eq (pv 1) pe_str (nomark _)))))), ?_⟩
    refine ⟨_, rfl, rfl, _, rfl, ?_⟩
    cases e1 : decide (V.str x = V.str "") with
    | false =>
      rw [e1] at k
      exact iteT k
    | true =>
      rw [e1] at k
      exact iteF ⟨_, rfl, rfl, k⟩
end
end Vk
set_option Elab.async false
set_option maxRecDepth 100000
set_option linter.all false
set_option maxHeartbeats 4000000
namespace Vk
open PySem PySem.Spec PyProof.Rows L2 StX
theorem back_len (z : Str) : (backS z).length = z.length := by
  show (z.cps.toList.reverse.toArray).size = z.cps.size
  rw [List.size_toArray, List.length_reverse, Array.length_toList]
theorem back_lt {x : Str} (h : Ltr x) : Ltr (backS x) := fun c hc => h c (List.mem_reverse.mp hc)
section
variable {P : Program} {w : World} {K : PySem.W.Frag} {mg : Str → Option Value} {base : Heap}
def spNpair : Sp := fun vs H Q _ => ∃ (p c : Addr) (z : Str) (M T : Nat), vs = [.ref p, .str z, .int (M : Nat)] ∧ Few z ∧ M ≤ 50 ∧ Pen H p c T ∧ T + 3000 < 1000000000 ∧ ∀ (x y : Str) (t : Addr) (H' : Hp), x.length ≤ M → Ltr x → y.length ≤ M → Ltr y → H' t = some (.tup [.str x, .str y]) → Pen H' p c (T + 300) → Ext p H H' → Q (.ref t) H'
abbrev s_lnpair : Stmt := top 39
theorem sc_lnpair : FnScope ["_law_pen_here", "_law_signs_here", "_law_most_letters", "_law_here", "_law_at", "_law_near"] ["_law_pen_here", "_law_signs_here", "_law_most_letters"] (defScope s_lnpair) := ⟨rfl, rfl, rfl, by decide +kernel, rfl, by decide +kernel, by decide +kernel⟩
theorem b_lnpair {f : Addr} {fd : FuncData} (F : Fun K "_law_npair" "_law_npair" s_lnpair f fd) (T : Txt mg) (c_ldraw : CalG P w K mg base CX0 1 "_law_draw" spDraw) (c_lpick : CalG P w K mg base CX0 2 "_law_pick" (spPick K)) (c_lword : CalG P w K mg base CX0 3 "_law_word" spWord) (c_lntext : CalG P w K mg base CX0 4 "_law_ntext" spNtext) : FnG P w K mg base CX0 5 f fd ["_law_pen_here", "_law_signs_here", "_law_most_letters"] spNpair := by
  refine okG0 F sc_lnpair (fun vs H Q E h => ?_) (fun cdv A outer s H vs Q E hg hr h => ?_)
  · obtain ⟨p, c, z, M, T0, rfl, _⟩ := h
    rfl
  · have hu := hu_of hr
    have hu64 := hr.units
    obtain ⟨p, c, z, M, T0, rfl, fz, hM, hpen, hT, k⟩ := h
    have z100 : z.length ≤ 1000 := Nat.le_trans fz.2.1 (by decide)
    refine ⟨_, (pss_cons (ps_set (i := 3) sc_lnpair.nd rfl (Or.inl rfl) (pe_cG c_lntext hg hr (by decide) pass0 (pa_cons (pv 0) (pa_cons (pv 1) (pa_cons (pv 2) pa_nil)))))
      (pss_cons (ps_set (i := 4) sc_lnpair.nd rfl (Or.inl rfl) (pe_cG c_ldraw hg hr (by decide) pass0 (pa_cons (pv 0) (pa_cons (pe_op op_add (pe_callB call_len (by rfl) T.len (by decide +kernel) (pa_cons (pv 3) pa_nil)) pe_int) pa_nil))))
      (pss_cons (ps_set (i := 5) sc_lnpair.nd rfl (Or.inl rfl) (pe_op op_add_str (pe_op op_add_str (pe_slice sl_str (pv 3) po_none (po_some (pv 4))) (pe_cG c_lword hg hr (by decide) pass0 (pa_cons (pv 0) (pa_cons (pv 1) (pa_cons pe_int (pa_cons pe_int pa_nil)))))) (pe_slice sl_str (pv 3) (po_some (pe_op op_add (pv 4) (pe_cG c_ldraw hg hr (by decide) pass0 (pa_cons (pv 0) (pa_cons pe_int pa_nil))))) po_none)))
      (pss_one (ps_ret (pe_tup (pa_cons (pv 3) (pa_cons (pe_slice sl_str (pe_cG c_lpick hg hr (by decide) pass0 (pa_cons (pv 0) (pa_cons (pe_lst (pa_cons (pv 5) (pa_cons (pv 5) (pa_cons (pe_revS (pv 5)) (pa_cons (pe_cG c_lntext hg hr (by decide) pass0 (pa_cons (pv 0) (pa_cons (pv 1) (pa_cons (pv 2) pa_nil)))) (pa_cons (pv 3) pa_nil)))))) pa_nil))) po_none (po_some (pv 2))) pa_nil)))))))), ?_⟩
    refine ⟨_, rfl, _, rfl, _, rfl, p, c, z, M, T0, rfl, fz, by omega, hpen, by omega, fun x H1 xl xt P1 x1 => ?_⟩
    have xsl : x.length ≤ sizeLine := Nat.le_of_lt (fewL (by omega))
    refine name_go ⟨_, rfl, _, rfl, _, _, rfl, ⟨xsl, rfl⟩, _, _, rfl, rfl, p, c, _, _, rfl, by omega, by omega, P1, by omega, fun at0 H2 a0 a1 P2 x2 => ?_⟩
    refine name_go ⟨_, rfl, _, rfl, _, rfl, x, rfl, xsl, ?_⟩
    refine ⟨_, rfl, _, rfl, p, c, z, 0, 2, _, rfl, by decide, by decide, fz.1, z100, P2, by omega, fun w1 H3 gw P3 x3 => ?_⟩
    have w2 := gw.2.1
    have c1 := cutS_length x none (some at0)
    have big : 1000 ≤ sizeLine := by decide
    refine ⟨_, _, rfl, rfl, (by omega), ?_⟩
    refine ⟨_, rfl, _, rfl, _, rfl, p, c, 3, _, rfl, by decide, by decide, P3, by omega, fun d H4 d0 d1 P4 x4 => ⟨_, _, rfl, rfl, _, rfl, x, rfl, xsl, ?_⟩⟩
    have c2 := cutS_length x (some (at0 + d)) none
    have l1 : (cutS x none (some at0) ++ w1).length = (cutS x none (some at0)).length + w1.length := Str.length_append _ _
    refine ⟨_, _, rfl, rfl, (by omega), ?_⟩
    have l2 : (cutS x none (some at0) ++ w1 ++ cutS x (some (at0 + d)) none).length = (cutS x none (some at0) ++ w1).length + (cutS x (some (at0 + d)) none).length := Str.length_append _ _
    have nt : Ltr (cutS x none (some at0) ++ w1 ++ cutS x (some (at0 + d)) none) := lt_more (lt_more (cutS_lt xt _ _) (lt_word fz gw)) (cutS_lt xt _ _)
    have nl : (cutS x none (some at0) ++ w1 ++ cutS x (some (at0 + d)) none).length ≤ 200 := by omega
    generalize cutS x none (some at0) ++ w1 ++ cutS x (some (at0 + d)) none = nr at nt nl ⊢
    refine name_go ⟨_, rfl, _, rfl, _, rfl, _, rfl, _, rfl, nr, rfl, (by omega), ?_⟩
    refine ⟨_, rfl, _, rfl, _, rfl, p, c, z, M, _, rfl, fz, by omega, P4, by omega, fun y H5 yl yt P5 x5 => ?_⟩
    refine ⟨_, rfl, by show 5 ≤ sizeLine; decide, fun q hq => ?_⟩
    have sq := same_new (o := .lst [.str nr, .str nr, .str (backS nr), .str y, .str x]) hq
    refine ⟨p, c, .ref q, _, _, rfl, .lst (SqL.of upd_same), (fun z => nomatch z), Nat.le_of_ble_eq_true rfl, P5.stay sq, by omega, fun v H6 m6 P6 x6 => ?_⟩
    obtain ⟨g, rfl, gt, gl⟩ : ∃ g : Str, v = .str g ∧ Ltr g ∧ g.length ≤ 200 := by
      rcases List.mem_cons.mp m6 with rfl | m6
      · exact ⟨_, rfl, nt, nl⟩
      rcases List.mem_cons.mp m6 with rfl | m6
      · exact ⟨_, rfl, nt, nl⟩
      rcases List.mem_cons.mp m6 with rfl | m6
      · exact ⟨_, rfl, back_lt nt, by rw [back_len]; exact nl⟩
      rcases List.mem_cons.mp m6 with rfl | m6
      · exact ⟨_, rfl, yt, by omega⟩
      rcases List.mem_cons.mp m6 with rfl | m6
      · exact ⟨_, rfl, xt, by omega⟩
      · cases m6
    refine ⟨_, rfl, _, rfl, g, rfl, (by omega), by show 2 ≤ sizeLine; decide, fun t ht => ?_⟩
    have st := same_new (o := .tup [.str x, .str (cutS g none (some (M : Nat)))]) ht
    exact k x _ t _ xl xt (cut_upto g M) (cutS_lt gt _ _) upd_same ((P6.stay st).mono (by omega)) (((((((x1.trans x2).trans x3).trans x4).trans x5).trans (.same sq)).trans x6).trans (.same st))
end
end Vk
set_option Elab.async false
set_option maxRecDepth 100000
set_option linter.all false
set_option maxHeartbeats 4000000
namespace Vk
/-! ## the parts of a way, as cheapest spells them from the end -/
section
variable (a b : List Nat) (once : Nat → Nat → Prop) (e : Nat)
inductive Parts : Nat → Nat → Nat → List (Nat × Nat × List Nat) → Prop
  | stop : Parts a.length b.length 0 []
  | keep {i j c : Nat} {rs : List (Nat × Nat × List Nat)} : Parts (i + 1) (j + 1) c rs → i < a.length → a[i]? = b[j]? → Parts i j c rs
  | xch {i j c t k : Nat} {rs : List (Nat × Nat × List Nat)} : Parts t k c rs → i < t → t ≤ a.length → once i t → j ≤ k → k ≤ b.length → Parts i j (c + e + (t - i) + (k - j)) ((i, t, (b.drop j).take (k - j)) :: rs)
variable {a b once e}
theorem Parts.way {i j c : Nat} {rs : List (Nat × Nat × List Nat)} (h : Parts a b once e i j c rs) : WayB a b once e i j c := by
  induction h with
  | stop => exact .stop
  | keep _ h1 h2 ih => exact .keep ih h1 h2
  | xch _ h1 h2 h3 h4 h5 ih => exact .xch ih h1 h2 h3 h4 h5
/-- what the parts make of the text behind i -/
def doneP (a : List Nat) : Nat → List (Nat × Nat × List Nat) → List Nat
  | i, [] => a.drop i
  | i, (g, t, w) :: rs => (a.drop i).take (g - i) ++ w ++ doneP a t rs
def OkP (a : List Nat) (once : Nat → Nat → Prop) : Nat → List (Nat × Nat × List Nat) → Prop
  | _, [] => True
  | i, (g, t, _) :: rs => i ≤ g ∧ g < t ∧ t ≤ a.length ∧ once g t ∧ OkP a once t rs
def costP (e : Nat) : List (Nat × Nat × List Nat) → Nat
  | [] => 0
  | (g, t, w) :: rs => e + (t - g) + w.length + costP e rs
theorem OkP.less {i : Nat} {rs : List (Nat × Nat × List Nat)} (h : OkP a once (i + 1) rs) : OkP a once i rs := by
  match rs, h with
  | [], _ => trivial
  | (g, t, w) :: rs, ⟨h1, h2⟩ => exact ⟨by omega, h2⟩
theorem doneP_step {i : Nat} {rs : List (Nat × Nat × List Nat)} (hi : i < a.length) (h : OkP a once (i + 1) rs) : doneP a i rs = a[i] :: doneP a (i + 1) rs := by
  match rs, h with
  | [], _ => exact List.drop_eq_getElem_cons hi
  | (g, t, w) :: rs, ⟨h1, _⟩ =>
    show (a.drop i).take (g - i) ++ w ++ doneP a t rs = a[i] :: ((a.drop (i + 1)).take (g - (i + 1)) ++ w ++ doneP a t rs)
    rw [List.drop_eq_getElem_cons hi, show g - i = (g - (i + 1)) + 1 by omega, List.take_succ_cons]
    rfl
theorem Parts.ok {i j c : Nat} {rs : List (Nat × Nat × List Nat)} (h : Parts a b once e i j c rs) : OkP a once i rs ∧ doneP a i rs = b.drop j ∧ c = costP e rs := by
  induction h with
  | stop => exact ⟨trivial, by show a.drop a.length = b.drop b.length; rw [List.drop_length, List.drop_length], rfl⟩
  | @keep i j c rs _ h1 h2 ih =>
    obtain ⟨i1, i2, i3⟩ := ih
    rw [List.getElem?_eq_getElem h1] at h2
    obtain ⟨h3, h4⟩ := List.getElem?_eq_some_iff.mp h2.symm
    exact ⟨i1.less, by rw [doneP_step h1 i1, i2, List.drop_eq_getElem_cons h3, h4], i3⟩
  | @xch i j c t k rs _ h1 h2 h3 h4 h5 ih =>
    obtain ⟨i1, i2, i3⟩ := ih
    refine ⟨⟨Nat.le_refl _, h1, h2, h3, i1⟩, ?_, ?_⟩
    · show (a.drop i).take (i - i) ++ (b.drop j).take (k - j) ++ doneP a t rs = b.drop j
      rw [Nat.sub_self, List.take_zero, List.nil_append, i2]
      have : b.drop k = (b.drop j).drop (k - j) := by rw [List.drop_drop, show j + (k - j) = k by omega]
      rw [this, List.take_append_drop]
    · show _ = e + (t - i) + ((b.drop j).take (k - j)).length + costP e rs
      rw [List.length_take, List.length_drop, ← i3]
      omega
theorem parts_nil {i : Nat} {rs : List (Nat × Nat × List Nat)} (h : OkP a once i rs) (z : costP e rs = 0) : rs = [] := by
  match rs, h, z with
  | [], _, _ => rfl
  | (g, t, w) :: rs, ⟨_, h2, _⟩, z =>
    have z : e + (t - g) + w.length + costP e rs = 0 := z
    omega
/-- a text goes over to itself for nothing -/
theorem way_self : ∀ n, n ≤ a.length → WayF a a once e n n 0
  | 0, _ => .start
  | n + 1, h => .keep (way_self n (by omega)) (by omega) rfl
/-- no part exactly where the texts are one -/
theorem parts_same {rs : List (Nat × Nat × List Nat)} (h : Parts a b once e 0 0 (kF a b once e a.length b.length) rs) : rs = [] ↔ a = b := by
  obtain ⟨h1, h2, h3⟩ := h.ok
  constructor
  · rintro rfl
    exact h2
  · rintro rfl
    have := (kF_least (a := a) (b := a) (once := once) (e := e) a.length a.length).le 0 (way_self _ (Nat.le_refl _))
    exact parts_nil (e := e) h1 (by omega)
end
end Vk
set_option Elab.async false
set_option maxRecDepth 100000
set_option linter.all false
set_option maxHeartbeats 4000000
namespace Vk
open PySem PySem.Spec PyProof.Rows L2 StX RT
theorem strE_d {x : Str} : decide (V.str x = V.str "") = decide (x.length = 0) := by
  by_cases h : x.length = 0
  · rw [decide_eq_true h]
    refine decide_eq_true ?_
    have : x = "" := by
      obtain ⟨c⟩ := x
      have : c = #[] := Array.eq_empty_of_size_eq_zero h
      rw [this]
      rfl
    rw [this]
  · rw [decide_eq_false h]
    refine decide_eq_false fun e => h ?_
    rw [V.str.inj e]
    rfl
theorem or_by {A B : TT} {σ : L2.St} {H : Hp} {k : Bool → Hp → Prop} {p q : Prop} [Decidable p] [Decidable q] (ha : ∀ k' : Bool → Hp → Prop, k' (decide p) H → A σ H k') (hb : ¬ p → ∀ k' : Bool → Hp → Prop, k' (decide q) H → B σ H k') (h : k (decide (p ∨ q)) H) : tOr A B σ H k := by
  refine ha _ ?_
  by_cases c : p
  · rw [decide_eq_true c]
    rw [show decide (p ∨ q) = true by simp [c]] at h
    exact iteT h
  · rw [decide_eq_false c]
    refine iteF (hb c _ ?_)
    rw [show decide (p ∨ q) = decide q by simp [c]] at h
    exact h
theorem posN {σ : L2.St} {H : Hp} {n : Nat} {i : Nat} (h : σ[n]? = some (some (.int (i : Nat)))) : ∀ k' : Bool → Hp → Prop, k' (decide (0 < i)) H → tTest (tOp (rI0 fun i j => V.bl (decide (j < i))) (tVar n) (tC (.int 0))) σ H k' := fun k' q => ⟨_, h, _, _, rfl, rfl, _, rfl, by
  rw [show decide ((0 : Int) < ((i : Nat) : Int)) = decide (0 < i) by by_cases c : 0 < i <;> simp [c]]
  exact q⟩
/-- the whole text stands once in itself -/
theorem once_all {x : Str} : onceX x 0 x.length := by
  unfold onceX
  cases e : twB x 0 x.length with
  | false => rfl
  | true =>
    obtain ⟨k, k1, k2, _⟩ := (twB_iff (Nat.zero_le _) (Nat.le_refl _)).mp e
    omega
theorem way_any {x y : Str} {e : Nat} (h : ¬ (x.length = 0 ∧ ¬ y.length = 0)) : ∃ c, WayF x.cps.toList y.cps.toList (onceX x) e x.length y.length c := by
  have lx : x.cps.toList.length = x.length := Array.length_toList
  have ly : y.cps.toList.length = y.length := Array.length_toList
  by_cases c : x.length = 0
  · have d : y.length = 0 := Decidable.byContradiction fun z => h ⟨c, z⟩
    rw [c, d]
    exact ⟨0, .start⟩
  · exact ⟨_, .xch (t := x.length) (k := y.length) .start (by omega) (by omega) once_all (Nat.zero_le _) (by omega)⟩
/-- none is possible from a text without letters to another -/
theorem way_none {x y : Str} {e c : Nat} (h : x.length = 0 ∧ ¬ y.length = 0) : ¬ WayF x.cps.toList y.cps.toList (onceX x) e x.length y.length c := by
  have lx : x.cps.toList.length = x.length := Array.length_toList
  obtain ⟨h1, h2⟩ := h
  intro w
  rcases way_last.mp w with ⟨_, z, _⟩ | ⟨g, k, d, _, z, _⟩ | ⟨i, j, z, _⟩
  · exact h2 z
  · omega
  · omega
def partT (r : Nat × Nat × Str) : Nat × Nat × List Nat := (r.1, r.2.1, r.2.2.cps.toList)
def PartS (x y : Str) (e i j c : Nat) (rs : List (Nat × Nat × Str)) : Prop := Parts x.cps.toList y.cps.toList (onceX x) e i j c (rs.map partT)
section
variable {P : Program} {w : World} {K : PySem.W.Frag} {mg : Str → Option Value} {base : Heap}
/-- what cheapest walks, from the end; the parts in the order in which it finds them -/
inductive Walk (x y : Str) (es : List Nat) (e : Nat) : Nat → Nat → List (Nat × Nat × Str) → Prop
  | stop : Walk x y es e 0 0 []
  | keep {i j : Nat} {l : List (Nat × Nat × Str)} : (0 < i ∧ 0 < j ∧ x.cps.toList[i - 1]? = y.cps.toList[j - 1]? ∧ kX x y e i j = kX x y e (i - 1) (j - 1)) → Walk x y es e (i - 1) (j - 1) l → Walk x y es e i j l
  | win {i j g k : Nat} {l : List (Nat × Nat × Str)} : 0 < i ∨ 0 < j → ¬ (0 < i ∧ 0 < j ∧ x.cps.toList[i - 1]? = y.cps.toList[j - 1]? ∧ kX x y e i j = kX x y e (i - 1) (j - 1)) → WBr x y es e i j g k → Walk x y es e g k l → Walk x y es e i j ((g, i, cutS y (some (k : Int)) (some (j : Int))) :: l)
theorem walk_uniq {x y : Str} {es : List Nat} {e i j : Nat} {l l' : List (Nat × Nat × Str)} (h : Walk x y es e i j l) (h' : Walk x y es e i j l') : l = l' := by
  induction h generalizing l' with
  | stop =>
    cases h' with
    | stop => rfl
    | keep c _ => exact absurd c.1 (Nat.lt_irrefl _)
    | win c _ _ _ => exact absurd c (by omega)
  | keep c _ ih =>
    cases h' with
    | stop => exact absurd c.1 (Nat.lt_irrefl _)
    | keep _ w => exact ih w
    | win _ d _ _ => exact absurd c d
  | win c d b _ ih =>
    cases h' with
    | stop => exact absurd c (by omega)
    | keep d' _ => exact absurd d' d
    | win _ _ b' w =>
      obtain ⟨rfl, rfl⟩ := wbr_uniq b b'
      rw [ih w]
theorem lend_uniq {x : Str} {a e e' : Nat} (h : Lend x a e) (h' : Lend x a e') : e = e' := by
  have one : ∀ {e e' : Nat}, Lend x a e → Lend x a e' → ¬ e < e' := fun {e e'} h h' l => by
    have n := h'.le
    have q1 := h.once (by omega)
    have q2 := h'.twice e h.gt l (by omega)
    rw [q1] at q2
    cases q2
  have := one h h'
  have := one h' h
  omega
theorem lends_uniq {x : Str} {es es' : List Nat} (el : es.length = x.length) (le : ∀ i e, es[i]? = some e → Lend x i e) (el' : es'.length = x.length) (le' : ∀ i e, es'[i]? = some e → Lend x i e) : es = es' := by
  refine List.ext_getElem (by omega) fun i h1 h2 => lend_uniq (le i _ (List.getElem?_eq_getElem h1)) (le' i _ (List.getElem?_eq_getElem h2))
def spCheap : Sp := fun vs H Q _ => ∃ (x y : Str) (e : Nat), vs = [.str x, .str y, .int (e : Nat)] ∧ x.length ≤ 100 ∧ y.length ≤ 100 ∧ e ≤ 100000 ∧
  ((x.length = 0 ∧ ¬ y.length = 0) → Q .non H) ∧
  (¬ (x.length = 0 ∧ ¬ y.length = 0) → ∀ (t : Addr) (xs : List V) (rs : List (Nat × Nat × Str)) (es : List Nat) (H' : Hp), es.length = x.length → (∀ i e, es[i]? = some e → Lend x i e) → Walk x y es e x.length y.length rs.reverse → H' t = some (.tup xs) → Rw3 H' xs rs → PartS x y e 0 0 (kX x y e x.length y.length) rs → kX x y e x.length y.length < beyond x.cps.toList y.cps.toList e → rs.length ≤ x.length → Same H H' → Q (.ref t) H')
abbrev s_cheapest : Stmt := top 22
theorem sc_cheapest : FnScope ["one", "other", "each", "kept", "begun", "begins", "parts", "i", "j", "end", "last"] ["one", "other", "each"] (defScope s_cheapest) := ⟨rfl, rfl, rfl, by decide +kernel, rfl, by decide +kernel, by decide +kernel⟩
theorem b_cheapest {f : Addr} {fd : FuncData} (F : Fun K "cheapest" "cheapest" s_cheapest f fd) (T : Txt mg) (c_openings : CalG P w K mg base CX0 3 "openings" spOpen) (c_price_tables : CalG P w K mg base CX0 4 "price_tables" spPrices) (c_window_back : CalG P w K mg base CX0 1 "window_back" spWB) (c_has_exchange : CalG P w K mg base CX0 1 "has_exchange" spHas) : FnG P w K mg base CX0 5 f fd ["one", "other", "each"] spCheap := by
  refine okG0 F sc_cheapest (fun vs H Q E h => ?_) (fun cdv A outer s H vs Q E hg hr h => ?_)
  · obtain ⟨x, y, e, rfl, _⟩ := h
    rfl
  · have hu := hu_of hr
    have hu64 := hr.units
    obtain ⟨x, y, e, rfl, hx, hy, he, kN, k⟩ := h
    have xl : x.length ≤ sizeLine := Nat.le_of_lt (fewL (by omega))
    have yl : y.length ≤ sizeLine := Nat.le_of_lt (fewL (by omega))
    have lx : x.cps.toList.length = x.length := Array.length_toList
    have ly : y.cps.toList.length = y.length := Array.length_toList
    refine ⟨_, (pss_cons (ps_if (pt_not (pt_val (pe_cG c_has_exchange hg hr (by decide) pass0 (pa_cons (pv 0) (pa_cons (pv 1) pa_nil))))) (pss_one (ps_ret pe_non)) pss_nil)
      (pss_cons (ps_asg (pe_cG c_price_tables hg hr (by decide) pass0 (pa_cons (pv 0) (pa_cons (pv 1) (pa_cons (pv 2) pa_nil)))) (pg_tup rfl (pgs_cons (pg_name (i := 3) sc_cheapest.nd rfl (Or.inl rfl)) (pgs_cons (pg_name (i := 4) sc_cheapest.nd rfl (Or.inl rfl)) pgs_nil))))
      (pss_cons (ps_set (i := 5) sc_cheapest.nd rfl (Or.inl rfl) (pe_cG c_openings hg hr (by decide) pass0 (pa_cons (pv 0) pa_nil)))
      (pss_cons (ps_set (i := 6) sc_cheapest.nd rfl (Or.inl rfl) (pe_lst pa_nil))
      (pss_cons (ps_par (i := 7) (j := 8) (by rfl) sc_cheapest.nd rfl rfl (by decide) rfl rfl (pa_cons (pe_callB call_len (by rfl) T.len (by decide +kernel) (pa_cons (pv 0) pa_nil)) (pa_cons (pe_callB call_len (by rfl) T.len (by decide +kernel) (pa_cons (pv 1) pa_nil)) pa_nil)) (by rfl))
      (pss_cons (ps_while PassesOwn.never (PW.pt (pw_or (pt_cmpR op_gt (pv 7) pe_int (nomark _)) (pw_or1 (pt_cmpR op_gt (pv 8) pe_int (nomark _))))) (pss_one (ps_if (PW.pt (pw_and (pt_cmpR op_gt (pv 7) pe_int (nomark _)) (pw_and (pt_cmpR op_gt (pv 8) pe_int (nomark _)) (pw_and (pt_cmpR op_eq (pe_ix ix_str (pv 0) (pe_op op_sub (pv 7) pe_int) (fun _ _ => rfl)) (pe_ix ix_str (pv 1) (pe_op op_sub (pv 8) pe_int) (fun _ _ => rfl)) (nomark _)) (pw_and1 (pt_cmpR op_eq (pe_ix ix_list (pe_ix ix_list (pv 3) (pv 7) (fun _ _ => rfl)) (pv 8) (fun _ _ => rfl)) (pe_ix ix_list (pe_ix ix_list (pv 3) (pe_op op_sub (pv 7) pe_int) (fun _ _ => rfl)) (pe_op op_sub (pv 8) pe_int) (fun _ _ => rfl)) (nomark _))))))) (pss_one (ps_par (i := 7) (j := 8) (by rfl) sc_cheapest.nd rfl rfl (by decide) rfl rfl (pa_cons (pe_op op_sub (pv 7) pe_int) (pa_cons (pe_op op_sub (pv 8) pe_int) pa_nil)) (by rfl))) (pss_cons (ps_par (i := 9) (j := 10) (by rfl) sc_cheapest.nd rfl rfl (by decide) rfl rfl (pa_cons (pv 7) (pa_cons (pv 8) pa_nil)) (by rfl))
      (pss_cons (ps_asg (pe_cG c_window_back hg hr (by decide) pass0 (pa_cons (pv 4) (pa_cons (pv 5) (pa_cons (pv 3) (pa_cons (pv 7) (pa_cons (pv 8) (pa_cons (pv 2) pa_nil))))))) (pg_tup rfl (pgs_cons (pg_name (i := 7) sc_cheapest.nd rfl (Or.inl rfl)) (pgs_cons (pg_name (i := 8) sc_cheapest.nd rfl (Or.inl rfl)) pgs_nil))))
      (pss_one (ps_expr (pe_bm PySem.F.plainAttrs_list PySem.F.slot_list_append PySem.F.type_list_append mt_append (pv 6) (pa_cons (pe_tup (pa_cons (pv 7) (pa_cons (pv 9) (pa_cons (pe_slice sl_str (pv 1) (po_some (pv 8)) (po_some (pv 10))) pa_nil)))) pa_nil)))))))))
      (pss_one (ps_ret (pe_tupRev rfl (by rfl) T.tuple (by rfl) T.reversed (pv 6)))))))))), ?_⟩
    refine ⟨_, rfl, _, rfl, x, y, rfl, _, rfl, ?_⟩
    rw [strE_d, strE_d]
    by_cases no : x.length = 0 ∧ ¬ y.length = 0
    · rw [decide_eq_true no.1, decide_eq_false no.2]
      exact iteT (kN no)
    · replace k := k no
      rw [show (!decide (x.length = 0) || decide (y.length = 0)) = true by
        by_cases c : x.length = 0
        · have d : y.length = 0 := Decidable.byContradiction fun z => no ⟨c, z⟩
          simp [c, d]
        · simp [c]]
      refine iteF ?_
      refine ⟨_, rfl, _, rfl, _, rfl, x, y, e, rfl, hx, hy, he, fun tt ak ab H1 htt tk tb s1 => ?_⟩
      refine ⟨tt, _, rfl, SqT.of htt, rfl, _, _, rfl, _, _, rfl, rfl, ?_⟩
      refine name_go ⟨_, rfl, x, rfl, hx, fun ao es H2 hao el le op s2 => ?_⟩
      refine name_go ⟨by show 0 ≤ sizeLine; decide, fun pl hpl => ?_⟩
      have s3 := same_new (o := .lst []) hpl
      have hps : upd H2 pl (.lst []) pl = some (.lst []) := upd_same
      refine ⟨_, rfl, _, _, rfl, ⟨xl, rfl⟩, _, rfl, _, _, rfl, ⟨yl, rfl⟩, _, _, rfl, ?_⟩
      have kB : kX x y e x.length y.length < beyond x.cps.toList y.cps.toList e := by
        obtain ⟨c, hc⟩ := way_any (e := e) no
        exact Nat.lt_of_le_of_lt ((kF_least _ _).le _ hc) (way_below hc)
      have ok := onceOk_es el le
      refine ⟨fun m σ H' => ∃ (i j c : Nat) (xs : List V) (rs : List (Nat × Nat × Str)) (o9 o10 : Option V), σ = [some (.str x), some (.str y), some (.int (e : Nat)), some (.ref ak), some (.ref ab), some (.ref ao), some (.ref pl), some (.int (i : Nat)), some (.int (j : Nat)), o9, o10] ∧ H' pl = some (.lst xs) ∧ Rw3 H' xs.reverse rs ∧ PartS x y e i j c rs ∧ i ≤ x.length ∧ j ≤ y.length ∧ c + kX x y e i j = kX x y e x.length y.length ∧ rs.length + i ≤ x.length ∧ (∀ l, Walk x y es e i j l → Walk x y es e x.length y.length (rs.reverse ++ l)) ∧ Same H2 H' ∧ m = i + j, ⟨_, x.length, y.length, 0, [], [], _, _, rfl, hps, .nil, by unfold PartS; rw [← lx, ← ly]; exact .stop, Nat.le_refl _, Nat.le_refl _, Nat.zero_add _, Nat.le_of_eq (Nat.zero_add _), fun _ q => q, s3, rfl⟩, ?_⟩
      rintro m σ H4 ⟨i, j, c, xs, rs, o9, o10, rfl, hp4, rw4, pt, hi, hj, hc, hl, hw, s4, rfl⟩
      have rl := paired_len rw4
      rw [List.length_reverse] at rl
      refine or_by (p := 0 < i) (q := 0 < j) (posN rfl) (fun _ => posN rfl) ?_
      by_cases go : 0 < i ∨ 0 < j
      · rw [decide_eq_true go]
        refine iteT ⟨fun σ' H' => ∃ (i' j' c : Nat) (xs : List V) (rs : List (Nat × Nat × Str)) (o9 o10 : Option V), σ' = [some (.str x), some (.str y), some (.int (e : Nat)), some (.ref ak), some (.ref ab), some (.ref ao), some (.ref pl), some (.int (i' : Nat)), some (.int (j' : Nat)), o9, o10] ∧ H' pl = some (.lst xs) ∧ Rw3 H' xs.reverse rs ∧ PartS x y e i' j' c rs ∧ i' ≤ x.length ∧ j' ≤ y.length ∧ c + kX x y e i' j' = kX x y e x.length y.length ∧ rs.length + i' ≤ x.length ∧ (∀ l, Walk x y es e i' j' l → Walk x y es e x.length y.length (rs.reverse ++ l)) ∧ Same H2 H' ∧ i' + j' < i + j, ?_, ?_⟩
        · rintro σ' H' ⟨i', j', c, xs, rs, o9, o10, a1, a2, a3, a4, a5, a6, a7, a8, a9, a11, a10⟩
          exact ⟨_, a10, i', j', c, xs, rs, o9, o10, a1, a2, a3, a4, a5, a6, a7, a8, a9, a11, rfl⟩
        · have tk4 := (tk.keep s2).keep s4
          have tb4 := (tb.keep s2).keep s4
          have op4 := op.keep s4
          refine and_by (p := 0 < i) (q := 0 < j ∧ x.cps.toList[i - 1]? = y.cps.toList[j - 1]? ∧ kX x y e i j = kX x y e (i - 1) (j - 1)) (posN rfl) (fun ci k' q => and_by (p := 0 < j) (q := x.cps.toList[i - 1]? = y.cps.toList[j - 1]? ∧ kX x y e i j = kX x y e (i - 1) (j - 1)) (posN rfl) (fun cj k' q => and_by (p := x.cps.toList[i - 1]? = y.cps.toList[j - 1]?) (q := kX x y e i j = kX x y e (i - 1) (j - 1)) (fun k' q => ?_) (fun _ k' q => ?_) q) q) ?_
          · obtain ⟨c1, g1⟩ : ∃ c, x.cps.toList[i - 1]? = some c := ⟨x.cps.toList[i - 1]'(by omega), List.getElem?_eq_getElem (by omega)⟩
            obtain ⟨c2, g2⟩ : ∃ c, y.cps.toList[j - 1]? = some c := ⟨y.cps.toList[j - 1]'(by omega), List.getElem?_eq_getElem (by omega)⟩
            have a1 : atI x.cps.toList (((i : Nat) : Int) - 1) = some c1 := by
              rw [show ((i : Nat) : Int) - 1 = ((i - 1 : Nat) : Int) by omega]
              exact atI_nat g1
            have a2 : atI y.cps.toList (((j : Nat) : Int) - 1) = some c2 := by
              rw [show ((j : Nat) : Int) - 1 = ((j - 1 : Nat) : Int) by omega]
              exact atI_nat g2
            refine ⟨_, rfl, _, rfl, _, _, rfl, rfl, x, _, c1, rfl, rfl, xl, a1, _, rfl, _, rfl, _, _, rfl, rfl, y, _, c2, rfl, rfl, yl, a2, rfl, _, rfl, ?_⟩
            rw [show decide (V.str ⟨#[c1]⟩ = V.str ⟨#[c2]⟩) = decide (x.cps.toList[i - 1]? = y.cps.toList[j - 1]?) from decide_eq_decide.mpr ⟨fun z => by rw [g1, g2]; cases z; rfl, fun z => by rw [g1, g2] at z; cases z; rfl⟩]
            exact q
          · obtain ⟨va, ra, b1, b2, b3⟩ := tk4.row (i := i) (by omega)
            obtain ⟨vb, rb, d1, d2, d3⟩ := tk4.row (i := i - 1) (by omega)
            have at1 : atI (rowF (kX x y e) i (y.length + 1)) ((j : Nat) : Int) = some (.int (kX x y e i j : Nat)) := atI_nat (rowF_at (by omega))
            have ei : ((i : Nat) : Int) - 1 = ((i - 1 : Nat) : Int) := by omega
            have at2 : atI (vb.map V.ref) (((i : Nat) : Int) - 1) = some (.ref rb) := by rw [ei]; exact d2
            have at3 : atI (rowF (kX x y e) (i - 1) (y.length + 1)) (((j : Nat) : Int) - 1) = some (.int (kX x y e (i - 1) (j - 1) : Nat)) := by
              rw [show ((j : Nat) : Int) - 1 = ((j - 1 : Nat) : Int) by omega]
              exact atI_nat (rowF_at (by omega))
            refine ⟨_, rfl, _, rfl, ak, _, _, .ref ra, rfl, rfl, SqL.of b1, b2, _, rfl, ra, _, _, _, rfl, rfl, SqL.of b3, at1, _, rfl, _, rfl, _, _, rfl, rfl, ak, _, _, .ref rb, rfl, rfl, SqL.of d1, at2, _, rfl, _, _, rfl, rfl, rb, _, _, _, rfl, rfl, SqL.of d3, at3, rfl, _, rfl, ?_⟩
            rw [show decide (V.int ((kX x y e i j : Nat) : Int) = V.int ((kX x y e (i - 1) (j - 1) : Nat) : Int)) = decide (kX x y e i j = kX x y e (i - 1) (j - 1)) from decide_eq_decide.mpr ⟨fun z => by have := V.int.inj z; omega, fun z => congrArg V.int (by omega)⟩]
            exact q
          · by_cases t : 0 < i ∧ 0 < j ∧ x.cps.toList[i - 1]? = y.cps.toList[j - 1]? ∧ kX x y e i j = kX x y e (i - 1) (j - 1)
            · rw [decide_eq_true t]
              obtain ⟨t1, t2, t3, t4⟩ := t
              have ei : ((i : Nat) : Int) - 1 = ((i - 1 : Nat) : Int) := by omega
              have ej : ((j : Nat) : Int) - 1 = ((j - 1 : Nat) : Int) := by omega
              refine iteT ⟨_, rfl, _, _, rfl, rfl, _, rfl, _, _, rfl, rfl, _, _, rfl, ?_⟩
              refine ⟨i - 1, j - 1, c, xs, rs, _, _, by rw [← ei, ← ej]; rfl, hp4, rw4, ?_, by omega, by omega, by omega, by omega, fun l q => hw l (.keep ⟨t1, t2, t3, t4⟩ q), s4, by omega⟩
              unfold PartS at pt ⊢
              refine .keep ?_ (by omega) t3
              rw [show i - 1 + 1 = i by omega, show j - 1 + 1 = j by omega]
              exact pt
            · rw [decide_eq_false t]
              have gk : gX x y e i j = kX x y e i j := by
                have q := kF_eq (a := x.cps.toList) (b := y.cps.toList) (once := onceX x) (e := e) (i := i) (j := j) (by omega) (by omega)
                by_cases t' : 0 < i ∧ 0 < j ∧ x.cps.toList[i - 1]? = y.cps.toList[j - 1]?
                · rw [if_pos t'] at q
                  have : kX x y e i j ≠ kX x y e (i - 1) (j - 1) := fun z => t ⟨t'.1, t'.2.1, t'.2.2, z⟩
                  show gF _ _ _ _ _ _ = kF _ _ _ _ _ _
                  have q1 := Nat.min_def (m := kF x.cps.toList y.cps.toList (onceX x) e (i - 1) (j - 1)) (n := gF x.cps.toList y.cps.toList (onceX x) e i j)
                  have this : kF x.cps.toList y.cps.toList (onceX x) e i j ≠ kF x.cps.toList y.cps.toList (onceX x) e (i - 1) (j - 1) := this
                  split at q1 <;> omega
                · rw [if_neg t'] at q
                  exact q.symm
              refine iteF ⟨_, rfl, _, rfl, _, _, rfl, ?_⟩
              refine ⟨_, rfl, _, rfl, _, rfl, _, rfl, _, rfl, _, rfl, ab, ao, ak, x, y, es, e, i, j, rfl, tb4, op4, tk4, el, le, hi, hj, by omega, fun g kk tq H5 htq g1 g2 g3 g4 gw s5 => ?_⟩
              refine ⟨tq, _, rfl, SqT.of htq, rfl, _, _, rfl, _, _, rfl, rfl, ?_⟩
              have hp5 := s5 _ _ hp4
              refine ⟨_, rfl, .inl ⟨rfl, _, SqL.of hp5⟩, ?_⟩
              refine ⟨_, rfl, _, rfl, _, rfl, ?_⟩
              refine ⟨_, rfl, _, rfl, _, rfl, _, rfl, y, rfl, yl, ?_⟩
              refine ⟨by show 3 ≤ sizeLine; decide, fun u hu => ?_⟩
              have su := same_new (o := .tup [.int (g : Nat), .int (i : Nat), .str (cutS y (some (kk : Int)) (some (j : Int)))]) hu
              refine ⟨pl, _, _, rfl, rfl, su _ _ hp5, fewL (by omega), ?_⟩
              have su2 : H2 pl = none := hpl
              refine ⟨g, kk, c + e + (i - g) + (j - kk), xs ++ [.ref u], (g, i, cutS y (some (kk : Int)) (some (j : Int))) :: rs, _, _, rfl, upd_same, ?_, ?_, by omega, by omega, by omega, by show rs.length + 1 + g ≤ x.length; omega, fun l q => ?_, ?_, by omega⟩
              · have nu : ∀ t ws, upd H5 u (.tup [.int (g : Nat), .int (i : Nat), .str (cutS y (some (kk : Int)) (some (j : Int)))]) t = some (.tup ws) → upd (upd H5 u (.tup [.int (g : Nat), .int (i : Nat), .str (cutS y (some (kk : Int)) (some (j : Int)))])) pl (.lst (xs ++ [.ref u])) t = some (.tup ws) := fun t ws h => by
                  have np : t ≠ pl := fun z => by
                    rw [z, su _ _ hp5] at h
                    cases h
                  rw [upd_ne np]
                  exact h
                rw [List.reverse_append]
                exact .cons ⟨u, rfl, nu _ _ upd_same⟩ (((rw4.keep s5).keep su).keepT nu)
              · unfold PartS at pt ⊢
                have := Parts.xch (e := e) pt (show g < i from g1) (by omega) g3 g2 (by omega)
                rw [List.map_cons]
                show Parts _ _ _ _ _ _ _ ((g, i, (cutS y (some (kk : Int)) (some (j : Int))).cps.toList) :: _)
                rw [cut_mid g2 hj]
                exact this
              · rw [List.reverse_cons, List.append_assoc]
                exact hw _ (.win go t gw q)
              · exact upd_out hpl ((s4.trans s5).trans su)
      · rw [decide_eq_false go]
        have zi : i = 0 := by omega
        have zj : j = 0 := by omega
        subst zi zj
        have k0 : kX x y e 0 0 = 0 := kF_00
        refine iteF ⟨_, rfl, pl, _, rfl, SqL.of hp4, fun q hq => ?_⟩
        have sq := same_new (o := .tup xs.reverse) hq
        refine k q xs.reverse rs es _ el le (by have := hw [] .stop; rw [List.append_nil] at this; exact this) upd_same (rw4.keep sq) (by rw [← hc, k0, Nat.add_zero]; exact pt) kB (by omega) ?_
        exact (((s1.trans s2).trans s4).trans sq)
end
end Vk
set_option Elab.async false
set_option maxRecDepth 100000
set_option linter.all false
set_option maxHeartbeats 4000000
namespace Vk
open PySem PySem.Spec PyProof.Rows L2 StX
/-! ## the law's own table, from the end -/
noncomputable def bF (x y : Str) (e i j : Nat) : Nat := lstB (WayB x.cps.toList y.cps.toList (onceX x) e i j) 1000000000
theorem bF_least (x y : Str) (e i j : Nat) : Least (WayB x.cps.toList y.cps.toList (onceX x) e i j) 1000000000 (bF x y e i j) := lstB_least _ _
theorem bF_rec {x y : Str} {e i j v : Nat} (hi : i ≤ x.length) (hj : j ≤ y.length) (top : v ≤ 1000000000)
    (l0 : i = x.length → j = y.length → v = 0)
    (l1 : i < x.length → x.cps.toList[i]? = y.cps.toList[j]? → v ≤ bF x y e (i + 1) (j + 1))
    (l2 : ∀ t k, i < t → t ≤ x.length → onceX x i t → j ≤ k → k ≤ y.length → v ≤ bF x y e t k + e + (t - i) + (k - j))
    (is : v < 1000000000 → (i = x.length ∧ j = y.length ∧ v = 0) ∨ (i < x.length ∧ x.cps.toList[i]? = y.cps.toList[j]? ∧ v = bF x y e (i + 1) (j + 1)) ∨ ∃ t k, i < t ∧ t ≤ x.length ∧ onceX x i t ∧ j ≤ k ∧ k ≤ y.length ∧ v = bF x y e t k + e + (t - i) + (k - j)) : bF x y e i j = v := by
  have lx : x.cps.toList.length = x.length := Array.length_toList
  have ly : y.cps.toList.length = y.length := Array.length_toList
  refine Least.eq ⟨fun l => ?_, fun c hc => ?_, top⟩
  · rcases is l with ⟨rfl, rfl, rfl⟩ | ⟨h1, h2, rfl⟩ | ⟨t, k, h1, h2, h3, h4, h5, rfl⟩
    · rw [← lx, ← ly]
      exact .stop
    · exact .keep ((bF_least x y e (i + 1) (j + 1)).is l) (by omega) h2
    · exact .xch ((bF_least x y e t k).is (by omega)) h1 (by omega) h3 h4 (by omega)
  · cases hc with
    | stop => exact Nat.le_of_eq (l0 lx ly)
    | keep w h1 h2 => exact Nat.le_trans (l1 (by omega) h2) ((bF_least x y e (i + 1) (j + 1)).le _ w)
    | @xch _ _ d t k w h1 h2 h3 h4 h5 =>
      have q1 := l2 t k h1 (by omega) h3 h4 (by omega)
      have q2 := (bF_least x y e t k).le _ w
      omega
/-- where windows from i end -/
def tipsL (x : Str) (i s : Nat) : List Nat := ((List.range s).map fun q => i + 1 + q).filter fun t => decide (i < t ∧ twB x i t = false)
theorem tips_snoc {x : Str} {i s : Nat} : tipsL x i (s + 1) = if i < i + 1 + s ∧ twB x i (i + 1 + s) = false then tipsL x i s ++ [i + 1 + s] else tipsL x i s := by
  unfold tipsL
  rw [List.range_succ, List.map_append, List.filter_append]
  by_cases h : i < i + 1 + s ∧ twB x i (i + 1 + s) = false
  · rw [if_pos h]
    show _ ++ List.filter _ [i + 1 + s] = _
    rw [List.filter_cons_of_pos (by rw [decide_eq_true h])]
    rfl
  · rw [if_neg h]
    show _ ++ List.filter _ [i + 1 + s] = _
    rw [List.filter_cons_of_neg (by rw [decide_eq_false h]; exact Bool.false_ne_true), List.filter_nil, List.append_nil]
theorem tips_len {x : Str} {i s : Nat} : (tipsL x i s).length ≤ s := by
  unfold tipsL
  exact Nat.le_trans (List.length_filter_le _ _) (by rw [List.length_map, List.length_range]; exact Nat.le_refl _)
theorem tips_mem {x : Str} {i t : Nat} (hi : i ≤ x.length) : t ∈ tipsL x i (x.length - i) ↔ i < t ∧ t ≤ x.length ∧ onceX x i t := by
  unfold tipsL
  rw [List.mem_filter, List.mem_map]
  constructor
  · rintro ⟨⟨q, hq, rfl⟩, h⟩
    have hq := List.mem_range.mp hq
    obtain ⟨h1, h2⟩ := of_decide_eq_true h
    exact ⟨h1, by omega, h2⟩
  · rintro ⟨h1, h2, h3⟩
    exact ⟨⟨t - (i + 1), List.mem_range.mpr (by omega), by omega⟩, decide_eq_true ⟨h1, h3⟩⟩
/-- the prices of exchanges up to the end t -/
noncomputable def rowB (x y : Str) (e i j t s : Nat) : List Int := (List.range s).map fun q => ((bF x y e t (j + q) : Nat) : Int) + (e : Nat) + (t : Nat) - (i : Nat) + ((j + q : Nat) : Int) - (j : Nat)
theorem rowB_snoc {x y : Str} {e i j t s : Nat} : rowB x y e i j t (s + 1) = rowB x y e i j t s ++ [((bF x y e t (j + s) : Nat) : Int) + (e : Nat) + (t : Nat) - (i : Nat) + ((j + s : Nat) : Int) - (j : Nat)] := by
  unfold rowB
  rw [List.range_succ, List.map_append]
  rfl
noncomputable def rowsB (x y : Str) (e i j : Nat) (ts : List Nat) : List Int := (ts.map fun t => rowB x y e i j t (y.length + 1 - j)).flatten
theorem rowsB_snoc {x y : Str} {e i j t : Nat} {ts : List Nat} : rowsB x y e i j (ts ++ [t]) = rowsB x y e i j ts ++ rowB x y e i j t (y.length + 1 - j) := by
  unfold rowsB
  rw [List.map_append, List.flatten_append]
  show _ ++ (_ ++ []) = _
  rw [List.append_nil]
theorem rowB_len {x y : Str} {e i j t s : Nat} : (rowB x y e i j t s).length = s := by unfold rowB; rw [List.length_map, List.length_range]
theorem rowsB_len {x y : Str} {e i j : Nat} : ∀ {ts : List Nat}, (rowsB x y e i j ts).length ≤ ts.length * (y.length + 1)
  | [] => Nat.zero_le _
  | t :: ts => by
    have := rowsB_len (x := x) (y := y) (e := e) (i := i) (j := j) (ts := ts)
    show (rowB x y e i j t (y.length + 1 - j) ++ rowsB x y e i j ts).length ≤ (ts.length + 1) * (y.length + 1)
    rw [List.length_append, rowB_len, Nat.succ_mul]
    omega
/-- the least of what the law lists is the table's next entry -/
theorem min_b {x y : Str} {e i j : Nat} (hi : i ≤ x.length) (hj : j ≤ y.length) {m : Int}
    (hm : m ∈ (if i = x.length ∧ j = y.length then [(0 : Int)] else []) ++ (if i < x.length ∧ x.cps.toList[i]? = y.cps.toList[j]? then [((bF x y e (i + 1) (j + 1) : Nat) : Int)] else []) ++ rowsB x y e i j (tipsL x i (x.length - i)) ++ [1000000000])
    (hl : ∀ v ∈ (if i = x.length ∧ j = y.length then [(0 : Int)] else []) ++ (if i < x.length ∧ x.cps.toList[i]? = y.cps.toList[j]? then [((bF x y e (i + 1) (j + 1) : Nat) : Int)] else []) ++ rowsB x y e i j (tipsL x i (x.length - i)) ++ [1000000000], m ≤ v) : m = ((bF x y e i j : Nat) : Int) := by
  have cs : m = 1000000000 ∨ (i = x.length ∧ j = y.length ∧ m = 0) ∨ (i < x.length ∧ x.cps.toList[i]? = y.cps.toList[j]? ∧ m = ((bF x y e (i + 1) (j + 1) : Nat) : Int)) ∨ ∃ t k : Nat, i < t ∧ t ≤ x.length ∧ onceX x i t ∧ j ≤ k ∧ k ≤ y.length ∧ m = ((bF x y e t k : Nat) : Int) + (e : Nat) + (t : Nat) - (i : Nat) + ((k : Nat) : Int) - (j : Nat) := by
    rcases List.mem_append.mp hm with h | h
    · rcases List.mem_append.mp h with h | h
      · rcases List.mem_append.mp h with h | h
        · by_cases c : i = x.length ∧ j = y.length
          · rw [if_pos c] at h
            exact .inr (.inl ⟨c.1, c.2, List.mem_singleton.mp h⟩)
          · rw [if_neg c] at h
            cases h
        · by_cases c : i < x.length ∧ x.cps.toList[i]? = y.cps.toList[j]?
          · rw [if_pos c] at h
            exact .inr (.inr (.inl ⟨c.1, c.2, List.mem_singleton.mp h⟩))
          · rw [if_neg c] at h
            cases h
      · obtain ⟨l, hl1, hl2⟩ := List.mem_flatten.mp h
        obtain ⟨t, ht, rfl⟩ := List.mem_map.mp hl1
        obtain ⟨q, hq, rfl⟩ := List.mem_map.mp hl2
        have hq := List.mem_range.mp hq
        obtain ⟨t1, t2, t3⟩ := (tips_mem hi).mp ht
        exact .inr (.inr (.inr ⟨t, j + q, t1, t2, t3, by omega, by omega, rfl⟩))
    · exact .inl (List.mem_singleton.mp h)
  obtain ⟨v, rfl⟩ : ∃ v : Nat, m = (v : Nat) := ⟨m.toNat, by
    have : 0 ≤ m := by
      rcases cs with rfl | ⟨_, _, rfl⟩ | ⟨_, _, rfl⟩ | ⟨t, k, _, _, _, _, _, rfl⟩ <;> omega
    omega⟩
  have tp := hl _ (List.mem_append_right _ (List.mem_singleton.mpr rfl))
  refine congrArg _ (bF_rec hi hj (by omega) (fun h1 h2 => ?_) (fun h1 h2 => ?_) (fun t k h1 h2 h3 h4 h5 => ?_) (fun h => ?_)).symm
  · have := hl 0 (List.mem_append_left _ (List.mem_append_left _ (List.mem_append_left _ (by rw [if_pos ⟨h1, h2⟩]; exact List.mem_singleton.mpr rfl))))
    omega
  · have := hl _ (List.mem_append_left _ (List.mem_append_left _ (List.mem_append_right _ (by rw [if_pos ⟨h1, h2⟩]; exact List.mem_singleton.mpr rfl))))
    omega
  · have := hl _ (List.mem_append_left _ (List.mem_append_right _ (List.mem_flatten.mpr ⟨_, List.mem_map.mpr ⟨t, (tips_mem hi).mpr ⟨h1, h2, h3⟩, rfl⟩, List.mem_map.mpr ⟨k - j, List.mem_range.mpr (by omega), rfl⟩⟩)))
    rw [show j + (k - j) = k by omega] at this
    omega
  · rcases cs with q | ⟨q1, q2, q3⟩ | ⟨q1, q2, q3⟩ | ⟨t, k, q1, q2, q3, q4, q5, q6⟩
    · omega
    · exact .inl ⟨q1, q2, by omega⟩
    · exact .inr (.inl ⟨q1, q2, by omega⟩)
    · exact .inr (.inr ⟨t, k, q1, q2, q3, q4, q5, by omega⟩)
/-- one letter of each -/
theorem cut_one {x : Str} {i : Nat} : (cutS x (some (i : Int)) (some ((i : Int) + 1))).cps.toList = (x.cps.toList.drop i).take 1 := by
  have lx : x.cps.toList.length = x.length := Array.length_toList
  rw [show (i : Int) + 1 = ((i + 1 : Nat) : Int) by omega]
  by_cases h : i + 1 ≤ x.length
  · rw [cut_mid (by omega) h, show i + 1 - i = 1 by omega]
  · rw [List.drop_of_length_le (by omega)]
    unfold cutS
    rw [HT.sIx_nat, HT.sIx_nat]
    rw [List.drop_of_length_le (by omega)]
    simp
theorem one_letter {x y : Str} {i j : Nat} (hi : i < x.length) : decide (V.str (cutS x (some (i : Int)) (some ((i : Int) + 1))) = V.str (cutS y (some (j : Int)) (some ((j : Int) + 1)))) = decide (x.cps.toList[i]? = y.cps.toList[j]?) := by
  have lx : x.cps.toList.length = x.length := Array.length_toList
  have one : ∀ (l : List Nat) (i : Nat), (l.drop i).take 1 = (l[i]?).toList := fun l i => by
    rcases Nat.lt_or_ge i l.length with h | h
    · rw [List.drop_eq_getElem_cons h, List.getElem?_eq_getElem h]
      rfl
    · rw [List.drop_of_length_le h, List.getElem?_eq_none h]
      rfl
  refine decide_eq_decide.mpr ⟨fun z => ?_, fun z => ?_⟩
  · have z := congrArg (fun s : Str => s.cps.toList) (V.str.inj z)
    simp only [cut_one, one] at z
    cases h1 : x.cps.toList[i]? <;> cases h2 : y.cps.toList[j]? <;> rw [h1, h2] at z
    · cases z
    · cases z
    · cases z; rfl
  · refine congrArg V.str (str_ext ?_)
    rw [cut_one, cut_one, one, one, z]
end Vk
set_option Elab.async false
set_option maxRecDepth 100000
set_option maxHeartbeats 4000000
set_option linter.all false
namespace Vk
open PySem PySem.Spec PyProof.Rows L2
/-! ## {k: v for x in l}, l a list that stays -/
theorem for_rangeC {lo c : Int} {n : Nat} {g : TG} {tb : TS} {D : Ends} {σ : L2.St} {H : Hp} (Pv : Nat → L2.St → Hp → Prop) (h0 : Pv 0 σ H)
    (hs : ∀ i σ H, i < n → Pv i σ H → g (.int (lo + (i : Nat) * c)) σ H fun σ2 H2 => tb { D with nx := Pv (i + 1), ct := Pv (i + 1), bk := D.nx } σ2 H2) (hd : ∀ σ H, Pv n σ H → D.nx σ H) :
    ∃ W : Nat → Nat → L2.St → Hp → Prop, (∃ m, W 0 m σ H) ∧ ∀ i m σ H, W i m σ H →
      ((Itc lo c n).stop i H ∧ D.nx σ H) ∨ ((Itc lo c n).go i H ∧ ∃ N : L2.St → Hp → Prop, (∀ σ' H', N σ' H' → ∃ m', m' < m ∧ W (i + 1) m' σ' H') ∧ ∀ x1 H', (Itc lo c n).yld i H x1 H' → g x1 σ H' fun σ2 H2 => tb { D with nx := N, ct := N, bk := D.nx } σ2 H2) := by
  refine ⟨fun i m σ H => m = n - i ∧ i ≤ n ∧ Pv i σ H, ⟨n, by simp, Nat.zero_le _, h0⟩, ?_⟩
  rintro i m σ H ⟨rfl, hi, p⟩
  by_cases hlt : i < n
  · refine .inr ⟨hlt, Pv (i + 1), fun σ' H' p' => ⟨n - (i + 1), by omega, rfl, hlt, p'⟩, ?_⟩
    rintro x1 H' ⟨rfl, rfl⟩
    exact hs i σ _ hlt p
  · have e : i = n := by omega
    subst e
    exact .inl ⟨Nat.le_refl _, hd σ H p⟩
end Vk
set_option Elab.async false
set_option maxRecDepth 100000
set_option linter.all false
set_option maxHeartbeats 4000000
namespace Vk
open PySem PySem.Spec PyProof.Rows L2 StX
theorem rg_down : ∀ n : Nat, n < 9 → RgC (n : Nat) (-1) (-1) (n + 1) := by
  unfold RgC
  decide
theorem andV_by {A B : TE} {σ : L2.St} {H : Hp} {Q : VK} {p q : Prop} [Decidable p] [Decidable q] (ha : ∀ Q' : VK, Q' (.bl (decide p)) H → A σ H Q') (hb : ∀ Q' : VK, Q' (.bl (decide q)) H → B σ H Q') (h : Q (.bl (decide (p ∧ q))) H) : tAndV A B σ H Q := by
  refine ha _ ⟨_, rfl, ?_⟩
  by_cases c : p
  · rw [decide_eq_true c]
    rw [show decide (p ∧ q) = decide q by simp [c]] at h
    exact iteT (hb _ h)
  · rw [decide_eq_false c]
    rw [show decide (p ∧ q) = false by simp [c]] at h
    exact iteF h
theorem eq_by {σ : L2.St} {H : Hp} {n m : Nat} {i j : Nat} (h : σ[n]? = some (some (.int (i : Nat)))) (h2 : σ[m]? = some (some (.int (j : Nat)))) : ∀ Q' : VK, Q' (.bl (decide (i = j))) H → tOp rEq (tVar n) (tVar m) σ H Q' := fun Q' q => ⟨_, h, _, h2, rfl, by
  rw [show decide (V.int ((i : Nat) : Int) = V.int ((j : Nat) : Int)) = decide (i = j) from decide_eq_decide.mpr ⟨fun z => by have := V.int.inj z; omega, fun z => by rw [z]⟩]
  exact q⟩
def HasB (x y : Str) (e : Nat) (kvs : List (List Key × V)) (S : Nat → Nat → Prop) : Prop := ∀ i j : Nat, i ≤ x.length → j ≤ y.length → S i j → valV kvs [.inl (i : Int), .inl (j : Int)] = some (.int (bF x y e i j : Nat))
section
variable {P : Program} {w : World} {K : PySem.W.Frag} {mg : Str → Option Value} {base : Heap}
noncomputable def bestV (x y : Str) (e : Nat) : V := if bF x y e 0 0 < 1000000000 then .int (bF x y e 0 0 : Nat) else .non
def spNbest : Sp := fun vs H Q _ => ∃ (x y : Str) (e : Nat), vs = [.str x, .str y, .int (e : Nat)] ∧ x.length ≤ 8 ∧ y.length ≤ 8 ∧ ∀ H', Same H H' → Q (bestV x y e) H'
abbrev s_lnbest : Stmt := top 38
theorem sc_lnbest : FnScope ["_law_left", "_law_right", "_law_extra", "_law_size", "_law_many", "_law_best", "_law_i", "_law_tips", "_law_tip", "_law_j", "_law_some", "_law_k"] ["_law_left", "_law_right", "_law_extra"] (defScope s_lnbest) := ⟨rfl, rfl, rfl, by decide +kernel, rfl, by decide +kernel, by decide +kernel⟩
theorem b_lnbest {f : Addr} {fd : FuncData} (F : Fun K "_law_nbest" "_law_nbest" s_lnbest f fd) (T : Txt mg) (c_lnonce : CalG P w K mg base CX0 2 "_law_nonce" spNonce) : FnG P w K mg base CX0 3 f fd ["_law_left", "_law_right", "_law_extra"] spNbest := by
  refine okG0 F sc_lnbest (fun vs H Q E h => ?_) (fun cdv A outer s H vs Q E hg hr h => ?_)
  · obtain ⟨x, y, e, rfl, _⟩ := h
    rfl
  · have hu := hu_of hr
    have hu64 := hr.units
    obtain ⟨x, y, e, rfl, hx, hy, k⟩ := h
    have xl : x.length ≤ sizeLine := Nat.le_of_lt (fewL (by omega))
    have yl : y.length ≤ sizeLine := Nat.le_of_lt (fewL (by omega))
    have lx : x.cps.toList.length = x.length := Array.length_toList
    have ly : y.cps.toList.length = y.length := Array.length_toList
    refine ⟨_, (pss_cons (ps_asg (pe_tup (pa_cons (pe_callB call_len (by rfl) T.len (by decide +kernel) (pa_cons (pv 0) pa_nil)) (pa_cons (pe_callB call_len (by rfl) T.len (by decide +kernel) (pa_cons (pv 1) pa_nil)) (pa_cons pe_dnewT pa_nil)))) (pg_tup rfl (pgs_cons (pg_name (i := 3) sc_lnbest.nd rfl (Or.inl rfl)) (pgs_cons (pg_name (i := 4) sc_lnbest.nd rfl (Or.inl rfl)) (pgs_cons (pg_name (i := 5) sc_lnbest.nd rfl (Or.inr rfl)) pgs_nil)))))
      (pss_cons (ps_for PassesOwn.never rfl (pi_range3 rfl T.range (pa_cons (pv 3) (pa_cons (pe_un un_neg pe_int) (pa_cons (pe_un un_neg pe_int) pa_nil)))) (pg_name (i := 6) sc_lnbest.nd rfl (Or.inr rfl)) (pss_cons (ps_setLc (i := 7) (own := [("_law_tip", 8)]) (g := gName 8) rfl sc_lnbest.nd rfl rfl (sw_true rfl rfl rfl (by decide +kernel)) (pi_range2 rfl T.range (pa_cons (pe_op op_add (pv 6) pe_int) (pa_cons (pe_op op_add (pv 3) pe_int) pa_nil))) (blkOk_by (own := [("_law_tip", 8)]) (N := ["_law_left", "_law_right", "_law_extra", "_law_size", "_law_many", "_law_best", "_law_i", "_law_tips", "_law_tip", "_law_j", "_law_some", "_law_k"]) (sc := defScope s_lnbest) (by decide +kernel)) (fun _ _ _ _ _ => (pg_name (i := 8) sc_lnbest.nd rfl (Or.inl rfl))) (fun _ _ _ _ _ => (pts_one (pt_val (pe_cG c_lnonce hg hr (by decide) pass0 (pa_cons (pv 0) (pa_cons (pv 6) (pa_cons (pv 8) pa_nil))))))) (fun _ _ _ _ _ => (pv 8)))
      (pss_one (ps_for PassesOwn.never rfl (pi_range3 rfl T.range (pa_cons (pv 4) (pa_cons (pe_un un_neg pe_int) (pa_cons (pe_un un_neg pe_int) pa_nil)))) (pg_name (i := 9) sc_lnbest.nd rfl (Or.inr rfl)) (pss_cons (ps_set (i := 10) sc_lnbest.nd rfl (Or.inl rfl) (pe_op op_rep (pe_lst (pa_cons pe_int pa_nil)) (pe_callTy call_int1 (by rfl) T.int (by decide +kernel) (pa_cons (pe_and (pe_cmpR op_eq (pv 6) (pv 3) (nomark _)) (pe_one (pe_cmpR op_eq (pv 9) (pv 4) (nomark _)))) pa_nil))))
      (pss_cons (ps_if (PW.pt (pw_and (pt_cmpR op_eq (pe_slice sl_str (pv 0) (po_some (pv 6)) (po_some (pe_op op_add (pv 6) pe_int))) (pe_slice sl_str (pv 1) (po_some (pv 9)) (po_some (pe_op op_add (pv 9) pe_int))) (nomark _)) (pw_and1 (pt_cmpR op_lt (pv 6) (pv 3) (nomark _))))) (pss_one (ps_expr (pe_bm PySem.F.plainAttrs_list PySem.F.slot_list_append PySem.F.type_list_append mt_append (pv 10) (pa_cons (pe_dget2 hu (pv 5) (pe_tup (pa_cons (pe_op op_add (pv 6) pe_int) (pa_cons (pe_op op_add (pv 9) pe_int) pa_nil))) (pe_op op_pow pe_int pe_int) ⟨rfl, rfl, rfl, rfl⟩) pa_nil)))) pss_nil)
      (pss_cons (ps_for PassesOwn.never rfl (pi_list (pv 7)) (pg_name (i := 8) sc_lnbest.nd rfl (Or.inr rfl)) (pss_one (ps_expr (pe_bm PySem.F.plainAttrs_list PySem.F.slot_list_extend PySem.F.type_list_extend mt_extend (pv 10) (pa_cons (pe_lc (own := [("_law_k", 11)]) (g := gName 11) (tt := tYes) rfl sc_lnbest.nd (pi_range2 rfl T.range (pa_cons (pv 9) (pa_cons (pe_op op_add (pv 4) pe_int) pa_nil))) (blkOk_by (own := [("_law_k", 11)]) (N := ["_law_left", "_law_right", "_law_extra", "_law_size", "_law_many", "_law_best", "_law_i", "_law_tips", "_law_tip", "_law_j", "_law_some", "_law_k"]) (sc := defScope s_lnbest) (by decide +kernel)) (fun _ _ _ _ _ => (pg_name (i := 11) sc_lnbest.nd rfl (Or.inl rfl))) (fun _ _ _ _ _ => pts_nil) (fun _ _ _ _ _ => (pe_op op_sub (pe_op op_add (pe_op op_sub (pe_op op_add (pe_op op_add (pe_dget2 hu (pv 5) (pe_tup (pa_cons (pv 8) (pa_cons (pv 11) pa_nil))) (pe_op op_pow pe_int pe_int) ⟨rfl, rfl, rfl, rfl⟩) (pv 2)) (pv 8)) (pv 6)) (pv 11)) (pv 9)))) pa_nil)))))
      (pss_one (ps_dput hu (pv 5) (pe_tup (pa_cons (pv 6) (pa_cons (pv 9) pa_nil))) (pe_callB (cr_min rfl) (by rfl) T.min (by decide +kernel) (pa_cons (pe_op op_cat (pv 10) (pe_lst (pa_cons (pe_op op_pow pe_int pe_int) pa_nil))) pa_nil)) rfl)))))))))
      (pss_one (ps_ret (pe_ifExp (pt_cmpR op_lt (pe_dget hu (pv 5) (pe_tup (pa_cons pe_int (pa_cons pe_int pa_nil))) (fun _ _ => rfl)) (pe_op op_pow pe_int pe_int) (nomark _)) (pe_dget hu (pv 5) (pe_tup (pa_cons pe_int (pa_cons pe_int pa_nil))) (fun _ _ => rfl)) pe_non))))), ?_⟩
    refine ⟨_, rfl, _, _, rfl, ⟨xl, rfl⟩, _, rfl, _, _, rfl, ⟨yl, rfl⟩, ?_⟩
    refine fun d hd => ⟨by show 3 ≤ sizeLine; decide, fun tq htq => ⟨tq, _, rfl, SqT.of upd_same, rfl, _, _, rfl, _, _, rfl, _, _, rfl, rfl, ?_⟩⟩
    have sd := same_new (o := .dT []) hd
    have sq := same_new (o := .tup [.int (x.length : Nat), .int (y.length : Nat), .ref d]) htq
    have hd1 : upd (upd H d (.dT [])) tq (.tup [.int (x.length : Nat), .int (y.length : Nat), .ref d]) d = some (.dT []) := sq _ _ upd_same
    have s1 := sd.trans sq
    generalize upd (upd H d (.dT [])) tq (.tup [.int (x.length : Nat), .int (y.length : Nat), .ref d]) = H1 at hd1 s1 ⊢
    dsimp only
    refine ⟨_, rfl, _, rfl, _, rfl, _, _, _, x.length + 1, rfl, rg_down _ (by omega), ?_⟩
    refine for_rangeC (fun t σ H' => ∃ (o6 o7 o8 o9 o10 o11 : Option V) (kvs : List (List Key × V)), σ = [some (.str x), some (.str y), some (.int (e : Nat)), some (.int (x.length : Nat)), some (.int (y.length : Nat)), some (.ref d), o6, o7, o8, o9, o10, o11] ∧ H' d = some (.dT kvs) ∧ kvs.length ≤ t * (y.length + 1) ∧ HasB x y e kvs (fun i' _ => x.length < i' + t) ∧ Same H H') ?_ ?_ ?_
    · exact ⟨_, _, _, _, _, _, [], rfl, hd1, Nat.zero_le _, fun i' j' h1 _ h3 => by omega, s1⟩
    · rintro t σ H2 ht ⟨o6, o7, o8, o9, o10, o11, kvs, rfl, hd2, kl2, hb2, s2⟩
      obtain ⟨i, hi⟩ : ∃ i, i = x.length - t := ⟨_, rfl⟩
      have ei : ((x.length : Nat) : Int) + ((t : Nat) : Int) * (-1) = ((i : Nat) : Int) := by omega
      have hix : i ≤ x.length := by omega
      rw [ei]
      dsimp only
      refine name_go ⟨_, rfl, _, _, rfl, rfl, _, rfl, _, _, rfl, rfl, _, _, rfl, ?_⟩
      refine ⟨by omega, fun tl htl => ?_⟩
      have stl := same_new (o := .lst []) htl
      have en : (((x.length : Nat) : Int) + 1 - (((i : Nat) : Int) + 1)).toNat = x.length - i := by omega
      refine lc_range (lo := ((i : Nat) : Int) + 1) (n := (((x.length : Nat) : Int) + 1 - (((i : Nat) : Int) + 1)).toNat) (fun s H' => H' tl = some (.lst ((tipsL x i s).map fun t => V.int (t : Nat))) ∧ Same H2 H') ?_ ?_ ?_
      · exact ⟨upd_same, stl⟩
      · rintro s H3 hs ⟨htl3, s3⟩
        rw [en] at hs
        have es : ((i : Nat) : Int) + 1 + ((s : Nat) : Int) = ((i + 1 + s : Nat) : Int) := by omega
        rw [es]
        refine ⟨rfl, _, rfl, _, rfl, _, rfl, x, i, i + 1 + s, rfl, by omega, fun _ => by omega, fun H4 s4 => ⟨_, rfl, ?_⟩⟩
        by_cases c : i < i + 1 + s ∧ twB x i (i + 1 + s) = false
        · rw [decide_eq_true c]
          refine iteT ⟨_, rfl, _, s4 _ _ htl3, fewL (by rw [List.length_map]; have := tips_len (x := x) (i := i) (s := s); omega), ?_, upd_out htl (s3.trans s4)⟩
          rw [upd_same, tips_snoc, if_pos c, List.map_append]
          rfl
        · rw [decide_eq_false c]
          refine iteF ⟨?_, s3.trans s4⟩
          rw [s4 _ _ htl3, tips_snoc, if_neg c]
      · rintro H3 ⟨htl3, s3⟩
        rw [en] at htl3
        have hd3 := s3 _ _ hd2
        have s23 := s2.trans s3
        have tsl := tips_len (x := x) (i := i) (s := x.length - i)
        generalize hts : tipsL x i (x.length - i) = ts at htl3 tsl
        refine name_go ⟨_, rfl, _, rfl, _, rfl, _, _, _, y.length + 1, rfl, rg_down _ (by omega), ?_⟩
        refine for_rangeC (fun u σ H' => ∃ (o8 o9 o10 o11 : Option V) (kvs : List (List Key × V)), σ = [some (.str x), some (.str y), some (.int (e : Nat)), some (.int (x.length : Nat)), some (.int (y.length : Nat)), some (.ref d), some (.int (i : Nat)), some (.ref tl), o8, o9, o10, o11] ∧ H' d = some (.dT kvs) ∧ kvs.length ≤ t * (y.length + 1) + u ∧ HasB x y e kvs (fun i' j' => x.length < i' + t ∨ (i' = i ∧ y.length < j' + u)) ∧ H' tl = some (.lst (ts.map fun t => V.int (t : Nat))) ∧ Same H H') ?_ ?_ ?_
        · exact ⟨_, _, _, _, kvs, rfl, hd3, by omega, fun i' j' h1 h2 h3 => hb2 i' j' h1 h2 (h3.resolve_right (by omega)), htl3, s23⟩
        · rintro u σ H4 hu4 ⟨o8, o9, o10, o11, kvs, rfl, hd4, kl4, hb4, htl4, s4⟩
          obtain ⟨j, hj⟩ : ∃ j, j = y.length - u := ⟨_, rfl⟩
          have ej : ((y.length : Nat) : Int) + ((u : Nat) : Int) * (-1) = ((j : Nat) : Int) := by omega
          have hjy : j ≤ y.length := by omega
          rw [ej]
          dsimp only
          refine name_go ⟨by show 1 ≤ sizeLine; decide, fun p1 hp1 => ?_⟩
          have sp1 := same_new (o := .lst [.int 0]) hp1
          refine andV_by (p := i = x.length) (q := j = y.length) (eq_by rfl rfl) (eq_by rfl rfl) ?_
          refine .inr ⟨_, rfl, p1, _, _, rfl, rfl, upd_same, by split <;> omega, by split <;> omega, by show 1 * _ ≤ _; split <;> decide, fun sm hsm => ?_⟩
          have hb5 : upd (upd H4 p1 (.lst [.int 0])) sm (.lst (List.replicate (if decide (i = x.length ∧ j = y.length) = true then (1 : Int) else 0).toNat [V.int 0]).flatten) sm = some (.lst ((if i = x.length ∧ j = y.length then [(0 : Int)] else []).map V.int)) := by
            rw [upd_same]
            by_cases c : i = x.length ∧ j = y.length
            · rw [if_pos c, if_pos (decide_eq_true c)]
              rfl
            · rw [if_neg c, if_neg (by rw [decide_eq_false c]; exact Bool.false_ne_true)]
              rfl
          have s5 := same_new (o := .lst (List.replicate (if decide (i = x.length ∧ j = y.length) = true then (1 : Int) else 0).toNat [V.int 0]).flatten) hsm
          have l0 : (if i = x.length ∧ j = y.length then [(0 : Int)] else []).length ≤ 1 := by split <;> decide
          generalize hL0 : (if i = x.length ∧ j = y.length then [(0 : Int)] else []) = L0 at hb5 l0
          generalize upd (upd H4 p1 (.lst [.int 0])) sm (.lst (List.replicate (if decide (i = x.length ∧ j = y.length) = true then (1 : Int) else 0).toNat [V.int 0]).flatten) = H6 at hb5 s5 ⊢
          have hd5 := sp1 _ _ hd4
          have htl5 := sp1 _ _ htl4
          have s45 := s4.trans sp1
          generalize upd H4 p1 (.lst [.int 0]) = H5 at hsm s5 hd5 htl5 s45
          refine name_go ?_
          dsimp only
          refine seq_mid (fun σ H' => σ = [some (.str x), some (.str y), some (.int (e : Nat)), some (.int (x.length : Nat)), some (.int (y.length : Nat)), some (.ref d), some (.int (i : Nat)), some (.ref tl), o8, some (.int (j : Nat)), some (.ref sm), o11] ∧ H' sm = some (.lst ((L0 ++ (if i < x.length ∧ x.cps.toList[i]? = y.cps.toList[j]? then [((bF x y e (i + 1) (j + 1) : Nat) : Int)] else [])).map V.int)) ∧ Same H5 H') (fun D' hD' => ?_) (fun σ H7 hm => ?_)
          · refine and_by (p := V.str (cutS x (some (i : Int)) (some ((i : Int) + 1))) = V.str (cutS y (some (j : Int)) (some ((j : Int) + 1)))) (q := i < x.length) (fun k' q => ⟨_, rfl, _, rfl, _, rfl, _, rfl, _, _, rfl, rfl, _, rfl, x, rfl, xl, _, rfl, _, rfl, _, rfl, _, rfl, _, _, rfl, rfl, _, rfl, y, rfl, yl, rfl, _, rfl, q⟩) (fun _ k' q => ⟨_, rfl, _, rfl, _, _, rfl, rfl, _, rfl, by
              rw [show decide (((i : Nat) : Int) < ((x.length : Nat) : Int)) = decide (i < x.length) from decide_eq_decide.mpr (by omega)]
              exact q⟩) ?_
            rw [show decide (V.str (cutS x (some (i : Int)) (some ((i : Int) + 1))) = V.str (cutS y (some (j : Int)) (some ((j : Int) + 1))) ∧ i < x.length) = decide (i < x.length ∧ x.cps.toList[i]? = y.cps.toList[j]?) by
              by_cases c : i < x.length
              · simp only [c, and_true, true_and]
                exact one_letter c
              · simp [c]]
            by_cases c : i < x.length ∧ x.cps.toList[i]? = y.cps.toList[j]?
            · rw [decide_eq_true c]
              have cj : j < y.length := by
                have c2 := c.2
                rw [List.getElem?_eq_getElem (by omega)] at c2
                have := (List.getElem?_eq_some_iff.mp c2.symm).1
                omega
              have hd6 := s5 _ _ hd5
              refine iteT ⟨_, rfl, .inl ⟨rfl, _, SqL.of hb5⟩, _, rfl, d, rfl, .inr ⟨kvs, .inl hd6⟩, _, rfl, _, _, rfl, rfl, _, rfl, _, _, rfl, rfl, by show 2 ≤ sizeLine; decide, fun q hq => ⟨_, _, rfl, rfl, ⟨by decide, by decide, by decide⟩, ?_⟩⟩
              have sqq := same_new (o := .tup [.int ((i : Int) + 1), .int ((j : Int) + 1)]) hq
              have vv : valV kvs [.inl ((i : Int) + 1), .inl ((j : Int) + 1)] = some (.int (bF x y e (i + 1) (j + 1) : Nat)) := hb4 (i + 1) (j + 1) (by omega) (by omega) (.inl (by omega))
              refine ⟨some (.int (bF x y e (i + 1) (j + 1) : Nat)), .inr ⟨kvs, [.inl ((i : Int) + 1), .inl ((j : Int) + 1)], q, .inl (sqq _ _ hd6), rfl, upd_same, vv.symm⟩, sm, _, _, rfl, rfl, sqq _ _ hb5, fewL (by rw [List.length_map]; omega), hD' _ _ ⟨rfl, ?_, upd_out hsm (s5.trans sqq)⟩⟩
              rw [upd_same, if_pos c, List.map_append]
              rfl
            · rw [decide_eq_false c]
              exact iteF (hD' _ _ ⟨rfl, by rw [if_neg c, List.append_nil]; exact hb5, s5⟩)
          obtain ⟨rfl, hb7, s7⟩ := hm
          have l01 : (L0 ++ (if i < x.length ∧ x.cps.toList[i]? = y.cps.toList[j]? then [((bF x y e (i + 1) (j + 1) : Nat) : Int)] else [])).length ≤ 2 := by
            rw [List.length_append]
            split
            · rw [List.length_singleton]; omega
            · rw [List.length_nil]; omega
          generalize hL1 : L0 ++ (if i < x.length ∧ x.cps.toList[i]? = y.cps.toList[j]? then [((bF x y e (i + 1) (j + 1) : Nat) : Int)] else []) = L1 at hb7 l01
          refine ⟨_, rfl, tl, rfl, ⟨_, SqL.of (s7 _ _ htl5)⟩, ?_⟩
          have rl : ∀ z : Nat, (rowsB x y e i j (ts.take z)).length ≤ 72 := fun z => by
            have a := rowsB_len (x := x) (y := y) (e := e) (i := i) (j := j) (ts := ts.take z)
            have b : (ts.take z).length ≤ 8 := by rw [List.length_take]; omega
            exact Nat.le_trans a (Nat.le_trans (Nat.mul_le_mul b (show y.length + 1 ≤ 9 by omega)) (by decide))
          refine for_list (K := K) (a := tl) (xs := ts.map fun t => V.int (t : Nat)) (fun z σ H' => ∃ (o8 o11 : Option V), σ = [some (.str x), some (.str y), some (.int (e : Nat)), some (.int (x.length : Nat)), some (.int (y.length : Nat)), some (.ref d), some (.int (i : Nat)), some (.ref tl), o8, some (.int (j : Nat)), some (.ref sm), o11] ∧ H' sm = some (.lst ((L1 ++ rowsB x y e i j (ts.take z)).map V.int)) ∧ Same H5 H') ?_ ?_ ?_ ?_
          · refine ⟨_, _, rfl, ?_, s7⟩
            rw [List.take_zero]
            show _ = some (HO.lst ((L1 ++ []).map V.int))
            rw [List.append_nil]
            exact hb7
          · rintro z σ H8 _ ⟨o8, o11, rfl, _, s8⟩
            exact SqL.of (s8 _ _ htl5)
          · rintro z v σ H8 hv ⟨o8, o11, rfl, hb8, s8⟩
            rw [List.getElem?_map] at hv
            obtain ⟨tip, htip, rfl⟩ := Option.map_eq_some_iff.mp hv
            have tm := List.mem_of_getElem? htip
            rw [← hts] at tm
            obtain ⟨t1, t2, t3⟩ := (tips_mem hix).mp tm
            refine name_go ⟨_, rfl, .inl ⟨rfl, _, SqL.of hb8⟩, _, rfl, _, rfl, _, _, rfl, rfl, _, _, rfl, ⟨by omega, by omega, by omega, by omega⟩, fun D hD => ?_⟩
            have sD := same_new (o := .lst []) hD
            have em : (((y.length : Nat) : Int) + 1 - ((j : Nat) : Int)).toNat = y.length + 1 - j := by omega
            refine lc_range (lo := ((j : Nat) : Int)) (n := (((y.length : Nat) : Int) + 1 - ((j : Nat) : Int)).toNat) (fun s H' => H' D = some (.lst ((rowB x y e i j tip s).map V.int)) ∧ Same H8 H') ?_ ?_ ?_
            · exact ⟨upd_same, sD⟩
            · rintro s H9 hs ⟨hD9, s9⟩
              rw [em] at hs
              have hd9 := s9 _ _ (s8 _ _ hd5)
              have es : ((j : Nat) : Int) + ((s : Nat) : Int) = ((j + s : Nat) : Int) := by omega
              rw [es]
              refine ⟨rfl, _, rfl, d, rfl, .inr ⟨kvs, .inl hd9⟩, _, rfl, _, rfl, by show 2 ≤ sizeLine; decide, fun q hq => ⟨_, _, rfl, rfl, ⟨by decide, by decide, by decide⟩, ?_⟩⟩
              have sqq := same_new (o := .tup [.int ((tip : Nat) : Int), .int ((j + s : Nat) : Int)]) hq
              have vv := hb4 tip (j + s) (by omega) (by omega) (.inl (by omega))
              refine ⟨some (.int (bF x y e tip (j + s) : Nat)), .inr ⟨kvs, [.inl ((tip : Nat) : Int), .inl ((j + s : Nat) : Int)], q, .inl (sqq _ _ hd9), rfl, upd_same, vv.symm⟩, ?_⟩
              refine ⟨_, rfl, _, _, rfl, rfl, _, rfl, _, _, rfl, rfl, _, rfl, _, _, rfl, rfl, _, rfl, _, _, rfl, rfl, _, rfl, _, _, rfl, rfl, _, sqq _ _ hD9, fewL (by rw [List.length_map, rowB_len]; omega), ?_, upd_out hD (s9.trans sqq)⟩
              rw [upd_same, rowB_snoc, List.map_append]
              rfl
            · rintro H9 ⟨hD9, s9⟩
              rw [em] at hD9
              have hb9 := s9 _ _ hb8
              refine ⟨sm, D, _, _, rfl, rfl, hb9, hD9, Nat.le_of_lt (fewL ?_), ?_⟩
              · have := rl z
                rw [List.length_map, List.length_map, List.length_append, rowB_len]
                omega
              · refine ⟨_, _, rfl, ?_, upd_out hsm (s8.trans s9)⟩
                rw [upd_same, List.take_add_one, htip, Option.toList_some, rowsB_snoc, ← List.map_append, List.append_assoc]
          · rintro σ H8 ⟨o8, o11, rfl, hb8, s8⟩
            rw [List.length_map, List.take_of_length_le (Nat.le_refl _)] at hb8
            have rl8 := rl ts.length
            rw [List.take_of_length_le (Nat.le_refl _)] at rl8
            refine ⟨_, rfl, _, _, rfl, rfl, ⟨by decide, by decide, by decide⟩, by show 1 ≤ sizeLine; decide, fun q hq => ?_⟩
            have sq8 := same_new (o := .lst [.int (10 ^ (9 : Int).toNat)]) hq
            refine ⟨sm, q, _, _, rfl, rfl, sq8 _ _ hb8, upd_same, Nat.le_of_lt (fewL (by rw [List.length_map, List.length_append, List.length_singleton]; omega)), fun p hp => ?_⟩
            have sp8 := same_new (o := .lst ((L1 ++ rowsB x y e i j ts).map V.int ++ [.int (10 ^ (9 : Int).toNat)])) hp
            refine ⟨p, L1 ++ rowsB x y e i j ts ++ [1000000000], rfl, SqL.of (by rw [upd_same, List.map_append (l₁ := L1 ++ rowsB x y e i j ts) (l₂ := [1000000000])]; rfl), by rw [List.length_append, List.length_singleton]; omega, fun m hm1 hm2 => ?_⟩
            have ev : m = ((bF x y e i j : Nat) : Int) := by
              subst hts hL1 hL0
              exact min_b hix hjy hm1 hm2
            subst ev
            have s88 := (s8.trans sq8).trans sp8
            have hd8 := s88 _ _ hd5
            have htl8 := s88 _ _ htl5
            refine ⟨_, rfl, _, rfl, _, rfl, by show 2 ≤ sizeLine; decide, fun q2 hq2 => ?_⟩
            have sq2 := same_new (o := .tup [.int (i : Nat), .int (j : Nat)]) hq2
            refine ⟨d, _, rfl, .inr ⟨kvs, [.inl ((i : Nat) : Int), .inl ((j : Nat) : Int)], q2, sq2 _ _ hd8, rfl, upd_same, fewL ?_, rfl⟩, ?_⟩
            · have : t * (y.length + 1) ≤ 8 * 9 := Nat.mul_le_mul (by omega) (by omega)
              omega
            · refine ⟨_, _, _, _, putK kvs [.inl ((i : Nat) : Int), .inl ((j : Nat) : Int)] (.int (bF x y e i j : Nat)), rfl, upd_same, ?_, fun i' j' h1 h2 h3 => ?_, ?_, upd_out hd ((s45.trans s88).trans sq2)⟩
              · have := length_putK kvs [.inl ((i : Nat) : Int), .inl ((j : Nat) : Int)] (.int (bF x y e i j : Nat))
                omega
              · rw [valV_put]
                by_cases c : i' = i ∧ j' = j
                · obtain ⟨rfl, rfl⟩ := c
                  rw [if_pos rfl]
                · rw [if_neg (fun z => c (by
                    have z1 := List.cons.inj z
                    have z2 := List.cons.inj z1.2
                    have w1 := Sum.inl.inj z1.1
                    have w2 := Sum.inl.inj z2.1
                    omega))]
                  exact hb4 i' j' h1 h2 (by omega)
              · rw [upd_ne (fun z => by
                  have := sq2 _ _ htl8
                  rw [z, sq2 _ _ hd8] at this
                  cases this)]
                exact sq2 _ _ htl8
        · rintro σ H4 ⟨o8, o9, o10, o11, kvs, rfl, hd4, kl4, hb4, htl4, s4⟩
          refine ⟨_, _, _, _, _, _, kvs, rfl, hd4, by rw [Nat.succ_mul]; omega, fun i' j' h1 h2 h3 => hb4 i' j' h1 h2 (by omega), s4⟩
    · rintro σ H2 ⟨o6, o7, o8, o9, o10, o11, kvs, rfl, hd2, kl2, hb2, s2⟩
      have vv : valV kvs [.inl 0, .inl 0] = some (.int (bF x y e 0 0 : Nat)) := hb2 0 0 (Nat.zero_le _) (Nat.zero_le _) (by omega)
      refine ⟨_, rfl, by show 2 ≤ sizeLine; decide, fun q hq => ?_⟩
      have sqq := same_new (o := .tup [.int 0, .int 0]) hq
      refine ⟨d, .int (bF x y e 0 0 : Nat), rfl, .inr ⟨kvs, [.inl 0, .inl 0], q, .inl (sqq _ _ hd2), rfl, upd_same, vv.symm⟩, ?_⟩
      refine ⟨_, _, rfl, rfl, ⟨by decide, by decide, by decide⟩, _, _, rfl, rfl, _, rfl, ?_⟩
      rw [show decide (((bF x y e 0 0 : Nat) : Int) < 10 ^ (9 : Int).toNat) = decide (bF x y e 0 0 < 1000000000) from decide_eq_decide.mpr (by show _ < (1000000000 : Int) ↔ _; omega)]
      unfold bestV at k
      by_cases c : bF x y e 0 0 < 1000000000
      · rw [decide_eq_true c]
        rw [if_pos c] at k
        refine iteT ⟨_, rfl, by show 2 ≤ sizeLine; decide, fun q2 hq2 => ?_⟩
        have sq2 := same_new (o := .tup [.int 0, .int 0]) hq2
        exact ⟨d, .int (bF x y e 0 0 : Nat), rfl, .inr ⟨kvs, [.inl 0, .inl 0], q2, .inl (sq2 _ _ (sqq _ _ hd2)), rfl, upd_same, vv.symm⟩, k _ ((s2.trans sqq).trans sq2)⟩
      · rw [decide_eq_false c]
        rw [if_neg c] at k
        exact iteF (k _ (s2.trans sqq))
end
end Vk
set_option Elab.async false
set_option maxRecDepth 100000
set_option linter.all false
set_option maxHeartbeats 4000000
namespace Vk
open PySem PySem.Spec PyProof.Rows L2 StX
theorem parts_let {a b : List Nat} {once : Nat → Nat → Prop} {e i j c : Nat} {rs : List (Nat × Nat × List Nat)} (h : Parts a b once e i j c rs) : ∀ r ∈ rs, (∀ c ∈ r.2.2, c ∈ b) ∧ r.2.2.length ≤ b.length := by
  induction h with
  | stop => exact fun r hr => absurd hr List.not_mem_nil
  | keep _ _ _ ih => exact ih
  | xch _ _ _ _ _ _ ih =>
    intro r hr
    rcases List.mem_cons.mp hr with rfl | hr
    · refine ⟨fun c hc => List.mem_of_mem_drop (List.mem_of_mem_take hc), ?_⟩
      show (List.take _ _).length ≤ _
      rw [List.length_take, List.length_drop]
      omega
    · exact ih r hr
theorem okr_of {x : Str} {once : Nat → Nat → Prop} : ∀ {rs : List (Nat × Nat × Str)} {i : Nat}, OkP x.cps.toList once i (rs.map partT) → OkR x.length i rs ∧ ∀ r ∈ rs, once r.1 r.2.1
  | [], _, _ => ⟨trivial, fun r hr => absurd hr List.not_mem_nil⟩
  | (g, t, z) :: rs, i, ⟨h1, h2, h3, h4, h5⟩ => by
    obtain ⟨q1, q2⟩ := okr_of (rs := rs) h5
    refine ⟨⟨h1, h2, Nat.le_trans h3 (Nat.le_of_eq Array.length_toList), q1⟩, fun r hr => ?_⟩
    rcases List.mem_cons.mp hr with rfl | hr
    · exact h4
    · exact q2 r hr
theorem putH_done {x : Str} {once : Nat → Nat → Prop} : ∀ {rs : List (Nat × Nat × Str)} {p : Nat} {acc : Str}, OkP x.cps.toList once p (rs.map partT) → (putH x p rs acc).cps.toList = acc.cps.toList ++ doneP x.cps.toList p (rs.map partT)
  | [], p, acc, _ => by
    show (acc ++ cutS x (some (p : Int)) none).cps.toList = acc.cps.toList ++ x.cps.toList.drop p
    rw [app_list, cut_from]
  | (g, t, z) :: rs, p, acc, ⟨h1, h2, h3, h4, h5⟩ => by
    have lx : x.cps.toList.length = x.length := Array.length_toList
    show (putH x t rs (acc ++ cutS x (some (p : Int)) (some (g : Int)) ++ z)).cps.toList = acc.cps.toList ++ ((x.cps.toList.drop p).take (g - p) ++ z.cps.toList ++ doneP x.cps.toList t (rs.map partT))
    rw [putH_done (rs := rs) h5, app_list, app_list, cut_mid h1 (by omega), List.append_assoc, List.append_assoc, List.append_assoc]
theorem cost_sum {x : Str} {once : Nat → Nat → Prop} {e : Nat} : ∀ {rs : List (Nat × Nat × Str)} {i : Nat}, OkP x.cps.toList once i (rs.map partT) → (rs.map (costE (e : Nat))).sum = ((costP e (rs.map partT) : Nat) : Int)
  | [], _, _ => rfl
  | (g, t, z) :: rs, i, ⟨h1, h2, h3, h4, h5⟩ => by
    have lz : z.cps.toList.length = z.length := Array.length_toList
    rw [List.map_cons, List.sum_cons, cost_sum (rs := rs) h5]
    have h2 : g < t := h2
    show ((t : Int) - (g : Int) + (z.length : Nat) + (e : Nat)) + _ = (((e + (t - g) + z.cps.toList.length + costP e (rs.map partT)) : Nat) : Int)
    omega
structure Told (x y : Str) (e : Nat) (rs : List (Nat × Nat × Str)) : Prop where
  ok : OkR x.length 0 rs
  all : ∀ r ∈ rs, Ltr r.2.2 ∧ r.2.2.length ≤ y.length ∧ twB x r.1 r.2.1 = false
  put : putH x 0 rs "" = y
  cost : (rs.map (costE (e : Nat))).sum = ((kX x y e x.length y.length : Nat) : Int)
  nil : rs = [] ↔ x = y
theorem told_of {x y : Str} {e : Nat} {rs : List (Nat × Nat × Str)} (ly : Ltr y) (h : PartS x y e 0 0 (kX x y e x.length y.length) rs) : Told x y e rs := by
  have h' : Parts x.cps.toList y.cps.toList (onceX x) e 0 0 (kF x.cps.toList y.cps.toList (onceX x) e x.cps.toList.length y.cps.toList.length) (rs.map partT) := by
    rw [Array.length_toList, Array.length_toList]
    exact h
  obtain ⟨o1, o2, o3⟩ := h'.ok
  obtain ⟨q1, q2⟩ := okr_of o1
  have al := parts_let h'
  refine ⟨q1, fun r hr => ?_, ?_, ?_, ?_⟩
  · obtain ⟨a1, a2⟩ := al (partT r) (List.mem_map.mpr ⟨r, hr, rfl⟩)
    refine ⟨fun c hc => ly c (a1 c hc), ?_, q2 r hr⟩
    have e1 : r.2.2.cps.toList.length = r.2.2.length := Array.length_toList
    have e2 : y.cps.toList.length = y.length := Array.length_toList
    have a2 : r.2.2.cps.toList.length ≤ y.cps.toList.length := a2
    omega
  · refine str_ext ?_
    rw [putH_done o1, o2]
    rfl
  · rw [cost_sum o1, ← o3, Array.length_toList, Array.length_toList]
    rfl
  · have := parts_same h'
    rw [List.map_eq_nil_iff] at this
    exact this.trans ⟨fun z => str_ext z, fun z => by rw [z]⟩
theorem kX_lt {x y : Str} {e : Nat} (no : ¬ (x.length = 0 ∧ ¬ y.length = 0)) : kX x y e x.length y.length < beyond x.cps.toList y.cps.toList e ∧ WayF x.cps.toList y.cps.toList (onceX x) e x.length y.length (kX x y e x.length y.length) := by
  obtain ⟨c, hc⟩ := way_any (e := e) no
  have l := Nat.lt_of_le_of_lt ((kF_least _ _).le _ hc) (way_below hc)
  exact ⟨l, (kF_least _ _).is l⟩
theorem best_is {x y : Str} {e : Nat} (hx : x.length ≤ 8) (hy : y.length ≤ 8) (he : e ≤ 1000) (no : ¬ (x.length = 0 ∧ ¬ y.length = 0)) : bestV x y e = .int (kX x y e x.length y.length : Nat) ∧ kX x y e x.length y.length < 1000000 := by
  obtain ⟨l, wy⟩ := kX_lt (e := e) no
  have lx : x.cps.toList.length = x.length := Array.length_toList
  have ly : y.cps.toList.length = y.length := Array.length_toList
  have lb : beyond x.cps.toList y.cps.toList e ≤ 17 * 1001 := by
    unfold beyond
    rw [lx, ly]
    exact Nat.mul_le_mul (by omega) (by omega)
  have eb : bF x y e 0 0 = kX x y e x.length y.length := by
    have fe : WayB x.cps.toList y.cps.toList (onceX x) e 0 0 = WayF x.cps.toList y.cps.toList (onceX x) e x.length y.length := funext fun c => propext (by rw [← way_both, lx, ly])
    unfold bF
    rw [fe]
    exact lst_two wy (by omega) l
  unfold bestV
  rw [eb, if_pos (by omega)]
  exact ⟨rfl, by omega⟩
theorem best_no {x y : Str} {e : Nat} (no : x.length = 0 ∧ ¬ y.length = 0) : bestV x y e = .non := by
  have lx : x.cps.toList.length = x.length := Array.length_toList
  have ly : y.cps.toList.length = y.length := Array.length_toList
  unfold bestV
  rw [if_neg fun l => ?_]
  have w := (bF_least x y e 0 0).is l
  rw [← way_both, lx, ly] at w
  exact way_none no w
end Vk
set_option Elab.async false
set_option maxRecDepth 100000
set_option linter.all false
set_option maxHeartbeats 4000000
namespace Vk
open PySem PySem.Spec PyProof.Rows L2
/-! ## calls with values of the def's own, and with arguments of both kinds -/
structure CalD (P : Program) (w : World) (K : PySem.W.Frag) (mg : Str → Option Value) (base : Heap) (CX : CXT) (k : Nat) (x : Str) (sp : Sp) (dv : List V) : Prop where
  ex : ∃ (f : Addr) (fd : FuncData) (ps : List Str) (ds : List Value), FnG P w K mg base CX k f fd ps sp ∧ mg x = some (.ref f) ∧ PySem.W.keepIn K (.ref f) = true ∧ Vals dv ds ∧ Binds K fd ps ds
structure CalM (P : Program) (w : World) (K : PySem.W.Frag) (mg : Str → Option Value) (base : Heap) (CX : CXT) (k : Nat) (x : Str) (sp : Sp) (m : Nat) (ks : List Str) : Prop where
  ex : ∃ (f : Addr) (fd : FuncData) (ps : List Str), FnG P w K mg base CX k f fd ps sp ∧ mg x = some (.ref f) ∧ PySem.W.keepIn K (.ref f) = true ∧
    ∀ (s : Shared) (us ws : List Value), K.In s.heap → us.length = m → ws.length = ks.length → BindsTo s fd ⟨us, ks.zip ws⟩ (ps.zip (us ++ ws))
def tCallM (m n : Nat) (sp : Sp) (E : XK) (ta tk : TA) : TE := fun σ H Q => ta σ H fun vs H1 => vs.length = m ∧ tk σ H1 fun ws H2 => ws.length = n ∧ sp (vs ++ ws) H2 Q E
section
variable {X : Cx} {CX : CXT} {j k m : Nat} {sp : Sp} {E : XK} {x : Str} {p pos : Pos} {e : Expr} {es : List Expr} {t ta tk : TA} {dv : List V} {kws : List Keyword} {ks : List Str}
theorem pe_cD (c : CalD X.prog X.w X.K X.mg X.base CX k x sp dv) (hg : X.A.guards = some []) (hr : Room j X.A) (hk : k ≤ j) (hx : Passes CX X E) (ha : PA X (e :: es) t) (gl : Gl X x := by rfl)
    (hdb : (x == ("__debug__" : Str)) = false := by decide) (he : starEach (e :: es) X.env = (false, eval e X.env) :: starEach es X.env := by rfl) (hpl : (backTo pos (starEach es X.env)).any (·.1) = false := by rfl) :
    PE X (.Call (.Name x p) (e :: es) [] pos) (tCall sp dv E t) := by
  obtain ⟨f, fd, ps, ds, F, hm, kp, rd, hb⟩ := c.ex
  refine ⟨fun pins s σ H Q I h => wpAny_Call_Name_kw (ld_glob I gl hm (PySem.W.callWith_K (h₀ := X.base) I.ok.mod.kin kp (thn (ha.run pos pins s σ H _ I h) fun us s1 hh => ?_) he hpl) hdb)⟩
  obtain ⟨vs, H1, I1, r, q⟩ := hh
  have rr : Vals (vs ++ dv) (us ++ ds) := r.append rd
  have hl : (us ++ ds).length = ps.length := rr.length.symm.trans (F.len _ _ _ _ q)
  refine ⟨I1.kIn, wpAny_call (codeAny_mono (F.run X.A X.stack s1 H1 ⟨us, []⟩ (us ++ ds) (vs ++ dv) Q E hg (hr.mono hk) I1.env0 (hb s1 us I1.kIn hl) rr q) (fun res s2 hq => ?_))⟩
  match res, hq with
  | .error e, hq => exact hx pins σ H1 s1 e s2 I1 hq
  | .ok (.ret u), hq => exact I1.after hq
  | .ok .next, hq => exact hq.elim
  | .ok .brk, hq => exact hq.elim
  | .ok .cont, hq => exact hq.elim
theorem pe_cM (c : CalM X.prog X.w X.K X.mg X.base CX k x sp m ks) (hg : X.A.guards = some []) (hr : Room j X.A) (hk : k ≤ j) (hx : Passes CX X E) (ha : PA X (e :: es) ta) (hkw : PK X kws tk) (gl : Gl X x := by rfl)
    (hall : (backToKw pos (keywordEach kws X.env)).all (·.1.isSome) = true := by rfl) (hks : (backToKw pos (keywordEach kws X.env)).filterMap (·.1) = ks := by rfl) (hdb : (x == ("__debug__" : Str)) = false := by decide)
    (hpl : ((backTo pos (starEach (e :: es) X.env)).any (·.1) || (backToKw pos (keywordEach kws X.env)).any (·.1.isNone)) = false := by rfl) (he : starEach (e :: es) X.env = (false, eval e X.env) :: starEach es X.env := by rfl) :
    PE X (.Call (.Name x p) (e :: es) kws pos) (tCallM m ks.length sp E ta tk) := by
  obtain ⟨f, fd, ps, F, hm, kp, hb⟩ := c.ex
  refine ⟨fun pins s σ H Q I h => wpAny_Call_Name_kw (ld_glob I gl hm (PySem.W.callWith_KW (h₀ := X.base) I.ok.mod.kin kp hall (thn (ha.run pos pins s σ H _ I h) fun us s1 hh => ?_) hpl he) hdb)⟩
  obtain ⟨vs, H1, I1, r1, l1, q1⟩ := hh
  refine thn (hkw.run pos pins s1 σ H1 _ I1 q1) fun ws s2 hh2 => ?_
  obtain ⟨zs, H2, I2, r2, l2, q2⟩ := hh2
  refine ⟨I2.kIn, ?_⟩
  rw [hks]
  refine wpAny_call (codeAny_mono (F.run X.A X.stack s2 H2 ⟨us, ks.zip ws⟩ (us ++ ws) (vs ++ zs) Q E hg (hr.mono hk) I2.env0 (hb s2 us ws I2.kIn (r1.length.symm.trans l1) (r2.length.symm.trans l2)) (r1.append r2) q2) (fun res s3 hq => ?_))
  match res, hq with
  | .error e, hq => exact hx pins σ H2 s2 e s3 I2 hq
  | .ok (.ret u), hq => exact I2.after hq
  | .ok .next, hq => exact hq.elim
  | .ok .brk, hq => exact hq.elim
  | .ok .cont, hq => exact hq.elim
end
section
variable {K : PySem.W.Frag} {x y qual : Str} {st : Stmt} {f : Addr} {fd : FuncData} {ps ks : List Str} {m : Nat}
theorem _root_.L2.Fun.kwm (F : Fun K x qual st f fd)
    (h : ∀ (kV doc pm : Value) (an : Option Addr) (cdv ct : Value) (us ws : List Value), us.length = m → ws.length = ks.length → bindArgs (PySem.W.fnOf x qual (defArgs st) (defBody st) (defScope st) .none kV doc pm an cdv ct) ⟨us, ks.zip ws⟩ = pure (ps.zip (us ++ ws))) :
    ∀ (s : Shared) (us ws : List Value), K.In s.heap → us.length = m → ws.length = ks.length → BindsTo s fd ⟨us, ks.zip ws⟩ (ps.zip (us ++ ws)) := by
  obtain ⟨oc, od, kV, doc, pm, an, cdv, ct, osl, rfl, lk, hcd⟩ := F.ex
  exact fun s us ws _ h1 h2 => .of_eq (h kV doc pm an cdv ct us ws h1 h2)
end
end Vk
set_option Elab.async false
set_option maxRecDepth 100000
set_option linter.all false
set_option maxHeartbeats 4000000
namespace Vk
open PySem PySem.Spec PyProof.Rows L2 StX
section
variable {P : Program} {w : World} {K : PySem.W.Frag} {mg : Str → Option Value} {base : Heap}
theorem shaped_tup {ds : List PyData} {n : Nat} (h1 : ∀ d ∈ ds, PyData.canLay0 d = true) (h2 : ∀ d ∈ ds, d.depth ≤ n) (hn : n ≤ 20) : SeqAt.shaped (.tuple ds) = true := by
  unfold SeqAt.shaped
  have e1 : PyData.canLay0 (.tuple ds) = true := canAll_of ds h1
  have e2 : PyData.depth (.tuple ds) ≤ 21 := Nat.succ_le_succ (Nat.le_trans (depthAll_const ds n h2) hn)
  rw [e1]
  simp
  omega
theorem rw3_dp {K : PySem.W.Frag} {H : Hp} : ∀ {xs : List V} {rs : List (Nat × Nat × Str)}, Rw3 H xs rs → DpAll K H xs (rs.map rowD)
  | _, _, .nil => .nil
  | _, _, .cons a t => .cons (by
      obtain ⟨u, rfl, h⟩ := a
      exact .tup (SqT.of h) (.cons (.int _) (.cons (.int _) (.cons (.str _) .nil)))) (rw3_dp t)
theorem rows_shaped {rs : List (Nat × Nat × Str)} (ok : ∀ r ∈ rs, PyData.strOk r.2.2 = true) : SeqAt.shaped (.tuple (rs.map rowD)) = true := by
  refine shaped_tup (n := 1) (fun d hd => ?_) (fun d hd => ?_) (by decide)
  · obtain ⟨r, hr, rfl⟩ := List.mem_map.mp hd
    show (true && (true && (PyData.strOk r.2.2 && true))) = true
    rw [ok r hr]
    rfl
  · obtain ⟨r, _, rfl⟩ := List.mem_map.mp hd
    exact Nat.le_of_eq rfl
theorem rows_nil (rs : List (Nat × Nat × Str)) : PyData.eqv (.tuple (rs.map rowD)) (.tuple []) = rs.isEmpty := by
  match rs with
  | [] => rfl
  | r :: t => rfl
theorem showy_str {y : Str} {n : Nat} (h : y.length ≤ n) (ok : PyData.strOk y = true) : Showy (.str y) 0 (10 * n + 2) := by
  refine ⟨by simp [PyData.showable], by simp [PyData.hasDict], by simp [PyData.depth], ?_⟩
  have h2 : y.cps.all (· < 0x110000) = true := ok
  rw [Array.all_eq_true_iff_forall_mem] at h2
  have q := StrLaws.reprText_len y (fun c hc => by
    have := h2 c (by simpa using hc)
    have : c < 0x110000 := by simpa using this
    exact Nat.lt_trans this (by decide))
  show (reprText y).length ≤ 10 * n + 2
  omega
theorem rowD_showy {r : Nat × Nat × Str} (h1 : r.1 ≤ 100) (h2 : r.2.1 ≤ 100) (h3 : r.2.2.length ≤ 60) (ok : PyData.strOk r.2.2 = true) : Showy (rowD r) 1 2000 := by
  have si : ∀ {j : Nat}, j ≤ 100 → Showy (.int (j : Nat)) 0 602 := fun {j} h => (Showy.int (show ((j : Nat) : Int).natAbs < 10 ^ 100 from Nat.lt_of_le_of_lt h (by decide +kernel))).mono (Nat.le_refl _) (by decide)
  refine (Showy.tuple (k := 0) (n := 602) fun d hd => ?_).mono (Nat.le_refl _) (by show 3 * (602 + 2) + 2 ≤ 2000; decide)
  simp only [List.mem_cons, List.not_mem_nil, or_false] at hd
  rcases hd with rfl | rfl | rfl
  · exact si h1
  · exact si h2
  · exact showy_str h3 ok
theorem rows_showy {rs : List (Nat × Nat × Str)} (hl : rs.length ≤ 100) (h : ∀ r ∈ rs, r.1 ≤ 100 ∧ r.2.1 ≤ 100 ∧ r.2.2.length ≤ 60 ∧ PyData.strOk r.2.2 = true) : Showy (.tuple (rs.map rowD)) 2 210000 := by
  refine (Showy.tuple (k := 1) (n := 2000) fun d hd => ?_).mono (Nat.le_refl _) (by rw [List.length_map]; omega)
  obtain ⟨r, hr, rfl⟩ := List.mem_map.mp hd
  have q := h r hr
  exact rowD_showy q.1 q.2.1 q.2.2.1 q.2.2.2
theorem rowG_row {x : Str} {l : Nat} {r : Nat × Nat × Str} (h1 : l ≤ r.1) (h2 : r.1 < r.2.1) (h3 : r.2.1 ≤ x.length) (h4 : isT (.str r.2.2) = true) (h5 : twB x r.1 r.2.1 = false) : rowG x l (rowD r) = some r := by
  have e := row3_all (x := x) (l := l) (i := ((r.1 : Nat) : Int)) (j := ((r.2.1 : Nat) : Int)) (n := r.2.2) (by omega) (by omega) (by omega) h4
  rw [Int.toNat_natCast, Int.toNat_natCast, h5] at e
  exact e
theorem fault_rows2 {x : Str} : ∀ {rs : List (Nat × Nat × Str)} {l i : Nat}, OkR x.length l rs → (∀ r ∈ rs, isT (.str r.2.2) = true ∧ twB x r.1 r.2.1 = false) → faultG x (rs.map rowD) l i = none
  | [], _, _, _, _ => rfl
  | r :: t, l, i, ⟨h1, h2, h3, h4⟩, q => by
    have q1 := q r List.mem_cons_self
    have e := rowG_row h1 h2 h3 q1.1 q1.2
    rw [List.map_cons, faultG, e]
    exact fault_rows2 h4 fun r' hr => q r' (List.mem_cons_of_mem _ hr)
theorem fault_rows {x : Str} {rs : List (Nat × Nat × Str)} (ok : OkR x.length 0 rs) (q : ∀ r ∈ rs, isT (.str r.2.2) = true ∧ twB x r.1 r.2.1 = false) : faultD x (.tuple (rs.map rowD)) = none := fault_rows2 ok q
theorem elg_rows {rs : List (Nat × Nat × Str)} (hl : rs.length ≤ 100) (h : ∀ r ∈ rs, r.2.2.length ≤ 1000 ∧ PyData.strOk r.2.2 = true) : ElG (.tuple (rs.map rowD)) := fun ds z => by
  cases z
  refine ⟨by rw [List.length_map]; exact hl, fun e he => ?_⟩
  obtain ⟨r, hr, rfl⟩ := List.mem_map.mp he
  intro l z a ha
  cases z
  simp only [List.mem_cons, List.not_mem_nil, or_false] at ha
  rcases ha with rfl | rfl | rfl
  · trivial
  · trivial
  · exact h r hr
theorem ne_bl {a b : Bool} : (!decide (V.bl a = V.bl b)) = (a != b) := by
  cases a <;> cases b <;> decide
theorem int_non {i : Int} : decide (V.int i = V.non) = false := decide_eq_false nofun
theorem ref_non {a : Addr} : decide (V.ref a = V.non) = false := decide_eq_false nofun
theorem non_non : decide (V.non = V.non) = true := decide_eq_true rfl
theorem no_by {x y : Str} {σ : L2.St} {H : Hp} {Q : VK} {n m : Nat} (h1 : σ[n]? = some (some (.str x))) (h2 : σ[m]? = some (some (.str y))) (h : Q (.bl (decide (x.length = 0 ∧ ¬ y.length = 0))) H) : tAndV (tOp rEq (tVar n) (tC (.str ""))) (tOp rNe (tVar m) (tC (.str ""))) σ H Q := by
  refine andV_by (p := x.length = 0) (q := ¬ y.length = 0) (fun Q' q => ⟨_, h1, rfl, ?_⟩) (fun Q' q => ⟨_, h2, rfl, ?_⟩) h
  · rw [strE_d]
    exact q
  · rw [strE_d, ← decide_not]
    exact q
theorem ltr_aaab : Ltr "aaab" := by
  unfold Ltr
  decide +kernel
theorem once_aaaa : ∀ g < 5, ∀ t < 5, g < t → twB "aaaa" g t = false → g = 0 ∧ t = 4 := by decide +kernel
theorem told_aaab {rs : List (Nat × Nat × Str)} (h : Told "aaaa" "aaab" 0 rs) : rs = [(0, 4, (Str.ofString "aaab"))] := by
  have l4 : ("aaaa" : Str).length = 4 := by decide +kernel
  match rs, h with
  | [], h => exact absurd (h.nil.mp rfl) (by decide +kernel)
  | (g, t, z) :: rest, h =>
    obtain ⟨o1, o2, o3, o4⟩ := h.ok
    rw [l4] at o3 o4
    obtain ⟨_, _, a3⟩ := h.all _ List.mem_cons_self
    have o2 : g < t := o2
    have o3 : t ≤ 4 := o3
    obtain ⟨rfl, rfl⟩ := once_aaaa g (by omega) t (by omega) o2 a3
    have re : rest = [] := by
      match rest, o4 with
      | [], _ => rfl
      | (g2, t2, z2) :: _, ⟨p1, p2, p3, _⟩ =>
        have p1 : 4 ≤ g2 := p1
        have p2 : g2 < t2 := p2
        have p3 : t2 ≤ 4 := p3
        omega
    subst re
    have put := congrArg (fun s : Str => s.cps.toList) h.put
    have put : (("" ++ cutS "aaaa" (some ((0 : Nat) : Int)) (some ((0 : Nat) : Int)) ++ z) ++ cutS "aaaa" (some ((4 : Nat) : Int)) none : Str).cps.toList = ("aaab" : Str).cps.toList := put
    rw [app_list, app_list, app_list, cut_from, cut_mid (Nat.le_refl _) (Nat.zero_le _)] at put
    have e1 : ("" : Str).cps.toList = [] := rfl
    have e2 : ("aaaa" : Str).cps.toList.drop 4 = [] := by decide +kernel
    rw [e1, e2, List.append_nil, Nat.sub_self, List.take_zero, List.append_nil, List.nil_append] at put
    rw [str_ext put]
def spLaw (K : PySem.W.Frag) : Sp := fun vs H Q _ => ∃ (a : Addr) (ns : List Int), vs = [.ref a] ∧ SqL K H a (ns.map V.int) ∧ ns.length ≤ 63 ∧ ∀ H', Q (.bl true) H'
abbrev s_law : Stmt := top 40
theorem sc_law : FnScope ["_law_script", "_law_pen_here", "_law_turn", "_law_signs_here", "_law_here", "_law_away", "_law_extra", "_law_due", "_law_told"] ["_law_script"] (defScope s_law) := ⟨rfl, rfl, rfl, by decide +kernel, rfl, by decide +kernel, by decide +kernel⟩
theorem b_law {f : Addr} {fd : FuncData} (F : Fun K "law" "law" s_law f fd) (T : Txt mg) (c_lpen : CalG P w K mg base CX0 1 "_law_pen" (spPen K)) (c_lfew : CalG P w K mg base CX0 3 "_law_few" spFew) (c_ldraw : CalG P w K mg base CX0 1 "_law_draw" spDraw) (c_lpick : CalG P w K mg base CX0 2 "_law_pick" (spPick K)) (c_lnpair : CalG P w K mg base CX0 5 "_law_npair" spNpair) (c_lnbest : CalG P w K mg base CX0 3 "_law_nbest" spNbest) (k_cheapest : CalK P w K mg base CX0 5 "cheapest" spCheap ["each", "other", "one"] List.reverse) (d_cheapest : CalD P w K mg base CX0 5 "cheapest" spCheap [.int 0]) (c_lnfault : CalG P w K mg base CX0 3 "_law_nfault" spFirst) (c_lnput : CalG P w K mg base CX0 1 "_law_nput" spPut) (c_lncost : CalG P w K mg base CX0 1 "_law_ncost" spNcost) (c_is_exchange : CalG P w K mg base CX0 5 "is_exchange" spIsEx) (q_cost_of : CalM P w K mg base CX0 1 "cost_of" spCost 1 ["each"]) : FnG P w K mg base CX0 6 f fd ["_law_script"] (spLaw K) := by
  refine okG0 F sc_law (fun vs H Q E h => ?_) (fun cdv A outer s H vs Q E hg hr h => ?_)
  · obtain ⟨a, ns, rfl, _⟩ := h
    rfl
  · have hu := hu_of hr
    have hu64 := hr.units
    obtain ⟨a, ns, rfl, hS, hlen, k⟩ := h
    refine ⟨_, (pss_cons (ps_set (i := 1) sc_law.nd rfl (Or.inl rfl) (pe_cG c_lpen hg hr (by decide) pass0 (pa_cons (pv 0) pa_nil)))
      (pss_cons (ps_for PassesOwn.never rfl (pi_range1 rfl T.range (pa_cons (pe_op op_add pe_int (pe_callB (call_min2 rfl) (by rfl) T.min (by decide +kernel) (pa_cons pe_int (pa_cons (pe_callB call_len (by rfl) T.len (by decide +kernel) (pa_cons (pv 0) pa_nil)) pa_nil)))) pa_nil)) (pg_name (i := 2) sc_law.nd rfl (Or.inl rfl)) (pss_cons (ps_set (i := 3) sc_law.nd rfl (Or.inl rfl) (pe_cG c_lfew hg hr (by decide) pass0 (pa_cons (pv 1) pa_nil)))
      (pss_cons (ps_asg (pe_cG c_lnpair hg hr (by decide) pass0 (pa_cons (pv 1) (pa_cons (pv 3) (pa_cons pe_int pa_nil)))) (pg_tup rfl (pgs_cons (pg_name (i := 4) sc_law.nd rfl (Or.inl rfl)) (pgs_cons (pg_name (i := 5) sc_law.nd rfl (Or.inl rfl)) pgs_nil))))
      (pss_cons (ps_set (i := 6) sc_law.nd rfl (Or.inl rfl) (pe_cG c_lpick hg hr (by decide) pass0 (pa_cons (pv 1) (pa_cons (pe_lst (pa_cons pe_int (pa_cons pe_int (pa_cons pe_int (pa_cons pe_int (pa_cons pe_int (pa_cons (pe_cG c_ldraw hg hr (by decide) pass0 (pa_cons (pv 1) (pa_cons pe_int pa_nil))) pa_nil))))))) pa_nil))))
      (pss_cons (ps_par (i := 7) (j := 8) (by rfl) sc_law.nd rfl rfl (by decide) rfl rfl (pa_cons (pe_cG c_lnbest hg hr (by decide) pass0 (pa_cons (pv 4) (pa_cons (pv 5) (pa_cons (pv 6) pa_nil)))) (pa_cons (pe_kw k_cheapest hg hr (by decide) pass0 (pk_cons (pv 6) (pk_cons (pv 5) (pk_cons (pv 4) pk_nil)))) pa_nil)) (by rfl))
      (pss_cons (ps_if (PW.pt (pw_or (pt_cmpR op_ne (pe_cmpR op_isN (pv 8) pe_non (nomark _)) (pe_cmpR op_isN (pv 7) pe_non (nomark _)) (nomark _)) (pw_or1 (pt_cmpR op_ne (pe_cmpR op_isN (pv 8) pe_non (nomark _)) (pe_and (pe_cmpR op_eq (pv 4) pe_str (nomark _)) (pe_one (pe_cmpR op_ne (pv 5) pe_str (nomark _)))) (nomark _))))) (pss_one (ps_ret pe_bl)) pss_nil)
      (pss_cons (ps_if (pt_cmpR op_notN (pv 8) pe_non (nomark _)) (pss_cons (ps_if (PW.pt (pw_or (pt_cmpR op_notN (pe_cG c_lnfault hg hr (by decide) pass0 (pa_cons (pv 4) (pa_cons (pv 8) pa_nil))) pe_non (nomark _)) (pw_or (pt_cmpR op_ne (pe_cG c_lnput hg hr (by decide) pass0 (pa_cons (pv 4) (pa_cons (pv 8) pa_nil))) (pv 5) (nomark _)) (pw_or1 (pt_cmpR op_ne (pe_cG c_lncost hg hr (by decide) pass0 (pa_cons (pv 8) (pa_cons (pv 6) pa_nil))) (pv 7) (nomark _)))))) (pss_one (ps_ret pe_bl)) pss_nil)
      (pss_cons (ps_if (PW.pt (pw_or (pt_not (pt_val (pe_cG c_is_exchange hg hr (by decide) pass0 (pa_cons (pv 4) (pa_cons (pv 5) (pa_cons (pv 8) pa_nil)))))) (pw_or1 (pt_cmpR op_ne (pe_callB (Vk.call_reprD hg hu64) (by rfl) T.repr (by decide +kernel) (pa_cons (pe_cM q_cost_of hg hr (by decide) pass0 (pa_cons (pv 8) pa_nil) (pk_cons (pv 6) pk_nil)) pa_nil)) (pe_callB (Vk.call_reprD hg hu64) (by rfl) T.repr (by decide +kernel) (pa_cons (pv 7) pa_nil)) (nomark _))))) (pss_one (ps_ret pe_bl)) pss_nil)
      (pss_one (ps_if (pt_cmpR op_ne (pe_cmpR (op_eqD hu64) (pv 8) (pe_tup pa_nil) (nomark _)) (pe_cmpR op_eq (pv 4) (pv 5) (nomark _)) (nomark _)) (pss_one (ps_ret pe_bl)) pss_nil)))) pss_nil)
      (pss_one (ps_if (PW.pt (pw_and (pt_cmpR op_eq (pv 6) pe_int (nomark _)) (pw_and1 (pt_cmpR op_ne (pe_callB (Vk.call_reprD hg hu64) (by rfl) T.repr (by decide +kernel) (pa_cons (pv 8) pa_nil)) (pe_callB (Vk.call_reprD hg hu64) (by rfl) T.repr (by decide +kernel) (pa_cons (pe_cD d_cheapest hg hr (by decide) pass0 (pa_cons (pv 4) (pa_cons (pv 5) pa_nil))) pa_nil)) (nomark _))))) (pss_one (ps_ret pe_bl)) pss_nil)))))))))
      (pss_one (ps_ret (pe_and (pe_cmpR op_isN (pe_cD d_cheapest hg hr (by decide) pass0 (pa_cons pe_str (pa_cons pe_str pa_nil))) pe_non (nomark _)) (pe_and (pe_cmpR (op_eqD hu64) (pe_cD d_cheapest hg hr (by decide) pass0 (pa_cons pe_str (pa_cons pe_str pa_nil))) (pe_tup pa_nil) (nomark _)) (pe_one (pe_cmpR (op_eqD hu64) (pe_cD d_cheapest hg hr (by decide) pass0 (pa_cons pe_str (pa_cons pe_str pa_nil))) (pe_tup (pa_cons (pe_tup (pa_cons pe_int (pa_cons pe_int (pa_cons pe_str pa_nil)))) pa_nil)) (nomark _))))))))), ?_⟩
    refine ⟨_, rfl, a, ns, rfl, hS, fun p pc H1 hp0 Pn0 s1 => ?_⟩
    refine ⟨_, rfl, _, _, rfl, .inl ⟨_, s1.seq hS, rfl⟩, _, _, rfl, _, _, rfl, rfl, _, rfl, ?_, ?_, ?_⟩
    · split <;> omega
    · split <;> omega
    refine for_range (lo := 0) (fun i σ H' => ∃ o2 o3 o4 o5 o6 o7 o8 : Option V, σ = [some (.ref a), some (.ref p), o2, o3, o4, o5, o6, o7, o8] ∧ Pen H' p pc (400 * i)) ?_ ?_ ?_
    · exact ⟨_, _, _, _, _, _, _, rfl, Pn0⟩
    · rintro i σ H2 hi ⟨o2, o3, o4, o5, o6, o7, o8, rfl, P2⟩
      have hi16 : i ≤ 16 := by
        have : i < 17 := by
          revert hi
          split <;> omega
        omega
      refine ⟨_, rfl, p, pc, 400 * i, rfl, P2, by omega, fun sg H3 fsg P3 x3 => ?_⟩
      refine ⟨_, rfl, _, rfl, p, pc, sg, 8, _, rfl, fsg, by decide, P3, by omega, fun x y t H4 hx ltx hy lty ht P4 x4 => ⟨t, _, rfl, SqT.of ht, rfl, _, _, rfl, _, _, rfl, rfl, ?_⟩⟩
      refine ⟨_, rfl, _, rfl, p, pc, 9, _, rfl, by decide, by decide, P4, by omega, fun dr H5 d0 d1 P5 x5 => ⟨by show 6 ≤ sizeLine; decide, fun b hb => ?_⟩⟩
      have sb := same_new (o := .lst [.int 0, .int 0, .int 1, .int 2, .int 100, .int dr]) hb
      refine ⟨p, pc, _, _, _, rfl, .lst (SqL.of upd_same), (fun z => by cases z), by show 6 ≤ 1000; decide, P5.stay sb, by omega, fun v H6 hv P6 x6 => ?_⟩
      have ev : ∃ e : Nat, v = .int (e : Nat) ∧ e ≤ 100 := by
        simp only [List.mem_cons, List.not_mem_nil, or_false] at hv
        rcases hv with rfl | rfl | rfl | rfl | rfl | rfl
        · exact ⟨0, rfl, by omega⟩
        · exact ⟨0, rfl, by omega⟩
        · exact ⟨1, rfl, by omega⟩
        · exact ⟨2, rfl, by omega⟩
        · exact ⟨100, rfl, by omega⟩
        · exact ⟨dr.toNat, congrArg V.int (by omega), by omega⟩
      obtain ⟨e, rfl, he⟩ := ev
      refine ⟨_, rfl, _, rfl, _, rfl, x, y, e, rfl, hx, hy, fun H7 s7 => ?_⟩
      refine ⟨_, rfl, _, rfl, _, rfl, rfl, x, y, e, rfl, by omega, by omega, by omega, fun no => ?_, fun yes t xs rs es H8 el le wk ht8 rw8 pt8 lt8 ln8 s8 => ?_⟩
      · have bn := best_no (e := e) no
        refine ⟨_, _, rfl, ?_⟩
        rw [bn]
        dsimp only
        refine or_by (p := False) (q := False) (fun k' q => ⟨_, rfl, rfl, _, rfl, rfl, rfl, _, rfl, ?_⟩) (fun _ k' q => ⟨_, rfl, rfl, no_by rfl rfl ⟨rfl, _, rfl, ?_⟩⟩) ?_
        · rw [ne_bl, non_non]
          exact q
        · rw [ne_bl, non_non, decide_eq_true no]
          exact q
        rw [decide_eq_false (show ¬ (False ∨ False) from fun z => z.elim id id)]
        refine iteF ?_
        refine ⟨_, rfl, rfl, _, rfl, ?_⟩
        rw [non_non]
        refine iteF ?_
        dsimp only [tNext]
        have e0B : decide (V.int ((e : Nat) : Int) = V.int 0) = decide (e = 0) := decide_eq_decide.mpr ⟨fun z => by have := V.int.inj z; omega, fun z => by rw [z]; rfl⟩
        refine and_by (p := e = 0) (q := False) (fun k' q => ⟨_, rfl, rfl, _, rfl, by rw [e0B]; exact q⟩) (fun e0 k' q => ?_) ?_
        · refine ⟨_, rfl, _, .none, rfl, .non, rfl, rfl, by decide, by decide +kernel, ?_⟩
          refine ⟨_, rfl, _, rfl, x, y, 0, rfl, by omega, by omega, by omega, fun _ => ?_, fun yes => absurd no yes⟩
          refine ⟨_, .none, rfl, .non, rfl, rfl, by decide, by decide +kernel, rfl, _, rfl, ?_⟩
          rw [show decide (V.str (PyData.shown .none) = V.str (PyData.shown .none)) = true from decide_eq_true rfl]
          exact q
        · rw [decide_eq_false (fun z => z.2)]
          exact iteF ⟨_, _, _, _, _, _, _, rfl, (P6.stay s7).mono (by omega)⟩
      · have tf := told_of lty pt8
        have bi := best_is hx hy (show e ≤ 1000 by omega) yes
        have okm := okR_all tf.ok
        have w8 : ∀ r ∈ rs, r.2.2.length ≤ 8 := fun r hr => Nat.le_trans (tf.all r hr).2.1 hy
        have w100 : ∀ r ∈ rs, r.2.2.length ≤ 100 := fun r hr => Nat.le_trans (w8 r hr) (by decide)
        have w1000 : ∀ r ∈ rs, r.2.2.length ≤ 1000 := fun r hr => Nat.le_trans (w8 r hr) (by decide)
        have fn : faultD x (.tuple (rs.map rowD)) = none := fault_rows tf.ok fun r hr => ⟨lt_isT (tf.all r hr).1, (tf.all r hr).2.2⟩
        have okg : ElG (.tuple (rs.map rowD)) := elg_rows (by omega) fun r hr => ⟨w1000 r hr, lt_ok (tf.all r hr).1⟩
        have okd := rows_shaped (rs := rs) fun r hr => lt_ok (tf.all r hr).1
        have shr : Showy (.tuple (rs.map rowD)) 2 210000 := rows_showy (by omega) fun r hr => ⟨by have := okm r hr; omega, by have := okm r hr; omega, Nat.le_trans (w8 r hr) (by decide), lt_ok (tf.all r hr).1⟩
        have tg8 : Tg H8 (.ref t) (.tuple (rs.map rowD)) := .tup ht8 (rows_ths rw8)
        have x100 : x.length ≤ 100 := by omega
        have P8 := (P6.stay s7).stay s8
        have cost := tf.cost
        have c6 := bi.2
        have big1 : 1000000 < 10 ^ 100 := by decide +kernel
        generalize hc : kX x y e x.length y.length = c at cost c6 bi
        have shc : Showy (.int (c : Nat)) 0 101 := Showy.int (Nat.lt_trans (show ((c : Nat) : Int).natAbs < 1000000 from c6) big1)
        refine ⟨_, _, rfl, ?_⟩
        rw [bi.1]
        dsimp only
        refine or_by (p := False) (q := False) (fun k' q => ⟨_, rfl, rfl, _, rfl, rfl, rfl, _, rfl, ?_⟩) (fun _ k' q => ⟨_, rfl, rfl, no_by rfl rfl ⟨rfl, _, rfl, ?_⟩⟩) ?_
        · rw [ne_bl, ref_non, int_non]
          exact q
        · rw [ne_bl, ref_non, decide_eq_false yes]
          exact q
        rw [decide_eq_false (show ¬ (False ∨ False) from fun z => z.elim id id)]
        refine iteF ?_
        dsimp only [tNext]
        refine seq_mid (fun σ H' => σ = [some (.ref a), some (.ref p), some (.int (0 + (i : Int))), some (.str sg), some (.str x), some (.str y), some (.int (e : Nat)), some (.int (c : Nat)), some (.ref t)] ∧ Same H8 H') (fun D' hD' => ?_) (fun σ H9 hm => ?_)
        · refine ⟨_, rfl, rfl, _, rfl, ?_⟩
          rw [ref_non]
          refine iteT ?_
          refine ⟨_, rfl, _, rfl, .ref t, .tuple (rs.map rowD), x, rfl, tg8, okg, x100, fun H9 s9 => ⟨rfl, _, rfl, ?_⟩⟩
          rw [fn, show decide (fV none = V.non) = true from decide_eq_true rfl]
          refine iteF ?_
          refine ⟨_, rfl, _, rfl, x, t, xs, rs, rfl, x100, s9 _ _ ht8, rw8.keep s9, by omega, w1000, fun H10 s10 => ⟨_, rfl, rfl, _, rfl, ?_⟩⟩
          rw [tf.put, decide_eq_true rfl]
          refine iteF ?_
          have s810 := s9.trans s10
          refine ⟨_, rfl, _, rfl, t, ((e : Nat) : Int), xs, rs, rfl, s810 _ _ ht8, rw8.keep s810, by omega, w100, fun H11 s11 => ⟨_, rfl, rfl, _, rfl, ?_⟩⟩
          rw [cost, decide_eq_true rfl]
          refine iteF ?_
          have s811 := s810.trans s11
          have e1 : ((faultD x (.tuple (rs.map rowD))).isNone && decide (putX x (.tuple (rs.map rowD)) = y)) = true := by
            rw [fn, putX_rows, tf.put, decide_eq_true rfl]
            rfl
          refine ⟨_, rfl, _, rfl, _, rfl, .ref t, .tuple (rs.map rowD), x, y, rfl, tg8.keep s811, okg, x100, fun H12 s12 => ⟨_, rfl, ?_⟩⟩
          rw [e1]
          refine iteF ?_
          have s812 := s811.trans s12
          refine ⟨_, rfl, rfl, _, rfl, rfl, t, ((e : Nat) : Int), xs, rs, rfl, s812 _ _ ht8, rw8.keep s812, by omega, w100, fun H13 s13 => ?_⟩
          rw [cost]
          refine ⟨_, .int (c : Nat), rfl, .int _, shc.sh, shc.nd, Nat.le_trans shc.dp (by decide), Nat.le_trans shc.ln (by decide), ?_⟩
          refine ⟨_, rfl, _, .int (c : Nat), rfl, .int _, shc.sh, shc.nd, Nat.le_trans shc.dp (by decide), Nat.le_trans shc.ln (by decide), rfl, _, rfl, ?_⟩
          rw [decide_eq_true rfl]
          refine iteF ?_
          have s813 := s812.trans s13
          refine ⟨_, rfl, by show 0 ≤ sizeLine; decide, fun u hu => ?_⟩
          have su := same_new (o := .tup []) hu
          have s8u := s813.trans su
          refine ⟨.tuple (rs.map rowD), .tuple [], .tup (SqT.of (s8u _ _ ht8)) (rw3_dp (rw8.keep s8u)), .tup (SqT.of upd_same) .nil, okd, rfl, ?_⟩
          refine ⟨_, rfl, _, rfl, rfl, rfl, _, rfl, ?_⟩
          rw [ne_bl, rows_nil, show rs.isEmpty = decide (V.str x = V.str y) by
            by_cases z : x = y
            · rw [tf.nil.mpr z, z, decide_eq_true rfl]
              rfl
            · rw [decide_eq_false fun q => z (V.str.inj q)]
              have n : rs ≠ [] := fun q => z (tf.nil.mp q)
              match rs, n with
              | [], n => exact absurd rfl n
              | _ :: _, _ => rfl]
          rw [show (decide (V.str x = V.str y) != decide (V.str x = V.str y)) = false by cases decide (V.str x = V.str y) <;> rfl]
          exact iteF (hD' _ _ ⟨rfl, s8u⟩)
        · obtain ⟨rfl, s9⟩ := hm
          have e0B : decide (V.int ((e : Nat) : Int) = V.int 0) = decide (e = 0) := decide_eq_decide.mpr ⟨fun z => by have := V.int.inj z; omega, fun z => by rw [z]; rfl⟩
          refine ⟨_, rfl, rfl, _, rfl, ?_⟩
          rw [e0B]
          by_cases e0 : e = 0
          · subst e0
            rw [decide_eq_true rfl]
            refine iteT ?_
            refine ⟨_, rfl, _, .tuple (rs.map rowD), rfl, .tup (SqT.of (s9 _ _ ht8)) (rw3_dp (rw8.keep s9)), shr.sh, shr.nd, Nat.le_trans shr.dp (by decide), Nat.le_trans shr.ln (by decide), ?_⟩
            refine ⟨_, rfl, _, rfl, x, y, 0, rfl, x100, by omega, by omega, fun no => absurd no yes, fun _ t2 xs2 rs2 es2 H10 el2 le2 wk2 ht2 rw2 _ _ _ s10 => ?_⟩
            obtain rfl := lends_uniq el le el2 le2
            have er : rs2 = rs := by
              have := walk_uniq wk2 wk
              rw [← List.reverse_reverse rs2, this, List.reverse_reverse]
            subst er
            refine ⟨_, .tuple (rs2.map rowD), rfl, .tup (SqT.of ht2) (rw3_dp rw2), shr.sh, shr.nd, Nat.le_trans shr.dp (by decide), Nat.le_trans shr.ln (by decide), rfl, _, rfl, ?_⟩
            rw [decide_eq_true rfl]
            exact iteF ⟨_, _, _, _, _, _, _, rfl, ((P8.stay s9).stay s10).mono (by omega)⟩
          · rw [decide_eq_false e0]
            exact iteF ⟨_, _, _, _, _, _, _, rfl, (P8.stay s9).mono (by omega)⟩
    · rintro σ H2 ⟨o2, o3, o4, o5, o6, o7, o8, rfl, P2⟩
      refine ⟨"", "a", 0, rfl, by decide +kernel, by decide +kernel, by decide, fun _ => ⟨rfl, _, rfl, ?_⟩, fun yes => absurd ⟨rfl, by decide +kernel⟩ yes⟩
      rw [non_non]
      refine iteT ?_
      refine ⟨"", "", 0, rfl, by decide +kernel, by decide +kernel, by decide, fun no => absurd rfl no.2, fun _ t xs rs es H3 _ _ _ ht rw3 pt _ _ s3 => ⟨by show 0 ≤ sizeLine; decide, fun u hu => ?_⟩⟩
      have tf := told_of (fun c hc => by cases hc) pt
      obtain rfl := tf.nil.mpr rfl
      have su := same_new (o := .tup []) hu
      refine ⟨.tuple [], .tuple [], .tup (SqT.of (su _ _ ht)) (rw3_dp (rw3.keep su)), .tup (SqT.of upd_same) .nil, rfl, rfl, _, rfl, ?_⟩
      rw [show PyData.eqv (.tuple []) (.tuple []) = true from rfl]
      refine iteT ?_
      refine ⟨"aaaa", "aaab", 0, rfl, by decide +kernel, by decide +kernel, by decide, fun no => absurd no.1 (by decide +kernel), fun _ t2 xs2 rs2 es2 H4 _ _ _ ht2 rw4 pt2 _ _ s4 => ?_⟩
      have tf2 := told_of ltr_aaab pt2
      obtain rfl := told_aaab tf2
      refine ⟨by show 3 ≤ sizeLine; decide, fun u1 hu1 => ⟨by show 1 ≤ sizeLine; decide, fun u2 hu2 => ?_⟩⟩
      have su1 := same_new (o := .tup [.int 0, .int 4, .str "aaab"]) hu1
      have su2 := same_new (o := .tup [.ref u1]) hu2
      have s12 := su1.trans su2
      refine ⟨.tuple [.tuple [.int 0, .int 4, .str "aaab"]], .tuple [.tuple [.int 0, .int 4, .str "aaab"]], .tup (SqT.of (s12 _ _ ht2)) (rw3_dp (rw4.keep s12)), .tup (SqT.of upd_same) (.cons (.tup (SqT.of (su2 _ _ upd_same)) (.cons (.int _) (.cons (.int _) (.cons (.str _) .nil)))) .nil), by decide +kernel, by decide +kernel, ?_⟩
      rw [show PyData.eqv (.tuple [.tuple [.int 0, .int 4, .str "aaab"]]) (.tuple [.tuple [.int 0, .int 4, .str "aaab"]]) = true from by decide +kernel]
      exact k _
end
end Vk
set_option Elab.async false
set_option maxRecDepth 100000
set_option maxHeartbeats 4000000
set_option linter.all false
namespace Vk
open PySem PySem.Spec PyProof.Rows L2 PySem.W
theorem walkX {l : PySem.W.OpenLaw} {n k : Nat} {q : Program} {loose : List Str} {XP : (Str → Option Value) → Heap → Prop} {YP : World → Heap → Prop} {d : DefRec} {K : Params → PySem.W.Frag} {CX : CXT} {sp : PySem.W.Frag → Sp} {x : Str}
    (hn : l.most = some n) (hn2 : n ≤ sizeLine) (hdf : d.params.defaults = []) (hr : Room k callerA) (hY : ∀ (w : World) (h : Heap), YP w h → (K w.params).In h)
    (F : ∀ (w : World) (mg : Str → Option Value) (fa : Addr) (h : Heap), (K w.params).In h → (∃ s0 mb, PySem.W.Ground q loose [] XP w s0 mg mb h) → mg d.name = some (.ref fa) →
      ∃ fd : FuncData, (∀ (s : Shared) (u : Value), BindsTo s fd ⟨[u], []⟩ [(x, u)]) ∧ ∀ base : Heap, (K w.params).In base → base.Ns mainGlobals mg → FnG l.prog w (K w.params) mg base CX k fa fd [x] (sp (K w.params)))
    (hsp : ∀ (K : PySem.W.Frag) (H : Hp) (a : Addr) (ns : List Int), ns.length ≤ n → Only H → SqL K H a (ns.map V.int) → sp K [.ref a] H (fun v _ => v = .bl true) fun _ _ _ => False)
    (noX : ∀ (H : Hp) (s : Shared) (e : Value) (s2 : Shared), CX [] H s (fun _ _ _ => False) e s2 → False) : PySem.W.WalkO q loose XP YP l.row.toRowW d [] (fun f vs => PySem.call f vs) := by
  refine Att.attach_call hn hdf ?_
  intro w s0 s1 mg mb fa o pm cd doc a vs ns G Y _ _ _ hmg scr hints hlen gens0
  obtain ⟨fd, hb, hF⟩ := F w mg fa _ (hY w _ Y) ⟨s0, mb, G⟩ hmg
  exact lawG (hY w _ Y) G.T.g G.T.b G.T.builtins G.T.nolimit gens0 scr hints (Nat.le_trans hlen hn2) hr hF hb (fun H h1 h2 => hsp _ H a ns hlen h1 h2) (fun H => noX H s1)
end Vk
set_option Elab.async false
set_option maxRecDepth 100000
set_option linter.all false
set_option maxHeartbeats 4000000
namespace Vk
open PySem PySem.Spec PyProof.Rows L2 LamX NdefX StX PySem.VkX
/-- a def with one value of its own for a parameter that is named -/
theorem fund_mk {K : PySem.W.Frag} {x y : Str} {st : Stmt} {f D : Addr} {oc : Value} {od an : Option Addr} {sl : Array (Option Value)} {doc pm cd ct : Value} {i : Int} {tk : Tok}
    (l : K.lookup f = some ⟨oc, od, .func (PySem.W.fnOf x x (defArgs st) (defBody st) (defScope st) .none (.ref D) doc pm an cd ct), sl⟩) (c : PySem.W.codeIn K cd x = true) (k : PySem.W.keepIn K (.ref f) = true)
    (e : PySem.W.nsIn K D y = some (some (.int i tk))) : L2.FunD K x x (defArgs st) (defBody st) (defScope st) [] [(y, .int i)] f (PySem.W.fnOf x x (defArgs st) (defBody st) (defScope st) .none (.ref D) doc pm an cd ct) :=
  ⟨⟨oc, od, .none, .ref D, doc, pm, an, cd, ct, sl, rfl, l, c, .inl ⟨rfl, rfl⟩, .inr ⟨D, rfl, fun q hq => by
    rw [List.mem_singleton.mp hq]
    exact ⟨_, e, tk, rfl⟩⟩⟩, k⟩
structure AtD (K : PySem.W.Frag) (x y : Str) (i : Int) (st : Stmt) (f : Addr) (fd : FuncData) : Prop where
  ns : PySem.W.nsIn K mainGlobals x = some (some (.ref f))
  fn : Fun K x x st f fd
  fd : L2.FunD K x x (defArgs st) (defBody st) (defScope st) [] [(y, .int i)] f fd
theorem atd_mk {K : PySem.W.Frag} {x y : Str} {st : Stmt} {f D : Addr} {oc : Value} {od an : Option Addr} {sl : Array (Option Value)} {doc pm cd ct : Value} {i : Int} {tk : Tok}
    (a : PySem.W.nsIn K mainGlobals x = some (some (.ref f)))
    (l : K.lookup f = some ⟨oc, od, .func (PySem.W.fnOf x x (defArgs st) (defBody st) (defScope st) .none (.ref D) doc pm an cd ct), sl⟩) (c : PySem.W.codeIn K cd x = true) (k : PySem.W.keepIn K (.ref f) = true)
    (e : PySem.W.nsIn K D y = some (some (.int i tk))) : AtD K x y i st f (PySem.W.fnOf x x (defArgs st) (defBody st) (defScope st) .none (.ref D) doc pm an cd ct) := ⟨a, L2.fun_mk l c k, fund_mk l c k e⟩
theorem all {l : PySem.W.OpenLaw} {w : World} {K : PySem.W.Frag} {h : Heap} {mg : Str → Option Value} {fa : Addr} (X : K.In h) (G : h.Ns mainGlobals mg) (hfa : mg "law" = some (.ref fa))
    (d_is_text : ∃ (f : Addr) (fd : FuncData), At K "is_text" s_is_text f fd)
    (d_lsigns : ∃ (f : Addr) (fd : FuncData), At K "_law_signs" s_lsigns f fd)
    (d_lis_text : ∃ (f : Addr) (fd : FuncData), At K "_law_is_text" s_lis_text f fd)
    (d_is_integer : ∃ (f : Addr) (fd : FuncData), At K "is_integer" s_is_integer f fd)
    (d_is_integer_in : ∃ (f : Addr) (fd : FuncData), At K "is_integer_in" s_is_integer_in f fd)
    (d_stands_twice : ∃ (f : Addr) (fd : FuncData), At K "stands_twice" s_stands_twice f fd)
    (d_stands_once : ∃ (f : Addr) (fd : FuncData), At K "stands_once" s_stands_once f fd)
    (d_cost_of : ∃ (f : Addr) (fd : FuncData), At K "cost_of" s_cost_of f fd)
    (d_text_behind : ∃ (f : Addr) (fd : FuncData), At K "text_behind" s_text_behind f fd)
    (d_ldraw : ∃ (f : Addr) (fd : FuncData), At K "_law_draw" s_ldraw f fd)
    (d_lpen : ∃ (f : Addr) (fd : FuncData), At K "_law_pen" s_lpen f fd)
    (d_lpick : ∃ (f : Addr) (fd : FuncData), At K "_law_pick" s_lpick f fd)
    (d_lfew : ∃ (f : Addr) (fd : FuncData), At K "_law_few" s_lfew f fd)
    (d_lword : ∃ (f : Addr) (fd : FuncData), At K "_law_word" s_lword f fd)
    (d_lplaces : ∃ (f : Addr) (fd : FuncData), At K "_law_places" s_lplaces f fd)
    (d_lntext : ∃ (f : Addr) (fd : FuncData), At K "_law_ntext" s_lntext f fd)
    (d_lnonce : ∃ (f : Addr) (fd : FuncData), At K "_law_nonce" s_lnonce f fd)
    (d_lnput : ∃ (f : Addr) (fd : FuncData), At K "_law_nput" s_lnput f fd)
    (d_is_exchange_part : ∃ (f : Addr) (fd : FuncData), At K "is_exchange_part" s_is_exchange_part f fd)
    (d_first_wrong : ∃ (f : Addr) (fd : FuncData), At K "first_wrong" s_first_wrong f fd)
    (d_is_exchange : ∃ (f : Addr) (fd : FuncData), At K "is_exchange" s_is_exchange f fd)
    (d_lis_number : ∃ (f : Addr) (fd : FuncData), At K "_law_is_number" s_lis_number f fd)
    (d_lnfault : ∃ (f : Addr) (fd : FuncData), At K "_law_nfault" s_lnfault f fd)
    (d_lncost : ∃ (f : Addr) (fd : FuncData), At K "_law_ncost" s_lncost f fd)
    (d_least_ends : ∃ (f : Addr) (fd : FuncData), At K "least_ends" s_least_ends f fd)
    (d_openings : ∃ (f : Addr) (fd : FuncData), At K "openings" s_openings f fd)
    (d_price_tables : ∃ (f : Addr) (fd : FuncData), At K "price_tables" s_price_tables f fd)
    (d_window_back : ∃ (f : Addr) (fd : FuncData), At K "window_back" s_window_back f fd)
    (d_has_exchange : ∃ (f : Addr) (fd : FuncData), At K "has_exchange" s_has_exchange f fd)
    (d_lnpair : ∃ (f : Addr) (fd : FuncData), At K "_law_npair" s_lnpair f fd)
    (d_cheapest : ∃ (f : Addr) (fd : FuncData), AtD K "cheapest" "each" 0 s_cheapest f fd)
    (d_lnbest : ∃ (f : Addr) (fd : FuncData), At K "_law_nbest" s_lnbest f fd)
    (d_law : ∃ (f : Addr) (fd : FuncData), At K "law" s_law f fd)
    (z_str : PySem.W.nsIn K mainGlobals "str" = some none)
    (z_tuple : PySem.W.nsIn K mainGlobals "tuple" = some none)
    (z_enumerate : PySem.W.nsIn K mainGlobals "enumerate" = some none)
    (z_bool : PySem.W.nsIn K mainGlobals "bool" = some none)
    (z_sum : PySem.W.nsIn K mainGlobals "sum" = some none)
    (z_max : PySem.W.nsIn K mainGlobals "max" = some none)
    (z_ValueError : PySem.W.nsIn K mainGlobals "ValueError" = some none)
    (z_len : PySem.W.nsIn K mainGlobals "len" = some none)
    (z_list : PySem.W.nsIn K mainGlobals "list" = some none)
    (z_int : PySem.W.nsIn K mainGlobals "int" = some none)
    (z_abs : PySem.W.nsIn K mainGlobals "abs" = some none)
    (z_range : PySem.W.nsIn K mainGlobals "range" = some none)
    (z_min : PySem.W.nsIn K mainGlobals "min" = some none)
    (z_repr : PySem.W.nsIn K mainGlobals "repr" = some none)
    (z_reversed : PySem.W.nsIn K mainGlobals "reversed" = some none)
    (z_isinstance : PySem.W.nsIn K mainGlobals "isinstance" = some none)
    (g_LETTERS : ∃ u, mg "LETTERS" = some u ∧ RelV (.str letS) u)
    : ∃ (fd : FuncData), (∀ (s : Shared) (v : Value), BindsTo s fd ⟨[v], []⟩ [("_law_script", v)]) ∧ ∀ base : Heap, K.In base → base.Ns mainGlobals mg → FnG l.prog w K mg base CX0 6 fa fd ["_law_script"] (spLaw K) := by
  obtain ⟨f_is_text, fd_is_text, A_is_text⟩ := d_is_text
  have m_is_text := PySem.W.mg_of X G A_is_text.ns
  obtain ⟨f_lsigns, fd_lsigns, A_lsigns⟩ := d_lsigns
  have m_lsigns := PySem.W.mg_of X G A_lsigns.ns
  obtain ⟨f_lis_text, fd_lis_text, A_lis_text⟩ := d_lis_text
  have m_lis_text := PySem.W.mg_of X G A_lis_text.ns
  obtain ⟨f_is_integer, fd_is_integer, A_is_integer⟩ := d_is_integer
  have m_is_integer := PySem.W.mg_of X G A_is_integer.ns
  obtain ⟨f_is_integer_in, fd_is_integer_in, A_is_integer_in⟩ := d_is_integer_in
  have m_is_integer_in := PySem.W.mg_of X G A_is_integer_in.ns
  obtain ⟨f_stands_twice, fd_stands_twice, A_stands_twice⟩ := d_stands_twice
  have m_stands_twice := PySem.W.mg_of X G A_stands_twice.ns
  obtain ⟨f_stands_once, fd_stands_once, A_stands_once⟩ := d_stands_once
  have m_stands_once := PySem.W.mg_of X G A_stands_once.ns
  obtain ⟨f_cost_of, fd_cost_of, A_cost_of⟩ := d_cost_of
  have m_cost_of := PySem.W.mg_of X G A_cost_of.ns
  obtain ⟨f_text_behind, fd_text_behind, A_text_behind⟩ := d_text_behind
  have m_text_behind := PySem.W.mg_of X G A_text_behind.ns
  obtain ⟨f_ldraw, fd_ldraw, A_ldraw⟩ := d_ldraw
  have m_ldraw := PySem.W.mg_of X G A_ldraw.ns
  obtain ⟨f_lpen, fd_lpen, A_lpen⟩ := d_lpen
  have m_lpen := PySem.W.mg_of X G A_lpen.ns
  obtain ⟨f_lpick, fd_lpick, A_lpick⟩ := d_lpick
  have m_lpick := PySem.W.mg_of X G A_lpick.ns
  obtain ⟨f_lfew, fd_lfew, A_lfew⟩ := d_lfew
  have m_lfew := PySem.W.mg_of X G A_lfew.ns
  obtain ⟨f_lword, fd_lword, A_lword⟩ := d_lword
  have m_lword := PySem.W.mg_of X G A_lword.ns
  obtain ⟨f_lplaces, fd_lplaces, A_lplaces⟩ := d_lplaces
  have m_lplaces := PySem.W.mg_of X G A_lplaces.ns
  obtain ⟨f_lntext, fd_lntext, A_lntext⟩ := d_lntext
  have m_lntext := PySem.W.mg_of X G A_lntext.ns
  obtain ⟨f_lnonce, fd_lnonce, A_lnonce⟩ := d_lnonce
  have m_lnonce := PySem.W.mg_of X G A_lnonce.ns
  obtain ⟨f_lnput, fd_lnput, A_lnput⟩ := d_lnput
  have m_lnput := PySem.W.mg_of X G A_lnput.ns
  obtain ⟨f_is_exchange_part, fd_is_exchange_part, A_is_exchange_part⟩ := d_is_exchange_part
  have m_is_exchange_part := PySem.W.mg_of X G A_is_exchange_part.ns
  obtain ⟨f_first_wrong, fd_first_wrong, A_first_wrong⟩ := d_first_wrong
  have m_first_wrong := PySem.W.mg_of X G A_first_wrong.ns
  obtain ⟨f_is_exchange, fd_is_exchange, A_is_exchange⟩ := d_is_exchange
  have m_is_exchange := PySem.W.mg_of X G A_is_exchange.ns
  obtain ⟨f_lis_number, fd_lis_number, A_lis_number⟩ := d_lis_number
  have m_lis_number := PySem.W.mg_of X G A_lis_number.ns
  obtain ⟨f_lnfault, fd_lnfault, A_lnfault⟩ := d_lnfault
  have m_lnfault := PySem.W.mg_of X G A_lnfault.ns
  obtain ⟨f_lncost, fd_lncost, A_lncost⟩ := d_lncost
  have m_lncost := PySem.W.mg_of X G A_lncost.ns
  obtain ⟨f_least_ends, fd_least_ends, A_least_ends⟩ := d_least_ends
  have m_least_ends := PySem.W.mg_of X G A_least_ends.ns
  obtain ⟨f_openings, fd_openings, A_openings⟩ := d_openings
  have m_openings := PySem.W.mg_of X G A_openings.ns
  obtain ⟨f_price_tables, fd_price_tables, A_price_tables⟩ := d_price_tables
  have m_price_tables := PySem.W.mg_of X G A_price_tables.ns
  obtain ⟨f_window_back, fd_window_back, A_window_back⟩ := d_window_back
  have m_window_back := PySem.W.mg_of X G A_window_back.ns
  obtain ⟨f_has_exchange, fd_has_exchange, A_has_exchange⟩ := d_has_exchange
  have m_has_exchange := PySem.W.mg_of X G A_has_exchange.ns
  obtain ⟨f_lnpair, fd_lnpair, A_lnpair⟩ := d_lnpair
  have m_lnpair := PySem.W.mg_of X G A_lnpair.ns
  obtain ⟨f_cheapest, fd_cheapest, A_cheapest⟩ := d_cheapest
  have m_cheapest := PySem.W.mg_of X G A_cheapest.ns
  obtain ⟨f_lnbest, fd_lnbest, A_lnbest⟩ := d_lnbest
  have m_lnbest := PySem.W.mg_of X G A_lnbest.ns
  obtain ⟨f_law, fd_law, A_law⟩ := d_law
  have m_law := PySem.W.mg_of X G A_law.ns
  have e := hfa.symm.trans m_law
  cases e
  have T : Txt mg := ⟨PySem.W.mg_none_of X G z_str, PySem.W.mg_none_of X G z_tuple, PySem.W.mg_none_of X G z_enumerate, PySem.W.mg_none_of X G z_bool, PySem.W.mg_none_of X G z_sum, PySem.W.mg_none_of X G z_max, PySem.W.mg_none_of X G z_ValueError, PySem.W.mg_none_of X G z_len, PySem.W.mg_none_of X G z_list, PySem.W.mg_none_of X G z_int, PySem.W.mg_none_of X G z_abs, PySem.W.mg_none_of X G z_range, PySem.W.mg_none_of X G z_min, PySem.W.mg_none_of X G z_repr, PySem.W.mg_none_of X G z_reversed, PySem.W.mg_none_of X G z_isinstance⟩
  have bd_is_text : Binds K fd_is_text ["value"] [] := A_is_text.fn.binds (ps := ["value"]) fun _ _ _ _ _ _ us hl => match us, hl with | [_], _ => rfl
  have bd_lsigns : Binds K fd_lsigns [] [] := A_lsigns.fn.binds (ps := []) fun _ _ _ _ _ _ us hl => match us, hl with | [], _ => rfl
  have bd_lis_text : Binds K fd_lis_text ["_law_thing"] [] := A_lis_text.fn.binds (ps := ["_law_thing"]) fun _ _ _ _ _ _ us hl => match us, hl with | [_], _ => rfl
  have bd_is_integer : Binds K fd_is_integer ["value"] [] := A_is_integer.fn.binds (ps := ["value"]) fun _ _ _ _ _ _ us hl => match us, hl with | [_], _ => rfl
  have bd_is_integer_in : Binds K fd_is_integer_in ["value", "low", "high"] [] := A_is_integer_in.fn.binds (ps := ["value", "low", "high"]) fun _ _ _ _ _ _ us hl => match us, hl with | [_, _, _], _ => rfl
  have bd_stands_twice : Binds K fd_stands_twice ["text", "word"] [] := A_stands_twice.fn.binds (ps := ["text", "word"]) fun _ _ _ _ _ _ us hl => match us, hl with | [_, _], _ => rfl
  have bd_stands_once : Binds K fd_stands_once ["text", "word"] [] := A_stands_once.fn.binds (ps := ["text", "word"]) fun _ _ _ _ _ _ us hl => match us, hl with | [_, _], _ => rfl
  have bd_text_behind : Binds K fd_text_behind ["text", "puts"] [] := A_text_behind.fn.binds (ps := ["text", "puts"]) fun _ _ _ _ _ _ us hl => match us, hl with | [_, _], _ => rfl
  have bd_ldraw : Binds K fd_ldraw ["_law_pen_here", "_law_many"] [] := A_ldraw.fn.binds (ps := ["_law_pen_here", "_law_many"]) fun _ _ _ _ _ _ us hl => match us, hl with | [_, _], _ => rfl
  have bd_lpen : Binds K fd_lpen ["_law_script"] [] := A_lpen.fn.binds (ps := ["_law_script"]) fun _ _ _ _ _ _ us hl => match us, hl with | [_], _ => rfl
  have bd_lpick : Binds K fd_lpick ["_law_pen_here", "_law_options"] [] := A_lpick.fn.binds (ps := ["_law_pen_here", "_law_options"]) fun _ _ _ _ _ _ us hl => match us, hl with | [_, _], _ => rfl
  have bd_lfew : Binds K fd_lfew ["_law_pen_here"] [] := A_lfew.fn.binds (ps := ["_law_pen_here"]) fun _ _ _ _ _ _ us hl => match us, hl with | [_], _ => rfl
  have bd_lword : Binds K fd_lword ["_law_pen_here", "_law_signs_here", "_law_least", "_law_most_letters"] [] := A_lword.fn.binds (ps := ["_law_pen_here", "_law_signs_here", "_law_least", "_law_most_letters"]) fun _ _ _ _ _ _ us hl => match us, hl with | [_, _, _, _], _ => rfl
  have bd_lplaces : Binds K fd_lplaces ["_law_text_here", "_law_was"] [] := A_lplaces.fn.binds (ps := ["_law_text_here", "_law_was"]) fun _ _ _ _ _ _ us hl => match us, hl with | [_, _], _ => rfl
  have bd_lntext : Binds K fd_lntext ["_law_pen_here", "_law_signs_here", "_law_most_letters"] [] := A_lntext.fn.binds (ps := ["_law_pen_here", "_law_signs_here", "_law_most_letters"]) fun _ _ _ _ _ _ us hl => match us, hl with | [_, _, _], _ => rfl
  have bd_lnonce : Binds K fd_lnonce ["_law_text_here", "_law_a", "_law_b"] [] := A_lnonce.fn.binds (ps := ["_law_text_here", "_law_a", "_law_b"]) fun _ _ _ _ _ _ us hl => match us, hl with | [_, _, _], _ => rfl
  have bd_lnput : Binds K fd_lnput ["_law_text_here", "_law_rows"] [] := A_lnput.fn.binds (ps := ["_law_text_here", "_law_rows"]) fun _ _ _ _ _ _ us hl => match us, hl with | [_, _], _ => rfl
  have bd_is_exchange_part : Binds K fd_is_exchange_part ["value", "text", "least"] [] := A_is_exchange_part.fn.binds (ps := ["value", "text", "least"]) fun _ _ _ _ _ _ us hl => match us, hl with | [_, _, _], _ => rfl
  have bd_first_wrong : Binds K fd_first_wrong ["text", "exchange"] [] := A_first_wrong.fn.binds (ps := ["text", "exchange"]) fun _ _ _ _ _ _ us hl => match us, hl with | [_, _], _ => rfl
  have bd_is_exchange : Binds K fd_is_exchange ["text", "other", "value"] [] := A_is_exchange.fn.binds (ps := ["text", "other", "value"]) fun _ _ _ _ _ _ us hl => match us, hl with | [_, _, _], _ => rfl
  have bd_lis_number : Binds K fd_lis_number ["_law_thing", "_law_least", "_law_greatest"] [] := A_lis_number.fn.binds (ps := ["_law_thing", "_law_least", "_law_greatest"]) fun _ _ _ _ _ _ us hl => match us, hl with | [_, _, _], _ => rfl
  have bd_lnfault : Binds K fd_lnfault ["_law_text_here", "_law_thing"] [] := A_lnfault.fn.binds (ps := ["_law_text_here", "_law_thing"]) fun _ _ _ _ _ _ us hl => match us, hl with | [_, _], _ => rfl
  have bd_lncost : Binds K fd_lncost ["_law_rows", "_law_extra"] [] := A_lncost.fn.binds (ps := ["_law_rows", "_law_extra"]) fun _ _ _ _ _ _ us hl => match us, hl with | [_, _], _ => rfl
  have bd_least_ends : Binds K fd_least_ends ["text"] [] := A_least_ends.fn.binds (ps := ["text"]) fun _ _ _ _ _ _ us hl => match us, hl with | [_], _ => rfl
  have bd_openings : Binds K fd_openings ["text"] [] := A_openings.fn.binds (ps := ["text"]) fun _ _ _ _ _ _ us hl => match us, hl with | [_], _ => rfl
  have bd_price_tables : Binds K fd_price_tables ["one", "other", "each"] [] := A_price_tables.fn.binds (ps := ["one", "other", "each"]) fun _ _ _ _ _ _ us hl => match us, hl with | [_, _, _], _ => rfl
  have bd_window_back : Binds K fd_window_back ["begun", "begins", "kept", "i", "j", "each"] [] := A_window_back.fn.binds (ps := ["begun", "begins", "kept", "i", "j", "each"]) fun _ _ _ _ _ _ us hl => match us, hl with | [_, _, _, _, _, _], _ => rfl
  have bd_has_exchange : Binds K fd_has_exchange ["one", "other"] [] := A_has_exchange.fn.binds (ps := ["one", "other"]) fun _ _ _ _ _ _ us hl => match us, hl with | [_, _], _ => rfl
  have bd_lnpair : Binds K fd_lnpair ["_law_pen_here", "_law_signs_here", "_law_most_letters"] [] := A_lnpair.fn.binds (ps := ["_law_pen_here", "_law_signs_here", "_law_most_letters"]) fun _ _ _ _ _ _ us hl => match us, hl with | [_, _, _], _ => rfl
  have bd_lnbest : Binds K fd_lnbest ["_law_left", "_law_right", "_law_extra"] [] := A_lnbest.fn.binds (ps := ["_law_left", "_law_right", "_law_extra"]) fun _ _ _ _ _ _ us hl => match us, hl with | [_, _, _], _ => rfl
  refine ⟨fd_law, fun s v => A_law.fn.binds1 rfl s v, fun base _ _ => ?_⟩
  have t_signs : FnT l.prog w K mg base 1 "_law_signs" letS := okT A_lsigns.fn sc_lsigns m_lsigns bd_lsigns rfl
  have c_is_text : CalG l.prog w K mg base CX0 1 "is_text" (spTest isT) := ⟨f_is_text, fd_is_text, _, b_is_text A_is_text.fn T g_LETTERS, m_is_text, A_is_text.fn.kp, bd_is_text⟩
  have c_lsigns : CalG l.prog w K mg base CX0 1 "_law_signs" spSigns := ⟨f_lsigns, fd_lsigns, _, b_lsigns A_lsigns.fn T, m_lsigns, A_lsigns.fn.kp, bd_lsigns⟩
  have c_lis_text : CalG l.prog w K mg base CX0 2 "_law_is_text" (spSays isT) := ⟨f_lis_text, fd_lis_text, _, b_lis_text A_lis_text.fn T c_lsigns, m_lis_text, A_lis_text.fn.kp, bd_lis_text⟩
  have c_is_integer : CalG l.prog w K mg base CX0 1 "is_integer" spIsInt := ⟨f_is_integer, fd_is_integer, _, b_is_integer A_is_integer.fn T, m_is_integer, A_is_integer.fn.kp, bd_is_integer⟩
  have c_is_integer_in : CalG l.prog w K mg base CX0 2 "is_integer_in" spInI := ⟨f_is_integer_in, fd_is_integer_in, _, b_is_integer_in A_is_integer_in.fn T c_is_integer, m_is_integer_in, A_is_integer_in.fn.kp, bd_is_integer_in⟩
  have c_stands_twice : CalG l.prog w K mg base CX0 1 "stands_twice" spTwice := ⟨f_stands_twice, fd_stands_twice, _, b_stands_twice A_stands_twice.fn T, m_stands_twice, A_stands_twice.fn.kp, bd_stands_twice⟩
  have c_stands_once : CalG l.prog w K mg base CX0 2 "stands_once" spOnce := ⟨f_stands_once, fd_stands_once, _, b_stands_once A_stands_once.fn T c_stands_twice, m_stands_once, A_stands_once.fn.kp, bd_stands_once⟩
  have c_text_behind : CalG l.prog w K mg base CX0 1 "text_behind" spBehind := ⟨f_text_behind, fd_text_behind, _, b_text_behind A_text_behind.fn T, m_text_behind, A_text_behind.fn.kp, bd_text_behind⟩
  have c_ldraw : CalG l.prog w K mg base CX0 1 "_law_draw" spDraw := ⟨f_ldraw, fd_ldraw, _, b_ldraw A_ldraw.fn T, m_ldraw, A_ldraw.fn.kp, bd_ldraw⟩
  have c_lpen : CalG l.prog w K mg base CX0 1 "_law_pen" (spPen K) := ⟨f_lpen, fd_lpen, _, b_lpen A_lpen.fn T, m_lpen, A_lpen.fn.kp, bd_lpen⟩
  have c_lpick : CalG l.prog w K mg base CX0 2 "_law_pick" (spPick K) := ⟨f_lpick, fd_lpick, _, b_lpick A_lpick.fn T c_ldraw, m_lpick, A_lpick.fn.kp, bd_lpick⟩
  have c_lfew : CalG l.prog w K mg base CX0 3 "_law_few" spFew := ⟨f_lfew, fd_lfew, _, b_lfew A_lfew.fn T c_lpick t_signs, m_lfew, A_lfew.fn.kp, bd_lfew⟩
  have c_lword : CalG l.prog w K mg base CX0 3 "_law_word" spWord := ⟨f_lword, fd_lword, _, b_lword A_lword.fn T c_ldraw c_lpick, m_lword, A_lword.fn.kp, bd_lword⟩
  have c_lplaces : CalG l.prog w K mg base CX0 1 "_law_places" (spPlaces K) := ⟨f_lplaces, fd_lplaces, _, b_lplaces A_lplaces.fn T, m_lplaces, A_lplaces.fn.kp, bd_lplaces⟩
  have c_lntext : CalG l.prog w K mg base CX0 4 "_law_ntext" spNtext := ⟨f_lntext, fd_lntext, _, b_lntext A_lntext.fn T c_ldraw c_lpick c_lword, m_lntext, A_lntext.fn.kp, bd_lntext⟩
  have c_lnonce : CalG l.prog w K mg base CX0 2 "_law_nonce" spNonce := ⟨f_lnonce, fd_lnonce, _, b_lnonce A_lnonce.fn T c_lplaces, m_lnonce, A_lnonce.fn.kp, bd_lnonce⟩
  have c_lnput : CalG l.prog w K mg base CX0 1 "_law_nput" spPut := ⟨f_lnput, fd_lnput, _, b_lnput A_lnput.fn T, m_lnput, A_lnput.fn.kp, bd_lnput⟩
  have c_is_exchange_part : CalG l.prog w K mg base CX0 3 "is_exchange_part" spPartOk := ⟨f_is_exchange_part, fd_is_exchange_part, _, b_is_exchange_part A_is_exchange_part.fn T c_is_text c_is_integer_in c_stands_once, m_is_exchange_part, A_is_exchange_part.fn.kp, bd_is_exchange_part⟩
  have c_first_wrong : CalG l.prog w K mg base CX0 4 "first_wrong" spFirst := ⟨f_first_wrong, fd_first_wrong, _, b_first_wrong A_first_wrong.fn T c_is_exchange_part, m_first_wrong, A_first_wrong.fn.kp, bd_first_wrong⟩
  have c_is_exchange : CalG l.prog w K mg base CX0 5 "is_exchange" spIsEx := ⟨f_is_exchange, fd_is_exchange, _, b_is_exchange A_is_exchange.fn T c_first_wrong c_text_behind, m_is_exchange, A_is_exchange.fn.kp, bd_is_exchange⟩
  have c_lis_number : CalG l.prog w K mg base CX0 1 "_law_is_number" spNum := ⟨f_lis_number, fd_lis_number, _, b_lis_number A_lis_number.fn T, m_lis_number, A_lis_number.fn.kp, bd_lis_number⟩
  have c_lnfault : CalG l.prog w K mg base CX0 3 "_law_nfault" spFirst := ⟨f_lnfault, fd_lnfault, _, b_lnfault A_lnfault.fn T c_lis_number c_lis_text c_lnonce, m_lnfault, A_lnfault.fn.kp, bd_lnfault⟩
  have c_lncost : CalG l.prog w K mg base CX0 1 "_law_ncost" spNcost := ⟨f_lncost, fd_lncost, _, b_lncost A_lncost.fn T, m_lncost, A_lncost.fn.kp, bd_lncost⟩
  have c_least_ends : CalG l.prog w K mg base CX0 2 "least_ends" spEnds := ⟨f_least_ends, fd_least_ends, _, b_least_ends A_least_ends.fn T c_stands_twice, m_least_ends, A_least_ends.fn.kp, bd_least_ends⟩
  have c_openings : CalG l.prog w K mg base CX0 3 "openings" spOpen := ⟨f_openings, fd_openings, _, b_openings A_openings.fn T c_least_ends, m_openings, A_openings.fn.kp, bd_openings⟩
  have c_price_tables : CalG l.prog w K mg base CX0 4 "price_tables" spPrices := ⟨f_price_tables, fd_price_tables, _, b_price_tables A_price_tables.fn T c_openings, m_price_tables, A_price_tables.fn.kp, bd_price_tables⟩
  have c_window_back : CalG l.prog w K mg base CX0 1 "window_back" spWB := ⟨f_window_back, fd_window_back, _, b_window_back A_window_back.fn T, m_window_back, A_window_back.fn.kp, bd_window_back⟩
  have c_has_exchange : CalG l.prog w K mg base CX0 1 "has_exchange" spHas := ⟨f_has_exchange, fd_has_exchange, _, b_has_exchange A_has_exchange.fn T, m_has_exchange, A_has_exchange.fn.kp, bd_has_exchange⟩
  have c_lnpair : CalG l.prog w K mg base CX0 5 "_law_npair" spNpair := ⟨f_lnpair, fd_lnpair, _, b_lnpair A_lnpair.fn T c_ldraw c_lpick c_lword c_lntext, m_lnpair, A_lnpair.fn.kp, bd_lnpair⟩
  have c_lnbest : CalG l.prog w K mg base CX0 3 "_law_nbest" spNbest := ⟨f_lnbest, fd_lnbest, _, b_lnbest A_lnbest.fn T c_lnonce, m_lnbest, A_lnbest.fn.kp, bd_lnbest⟩
  have k_cheapest : CalK l.prog w K mg base CX0 5 "cheapest" spCheap ["each", "other", "one"] List.reverse := ⟨f_cheapest, fd_cheapest, ["one", "other", "each"], b_cheapest A_cheapest.fn T c_openings c_price_tables c_window_back c_has_exchange, m_cheapest, A_cheapest.fn.kp, A_cheapest.fn.kwb fun _ _ _ _ _ _ us hl => match us, hl with | [_, _, _], _ => rfl, fun _ _ r _ => vals_rev r⟩
  have bd0_cheapest : ∃ ds, Vals [V.int 0] ds ∧ Binds K fd_cheapest ["one", "other", "each"] ds := A_cheapest.fd.binds0 (ps := ["one", "other", "each"]) 2 (fun z => nomatch z) rfl fun D doc pm an cdv ct us ks h1 h2 => match us, ks, h1, h2 with
    | [u0, u1], [v], _, _ => ⟨_, _, _, _, _, _, rfl, rfl, rfl⟩
  obtain ⟨ds_cheapest, rd_cheapest, bd0_cheapest⟩ := bd0_cheapest
  have d_cheapest : CalD l.prog w K mg base CX0 5 "cheapest" spCheap [.int 0] := ⟨f_cheapest, fd_cheapest, _, ds_cheapest, b_cheapest A_cheapest.fn T c_openings c_price_tables c_window_back c_has_exchange, m_cheapest, A_cheapest.fn.kp, rd_cheapest, bd0_cheapest⟩
  have q_cost_of : CalM l.prog w K mg base CX0 1 "cost_of" spCost 1 ["each"] := ⟨f_cost_of, fd_cost_of, ["exchange", "each"], b_cost_of A_cost_of.fn T , m_cost_of, A_cost_of.fn.kp, A_cost_of.fn.kwm fun _ _ _ _ _ _ us ws h1 h2 => match us, ws, h1, h2 with | [_], [_], _, _ => rfl⟩
  exact b_law A_law.fn T c_lpen c_lfew c_ldraw c_lpick c_lnpair c_lnbest k_cheapest d_cheapest c_lnfault c_lnput c_lncost c_is_exchange q_cost_of
end Vk
set_option Elab.async false
set_option maxRecDepth 100000
set_option linter.all false
open PySem PySem.W PyProof.Rows
set_option maxRecDepth 100000 in
set_option maxHeartbeats 0 in
theorem PySem.Challenge.cw_anchoredits_k62_cheapest_exchanges_holds : PySem.Challenge.rw_anchoredits_k62_cheapest_exchanges.Holds := by
  w_on; o_law; k_headL; (case hw => w_witness2)
  k_fill
  refine Vk.walkX (l := PySem.Challenge.rw_anchoredits_k62_cheapest_exchanges) (n := 63) (k := 6) (x := "_law_script") (CX := L2.CX0) (sp := Vk.spLaw) rfl (by decide) rfl ⟨rfl, by decide, by decide⟩ (fun w h Y => PySem.W.kIn_of Y) ?F (fun K H a ns hl _ hS => ⟨a, ns, rfl, hS, hl, fun _ => rfl⟩) (fun _ _ _ _ z => z)
  case F =>
    intro w mg fa h KX Gr hmg
    obtain ⟨s0, mb, Gr⟩ := Gr
    refine' Vk.all KX Gr.T.g hmg ?d_is_text ?d_lsigns ?d_lis_text ?d_is_integer ?d_is_integer_in ?d_stands_twice ?d_stands_once ?d_cost_of ?d_text_behind ?d_ldraw ?d_lpen ?d_lpick ?d_lfew ?d_lword ?d_lplaces ?d_lntext ?d_lnonce ?d_lnput ?d_is_exchange_part ?d_first_wrong ?d_is_exchange ?d_lis_number ?d_lnfault ?d_lncost ?d_least_ends ?d_openings ?d_price_tables ?d_window_back ?d_has_exchange ?d_lnpair ?d_cheapest ?d_lnbest ?d_law ?z_str ?z_tuple ?z_enumerate ?z_bool ?z_sum ?z_max ?z_ValueError ?z_len ?z_list ?z_int ?z_abs ?z_range ?z_min ?z_repr ?z_reversed ?z_isinstance ?g_LETTERS
    (case d_is_text => as_aux_lemma => (refine' ⟨_, _, Vk.at_mk ?a ?l ?c ?k⟩; (case a => k_is); (case l => k_is); (case c => k_is); (case k => k_is)))
    (case d_lsigns => as_aux_lemma => (refine' ⟨_, _, Vk.at_mk ?a ?l ?c ?k⟩; (case a => k_is); (case l => k_is); (case c => k_is); (case k => k_is)))
    (case d_lis_text => as_aux_lemma => (refine' ⟨_, _, Vk.at_mk ?a ?l ?c ?k⟩; (case a => k_is); (case l => k_is); (case c => k_is); (case k => k_is)))
    (case d_is_integer => as_aux_lemma => (refine' ⟨_, _, Vk.at_mk ?a ?l ?c ?k⟩; (case a => k_is); (case l => k_is); (case c => k_is); (case k => k_is)))
    (case d_is_integer_in => as_aux_lemma => (refine' ⟨_, _, Vk.at_mk ?a ?l ?c ?k⟩; (case a => k_is); (case l => k_is); (case c => k_is); (case k => k_is)))
    (case d_stands_twice => as_aux_lemma => (refine' ⟨_, _, Vk.at_mk ?a ?l ?c ?k⟩; (case a => k_is); (case l => k_is); (case c => k_is); (case k => k_is)))
    (case d_stands_once => as_aux_lemma => (refine' ⟨_, _, Vk.at_mk ?a ?l ?c ?k⟩; (case a => k_is); (case l => k_is); (case c => k_is); (case k => k_is)))
    (case d_cost_of => as_aux_lemma => (refine' ⟨_, _, Vk.at_mk ?a ?l ?c ?k⟩; (case a => k_is); (case l => k_is); (case c => k_is); (case k => k_is)))
    (case d_text_behind => as_aux_lemma => (refine' ⟨_, _, Vk.at_mk ?a ?l ?c ?k⟩; (case a => k_is); (case l => k_is); (case c => k_is); (case k => k_is)))
    (case d_ldraw => as_aux_lemma => (refine' ⟨_, _, Vk.at_mk ?a ?l ?c ?k⟩; (case a => k_is); (case l => k_is); (case c => k_is); (case k => k_is)))
    (case d_lpen => as_aux_lemma => (refine' ⟨_, _, Vk.at_mk ?a ?l ?c ?k⟩; (case a => k_is); (case l => k_is); (case c => k_is); (case k => k_is)))
    (case d_lpick => as_aux_lemma => (refine' ⟨_, _, Vk.at_mk ?a ?l ?c ?k⟩; (case a => k_is); (case l => k_is); (case c => k_is); (case k => k_is)))
    (case d_lfew => as_aux_lemma => (refine' ⟨_, _, Vk.at_mk ?a ?l ?c ?k⟩; (case a => k_is); (case l => k_is); (case c => k_is); (case k => k_is)))
    (case d_lword => as_aux_lemma => (refine' ⟨_, _, Vk.at_mk ?a ?l ?c ?k⟩; (case a => k_is); (case l => k_is); (case c => k_is); (case k => k_is)))
    (case d_lplaces => as_aux_lemma => (refine' ⟨_, _, Vk.at_mk ?a ?l ?c ?k⟩; (case a => k_is); (case l => k_is); (case c => k_is); (case k => k_is)))
    (case d_lntext => as_aux_lemma => (refine' ⟨_, _, Vk.at_mk ?a ?l ?c ?k⟩; (case a => k_is); (case l => k_is); (case c => k_is); (case k => k_is)))
    (case d_lnonce => as_aux_lemma => (refine' ⟨_, _, Vk.at_mk ?a ?l ?c ?k⟩; (case a => k_is); (case l => k_is); (case c => k_is); (case k => k_is)))
    (case d_lnput => as_aux_lemma => (refine' ⟨_, _, Vk.at_mk ?a ?l ?c ?k⟩; (case a => k_is); (case l => k_is); (case c => k_is); (case k => k_is)))
    (case d_is_exchange_part => as_aux_lemma => (refine' ⟨_, _, Vk.at_mk ?a ?l ?c ?k⟩; (case a => k_is); (case l => k_is); (case c => k_is); (case k => k_is)))
    (case d_first_wrong => as_aux_lemma => (refine' ⟨_, _, Vk.at_mk ?a ?l ?c ?k⟩; (case a => k_is); (case l => k_is); (case c => k_is); (case k => k_is)))
    (case d_is_exchange => as_aux_lemma => (refine' ⟨_, _, Vk.at_mk ?a ?l ?c ?k⟩; (case a => k_is); (case l => k_is); (case c => k_is); (case k => k_is)))
    (case d_lis_number => as_aux_lemma => (refine' ⟨_, _, Vk.at_mk ?a ?l ?c ?k⟩; (case a => k_is); (case l => k_is); (case c => k_is); (case k => k_is)))
    (case d_lnfault => as_aux_lemma => (refine' ⟨_, _, Vk.at_mk ?a ?l ?c ?k⟩; (case a => k_is); (case l => k_is); (case c => k_is); (case k => k_is)))
    (case d_lncost => as_aux_lemma => (refine' ⟨_, _, Vk.at_mk ?a ?l ?c ?k⟩; (case a => k_is); (case l => k_is); (case c => k_is); (case k => k_is)))
    (case d_least_ends => as_aux_lemma => (refine' ⟨_, _, Vk.at_mk ?a ?l ?c ?k⟩; (case a => k_is); (case l => k_is); (case c => k_is); (case k => k_is)))
    (case d_openings => as_aux_lemma => (refine' ⟨_, _, Vk.at_mk ?a ?l ?c ?k⟩; (case a => k_is); (case l => k_is); (case c => k_is); (case k => k_is)))
    (case d_price_tables => as_aux_lemma => (refine' ⟨_, _, Vk.at_mk ?a ?l ?c ?k⟩; (case a => k_is); (case l => k_is); (case c => k_is); (case k => k_is)))
    (case d_window_back => as_aux_lemma => (refine' ⟨_, _, Vk.at_mk ?a ?l ?c ?k⟩; (case a => k_is); (case l => k_is); (case c => k_is); (case k => k_is)))
    (case d_has_exchange => as_aux_lemma => (refine' ⟨_, _, Vk.at_mk ?a ?l ?c ?k⟩; (case a => k_is); (case l => k_is); (case c => k_is); (case k => k_is)))
    (case d_lnpair => as_aux_lemma => (refine' ⟨_, _, Vk.at_mk ?a ?l ?c ?k⟩; (case a => k_is); (case l => k_is); (case c => k_is); (case k => k_is)))
    (case d_cheapest => as_aux_lemma => (refine' ⟨_, _, Vk.atd_mk ?a ?l ?c ?k ?e⟩; (case a => k_is); (case l => k_is); (case c => k_is); (case k => k_is); (case e => k_is)))
    (case d_lnbest => as_aux_lemma => (refine' ⟨_, _, Vk.at_mk ?a ?l ?c ?k⟩; (case a => k_is); (case l => k_is); (case c => k_is); (case k => k_is)))
    (case d_law => as_aux_lemma => (refine' ⟨_, _, Vk.at_mk ?a ?l ?c ?k⟩; (case a => k_is); (case l => k_is); (case c => k_is); (case k => k_is)))
    (case z_str => as_aux_lemma => k_is)
    (case z_tuple => as_aux_lemma => k_is)
    (case z_enumerate => as_aux_lemma => k_is)
    (case z_bool => as_aux_lemma => k_is)
    (case z_sum => as_aux_lemma => k_is)
    (case z_max => as_aux_lemma => k_is)
    (case z_ValueError => as_aux_lemma => k_is)
    (case z_len => as_aux_lemma => k_is)
    (case z_list => as_aux_lemma => k_is)
    (case z_int => as_aux_lemma => k_is)
    (case z_abs => as_aux_lemma => k_is)
    (case z_range => as_aux_lemma => k_is)
    (case z_min => as_aux_lemma => k_is)
    (case z_repr => as_aux_lemma => k_is)
    (case z_reversed => as_aux_lemma => k_is)
    (case z_isinstance => as_aux_lemma => k_is)
    (case g_LETTERS => as_aux_lemma => exact Vk.const_s Gr.T (by first | kernel_rfl | decide +kernel))
#print axioms PySem.Challenge.cw_anchoredits_k62_cheapest_exchanges_holds
